import PyProof.Rows.All
import Wide.All
import OpenK.AllK
import Wide.FinOn
import Lean
import PyProof.EqAt
import PyProof.EqKinds
import PyProof.TupleCall
import PySem.Challenge.RW_waymark_k62_led_by_a_table
set_option Elab.async false
set_option linter.all false
set_option maxRecDepth 100000
namespace L2
open PySem PySem.Spec PyProof.Rows
abbrev Key := Sum Int Str
def keyIs : Key → Value → Bool
 | .inl k, v => Value.isInt k v
 | .inr x, v => Value.isStrOf x v
def keyH (w : World) : Key → Int
 | .inl k => hashInt k
 | .inr x => hashStr w x
theorem aqZ : ∀ {k : Key} {v : Value}, keyIs k v = true → (∃ i t, k = Sum.inl i ∧ v = Value.int i t) ∨ (∃ x t, k = Sum.inr x ∧ v = Value.str x t)
 | .inl i, v, h => by
  obtain ⟨t, e⟩ := Value.isInt_shape (k := i) (v := v) h
  exact .inl ⟨i, t, rfl, e⟩
 | .inr x, v, h => by
  obtain ⟨t, e⟩ := Value.isStrOf_shape (x := x) (v := v) h
  exact .inr ⟨x, t, rfl, e⟩
theorem lqO (i : Int) (t : Tok) : keyIs (.inl i) (.int i t) = true := by simp [keyIs, Value.isInt]
theorem kqN (x : Str) (t : Tok) : keyIs (.inr x) (.str x t) = true := by simp [keyIs, Value.isStrOf]
theorem pq0 (a b : Int) : decide ((Sum.inl a : Key) = Sum.inl b) = (a == b) := by
 by_cases e : a = b
 ·subst e; simp
 ·have h : ¬ (Sum.inl a : Key) = Sum.inl b := fun q => e (Sum.inl.inj q)
  rw [decide_eq_false h]
  exact (beq_eq_false_iff_ne.mpr e).symm
theorem qqm (a b : Str) : decide ((Sum.inr a : Key) = Sum.inr b) = decide (a = b) := by
 by_cases e : a = b
 ·subst e; simp
 ·have h : ¬ (Sum.inr a : Key) = Sum.inr b := fun q => e (Sum.inr.inj q)
  rw [decide_eq_false h, decide_eq_false e]
theorem qqA (a : Int) (b : Str) : decide ((Sum.inl a : Key) = Sum.inr b) = false := decide_eq_false (fun q => nomatch q)
theorem pqA (a : Str) (b : Int) : decide ((Sum.inr a : Key) = Sum.inl b) = false := decide_eq_false (fun q => nomatch q)
def mixKind (prog : Program) (w : World) : PySem.KeyKind prog w Key where
 is := keyIs
 hash := keyH w
 inj := fun v a b ha hb => by
  rcases aqZ ha with ⟨i, t, rfl, rfl⟩ | ⟨x, t, rfl, rfl⟩
  ·rcases aqZ hb with ⟨j, u, rfl, e⟩ | ⟨y, u, rfl, e⟩
   ·injection e with e1 _; rw [e1]
   ·exact nomatch e
  ·rcases aqZ hb with ⟨j, u, rfl, e⟩ | ⟨y, u, rfl, e⟩
   ·exact nomatch e
   ·injection e with e1 _; rw [e1]
 byValue := fun k v h => by
  rcases aqZ h with ⟨i, t, rfl, rfl⟩ | ⟨x, t, rfl, rfl⟩ <;> rfl
 pyHash := fun hv h => by
  rcases aqZ hv with ⟨i, t, rfl, rfl⟩ | ⟨x, t, rfl, rfl⟩
  ·exact wpAny_pyHash_int h
  ·exact wpAny_pyHash_str h
 eqBool := fun hu hv h => by
  rcases aqZ hu with ⟨i, t, rfl, rfl⟩ | ⟨x, t, rfl, rfl⟩
  ·rcases aqZ hv with ⟨j, u, rfl, rfl⟩ | ⟨y, u, rfl, rfl⟩
   ·rw [pq0] at h; exact wpAny_eqBool_int h
   ·rw [qqA] at h; exact SeqAt.EqAt.int_str i t y u _ _ _ _ h
  ·rcases aqZ hv with ⟨j, u, rfl, rfl⟩ | ⟨y, u, rfl, rfl⟩
   ·rw [pqA] at h; exact SeqAt.EqAt.str_int x t j u _ _ _ _ h
   ·rw [qqm] at h; exact wpAny_eqBool_str h
 «strs» := fun k x t v h => by
  rcases aqZ h with ⟨i, u, rfl, e⟩ | ⟨y, u, rfl, e⟩
  ·exact nomatch e
  ·injection e with e1 _
   subst e1
   cases v <;> rfl
theorem iq2 (prog : Program) (w : World) (i : Int) (t : Tok) : (mixKind prog w).is (.inl i) (.int i t) = true := lqO i t
theorem iq7 (prog : Program) (w : World) (x : Str) (t : Tok) : (mixKind prog w).is (.inr x) (.str x t) = true := kqN x t
inductive V where
 | non | bl (b : Bool) | int (i : Int) | str (x : Str) | byt (b : Array UInt8) | flt (b : UInt64) | ref (a : Addr) | ty (n : String)
 deriving DecidableEq
def RelV : V → Value → Prop
 | .non, u => u = Value.none
 | .bl b, u => u = Value.bool b
 | .int i, u => ∃ t, u = Value.int i t
 | .str x, u => ∃ t, u = Value.str x t
 | .byt b, u => ∃ t, u = Value.bytes b t
 | .flt b, u => ∃ t, u = Value.float b t
 | .ref a, u => u = Value.ref a
 | .ty n, u => u = Value.type n
abbrev Vals : List V → List Value → Prop := Paired RelV
theorem Vals.length {xs : List V} {us : List Value} (r : Vals xs us) : xs.length = us.length := Paired.length r
theorem Vals.get : ∀ {xs : List V} {us : List Value} {i : Nat} {x : V}, Vals xs us → xs[i]? = some x → ∃ u, us[i]? = some u ∧ RelV x u
 | _, _, _, _, .nil, e => by simp at e
 | _, _, 0, _, .cons r _, e => by simp at e; subst e; exact ⟨_, rfl, r⟩
 | _, _, i + 1, x, .cons _ t, e => by
  obtain ⟨u, h1, h2⟩ := Vals.get (i := i) (x := x) t (by simpa using e)
  exact ⟨u, by simpa using h1, h2⟩
theorem Vals.set {x : V} {u : Value} (r : RelV x u) : ∀ {xs : List V} {us : List Value} (i : Nat), Vals xs us → Vals (xs.set i x) (us.set i u)
 | _, _, _, .nil => .nil
 | _, _, 0, .cons _ t => .cons r t
 | _, _, i + 1, .cons q t => .cons q (Vals.set r i t)
theorem Vals.append : ∀ {xs ys : List V} {us ws : List Value}, Vals xs us → Vals ys ws → Vals (xs ++ ys) (us ++ ws)
 | _, _, _, _, .nil, s => s
 | _, _, _, _, .cons r t, s => .cons r (Vals.append t s)
theorem Vals.take : ∀ {xs : List V} {us : List Value} (n : Nat), Vals xs us → Vals (xs.take n) (us.take n)
 | _, _, 0, _ => .nil
 | _, _, _ + 1, .nil => .nil
 | _, _, n + 1, .cons r t => .cons r (Vals.take n t)
theorem Vals.drop : ∀ {xs : List V} {us : List Value} (n : Nat), Vals xs us → Vals (xs.drop n) (us.drop n)
 | _, _, 0, r => r
 | _, _, _ + 1, .nil => .nil
 | _, _, n + 1, .cons _ t => Vals.drop n t
def RelO : Option V → Option Value → Prop
 | some v, some u => RelV v u
 | none, none => True
 | _, _ => False
def KV {κ : Type} : List (κ × V) → List (κ × Value) → Prop := Paired fun (p : κ × V) (q : κ × Value) => p.1 = q.1 ∧ RelV p.2 q.2
def kV : Key → V
 | .inl i => .int i
 | .inr x => .str x
inductive HO where
 | lst (xs : List V)
 | tup (xs : List V)
 | dK (kvs : List (Key × V)) | dT (kvs : List (List Key × V))
 | set (S : Int → Bool) (n : Nat)
 | ins (C dx : Addr) (fs : List (Str × V))
 | own (x : Addr)
 | xd (fs : List (Str × V))
 | met (f x : Addr)
 | rng (lo hi : Int)
 | frz (o : Obj) (u : HO)
 | tbl (ps : Array Value)
 | ext (φ : Heap → Prop)
abbrev Hp := Addr → Option HO
def upd (H : Hp) (a : Addr) (o : HO) : Hp := fun b => if b = a then some o else H b
theorem aqq {H : Hp} {a : Addr} {o : HO} : upd H a o a = some o := by unfold upd; rw [if_pos rfl]
theorem aqx {H : Hp} {a b : Addr} {o : HO} (h : b ≠ a) : upd H a o b = H b := by unfold upd; rw [if_neg h]
theorem mq7 {H : Hp} {a b : Addr} {o u : HO} (h : H a = some o) (h' : H b = some u) (d : o ≠ u) : a ≠ b := by
 intro e; subst e; rw [h] at h'; exact d (Option.some.inj h')
theorem aqw {H : Hp} {a b : Addr} {o : HO} (h : H a = some o) (h' : H b = none) : a ≠ b := by
 intro e; subst e; rw [h] at h'; cases h'
section
variable (P : Program) (w : World)
def ObjOk (H : Hp) (h : Heap) (a : Addr) : HO → Prop
 | .lst xs => xs.length ≤ sizeLine ∧ ∃ (its : List Value) (n : Nat), Vals xs its ∧ h.get? a = some { cls := .type "list", data := .seq its.toArray n }
 | .tup xs => xs.length ≤ sizeLine ∧ ∃ its : List Value, Vals xs its ∧ IsTup h a its.toArray
 | .dK kvs => kvs.length ≤ sizeLine ∧ (a == sysModules) = false ∧ ∃ vs, KV kvs vs ∧ h.DictOf (mixKind P w) a vs
 | .dT kvs => kvs.length ≤ sizeLine ∧ (a == sysModules) = false ∧ ∃ xs : List (List Key × Addr × Value),
   Paired (fun (p : List Key × V) (q : List Key × Addr × Value) => p.1 = q.1 ∧ H q.2.1 = some (.tup (p.1.map kV)) ∧ RelV p.2 q.2.2) kvs xs ∧
   ∃ o es ep, h.get? a = some o ∧ o.ExactDict ∧ o.data = .dict es ep ∧ es.toList = xs.map (entryOfKey (tupleKind (mixKind P w))) ∧ (xs.map (·.1)).Nodup
 | .set S n => h.SetOf (intKind P w) a S n
 | .ins C dx fs => H dx = some (.own a) ∧ fs.length ≤ 1000 ∧ dx ≠ a ∧ h.get? a = some (PySem.W.instObj C dx) ∧
   ∃ mA, h.Ns1 dx mA ∧ (∀ f, RelO (fs.lookup f) (mA f)) ∧ PySem.Within mA (fs.map (·.1))
 | .own _ => ∃ o, h.get? a = some o
 | .xd fs => ∃ mA, h.Ns1 a mA ∧ ∀ f, RelO (fs.lookup f) (mA f)
 | .rng lo hi => ∃ t u v, h.get? a = some { cls := .type "range", data := .fields #[.int lo t, .int hi u, .int 1 v] }
 | .frz o u => h.get? a = some o ∧ ObjOk H h a u
 | .tbl ps => h.get? a = some { cls := .none, data := .fields ps }
 | .met f x => h.get? a = some (PySem.W.methodObj (.ref f) (.ref x))
 | .ext φ => φ h ∧ (∃ o, h.get? a = some o) ∧ ∀ h1 h2 : Heap, φ h1 → (∀ o, h1.get? a = some o → h2.get? a = some o) → φ h2
def HOk (H : Hp) (h : Heap) : Prop := ∀ a o, H a = some o → ObjOk P w H h a o
end
section
variable {P : Program} {w : World} {H H' : Hp} {h h' : Heap} {a : Addr} {o : HO}
theorem ObjOk.lt (x : ObjOk P w H h a o) : a < h.objs.size := by
 cases o with
 | lst xs => obtain ⟨_, _, _, _, e⟩ := x; exact Heap.lt_size e
 | tup xs => obtain ⟨_, _, _, p⟩ := x; exact p.lt
 | dK kvs => obtain ⟨_, _, _, _, o, _, _, e, _⟩ := x; exact Heap.lt_size e
 | dT kvs => obtain ⟨_, _, _, _, o, _, _, e, _⟩ := x; exact Heap.lt_size e
 | set S n => obtain ⟨o, _, _, _, e, _⟩ := x; exact Heap.lt_size e
 | ins C dx fs => obtain ⟨_, _, _, e, _⟩ := x; exact Heap.lt_size e
 | own y => obtain ⟨_, e⟩ := x; exact Heap.lt_size e
 | xd fs => obtain ⟨_, ⟨_, _, _, e, _⟩, _⟩ := x; exact Heap.lt_size e
 | rng lo hi => obtain ⟨_, _, _, e⟩ := x; exact Heap.lt_size e
 | frz ob u => obtain ⟨e, _⟩ := x; exact Heap.lt_size e
 | tbl ps => exact Heap.lt_size (show h.get? a = some _ from x)
 | met f y => exact Heap.lt_size (show h.get? a = some _ from x)
 | ext φ => obtain ⟨_, ⟨_, e⟩, _⟩ := x; exact Heap.lt_size e
theorem Paired.mapP {α β : Type} {F G : α → β → Prop} : ∀ {l₁ : List α} {l₂ : List β}, Paired F l₁ l₂ → (∀ a b, F a b → G a b) → Paired G l₁ l₂
 | _, _, .nil, _ => .nil
 | _, _, .cons r t, f => .cons (f _ _ r) (Paired.mapP t f)
theorem ObjOk.stay (x : ObjOk P w H h a o) (k : ∀ b u, (b = a ∨ H b = some (.own a)) → h.get? b = some u → h'.get? b = some u)
  (ho : ∀ b, H b = some (.own a) → H' b = some (.own a)) (ht : ∀ b xs, H b = some (.tup xs) → H' b = some (.tup xs)) : ObjOk P w H' h' a o := by
 induction o with
 | lst xs => obtain ⟨z, its, n, r, e⟩ := x; exact ⟨z, its, n, r, k _ _ (.inl rfl) e⟩
 | tup xs => obtain ⟨z, its, r, ob, e, c⟩ := x; exact ⟨z, its, r, ob, k _ _ (.inl rfl) e, c⟩
 | dK kvs => obtain ⟨z, y, vs, r, ob, es, ep, e, c⟩ := x; exact ⟨z, y, vs, r, ob, es, ep, k _ _ (.inl rfl) e, c⟩
 | dT kvs =>
  obtain ⟨z, y, xs, r, ob, es, ep, e, c⟩ := x
  exact ⟨z, y, xs, Paired.mapP r fun p q z => ⟨z.1, ht _ _ z.2.1, z.2.2⟩, ob, es, ep, k _ _ (.inl rfl) e, c⟩
 | set S n => obtain ⟨ob, es, ep, t, e, c⟩ := x; exact ⟨ob, es, ep, t, k _ _ (.inl rfl) e, c⟩
 | ins C dx fs =>
  obtain ⟨d, z, ne, e, mA, ⟨od, es, ep, e2, c⟩, r⟩ := x
  exact ⟨ho _ d, z, ne, k _ _ (.inl rfl) e, mA, ⟨od, es, ep, k _ _ (.inr d) e2, c⟩, r⟩
 | own y => obtain ⟨ob, e⟩ := x; exact ⟨ob, k _ _ (.inl rfl) e⟩
 | xd fs => obtain ⟨mA, ⟨od, es, ep, e, c⟩, r⟩ := x; exact ⟨mA, ⟨od, es, ep, k _ _ (.inl rfl) e, c⟩, r⟩
 | rng lo hi => obtain ⟨t, u, v, e⟩ := x; exact ⟨t, u, v, k _ _ (.inl rfl) e⟩
 | frz ob u ih => obtain ⟨e, q⟩ := x; exact ⟨k _ _ (.inl rfl) e, ih q⟩
 | tbl ps =>
  have e : h.get? a = some { cls := .none, data := .fields ps } := x
  show h'.get? a = some { cls := .none, data := .fields ps }
  exact k a _ (.inl rfl) e
 | met f y =>
  have e : h.get? a = some (PySem.W.methodObj (.ref f) (.ref y)) := x
  show h'.get? a = some (PySem.W.methodObj (.ref f) (.ref y))
  exact k a _ (.inl rfl) e
 | ext φ => obtain ⟨p, ⟨o, e⟩, st⟩ := x; exact ⟨st _ _ p fun o q => k _ _ (.inl rfl) q, ⟨o, k _ _ (.inl rfl) e⟩, st⟩
theorem HOk.lt (x : HOk P w H h) (e : H a = some o) : a < h.objs.size := (x a o e).lt
theorem HOk.fresh (x : HOk P w H h) (e : h.objs.size ≤ a) : H a = none := by
 cases q : H a with
 | none => rfl
 | some u => exact absurd (Nat.lt_of_lt_of_le (x.lt q) e) (Nat.lt_irrefl _)
theorem HOk.kept (x : HOk P w H h) (k : ∀ b u, h.get? b = some u → h'.get? b = some u) : HOk P w H h' := fun a o e =>
 (x a o e).stay (fun b u _ q => k b u q) (fun _ q => q) fun _ _ q => q
theorem HOk.laid (x : HOk P w H h) (k : ∀ b u, h.get? b = some u → h'.get? b = some u) (hp : h.objs.size ≤ a) (new : ObjOk P w (upd H a o) h' a o) : HOk P w (upd H a o) h' := fun b u e => by
 have hn := x.fresh hp
 by_cases hb : b = a
 ·subst hb; rw [aqq] at e; cases e; exact new
 ·rw [aqx hb] at e
  exact (x b u e).stay (fun c v _ q => k c v q) (fun c q => by rw [aqx (aqw q hn)]; exact q) fun c xs q => by rw [aqx (aqw q hn)]; exact q
end
def Rd (H : Hp) (a : Addr) (u : HO) : Prop := H a = some u ∨ ∃ o, H a = some (.frz o u)
theorem Rd.ok {P : Program} {w : World} {H : Hp} {h : Heap} {a : Addr} {u : HO} (r : Rd H a u) (x : HOk P w H h) : ObjOk P w H h a u := by
 rcases r with r | ⟨o, r⟩
 ·exact x a u r
 ·obtain ⟨_, q⟩ := x a _ r
  exact q
def Mut : Option HO → Prop
 | some (.lst _) => True
 | some (.dK _) => True
 | some (.dT _) => True
 | some (.set _ _) => True
 | some (.ins _ _ _) => True
 | some (.ext _) => True
 | _ => False
section
variable {P : Program} {w : World} {H : Hp} {h h' : Heap} {x e : Addr} {o' : HO}
theorem HOk.write (ok : HOk P w H h) (mu : Mut (H x)) (he : e = x ∨ H e = some (.own x)) (k : ∀ b u, b ≠ e → h.get? b = some u → h'.get? b = some u) (heo : ∃ u, h'.get? e = some u)
  (new : ObjOk P w (upd H x o') h' x o') : HOk P w (upd H x o') h' := fun b u q => by
 have nown : ∀ c y, H c = some (.own y) → c ≠ x := fun c y r z => by subst z; rw [r] at mu; exact mu
 have ntup : ∀ c xs, H c = some (.tup xs) → c ≠ x := fun c xs r z => by subst z; rw [r] at mu; exact mu
 by_cases hb : b = x
 ·subst hb; rw [aqq] at q; cases q; exact new
 ·rw [aqx hb] at q
  by_cases hbe : b = e
  ·have q' : H b = some (.own x) := by
    rcases he with z | z
    ·exact absurd (hbe.trans z) hb
    ·rw [hbe]; exact z
   rw [q] at q'; cases q'
   obtain ⟨v, hv⟩ := heo
   exact ⟨v, by rw [hbe]; exact hv⟩
  ·refine (ok b u q).stay (fun c v hc r => k c v ?_ r) (fun c r => by rw [aqx (nown c b r)]; exact r) fun c xs r => by rw [aqx (ntup c xs r)]; exact r
   rcases hc with rfl | hc
   ·exact hbe
   ·rintro rfl
    rcases he with z | z
    ·exact nown c b hc z
    ·rw [hc] at z; cases z; exact hb rfl
end
structure Un (fs ex : List Addr) (H H' : Hp) (h h' : Heap) : Prop where
 keep : ∀ b o, h.get? b = some o → H b = none → b ∉ fs → b ∉ ex → h'.get? b = some o
 slot : ∀ b o, h.get? b = some o → H b = none → b ∈ fs → b ∉ ex → ∃ sl, h'.get? b = some { o with slots := sl }
 free : ∀ b o, h.get? b = some o → H b = none → b ∉ ex → H' b = none
 there : ∀ b o, h.get? b = some o → b ∉ ex → ∃ o', h'.get? b = some o'
 tups : ∀ b xs, H b = some (.tup xs) → H' b = some (.tup xs)
 frzs : ∀ b o u, H b = some (.frz o u) → H' b = some (.frz o u)
 tbls : ∀ b ps, H b = some (.tbl ps) → ∃ more, H' b = some (.tbl (ps ++ more))
section
variable {fs fs' ex ex' : List Addr} {H H1 H2 : Hp} {h h1 h2 h' : Heap} {a x e : Addr} {o : HO}
theorem Un.any (u : Un fs ex H H1 h h1) {b : Addr} {ob : Obj} (q : h.get? b = some ob) (n : H b = none) (hx : b ∉ ex) : ∃ sl, h1.get? b = some { ob with slots := sl } := by
 by_cases hb : b ∈ fs
 ·exact u.slot b ob q n hb hx
 ·exact ⟨ob.slots, u.keep b ob q n hb hx⟩
theorem Un.kept (k : ∀ b u, h.get? b = some u → h'.get? b = some u) : Un fs ex H H h h' :=
 ⟨fun b ob q _ _ _ => k b ob q, fun b ob q _ _ _ => ⟨ob.slots, k b ob q⟩, fun _ _ _ n _ => n, fun b ob q _ => ⟨ob, k b ob q⟩, fun _ _ q => q, fun _ _ _ q => q, fun _ ps q => ⟨#[], by rw [q]; simp⟩⟩
theorem Un.refl : Un fs ex H H h h := Un.kept fun _ _ q => q
theorem Un.laid (k : ∀ b u, h.get? b = some u → h'.get? b = some u) (hp : h.objs.size ≤ a) (hn : H a = none) : Un fs ex H (upd H a o) h h' where
 keep := fun b u q _ _ _ => k b u q
 slot := fun b u q _ _ _ => ⟨u.slots, k b u q⟩
 free := fun b u q n _ => by rw [aqx (Nat.ne_of_lt (Nat.lt_of_lt_of_le (Heap.lt_size q) hp))]; exact n
 there := fun b u q _ => ⟨u, k b u q⟩
 tups := fun b xs q => by rw [aqx (aqw q hn)]; exact q
 frzs := fun b u xs q => by rw [aqx (aqw q hn)]; exact q
 tbls := fun b ps q => ⟨#[], by rw [aqx (aqw q hn), q]; simp⟩
theorem Un.write (mu : Mut (H x)) (he : e = x ∨ H e = some (.own x)) (k : ∀ b u, b ≠ e → h.get? b = some u → h'.get? b = some u) (heo : ∃ u, h'.get? e = some u) : Un fs ex H (upd H x o) h h' := by
 have hx : ∀ b, H b = none → b ≠ x := fun b n z => by subst z; rw [n] at mu; exact mu
 have hb : ∀ b, H b = none → b ≠ e := fun b n z => by
  subst z
  rcases he with r | r
  ·exact hx b n r
  ·rw [n] at r; cases r
 have hm : ∀ b u, H b = some u → ¬ Mut (some u) → b ≠ x := fun b u q nm z => by subst z; rw [q] at mu; exact nm mu
 refine ⟨fun b u q n _ _ => k b u (hb b n) q, fun b u q n _ _ => ⟨u.slots, k b u (hb b n) q⟩, fun b u q n _ => by rw [aqx (hx b n)]; exact n, fun b u q _ => ?_,
  fun b xs q => by rw [aqx (hm b _ q fun z => z)]; exact q, fun b u xs q => by rw [aqx (hm b _ q fun z => z)]; exact q, fun b ps q => ⟨#[], by rw [aqx (hm b _ q fun z => z), q]; simp⟩⟩
 by_cases hbe : b = e
 ·subst hbe; exact heo
 ·exact ⟨u, k b u hbe q⟩
end
def trk (h : Heap) (H : Hp) : List Addr := (List.range h.objs.size).filter fun a => (H a).isSome
def hidT (h : Heap) (H : Hp) : Heap := PySem.W.hideAll h (trk h H)
theorem lqM (h : Heap) (H : Hp) : (hidT h H).objs.size = h.objs.size := PySem.W.hideAll_size _ _
theorem mqz {h : Heap} {H : Hp} {b : Addr} {o : Obj} (e : h.get? b = some o) (n : H b = none) : (hidT h H).get? b = some o :=
 PySem.W.hideAll_get _ e fun hm => by
  have q : (H b).isSome = true := (List.mem_filter.mp hm).2
  rw [n] at q; simp at q
theorem oqk {h : Heap} {H : Hp} {b : Addr} {o : Obj} (e : (hidT h H).get? b = some o) : h.get? b = some o ∧ H b = none := by
 have e' : h.get? b = some o := PySem.W.of_hideAll (trk h H) e
 refine ⟨e', ?_⟩
 cases q : H b with
 | none => rfl
 | some x =>
  have hm : b ∈ trk h H := List.mem_filter.mpr ⟨List.mem_range.mpr (Heap.lt_size e'), by simp [q]⟩
  have z : (hidT h H).get? b = none := PySem.W.hideAll_none (trk h H) hm
  rw [z] at e; cases e
def allNews (g h : Heap) (L : Addr) : List (Addr × Obj) := (List.range h.objs.size).filterMap fun a => if a = L ∨ (g.get? a).isSome = true then none else (h.get? a).map fun o => (a, o)
def rest (g h : Heap) (L d : Addr) : List (Addr × Obj) := (allNews g h L).filter fun p => decide (p.1 ≠ d)
structure Mod (K : PySem.W.Frag) (mg : Str → Option Value) (base : Heap) : Prop where
 kin : K.In base
 glob : base.Ns mainGlobals mg
 blt : ∃ mb, base.Ns builtinsNs mb ∧ ∀ x : Str, x ≠ "__name__" → mb x = bootBuiltins x
 nolimit : base.NoLimit
structure Cx where
 prog : Program
 w : World
 K : PySem.W.Frag
 mg : Str → Option Value
 base : Heap
 A : Around
 N : List Str
 s₀ : Shared
 H₀ : Hp
 env : Env
 outer : List Env
 stack : List Env
 ex : List Addr
 fn : Str → Bool
 calm : Bool
 pn : List (Addr × Obj)
 xe : Value → Shared → Prop
def frs (l : List Env) : List Addr := l.filterMap (·.frame)
abbrev Cx.fs (X : Cx) : List Addr := frs X.outer
def Vis (sc : Scope) (x : Str) : Prop := sc.names.lookup x = some .local ∨ sc.names.lookup x = some .cell ∨ sc.names.lookup x = some .free
def Loc (sc : Scope) (x : Str) : Prop := sc.names.lookup x = some .local ∨ sc.names.lookup x = some .cell
def Look (env : Env) (h : Heap) (m : Str → Option Value) (x : Str) (u : Value) : Prop :=
 (env.kindOf x = some .local ∧ m x = some u) ∨ ((env.kindOf x = some .cell ∨ env.kindOf x = some .free) ∧ ∃ c, env.cells.lookup x = some c ∧ h.IsCell c (some u))
structure Cx.Ok (X : Cx) : Prop where
 mod : Mod X.K X.mg X.base
 kind : X.env.scope.kind = .function
 glob : X.env.globals = mainGlobals
 blt : X.env.builtins = builtinsNs
 above : X.s₀.heap.objs.size ≤ X.env.locals
 inj : ∀ x y c, X.env.cells.lookup x = some c → X.env.cells.lookup y = some c → x = y
 has : ∀ x, (X.env.kindOf x = some .cell ∨ X.env.kindOf x = some .free) → ∃ c, X.env.cells.lookup x = some c
 cab : ∀ x c, X.fn x = true → X.env.cells.lookup x = some c → X.s₀.heap.objs.size ≤ c
 hd : X.calm = true → X.A.handled = none
 frames : X.A.frames = some X.stack
 stk : X.stack = X.outer ∨ (X.stack = X.env :: X.outer ∧ X.env.frame = some X.env.locals)
 exf : ∀ b ∈ X.ex, b ≠ X.env.locals ∧ ∀ x c, X.env.cells.lookup x = some c → c ≠ b
 bs : ∀ b o, X.base.get? b = some o → X.s₀.heap.get? b = some o ∧ X.H₀ b = none
 bsz : X.base.objs.size ≤ X.s₀.heap.objs.size
 noex : ∀ b o, X.base.get? b = some o → b ∉ X.ex
 exfs : ∀ b ∈ X.ex, b ∉ X.fs
 funs : X.s₀.heap.FunFrames X.base X.outer
 frf : ∀ b ∈ X.fs, X.H₀ b = none
structure Inv (X : Cx) (pins : List (Addr × Obj)) (σ : List (Option V)) (H : Hp) (s : Shared) : Prop where
 ok : X.Ok
 os : s.os = X.s₀.os
 bare : AllBare s.gens
 base : Un X.fs X.ex X.H₀ H X.s₀.heap s.heap
 loc : ∃ m, s.heap.Ns X.env.locals m ∧ ∀ (i : Nat) (x : Str) (v : V), X.N[i]? = some x → σ[i]? = some (some v) → Vis X.env.scope x → ∃ u, RelV v u ∧ Look X.env s.heap m x u
 cell : ∀ x c, X.env.cells.lookup x = some c → ∃ v, s.heap.IsCell c v
 free : H X.env.locals = none
 freeC : ∀ x c, X.env.cells.lookup x = some c → H c = none
 pin : ∀ p ∈ X.pn ++ pins, s.heap.get? p.1 = some p.2 ∧ H p.1 = none ∧ p.1 ≠ X.env.locals ∧ p.1 ∉ X.fs ∧ ∀ v, p.2.data ≠ .cell v
 hok : HOk X.prog X.w H s.heap
 len : σ.length = X.N.length
section
variable {X : Cx} {pins : List (Addr × Obj)} {σ : List (Option V)} {H H' : Hp} {s : Shared} {h' : Heap}
theorem Cx.Ok.nofr (ok : X.Ok) {b : Addr} {o : Obj} (e : X.base.get? b = some o) : b ∉ X.fs := fun hb => by
 have := (ok.funs.mem hb).1
 rw [e] at this; cases this
theorem Inv.bs (I : Inv X pins σ H s) : ∀ b o, X.base.get? b = some o → s.heap.get? b = some o ∧ H b = none := fun b o e =>
 ⟨I.base.keep b o (I.ok.bs b o e).1 (I.ok.bs b o e).2 (I.ok.nofr e) (I.ok.noex b o e), I.base.free b o (I.ok.bs b o e).1 (I.ok.bs b o e).2 (I.ok.noex b o e)⟩
theorem Inv.bk (I : Inv X pins σ H s) : ∀ b o, X.base.get? b = some o → s.heap.get? b = some o := fun b o e => (I.bs b o e).1
theorem Inv.mod (I : Inv X pins σ H s) : Mod X.K X.mg X.base := I.ok.mod
theorem Inv.kIn (I : Inv X pins σ H s) : X.K.In s.heap := I.ok.mod.kin.keeps I.bk
theorem Inv.lt (I : Inv X pins σ H s) : X.env.locals < s.heap.objs.size := let ⟨_, hn, _⟩ := I.loc; hn.lt
theorem Inv.sz (I : Inv X pins σ H s) : X.s₀.heap.objs.size ≤ s.heap.objs.size := Nat.le_trans I.ok.above (Nat.le_of_lt I.lt)
theorem Inv.nofs (I : Inv X pins σ H s) {a : Addr} (h : s.heap.objs.size ≤ a) : a ∉ X.fs := fun hb => by
 obtain ⟨_, o, ho, _⟩ := I.ok.funs.mem hb
 exact absurd (Nat.lt_of_lt_of_le (Heap.lt_size ho) (Nat.le_trans I.sz h)) (Nat.lt_irrefl _)
theorem Inv.cne (I : Inv X pins σ H s) : ∀ x c, X.env.cells.lookup x = some c → c ≠ X.env.locals := fun x c e z => by
 obtain ⟨v, o, ho, hd⟩ := I.cell x c e
 obtain ⟨m, ⟨o', es, ep, ho', hd', _⟩, _⟩ := I.loc
 rw [z, ho'] at ho; cases ho; rw [hd'] at hd; cases hd
theorem Inv.funs (I : Inv X pins σ H s) : s.heap.FunFrames X.base X.outer := by
 have all : ∀ (l : List Env), (∀ b ∈ frs l, b ∈ X.fs) → X.s₀.heap.FunFrames X.base l → s.heap.FunFrames X.base l := by
  intro l
  induction l with
  | nil => intro _ _; trivial
  | cons env r ih =>
   intro hs hl
   obtain ⟨hk, ⟨L, o, hf, hn, ho, hd⟩, hr⟩ := hl
   have hL : L ∈ X.fs := hs L (by unfold frs; rw [List.filterMap_cons, hf]; exact List.mem_cons_self)
   obtain ⟨sl, e⟩ := I.base.slot L o ho (I.ok.frf L hL) hL fun z => I.ok.exfs L z hL
   exact ⟨hk, ⟨L, _, hf, hn, e, hd⟩, ih (fun b hb => hs b (by unfold frs; rw [List.filterMap_cons, hf]; exact List.mem_cons_of_mem _ hb)) hr⟩
 exact all X.outer (fun _ hb => hb) I.ok.funs
theorem Inv.stack (I : Inv X pins σ H s) : s.heap.FunFrames X.base X.stack := by
 rcases I.ok.stk with e | ⟨e, hf⟩
 ·rw [e]; exact I.funs
 ·rw [e]
  obtain ⟨m, hn, _⟩ := I.loc
  refine .cons (by rw [I.ok.kind]; decide) hf hn ?_ I.funs
  exact Heap.get?_none_of_le (Nat.le_trans I.ok.bsz I.ok.above)
theorem Inv.stkSub (I : Inv X pins σ H s) : ∀ b ∈ frs X.stack, b ∈ X.env.locals :: X.fs := fun b hb => by
 rcases I.ok.stk with e | ⟨e, hf⟩
 ·rw [e] at hb; exact List.mem_cons_of_mem _ hb
 ·rw [e] at hb
  unfold frs at hb
  rw [List.filterMap_cons, hf] at hb
  exact hb
theorem Inv.stkFree (I : Inv X pins σ H s) : ∀ b ∈ frs X.stack, H b = none := fun b hb => by
 rcases List.mem_cons.mp (I.stkSub b hb) with e | hb
 ·rw [e]; exact I.free
 ·obtain ⟨_, o, ho, _⟩ := I.ok.funs.mem hb
  exact I.base.free b o ho (I.ok.frf b hb) fun z => I.ok.exfs b z hb
theorem Inv.step {g' : Array GenState} {t' : Nat} {d' : Drawn} {ch : List Addr} (I : Inv X pins σ H s)
  (hch : ∀ b ∈ ch, (b ∈ X.ex ∨ X.s₀.heap.objs.size ≤ b) ∧ b ≠ X.env.locals ∧ (∀ x c, X.env.cells.lookup x = some c → c ≠ b) ∧ ∀ p ∈ X.pn ++ pins, p.1 ≠ b)
  (keep : ∀ b o, b ≠ X.env.locals → b ∉ X.fs → b ∉ ch → s.heap.get? b = some o → H b = none → h'.get? b = some o)
  (slot : ∀ b o, b ≠ X.env.locals → b ∈ X.fs → b ∉ ch → s.heap.get? b = some o → H b = none → ∃ sl, h'.get? b = some { o with slots := sl }) (free : ∀ b o, b ∉ ch → s.heap.get? b = some o → H b = none → H' b = none)
  (there : ∀ b o, b ∉ ch → s.heap.get? b = some o → ∃ o', h'.get? b = some o')
  (tups : ∀ b xs, H b = some (.tup xs) → H' b = some (.tup xs)) (frzs : ∀ b o u, H b = some (.frz o u) → H' b = some (.frz o u)) (tbls : ∀ b ps, H b = some (.tbl ps) → ∃ more, H' b = some (.tbl (ps ++ more)))
  (ns : ∀ m, s.heap.Ns X.env.locals m → h'.Ns X.env.locals m) (hok : HOk X.prog X.w H' h') (hg : AllBare g') :
  Inv X pins σ H' { s with heap := h', gens := g', drawn := d', toks := t' } := by
 have neL : ∀ b o, X.s₀.heap.get? b = some o → b ≠ X.env.locals := fun b o e => Nat.ne_of_lt (Nat.lt_of_lt_of_le (Heap.lt_size e) I.ok.above)
 have neC : ∀ b o, X.s₀.heap.get? b = some o → b ∉ X.ex → b ∉ ch := fun b o e hx hb => by
  rcases (hch b hb).1 with z | z
  ·exact hx z
  ·exact absurd (Nat.lt_of_lt_of_le (Heap.lt_size e) z) (Nat.lt_irrefl _)
 have cellK : ∀ x c, X.env.cells.lookup x = some c → ∀ v, s.heap.IsCell c v → h'.IsCell c v := fun x c e v ⟨o, ho, hd⟩ => by
  have nch : c ∉ ch := fun z => (hch c z).2.2.1 x c e rfl
  by_cases hc : c ∈ X.fs
  ·obtain ⟨sl, q⟩ := slot c o (I.cne x c e) hc nch ho (I.freeC x c e)
   exact ⟨_, q, hd⟩
  ·exact ⟨o, keep c o (I.cne x c e) hc nch ho (I.freeC x c e), hd⟩
 refine ⟨I.ok, I.os, hg, ⟨fun b o e n hb hx => ?_, fun b o e n hb hx => ?_, fun b o e n hx => ?_, fun b o e hx => ?_, fun b xs e => tups b xs (I.base.tups b xs e), fun b o xs e => frzs b o xs (I.base.frzs b o xs e), fun b ps e => ?_⟩, ?_, fun x c e => ?_, ?_, fun x c e => ?_, fun p hp => ?_, hok, I.len⟩
 ·exact keep b o (neL b o e) hb (neC b o e hx) (I.base.keep b o e n hb hx) (I.base.free b o e n hx)
 ·obtain ⟨sl, e1⟩ := I.base.slot b o e n hb hx
  obtain ⟨sl', e2⟩ := slot b _ (neL b o e) hb (neC b o e hx) e1 (I.base.free b o e n hx)
  exact ⟨sl', e2⟩
 ·obtain ⟨o', e1⟩ := I.base.there b o e hx
  exact free b o' (neC b o e hx) e1 (I.base.free b o e n hx)
 ·obtain ⟨o', e1⟩ := I.base.there b o e hx
  exact there b o' (neC b o e hx) e1
 ·obtain ⟨m1, e1⟩ := I.base.tbls b ps e
  obtain ⟨m2, e2⟩ := tbls b _ e1
  exact ⟨m1 ++ m2, by rw [e2, Array.append_assoc]⟩
 ·obtain ⟨m, hn, hl⟩ := I.loc
  refine ⟨m, ns m hn, fun i x v e1 e2 e3 => ?_⟩
  obtain ⟨u, r, l⟩ := hl i x v e1 e2 e3
  refine ⟨u, r, ?_⟩
  rcases l with l | ⟨k, c, e, z⟩
  ·exact .inl l
  ·exact .inr ⟨k, c, e, cellK x c e _ z⟩
 ·obtain ⟨v, z⟩ := I.cell x c e
  exact ⟨v, cellK x c e v z⟩
 ·obtain ⟨m, ⟨o, _, _, ho, _⟩, _⟩ := I.loc
  exact free _ o (fun z => (hch _ z).2.1 rfl) ho I.free
 ·obtain ⟨v, o, ho, hd⟩ := I.cell x c e
  exact free c o (fun z => (hch c z).2.2.1 x c e rfl) ho (I.freeC x c e)
 ·obtain ⟨e, n, ne, nf, d⟩ := I.pin p hp
  have nch : p.1 ∉ ch := fun z => (hch p.1 z).2.2.2 p hp rfl
  exact ⟨keep p.1 p.2 ne nf nch e n, free p.1 p.2 nch e n, ne, nf, d⟩
theorem Inv.un {t' : Nat} (I : Inv X pins σ H s) (u : Un X.fs [] H H' s.heap h') (hok : HOk X.prog X.w H' h') : Inv X pins σ H' { s with heap := h', toks := t' } := by
 obtain ⟨m, ⟨o, es, ep, ho, r⟩, _⟩ := id I.loc
 obtain ⟨sl, hL⟩ := u.any ho I.free (by simp)
 exact I.step (g' := s.gens) (d' := s.drawn) (ch := []) (fun _ z => nomatch z) (fun b o _ hb _ e n => u.keep b o e n hb (by simp)) (fun b o _ hb _ e n => u.slot b o e n hb (by simp)) (fun b o _ e n => u.free b o e n (by simp)) (fun b o _ e => u.there b o e (by simp)) u.tups u.frzs u.tbls (fun m' hm => by
  obtain ⟨o', es', ep', ho', r'⟩ := hm
  rw [ho] at ho'; cases ho'
  exact ⟨_, es', ep', hL, r'⟩) hok I.bare
theorem Inv.call {g' : Array GenState} {t' : Nat} {d' : Drawn} {ch : List Addr} (I : Inv X pins σ H s) (u : Un (frs X.stack) ch H H' s.heap h') (hok : HOk X.prog X.w H' h') (hg : AllBare g')
  (hch : ∀ b ∈ ch, (b ∈ X.ex ∨ X.s₀.heap.objs.size ≤ b) ∧ b ≠ X.env.locals ∧ (∀ x c, X.env.cells.lookup x = some c → c ≠ b) ∧ ∀ p ∈ X.pn ++ pins, p.1 ≠ b) :
  Inv X pins σ H' { s with heap := h', gens := g', drawn := d', toks := t' } := by
 obtain ⟨m, ⟨o, es, ep, ho, r⟩, _⟩ := id I.loc
 obtain ⟨sl, hL⟩ := u.any ho I.free fun z => (hch _ z).2.1 rfl
 exact I.step (ch := ch) hch (fun b o hL hb hc e n => u.keep b o e n (fun z => (List.mem_cons.mp (I.stkSub b z)).elim hL hb) hc) (fun b o _ _ hc e n => u.any e n hc) (fun b o hc e n => u.free b o e n hc) (fun b o hc e => u.there b o e hc) u.tups u.frzs u.tbls (fun m' hm => by
  obtain ⟨o', es', ep', ho', r'⟩ := hm
  rw [ho] at ho'; cases ho'
  exact ⟨_, es', ep', hL, r'⟩) hok hg
theorem Inv.turned {t' : Nat} {it : Addr} (I : Inv X pins σ H s) (k : ∀ b o, b ≠ it → s.heap.get? b = some o → h'.get? b = some o) (hn : H it = none) (hL : it ≠ X.env.locals)
  (h1 : it ∈ X.ex ∨ X.s₀.heap.objs.size ≤ it) (h2 : ∀ x c, X.env.cells.lookup x = some c → c ≠ it) (h3 : ∀ p ∈ X.pn ++ pins, p.1 ≠ it) : Inv X pins σ H { s with heap := h', toks := t' } := by
 have nit : ∀ b u, H b = some u → b ≠ it := fun b u e z => by rw [z, hn] at e; cases e
 refine I.step (g' := s.gens) (d' := s.drawn) (ch := [it]) (fun b hb => ?_) (fun b o _ _ hc e _ => k b o (fun z => hc (by simp [z])) e) (fun b o _ _ hc e _ => ⟨o.slots, k b o (fun z => hc (by simp [z])) e⟩) (fun _ _ _ _ n => n)
  (fun b o hc e => ⟨o, k b o (fun z => hc (by simp [z])) e⟩) (fun _ _ e => e) (fun _ _ _ e => e) (fun b ps e => ⟨#[], by rw [e]; simp⟩) (fun m hm => ?_) (fun b u e => ?_) I.bare
 ·have e : b = it := by simpa using hb
  subst e
  exact ⟨h1, hL, h2, h3⟩
 ·obtain ⟨o, es, ep, ho, r⟩ := hm
  exact ⟨o, es, ep, k _ o (Ne.symm hL) ho, r⟩
 ·refine (I.hok b u e).stay (fun c v hc q => k c v ?_ q) (fun _ q => q) fun _ _ q => q
  rcases hc with z | z
  ·rw [z]; exact nit b u e
  ·exact nit c _ z
theorem Inv.tok (I : Inv X pins σ H s) (t : Nat) : Inv X pins σ H { s with toks := t } := I.un (h' := s.heap) (t' := t) Un.refl I.hok
theorem Inv.kept {t' : Nat} (I : Inv X pins σ H s) (k : ∀ b u, s.heap.get? b = some u → h'.get? b = some u) : Inv X pins σ H { s with heap := h', toks := t' } := I.un (Un.kept k) (I.hok.kept k)
theorem Inv.laid {a : Addr} {o : HO} {t' : Nat} (I : Inv X pins σ H s) (k : ∀ b u, s.heap.get? b = some u → h'.get? b = some u) (hp : s.heap.objs.size ≤ a) (new : ObjOk X.prog X.w (upd H a o) h' a o) :
  Inv X pins σ (upd H a o) { s with heap := h', toks := t' } := I.un (Un.laid k hp (I.hok.fresh hp)) (I.hok.laid k hp new)
theorem Inv.write {x e : Addr} {o : HO} {t' : Nat} (I : Inv X pins σ H s) (mu : Mut (H x)) (he : e = x ∨ H e = some (.own x)) (k : ∀ b u, b ≠ e → s.heap.get? b = some u → h'.get? b = some u) (heo : ∃ u, h'.get? e = some u)
  (new : ObjOk X.prog X.w (upd H x o) h' x o) : Inv X pins σ (upd H x o) { s with heap := h', toks := t' } := I.un (Un.write mu he k heo) (I.hok.write mu he k heo new)
theorem Inv.pins_of {pins' : List (Addr × Obj)} (I : Inv X pins σ H s) (h : ∀ p ∈ pins', s.heap.get? p.1 = some p.2 ∧ H p.1 = none ∧ p.1 ≠ X.env.locals ∧ p.1 ∉ X.fs ∧ ∀ v, p.2.data ≠ .cell v) : Inv X pins' σ H s :=
 ⟨I.ok, I.os, I.bare, I.base, I.loc, I.cell, I.free, I.freeC, fun p hp => (List.mem_append.mp hp).elim (fun z => I.pin p (List.mem_append_left _ z)) (h p), I.hok, I.len⟩
theorem jqe {N : List Str} (hN : N.Nodup) {i j : Nat} {x : Str} (a : N[i]? = some x) (b : N[j]? = some x) : i = j := by
 obtain ⟨h1, e1⟩ := List.getElem?_eq_some_iff.mp a
 obtain ⟨h2, e2⟩ := List.getElem?_eq_some_iff.mp b
 exact (List.getElem_inj hN).mp (e1.trans e2.symm)
theorem hqV {M : Model} {A : Around} {E : Value → Shared → Prop} {i : Nat} {x : Str} {v : V} {u : Value} {Q : Unit → Shared → Prop} (I : Inv X pins σ H s) (hN : X.N.Nodup) (hi : X.N[i]? = some x) (hx : Loc X.env.scope x) (r : RelV v u)
  (h : ∀ s', Inv X pins (σ.set i (some v)) H s' → (∃ a, Heap.SameBut a s.heap s'.heap ∧ (a = X.env.locals ∨ X.env.cells.lookup x = some a)) → Q () s') (hf : X.fn x = true ∨ X.env.scope.names.lookup x = some .local := by first | exact .inl rfl | exact .inr rfl | assumption) : wpAny M A (storeName X.env x u) Q E s := by
 obtain ⟨m, hn, hl⟩ := id I.loc
 have hcls : (X.env.scope.kind == .class || (X.env.scope.kind == .module && X.env.locals != X.env.globals)) = false := by rw [I.ok.kind]; rfl
 have hiσ : i < σ.length := by rw [I.len]; exact (List.getElem?_eq_some_iff.mp hi).1
 have cne := I.cne
 have tracked : ∀ {a : Addr} {h' : Heap}, (∃ o, s.heap.get? a = some o ∧ H a = none) → Heap.SameBut a s.heap h' → HOk X.prog X.w H h' := fun {a h'} ha hs b ob e => by
  obtain ⟨_, _, hfree⟩ := ha
  refine (I.hok b ob e).stay (fun c w' hc q => (hs.2 c ?_).trans q) (fun _ q => q) fun _ _ q => q
  rintro rfl
  rcases hc with rfl | hc
  ·rw [hfree] at e; cases e
  ·rw [hfree] at hc; cases hc
 rcases hx with hk | hk
 ·refine wpAny_storeName_local hk hn (fun h' hn' hs => ?_) hcls
  obtain ⟨oL, _, _, hoL, _⟩ := id hn
  refine h _ ⟨I.ok, I.os, I.bare, ⟨fun b o e n hb hx => ?_, fun b o e n hb hx => ?_, I.base.free, fun b o e hx => ?_, I.base.tups, I.base.frzs, I.base.tbls⟩, ⟨_, hn', fun j y v' e1 e2 e3 => ?_⟩, fun y c e => ?_, I.free, I.freeC, fun p hp => ?_, tracked ⟨oL, hoL, I.free⟩ hs, by simpa using I.len⟩ ⟨_, hs, .inl rfl⟩
  ·exact (hs.2 b (Nat.ne_of_lt (Nat.lt_of_lt_of_le (Heap.lt_size e) I.ok.above))).trans (I.base.keep b o e n hb hx)
  ·obtain ⟨sl, e1⟩ := I.base.slot b o e n hb hx
   exact ⟨sl, (hs.2 b (Nat.ne_of_lt (Nat.lt_of_lt_of_le (Heap.lt_size e) I.ok.above))).trans e1⟩
  ·obtain ⟨o', e1⟩ := I.base.there b o e hx
   exact ⟨o', (hs.2 b (Nat.ne_of_lt (Nat.lt_of_lt_of_le (Heap.lt_size e) I.ok.above))).trans e1⟩
  ·by_cases hj : j = i
   ·subst hj
    rw [hi] at e1; cases e1
    rw [List.getElem?_set_self hiσ] at e2
    cases e2
    exact ⟨u, r, .inl ⟨hk, by simp⟩⟩
   ·rw [List.getElem?_set_ne (Ne.symm hj)] at e2
    obtain ⟨u', r', q⟩ := hl j y v' e1 e2 e3
    refine ⟨u', r', ?_⟩
    rcases q with ⟨k, e⟩ | ⟨k, c, e, z⟩
    ·refine .inl ⟨k, ?_⟩
     have : y ≠ x := fun e => hj (jqe hN e1 (e ▸ hi))
     simp [this, e]
    ·exact .inr ⟨k, c, e, z.sameBut hs (cne y c e)⟩
  ·obtain ⟨w', z⟩ := I.cell y c e
   exact ⟨w', z.sameBut hs (cne y c e)⟩
  ·obtain ⟨e, n, ne, nf, d⟩ := I.pin p hp
   exact ⟨(hs.2 p.1 ne).trans e, n, ne, nf, d⟩
 ·have hfn : X.fn x = true := by
   rcases hf with z | z
   ·exact z
   ·rw [z] at hk; cases hk
  obtain ⟨c, hc⟩ := I.ok.has x (.inl hk)
  obtain ⟨w', z⟩ := I.cell x c hc
  refine wpAny_storeName_cell I.ok.kind hk hc z (fun h' hc' hs => ?_)
  obtain ⟨oc, hoc, hocd⟩ := id z
  refine h { s with heap := h' } ⟨I.ok, I.os, I.bare, ⟨fun b o e n hb hx => ?_, fun b o e n hb hx => ?_, I.base.free, fun b o e hx => ?_, I.base.tups, I.base.frzs, I.base.tbls⟩, ⟨m, hn.sameBut hs (Ne.symm (cne x c hc)), fun j y v' e1 e2 e3 => ?_⟩, fun y c' e => ?_, I.free, I.freeC, fun p hp => ?_, tracked ⟨oc, hoc, I.freeC x c hc⟩ hs, by simpa using I.len⟩ ⟨c, hs, .inr hc⟩
  ·exact (hs.2 b (Nat.ne_of_lt (Nat.lt_of_lt_of_le (Heap.lt_size e) (I.ok.cab x c hfn hc)))).trans (I.base.keep b o e n hb hx)
  ·obtain ⟨sl, e1⟩ := I.base.slot b o e n hb hx
   exact ⟨sl, (hs.2 b (Nat.ne_of_lt (Nat.lt_of_lt_of_le (Heap.lt_size e) (I.ok.cab x c hfn hc)))).trans e1⟩
  ·obtain ⟨o', e1⟩ := I.base.there b o e hx
   exact ⟨o', (hs.2 b (Nat.ne_of_lt (Nat.lt_of_lt_of_le (Heap.lt_size e) (I.ok.cab x c hfn hc)))).trans e1⟩
  ·by_cases hj : j = i
   ·subst hj
    rw [hi] at e1; cases e1
    rw [List.getElem?_set_self hiσ] at e2
    cases e2
    exact ⟨u, r, .inr ⟨.inl hk, c, hc, hc'⟩⟩
   ·rw [List.getElem?_set_ne (Ne.symm hj)] at e2
    obtain ⟨u', r', q⟩ := hl j y v' e1 e2 e3
    refine ⟨u', r', ?_⟩
    rcases q with q | ⟨k, c', e, z'⟩
    ·exact .inl q
    ·refine .inr ⟨k, c', e, z'.sameBut hs ?_⟩
     rintro rfl
     exact hj (jqe hN e1 (I.ok.inj _ _ _ e hc ▸ hi))
  ·by_cases hcc : c' = c
   ·subst hcc; exact ⟨_, hc'⟩
   ·obtain ⟨w2, z2⟩ := I.cell y c' e
    exact ⟨w2, z2.sameBut hs hcc⟩
  ·obtain ⟨e, n, ne, nf, d⟩ := I.pin p hp
   refine ⟨(hs.2 p.1 ?_).trans e, n, ne, nf, d⟩
   intro q
   rw [q, hoc] at e
   have q' : oc = p.2 := Option.some.inj e
   exact d w' (by rw [← q']; exact hocd)
theorem jqh {M : Model} {A : Around} {E : Value → Shared → Prop} {i : Nat} {x : Str} {v : V} {u : Value} {Q : Unit → Shared → Prop} (I : Inv X pins σ H s) (hN : X.N.Nodup) (hi : X.N[i]? = some x) (hx : Loc X.env.scope x) (r : RelV v u)
  (h : ∀ s', Inv X pins (σ.set i (some v)) H s' → Q () s') (hf : X.fn x = true ∨ X.env.scope.names.lookup x = some .local := by first | exact .inl rfl | exact .inr rfl | assumption) : wpAny M A (storeName X.env x u) Q E s :=
 hqV I hN hi hx r (fun s' I' _ => h s' I') hf
end
abbrev XK := Value → Option Addr → Hp → Prop
abbrev St := List (Option V)
abbrev VK := V → Hp → Prop
abbrev TE := St → Hp → VK → Prop
abbrev TT := St → Hp → (Bool → Hp → Prop) → Prop
abbrev TA := St → Hp → (List V → Hp → Prop) → Prop
structure Ends where
 nx : St → Hp → Prop
 rt : VK
 bk : St → Hp → Prop := fun _ _ => False
 ct : St → Hp → Prop := fun _ _ => False
abbrev TS := Ends → St → Hp → Prop
def EP (X : Cx) (pins : List (Addr × Obj)) (σ : St) (Q : VK) (u : Value) (s' : Shared) : Prop := ∃ v H', Inv X pins σ H' s' ∧ RelV v u ∧ Q v H'
def TP (X : Cx) (pins : List (Addr × Obj)) (σ : St) (Q : Bool → Hp → Prop) (b : Bool) (s' : Shared) : Prop := ∃ H', Inv X pins σ H' s' ∧ Q b H'
def AP (X : Cx) (pins : List (Addr × Obj)) (σ : St) (Q : List V → Hp → Prop) (us : List Value) (s' : Shared) : Prop := ∃ vs H', Inv X pins σ H' s' ∧ Vals vs us ∧ Q vs H'
def SP (X : Cx) (pins : List (Addr × Obj)) (D : Ends) (f : Flow) (s' : Shared) : Prop :=
 match f with
 | .next => ∃ σ' H', Inv X pins σ' H' s' ∧ D.nx σ' H'
 | .brk => ∃ σ' H', Inv X pins σ' H' s' ∧ D.bk σ' H'
 | .cont => ∃ σ' H', Inv X pins σ' H' s' ∧ D.ct σ' H'
 | .ret u => ∃ v σ' H', Inv X pins σ' H' s' ∧ RelV v u ∧ D.rt v H'
def PE (X : Cx) (e : Expr) (t : TE) : Prop :=
 ∀ (pins : List (Addr × Obj)) (s : Shared) (σ : St) (H : Hp) (Q : VK), Inv X pins σ H s → t σ H Q → wpAny (model X.prog X.w) X.A (eval e X.env) (EP X pins σ Q) X.xe s
def PT (X : Cx) (e : Expr) (t : TT) : Prop :=
 ∀ (pins : List (Addr × Obj)) (s : Shared) (σ : St) (H : Hp) (Q : Bool → Hp → Prop), Inv X pins σ H s → t σ H Q → wpAny (model X.prog X.w) X.A (isTrue e X.env (eval e X.env)) (TP X pins σ Q) X.xe s
def PW (X : Cx) (e : Expr) (t : TT) : Prop :=
 ∀ (whole : Sem Value) (pins : List (Addr × Obj)) (s : Shared) (σ : St) (H : Hp) (Q : Bool → Hp → Prop), Inv X pins σ H s → t σ H Q → wpAny (model X.prog X.w) X.A (isTrue e X.env whole) (TP X pins σ Q) X.xe s
theorem PW.pt {X : Cx} {e : Expr} {t : TT} (h : PW X e t) : PT X e t := h _
def PA (X : Cx) (es : List Expr) (t : TA) : Prop :=
 ∀ (pos : Pos) (pins : List (Addr × Obj)) (s : Shared) (σ : St) (H : Hp) (Q : List V → Hp → Prop), Inv X pins σ H s → t σ H Q → wpAny (model X.prog X.w) X.A (spliced (backTo pos (starEach es X.env))) (AP X pins σ Q) X.xe s
def PS (X : Cx) (st : Stmt) (t : TS) : Prop :=
 ∀ (pins : List (Addr × Obj)) (s : Shared) (σ : St) (H : Hp) (D : Ends), Inv X pins σ H s → t D σ H → wpAny (model X.prog X.w) X.A (exec st X.env) (SP X pins D) X.xe s
def PSs (X : Cx) (st : List Stmt) (t : TS) : Prop :=
 ∀ (pins : List (Addr × Obj)) (s : Shared) (σ : St) (H : Hp) (D : Ends), Inv X pins σ H s → t D σ H → wpAny (model X.prog X.w) X.A (execs st X.env) (SP X pins D) X.xe s
theorem thn {α : Type} {t : Sem α} {Q Q' : α → Shared → Prop} {M : Model} {A : Around} {E : Value → Shared → Prop} {s : Shared} (h : wpAny M A t Q E s) (hQ : ∀ a s, Q a s → Q' a s) : wpAny M A t Q' E s := wpAny_mono h hQ fun _ _ x => x
section
variable {X : Cx}
theorem bin {a b : Expr} {ta tb : TE} (ha : PE X a ta) (hb : PE X b tb) {pins : List (Addr × Obj)} {s : Shared} {σ : St} {H : Hp} {R : V → V → Hp → Prop} (I : Inv X pins σ H s) (h : ta σ H fun x H1 => tb σ H1 fun y H2 => R x y H2)
  {α : Type} {Q : α → Shared → Prop} {f : Value → Value → Sem α}
  (hf : ∀ v u s2 x y H2, Inv X pins σ H2 s2 → RelV x v → RelV y u → R x y H2 → wpAny (model X.prog X.w) X.A (f v u) Q X.xe s2) :
  wpAny (model X.prog X.w) X.A (eval a X.env) (fun v s₁ => wpAny (model X.prog X.w) X.A (eval b X.env) (fun u s₂ => wpAny (model X.prog X.w) X.A (f v u) Q X.xe s₂) X.xe s₁) X.xe s := by
 refine thn (ha pins s σ H _ I h) fun v s1 W' => ?_
 obtain ⟨x, H1, I1, r1, q1⟩ := W'
 refine thn (hb pins s1 σ H1 _ I1 q1) fun u s2 W' => ?_
 obtain ⟨y, H2, I2, r2, q2⟩ := W'
 exact hf v u s2 x y H2 I2 r1 r2 q2
def tVar (i : Nat) : TE := fun σ H Q => ∃ v, σ[i]? = some (some v) ∧ Q v H
def tC (v : V) : TE := fun _ H Q => Q v H
theorem qqn {i : Nat} {x : Str} {pos : Pos} (hN : X.N[i]? = some x) (hv : Vis X.env.scope x) (hd : (x == ("__debug__" : Str)) = false := by decide) (hcd : (x == ("__classdict__" : Str)) = false := by decide) : PE X (.Name x pos) (tVar i) := by
 intro pins s σ H Q I h
 obtain ⟨v, e, h⟩ := h
 obtain ⟨m, hn, hl⟩ := I.loc
 obtain ⟨u, r, l⟩ := hl i x v hN e hv
 have fin : EP X pins σ Q u s := ⟨v, H, I, r, h⟩
 rcases l with ⟨hk, hm⟩ | ⟨hk, c, hc, hcell⟩
 ·exact wpAny_Name (wpAny_loadName_local I.ok.kind hk hn hm fin) hd
 ·rcases hk with hk | hk
  ·exact wpAny_Name (wpAny_loadName_cell I.ok.kind hk hc hcell fin) hd
  ·exact wpAny_Name (wpAny_loadName_free I.ok.kind hk hc hcell fin hcd) hd
theorem aqc {i j pos} : PE X (.Constant (.int i) j pos) (tC (.int i)) := fun _ _ _ H _ I h => wpAny_Constant_int ⟨.int i, H, I.tok _, ⟨_, rfl⟩, h⟩
theorem eqh {b j pos} : PE X (.Constant (.bool b) j pos) (tC (.bl b)) := fun _ _ _ H _ I h => Constant_bool ⟨.bl b, H, I, rfl, h⟩
theorem bq0 {j pos} : PE X (.Constant .none j pos) (tC .non) := fun _ _ _ H _ I h => Constant_none ⟨.non, H, I, rfl, h⟩
theorem aqp {x j pos} : PE X (.Constant (.str x) j pos) (tC (.str x)) := fun _ _ _ H _ I h => Calls.Constant_str ⟨.str x, H, I.tok _, ⟨_, rfl⟩, h⟩
def Gl (X : Cx) (x : Str) : Prop := X.env.kindOf x = some .globalImplicit
theorem iqL {E : Value → Shared → Prop} {pins : List (Addr × Obj)} {s : Shared} {σ : St} {H : Hp} {x : Str} {u : Value} {pos : Pos} {Q : Value → Shared → Prop} (I : Inv X pins σ H s) (hg : Gl X x) (hm : X.mg x = some u) (h : Q u s)
  (hd : (x == ("__debug__" : Str)) = false := by decide) : wpAny (model X.prog X.w) X.A (eval (.Name x pos) X.env) Q E s :=
 Calls.Name_function_global I.ok.kind hg (Calls.loadGlobal_global (by rw [I.ok.glob]; exact I.mod.glob.keeps I.bk) hm h) hd
theorem fq5 {E : Value → Shared → Prop} {pins : List (Addr × Obj)} {s : Shared} {σ : St} {H : Hp} {x : Str} {u : Value} {pos : Pos} {Q : Value → Shared → Prop} (I : Inv X pins σ H s) (hg : Gl X x) (hm : X.mg x = none) (hv : bootBuiltins x = some u) (h : Q u s)
  (hn : x ≠ "__name__" := by decide) (hd : (x == ("__debug__" : Str)) = false := by decide) : wpAny (model X.prog X.w) X.A (eval (.Name x pos) X.env) Q E s := by
 obtain ⟨mb, h1, h2⟩ := I.mod.blt
 exact Calls.Name_function_global I.ok.kind hg (Calls.loadGlobal_builtin (by rw [I.ok.glob]; exact I.mod.glob.keeps I.bk) hm (by rw [I.ok.blt]; exact h1.keeps I.bk) ((h2 x hn).trans hv) h) hd
theorem aqY {x : Str} {v : V} {u : Value} {pos : Pos} (hg : Gl X x) (hm : X.mg x = some u) (r : RelV v u) (hd : (x == ("__debug__" : Str)) = false := by decide) : PE X (.Name x pos) (tC v) :=
 fun _ _ _ H _ I h => iqL I hg hm ⟨v, H, I, r, h⟩ hd
theorem gqc {x : Str} {v : V} {u : Value} {pos : Pos} (hg : Gl X x) (hm : X.mg x = none) (hv : bootBuiltins x = some u) (r : RelV v u) (hn : x ≠ "__name__" := by decide) (hd : (x == ("__debug__" : Str)) = false := by decide) : PE X (.Name x pos) (tC v) :=
 fun _ _ _ H _ I h => fq5 I hg hm hv ⟨v, H, I, r, h⟩ hn hd
variable {a b : Expr} {ta tb : TE} {pos : Pos}
def PC (X : Cx) (op : CmpOp) (a b : Expr) (t : TE) : Prop :=
 ∀ (pins : List (Addr × Obj)) (s : Shared) (σ : St) (H : Hp) (Q : VK), Inv X pins σ H s → t σ H Q →
  wpAny (model X.prog X.w) X.A (eval a X.env) (fun v s₁ => wpAny (model X.prog X.w) X.A (eval b X.env) (fun u s₂ => wpAny (model X.prog X.w) X.A (compareOp op v u) (EP X pins σ Q) X.xe s₂) X.xe s₁) X.xe s
def tB (t : TE) : TT := fun σ H Q => t σ H fun x H1 => ∃ c, x = .bl c ∧ Q c H1
theorem qqV {op : CmpOp} {t : TE} (h : PC X op a b t) (h1 : behindInMarks op b = false := by first | exact nobehind _ (by decide) (by decide) | rfl) : PT X (.Compare a [op] [b] pos) (tB t) := by
 intro pins s σ H Q I hw
 refine wpAny_isTrue_Compare1 (thn (h pins s σ H _ I hw) fun v s1 h1 => thn h1 fun u s2 h2 => thn h2 fun c s3 W' => ?_) h1
 obtain ⟨x, H1, I1, r1, q1⟩ := W'
 obtain ⟨d, rfl, q⟩ := q1
 cases r1
 exact wpAny_truthy_bool ⟨H1, I1, q⟩
theorem bqC {e : Expr} {t : TE} (h : PE X e t) (he : ∀ whole, isTrue e X.env whole = (do let v ← whole; standAt e.pos; holding [v] (truthy v)) := by intro _; rfl) : PT X e (tB t) := by
 intro pins s σ H Q I hw
 refine isTrue_plain (thn (h pins s σ H _ I hw) fun v s1 W' => ?_) (he _)
 obtain ⟨x, H1, I1, r1, q1⟩ := W'
 obtain ⟨d, rfl, q⟩ := q1
 cases r1
 exact wpAny_truthy_bool ⟨H1, I1, q⟩
variable {tA tB' : TT} {rest : List Expr}
def tAnd (t u : TT) : TT := fun σ H Q => t σ H fun c H1 => if c = true then u σ H1 Q else Q false H1
def tOr (t u : TT) : TT := fun σ H Q => t σ H fun c H1 => if c = true then Q true H1 else u σ H1 Q
def tNot (t : TT) : TT := fun σ H Q => t σ H fun c H1 => Q (!c) H1
theorem cqw (ha : PT X a tA) : PW X (.BoolOp .And [a] pos) tA := by
 intro wh pins s σ H Q I h
 refine isTrue_and (thn (ha pins s σ H Q I h) fun c s1 e => ?_)
 cases c with
 | true => exact isTrue_and_nil e
 | false => exact e
theorem eqa (ha : PT X a tA) : PW X (.BoolOp .Or [a] pos) tA := by
 intro wh pins s σ H Q I h
 refine isTrue_or (thn (ha pins s σ H Q I h) fun c s1 e => ?_)
 cases c with
 | false => exact isTrue_or_nil e
 | true => exact e
theorem dqx (ha : PT X a tA) (hb : PW X (.BoolOp .And (b :: rest) pos) tB') : PW X (.BoolOp .And (a :: b :: rest) pos) (tAnd tA tB') := by
 intro wh pins s σ H Q I h
 refine isTrue_and (thn (ha pins s σ H _ I h) fun c s1 W' => ?_)
 obtain ⟨H1, I1, q1⟩ := W'
 cases c with
 | true => exact hb wh pins s1 σ H1 Q I1 q1
 | false => exact ⟨H1, I1, q1⟩
theorem dq9 (ha : PT X a tA) (hb : PW X (.BoolOp .Or (b :: rest) pos) tB') : PW X (.BoolOp .Or (a :: b :: rest) pos) (tOr tA tB') := by
 intro wh pins s σ H Q I h
 refine isTrue_or (thn (ha pins s σ H _ I h) fun c s1 W' => ?_)
 obtain ⟨H1, I1, q1⟩ := W'
 cases c with
 | true => exact ⟨H1, I1, q1⟩
 | false => exact hb wh pins s1 σ H1 Q I1 q1
theorem cq8 (ha : PT X a tA) : PT X (.UnaryOp .Not a pos) (tNot tA) := by
 intro pins s σ H Q I h
 exact isTrue_not (ha pins s σ H (fun c H1 => Q (!c) H1) I h)
def tAndV (ta tb : TE) : TE := fun σ H Q => ta σ H fun x H1 => ∃ c, x = .bl c ∧ if c = true then tb σ H1 Q else Q (.bl false) H1
def tOrV (ta tb : TE) : TE := fun σ H Q => ta σ H fun x H1 => ∃ c, x = .bl c ∧ if c = true then Q (.bl true) H1 else tb σ H1 Q
def tNotV (ta : TE) : TE := fun σ H Q => ta σ H fun x H1 => ∃ c, x = .bl c ∧ Q (.bl (!c)) H1
theorem fqn {op} {t : TE} (h : PE X a t) : PE X (.BoolOp op [a] pos) t := fun pins s σ H Q I hw => BoolOp_one (h pins s σ H Q I hw)
theorem iqe (ha : PE X a ta) (hb : PE X (.BoolOp .And (b :: rest) pos) tb) : PE X (.BoolOp .And (a :: b :: rest) pos) (tAndV ta tb) := by
 intro pins s σ H Q I h
 refine BoolOp_and (thn (ha pins s σ H _ I h) fun v s1 W' => ?_)
 obtain ⟨x, H1, I1, r1, q1⟩ := W'
 obtain ⟨c, rfl, q1⟩ := q1
 cases r1
 refine wpAny_truthy_bool ?_
 cases c with
 | true => exact hb pins s1 σ H1 Q I1 q1
 | false => exact ⟨.bl false, H1, I1, rfl, q1⟩
theorem lqW (ha : PE X a ta) (hb : PE X (.BoolOp .Or (b :: rest) pos) tb) : PE X (.BoolOp .Or (a :: b :: rest) pos) (tOrV ta tb) := by
 intro pins s σ H Q I h
 refine BoolOp_or (thn (ha pins s σ H _ I h) fun v s1 W' => ?_)
 obtain ⟨x, H1, I1, r1, q1⟩ := W'
 obtain ⟨c, rfl, q1⟩ := q1
 cases r1
 refine wpAny_truthy_bool ?_
 cases c with
 | false => exact hb pins s1 σ H1 Q I1 q1
 | true => exact ⟨.bl true, H1, I1, rfl, q1⟩
def tIf (t : TT) (ta tb : TE) : TE := fun σ H Q => t σ H fun c H1 => if c = true then ta σ H1 Q else tb σ H1 Q
theorem cqC {c : Expr} (hc : PT X c tA) (ha : PE X a ta) (hb : PE X b tb) : PE X (.IfExp c a b pos) (tIf tA ta tb) := by
 intro pins s σ H Q I h
 refine wpAny_IfExp (thn (hc pins s σ H _ I h) fun d s1 W' => ?_)
 obtain ⟨H1, I1, q1⟩ := W'
 cases d with
 | true => exact ha pins s1 σ H1 Q I1 q1
 | false => exact hb pins s1 σ H1 Q I1 q1
end
def SqL (K : PySem.W.Frag) (H : Hp) (a : Addr) (xs : List V) : Prop :=
 Rd H a (.lst xs) ∨
  ∃ (o : Obj) (its : Array Value) (n : Nat), K.lookup a = some o ∧ o.cls = .type "list" ∧ o.dict = none ∧ o.data = .seq its n ∧ its.size ≤ sizeLine ∧ Vals xs its.toList
def SqT (K : PySem.W.Frag) (H : Hp) (a : Addr) (xs : List V) : Prop :=
 Rd H a (.tup xs) ∨
  ∃ (o : Obj) (its : Array Value) (n : Nat), K.lookup a = some o ∧ o.cls = .type "tuple" ∧ o.data = .seq its n ∧ its.size ≤ sizeLine ∧ Vals xs its.toList
def absV : Value → Option V
 | .none => some .non
 | .bool b => some (.bl b)
 | .int i _ => some (.int i)
 | .str x _ => some (.str x)
 | .bytes b _ => some (.byt b)
 | .float b _ => some (.flt b)
 | .ref a => some (.ref a)
 | .type n => some (.ty n)
 | _ => none
theorem RelV.abs {x : V} {u : Value} (r : RelV x u) : absV u = some x := by
 cases x with
 | non => cases r; rfl
 | bl _ => cases r; rfl
 | int _ => obtain ⟨t, rfl⟩ := r; rfl
 | str _ => obtain ⟨t, rfl⟩ := r; rfl
 | byt _ => obtain ⟨t, rfl⟩ := r; rfl
 | flt _ => obtain ⟨t, rfl⟩ := r; rfl
 | ref _ => cases r; rfl
 | ty _ => cases r; rfl
theorem RelV.inj {x y : V} {u : Value} (r : RelV x u) (q : RelV y u) : x = y := Option.some.inj (r.abs.symm.trans q.abs)
theorem Vals.inj : ∀ {xs ys : List V} {us : List Value}, Vals xs us → Vals ys us → xs = ys
 | _, _, _, .nil, .nil => rfl
 | _, _, _, .cons r t, .cons r' t' => by rw [r.inj r', Vals.inj t t']
section
variable {X : Cx} {pins : List (Addr × Obj)} {σ : St} {H : Hp} {s : Shared} {a : Addr} {xs ys : List V}
theorem SqL.of {K : PySem.W.Frag} (h : H a = some (.lst xs)) : SqL K H a xs := .inl (.inl h)
theorem SqT.of {K : PySem.W.Frag} (h : H a = some (.tup xs)) : SqT K H a xs := .inl (.inl h)
theorem Inv.list (I : Inv X pins σ H s) (h : SqL X.K H a xs) : ∃ its : List Value, Vals xs its ∧ PlainL s.heap a its.toArray ∧ xs.length ≤ sizeLine := by
 rcases h with h | ⟨o, its, n, hk, hc, hd, hs, hz, r⟩
 ·obtain ⟨z, its, n, r, e⟩ := h.ok I.hok
  exact ⟨its, r, ⟨_, n, e, rfl, rfl, rfl⟩, z⟩
 ·refine ⟨its.toList, r, ⟨o, n, I.kIn a o hk, hc, hd, by simpa using hs⟩, ?_⟩
  have e := r.length
  simp only [Array.length_toList] at e
  omega
theorem Inv.tuple (I : Inv X pins σ H s) (h : SqT X.K H a xs) : ∃ its : List Value, Vals xs its ∧ IsTup s.heap a its.toArray ∧ xs.length ≤ sizeLine := by
 rcases h with h | ⟨o, its, n, hk, hc, hs, hz, r⟩
 ·obtain ⟨z, its, r, p⟩ := h.ok I.hok
  exact ⟨its, r, p, z⟩
 ·refine ⟨its.toList, r, ⟨o, I.kIn a o hk, hc, n, by simpa using hs⟩, ?_⟩
  have e := r.length
  simp only [Array.length_toList] at e
  omega
theorem Inv.list_inj (I : Inv X pins σ H s) (h : SqL X.K H a xs) (h' : SqL X.K H a ys) : xs = ys := by
 obtain ⟨its, r, ⟨o, n, e, _, _, d⟩, _⟩ := I.list h
 obtain ⟨its', r', ⟨o', n', e', _, _, d'⟩, _⟩ := I.list h'
 rw [e] at e'; cases e'
 rw [d] at d'
 injection d' with d1 _
 have : its = its' := by simpa using congrArg Array.toList d1
 subst this
 exact r.inj r'
theorem Inv.tuple_inj (I : Inv X pins σ H s) (h : SqT X.K H a xs) (h' : SqT X.K H a ys) : xs = ys := by
 obtain ⟨its, r, ⟨o, e, _, n, d⟩, _⟩ := I.tuple h
 obtain ⟨its', r', ⟨o', e', _, n', d'⟩, _⟩ := I.tuple h'
 rw [e] at e'; cases e'
 rw [d] at d'
 injection d' with d1 _
 have : its = its' := by simpa using congrArg Array.toList d1
 subst this
 exact r.inj r'
end
abbrev Cx.wish (X : Cx) (E : Value → Shared → Prop) : Cx := { X with xe := E }
abbrev Cx.nox (X : Cx) : Cx := X.wish fun _ _ => False
theorem Cx.Ok.wish {X : Cx} (ok : X.Ok) (E : Value → Shared → Prop) : (X.wish E).Ok :=
 ⟨ok.mod, ok.kind, ok.glob, ok.blt, ok.above, ok.inj, ok.has, ok.cab, ok.hd, ok.frames, ok.stk, ok.exf, ok.bs, ok.bsz, ok.noex, ok.exfs, ok.funs, ok.frf⟩
theorem Cx.Ok.unwish {X : Cx} {E : Value → Shared → Prop} (ok : (X.wish E).Ok) : X.Ok :=
 ⟨ok.mod, ok.kind, ok.glob, ok.blt, ok.above, ok.inj, ok.has, ok.cab, ok.hd, ok.frames, ok.stk, ok.exf, ok.bs, ok.bsz, ok.noex, ok.exfs, ok.funs, ok.frf⟩
section
variable {X : Cx} {pins : List (Addr × Obj)} {σ : St} {H : Hp} {s : Shared} {E : Value → Shared → Prop}
theorem Inv.wish (I : Inv X pins σ H s) (E : Value → Shared → Prop) : Inv (X.wish E) pins σ H s := ⟨I.ok.wish E, I.os, I.bare, I.base, I.loc, I.cell, I.free, I.freeC, I.pin, I.hok, I.len⟩
theorem Inv.unwish (I : Inv (X.wish E) pins σ H s) : Inv X pins σ H s := ⟨I.ok.unwish, I.os, I.bare, I.base, I.loc, I.cell, I.free, I.freeC, I.pin, I.hok, I.len⟩
theorem SP.unwish {D : Ends} {f : Flow} {s' : Shared} (h : SP (X.wish E) pins D f s') : SP X pins D f s' := by
 cases f with
 | next => obtain ⟨σ', H', I, q⟩ := h; exact ⟨σ', H', I.unwish, q⟩
 | brk => obtain ⟨σ', H', I, q⟩ := h; exact ⟨σ', H', I.unwish, q⟩
 | cont => obtain ⟨σ', H', I, q⟩ := h; exact ⟨σ', H', I.unwish, q⟩
 | ret u => obtain ⟨v, σ', H', I, r, q⟩ := h; exact ⟨v, σ', H', I.unwish, r, q⟩
theorem PSs.nox {st : List Stmt} {t : TS} (h : PSs X.nox st t) : PSs X st t := fun pins s σ H D I hw =>
 wpAny_mono (h pins s σ H D (I.wish _) hw) (fun _ _ q => q.unwish) fun _ _ z => False.elim z
end
section
variable {X : Cx} {st : Stmt} {rest : List Stmt} {t u : TS} {e : Expr} {te : TE} {pos : Pos}
def tNext : TS := fun D σ H => D.nx σ H
def tSeq (t u : TS) : TS := fun D σ H => t { D with nx := u D } σ H
theorem aqs : PSs X [] tNext := fun _ _ σ H _ I h => wpAny_execs_nil ⟨σ, H, I, h⟩
theorem aqd (h1 : PS X st t) (h2 : PSs X rest u) : PSs X (st :: rest) (tSeq t u) := by
 intro pins s σ H D I h
 refine wpAny_execs_cons (thn (h1 pins s σ H { D with nx := u D } I h) fun f s1 q => ?_)
 cases f with
 | next =>
  obtain ⟨σ', H', I', q⟩ := q
  exact h2 pins s1 σ' H' D I' q
 | ret v => exact q
 | brk => exact q
 | cont => exact q
theorem aqf (h1 : PS X st t) : PSs X [st] t := by
 intro pins s σ H D I h
 refine wpAny_execs_cons (thn (h1 pins s σ H D I h) fun f s1 q => ?_)
 cases f with
 | next => exact wpAny_execs_nil q
 | ret v => exact q
 | brk => exact q
 | cont => exact q
def tBreak : TS := fun D σ H => D.bk σ H
theorem Inv.quiet {pins : List (Addr × Obj)} {σ : St} {H : Hp} {s : Shared} (I : Inv X pins σ H s) : interactive X.env = false := by simp [interactive, I.ok.kind]
def tDrop (te : TE) : TS := fun D σ H => te σ H fun _ H1 => D.nx σ H1
theorem bqX (he : PE X e te) (hs : swapsWith e none pos.line X.env = pure false := by rfl) : PS X (.Expr e pos) (tDrop te) := by
 intro pins s σ H D I h
 exact wpAny_Expr_any (thn (he pins s σ H _ I h) fun v s1 ⟨x, H1, I1, r1, q1⟩ => ⟨σ, H1, I1, q1⟩) I.quiet hs
def tRet (te : TE) : TS := fun D σ H => te σ H D.rt
theorem aqr (he : PE X e te) : PS X (.Return (some e) pos) (tRet te) := by
 intro pins s σ H D I h
 exact wpAny_Return_some (thn (he pins s σ H _ I h) fun v s1 ⟨x, H1, I1, r1, q1⟩ => ⟨x, σ, H1, I1, r1, q1⟩)
def tIfS (c : TT) (t u : TS) : TS := fun D σ H => c σ H fun b H1 => if b = true then t D σ H1 else u D σ H1
theorem aqJ {c : Expr} {a b : List Stmt} {tc : TT} (hc : PT X c tc) (ha : PSs X a t) (hb : PSs X b u) : PS X (.If c a b pos) (tIfS tc t u) := by
 intro pins s σ H D I h
 refine wpAny_If (thn (hc pins s σ H _ I h) fun d s1 W' => ?_)
 obtain ⟨H1, I1, q1⟩ := W'
 cases d with
 | true => exact ha pins s1 σ H1 D I1 q1
 | false => exact hb pins s1 σ H1 D I1 q1
def tNever : TS := fun _ _ _ => False
end
abbrev TG := V → St → Hp → (St → Hp → Prop) → Prop
abbrev TGs := List V → St → Hp → (St → Hp → Prop) → Prop
def PG (X : Cx) (target : Expr) (t : TG) : Prop :=
 ∀ (pins : List (Addr × Obj)) (s : Shared) (σ : St) (H : Hp) (v : V) (u : Value) (Q : St → Hp → Prop), Inv X pins σ H s → RelV v u → t v σ H Q →
  wpAny (model X.prog X.w) X.A (assign target X.env u) (fun _ s' => ∃ σ' H', Inv X pins σ' H' s' ∧ Q σ' H') X.xe s
def PGs (X : Cx) (ts : List Expr) (t : TGs) : Prop :=
 ∀ (pins : List (Addr × Obj)) (s : Shared) (σ : St) (H : Hp) (vs : List V) (us : List Value) (Q : St → Hp → Prop), Inv X pins σ H s → Vals vs us → t vs σ H Q →
  wpAny (model X.prog X.w) X.A (assignInOrder ((assignEach ts X.env).map (·.2)) us) (fun _ s' => ∃ σ' H', Inv X pins σ' H' s' ∧ Q σ' H') X.xe s
abbrev TSet := V → V → V → Hp → (Hp → Prop) → Prop
def PSet (X : Cx) (t : TSet) : Prop :=
 ∀ (pins : List (Addr × Obj)) (s : Shared) (σ : St) (H : Hp) (o i v : V) (ov iv u : Value) (Q : Hp → Prop), Inv X pins σ H s → RelV o ov → RelV i iv → RelV v u → t o i v H Q →
  wpAny (model X.prog X.w) X.A (setItem ov iv u) (fun _ s' => ∃ H', Inv X pins σ H' s' ∧ Q H') X.xe s
section
variable {X : Cx} {pos : Pos}
def gName (i : Nat) : TG := fun v σ H Q => Q (σ.set i (some v)) H
theorem aqz {i : Nat} {x : Str} (hN : X.N.Nodup) (hi : X.N[i]? = some x) (hx : Loc X.env.scope x) (hf : X.fn x = true ∨ X.env.scope.names.lookup x = some .local := by first | exact .inl rfl | exact .inr rfl | assumption) : PG X (.Name x pos) (gName i) := by
 intro pins s σ H v u Q I r h
 exact wpAny_assign_Name (jqh I hN hi hx r (fun s' I' => ⟨_, H, I', h⟩) hf)
def gNil : TGs := fun vs σ H Q => vs = [] ∧ Q σ H
def gCons (t : TG) (u : TGs) : TGs := fun vs σ H Q => ∃ v r, vs = v :: r ∧ t v σ H fun σ' H' => u r σ' H' Q
theorem cqY : PGs X [] gNil := by
 intro pins s σ H vs us Q I r h
 obtain ⟨e, h⟩ := h
 subst e
 cases r
 exact assignInOrder_nil ⟨σ, H, I, h⟩
theorem aqH {e : Expr} {es : List Expr} {t : TG} {u : TGs} (h1 : PG X e t) (h2 : PGs X es u)
  (hs : (assignEach (e :: es) X.env).map (·.2) = assign e X.env :: (assignEach es X.env).map (·.2) := by rfl) : PGs X (e :: es) (gCons t u) := by
 intro pins s σ H vs us Q I r h
 obtain ⟨v, vr, e1, h⟩ := h
 subst e1
 cases r with
 | cons r rr =>
  rw [hs]
  refine assignInOrder_cons (thn (h1 pins s σ H _ _ _ I r h) fun _ s1 W' => ?_)
  obtain ⟨σ1, H1, I1, q1⟩ := W'
  exact h2 pins s1 σ1 H1 _ _ Q I1 rr q1
def gTup (K : PySem.W.Frag) (n : Nat) (t : TGs) : TG := fun v σ H Q => ∃ a xs, v = .ref a ∧ SqT K H a xs ∧ xs.length = n ∧ t xs σ H Q
theorem nqw {es : List Expr} {k : Nat} {t : TGs} {n : Nat} (hc : X.calm = true) (h : PGs X es t)
  (hn : (assignEach es X.env).length = n := by rfl) (hst : (assignEach es X.env).findIdx? (·.1) = none := by rfl) : PG X (.Tuple es k pos) (gTup X.K n t) := by
 intro pins s σ H v u Q I r hw
 obtain ⟨a, xs, e1, hq, hl, hw⟩ := hw
 subst e1
 cases r
 obtain ⟨its, rv, ht, hz⟩ := I.tuple hq
 refine assign_Tuple_tuple (I.ok.hd hc) ht (by simp [hn, ← hl, rv.length]) hst fun h' hx => ?_
 have I1 : Inv X pins σ H { s with heap := h' } := I.kept (t' := s.toks) fun b o e => hx b o (Nat.ne_of_lt (Heap.lt_size e)) e
 exact h pins _ σ H xs _ Q I1 (by simpa using rv) hw
def gSub (to ti : TE) (t : TSet) : TG := fun v σ H Q => to σ H fun o H1 => ti σ H1 fun i H2 => t o i v H2 fun H3 => Q σ H3
theorem nqo {o i : Expr} {to ti : TE} {t : TSet} (ho : PE X o to) (hi : PE X i ti) (hs : PSet X t)
  (ha : ∀ v, assign (.Subscript o i pos) X.env v = (do
   let ov ← holding [v] (eval o X.env)
   let iv ← holding [v, ov] (eval i X.env)
   standAt pos
   holding [v, ov, iv] (setItem ov iv v)
   release [v, ov, iv] []) := by intro _; rfl) : PG X (.Subscript o i pos) (gSub to ti t) := by
 intro pins s σ H v u Q I r h
 rw [ha]
 refine wpAny_bind (wpAny_holding (thn (ho pins s σ H _ I h) fun ov s1 W' => ?_))
 obtain ⟨x, H1, I1, r1, q1⟩ := W'
 refine wpAny_bind (wpAny_holding (thn (hi pins s1 σ H1 _ I1 q1) fun iv s2 W' => ?_))
 obtain ⟨y, H2, I2, r2, q2⟩ := W'
 refine wpAny_bind (wpAny_standAt (wpAny_bind (wpAny_holding (thn (hs pins s2 σ H2 x y v ov iv u _ I2 r1 r2 r q2) fun _ s3 W' => ?_))))
 obtain ⟨H3, I3, q3⟩ := W'
 exact wpAny_release ⟨σ, H3, I3, q3⟩
def tAsg (te : TE) (g : TG) : TS := fun D σ H => te σ H fun x H1 => g x σ H1 D.nx
theorem hqQ {tg e : Expr} {te : TE} {g : TG} (he : PE X e te) (hg : PG X tg g) (hs : swapsWithSole [tg] e pos.line X.env = pure false := by rfl) (hw : swappedStores [tg] e X.env = pure none := by rfl)
  (h1 : (assignEach [tg] X.env).map (·.2) = [assign tg X.env] := by rfl) : PS X (.Assign [tg] e pos) (tAsg te g) := by
 intro pins s σ H D I h
 refine wpAny_Assign_stores (thn (he pins s σ H _ I h) fun v s1 W' => ?_) hs hw
 obtain ⟨x, H1, I1, r1, q1⟩ := W'
 rw [h1]
 exact thn (hg pins s1 σ H1 x v _ I1 r1 q1) fun _ s2 q => q
theorem aqt {i : Nat} {x : Str} {e : Expr} {te : TE} {pos' : Pos} (hN : X.N.Nodup) (hi : X.N[i]? = some x) (hx : Loc X.env.scope x) (he : PE X e te) (hs : swapsWith e (some (.Name x pos')) pos.line X.env = pure false := by rfl) (hf : X.fn x = true ∨ X.env.scope.names.lookup x = some .local := by first | exact .inl rfl | exact .inr rfl | assumption) :
  PS X (.Assign [.Name x pos'] e pos) (tAsg te (gName i)) := by
 intro pins s σ H D I h
 refine wpAny_Assign_Name (thn (he pins s σ H _ I h) fun v s1 W' => ?_) hs
 obtain ⟨y, H1, I1, r1, q1⟩ := W'
 exact jqh I1 hN hi hx r1 (fun s2 I2 => ⟨_, H1, I2, q1⟩) hf
def tPar (i j : Nat) (ta : TA) : TS := fun D σ H => ta σ H fun vs H1 => ∃ v w, vs = [v, w] ∧ D.nx ((σ.set i (some v)).set j (some w)) H1
end
section
variable {X : Cx} {pos : Pos}
end
structure It where
 go : Nat → Hp → Prop
 yld : Nat → Hp → V → Hp → Prop
 stop : Nat → Hp → Prop
def FpOk (X : Cx) (pins : List (Addr × Obj)) (H : Hp) (b : Addr) : Prop :=
 H b = none ∧ b ≠ X.env.locals ∧ b ∉ X.fs ∧ (b ∈ X.ex ∨ X.s₀.heap.objs.size ≤ b) ∧ (∀ x c, X.env.cells.lookup x = some c → c ≠ b) ∧ ∀ p ∈ X.pn ++ pins, p.1 ≠ b
theorem Inv.fpOk {X : Cx} {pins : List (Addr × Obj)} {σ : St} {H H' : Hp} {s : Shared} {b : Addr} (I : Inv X pins σ H s) (hb : s.heap.objs.size ≤ b) (hn : H' b = none) : FpOk X pins H' b := by
 refine ⟨hn, Nat.ne_of_gt (Nat.lt_of_lt_of_le I.lt hb), I.nofs hb, .inr (Nat.le_trans I.sz hb), fun x c e z => ?_, fun p hp z => ?_⟩
 ·obtain ⟨v, q⟩ := I.cell x c e
  exact absurd (Nat.lt_of_lt_of_le q.lt (by rw [z]; exact hb)) (Nat.lt_irrefl _)
 ·exact absurd (Nat.lt_of_lt_of_le (Heap.lt_size (I.pin p hp).1) (by rw [z]; exact hb)) (Nat.lt_irrefl _)
structure Turn (P : Program) (w : World) (K : PySem.W.Frag) (tg : Expr) (J : It) (fp : List Addr) (it : Addr) (tn : Nat → Heap → Prop) : Prop where
 mem : it ∈ fp
 obj : ∀ i h, tn i h → ∀ b ∈ fp, ∃ o, h.get? b = some o ∧ ∀ v, o.data ≠ .cell v
 keep : ∀ i h h', tn i h → (∀ b ∈ fp, ∀ o, h.get? b = some o → h'.get? b = some o) → tn i h'
 item : ∀ (X : Cx), X.prog = P → X.w = w → X.K = K → X.calm = true → ∀ (i : Nat) (pins : List (Addr × Obj)) (s : Shared) (σ : St) (H : Hp) (E : Value → Shared → Prop), Inv X pins σ H s → (∀ b ∈ fp, FpOk X pins H b) → tn i s.heap → J.go i H →
  wpAny (model P w) X.A (pyNext (.ref it)) (fun r s1 => ∃ u, r = some u ∧
   wpAny (model P w) X.A (letOwnedTupleGo tg (.ref it) u) (fun _ s2 => ∃ x H', Inv X pins σ H' s2 ∧ RelV x u ∧ J.yld i H x H' ∧ tn (i + 1) s2.heap ∧ ∀ b ∈ fp, H' b = none) E s1) E s
 done : ∀ (X : Cx), X.prog = P → X.w = w → X.K = K → X.calm = true → ∀ (i : Nat) (pins : List (Addr × Obj)) (s : Shared) (σ : St) (H : Hp) (E : Value → Shared → Prop), Inv X pins σ H s → (∀ b ∈ fp, FpOk X pins H b) → tn i s.heap → J.stop i H →
  wpAny (model P w) X.A (pyNext (.ref it)) (fun r s1 => r = none ∧ Inv X pins σ H s1) E s
 self : ∀ (A : Around) (i : Nat) (s : Shared) (Q : Value → Shared → Prop) (E : Value → Shared → Prop), tn i s.heap → Q (.ref it) s → wpAny (model P w) A (pyIter (.ref it)) Q E s
abbrev TI := St → Hp → (It → Hp → Prop) → Prop
def PIE (X : Cx) (pins : List (Addr × Obj)) (σ : St) (tg : Expr) (R : It → Hp → Prop) (itv : Value) (s2 : Shared) : Prop :=
 ∃ (it : Addr) (fp : List Addr) (tn : Nat → Heap → Prop) (J : It) (H' : Hp), itv = .ref it ∧ Inv X pins σ H' s2 ∧ Turn X.prog X.w X.K tg J fp it tn ∧ tn 0 s2.heap ∧ (∀ b ∈ fp, FpOk X pins H' b) ∧ R J H'
def PI (X : Cx) (tg iter : Expr) (wi : TI) : Prop :=
 ∀ (pins : List (Addr × Obj)) (s : Shared) (σ : St) (H : Hp) (R : It → Hp → Prop), Inv X pins σ H s → wi σ H R →
  wpAny (model X.prog X.w) X.A (eval iter X.env) (fun v s1 => wpAny (model X.prog X.w) X.A (pyIter v) (PIE X pins σ tg R) X.xe s1) X.xe s
theorem kqz {M : Model} {A : Around} {E : Value → Shared → Prop} {s : Shared} {tg : Expr} {it : Addr} {u : Value} {o : Obj} {n : String} {vs : Array Value} {Q : Unit → Shared → Prop} (ho : s.heap.get? it = some o) (hc : o.cls = .type n) (hd : o.data = .fields vs)
  (hn : ["enumerate", "zip", "dict_itemiterator", "dict_reverseitemiterator", "odict_iterator", "itertools.zip_longest", "itertools.pairwise"].contains n = false) (hQ : Q () s) : wpAny M A (letOwnedTupleGo tg (.ref it) u) Q E s := by
 unfold letOwnedTupleGo
 cases tg <;> first
  | exact wpAny_pure hQ
  | (cases u <;> first
    | exact wpAny_pure hQ
    | (refine wpAny_bind (wpAny_load ho ?_)
       rw [hc, hd]
       show wpAny M A (if (["enumerate", "zip", "dict_itemiterator", "dict_reverseitemiterator", "odict_iterator", "itertools.zip_longest", "itertools.pairwise"].contains n && vs[0]? == some (rawInt _)) = true then _ else _) Q E s
       rw [if_neg (by intro h; rw [hn, Bool.false_and] at h; cases h)]
       exact wpAny_pure hQ))
def Itl (K : PySem.W.Frag) (a : Addr) : It :=
 ⟨fun i H => ∃ xs x, SqL K H a xs ∧ xs[i]? = some x, fun i H x H' => H' = H ∧ ∀ xs, SqL K H a xs → xs[i]? = some x, fun i H => ∃ xs, SqL K H a xs ∧ xs.length ≤ i⟩
def Itt (K : PySem.W.Frag) (a : Addr) : It :=
 ⟨fun i H => ∃ xs x, SqT K H a xs ∧ xs[i]? = some x, fun i H x H' => H' = H ∧ ∀ xs, SqT K H a xs → xs[i]? = some x, fun i H => ∃ xs, SqT K H a xs ∧ xs.length ≤ i⟩
def Itr (lo : Int) (n : Nat) : It := ⟨fun i _ => i < n, fun i H x H' => H' = H ∧ x = .int (lo + i), fun i _ => n ≤ i⟩
theorem lqr {P : Program} {w : World} {K : PySem.W.Frag} {tg : Expr} (a it : Addr) : Turn P w K tg (Itl K a) [it] it (fun i h => h.IsListIter it a i) where
 mem := by simp
 obj := fun i h st b hb => by
  have e : b = it := by simpa using hb
  subst e
  obtain ⟨o, e, c, d⟩ := st
  exact ⟨o, e, fun v z => by rw [d] at z; cases z⟩
 keep := fun i h h' st k => st.at fun o e => k it (by simp) o e
 item := by
  intro X hP hw hK hc i pins s σ H E I hf st hg
  subst hP hw hK
  obtain ⟨xs, x, hq, hx⟩ := hg
  obtain ⟨its, rv, p, hz⟩ := I.list hq
  obtain ⟨u, hu, ru⟩ := rv.get hx
  obtain ⟨f0, f1, f2, f3, f4, f5⟩ := hf it (by simp)
  refine wpAny_pyNext_list_item st p.isList (x := u) (by simpa using hu) fun h' st' sb => ?_
  have I1 : Inv X pins σ H { s with heap := h' } := I.turned (t' := s.toks) (fun b o hb e => (sb.2 b hb).trans e) f0 f1 f3 f4 f5
  obtain ⟨o, e, c, d⟩ := id st'
  exact ⟨u, rfl, kqz (s := { s with heap := h' }) e c d (by decide) ⟨x, H, I1, ru, ⟨rfl, fun ys hy => by rw [I.list_inj hy hq]; exact hx⟩, st', fun b hb => (hf b hb).1⟩⟩
 done := by
  intro X hP hw hK hc i pins s σ H E I hf st hg
  subst hP hw hK
  obtain ⟨xs, hq, hx⟩ := hg
  obtain ⟨its, rv, p, hz⟩ := I.list hq
  obtain ⟨f0, f1, f2, f3, f4, f5⟩ := hf it (by simp)
  have hl := rv.length
  exact wpAny_pyNext_list_end (I.ok.hd hc) st p.isList (by simp; omega) fun h' eb => ⟨rfl, I.turned (t' := s.toks) (fun b o hb e => eb b o hb e) f0 f1 f3 f4 f5⟩
 self := fun _ _ _ _ _ st h => wpAny_pyIter_listiter st h
theorem jqX {P : Program} {w : World} {K : PySem.W.Frag} {tg : Expr} (a it : Addr) : Turn P w K tg (Itt K a) [it] it (fun i h => h.IsTupleIter it a i) where
 mem := by simp
 obj := fun i h st b hb => by
  have e : b = it := by simpa using hb
  subst e
  obtain ⟨o, e, c, d⟩ := st
  exact ⟨o, e, fun v z => by rw [d] at z; cases z⟩
 keep := fun i h h' st k => st.at fun o e => k it (by simp) o e
 item := by
  intro X hP hw hK hc i pins s σ H E I hf st hg
  subst hP hw hK
  obtain ⟨xs, x, hq, hx⟩ := hg
  obtain ⟨its, rv, p, hz⟩ := I.tuple hq
  obtain ⟨u, hu, ru⟩ := rv.get hx
  obtain ⟨f0, f1, f2, f3, f4, f5⟩ := hf it (by simp)
  refine wpAny_pyNext_tuple_item st (show s.heap.IsTuple a its.toArray from p) (x := u) (by simpa using hu) fun h' st' sb => ?_
  have I1 : Inv X pins σ H { s with heap := h' } := I.turned (t' := s.toks) (fun b o hb e => (sb.2 b hb).trans e) f0 f1 f3 f4 f5
  obtain ⟨o, e, c, d⟩ := id st'
  exact ⟨u, rfl, kqz (s := { s with heap := h' }) e c d (by decide) ⟨x, H, I1, ru, ⟨rfl, fun ys hy => by rw [I.tuple_inj hy hq]; exact hx⟩, st', fun b hb => (hf b hb).1⟩⟩
 done := by
  intro X hP hw hK hc i pins s σ H E I hf st hg
  subst hP hw hK
  obtain ⟨xs, hq, hx⟩ := hg
  obtain ⟨its, rv, p, hz⟩ := I.tuple hq
  obtain ⟨f0, f1, f2, f3, f4, f5⟩ := hf it (by simp)
  have hl := rv.length
  exact wpAny_pyNext_tuple_end (I.ok.hd hc) st (show s.heap.IsTuple a its.toArray from p) (by simp; omega) fun h' eb => ⟨rfl, I.turned (t' := s.toks) (fun b o hb e => eb b o hb e) f0 f1 f3 f4 f5⟩
 self := fun _ _ _ _ _ st h => wpAny_pyIter_tupleiter st h
theorem jqS {P : Program} {w : World} {K : PySem.W.Frag} {tg : Expr} (it : Addr) (lo : Int) (n : Nat) : Turn P w K tg (Itr lo n) [it] it (fun i h => IsRangeIter h it (lo + (i : Nat) * 1) ((n : Int) - (i : Nat)) 1) where
 mem := by simp
 obj := fun i h st b hb => by
  have e : b = it := by simpa using hb
  subst e
  exact ⟨_, st, fun v z => by
   have z' : Data.fields _ = Data.cell v := z
   cases z'⟩
 keep := fun i h h' st k => k it (by simp) _ st
 item := by
  intro X hP hw hK hc i pins s σ H E I hf st hg
  subst hP hw hK
  obtain ⟨f0, f1, f2, f3, f4, f5⟩ := hf it (by simp)
  have W := Walks.range (prog := X.prog) (w := X.w) (I.ok.hd hc) it lo 1 n
  refine W.item i s _ _ hg st fun v h' tk hv st' kk => ?_
  obtain ⟨t, rfl⟩ := hv
  have I1 : Inv X pins σ H { s with heap := h', toks := tk } := I.turned (fun b o hb e => kk b o (by simpa using hb) e) f0 f1 f3 f4 f5
  refine ⟨_, rfl, kqz (s := { s with heap := h', toks := tk }) (n := "range_iterator") st' rfl rfl (by decide) ⟨.int (lo + i), H, I1, ⟨t, ?_⟩, ⟨rfl, rfl⟩, st', fun b hb => (hf b hb).1⟩⟩
  rw [Int.mul_one]
 done := by
  intro X hP hw hK hc i pins s σ H E I hf st hg
  subst hP hw hK
  obtain ⟨f0, f1, f2, f3, f4, f5⟩ := hf it (by simp)
  exact wpAny_pyNext_range_end (I.ok.hd hc) st (by have : n ≤ i := hg; omega) fun h' eb => ⟨rfl, I.turned (t' := s.toks) (fun b o hb e => eb b o hb e) f0 f1 f3 f4 f5⟩
 self := fun _ _ _ _ _ st h => wpAny_pyIter_rangeiter st h
section
variable {X : Cx} {tg : Expr}
def iList (K : PySem.W.Frag) (tl : TE) : TI := fun σ H R => tl σ H fun x H1 => ∃ a, x = .ref a ∧ (∃ xs, SqL K H1 a xs) ∧ R (Itl K a) H1
def iTup (K : PySem.W.Frag) (tl : TE) : TI := fun σ H R => tl σ H fun x H1 => ∃ a, x = .ref a ∧ (∃ xs, SqT K H1 a xs) ∧ R (Itt K a) H1
theorem nqx {l : Expr} {tl : TE} (hl : PE X l tl) : PI X tg l (iList X.K tl) := by
 intro pins s σ H R I h
 refine thn (hl pins s σ H _ I h) fun v s1 W' => ?_
 obtain ⟨x, H1, I1, r1, q1⟩ := W'
 obtain ⟨a, e, ⟨xs, hq⟩, q⟩ := q1
 subst e
 cases r1
 obtain ⟨its, rv, p, hz⟩ := I1.list hq
 refine wpAny_pyIter_list p.isList ?_
 refine ⟨s1.heap.objs.size, [s1.heap.objs.size], _, _, H1, rfl, I1.kept (t' := s1.toks) fun b o e => Heap.get?_push_of_some _ e, lqr a _, ⟨_, Heap.get?_push_size _ rfl, rfl, rfl⟩, fun b hb => ?_, q⟩
 have e : b = s1.heap.objs.size := by simpa using hb
 subst e
 exact I1.fpOk (Nat.le_refl _) (I1.hok.fresh (Nat.le_refl _))
theorem qqi {l : Expr} {tl : TE} (hl : PE X l tl) : PI X tg l (iTup X.K tl) := by
 intro pins s σ H R I h
 refine thn (hl pins s σ H _ I h) fun v s1 W' => ?_
 obtain ⟨x, H1, I1, r1, q1⟩ := W'
 obtain ⟨a, e, ⟨xs, hq⟩, q⟩ := q1
 subst e
 cases r1
 obtain ⟨its, rv, p, hz⟩ := I1.tuple hq
 refine wpAny_pyIter_tuple (show s1.heap.IsTuple a its.toArray from p) ?_
 refine ⟨s1.heap.objs.size, [s1.heap.objs.size], _, _, H1, rfl, I1.kept (t' := s1.toks) fun b o e => Heap.get?_push_of_some _ e, jqX a _, ⟨_, Heap.get?_push_size _ rfl, rfl, rfl⟩, fun b hb => ?_, q⟩
 have e : b = s1.heap.objs.size := by simpa using hb
 subst e
 exact I1.fpOk (Nat.le_refl _) (I1.hok.fresh (Nat.le_refl _))
theorem mqj {pins : List (Addr × Obj)} {σ : St} {H : Hp} {s : Shared} {R : It → Hp → Prop} {E : Value → Shared → Prop} {lo hi : Int} {t u v : Tok} {tk : Nat} (I : Inv X pins σ H s) (h1 : -(2 ^ 62) ≤ lo) (h2 : lo < 2 ^ 62) (h3 : -(2 ^ 62) ≤ hi) (h4 : hi < 2 ^ 62)
  (q : R (Itr lo (hi - lo).toNat) H) : wpAny (model X.prog X.w) X.A (pyIter (.ref s.heap.objs.size)) (PIE X pins σ tg R) E { s with heap := s.heap.push { cls := .type "range", data := .fields #[.int lo t, .int hi u, .int 1 v] }, toks := tk } := by
 refine wpAny_pyIter_range (IsRange.new ..) (small_one h1 h2 h3 h4) ?_
 have I1 : Inv X pins σ H { s with heap := s.heap.push { cls := .type "range", data := .fields #[.int lo t, .int hi u, .int 1 v] }, toks := tk } := I.kept fun b o e => Heap.get?_push_of_some _ e
 refine ⟨(s.heap.push { cls := .type "range", data := .fields #[.int lo t, .int hi u, .int 1 v] }).objs.size, [(s.heap.push { cls := .type "range", data := .fields #[.int lo t, .int hi u, .int 1 v] }).objs.size], _, _, H, rfl,
  I1.kept (t' := tk) fun b o e => Heap.get?_push_of_some _ e, jqS _ lo (hi - lo).toNat, ?_, fun b hb => ?_, q⟩
 ·have e1 : lo + ((0 : Nat) : Int) * 1 = lo := by simp
  have e2 : (((hi - lo).toNat : Nat) : Int) - ((0 : Nat) : Int) = Builtin.Range.rangeSize lo hi 1 := by rw [rangeSize_one]; split <;> omega
  show IsRangeIter _ _ (lo + ((0 : Nat) : Int) * 1) ((((hi - lo).toNat : Nat) : Int) - ((0 : Nat) : Int)) 1
  rw [e1, e2]
  exact Heap.get?_push_size _ rfl
 ·have e : b = (s.heap.push { cls := .type "range", data := .fields #[.int lo t, .int hi u, .int 1 v] }).objs.size := by simpa using hb
  subst e
  exact I1.fpOk (Nat.le_refl _) (I1.hok.fresh (Nat.le_refl _))
def iRng1 (ta : TA) : TI := fun σ H R => ta σ H fun vs H1 => ∃ j : Int, vs = [.int j] ∧ -(2 ^ 62) ≤ j ∧ j < 2 ^ 62 ∧ R (Itr 0 j.toNat) H1
theorem cqp {a : Expr} {ta : TA} {p pos : Pos} (hg : Gl X "range") (hm : X.mg "range" = none) (ha : PA X [a] ta) (hs : starEach [a] X.env = [(false, eval a X.env)] := by rfl) : PI X tg (.Call (.Name "range" p) [a] [] pos) (iRng1 ta) := by
 intro pins s σ H R I h
 refine Call_ (fq5 I hg hm boot_range (PyProof.Rows.callWith_type1 (thn (ha pos pins s σ H _ I h) fun us s1 W' => ?_) hs rfl))
 obtain ⟨vs, H1, I1, r1, q1⟩ := W'
 obtain ⟨j, e, q1, q2, q⟩ := q1
 subst e
 cases r1 with
 | cons r rr =>
  cases rr
  obtain ⟨t, rfl⟩ := r
  exact call_range_1 (mqj I1 (by omega) (by omega) q1 q2 (by simpa using q))
def tFor (wi : TI) (g : TG) (tb : TS) : TS := fun D σ H => wi σ H fun J H1 => ∃ W : Nat → Nat → St → Hp → Prop, (∃ m, W 0 m σ H1) ∧ ∀ i m σ H, W i m σ H →
 (J.stop i H ∧ D.nx σ H) ∨ (J.go i H ∧ ∃ N : St → Hp → Prop, (∀ σ' H', N σ' H' → ∃ m', m' < m ∧ W (i + 1) m' σ' H') ∧ ∀ x H', J.yld i H x H' → g x σ H' fun σ2 H2 => tb { D with nx := N, ct := N, bk := D.nx } σ2 H2)
def pinsAt (fp : List Addr) (h : Heap) : List (Addr × Obj) := fp.filterMap fun b => (h.get? b).map fun o => (b, o)
theorem cql {fp : List Addr} {h : Heap} {b : Addr} {o : Obj} (hb : b ∈ fp) (e : h.get? b = some o) : (b, o) ∈ pinsAt fp h := List.mem_filterMap.mpr ⟨b, hb, by rw [e]; rfl⟩
theorem kqp {fp : List Addr} {h : Heap} {p : Addr × Obj} (hp : p ∈ pinsAt fp h) : p.1 ∈ fp ∧ h.get? p.1 = some p.2 := by
 obtain ⟨b, hb, e⟩ := List.mem_filterMap.mp hp
 cases q : h.get? b with
 | none => rw [q] at e; cases e
 | some o =>
  rw [q] at e
  have e' : (b, o) = p := Option.some.inj e
  subst e'
  exact ⟨hb, q⟩
theorem Inv.pinned {pins : List (Addr × Obj)} {σ : St} {H : Hp} {s : Shared} {fp : List Addr} (I : Inv X pins σ H s) (hf : ∀ b ∈ fp, FpOk X pins H b) (ho : ∀ b ∈ fp, ∃ o, s.heap.get? b = some o ∧ ∀ v, o.data ≠ .cell v) : Inv X (pins ++ pinsAt fp s.heap) σ H s :=
 I.pins_of fun p hp => (List.mem_append.mp hp).elim (fun z => I.pin p (List.mem_append_right _ z)) fun z => by
  obtain ⟨hb, e⟩ := kqp z
  obtain ⟨f0, f1, f2, _⟩ := hf p.1 hb
  obtain ⟨o, e', d⟩ := ho p.1 hb
  rw [e] at e'; cases e'
  exact ⟨e, f0, f1, f2, d⟩
theorem Inv.unpinned {pins pl : List (Addr × Obj)} {σ : St} {H : Hp} {s : Shared} (I : Inv X (pins ++ pl) σ H s) : Inv X pins σ H s := I.pins_of fun p hp => I.pin p (List.mem_append_right _ (List.mem_append_left _ hp))
theorem bq1 {iter : Expr} {body : List Stmt} {wi : TI} {g : TG} {tb : TS} {pos : Pos} (hp : PassesOwn (model X.prog X.w) X.A X.env X.xe) (hc : X.calm = true) (hi : PI X tg iter wi) (hg : PG X tg g) (hb : PSs X body tb)
  (hs : ∀ x, foldedSetIterable iter X.env x = pure x := by intro _; rfl) : PS X (.For tg iter body [] pos) (tFor wi g tb) := by
 intro pins s σ H D I h
 refine wpAny_For (thn (hi pins s σ H _ I h) fun v s1 h1 => thn h1 fun itv s2 h2 => ?_) hs
 obtain ⟨it, fp, tn, J, H2, e, I2, T, st2, f2, W, ⟨m0, w0⟩, turn⟩ := h2
 subst e
 have stat : ∀ {H' : Hp}, (∀ b ∈ fp, H' b = none) → ∀ b ∈ fp, FpOk X pins H' b := fun hn b hb => ⟨hn b hb, (f2 b hb).2⟩
 refine codeAny_forLoop_any (fun n s' => ∃ i σ' H', Inv X pins σ' H' s' ∧ tn i s'.heap ∧ (∀ b ∈ fp, H' b = none) ∧ W i n σ' H') ?_ m0 ⟨0, σ, H2, I2, st2, fun b hb => (f2 b hb).1, w0⟩
 rintro n s3 ⟨i, σ3, H3, I3, st3, fr3, w3⟩
 rcases turn i n σ3 H3 w3 with ⟨stop, qn⟩ | ⟨go, N, hN, step⟩
 ·refine wpAny_passesOwn hp (thn (T.done X rfl rfl rfl hc i pins s3 σ3 H3 X.xe I3 (stat fr3) st3 stop) fun r s4 W' => ?_)
  obtain ⟨hr, I4⟩ := W'
  subst hr
  exact wpAny_execs_nil ⟨σ3, H3, I4, qn⟩
 ·refine wpAny_passesOwn hp (thn (T.item X rfl rfl rfl hc i pins s3 σ3 H3 X.xe I3 (stat fr3) st3 go) fun r s4 W' => ?_)
  obtain ⟨u, hr, h4⟩ := W'
  subst hr
  refine wpAny_passesOwn hp (thn h4 fun _ s5 W' => ?_)
  obtain ⟨x, H5, I5, r5, y5, st5, fr5⟩ := W'
  have I5' := I5.pinned (stat fr5) (T.obj _ _ st5)
  refine wpAny_passesOwn hp (thn (hg _ s5 σ3 H5 x u _ I5' r5 (step x H5 y5)) fun _ s6 W' => ?_)
  obtain ⟨σ6, H6, I6, q6⟩ := W'
  refine wpAny_passesOwn hp (thn (hb _ s6 σ6 H6 _ I6 q6) fun f s7 q7 => ?_)
  have again : ∀ {σ7 : St} {H7 : Hp}, Inv X (pins ++ pinsAt fp s5.heap) σ7 H7 s7 → N σ7 H7 → ∃ m, m < n ∧ ∃ i σ' H', Inv X pins σ' H' s7 ∧ tn i s7.heap ∧ (∀ b ∈ fp, H' b = none) ∧ W i m σ' H' := fun {σ7 H7} I7 n7 => by
   obtain ⟨m', hm, w7⟩ := hN σ7 H7 n7
   refine ⟨m', hm, i + 1, σ7, H7, I7.unpinned, T.keep _ _ _ st5 fun b hb o e => (I7.pin (b, o) (List.mem_append_right _ (List.mem_append_right _ (cql hb e)))).1, fun b hb => ?_, w7⟩
   obtain ⟨o, e, d⟩ := T.obj _ _ st5 b hb
   exact (I7.pin (b, o) (List.mem_append_right _ (List.mem_append_right _ (cql hb e)))).2.1
  cases f with
  | next => obtain ⟨σ7, H7, I7, n7⟩ := q7; exact again I7 n7
  | cont => obtain ⟨σ7, H7, I7, n7⟩ := q7; exact again I7 n7
  | brk => obtain ⟨σ7, H7, I7, q7⟩ := q7; exact ⟨σ7, H7, I7.unpinned, q7⟩
  | ret v => obtain ⟨x7, σ7, H7, I7, r7, q7⟩ := q7; exact ⟨x7, σ7, H7, I7.unpinned, r7, q7⟩
end
theorem mqu {K : PySem.W.Frag} {a : Addr} {xs : List V} {g : TG} {tb : TS} {D : Ends} {σ : St} {H : Hp} (Pv : Nat → St → Hp → Prop) (h0 : Pv 0 σ H) (hl : ∀ i σ H, i ≤ xs.length → Pv i σ H → SqL K H a xs)
  (hs : ∀ i x σ H, xs[i]? = some x → Pv i σ H → g x σ H fun σ2 H2 => tb { D with nx := Pv (i + 1), ct := Pv (i + 1), bk := D.nx } σ2 H2) (hd : ∀ σ H, Pv xs.length σ H → D.nx σ H) :
  ∃ W : Nat → Nat → St → Hp → Prop, (∃ m, W 0 m σ H) ∧ ∀ i m σ H, W i m σ H →
   ((Itl K a).stop i H ∧ D.nx σ H) ∨ ((Itl K a).go i H ∧ ∃ N : St → Hp → Prop, (∀ σ' H', N σ' H' → ∃ m', m' < m ∧ W (i + 1) m' σ' H') ∧ ∀ x H', (Itl K a).yld i H x H' → g x σ H' fun σ2 H2 => tb { D with nx := N, ct := N, bk := D.nx } σ2 H2) := by
 refine ⟨fun i m σ H => m = xs.length - i ∧ i ≤ xs.length ∧ Pv i σ H, ⟨xs.length, by simp, Nat.zero_le _, h0⟩, ?_⟩
 rintro i m σ H ⟨rfl, hi, p⟩
 have q := hl i σ H hi p
 by_cases hlt : i < xs.length
 ·refine .inr ⟨⟨xs, xs[i], q, by simp [hlt]⟩, Pv (i + 1), fun σ' H' p' => ⟨xs.length - (i + 1), by omega, rfl, hlt, p'⟩, fun x H' y => ?_⟩
  obtain ⟨e, y⟩ := y
  subst e
  exact hs i x σ _ (y xs q) p
 ·have e : i = xs.length := by omega
  subst e
  exact .inl ⟨⟨xs, q, Nat.le_refl _⟩, hd σ H p⟩
theorem nqM {K : PySem.W.Frag} {a : Addr} {xs : List V} {g : TG} {tb : TS} {D : Ends} {σ : St} {H : Hp} (Pv : Nat → St → Hp → Prop) (h0 : Pv 0 σ H) (hl : ∀ i σ H, i ≤ xs.length → Pv i σ H → SqT K H a xs)
  (hs : ∀ i x σ H, xs[i]? = some x → Pv i σ H → g x σ H fun σ2 H2 => tb { D with nx := Pv (i + 1), ct := Pv (i + 1), bk := D.nx } σ2 H2) (hd : ∀ σ H, Pv xs.length σ H → D.nx σ H) :
  ∃ W : Nat → Nat → St → Hp → Prop, (∃ m, W 0 m σ H) ∧ ∀ i m σ H, W i m σ H →
   ((Itt K a).stop i H ∧ D.nx σ H) ∨ ((Itt K a).go i H ∧ ∃ N : St → Hp → Prop, (∀ σ' H', N σ' H' → ∃ m', m' < m ∧ W (i + 1) m' σ' H') ∧ ∀ x H', (Itt K a).yld i H x H' → g x σ H' fun σ2 H2 => tb { D with nx := N, ct := N, bk := D.nx } σ2 H2) := by
 refine ⟨fun i m σ H => m = xs.length - i ∧ i ≤ xs.length ∧ Pv i σ H, ⟨xs.length, by simp, Nat.zero_le _, h0⟩, ?_⟩
 rintro i m σ H ⟨rfl, hi, p⟩
 have q := hl i σ H hi p
 by_cases hlt : i < xs.length
 ·refine .inr ⟨⟨xs, xs[i], q, by simp [hlt]⟩, Pv (i + 1), fun σ' H' p' => ⟨xs.length - (i + 1), by omega, rfl, hlt, p'⟩, fun x H' y => ?_⟩
  obtain ⟨e, y⟩ := y
  subst e
  exact hs i x σ _ (y xs q) p
 ·have e : i = xs.length := by omega
  subst e
  exact .inl ⟨⟨xs, q, Nat.le_refl _⟩, hd σ H p⟩
theorem lqx {lo : Int} {n : Nat} {g : TG} {tb : TS} {D : Ends} {σ : St} {H : Hp} (Pv : Nat → St → Hp → Prop) (h0 : Pv 0 σ H)
  (hs : ∀ i σ H, i < n → Pv i σ H → g (.int (lo + i)) σ H fun σ2 H2 => tb { D with nx := Pv (i + 1), ct := Pv (i + 1), bk := D.nx } σ2 H2) (hd : ∀ σ H, Pv n σ H → D.nx σ H) :
  ∃ W : Nat → Nat → St → Hp → Prop, (∃ m, W 0 m σ H) ∧ ∀ i m σ H, W i m σ H →
   ((Itr lo n).stop i H ∧ D.nx σ H) ∨ ((Itr lo n).go i H ∧ ∃ N : St → Hp → Prop, (∀ σ' H', N σ' H' → ∃ m', m' < m ∧ W (i + 1) m' σ' H') ∧ ∀ x H', (Itr lo n).yld i H x H' → g x σ H' fun σ2 H2 => tb { D with nx := N, ct := N, bk := D.nx } σ2 H2) := by
 refine ⟨fun i m σ H => m = n - i ∧ i ≤ n ∧ Pv i σ H, ⟨n, by simp, Nat.zero_le _, h0⟩, ?_⟩
 rintro i m σ H ⟨rfl, hi, p⟩
 by_cases hlt : i < n
 ·refine .inr ⟨hlt, Pv (i + 1), fun σ' H' p' => ⟨n - (i + 1), by omega, rfl, hlt, p'⟩, fun x H' y => ?_⟩
  obtain ⟨e, y⟩ := y
  subst e y
  exact hs i σ _ hlt p
 ·have e : i = n := by omega
  subst e
  exact .inl ⟨Nat.le_refl _, hd σ H p⟩
abbrev R2 := V → V → Hp → VK → Prop
def OpR (X : Cx) (f : Value → Value → Sem Value) (r : R2) : Prop :=
 ∀ (pins : List (Addr × Obj)) (s : Shared) (σ : St) (H : Hp) (x y : V) (v u : Value) (Q : VK), Inv X pins σ H s → RelV x v → RelV y u → r x y H Q →
  wpAny (model X.prog X.w) X.A (f v u) (EP X pins σ Q) X.xe s
def UnR (X : Cx) (f : Value → Sem Value) (r : V → Hp → VK → Prop) : Prop :=
 ∀ (pins : List (Addr × Obj)) (s : Shared) (σ : St) (H : Hp) (x : V) (v : Value) (Q : VK), Inv X pins σ H s → RelV x v → r x H Q →
  wpAny (model X.prog X.w) X.A (f v) (EP X pins σ Q) X.xe s
def CallR (X : Cx) (f : Value) (r : List V → Hp → VK → Prop) : Prop :=
 ∀ (pins : List (Addr × Obj)) (s : Shared) (σ : St) (H : Hp) (xs : List V) (us : List Value) (Q : VK), Inv X pins σ H s → Vals xs us → r xs H Q →
  wpAny (model X.prog X.w) X.A (call f us) (EP X pins σ Q) X.xe s
def tOp (r : R2) (ta tb : TE) : TE := fun σ H Q => ta σ H fun x H1 => tb σ H1 fun y H2 => r x y H2 Q
def tUn (r : V → Hp → VK → Prop) (ta : TE) : TE := fun σ H Q => ta σ H fun x H1 => r x H1 Q
def rI (C : Int → Int → Prop) (g : Int → Int → V) : R2 := fun x y H Q => ∃ i j, x = .int i ∧ y = .int j ∧ C i j ∧ Q (g i j) H
def rI0 (g : Int → Int → V) : R2 := fun x y H Q => ∃ i j, x = .int i ∧ y = .int j ∧ Q (g i j) H
def rU (g : Int → V) : V → Hp → VK → Prop := fun x H Q => ∃ i, x = .int i ∧ Q (g i) H
section
variable {X : Cx} {a b c : Expr} {ta tb tc : TE} {pos : Pos}
theorem binT (ha : PE X a ta) (hb : PE X b tb) {pins : List (Addr × Obj)} {s : Shared} {σ : St} {H : Hp} {R : V → V → Hp → Prop} (I : Inv X pins σ H s)
  (h : ta σ H fun x H1 => tb σ H1 fun y H2 => R x y H2) {Q : Value → Shared → Prop} {f : Value → Value → Sem Value}
  (hf : ∀ v u s2 x y H2, Inv X pins σ H2 s2 → RelV x v → RelV y u → R x y H2 → wpAny (model X.prog X.w) X.A (f v u) Q X.xe s2) :
  wpAny (model X.prog X.w) X.A (eval a X.env) (fun v s₁ => wpAny (model X.prog X.w) X.A (eval b X.env) (fun u s₂ => wpAny (model X.prog X.w) X.A (f v u) Q X.xe s₂) X.xe s₁) X.xe s := by
 refine thn (ha pins s σ H _ I h) fun v s1 W' => ?_
 obtain ⟨x, H1, I1, r1, q1⟩ := W'
 refine thn (hb pins s1 σ H1 _ I1 q1) fun u s2 W' => ?_
 obtain ⟨y, H2, I2, r2, q2⟩ := W'
 exact hf v u s2 x y H2 I2 r1 r2 q2
theorem aqn {op : Operator} {r : R2} (ho : OpR X (binaryOp op) r) (ha : PE X a ta) (hb : PE X b tb) : PE X (.BinOp a op b pos) (tOp r ta tb) := by
 intro pins s σ H Q I h
 exact wpAny_BinOp (binT ha hb I h fun v u s2 x y H2 I2 rx ry q => ho pins s2 σ H2 x y v u Q I2 rx ry q)
theorem kqa {op : UnaryOp} {r : V → Hp → VK → Prop} (ho : UnR X (unaryOp op) r) (ha : PE X a ta) : PE X (.UnaryOp op a pos) (tUn r ta) := by
 intro pins s σ H Q I h
 exact UnaryOp_ (thn (ha pins s σ H _ I h) fun v s1 ⟨x, H1, I1, r1, q1⟩ => ho pins s1 σ H1 x v Q I1 r1 q1)
theorem opI {f : Value → Value → Sem Value} {C : Int → Int → Prop} {g : Int → Int → Int}
  (rule : ∀ (i j : Int) (t u : Tok) (s : Shared) (Q : Value → Shared → Prop) (E : Value → Shared → Prop), C i j → Q (.int (g i j) s.toks) { s with toks := s.toks + 1 } → wpAny (model X.prog X.w) X.A (f (.int i t) (.int j u)) Q E s) :
  OpR X f (rI C fun i j => .int (g i j)) := by
 intro pins s σ H x y v u Q I rx ry h
 obtain ⟨i, j, rfl, rfl, hc, q⟩ := h
 obtain ⟨t, rfl⟩ := rx
 obtain ⟨t', rfl⟩ := ry
 exact rule i j t t' s _ _ hc ⟨.int (g i j), H, I.tok _, ⟨_, rfl⟩, q⟩
theorem opI0 {f : Value → Value → Sem Value} {g : Int → Int → Int}
  (rule : ∀ (i j : Int) (t u : Tok) (s : Shared) (Q : Value → Shared → Prop) (E : Value → Shared → Prop), Q (.int (g i j) s.toks) { s with toks := s.toks + 1 } → wpAny (model X.prog X.w) X.A (f (.int i t) (.int j u)) Q E s) :
  OpR X f (rI0 fun i j => .int (g i j)) := by
 intro pins s σ H x y v u Q I rx ry h
 obtain ⟨i, j, rfl, rfl, q⟩ := h
 obtain ⟨t, rfl⟩ := rx
 obtain ⟨t', rfl⟩ := ry
 exact rule i j t t' s _ _ ⟨.int (g i j), H, I.tok _, ⟨_, rfl⟩, q⟩
theorem opB0 {f : Value → Value → Sem Value} {g : Int → Int → Bool}
  (rule : ∀ (i j : Int) (t u : Tok) (s : Shared) (Q : Value → Shared → Prop) (E : Value → Shared → Prop), Q (.bool (g i j)) s → wpAny (model X.prog X.w) X.A (f (.int i t) (.int j u)) Q E s) :
  OpR X f (rI0 fun i j => .bl (g i j)) := by
 intro pins s σ H x y v u Q I rx ry h
 obtain ⟨i, j, rfl, rfl, q⟩ := h
 obtain ⟨t, rfl⟩ := rx
 obtain ⟨t', rfl⟩ := ry
 exact rule i j t t' s _ _ ⟨.bl (g i j), H, I, rfl, q⟩
def CDiv (i j : Int) : Prop := 0 < j ∧ j < 1073741824
def CPow (i j : Int) : Prop := 0 ≤ j ∧ j ≤ 1000000 ∧ i.natAbs < 2 ^ 64
def CMul (i j : Int) : Prop := (-(2 ^ 64) < i ∧ i < 2 ^ 64) ∨ (-(2 ^ 64) < j ∧ j < 2 ^ 64)
theorem CMul.ok {i j : Int} (h : CMul i j) : IntMulOk i j := by
 rcases h with ⟨h1, h2⟩ | ⟨h1, h2⟩
 ·exact .of_left (intBits_le_64 h1 h2)
 ·exact .of_right (intBits_le_64 h1 h2)
theorem pqH : OpR X (binaryOp .Add) (rI0 fun i j => .int (i + j)) := opI0 fun _ _ _ _ _ _ _ q => add_int q
theorem gqX : OpR X (binaryOp .Sub) (rI0 fun i j => .int (i - j)) := opI0 fun _ _ _ _ _ _ _ q => sub_int q
theorem pqn : OpR X (binaryOp .Mult) (rI CMul fun i j => .int (i * j)) := opI fun _ _ _ _ _ _ _ hc q => mul_int q hc.ok
theorem aqy : OpR X (binaryOp .FloorDiv) (rI CDiv fun i j => .int (i / j)) := opI fun i j _ _ _ _ _ hc q => by
 have h1 : (0 : Int) < j := hc.1
 have h2 : j < 1073741824 := hc.2
 exact floordiv_int (by omega) (by rw [Int.fdiv_eq_ediv_of_nonneg i (by omega)]; exact q) (.inl (PyProof.noPylong_small (by omega)))
theorem aqR : OpR X (binaryOp .Mod) (rI (fun _ j => 0 < j) fun i j => .int (i % j)) := opI fun i j _ _ _ _ _ hc q => by
 have h1 : (0 : Int) < j := hc
 exact mod_int' (by omega) (by rw [Int.fmod_eq_emod_of_nonneg i (by omega)]; exact q)
theorem nqr : OpR X (binaryOp .Pow) (rI CPow fun i j => .int (i ^ j.toNat)) := opI fun _ _ _ _ _ _ _ hc q => pow_int_small hc.1 hc.2.1 hc.2.2 q
theorem unI {f : Value → Sem Value} {g : Int → Int}
  (rule : ∀ (i : Int) (t : Tok) (s : Shared) (Q : Value → Shared → Prop) (E : Value → Shared → Prop), Q (.int (g i) s.toks) { s with toks := s.toks + 1 } → wpAny (model X.prog X.w) X.A (f (.int i t)) Q E s) :
  UnR X f (rU fun i => .int (g i)) := by
 intro pins s σ H x v Q I rx h
 obtain ⟨i, rfl, q⟩ := h
 obtain ⟨t, rfl⟩ := rx
 exact rule i t s _ _ ⟨.int (g i), H, I.tok _, ⟨_, rfl⟩, q⟩
theorem gqJ : UnR X (unaryOp .USub) (rU fun i => .int (-i)) := unI fun _ _ _ _ _ q => neg_int q
end
def scal : V → V → Bool
 | .non, .non => true | .non, .int _ => true | .int _, .non => true | .non, .bl _ => true | .bl _, .non => true | .non, .str _ => true | .str _, .non => true
 | .int _, .int _ => true | .bl _, .bl _ => true | .str _, .str _ => true | .byt _, .byt _ => true
 | .int _, .str _ => true | .str _, .int _ => true | .bl _, .str _ => true | .str _, .bl _ => true
 | _, _ => false
def rEq : R2 := fun x y H Q => scal x y = true ∧ Q (.bl (decide (x = y))) H
def rNe : R2 := fun x y H Q => scal x y = true ∧ Q (.bl (!decide (x = y))) H
theorem kqs {i j : Int} : decide (V.int i = V.int j) = (i == j) := by
 rw [Bool.eq_iff_iff]
 simp
theorem nqp {i j : Bool} : decide (V.bl i = V.bl j) = (i == j) := by
 rw [Bool.eq_iff_iff]
 simp
theorem lqg {i j : Str} : decide (V.str i = V.str j) = (i == j) := by
 rw [Bool.eq_iff_iff]
 simp
theorem kqV {i j : Array UInt8} : decide (V.byt i = V.byt j) = (i.toList == j.toList) := by
 rw [Bool.eq_iff_iff]
 cases i
 cases j
 simp
section
variable {X : Cx} {a b c : Expr} {ta tb tc : TE} {pos : Pos}
theorem aqL {pins : List (Addr × Obj)} {σ : St} {H : Hp} {s : Shared} {Q : VK} {k k' : Bool} (I : Inv X pins σ H s) (q : Q (.bl k) H) (e : k = k') : EP X pins σ Q (.bool k') s := by
 subst e
 exact ⟨.bl k, H, I, rfl, q⟩
theorem aqW : OpR X (compareOp .Eq) rEq := by
 intro pins s σ H x y v u Q I rx ry h
 obtain ⟨hs, q⟩ := h
 cases x with
 | non =>
  cases rx
  cases y with
  | non => cases ry; exact PySem.EqNone.eq_none_none (aqL I q (by simp))
  | bl j => cases ry; exact PySem.EqNone.eq_none_bool (aqL I q (by simp))
  | int j => obtain ⟨t', rfl⟩ := ry; exact PySem.EqNone.eq_none_int (aqL I q (by simp))
  | str j => obtain ⟨t', rfl⟩ := ry; exact PySem.EqNone.eq_none_str (aqL I q (by simp))
  | _ => exact absurd (show false = true from hs) Bool.false_ne_true
 | bl i =>
  cases rx
  cases y with
  | non => cases ry; exact PySem.EqNone.eq_bool_none (aqL I q (by simp))
  | bl j => cases ry; exact eq_bool (aqL I q nqp)
  | str j => obtain ⟨t', rfl⟩ := ry; exact PySem.EqMixed.eq_bool_str (aqL I q (by simp))
  | _ => exact absurd (show false = true from hs) Bool.false_ne_true
 | int i =>
  obtain ⟨t, rfl⟩ := rx
  cases y with
  | non => cases ry; exact PySem.EqNone.eq_int_none (aqL I q (by simp))
  | int j => obtain ⟨t', rfl⟩ := ry; exact eq_int (aqL I q kqs)
  | str j => obtain ⟨t', rfl⟩ := ry; exact PySem.EqMixed.eq_int_str (aqL I q (by simp))
  | _ => exact absurd (show false = true from hs) Bool.false_ne_true
 | str i =>
  obtain ⟨t, rfl⟩ := rx
  cases y with
  | non => cases ry; exact PySem.EqNone.eq_str_none (aqL I q (by simp))
  | bl j => cases ry; exact PySem.EqMixed.eq_str_bool (aqL I q (by simp))
  | int j => obtain ⟨t', rfl⟩ := ry; exact PySem.EqMixed.eq_str_int (aqL I q (by simp))
  | str j => obtain ⟨t', rfl⟩ := ry; exact eq_str (aqL I q lqg)
  | _ => exact absurd (show false = true from hs) Bool.false_ne_true
 | byt i =>
  obtain ⟨t, rfl⟩ := rx
  cases y with
  | byt j => obtain ⟨t', rfl⟩ := ry; exact PySem.W.eq_bytes (aqL I q kqV)
  | _ => exact absurd (show false = true from hs) Bool.false_ne_true
 | _ => cases y <;> exact absurd (show false = true from hs) Bool.false_ne_true
theorem eqR : OpR X (compareOp .NotEq) rNe := by
 intro pins s σ H x y v u Q I rx ry h
 obtain ⟨hs, q⟩ := h
 cases x with
 | non =>
  cases rx
  cases y with
  | non => cases ry; exact PySem.EqNone.ne_none_none (aqL I q (by simp))
  | bl j => cases ry; exact PySem.EqNone.ne_none_bool (aqL I q (by simp))
  | int j => obtain ⟨t', rfl⟩ := ry; exact PySem.EqNone.ne_none_int (aqL I q (by simp))
  | str j => obtain ⟨t', rfl⟩ := ry; exact PySem.EqNone.ne_none_str (aqL I q (by simp))
  | _ => exact absurd (show false = true from hs) Bool.false_ne_true
 | bl i =>
  cases rx
  cases y with
  | non => cases ry; exact PySem.EqNone.ne_bool_none (aqL I q (by simp))
  | bl j => cases ry; exact ne_bool (aqL I q (congrArg not nqp))
  | str j => obtain ⟨t', rfl⟩ := ry; exact PySem.EqMixed.ne_bool_str (aqL I q (by simp))
  | _ => exact absurd (show false = true from hs) Bool.false_ne_true
 | int i =>
  obtain ⟨t, rfl⟩ := rx
  cases y with
  | non => cases ry; exact PySem.EqNone.ne_int_none (aqL I q (by simp))
  | int j => obtain ⟨t', rfl⟩ := ry; exact ne_int (aqL I q (congrArg not kqs))
  | str j => obtain ⟨t', rfl⟩ := ry; exact PySem.EqMixed.ne_int_str (aqL I q (by simp))
  | _ => exact absurd (show false = true from hs) Bool.false_ne_true
 | str i =>
  obtain ⟨t, rfl⟩ := rx
  cases y with
  | non => cases ry; exact PySem.EqNone.ne_str_none (aqL I q (by simp))
  | bl j => cases ry; exact PySem.EqMixed.ne_str_bool (aqL I q (by simp))
  | int j => obtain ⟨t', rfl⟩ := ry; exact PySem.EqMixed.ne_str_int (aqL I q (by simp))
  | str j => obtain ⟨t', rfl⟩ := ry; exact ne_str (aqL I q (congrArg not lqg))
  | _ => exact absurd (show false = true from hs) Bool.false_ne_true
 | byt i =>
  obtain ⟨t, rfl⟩ := rx
  cases y with
  | byt j => obtain ⟨t', rfl⟩ := ry; exact PySem.W.ne_bytes (aqL I q (congrArg not kqV))
  | _ => exact absurd (show false = true from hs) Bool.false_ne_true
 | _ => cases y <;> exact absurd (show false = true from hs) Bool.false_ne_true
theorem iq0 : OpR X (compareOp .Lt) (rI0 fun i j => .bl (decide (i < j))) := opB0 fun _ _ _ _ _ _ _ q => lt_int q
theorem lqz : OpR X (compareOp .LtE) (rI0 fun i j => .bl (decide (i ≤ j))) := opB0 fun _ _ _ _ _ _ _ q => le_int q
theorem lq0 : OpR X (compareOp .Gt) (rI0 fun i j => .bl (decide (j < i))) := opB0 fun _ _ _ _ _ _ _ q => gt_int q
theorem pq1 : OpR X (compareOp .GtE) (rI0 fun i j => .bl (decide (j ≤ i))) := opB0 fun _ _ _ _ _ _ _ q => ge_int q
theorem lqu : OpR X (compareOp .In) (fun x y H Q => ∃ i j, x = .str i ∧ y = .str j ∧ Q (.bl (!(Builtin.Str.occurrences j i 0 j.length 1).isEmpty)) H) := by
 intro pins s σ H x y v u Q I rx ry h
 obtain ⟨i, j, rfl, rfl, q⟩ := h
 obtain ⟨t, rfl⟩ := rx
 obtain ⟨t', rfl⟩ := ry
 exact in_str (aqL I q rfl)
theorem qqf : OpR X (compareOp .Is) (fun x y H Q => y = .non ∧ Q (.bl (decide (x = .non))) H) := by
 intro pins s σ H x y v u Q I rx ry h
 obtain ⟨rfl, q⟩ := h
 cases ry
 refine is_none_gen (aqL I q ?_)
 cases x <;> first
  | (cases rx; rfl)
  | (obtain ⟨t, rfl⟩ := rx; rfl)
theorem oqn : OpR X (compareOp .IsNot) (fun x y H Q => y = .non ∧ Q (.bl (!decide (x = .non))) H) := by
 intro pins s σ H x y v u Q I rx ry h
 obtain ⟨rfl, q⟩ := h
 cases ry
 refine isnot_none_gen (aqL I q ?_)
 cases x <;> first
  | (cases rx; rfl)
  | (obtain ⟨t, rfl⟩ := rx; rfl)
theorem hqW : OpR X (compareOp .NotIn) (fun x y H Q => ∃ i j, x = .str i ∧ y = .str j ∧ Q (.bl (!(!(Builtin.Str.occurrences j i 0 j.length 1).isEmpty))) H) := by
 intro pins s σ H x y v u Q I rx ry h
 obtain ⟨i, j, rfl, rfl, q⟩ := h
 obtain ⟨t, rfl⟩ := rx
 obtain ⟨t', rfl⟩ := ry
 exact notIn_str (aqL I q rfl)
theorem nomark (b : Expr) {op : CmpOp} (h : op ≠ .In := by decide) (h2 : op ≠ .NotIn := by decide) : behindInMarks op b = false := by
 have e1 : (op == CmpOp.In) = false := by cases op <;> first | rfl | exact absurd rfl h
 have e2 : (op == CmpOp.NotIn) = false := by cases op <;> first | rfl | exact absurd rfl h2
 cases b <;> simp [behindInMarks, e1, e2]
theorem aq0 {op : CmpOp} {r : R2} (ho : OpR X (compareOp op) r) (ha : PE X a ta) (hb : PE X b tb) (hm : behindInMarks op b = false) : PE X (.Compare a [op] [b] pos) (tOp r ta tb) := by
 intro pins s σ H Q I h
 exact wpAny_Compare1 (binT ha hb I h fun v u s2 x y H2 I2 rx ry q => ho pins s2 σ H2 x y v u Q I2 rx ry q) hm
def tTest (t : TE) : TT := fun σ H Q => t σ H fun x H' => ∃ k, x = .bl k ∧ Q k H'
theorem aqj {op : CmpOp} {r : R2} (ho : OpR X (compareOp op) r) (ha : PE X a ta) (hb : PE X b tb) (hm : behindInMarks op b = false) : PT X (.Compare a [op] [b] pos) (tTest (tOp r ta tb)) := by
 intro pins s σ H Q I h
 refine wpAny_isTrue_Compare1 (thn (ha pins s σ H _ I h) fun v s1 ⟨x, H1, I1, r1, q1⟩ => thn (hb pins s1 σ H1 _ I1 q1) fun u s2 ⟨y, H2, I2, r2, q2⟩ =>
  thn (ho pins s2 σ H2 x y v u _ I2 r1 r2 q2) fun c s3 ⟨z, H3, I3, r3, k, e, q3⟩ => ?_) hm
 subst e
 cases r3
 exact wpAny_truthy_bool ⟨H3, I3, q3⟩
def tChain (r r' : R2) (ta tb tc : TE) : TE := fun σ H Q => ta σ H fun x H1 => tb σ H1 fun y H2 => r x y H2 fun z H3 => ∃ k, z = .bl k ∧
 (if k = true then tc σ H3 fun w' H4 => r' y w' H4 Q else Q (.bl false) H3)
theorem mqh {op op' : CmpOp} {r r' : R2} (ho : OpR X (compareOp op) r) (ho' : OpR X (compareOp op') r') (ha : PE X a ta) (hb : PE X b tb) (hc : PE X c tc)
  (hm : lastMarks [op, op'] [b, c] = false := by with_unfolding_all rfl) : PE X (.Compare a [op, op'] [b, c] pos) (tChain r r' ta tb tc) := by
 intro pins s σ H Q I h
 refine Compare_chain (thn (ha pins s σ H _ I h) fun v s1 ⟨x, H1, I1, r1, q1⟩ => chain_link (thn (hb pins s1 σ H1 _ I1 q1) fun u s2 ⟨y, H2, I2, r2, q2⟩ =>
  thn (ho pins s2 σ H2 x y v u _ I2 r1 r2 q2) fun d s3 ⟨z, H3, I3, r3, k, e, q3⟩ => ?_)) hm
 subst e
 cases r3
 refine wpAny_truthy_bool ?_
 cases k with
 | false => exact ite_ff ⟨.bl false, H3, I3, rfl, q3⟩
 | true => exact ite_tt (chain_last (thn (hc pins s3 σ H3 _ I3 q3) fun w' s4 ⟨z', H4, I4, r4, q4⟩ => ho' pins s4 σ H4 y z' u w' Q I4 r2 r4 q4))
theorem mq0 {op op' : CmpOp} {r r' : R2} (ho : OpR X (compareOp op) r) (ho' : OpR X (compareOp op') r') (ha : PE X a ta) (hb : PE X b tb) (hc : PE X c tc)
  (hm : lastMarks [op, op'] [b, c] = false := by with_unfolding_all rfl) : PT X (.Compare a [op, op'] [b, c] pos) (tTest (tChain r r' ta tb tc)) := by
 intro pins s σ H Q I h
 refine isTrue_chain (thn (ha pins s σ H _ I h) fun v s1 ⟨x, H1, I1, r1, q1⟩ => test_link (thn (hb pins s1 σ H1 _ I1 q1) fun u s2 ⟨y, H2, I2, r2, q2⟩ =>
  thn (ho pins s2 σ H2 x y v u _ I2 r1 r2 q2) fun d s3 ⟨z, H3, I3, r3, k, e, q3⟩ => ?_)) hm
 subst e
 cases r3
 refine wpAny_truthy_bool ?_
 cases k with
 | false =>
  obtain ⟨k', e', q'⟩ := q3
  cases e'
  exact ite_ff ⟨H3, I3, q'⟩
 | true =>
  refine ite_tt (test_last (thn (hc pins s3 σ H3 _ I3 q3) fun w' s4 ⟨z', H4, I4, r4, q4⟩ => thn (ho' pins s4 σ H4 y z' u w' _ I4 r2 r4 q4) fun d' s5 W' => ?_))
  obtain ⟨z2, H5, I5, r5, k2, e2, q5⟩ := W'
  subst e2
  cases r5
  exact wpAny_truthy_bool ⟨H5, I5, q5⟩
theorem line63 : (sizeLine : Nat) < 2 ^ 63 := by rw [sizeLine_eq]; decide
theorem jq4 : OpR X (binaryOp .Add) (fun x y H Q => ∃ i j, x = .str i ∧ y = .str j ∧ i.length + j.length ≤ sizeLine ∧ Q (.str (i ++ j)) H) := by
 intro pins s σ H x y v u Q I rx ry h
 obtain ⟨i, j, rfl, rfl, hz, q⟩ := h
 obtain ⟨t, rfl⟩ := rx
 obtain ⟨t', rfl⟩ := ry
 exact add_str (fun t' tk => ⟨.str (i ++ j), H, I.tok _, ⟨_, rfl⟩, q⟩) hz
theorem vals1 {x : V} {us : List Value} (r : Vals [x] us) : ∃ u, us = [u] ∧ RelV x u := by
 cases r with
 | cons r1 r2 => cases r2; exact ⟨_, rfl, r1⟩
theorem vals2 {x y : V} {us : List Value} (r : Vals [x, y] us) : ∃ u w', us = [u, w'] ∧ RelV x u ∧ RelV y w' := by
 cases r with
 | cons r1 r2 =>
  cases r2 with
  | cons r3 r4 => cases r4; exact ⟨_, _, rfl, r1, r3⟩
theorem kqR (hc : X.calm = true) : CallR X (.builtin "min") (fun xs H Q => ∃ i j, xs = [.int i, .int j] ∧ Q (.int (if j < i then j else i)) H) := by
 intro pins s σ H xs us Q I r h
 obtain ⟨i, j, rfl, q⟩ := h
 obtain ⟨u, w', rfl, ⟨t, rfl⟩, ⟨t', rfl⟩⟩ := vals2 r
 refine min_two_ints (I.ok.hd hc) fun h' tk k => ⟨_, H, I.kept k, ?_, q⟩
 by_cases hj : j < i
 ·rw [if_pos hj, if_pos hj]; exact ⟨_, rfl⟩
 ·rw [if_neg hj, if_neg hj]; exact ⟨_, rfl⟩
theorem iqc : CallR X (.type "int") (fun xs H Q => (∃ i, xs = [.int i] ∧ Q (.int i) H) ∨ ∃ k, xs = [.bl k] ∧ Q (.int (if k then 1 else 0)) H) := by
 intro pins s σ H xs us Q I r h
 rcases h with ⟨i, rfl, q⟩ | ⟨k, rfl, q⟩
 ·obtain ⟨u, rfl, t, rfl⟩ := vals1 r
  exact call_int_int ⟨.int i, H, I, ⟨_, rfl⟩, q⟩
 ·obtain ⟨u, rfl, r1⟩ := vals1 r
  cases r1
  exact call_int_bool ⟨.int (if k then 1 else 0), H, I.tok _, ⟨_, rfl⟩, q⟩
theorem iqF : CallR X (.type "str") (fun xs H Q => ∃ i, xs = [.int i] ∧ i.natAbs.log2 < 1920 ∧ Q (.str (toString i)) H) := by
 intro pins s σ H xs us Q I r h
 obtain ⟨i, rfl, hz, q⟩ := h
 obtain ⟨u, rfl, t, rfl⟩ := vals1 r
 exact PySem.P.str_of_int hz ⟨.str _, H, I.tok _, ⟨_, rfl⟩, q⟩
end
structure ObjM (h : Heap) (x dx C : Addr) (mA : Str → Option Value) : Prop where
 obj : h.get? x = some (PySem.W.instObj C dx)
 ns : h.Ns1 dx mA
 ne : dx ≠ x
theorem lqa {h : Heap} {dx : Addr} {mA : Str → Option Value} (n : h.Ns1 dx mA) : ∃ od, h.get? dx = some od ∧ ∀ name, PySem.W.lookIn name od = some (mA name) := by
 obtain ⟨o, es, ep, ho, hd, hk, _, hm⟩ := n
 refine ⟨o, ho, fun name => ?_⟩
 have e := hm name
 unfold nsFind findBy at e
 rw [← Array.find?_toList] at e
 unfold PySem.W.lookIn
 rw [hd]
 dsimp only
 split
 ·rename_i y q
  rw [q] at e
  exact congrArg some e
 ·rename_i q
  rw [q] at e
  have a : es.toList.any (·.refKey) = false := by
   rw [List.any_eq_false]
   intro y hy
   obtain ⟨z, t, hkey⟩ := hk y (Array.mem_toList_iff.mp hy)
   simp [DictEntry.refKey, hkey]
  have a' : ¬ es.toList.any (·.refKey) = true := by rw [a]; exact Bool.false_ne_true
  rw [if_neg a']
  exact congrArg some e
theorem ObjM.look {h : Heap} {x dx C : Addr} {mA : Str → Option Value} (I : ObjM h x dx C mA) : ∃ od, PySem.W.InstAt h x (PySem.W.instObj C dx) C (some od) ∧ ∀ name, PySem.W.lookIn name od = some (mA name) :=
 let ⟨od, ho, hl⟩ := lqa I.ns
 ⟨od, ⟨I.obj, rfl, rfl, ho⟩, hl⟩
section
variable {prog : Program} {w : World} {A : Around} {E : Value → Shared → Prop} {s : Shared} {K : PySem.W.Frag} {x dx C f : Addr} {mA : Str → Option Value} {name : Str} {v : Value}
end
def putF (f : Str) (v : V) : List (Str × V) → List (Str × V)
 | [] => [(f, v)]
 | (g, x) :: r => if g = f then (g, v) :: r else (g, x) :: putF f v r
section
variable {P : Program} {w : World} {H H' : Hp} {h h' : Heap} {a C dx : Addr} {fs fs' : List (Str × V)}
theorem nqW (hok : HOk P w H h) (e : H a = some (.ins C dx fs)) : ∃ mA, ObjM h a dx C mA ∧ (∀ f, RelO (fs.lookup f) (mA f)) ∧ PySem.Within mA (fs.map (·.1)) ∧ fs.length ≤ 1000 ∧ H dx = some (.own a) := by
 obtain ⟨d, z, ne, ob, mA, n, r, q⟩ := (show ObjOk P w H h a (.ins C dx fs) from hok a _ e)
 exact ⟨mA, ⟨ob, n, ne⟩, r, q, z, d⟩
end
structure Cls (K : PySem.W.Frag) (C : Addr) : Prop where
 pg : PySem.W.plainGet K C Str.empty = true
 hd : PySem.W.hasDictIn K C = true
 po : PySem.W.plainOver K C = true
 sa : PySem.W.findIn K (.ref C) "__setattr__" = some (some (.builtin "object.__setattr__"))
theorem Cls.get {K : PySem.W.Frag} {C : Addr} (c : Cls K C) (f : Str) : PySem.W.plainGet K C f = true := c.pg
def NoAttr (K : PySem.W.Frag) (C : Addr) (f : Str) : Prop := PySem.W.findIn K (.ref C) f = some none
structure Con (K : PySem.W.Frag) (C : Addr) (f : Str) (v : V) (u : Value) : Prop where
 at_ : PySem.W.findIn K (.ref C) f = some (some u)
 rel : RelV v u
 get : PySem.W.specialIn K u "__get__" = some none
 cp : PySem.W.copiedNames.contains f = false
structure Meth (K : PySem.W.Frag) (C : Addr) (m : Str) (f : Addr) : Prop where
 at_ : PySem.W.findIn K (.ref C) m = some (some (.ref f))
 fn : PySem.W.isFn K (.ref f) = true
 kp : PySem.W.keepIn K (.ref f) = true
section
variable {X : Cx} {pins : List (Addr × Obj)} {σ : St} {H : Hp} {s : Shared} {a C dx : Addr} {fs : List (Str × V)} {f : Str} {v : V} {A : Around} {E : Value → Shared → Prop}
end
def tFld (K : PySem.W.Frag) (ta : TE) (f : Str) : TE := fun σ H Q => ta σ H fun x H1 => ∃ a C dx fs v, x = .ref a ∧ H1 a = some (.ins C dx fs) ∧ Cls K C ∧ NoAttr K C f ∧ fs.lookup f = some v ∧ Q v H1
def sFld (K : PySem.W.Frag) (ta tv : TE) (f : Str) : TS := fun D σ H => tv σ H fun y H1 => ta σ H1 fun x H2 => ∃ a C dx fs, x = .ref a ∧ H2 a = some (.ins C dx fs) ∧ Cls K C ∧ NoAttr K C f ∧ fs.length < 1000 ∧
 D.nx σ (upd H2 a (.ins C dx (putF f y fs)))
section
variable {X : Cx} {o e value : Expr} {f : Str} {pos pos' tpos : Pos} {ta tv : TE}
end
section
variable {X : Cx} {pins : List (Addr × Obj)} {σ : St} {H : Hp} {s : Shared} {A : Around} {E : Value → Shared → Prop} {Q : Value → Shared → Prop} {c : Value} {b : Bool}
inductive TyOf (K : PySem.W.Frag) (H : Hp) : V → Value → Prop where
 | non : TyOf K H .non (.type "NoneType")
 | bl (x : Bool) : TyOf K H (.bl x) (.type "bool")
 | int (i : Int) : TyOf K H (.int i) (.type "int")
 | str (x : Str) : TyOf K H (.str x) (.type "str")
 | flt (x : UInt64) : TyOf K H (.flt x) (.type "float")
 | lst {a : Addr} {xs : List V} (e : H a = some (.lst xs)) : TyOf K H (.ref a) (.type "list")
 | frz {a : Addr} {o : Obj} {xs : List V} (e : H a = some (.frz o (.lst xs))) : TyOf K H (.ref a) (.type "list")
 | tup {a : Addr} {xs : List V} (e : H a = some (.tup xs)) : TyOf K H (.ref a) (.type "tuple")
 | dK {a : Addr} {kvs : List (Key × V)} (e : H a = some (.dK kvs)) : TyOf K H (.ref a) (.type "dict")
 | dT {a : Addr} {kvs : List (List Key × V)} (e : H a = some (.dT kvs)) : TyOf K H (.ref a) (.type "dict")
 | ins {a C dx : Addr} {fs : List (Str × V)} (e : H a = some (.ins C dx fs)) (cl : Cls K C) (ha : PySem.W.findIn K (.ref C) "__class__" = some (some (.builtin "object.__class__")))
   (hn : PySem.W.specialIn K (.builtin "object.__class__") "__get__" = some (some (.builtin "getset_descriptor.__get__"))) (htk : PySem.W.takesIn K (.builtin "object.__class__") = some true)
   (hm : PySem.W.mroIn K C (.type "object") = some true) : TyOf K H (.ref a) (.ref C)
theorem kqI {x : V} {u t : Value} (I : Inv X pins σ H s) (rx : RelV x u) (ty : TyOf X.K H x t) (e : PySem.W.kitOne X.K t c = some b) (h : ∀ tk, Q (.bool b) { s with toks := tk }) :
  wpAny (model X.prog X.w) A (call (.builtin "isinstance") [u, c]) Q E s := by
 cases ty with
 | non => cases (show u = Value.none from rx); exact PySem.W.kia_one PySem.W.kitx_none I.kIn True.intro e (fun z => nomatch z) h
 | bl y => cases (show u = Value.bool y from rx); exact PySem.W.kia_one PySem.W.kitx_bool I.kIn True.intro e (fun z => nomatch z) h
 | int i => obtain ⟨t, q⟩ := (show ∃ t, u = Value.int i t from rx); cases q; exact PySem.W.kia_one PySem.W.kitx_int I.kIn True.intro e (fun z => nomatch z) h
 | str y => obtain ⟨t, q⟩ := (show ∃ t, u = Value.str y t from rx); cases q; exact PySem.W.kia_one PySem.W.kitx_str I.kIn True.intro e (fun z => nomatch z) h
 | flt y => obtain ⟨t, q⟩ := (show ∃ t, u = Value.float y t from rx); cases q; exact PySem.W.kia_one PySem.W.kitx_float I.kIn True.intro e (fun z => nomatch z) h
 | @lst a xs ea =>
  cases (show u = Value.ref a from rx)
  obtain ⟨_, _, n, _, h1⟩ := (show ObjOk X.prog X.w H s.heap a (.lst xs) from I.hok a _ ea)
  exact PySem.W.kia_one PySem.W.kitx_list I.kIn ⟨_, h1, rfl⟩ e (fun z => nomatch z) h
 | @frz a ob xs ea =>
  cases (show u = Value.ref a from rx)
  obtain ⟨_, _, _, n, _, h1⟩ := (show ObjOk X.prog X.w H s.heap a (.frz ob (.lst xs)) from I.hok a _ ea)
  exact PySem.W.kia_one PySem.W.kitx_list I.kIn ⟨_, h1, rfl⟩ e (fun z => nomatch z) h
 | @tup a xs ea =>
  cases (show u = Value.ref a from rx)
  obtain ⟨_, _, _, p⟩ := (show ObjOk X.prog X.w H s.heap a (.tup xs) from I.hok a _ ea)
  obtain ⟨o, h1, h2, _⟩ := p
  exact PySem.W.kia_one PySem.W.kitx_tuple I.kIn ⟨o, h1, h2⟩ e (fun z => nomatch z) h
 | @dK a kvs ea =>
  cases (show u = Value.ref a from rx)
  obtain ⟨_, _, vs, _, p⟩ := (show ObjOk X.prog X.w H s.heap a (.dK kvs) from I.hok a _ ea)
  obtain ⟨o, es, ep, h1, h2, _⟩ := p
  exact PySem.W.kia_one PySem.W.kitx_dict I.kIn ⟨o, h1, h2.1⟩ e (fun z => nomatch z) h
 | @dT a kvs ea =>
  cases (show u = Value.ref a from rx)
  obtain ⟨_, _, xs, _, o, es, ep, h1, h2, _⟩ := (show ObjOk X.prog X.w H s.heap a (.dT kvs) from I.hok a _ ea)
  exact PySem.W.kia_one PySem.W.kitx_dict I.kIn ⟨o, h1, h2.1⟩ e (fun z => nomatch z) h
 | @ins a C dx fs ea cl ha hn htk hm =>
  cases (show u = Value.ref a from rx)
  obtain ⟨mA, O, _⟩ := nqW I.hok ea
  obtain ⟨od, J, _⟩ := O.look
  exact PySem.W.kia_one (PySem.W.kitx_own (cl.get _) cl.hd ha hn htk hm) I.kIn J e (fun z => nomatch z) h
end
structure Room (k : Nat) (A : Around) : Prop where
 hd : A.handled = none
 dp : A.depth + 3 * k + 5 < recursionLimit
 un : A.units + 16 * k + 200 < cLine
theorem Room.mono {j k : Nat} {A : Around} (r : Room k A) (h : j ≤ k) : Room j A := ⟨r.hd, by have := r.dp; omega, by have := r.un; omega⟩
theorem Room.deeper {k : Nat} {A : Around} (r : Room (k + 1) A) (env : Env) : Room k (A.deeper env) :=
 ⟨r.hd, by have := r.dp; show A.depth + 1 + 3 * k + 5 < _; omega, by have := r.un; show A.units + 3 + 16 * k + 200 < _; omega⟩
theorem Room.depth {k : Nat} {A : Around} (r : Room k A) : A.depth < recursionLimit := by have := r.dp; omega
theorem Room.units {k : Nat} {A : Around} (r : Room k A) : A.units + 64 < cLine := by have := r.un; omega
def tNil : TA := fun _ H Q => Q [] H
def tCons (ta : TE) (tr : TA) : TA := fun σ H Q => ta σ H fun x H1 => tr σ H1 fun xs H2 => Q (x :: xs) H2
section
variable {X : Cx} {e : Expr} {es : List Expr} {te : TE} {t : TA} {pos : Pos}
theorem aqb : PA X [] tNil := fun _ _ _ _ H Q I h => Calls.spliced_nil ⟨[], H, I, .nil, h⟩
theorem aqa (ha : PE X e te) (hr : PA X es t) (hs : starEach (e :: es) X.env = (false, eval e X.env) :: starEach es X.env := by rfl) : PA X (e :: es) (tCons te t) := by
 intro pos pins s σ H Q I h
 rw [hs]
 show wpAny _ _ (spliced ((false, eval e X.env) :: backTo pos (starEach es X.env))) _ _ s
 refine Calls.spliced_cons (thn (ha pins s σ H _ I h) fun u s1 W' => ?_)
 obtain ⟨x, H1, I1, r1, q1⟩ := W'
 exact thn (hr pos pins s1 σ H1 _ I1 q1) fun us s2 ⟨xs, H2, I2, r2, q2⟩ => ⟨x :: xs, H2, I2, .cons r1 r2, q2⟩
def tTup (t : TA) : TE := fun σ H Q => t σ H fun xs H1 => xs.length ≤ sizeLine ∧ ∀ p, H1 p = none → Q (.ref p) (upd H1 p (.tup xs))
def tLst (t : TA) : TE := fun σ H Q => t σ H fun xs H1 => xs.length ≤ sizeLine ∧ ∀ p, H1 p = none → Q (.ref p) (upd H1 p (.lst xs))
end
abbrev Sp := List V → Hp → VK → XK → Prop
abbrev CXT := List Env → Hp → Shared → XK → Value → Shared → Prop
structure Env0 (P : Program) (w : World) (K : PySem.W.Frag) (mg : Str → Option Value) (base : Heap) (A : Around) (outer : List Env) (s : Shared) (H : Hp) : Prop where
 frames : A.frames = some outer
 mod : Mod K mg base
 bs : ∀ b o, base.get? b = some o → s.heap.get? b = some o ∧ H b = none
 bsz : base.objs.size ≤ s.heap.objs.size
 funs : s.heap.FunFrames base outer
 frf : ∀ b ∈ frs outer, H b = none
 hok : HOk P w H s.heap
 bare : AllBare s.gens
def CE (outer : List Env) (P : Program) (w : World) (H : Hp) (s : Shared) (Q : VK) (u : Value) (s' : Shared) : Prop :=
 ∃ v H', s'.os = s.os ∧ AllBare s'.gens ∧ Un (frs outer) [] H H' s.heap s'.heap ∧ HOk P w H' s'.heap ∧ RelV v u ∧ Q v H'
def CR (CX : CXT) (outer : List Env) (P : Program) (w : World) (H : Hp) (s : Shared) (Q : VK) (E : XK) (r : Result) (s' : Shared) : Prop :=
 match r with
 | .ok (.ret u) => CE outer P w H s Q u s'
 | .ok _ => False
 | .error e => CX outer H s E e s'
structure FnOk (P : Program) (w : World) (K : PySem.W.Frag) (mg : Str → Option Value) (base : Heap) (CX : CXT) (k : Nat) (f : Addr) (fd : FuncData) (ps : List Str) (sp : Sp) : Prop where
 len : ∀ vs H Q E, sp vs H Q E → vs.length = ps.length
 run : ∀ (A : Around) (outer : List Env) (s : Shared) (H : Hp) (args : Args) (us : List Value) (vs : List V) (Q : VK) (E : XK), Room k A → Env0 P w K mg base A outer s H → BindsTo s fd args (ps.zip us) → Vals vs us → sp vs H Q E →
  codeAny (model P w) A (.call (.ref f) args) (CR CX outer P w H s Q E) s
section
variable {X : Cx} {pins : List (Addr × Obj)} {σ : St} {H : Hp} {s s' : Shared}
theorem Inv.env0 (I : Inv X pins σ H s) : Env0 X.prog X.w X.K X.mg X.base X.A X.stack s H :=
 ⟨I.ok.frames, I.ok.mod, I.bs, Nat.le_trans I.ok.bsz I.sz, I.stack, I.stkFree, I.hok, I.bare⟩
theorem Inv.after {Q : VK} {u : Value} (I : Inv X pins σ H s) (h : CE X.stack X.prog X.w H s Q u s') : EP X pins σ Q u s' := by
 obtain ⟨v, H', os, bare, un, hok, r, q⟩ := h
 obtain ⟨hh, g, d, t, os'⟩ := s'
 obtain rfl : os' = s.os := os
 exact ⟨v, H', I.call (h' := hh) (g' := g) (d' := d) (t' := t) (ch := []) un hok bare (fun b z => absurd z (by simp)), r, q⟩
end
def tCall (sp : Sp) (dvs : List V) (E : XK) (t : TA) : TE := fun σ H Q => t σ H fun vs H1 => sp (vs ++ dvs) H1 Q E
def tMeth (C : Addr) (m : Str) (sp : Sp) (dvs : List V) (E : XK) (ta : TE) (t : TA) : TE := fun σ H Q => ta σ H fun x H1 => ∃ a dx fs, x = .ref a ∧ H1 a = some (.ins C dx fs) ∧ fs.lookup m = none ∧
 t σ H1 fun vs H2 => sp (x :: (vs ++ dvs)) H2 Q E
def tMake (C : Addr) (sp : Sp) (dvs : List V) (E : XK) (t : TA) : TE := fun σ H Q => t σ H fun vs H1 => ∀ x dx, H1 x = none → H1 dx = none → dx ≠ x →
 sp (.ref x :: (vs ++ dvs)) (upd (upd H1 dx (.own x)) x (.ins C dx [])) (fun v H2 => v = .non ∧ Q (.ref x) H2) E
def Binds (K : PySem.W.Frag) (fd : FuncData) (ps : List Str) (ds : List Value) : Prop :=
 ∀ (s : Shared) (us : List Value), K.In s.heap → (us ++ ds).length = ps.length → BindsTo s fd ⟨us, []⟩ (ps.zip (us ++ ds))
theorem Binds.all {K : PySem.W.Frag} {fd : FuncData} {ps : List Str} (h : ∀ us : List Value, us.length = ps.length → bindArgs fd ⟨us, []⟩ = pure (ps.zip us)) : Binds K fd ps [] := fun s us _ hl => by
 rw [List.append_nil] at hl ⊢
 exact .of_eq (h us hl)
def Passes (CX : CXT) (X : Cx) (E : XK) : Prop := ∀ (pins : List (Addr × Obj)) (σ : St) (H : Hp) (s : Shared) (e : Value) (s' : Shared), Inv X pins σ H s → CX X.stack H s E e s' → X.xe e s'
section
variable {X : Cx} {CX : CXT} {k : Nat} {f C : Addr} {fd : FuncData} {ps : List Str} {sp : Sp} {dvs : List V} {ds : List Value} {E : XK} {x m : Str} {p pos apos : Pos} {e o : Expr} {es : List Expr} {ta : TE} {t : TA}
theorem nqq {pins : List (Addr × Obj)} {σ : St} {H : Hp} {s : Shared} {Q : VK} {us : List Value} {vs : List V} (F : FnOk X.prog X.w X.K X.mg X.base CX k f fd ps sp) (hr : Room k X.A) (hb : Binds X.K fd ps ds) (hd : Vals dvs ds) (hx : Passes CX X E)
  (I : Inv X pins σ H s) (r : Vals vs us) (h : sp (vs ++ dvs) H Q E) : wpAny (model X.prog X.w) X.A (call (.ref f) us) (EP X pins σ Q) X.xe s := by
 have r2 : Vals (vs ++ dvs) (us ++ ds) := r.append hd
 have hl : (us ++ ds).length = ps.length := by rw [← r2.length]; exact F.len _ _ _ _ h
 refine wpAny_call (codeAny_mono (F.run X.A X.stack s H ⟨us, []⟩ (us ++ ds) (vs ++ dvs) Q E hr I.env0 (hb s us I.kIn hl) r2 h) fun r s' hq => ?_)
 cases r with
 | error e => exact hx pins σ H s e s' I hq
 | ok fl =>
  cases fl with
  | ret u => exact I.after hq
  | next => exact False.elim hq
  | brk => exact False.elim hq
  | cont => exact False.elim hq
theorem aqm (F : FnOk X.prog X.w X.K X.mg X.base CX k f fd ps sp) (hr : Room k X.A) (hg : Gl X x) (hm : X.mg x = some (.ref f)) (hk : PySem.W.keepIn X.K (.ref f) = true) (hb : Binds X.K fd ps ds) (hd : Vals dvs ds) (hx : Passes CX X E)
  (ha : PA X (e :: es) t) (hdb : (x == ("__debug__" : Str)) = false := by decide) (he : starEach (e :: es) X.env = (false, eval e X.env) :: starEach es X.env := by rfl) (hpl : (backTo pos (starEach es X.env)).any (·.1) = false := by rfl) :
  PE X (.Call (.Name x p) (e :: es) [] pos) (tCall sp dvs E t) := by
 intro pins s σ H Q I h
 refine wpAny_Call_Name_kw (iqL I hg hm ?_ hdb)
 refine PySem.W.callWith_K (h₀ := X.base) I.ok.mod.kin hk (thn (ha pos pins s σ H _ I h) fun us s1 ⟨vs, H1, I1, r, q⟩ => ⟨I1.kIn, ?_⟩) he hpl
 exact nqq F hr hb hd hx I1 r q
theorem mq8 (F : FnOk X.prog X.w X.K X.mg X.base CX k f fd ps sp) (hr : Room k X.A) (hg : Gl X x) (hm : X.mg x = some (.ref f)) (hk : PySem.W.keepIn X.K (.ref f) = true) (hb : Binds X.K fd ps ds) (hd : Vals dvs ds) (hx : Passes CX X E)
  (hdb : (x == ("__debug__" : Str)) = false := by decide) : PE X (.Call (.Name x p) [] [] pos) (tCall sp dvs E tNil) := by
 intro pins s σ H Q I h
 refine wpAny_Call_Name_kw (iqL I hg hm ?_ hdb)
 exact PySem.W.callWith_K0 I.kIn hk (nqq (us := []) F hr hb hd hx I .nil h)
structure Mk (K : PySem.W.Frag) (C f : Addr) : Prop where
 makes : PySem.W.makesIn K C = true
 init : PySem.W.findIn K (.ref C) "__init__" = some (some (.ref f))
 fn : PySem.W.isFn K (.ref f) = true
 kp : PySem.W.keepIn K (.ref C) = true
end
section
variable {X : Cx} {CX : CXT} {k : Nat} {f C : Addr} {fd : FuncData} {ps ks : List Str} {sp : Sp} {E : XK} {x m : Str} {p pos apos kpos : Pos} {e o : Expr} {es : List Expr} {kws : List Keyword} {te ta : TE} {t tk : TA} {nm : Option Str}
structure KBinds (K : PySem.W.Frag) (fd : FuncData) (ps ks : List Str) (g : List Value → List Value → List Value) (gV : List V → List V → List V) : Prop where
 to : ∀ (s : Shared) (us ws : List Value), K.In s.heap → (g us ws).length = ps.length → BindsTo s fd ⟨us, ks.zip ws⟩ (ps.zip (g us ws))
 rel : ∀ {vs : List V} {us : List Value} {zs : List V} {ws : List Value}, Vals vs us → Vals zs ws → Vals (gV vs zs) (g us ws)
variable {g : List Value → List Value → List Value} {gV : List V → List V → List V}
end
structure FnScope (N P : List Str) (sc : Scope) : Prop where
 kind : sc.kind = .function
 co : sc.isCoroutine = false
 gen : sc.isGenerator = false
 nd : N.Nodup
 pre : N.take P.length = P
 par : ∀ x ∈ P, sc.names.lookup x = some .local ∨ sc.names.lookup x = some .cell
 nofree : ∀ y ∈ sc.names, y.2 ≠ .free
theorem iqC {kindOf : Str → Option NameKind} {x : Str} : ∀ {binds : List (Str × Value)} {m : Str → Option Value}, (∀ v, (x, v) ∉ binds) → bindL kindOf binds m x = m x
 | [], _, _ => rfl
 | (n, v) :: r, m, h => by
  unfold bindL
  rw [iqC fun w hw => h w (List.mem_cons_of_mem _ hw)]
  split
  ·have : x ≠ n := by rintro rfl; exact h v List.mem_cons_self
   simp [this]
  ·rfl
theorem hqX {kindOf : Str → Option NameKind} {x : Str} : ∀ {binds : List (Str × Value)} {m : Str → Option Value}, (∀ v, (x, v) ∉ binds) → bindC kindOf binds m x = m x
 | [], _, _ => rfl
 | (n, v) :: r, m, h => by
  unfold bindC
  rw [hqX fun w hw => h w (List.mem_cons_of_mem _ hw)]
  split
  ·rfl
  ·have : x ≠ n := by rintro rfl; exact h v List.mem_cons_self
   simp [this]
theorem iqp {kindOf : Str → Option NameKind} {x : Str} {v : Value} : ∀ {P : List Str} {vs : List Value} {i : Nat} {m : Str → Option Value}, P.Nodup → P[i]? = some x → vs[i]? = some v → kindOf x = some .local →
  bindL kindOf (P.zip vs) m x = some v
 | [], _, _, _, _, h, _, _ => by simp at h
 | _ :: _, [], _, _, _, _, h, _ => by simp at h
 | p :: P, w :: vs, 0, m, nd, h1, h2, hk => by
  simp at h1 h2; subst h1; subst h2
  show bindL kindOf ((p, w) :: P.zip vs) m p = _
  unfold bindL
  rw [iqC fun v hv => (List.nodup_cons.mp nd).1 (List.of_mem_zip hv).1, if_pos hk]
  simp
 | p :: P, w :: vs, i + 1, m, nd, h1, h2, hk => by
  show bindL kindOf ((p, w) :: P.zip vs) m x = _
  unfold bindL
  exact iqp (i := i) (List.nodup_cons.mp nd).2 (by simpa using h1) (by simpa using h2) hk
theorem iqj {kindOf : Str → Option NameKind} {x : Str} {v : Value} : ∀ {P : List Str} {vs : List Value} {i : Nat} {m : Str → Option Value}, P.Nodup → P[i]? = some x → vs[i]? = some v → kindOf x ≠ some .local →
  bindC kindOf (P.zip vs) m x = some v
 | [], _, _, _, _, h, _, _ => by simp at h
 | _ :: _, [], _, _, _, _, h, _ => by simp at h
 | p :: P, w :: vs, 0, m, nd, h1, h2, hk => by
  simp at h1 h2; subst h1; subst h2
  show bindC kindOf ((p, w) :: P.zip vs) m p = _
  unfold bindC
  rw [hqX fun v hv => (List.nodup_cons.mp nd).1 (List.of_mem_zip hv).1, if_neg hk]
  simp
 | p :: P, w :: vs, i + 1, m, nd, h1, h2, hk => by
  show bindC kindOf ((p, w) :: P.zip vs) m x = _
  unfold bindC
  exact iqj (i := i) (List.nodup_cons.mp nd).2 (by simpa using h1) (by simpa using h2) hk
def start (N : List Str) (vs : List V) : St := vs.map some ++ List.replicate (N.length - vs.length) none
def cxOf (CX : CXT) (P : Program) (w : World) (K : PySem.W.Frag) (mg : Str → Option Value) (base : Heap) (N : List Str) (qual : Str) (scope : Scope) (f : Addr) (cd : Value) (A : Around) (outer : List Env) (s : Shared) (H : Hp) (E : XK) : Cx where
 prog := P
 w := w
 K := K
 mg := mg
 base := base
 A := A.deeper (envOfC qual scope s.heap.objs.size f cd)
 N := N
 s₀ := s
 H₀ := H
 env := envOfC qual scope s.heap.objs.size f cd
 outer := outer
 stack := envOfC qual scope s.heap.objs.size f cd :: outer
 ex := []
 calm := true
 fn := fun _ => true
 pn := []
 xe := fun e s' => wpAny (model P w) (A.deeper (envOfC qual scope s.heap.objs.size f cd)) (leaving (envOfC qual scope s.heap.objs.size f cd) e) (fun _ s'' => CX outer H s E e s'') (fun e' s'' => CX outer H s E e' s'') s'
theorem jqn {sc : Scope} {n : Nat} {x : Str} (h : sc.names.lookup x = some .cell) : ∃ c, (cellsFrom n sc.names []).lookup x = some c := by
 have q := PySem.W.cellsFrom_some sc.names n [] (.inl h)
 exact Option.isSome_iff_exists.mp q
theorem kqo {CX : CXT} {P : Program} {w : World} {K : PySem.W.Frag} {mg : Str → Option Value} {base : Heap} {N ps : List Str} {qual : Str} {scope : Scope} {f : Addr} {cd : Value} {A : Around} {outer : List Env} {s s1 : Shared} {H : Hp} {E : XK} {us : List Value} {vs : List V}
  (S : FnScope N ps scope) (hd : A.handled = none) (e0 : Env0 P w K mg base A outer s H) (hl : vs.length = ps.length) (r : Vals vs us)
  (x : InCallC s s.heap.objs.size (bindL (envOfC qual scope s.heap.objs.size f cd).kindOf (ps.zip us) fun _ => none) (cellsFrom (s.heap.objs.size + 1) scope.names []) (bindC (envOfC qual scope s.heap.objs.size f cd).kindOf (ps.zip us) fun _ => none) s1) :
  Inv (cxOf CX P w K mg base N qual scope f cd A outer s H E) [] (start N vs) H s1 := by
 have hpl : ps.length ≤ N.length := by have := congrArg List.length S.pre; rw [List.length_take] at this; omega
 obtain ⟨h1, tk, rfl, hk⟩ := x.done
 have noA : ∀ b : Addr, b ∉ (cxOf CX P w K mg base N qual scope f cd A outer s H E).ex := fun b z => absurd (show b ∈ ([] : List Addr) from z) (by simp)
 refine ⟨⟨e0.mod, S.kind, rfl, rfl, Nat.le_refl _, fun y z c h1 h2 => ?_, fun y hy => ?_, fun y c _ h => ?_, fun _ => hd, Around.frames_deeper e0.frames, .inr ⟨rfl, rfl⟩, fun b z => absurd z (noA b), e0.bs, e0.bsz, fun b _ _ => noA b, fun b z => absurd z (noA b), e0.funs, e0.frf⟩,
  rfl, e0.bare, Un.kept hk, ⟨_, x.toInCall.ns, fun i y v h1 h2 h3 => ?_⟩, fun y c h => ⟨_, x.cell y c h⟩, e0.hok.fresh (Nat.le_refl _), fun y c h => ?_, fun p hp => absurd (show p ∈ ([] : List (Addr × Obj)) from hp) (by simp), e0.hok.kept hk, ?_⟩
 ·exact name_of_addr x.apart (PySem.mem_of_lookup h1) (PySem.mem_of_lookup h2)
 ·have hy : scope.names.lookup y = some .cell ∨ scope.names.lookup y = some .free := hy
  rcases hy with hy | hy
  ·exact jqn hy
  ·exact absurd rfl (S.nofree _ (PySem.mem_of_lookup hy))
 ·exact Nat.le_of_lt (x.above y c (PySem.mem_of_lookup h))
 ·have hi : i < vs.length := by
   unfold start at h2
   by_cases hi : i < vs.length
   ·exact hi
   ·rw [List.getElem?_append_right (by simpa using hi)] at h2
    rw [List.getElem?_replicate] at h2
    split at h2 <;> cases h2
  have ha : vs[i]? = some v := by
   unfold start at h2
   rw [List.getElem?_append_left (by simpa using hi), List.getElem?_map] at h2
   cases e : vs[i]? with
   | none => rw [e] at h2; cases h2
   | some a => rw [e] at h2; cases h2; rfl
  obtain ⟨u, hu, rv⟩ := r.get ha
  have hp : ps[i]? = some y := by
   rw [← S.pre, List.getElem?_take_of_lt (by omega)]; exact h1
  have ndP : ps.Nodup := by rw [← S.pre]; exact S.nd.sublist (List.take_sublist _ _)
  refine ⟨u, rv, ?_⟩
  rcases S.par y (List.mem_of_getElem? hp) with k | k
  ·exact .inl ⟨k, iqp ndP hp hu k⟩
  ·obtain ⟨c, e⟩ := jqn (n := s.heap.objs.size + 1) k
   refine .inr ⟨.inl k, c, e, ?_⟩
   have q := x.cell y c e
   rw [iqj ndP hp hu (by show scope.names.lookup y ≠ _; rw [k]; decide)] at q
   exact q
 ·exact e0.hok.fresh (Nat.le_of_lt (x.above y c (PySem.mem_of_lookup h)))
 ·unfold start
  show _ = N.length
  rw [List.length_append, List.length_map, List.length_replicate]
  omega
theorem qqS {CX : CXT} {P : Program} {w : World} {K : PySem.W.Frag} {mg : Str → Option Value} {base : Heap} {k : Nat} {f : Addr} {name qual : Str} {params : Arguments} {body : List Stmt} {scope : Scope} {dV kV doc pm cdv ct oc : Value} {an od : Option Addr}
  {osl : Array (Option Value)} {N ps : List Str} {sp : Sp} (lk : K.lookup f = some ⟨oc, od, .func (PySem.W.fnOf name qual params body scope dV kV doc pm an cdv ct), osl⟩) (hcd : PySem.W.codeIn K cdv qual = true) (S : FnScope N ps scope)
  (len : ∀ vs H Q E, sp vs H Q E → vs.length = ps.length)
  (hbody : ∀ (A : Around) (outer : List Env) (s : Shared) (H : Hp) (vs : List V) (Q : VK) (E : XK), Room k (A.deeper (envOfC qual scope s.heap.objs.size f cdv)) → sp vs H Q E →
   ∃ t, PSs (cxOf CX P w K mg base N qual scope f cdv A outer s H E) body t ∧ t { nx := fun _ H' => Q .non H', rt := Q } (start N vs) H) :
  FnOk P w K mg base CX (k + 1) f (PySem.W.fnOf name qual params body scope dV kV doc pm an cdv ct) ps sp := by
 refine ⟨len, fun A outer s H args us vs Q E hr e0 hb r hsp => ?_⟩
 have hl := len _ _ _ _ hsp
 have KX : K.In s.heap := e0.mod.kin.keeps fun b o e => (e0.bs b o e).1
 have lim : s.heap.NoLimit := e0.mod.nolimit.keeps fun b o e => (e0.bs b o e).1
 have hkind : ∀ y ∈ ps.zip us, scope.names.lookup y.1 = some .local ∨ (scope.names.lookup y.1 = some .cell ∧ ((cellsFrom (s.heap.objs.size + 1) scope.names []).lookup y.1).isSome = true) := fun ⟨n, v⟩ hy => by
  rcases S.par n (List.of_mem_zip hy).1 with q | q
  ·exact .inl q
  ·exact .inr ⟨q, PySem.W.cellsFrom_some _ _ _ (.inl q)⟩
 refine codeAny_call_function hr.depth (KX _ _ lk) rfl S.co S.gen rfl (PySem.W.codeRec_of KX hcd) (hb _ _ _ _ ?_)
 refine wpAny_newFunctionEnv_cells S.kind hkind fun env he s1 x => ?_
 subst he
 refine ⟨lim.keeps x.toInCall.keep, codeAny_func ?_⟩
 obtain ⟨t, ht, hq⟩ := hbody A outer s H vs Q E (hr.deeper _) hsp
 have I : Inv (cxOf CX P w K mg base N qual scope f cdv A outer s H E) [] (start N vs) H s1 := kqo S hr.hd e0 hl r x
 refine wpAny_mono (ht [] s1 (start N vs) H _ I hq) (fun fl s' hs => ?_) fun e s' hs => hs
 have fin : ∀ {σ' : St} {H' : Hp} {v : V} {u : Value}, Inv (cxOf CX P w K mg base N qual scope f cdv A outer s H E) [] σ' H' s' → RelV v u → Q v H' → CE outer P w H s Q u s' :=
  fun {σ' H' v u} J rv q => ⟨v, H', J.os, J.bare, J.base, J.hok, rv, q⟩
 cases fl with
 | ret u =>
  obtain ⟨v, σ', H', J, rv, q⟩ := hs
  exact fin J rv q
 | next =>
  obtain ⟨σ', H', J, q⟩ := hs
  exact fin (v := V.non) (u := Value.none) J rfl q
 | brk =>
  obtain ⟨_, _, _, q⟩ := hs
  exact False.elim q
 | cont =>
  obtain ⟨_, _, _, q⟩ := hs
  exact False.elim q
section
variable {X : Cx} {x : Str} {p pos : Pos} {e : Expr} {es : List Expr} {t : TA} {id T : String} {r : List V → Hp → VK → Prop}
def tCB (r : List V → Hp → VK → Prop) (t : TA) : TE := fun σ H Q => t σ H fun vs H1 => r vs H1 Q
theorem aql (hc : CallR X (.builtin id) r) (hg : Gl X x) (hm : X.mg x = none) (hv : bootBuiltins x = some (.builtin id)) (ha : PA X (e :: es) t) (hn : x ≠ "__name__" := by decide) (hdb : (x == ("__debug__" : Str)) = false := by decide)
  (he : starEach (e :: es) X.env = (false, eval e X.env) :: starEach es X.env := by rfl) (hpl : (backTo pos (starEach es X.env)).any (·.1) = false := by rfl) : PE X (.Call (.Name x p) (e :: es) [] pos) (tCB r t) := by
 intro pins s σ H Q I h
 refine wpAny_Call_Name_kw (fq5 I hg hm hv ?_ hn hdb)
 exact PyProof.Rows.callWith_builtin1 (thn (ha pos pins s σ H _ I h) fun us s1 ⟨vs, H1, I1, r1, q1⟩ => hc pins s1 σ H1 vs us Q I1 r1 q1) he hpl
theorem bqQ (hc : CallR X (.type T) r) (hg : Gl X x) (hm : X.mg x = none) (hv : bootBuiltins x = some (.type T)) (ha : PA X (e :: es) t) (hn : x ≠ "__name__" := by decide) (hdb : (x == ("__debug__" : Str)) = false := by decide)
  (he : starEach (e :: es) X.env = (false, eval e X.env) :: starEach es X.env := by rfl) (hpl : (backTo pos (starEach es X.env)).any (·.1) = false := by rfl) : PE X (.Call (.Name x p) (e :: es) [] pos) (tCB r t) := by
 intro pins s σ H Q I h
 refine wpAny_Call_Name_kw (fq5 I hg hm hv ?_ hn hdb)
 exact PyProof.Rows.callWith_type1 (thn (ha pos pins s σ H _ I h) fun us s1 ⟨vs, H1, I1, r1, q1⟩ => hc pins s1 σ H1 vs us Q I1 r1 q1) he hpl
end
end L2
namespace HT
open PySem PyProof.Rows
def lexLt : List Int → List Int → Bool
 | [], [] => false
 | [], _ :: _ => true
 | _ :: _, [] => false
 | x :: xs, y :: ys => if x = y then lexLt xs ys else decide (x < y)
theorem jqU (x y : Int) (xs ys : List Int) : lexLt (x :: xs) (y :: ys) = if x = y then lexLt xs ys else decide (x < y) := rfl
theorem hqw : lexLt [] [] = false := rfl
theorem gqB (y : Int) (ys : List Int) : lexLt [] (y :: ys) = true := rfl
theorem gqC (x : Int) (xs : List Int) : lexLt (x :: xs) [] = false := rfl
theorem mqf (A : Around) (s : Shared) (a : Int) (t : Tok) (c : Int) (u : Tok) : ∃ e, SeqAt.EqAt A s (.int a t) (.int c u) e ∧ (e = true ↔ a = c) :=
 ⟨(a == c), SeqAt.EqAt.int_int a t c u, by simp⟩
section
open PySem.SeqAt
open PySem.AutoSeq1 (wpAny_loadPart')
open PySem.MeetsSeq PySem.MeetsSeq2 PySem.MeetsSeq3
end
section
variable {prog : Program} {w : World} {A : Around} {E : Value → Shared → Prop} {s : Shared}
theorem cat_tup {t b : Addr} {vs ws : List Value} {Q : Value → Shared → Prop} (ht : IsTup s.heap t vs.toArray) (hb : IsTup s.heap b ws.toArray) (hv : vs ≠ [])
  (h1 : ws = [] → Q (.ref t) s) (h2 : ws ≠ [] → Q (.ref s.heap.objs.size) { s with heap := s.heap.push { cls := .type "tuple", data := .seq (vs ++ ws).toArray } })
  (hsz : vs.length + ws.length ≤ sizeLine) : wpAny (model prog w) A (binaryOp .Add (.ref t) (.ref b)) Q E s := by
 obtain ⟨⟨cls, dd, data, sl⟩, ho, hc, n, hd⟩ := id ht
 obtain ⟨⟨cls2, dd2, data2, sl2⟩, ho2, hc2, n2, hd2⟩ := id hb
 simp only at hc hd hc2 hd2
 subst hc hd hc2 hd2
 have e : vs.toArray ++ ws.toArray = (vs ++ ws).toArray := by simp
 by_cases hw : ws = []
 ·exact concat_meets ⟨_, ho, rfl⟩ ⟨_, ho2, rfl⟩ noFill_tuple_add seq_tuple_add PySem.F.slot_tuple_add PySem.F.entry_tuple_add (PySem.F.args_tuple_add_2 _ _)
   (tuple_addW1 t b vs.toArray ws.toArray n n2 dd dd2 sl sl2 (by simpa using hv) (by simp [hw])) ⟨ho, ho2, h1 hw⟩
 ·refine concat_meets ⟨_, ho, rfl⟩ ⟨_, ho2, rfl⟩ noFill_tuple_add seq_tuple_add PySem.F.slot_tuple_add PySem.F.entry_tuple_add (PySem.F.args_tuple_add_2 _ _)
   (tuple_addW2 t b vs.toArray ws.toArray n n2 dd dd2 sl sl2 (by simpa using hv) (by simpa using hw) (by rw [List.size_toArray, List.size_toArray]; exact hsz)) ⟨ho, ho2, ?_⟩
  rw [e]
  exact h2 hw
def sIx (n d : Nat) : Option Int → Nat
 | none => d
 | some v => if v < 0 then (v + (n : Int)).toNat else min v.toNat n
theorem sIx_none (n d : Nat) : sIx n d none = d := rfl
theorem sIx_nat (n d k : Nat) : sIx n d (some (k : Int)) = min k n := by
 show (if (k : Int) < 0 then ((k : Int) + (n : Int)).toNat else min (k : Int).toNat n) = min k n
 rw [if_neg (by omega), Int.toNat_natCast]
theorem pqQ (n d : Nat) (hd : d ≤ n) (o : Option Int) : sIx n d o ≤ n := by
 cases o with
 | none => exact hd
 | some v =>
  show (if v < 0 then (v + (n : Int)).toNat else min v.toNat n) ≤ n
  by_cases hv : v < 0
  ·rw [if_pos hv]; omega
  ·rw [if_neg hv]; exact Nat.min_le_right _ _
theorem lqn (v : Int) (n d : Nat) : (if v < 0 then max (v + (n : Int)) 0 else min v (n : Int)) = ((sIx n d (some v) : Nat) : Int) := by
 show (if v < 0 then max (v + (n : Int)) 0 else min v (n : Int)) = (((if v < 0 then (v + (n : Int)).toNat else min v.toNat n) : Nat) : Int)
 by_cases hv : v < 0
 ·simp only [if_pos hv]; omega
 ·simp only [if_neg hv]; omega
theorem kqd (lo hi : Option Int) (n : Nat) : Builtin.Slice.sliceAdjust lo hi 1 (n : Int) = (((sIx n 0 lo : Nat) : Int), ((sIx n n hi : Nat) : Int)) := by
 have h1 : ¬ ((1 : Int) < 0) := by omega
 unfold Builtin.Slice.sliceAdjust
 simp only [h1, if_false]
 refine Prod.ext ?_ ?_
 ·cases lo with
  | none => rfl
  | some v => exact lqn v n 0
 ·cases hi with
  | none => rfl
  | some v => exact lqn v n n
theorem kqc (i j : Nat) : Builtin.Slice.slicePlaces (i : Int) (j : Int) 1 = j - i := by
 unfold Builtin.Slice.slicePlaces
 have h1 : (1 : Int) > 0 := by omega
 simp only [h1, if_true, Int.ediv_one]
 split <;> omega
theorem gqW {v : Value} {o : Option Int} {Q : Option Int → Shared → Prop} (p : IsPart v o) (h : Q o s) : wpAny (model prog w) A (Builtin.Slice.slicePartIndex v) Q E s := by
 cases p with
 | none => exact slicePart_none h
 | int i t => exact slicePart_int h
theorem dqt {sl : Addr} {vl vu : Value} {lo hi : Option Int} {n : Nat} {Q : Int × Int × Nat → Shared → Prop} (hs : s.heap.IsSliceOf sl vl vu .none) (pl : IsPart vl lo) (pu : IsPart vu hi)
  (h : Q (((sIx n 0 lo : Nat) : Int), 1, sIx n n hi - sIx n 0 lo) s) : wpAny (model prog w) A (Builtin.Slice.sliceApplied (.ref sl) (pure (n : Int))) Q E s := by
 obtain ⟨os, hos, hcs, hds⟩ := id hs
 unfold Builtin.Slice.sliceApplied Builtin.Slice.sliceFields
 refine wpAny_bind (wpAny_bind (wpAny_field hos hds (x := vl) rfl (wpAny_bind (wpAny_field hos hds (x := vu) rfl (wpAny_bind (wpAny_field hos hds (x := .none) rfl (wpAny_pure ?_)))))))
 refine wpAny_bind (slicePart_none ?_)
 show wpAny _ _ (if ((1 : Int) == 0) = true then _ else _) _ _ s
 rw [if_neg (by decide)]
 refine wpAny_bind (gqW pl (wpAny_bind (gqW pu (wpAny_bind (wpAny_pure ?_)))))
 show wpAny _ _ (match Builtin.Slice.sliceAdjust lo hi 1 (n : Int) with | (lo, hi) => pure (lo, (1 : Int), Builtin.Slice.slicePlaces lo hi 1)) _ _ s
 rw [kqd lo hi n]
 show wpAny _ _ (pure (((sIx n 0 lo : Nat) : Int), (1 : Int), Builtin.Slice.slicePlaces ((sIx n 0 lo : Nat) : Int) ((sIx n n hi : Nat) : Int) 1)) _ _ s
 rw [kqc]
 exact wpAny_pure h
theorem mqS (xs : Array Value) (i k : Nat) : ((List.range k).filterMap fun (m : Nat) => xs[((i : Int) + (m : Int) * 1).toNat]?).toArray = ((xs.toList.drop i).take k).toArray := by
 have e : (fun (m : Nat) => xs[((i : Int) + (m : Int) * 1).toNat]?) = fun m => xs[i + m]? := by
  funext m
  have : ((i : Int) + (m : Int) * 1).toNat = i + m := by omega
  rw [this]
 rw [e]
 have := pick_run xs i k
 rw [List.filterMap_map] at this
 have e2 : ((fun x => xs[x]?) ∘ fun x => i + x) = fun m => xs[i + m]? := rfl
 rw [e2] at this
 rw [this]
theorem getItem_tuple_cut {t sl : Addr} {items : Array Value} {vl vu : Value} {lo hi : Option Int} {Q : Value → Shared → Prop} (ht : IsTup s.heap t items) (hs : s.heap.IsSliceOf sl vl vu .none) (pl : IsPart vl lo) (pu : IsPart vu hi)
  (hw : ¬ (sIx items.size 0 lo = 0 ∧ sIx items.size items.size hi = items.size))
  (h : Q (.ref s.heap.objs.size) { s with heap := s.heap.push { cls := .type "tuple", data := .seq ((items.toList.drop (sIx items.size 0 lo)).take (sIx items.size items.size hi - sIx items.size 0 lo)).toArray } })
  (hsz : items.size ≤ sizeLine) : wpAny (model prog w) A (getItem (.ref t) (.ref sl)) Q E s := by
 have htake : sizeOk (.seq ((items.toList.drop (sIx items.size 0 lo)).take (sIx items.size items.size hi - sIx items.size 0 lo)).toArray) := by
  show ((items.toList.drop (sIx items.size 0 lo)).take (sIx items.size items.size hi - sIx items.size 0 lo)).toArray.size ≤ sizeLine
  rw [List.size_toArray, List.length_take, List.length_drop, Array.length_toList]
  omega
 have hj : sIx items.size items.size hi ≤ items.size := pqQ _ _ (Nat.le_refl _) hi
 obtain ⟨os, hos, hcs, hds⟩ := id hs
 have hTs : s.TypeIs (.ref sl) "slice" := ⟨os, hos, hcs⟩
 unfold getItem
 try with_reducible refine wpAny_holding ?_
 first | refine wpAny_bind (wpAny_pure ?_) | skip
 refine wpAny_bind (wpAny_sequenceKey ht.typeIs (by decide) ?_)
 refine wpAny_bind (wpAny_callSpecial?_slot (name := Str.ofString "__getitem__") ht.typeIs PyProof.Rows.slot_tuple_getitem
  (wpAny_call_entry PyProof.Rows.slot_tuple_getitem ht.typeIs entry_tuple_getitem ?_ (args_tuple_getitem _ _)))
 show wpAny _ _ (Builtin.Tuple.tupleItemsOf (.ref t) >>= _) _ _ s
 refine wpAny_bind (tupleItemsOf_ ht ?_)
 refine wpAny_bind (wpAny_typeOf hTs ?_)
 rw [if_pos (by decide)]
 refine wpAny_bind (dqt hs pl pu ?_)
 have hno : ¬ ((((sIx items.size 0 lo : Nat) : Int) == 0 && (1 : Int) == 1 && (sIx items.size items.size hi - sIx items.size 0 lo) == items.size) = true) := by
  intro q
  rw [Bool.and_eq_true, Bool.and_eq_true] at q
  have q1 : ((sIx items.size 0 lo : Nat) : Int) = 0 := eq_of_beq q.1.1
  have q2 : sIx items.size items.size hi - sIx items.size 0 lo = items.size := eq_of_beq q.2
  exact hw ⟨by omega, by omega⟩
 show wpAny _ _ (if (((sIx items.size 0 lo : Nat) : Int) == 0 && (1 : Int) == 1 && (sIx items.size items.size hi - sIx items.size 0 lo) == items.size) = true then _ else _) _ _ s
 rw [if_neg hno, mqS]
 first
  | exact wpAny_bind (m := Builtin.Tuple.tupleExact _) (wpAny_newObj_type (wpAny_pure ⟨_, rfl, wpAny_pure h⟩) htake)
  | exact wpAny_bind (m := Builtin.Tuple.tupleExact _) (wpAny_newObj_type (wpAny_bind (wpAny_pure (wpAny_pure ⟨_, rfl, wpAny_pure h⟩))) htake)
  | exact wpAny_bind (wpAny_bind (m := Builtin.Tuple.tupleExact _) (wpAny_newObj_type (wpAny_pure (wpAny_pure ⟨_, rfl, wpAny_pure h⟩)) htake))
  | exact wpAny_bind (wpAny_bind (m := Builtin.Tuple.tupleExact _) (wpAny_newObj_type (wpAny_pure ⟨_, rfl, wpAny_pure h⟩) htake))
end
end HT
namespace L2
open PySem PySem.Spec PyProof.Rows
abbrev TO := St → Hp → (Option Int → Hp → Prop) → Prop
def PO (X : Cx) (e : Option Expr) (t : TO) : Prop :=
 ∀ (pins : List (Addr × Obj)) (s : Shared) (σ : St) (H : Hp) (Q : Option Int → Hp → Prop), Inv X pins σ H s → t σ H Q →
  wpAny (model X.prog X.w) X.A (evalPart e X.env) (fun u s' => ∃ o H', Inv X pins σ H' s' ∧ IsPart u o ∧ Q o H') X.xe s
def tNoPart : TO := fun _ H Q => Q none H
def tPart (t : TE) : TO := fun σ H Q => t σ H fun x H1 => ∃ i, x = .int i ∧ Q (some i) H1
theorem dq4 {ns : List Int} : ∀ {us : List Value}, Vals (ns.map V.int) us → IntsAre us ns := by
 induction ns with
 | nil => intro us r; rw [List.map_nil] at r; cases r; exact .nil
 | cons n ns ih =>
  intro us r
  rw [List.map_cons] at r
  cases r with
  | cons r1 r2 =>
   obtain ⟨t, e⟩ := r1
   subst e
   exact .cons n t (ih r2)
section
variable {X : Cx} {e : Expr} {te : TE} {lo hi : Option Expr} {tl th : TO} {pos p2 : Pos}
theorem dqM : PO X none tNoPart := by
 intro pins s σ H Q I h
 rw [evalPart_none]
 exact wpAny_pure ⟨none, H, I, .none, h⟩
theorem bqe (h : PE X e te) : PO X (some e) (tPart te) := by
 intro pins s σ H Q I hw
 rw [evalPart_some]
 refine thn (h pins s σ H _ I hw) fun u s1 W' => ?_
 obtain ⟨x, H1, I1, r1, q1⟩ := W'
 obtain ⟨i, rfl, q⟩ := q1
 obtain ⟨t, rfl⟩ := r1
 exact ⟨some i, H1, I1, .int i t, q⟩
def SlR (X : Cx) (r : V → Option Int → Option Int → Hp → VK → Prop) : Prop :=
 ∀ (pins : List (Addr × Obj)) (s : Shared) (σ : St) (H : Hp) (x : V) (v vl vu : Value) (lo hi : Option Int) (sl : Addr) (Q : VK), Inv X pins σ H s → RelV x v → s.heap.IsSliceOf sl vl vu .none → IsPart vl lo → IsPart vu hi → r x lo hi H Q →
  ∃ T id, typeLookup (.type T) "__getitem__" = pure (some (.builtin id)) ∧ s.TypeIs v T ∧ wpAny (model X.prog X.w) X.A (getItem v (.ref sl)) (EP X pins σ Q) X.xe s
theorem SlR.or {r r' : V → Option Int → Option Int → Hp → VK → Prop} (h : SlR X r) (h' : SlR X r') : SlR X (fun x lo hi H Q => r x lo hi H Q ∨ r' x lo hi H Q) := by
 intro pins s σ H x v vl vu lo hi sl Q I rx hs pl pu q
 rcases q with q | q
 ·exact h pins s σ H x v vl vu lo hi sl Q I rx hs pl pu q
 ·exact h' pins s σ H x v vl vu lo hi sl Q I rx hs pl pu q
def tSl (r : V → Option Int → Option Int → Hp → VK → Prop) (te : TE) (tl th : TO) : TE := fun σ H Q => te σ H fun x H1 => tl σ H1 fun l H2 => th σ H2 fun u H3 => r x l u H3 Q
theorem bql {r : V → Option Int → Option Int → Hp → VK → Prop} (hr : SlR X r) (he : PE X e te) (hl : PO X lo tl) (hu : PO X hi th) : PE X (.Subscript e (.Slice lo hi none p2) pos) (tSl r te tl th) := by
 intro pins s σ H Q I h
 refine Subscript_ (thn (he pins s σ H _ I h) fun v s1 W' => ?_)
 obtain ⟨x, H1, I1, r1, q1⟩ := W'
 refine wpAny_Slice (thn (hl pins s1 σ H1 _ I1 q1) fun vl s2 ⟨l, H2, I2, pl, q2⟩ => thn (hu pins s2 σ H2 _ I2 q2) fun vu s3 W' => ?_)
 obtain ⟨u, H3, I3, pu, q3⟩ := W'
 rw [evalPart_none]
 refine wpAny_pure ?_
 have I4 : Inv X pins σ H3 { s3 with heap := s3.heap.push { cls := .type "slice", data := .fields #[vl, vu, .none] } } := I3.kept (t' := s3.toks) fun b ob q => Heap.get?_push_of_some _ q
 obtain ⟨T, id, hT, ht, hg⟩ := hr pins { s3 with heap := s3.heap.push { cls := .type "slice", data := .fields #[vl, vu, .none] } } σ H3 x v vl vu l u s3.heap.objs.size Q I4 r1 (Heap.IsSliceOf.new ..) pl pu q3
 show wpAny (model X.prog X.w) X.A (subscriptTail e (.Slice lo hi none p2) v (.ref s3.heap.objs.size)) (EP X pins σ Q) X.xe { s3 with heap := s3.heap.push { cls := .type "slice", data := .fields #[vl, vu, .none] } }
 exact tail_any (ops := [.ref s3.heap.objs.size, v]) ht hT hg (by with_unfolding_all rfl)
def cutV (xs : List V) (lo hi : Option Int) : List V := (xs.drop (HT.sIx xs.length 0 lo)).take (HT.sIx xs.length xs.length hi - HT.sIx xs.length 0 lo)
theorem fqR (xs : List V) (lo hi : Option Int) : (cutV xs lo hi).length ≤ xs.length := by
 unfold cutV
 rw [List.length_take, List.length_drop]
 omega
def rSlT (K : PySem.W.Frag) : V → Option Int → Option Int → Hp → VK → Prop := fun x lo hi H Q => ∃ a xs, x = .ref a ∧ SqT K H a xs ∧
 ¬ (HT.sIx xs.length 0 lo = 0 ∧ HT.sIx xs.length xs.length hi = xs.length) ∧ ∀ p, H p = none → Q (.ref p) (upd H p (.tup (cutV xs lo hi)))
theorem pqv : SlR X (rSlT X.K) := by
 intro pins s σ H x v vl vu lo hi sl Q I rx hs pl pu h
 obtain ⟨a, xs, rfl, hx, hw, q⟩ := h
 cases rx
 obtain ⟨its, r, ht, hz⟩ := I.tuple hx
 have hlen : its.toArray.size = xs.length := by rw [List.size_toArray]; exact r.length.symm
 refine ⟨"tuple", _, PyProof.Rows.slot_tuple_getitem.lookup, ht.typeIs, ?_⟩
 refine HT.getItem_tuple_cut ht hs pl pu (by rw [hlen]; exact hw) ?_ (by rw [hlen]; exact hz)
 rw [hlen]
 refine ⟨.ref s.heap.objs.size, _, I.laid (t' := s.toks) (o := .tup (cutV xs lo hi)) (fun b ob q => Heap.get?_push_of_some _ q) (Nat.le_refl _) ?_, rfl, q _ (I.hok.fresh (Nat.le_refl _))⟩
 exact ⟨Nat.le_trans (fqR xs lo hi) hz, _, (r.drop (HT.sIx xs.length 0 lo)).take (HT.sIx xs.length xs.length hi - HT.sIx xs.length 0 lo), IsTup.new _ _⟩
def rCatT (K : PySem.W.Frag) : R2 := fun x y H Q => ∃ a b xs ys, x = .ref a ∧ y = .ref b ∧ SqT K H a xs ∧ SqT K H b ys ∧ xs ≠ [] ∧ xs.length + ys.length ≤ sizeLine ∧
 (ys = [] → Q (.ref a) H) ∧ (ys ≠ [] → ∀ p, H p = none → Q (.ref p) (upd H p (.tup (xs ++ ys))))
theorem Vals.nil_iff {xs : List V} {us : List Value} (r : Vals xs us) : us = [] ↔ xs = [] := by
 cases r with
 | nil => simp
 | cons _ _ => simp
theorem nqB : OpR X (binaryOp .Add) (rCatT X.K) := by
 intro pins s σ H x y v u Q I rx ry h
 obtain ⟨a, b, xs, ys, rfl, rfl, ha, hb, hx, hz, q1, q2⟩ := h
 cases rx
 cases ry
 obtain ⟨its, r1, p1, _⟩ := I.tuple ha
 obtain ⟨its2, r2, p2, _⟩ := I.tuple hb
 refine HT.cat_tup p1 p2 (fun z => hx (r1.nil_iff.mp z)) (fun z => ⟨.ref a, H, I, rfl, q1 (r2.nil_iff.mp z)⟩) (fun z => ?_) (by rw [← r1.length, ← r2.length]; exact hz)
 refine ⟨.ref s.heap.objs.size, _, I.laid (t' := s.toks) (o := .tup (xs ++ ys)) (fun b ob q => Heap.get?_push_of_some _ q) (Nat.le_refl _) ?_, rfl, q2 (fun w => z (r2.nil_iff.mpr w)) _ (I.hok.fresh (Nat.le_refl _))⟩
 exact ⟨by rw [List.length_append]; exact hz, _, r1.append r2, IsTup.new _ _⟩
end
def ixN (n : Nat) (i : Int) : Option Nat := if 0 ≤ i then (if i < n then some i.toNat else none) else if -(n : Int) ≤ i then some (i + n).toNat else none
def atI {α : Type} (xs : List α) (i : Int) : Option α := (ixN xs.length i).bind fun j => xs[j]?
theorem kq7 {n : Nat} {i : Int} {j : Nat} (h : ixN n i = some j) : seqIndex? i n = some j ∧ j < n ∧ -(n : Int) ≤ i ∧ i < n := by
 unfold ixN at h
 by_cases h0 : 0 ≤ i
 ·rw [if_pos h0] at h
  by_cases h1 : i < n
  ·rw [if_pos h1] at h
   have e : i.toNat = j := Option.some.inj h
   exact ⟨by rw [seqIndex_of h0 h1, e], by omega, by omega, h1⟩
  ·rw [if_neg h1] at h; cases h
 ·rw [if_neg h0] at h
  by_cases h1 : -(n : Int) ≤ i
  ·rw [if_pos h1] at h
   have e : (i + n).toNat = j := Option.some.inj h
   exact ⟨by rw [seqIndex_neg (by omega) h1, e], by omega, h1, by omega⟩
  ·rw [if_neg h1] at h; cases h
theorem iqP {α : Type} {xs : List α} {i : Int} {v : α} (h : atI xs i = some v) : ∃ j, seqIndex? i xs.length = some j ∧ xs[j]? = some v ∧ j < xs.length ∧ -(xs.length : Int) ≤ i ∧ i < xs.length := by
 unfold atI at h
 cases e : ixN xs.length i with
 | none => rw [e] at h; cases h
 | some j =>
  rw [e] at h
  obtain ⟨h1, h2, h3, h4⟩ := kq7 e
  exact ⟨j, h1, h, h2, h3, h4⟩
theorem aqi {α : Type} {xs : List α} {j : Nat} {v : α} (h : xs[j]? = some v) : atI xs (j : Int) = some v := by
 have hj : j < xs.length := (List.getElem?_eq_some_iff.mp h).1
 have e : ixN xs.length (j : Int) = some j := by
  unfold ixN
  rw [if_pos (by omega), if_pos (by omega)]; simp
 unfold atI; rw [e]; exact h
theorem hqJ {α : Type} (xs : List α) (v : α) : atI (xs ++ [v]) (-1) = some v := by
 have hl : (xs ++ [v]).length = xs.length + 1 := by simp
 have e : ixN (xs ++ [v]).length (-1) = some xs.length := by
  unfold ixN
  rw [hl, if_neg (by decide), if_pos (by omega)]
  congr 1
  omega
 unfold atI
 rw [e]
 show (xs ++ [v])[xs.length]? = some v
 simp
def PlainIx (b : Expr) : Prop := ∀ o i, subscripted b false o i = operate [o, i] (getItem o i)
def IxR (X : Cx) (r : R2) : Prop :=
 ∀ (value slice : Expr) (pins : List (Addr × Obj)) (s : Shared) (σ : St) (H : Hp) (x y : V) (v u : Value) (Q : VK), Inv X pins σ H s → RelV x v → RelV y u → r x y H Q →
  subscripted slice false v u = operate [v, u] (getItem v u) → wpAny (model X.prog X.w) X.A (subscriptTail value slice v u) (EP X pins σ Q) X.xe s
def MtR (X : Cx) (id : String) (r : V → List V → Hp → VK → Prop) : Prop :=
 ∀ (pins : List (Addr × Obj)) (s : Shared) (σ : St) (H : Hp) (x : V) (xs : List V) (v : Value) (us : List Value) (Q : VK), Inv X pins σ H s → RelV x v → Vals xs us → r x xs H Q →
  wpAny (model X.prog X.w) X.A (call (.builtin id) (v :: us)) (EP X pins σ Q) X.xe s
section
variable {X : Cx} {a b : Expr} {ta tb : TE} {pos : Pos}
theorem IxR.or {r r' : R2} (h : IxR X r) (h' : IxR X r') : IxR X (fun x y H Q => r x y H Q ∨ r' x y H Q) := by
 intro value slice pins s σ H x y v u Q I rx ry q hs
 rcases q with q | q
 ·exact h value slice pins s σ H x y v u Q I rx ry q hs
 ·exact h' value slice pins s σ H x y v u Q I rx ry q hs
theorem aqo {r : R2} (hr : IxR X r) (ha : PE X a ta) (hb : PE X b tb) (hs : PlainIx b) : PE X (.Subscript a b pos) (tOp r ta tb) := by
 intro pins s σ H Q I h
 exact Subscript_ (binT ha hb I h fun v u s2 x y H2 I2 rx ry q => hr a b pins s2 σ H2 x y v u Q I2 rx ry q (hs _ _))
def rIxL (K : PySem.W.Frag) : R2 := fun x y H Q => ∃ p xs i v, x = .ref p ∧ y = .int i ∧ SqL K H p xs ∧ atI xs i = some v ∧ Q v H
def rIxT (K : PySem.W.Frag) : R2 := fun x y H Q => ∃ p xs i v, x = .ref p ∧ y = .int i ∧ SqT K H p xs ∧ atI xs i = some v ∧ Q v H
def rIxS : R2 := fun x y H Q => ∃ z i c, x = .str z ∧ y = .int i ∧ z.length ≤ sizeLine ∧ atI z.cps.toList i = some c ∧ Q (.str ⟨#[c]⟩) H
theorem oqH : IxR X (rIxL X.K) := by
 intro value slice pins s σ H x y v u Q I rx ry h hs
 obtain ⟨p, xs, i, z, rfl, rfl, hq, he, q⟩ := h
 cases rx
 obtain ⟨t, rfl⟩ := ry
 obtain ⟨its, r, pl, hz⟩ := I.list hq
 obtain ⟨j, h1, h2, h3, h4, h5⟩ := iqP he
 obtain ⟨w, ew, rw'⟩ := r.get h2
 have hl := r.length
 have hn := line63
 have fin : EP X pins σ Q w s := ⟨z, H, I, rw', q⟩
 by_cases h0 : 0 ≤ i
 ·have hj : i.toNat = j := by
   rw [seqIndex_of h0 h5] at h1
   exact Option.some.inj h1
  exact item_listR pl.isList h0 (by omega) (by rw [hj]; simpa using ew) fin hs
 ·have hj : (i + (its.toArray.size : Int)).toNat = j := by
   rw [seqIndex_neg (by omega) h4] at h1
   rw [List.size_toArray, ← hl]
   exact Option.some.inj h1
  exact subscriptTail_builtinR (x := w) pl.isList.typeIs slot_list_getitem.lookup
   (wpAny_getItem_list_neg (Q := fun r s' => r = w ∧ EP X pins σ Q r s') pl.isList (by omega) (by rw [List.size_toArray] <;> omega) (by omega) (by rw [hj]; simpa using ew) ⟨rfl, fin⟩) hs
theorem qqB : IxR X (rIxT X.K) := by
 intro value slice pins s σ H x y v u Q I rx ry h hs
 obtain ⟨p, xs, i, z, rfl, rfl, hq, he, q⟩ := h
 cases rx
 obtain ⟨t, rfl⟩ := ry
 obtain ⟨its, r, pl, hz⟩ := I.tuple hq
 obtain ⟨j, h1, h2, h3, h4, h5⟩ := iqP he
 obtain ⟨w, ew, rw'⟩ := r.get h2
 have hl := r.length
 have hn := line63
 have fin : EP X pins σ Q w s := ⟨z, H, I, rw', q⟩
 exact subscriptTail_builtinR (x := w) pl.typeIs slot_tuple_getitem.lookup
  (getItem_tuple (j := j) (Q := fun r s' => r = w ∧ EP X pins σ Q r s') pl (by omega) (by omega) (by rw [List.size_toArray, ← hl]; exact h1) (by simpa using ew) ⟨rfl, fin⟩) hs
theorem qqh : IxR X rIxS := by
 intro value slice pins s σ H x y v u Q I rx ry h hs
 obtain ⟨z, i, c, rfl, rfl, hz, he, q⟩ := h
 obtain ⟨t, rfl⟩ := rx
 obtain ⟨t', rfl⟩ := ry
 obtain ⟨j, h1, h2, h3, h4, h5⟩ := iqP he
 have hl : z.cps.toList.length = z.length := by simp [Str.length]
 rw [hl] at h1 h4 h5
 have hn := line63
 exact tail_any (typeIs_str s z t) slot_str_getitem.lookup (getItem_str (c := c) (by
  have e1 : decide (i < -(2 ^ 63 : Int)) = false := decide_eq_false (by omega)
  have e2 : decide (i ≥ 2 ^ 63) = false := decide_eq_false (by omega)
  rw [e1, e2, Bool.or_false]) (by rw [h1]; simpa using h2) ⟨.str ⟨#[c]⟩, H, I.tok _, ⟨_, rfl⟩, q⟩) hs
def rIx (K : PySem.W.Frag) : R2 := fun x y H Q => rIxL K x y H Q ∨ rIxT K x y H Q ∨ rIxS x y H Q
theorem qqo : IxR X (rIx X.K) := oqH.or (qqB.or qqh)
theorem jq8 (its : List Value) (n j : Nat) (u : Value) : Obj.mapSeq (·.setIfInBounds j u) { cls := .type "list", data := .seq its.toArray n } = { cls := .type "list", data := .seq (its.set j u).toArray n } := by
 simp [Obj.mapSeq]
theorem Inv.lst {pins : List (Addr × Obj)} {σ : St} {H : Hp} {s : Shared} {p : Addr} {xs : List V} (I : Inv X pins σ H s) (h : H p = some (.lst xs)) :
  ∃ (its : List Value) (n : Nat), Vals xs its ∧ s.heap.get? p = some { cls := .type "list", data := .seq its.toArray n } ∧ xs.length ≤ sizeLine := by
 obtain ⟨z, its, n, r, e⟩ := I.hok p _ h
 exact ⟨its, n, r, e, z⟩
theorem Inv.lstUpd {pins : List (Addr × Obj)} {σ : St} {H : Hp} {s : Shared} {p : Addr} {xs ys : List V} {its its' : List Value} {n n' : Nat} {f : Obj → Obj} (I : Inv X pins σ H s) (h : H p = some (.lst xs))
  (ho : s.heap.get? p = some { cls := .type "list", data := .seq its.toArray n }) (hf : f { cls := .type "list", data := .seq its.toArray n } = { cls := .type "list", data := .seq its'.toArray n' }) (r : Vals ys its') (hz : ys.length ≤ sizeLine) (t : Nat) :
  Inv X pins σ (upd H p (.lst ys)) { s with heap := s.heap.update p f, toks := t } := by
 have e : (s.heap.update p f).get? p = some { cls := .type "list", data := .seq its'.toArray n' } := by
  rw [Heap.get?_update_self f ho (by rw [hf] <;> rfl), hf]
 refine I.write (x := p) (e := p) (by rw [h]; trivial) (.inl rfl) (fun b u hb q => (Heap.get?_update_other _ _ (Ne.symm hb)).trans q) ⟨_, e⟩ ?_
 exact ⟨hz, its', n', r, e⟩
def rSetL : V → V → V → Hp → (Hp → Prop) → Prop := fun o i v H Q => ∃ p xs k j, o = .ref p ∧ i = .int k ∧ H p = some (.lst xs) ∧ ixN xs.length k = some j ∧ Q (upd H p (.lst (xs.set j v)))
theorem jqq : PSet X rSetL := by
 intro pins s σ H o i v ov iv u Q I ro ri rv h
 obtain ⟨p, xs, k, j, rfl, rfl, hp, hj, q⟩ := h
 cases ro
 obtain ⟨t, rfl⟩ := ri
 obtain ⟨its, n, r, ho, hz⟩ := I.lst hp
 obtain ⟨h1, h2, h3, h4⟩ := kq7 hj
 have hl := r.length
 have hn := line63
 have I' : Inv X pins σ (upd H p (.lst (xs.set j v))) { s with heap := s.heap.update p (Obj.mapSeq (·.setIfInBounds j u)) } :=
  I.lstUpd hp ho (jq8 its n j u) (r.set rv j) (by rw [List.length_set]; exact hz) s.toks
 by_cases h0 : 0 ≤ k
 ·have hk : k.toNat = j := by
   rw [seqIndex_of h0 h4] at h1
   exact Option.some.inj h1
  exact PySem.W.ki_setAt ho h0 (by omega) (by rw [List.size_toArray, ← hl]; exact h4) (by rw [hk]; exact ⟨_, I', q⟩)
 ·have hk : (k + (its.toArray.size : Int)).toNat = j := by
   rw [seqIndex_neg (by omega) h3] at h1
   rw [List.size_toArray, ← hl]
   exact Option.some.inj h1
  exact PySem.W.ki_setBack ho (by omega) (by rw [List.size_toArray, ← hl]; exact h3) (by omega) (by rw [hk]; exact ⟨_, I', q⟩)
theorem hq4 (lo hi : Option Int) (n : Nat) : (sliceBounds lo hi none n).1 = ((HT.sIx n 0 lo : Nat) : Int) ∧ (sliceBounds lo hi none n).2.1 = ((HT.sIx n n hi : Nat) : Int) ∧ (sliceBounds lo hi none n).2.2 = 1 := by
 refine ⟨?_, ?_, rfl⟩
 ·cases lo with
  | none => simp [sliceBounds, HT.sIx]
  | some i =>
   simp only [sliceBounds, HT.sIx, Option.getD_none, show (1 : Int) > 0 by decide, if_true]
   by_cases h : i < 0
   ·simp only [h, if_true] <;> omega
   ·simp only [h, if_false] <;> omega
 ·cases hi with
  | none => simp [sliceBounds, HT.sIx]
  | some i =>
   simp only [sliceBounds, HT.sIx, Option.getD_none, show (1 : Int) > 0 by decide, if_true]
   by_cases h : i < 0
   ·simp only [h, if_true] <;> omega
   ·simp only [h, if_false] <;> omega
theorem hqy (its : List Value) (lo hi : Option Int) : slicePick its.toArray lo hi none = ((its.drop (HT.sIx its.length 0 lo)).take (HT.sIx its.length its.length hi - HT.sIx its.length 0 lo)).toArray := by
 obtain ⟨h1, h2, h3⟩ := hq4 lo hi its.toArray.size
 unfold slicePick
 rw [h1, h2, h3]
 simp only [sliceRange_one, pick_run, List.size_toArray] <;> rfl
def rSlL (K : PySem.W.Frag) : V → Option Int → Option Int → Hp → VK → Prop := fun x lo hi H Q => ∃ a xs, x = .ref a ∧ SqL K H a xs ∧ ∀ p, H p = none → Q (.ref p) (upd H p (.lst (cutV xs lo hi)))
theorem kqv : SlR X (rSlL X.K) := by
 intro pins s σ H x v vl vu lo hi sl Q I rx hs pl pu h
 obtain ⟨a, xs, rfl, hx, q⟩ := h
 cases rx
 obtain ⟨its, r, ht, hz⟩ := I.list hx
 have hlen := r.length
 refine ⟨"list", _, slot_list_getitem.lookup, ht.isList.typeIs, ?_⟩
 refine wpAny_getItem_list_slice ht.isList hs pl pu .none (by simp) ?_ (by rw [List.size_toArray] <;> omega)
 rw [hqy, ← hlen]
 refine ⟨.ref s.heap.objs.size, _, I.laid (t' := s.toks) (o := .lst (cutV xs lo hi)) (fun b ob q => Heap.get?_push_of_some _ q) (Nat.le_refl _) ?_, rfl, q _ (I.hok.fresh (Nat.le_refl _))⟩
 exact ⟨Nat.le_trans (fqR xs lo hi) hz, _, 0, (r.drop (HT.sIx xs.length 0 lo)).take (HT.sIx xs.length xs.length hi - HT.sIx xs.length 0 lo), Heap.get?_push_size _ rfl⟩
def flatV : V → Bool
 | .non => true
 | .bl _ => true
 | .int _ => true
 | .str _ => true
 | _ => false
def eqV : V → V → Bool
 | .non, .non => true
 | .bl a, .bl b => a == b
 | .bl a, .int b => (if a then 1 else 0) == b
 | .int a, .bl b => a == (if b then 1 else 0)
 | .int a, .int b => a == b
 | .str a, .str b => a == b
 | _, _ => false
theorem oq7 {A : Around} {s : Shared} {y x : V} {u v : Value} (ry : RelV y u) (rx : RelV x v) (fy : flatV y = true) (fx : flatV x = true) : SeqAt.EqAt A s u v (eqV y x) := by
 cases y with
 | non =>
  cases ry
  cases x with
  | non => cases rx; exact SeqAt.EqAt.same _
  | bl b => cases rx; exact SeqAt.EqAt.none_bool b
  | int b => obtain ⟨t, rfl⟩ := rx; exact SeqAt.EqAt.none_int b t
  | str b => obtain ⟨t, rfl⟩ := rx; exact SeqAt.EqAt.none_str b t
  | _ => exact absurd (show false = true from fx) Bool.false_ne_true
 | bl a =>
  cases ry
  cases x with
  | non => cases rx; exact SeqAt.EqAt.bool_none a
  | bl b => cases rx; exact SeqAt.EqAt.bool_bool a b
  | int b => obtain ⟨t, rfl⟩ := rx; exact SeqAt.EqAt.bool_int a b t
  | str b => obtain ⟨t, rfl⟩ := rx; exact SeqAt.EqAt.bool_str a b t
  | _ => exact absurd (show false = true from fx) Bool.false_ne_true
 | int a =>
  obtain ⟨t', rfl⟩ := ry
  cases x with
  | non => cases rx; exact SeqAt.EqAt.int_none a t'
  | bl b => cases rx; exact SeqAt.EqAt.int_bool a t' b
  | int b => obtain ⟨t, rfl⟩ := rx; exact SeqAt.EqAt.int_int a t' b t
  | str b => obtain ⟨t, rfl⟩ := rx; exact SeqAt.EqAt.int_str a t' b t
  | _ => exact absurd (show false = true from fx) Bool.false_ne_true
 | str a =>
  obtain ⟨t', rfl⟩ := ry
  cases x with
  | non => cases rx; exact SeqAt.EqAt.str_none a t'
  | bl b => cases rx; exact SeqAt.EqAt.str_bool a t' b
  | int b => obtain ⟨t, rfl⟩ := rx; exact SeqAt.EqAt.str_int a t' b t
  | str b => obtain ⟨t, rfl⟩ := rx; exact SeqAt.EqAt.str_str a t' b t
  | _ => exact absurd (show false = true from fx) Bool.false_ne_true
 | _ => exact absurd (show false = true from fy) Bool.false_ne_true
def eqU (x : V) (u : Value) : Bool := match u with
 | .none => eqV .non x
 | .bool b => eqV (.bl b) x
 | .int i _ => eqV (.int i) x
 | .str z _ => eqV (.str z) x
 | _ => false
theorem nqe {x y : V} {u : Value} (r : RelV y u) (f : flatV y = true) : eqU x u = eqV y x := by
 cases y with
 | non => cases r; rfl
 | bl b => cases r; rfl
 | int i => obtain ⟨t, rfl⟩ := r; rfl
 | str z => obtain ⟨t, rfl⟩ := r; rfl
 | _ => exact absurd (show false = true from f) Bool.false_ne_true
theorem iqT {x : V} : ∀ {xs : List V} {us : List Value}, Vals xs us → xs.all flatV = true → us.any (eqU x) = xs.any fun y => eqV y x
 | _, _, .nil, _ => rfl
 | y :: xs, u :: us, .cons r t, f => by
  rw [List.all_cons, Bool.and_eq_true] at f
  rw [List.any_cons, List.any_cons, nqe r f.1, iqT t f.2]
theorem gq9 {A : Around} {s : Shared} {x : V} {v : Value} (rx : RelV x v) (fx : flatV x = true) : ∀ {xs : List V} {us : List Value}, Vals xs us → xs.all flatV = true → ∀ u ∈ us, SeqAt.EqAt A s u v (eqU x u)
 | _, _, .nil, _ => fun u hu => by cases hu
 | y :: xs, u :: us, .cons r t, f => fun u' hu => by
  rw [List.all_cons, Bool.and_eq_true] at f
  rcases List.mem_cons.mp hu with rfl | hu
  ·rw [nqe r f.1]; exact oq7 r rx f.1 fx
  ·exact gq9 rx fx t f.2 u' hu
def inV (x : V) (xs : List V) : Bool := xs.any fun y => eqV y x
def rIn (K : PySem.W.Frag) (neg : Bool) : R2 := fun x y H Q => ∃ p xs, y = .ref p ∧ (SqL K H p xs ∨ SqT K H p xs) ∧ flatV x = true ∧ xs.all flatV = true ∧ Q (.bl (if neg then !inV x xs else inV x xs)) H
theorem kqK : OpR X (compareOp .In) (rIn X.K false) := by
 intro pins s σ H x y v u Q I rx ry h
 obtain ⟨p, xs, rfl, hq, fx, fs, q⟩ := h
 cases ry
 rcases hq with hq | hq
 ·obtain ⟨its, r, pl, hz⟩ := I.list hq
  refine SeqAt.in_listAt (eqU x) pl.isList (fun w hw => gq9 rx fx r fs w (by simpa using hw)) ⟨.bl _, H, I, rfl, ?_⟩
  rw [show its.toArray.any (eqU x) = its.any (eqU x) by simp, iqT r fs]
  exact q
 ·obtain ⟨its, r, pl, hz⟩ := I.tuple hq
  refine SeqAt.in_tupleAt (eqU x) pl (fun w hw => gq9 rx fx r fs w (by simpa using hw)) ⟨.bl _, H, I, rfl, ?_⟩
  rw [show its.toArray.any (eqU x) = its.any (eqU x) by simp, iqT r fs]
  exact q
theorem iqd : CallR X (.builtin "len") (fun xs H Q => ∃ p ys, xs = [.ref p] ∧ (SqL X.K H p ys ∨ SqT X.K H p ys) ∧ Q (.int ys.length) H) := by
 intro pins s σ H xs us Q I r h
 obtain ⟨p, ys, rfl, hq, q⟩ := h
 obtain ⟨u, rfl, rx⟩ := vals1 r
 cases rx
 have hn := line63
 rcases hq with hq | hq
 ·obtain ⟨its, r', pl, hz⟩ := I.list hq
  have hlen := r'.length
  exact Calls.call_len_list pl.isList (by simp only [List.size_toArray] <;> omega) ⟨.int ys.length, H, I.tok _, ⟨s.toks + 1, by rw [List.size_toArray, hlen]⟩, q⟩
 ·obtain ⟨its, r', pl, hz⟩ := I.tuple hq
  have hlen := r'.length
  exact len_tuple pl (by simp only [List.size_toArray] <;> omega) ⟨.int ys.length, H, I.tok _, ⟨s.toks + 1, by rw [List.size_toArray, hlen]⟩, q⟩
theorem hq0 : CallR X (.builtin "len") (fun xs H Q => ∃ z, xs = [.str z] ∧ z.length ≤ sizeLine ∧ Q (.int z.length) H) := by
 intro pins s σ H xs us Q I r h
 obtain ⟨z, rfl, hz, q⟩ := h
 obtain ⟨u, rfl, t, rfl⟩ := vals1 r
 have hn := line63
 exact len_str (by omega) ⟨.int z.length, H, I.tok _, ⟨_, rfl⟩, q⟩
theorem iqi : CallR X (.type "list") (fun xs H Q => ∃ p ys, xs = [.ref p] ∧ (SqL X.K H p ys ∨ SqT X.K H p ys) ∧ ∀ l, H l = none → Q (.ref l) (upd H l (.lst ys))) := by
 intro pins s σ H xs us Q I r h
 obtain ⟨p, ys, rfl, hq, q⟩ := h
 obtain ⟨u, rfl, rx⟩ := vals1 r
 cases rx
 have fin : ∀ (its : List Value), Vals ys its → ys.length ≤ sizeLine → ∀ (h' : Heap) (c' : Nat), (∀ b o', s.heap.get? b = some o' → h'.get? b = some o') →
   h'.get? s.heap.objs.size = some { cls := .type "list", dict := none, data := .seq its.toArray c', slots := #[] } → EP X pins σ Q (.ref s.heap.objs.size) { s with heap := h' } := fun its r' hz h' c' kp e =>
  ⟨.ref s.heap.objs.size, _, I.laid (t' := s.toks) kp (Nat.le_refl _) (show ObjOk X.prog X.w _ h' _ (.lst ys) from ⟨hz, its, c', r', e⟩), rfl, q _ (I.hok.fresh (Nat.le_refl _))⟩
 rcases hq with hq | hq
 ·obtain ⟨its, r', pl, hz⟩ := I.list hq
  have hlen := r'.length
  obtain ⟨o, ho, hc, n, hd⟩ := pl.isList
  exact call_list_seq p (.inl rfl) ho hc hd (fun h' c' kp e => fin its r' hz h' c' kp e) (by simp only [List.size_toArray] <;> omega)
 ·obtain ⟨its, r', pl, hz⟩ := I.tuple hq
  have hlen := r'.length
  obtain ⟨o, ho, hc, n, hd⟩ := pl
  exact call_list_seq p (.inr rfl) ho hc hd (fun h' c' kp e => fin its r' hz h' c' kp e) (by simp only [List.size_toArray] <;> omega)
theorem equ : CallR X (.type "tuple") (fun xs H Q => ∃ p ys, xs = [.ref p] ∧ ((SqL X.K H p ys ∧ ∀ l, H l = none → Q (.ref l) (upd H l (.tup ys))) ∨ (SqT X.K H p ys ∧ Q (.ref p) H))) := by
 intro pins s σ H xs us Q I r h
 obtain ⟨p, ys, rfl, h⟩ := h
 obtain ⟨u, rfl, rx⟩ := vals1 r
 cases rx
 rcases h with ⟨hq, q⟩ | ⟨hq, q⟩
 ·obtain ⟨its, r', pl, hz⟩ := I.list hq
  have hlen := r'.length
  refine call_tuple_list pl.isList (fun h' kp => ?_) (by simp only [List.size_toArray] <;> omega)
  have I1 : Inv X pins σ H { s with heap := h' } := I.kept (t' := s.toks) kp
  have I2 : Inv X pins σ (upd H h'.objs.size (.tup ys)) { s with heap := h'.push { cls := .type "tuple", data := .seq its.toArray } } :=
   I1.laid (t' := s.toks) (fun b o e => Heap.get?_push_of_some _ e) (Nat.le_refl _) (show ObjOk X.prog X.w _ _ _ (.tup ys) from ⟨hz, its, r', IsTup.new _ _⟩)
  exact ⟨.ref h'.objs.size, _, I2, rfl, q _ (I1.hok.fresh (Nat.le_refl _))⟩
 ·obtain ⟨its, r', pl, hz⟩ := I.tuple hq
  exact call_tuple_same pl ⟨.ref p, H, I, rfl, q⟩
def tyV (K : PySem.W.Frag) (T : String) (x : V) (H : Hp) : Prop := match x with
 | .str _ => T = "str"
 | .int _ => T = "int"
 | .ref p => (T = "list" ∧ ∃ xs, SqL K H p xs) ∨ (T = "tuple" ∧ ∃ o, K.lookup p = some o ∧ o.cls = .type "tuple" ∧ o.dict = none) ∨
   (T = "dict" ∧ ((∃ kvs, H p = some (.dK kvs)) ∨ ∃ kvs, H p = some (.dT kvs))) ∨ (T = "set" ∧ ∃ S n, H p = some (.set S n))
 | _ => False
theorem pqx {pins : List (Addr × Obj)} {σ : St} {H : Hp} {s : Shared} {T : String} {x : V} {v : Value} (I : Inv X pins σ H s) (r : RelV x v) (ty : tyV X.K T x H) :
  s.TypeIs v T ∧ ∀ a, v = .ref a → ∃ ob, s.heap.get? a = some ob ∧ ob.dict = none := by
 cases x with
 | str z =>
  obtain ⟨t, rfl⟩ := r
  cases (show T = "str" from ty)
  exact ⟨typeIs_str s z t, fun _ e => nomatch e⟩
 | int i =>
  obtain ⟨t, rfl⟩ := r
  cases (show T = "int" from ty)
  exact ⟨typeIs_int s i t, fun _ e => nomatch e⟩
 | ref p =>
  cases r
  rcases ty with ⟨rfl, xs, hq⟩ | ⟨rfl, o, hk, hc, hd⟩ | ⟨rfl, hk⟩ | ⟨rfl, S, n, hk⟩
  ·obtain ⟨its, _, pl, _⟩ := I.list hq
   refine ⟨pl.isList.typeIs, fun a e => ?_⟩
   cases e
   obtain ⟨o, n, e, c, hd, _⟩ := pl
   exact ⟨o, e, hd⟩
  ·refine ⟨⟨o, I.kIn p o hk, hc⟩, fun a e => ?_⟩
   cases e
   exact ⟨o, I.kIn _ o hk, hd⟩
  ·have z : ∃ o, s.heap.get? p = some o ∧ o.ExactDict := by
    rcases hk with ⟨kvs, hk⟩ | ⟨kvs, hk⟩
    ·obtain ⟨_, _, _, _, o, _, _, e, ex, _⟩ := I.hok p _ hk
     exact ⟨o, e, ex⟩
    ·obtain ⟨_, _, _, _, o, _, _, e, ex, _⟩ := I.hok p _ hk
     exact ⟨o, e, ex⟩
   obtain ⟨o, e, ex⟩ := z
   refine ⟨⟨o, e, ex.1⟩, fun a e2 => ?_⟩
   cases e2
   exact ⟨o, e, ex.2.1⟩
  ·obtain ⟨o, _, _, _, e, ex, _⟩ := I.hok p _ hk
   refine ⟨⟨o, e, ex.1⟩, fun a e2 => ?_⟩
   cases e2
   exact ⟨o, e, ex.2.1⟩
 | _ => exact False.elim ty
def tBM0 (K : PySem.W.Frag) (T : String) (r : V → List V → Hp → VK → Prop) (to : TE) : TE := fun σ H Q => to σ H fun x H1 => tyV K T x H1 ∧ r x [] H1 Q
def tBM (K : PySem.W.Frag) (T : String) (r : V → List V → Hp → VK → Prop) (to : TE) (t : TA) : TE := fun σ H Q => to σ H fun x H1 => tyV K T x H1 ∧ t σ H1 fun xs H2 => r x xs H2 Q
variable {o e : Expr} {es : List Expr} {to : TE} {t : TA} {name : Str} {apos cpos : Pos} {T id : String} {r : V → List V → Hp → VK → Prop}
theorem qqQ (pa : PlainAttrs T) (slot : Slot T name id) (hty : typeOf (.builtin id) = pure (.type "method_descriptor")) (hm : MtR X id r) (ho : PE X o to) (ha : PA X (e :: es) t)
  (hbase : attributeBase o name X.env (eval o X.env) = eval o X.env := by rfl)
  (hfew : ((backTo cpos (starEach (e :: es) X.env)).all (fun x => !x.1) && (backToKw cpos (keywordEach [] X.env)).all (fun x => x.1.isSome)
   && decide ((e :: es).length + ([] : List Keyword).length + (if ([] : List Keyword).isEmpty then 0 else 1) < 30)) = true := by rfl)
  (hline : (apos.endLine == cpos.line) = true := by rfl) (hs : starEach (e :: es) X.env = (false, eval e X.env) :: starEach es X.env := by rfl) (hplain : (backTo cpos (starEach es X.env)).any (·.1) = false := by rfl) :
  PE X (.Call (.Attribute o name apos) (e :: es) [] cpos) (tBM X.K T r to t) := by
 intro pins s σ H Q I h
 refine wpAny_Call_method_late hbase hfew hline rfl (thn (ho pins s σ H _ I h) fun v s1 W' => ?_)
 obtain ⟨x, H1, I1, r1, ty, q1⟩ := W'
 obtain ⟨h1, h2⟩ := pqx I1 r1 ty
 refine ⟨T, id, pa, slot, hty, h1, h2, ?_⟩
 have hA := ha cpos pins s1 σ H1 _ I1 q1
 rw [hs] at hA ⊢
 refine Calls.callWith_builtin (by show (false || (backTo cpos (starEach es X.env)).any (·.1)) = false; rw [hplain] <;> rfl) (Calls.evalArgs_plain ?_)
 exact thn hA fun us s2 ⟨vs, H2, I2, r2, q2⟩ => hm pins s2 σ H2 x vs v us Q I2 r1 r2 q2
end
def MtM (X : Cx) (id : String) (r : V → List V → Hp → VK → Prop) : Prop :=
 ∀ (pins : List (Addr × Obj)) (s : Shared) (σ : St) (H : Hp) (x : V) (xs : List V) (v : Value) (us : List Value) (Q : VK), Inv X pins σ H s → RelV x v → Vals xs us → r x xs H Q →
  wpAny (model X.prog X.w) X.A (call (.builtin id) (v :: us)) (EP X pins σ Q) X.xe s
theorem Vals.one : ∀ {x : V} {us : List Value}, Vals [x] us → ∃ u, us = [u] ∧ RelV x u
 | _, _, .cons r .nil => ⟨_, rfl, r⟩
theorem Vals.rep {xs : List V} {us : List Value} (h : Vals xs us) : ∀ k : Nat, Vals (List.replicate k xs).flatten (List.replicate k us).flatten
 | 0 => .nil
 | k + 1 => by
  rw [List.replicate_succ, List.replicate_succ, List.flatten_cons, List.flatten_cons]
  exact Vals.append h (Vals.rep h k)
theorem fqK (its : List Value) : ∀ (k : Nat) (acc : List Value),
  List.foldl (fun x1 x2 => x1 ++ x2) acc.toArray (List.replicate k its.toArray) = (acc ++ (List.replicate k its).flatten).toArray
 | 0, acc => by simp
 | k + 1, acc => by
  have e : acc.toArray ++ its.toArray = (acc ++ its).toArray := by simp
  have e2 : (acc ++ its) ++ (List.replicate k its).flatten = acc ++ (List.replicate (k + 1) its).flatten := by
   rw [List.replicate_succ, List.flatten_cons, List.append_assoc]
  rw [← e2, ← fqK its k (acc ++ its), ← e, List.replicate_succ, List.foldl_cons]
section
variable {X : Cx} {pins : List (Addr × Obj)} {σ : St} {H : Hp} {s : Shared} {l b : Addr} {xs ys zs : List V}
theorem Inv.lset {its its' : List Value} {n : Nat} {f : Array Value → Array Value} {t' : Nat} (I : Inv X pins σ H s) (hH : H l = some (.lst xs))
  (e : s.heap.get? l = some { cls := .type "list", data := .seq its.toArray n }) (hf : f its.toArray = its'.toArray) (hv : Vals ys its') (hz : ys.length ≤ sizeLine) :
  Inv X pins σ (upd H l (.lst ys)) { s with heap := s.heap.update l (Obj.mapSeq f), toks := t' } := by
 have q := PySem.IsL.update e f
 rw [hf] at q
 refine I.write (x := l) (e := l) (by rw [hH]; exact trivial) (.inl rfl) (fun b' u hb hu => (Heap.get?_update_other s.heap (Obj.mapSeq f) (Ne.symm hb)).trans hu) ⟨_, q⟩ ?_
 exact ⟨hz, its', _, hv, q⟩
theorem Inv.lnew {its : List Value} {t' : Nat} (I : Inv X pins σ H s) (hv : Vals ys its) (hz : ys.length ≤ sizeLine) :
  Inv X pins σ (upd H s.heap.objs.size (.lst ys)) { s with heap := s.heap.push { cls := .type "list", data := .seq its.toArray }, toks := t' } :=
 I.laid (fun _ _ q => Heap.get?_push_of_some _ q) (Nat.le_refl _) ⟨hz, its, 0, hv, Heap.get?_push_size _ rfl⟩
theorem Inv.fresh (I : Inv X pins σ H s) : H s.heap.objs.size = none := I.hok.fresh (Nat.le_refl _)
theorem Inv.lstM (I : Inv X pins σ H s) (hH : H l = some (.lst xs)) : xs.length ≤ sizeLine ∧ ∃ (its : List Value) (n : Nat), Vals xs its ∧ xs.length = its.length ∧ s.heap.get? l = some { cls := .type "list", data := .seq its.toArray n } := by
 obtain ⟨z, its, n, r, e⟩ := I.hok l _ hH
 exact ⟨z, its, n, r, r.length, e⟩
end
section
variable {X : Cx}
def rAppend : V → List V → Hp → VK → Prop := fun x vs H Q => ∃ l xs y, x = .ref l ∧ vs = [y] ∧ H l = some (.lst xs) ∧ xs.length < sizeLine ∧ Q .non (upd H l (.lst (xs ++ [y])))
theorem aqV : MtM X "list.append" rAppend := by
 intro pins s σ H x vs v us Q I rx rv h
 obtain ⟨l, xs, y, rfl, rfl, hH, hz, q⟩ := h
 cases rx
 obtain ⟨u, rfl, ru⟩ := rv.one
 obtain ⟨z, its, n, r, hl, e⟩ := I.lstM hH
 refine call_meets F.slot_list_append ⟨_, e, rfl⟩ F.entry_list_append (F.args_list_append_2 _ _) (PySem.list_append l its.toArray n u (by rw [List.size_toArray]; omega)) ⟨e, ?_⟩
 refine ⟨.non, _, I.lset (its' := its ++ [u]) hH e (by simp) (r.append (.cons ru .nil)) ?_, rfl, q⟩
 rw [List.length_append, List.length_singleton]
 omega
def rExtend : V → List V → Hp → VK → Prop := fun x vs H Q => ∃ l b xs zs, x = .ref l ∧ vs = [.ref b] ∧ H l = some (.lst xs) ∧ H b = some (.lst zs) ∧ xs.length + zs.length ≤ sizeLine ∧ Q .non (upd H l (.lst (xs ++ zs)))
def rPop : V → List V → Hp → VK → Prop := fun x vs H Q => ∃ l xs y, x = .ref l ∧ vs = [] ∧ H l = some (.lst xs) ∧ xs[xs.length - 1]? = some y ∧ Q y (upd H l (.lst xs.dropLast))
def rPopAt : V → List V → Hp → VK → Prop := fun x vs H Q => ∃ l xs i k y, x = .ref l ∧ vs = [.int i] ∧ H l = some (.lst xs) ∧ -(2 ^ 63) ≤ i ∧ i < 2 ^ 63 ∧ seqIndex? i xs.length = some k ∧ xs[k]? = some y ∧ Q y (upd H l (.lst (xs.eraseIdx k)))
def rReverse : V → List V → Hp → VK → Prop := fun x vs H Q => ∃ l xs, x = .ref l ∧ vs = [] ∧ H l = some (.lst xs) ∧ Q .non (upd H l (.lst xs.reverse))
def rCat : R2 := fun x y H Q => ∃ l b xs zs, x = .ref l ∧ y = .ref b ∧ H l = some (.lst xs) ∧ H b = some (.lst zs) ∧ xs.length + zs.length ≤ sizeLine ∧ ∀ p, H p = none → Q (.ref p) (upd H p (.lst (xs ++ zs)))
theorem pqS : OpR X (binaryOp .Add) rCat := by
 intro pins s σ H x y v u Q I rx ry h
 obtain ⟨l, b, xs, zs, rfl, rfl, hH, hB, hz, q⟩ := h
 cases rx
 cases ry
 obtain ⟨z, its, n, r, hl, e⟩ := I.lstM hH
 obtain ⟨z2, its2, n2, r2, hl2, e2⟩ := I.lstM hB
 refine PySem.P.add_list e e2 ?_ (by rw [List.size_toArray, List.size_toArray]; omega)
 have ea : its.toArray ++ its2.toArray = (its ++ its2).toArray := by simp
 rw [ea]
 exact ⟨.ref _, _, I.lnew (t' := s.toks) (r.append r2) (by rw [List.length_append]; omega), rfl, q _ I.fresh⟩
theorem kqH {α : Type} (xs : List α) (k : Nat) : (List.replicate k xs).flatten.length = k * xs.length := by
 induction k with
 | zero => simp
 | succ k ih => rw [List.replicate_succ, List.flatten_cons, List.length_append, ih, Nat.succ_mul, Nat.add_comm]
end
section
variable {prog : Program} {w : World} {A : Around} {E : Value → Shared → Prop} {s : Shared}
set_option maxRecDepth 100000 in
end
section
variable {X : Cx}
end
end L2
namespace Att
open PySem PySem.W PySem.Calls PyProof.Rows
theorem fqS {P : Params} {h : Heap} : ∀ (ns : List Int) (vs : List Value), WellAll P h vs (ns.map WData.int) → IntsAre vs ns := by
 intro ns
 induction ns with
 | nil =>
  intro vs w
  rw [List.map_nil] at w
  cases w
  exact .nil
 | cons n ns ih =>
  intro vs w
  rw [List.map_cons] at w
  cases w with
  | cons a b =>
   cases a
   exact .cons _ _ (ih _ b)
theorem lqL {l : OpenLaw} {n : Nat} (hn : l.most = some n) {P : Params} {h : Heap} {args : List WData} {vals : List Value}
  (hpre : l.row.toRowW.claim.pre args = true) (hwl : WellAll P h vals args) :
  ∃ a vs ns, vals = [Value.ref a] ∧ args = [WData.list (ns.map WData.int)] ∧ h.get? a = some { cls := .type "list", data := .seq vs.toArray } ∧ IntsAre vs ns ∧ ns.length ≤ n := by
 have hsh : WShape.hasAll [] args [.list .int] = true := (pre_splitW hpre).1
 have hc : l.pre.holds [] { args := args } = true := (pre_splitW hpre).2
 obtain ⟨d, r, rfl, h1, h2⟩ := hasAllW_cons hsh
 obtain rfl := hasAllW_nil h2
 obtain ⟨xs, rfl, h3⟩ := hasW_list h1
 obtain ⟨ns, rfl⟩ := items_int h3
 have hlen : ns.length ≤ n := by
  unfold OpenLaw.pre at hc
  have h4 : (WTm.not (.lt (.lit (.int (n : Int))) (.len (.arg 0)))).holds [] { args := [.list (ns.map .int)] } = true := by
   have h4 := (holds_andW hc).1
   rw [hn] at h4
   exact h4
  have h5 := condW_of h4 (w_not (w_lt w_lit (w_len_list (w_arg rfl))))
  rw [List.length_map] at h5
  refine Nat.le_of_not_lt fun q => ?_
  have q' : (n : Int) < ((ns.length : Nat) : Int) := by omega
  first
   | (rw [decide_eq_true q'] at h5; exact absurd h5 (by decide))
   | (simp at h5; omega)
 cases hwl with
 | cons w1 w2 =>
  cases w2
  cases w1 with
  | list ho hall => exact ⟨_, _, ns, rfl, rfl, ho, fqS ns _ hall, hlen⟩
theorem kq4 (l : OpenLaw) (args : List WData) : l.row.toRowW.claim.post args (.bool true) args = true :=
 postW_of (r := l.row.toRowW) (X := (true == true))
  (show WShape.has [] (.bool true) .bool = true by first | rfl | decide | simp [WShape.has, WShape.arms, WShape.armsAll])
  (show (WTm.eq .res (.lit (.bool true))).value [] { args := args, res := some (.bool true), after := args } = some (.bool (true == true)) from w_eq_bool (w_res rfl) w_lit) rfl
theorem attach_call {l : OpenLaw} {n : Nat} {q : Program} {loose : List Str} {XP : (Str → Option Value) → Heap → Prop} {YP : World → Heap → Prop} {d : DefRec}
  (hn : l.most = some n) (hdf : d.params.defaults = [])
  (call : ∀ (w : World) (s₀ s₁ : Shared) (mg mb : Str → Option Value) (fa : Addr) (o : Obj) (pm cd doc : Value) (a : Addr) (vs : List Value) (ns : List Int),
   Ground q loose [] XP w s₀ mg mb s₁.heap → YP w s₁.heap →
   s₁.heap.get? fa = some o → o.data = .func (docDef d.name d.params d.body d.scope pm cd doc) → s₁.heap.CodeRec cd d.name → mg d.name = some (.ref fa) →
   s₁.heap.get? a = some { cls := .type "list", data := .seq vs.toArray } → IntsAre vs ns → ns.length ≤ n → s₁.gens = #[] →
   codeAny (model l.prog w) callerA (.call (.ref fa) ⟨[.ref a], []⟩) (fun r s' => r = .ok (.ret (.bool true)) ∧ OldK s₁.heap s'.heap ∧ s'.os = s₁.os ∧ AllBare s'.gens) s₁) :
  WalkO q loose XP YP l.row.toRowW d [] (fun f vs => PySem.call f vs) := by
 intro w s₀ s₁ mg mb G Y fa o pm cd doc dV kV ho hd hcd hD hmg hg args vals as hpre hlay hrd hwl hlo
 obtain rfl : dV = .none := Dflts.none hD hdf
 obtain rfl : kV = .none := Dflts.noKw hD
 obtain ⟨a, vs, ns, rfl, rfl, hobj, hints, hlen⟩ := lqL hn hpre hwl
 refine enter_call (codeAny_mono (call w s₀ s₁ mg mb fa o pm cd doc a vs ns G Y ho (fd_plain hd) hcd hmg hobj hints hlen hg) fun r s' hq => ?_)
 obtain ⟨rfl, h2, h3, h4⟩ := hq
 exact ⟨.inl ⟨.bool true, .bool true, [], rfl, fun _ => rfl, .bool true, kq4 l _, fun _ => ⟨List.Pairwise.nil, fun _ hm => (nomatch hm)⟩⟩, h2, h3, h4⟩
section
variable {prog : Program} {w : World} {A : Around} {E : Value → Shared → Prop} {s : Shared} {K : Frag}
def ledger (h : Heap) (L d : Addr) : List (Addr × Obj) := (List.range h.objs.size).filterMap fun a => if a = L ∨ a = d then none else (h.get? a).map fun o => (a, o)
end
end Att
namespace L2
open PySem PySem.Spec PyProof.Rows
theorem iqE : ∀ {vs : List Value} {ns : List Int}, IntsAre vs ns → Vals (ns.map V.int) vs
 | _, _, .nil => .nil
 | _, _, .cons n t h => .cons ⟨t, rfl⟩ (iqE h)
def Only (H : Hp) : Prop := ∀ b, H b = none ∨ ∃ o xs, H b = some (.frz o (.lst xs))
theorem mqN {P : Program} {w : World} {K : PySem.W.Frag} {mg mb : Str → Option Value} {CX : CXT} {k : Nat} {fa a : Addr} {fd : FuncData} {x : Str} {sp : Sp} {s₁ : Shared} {vs : List Value} {ns : List Int}
  (KX : K.In s₁.heap) (hns : s₁.heap.Ns mainGlobals mg) (hb : s₁.heap.Ns builtinsNs mb) (hbb : ∀ x : Str, x ≠ "__name__" → mb x = bootBuiltins x) (hlim : s₁.heap.NoLimit) (hg : s₁.gens = #[])
  (ha : s₁.heap.get? a = some { cls := .type "list", data := .seq vs.toArray }) (hi : IntsAre vs ns) (hl : ns.length ≤ sizeLine) (hr : Room k callerA)
  (F : ∀ base : Heap, K.In base → base.Ns mainGlobals mg → FnOk P w K mg base CX k fa fd [x] sp) (hbind : ∀ (s : Shared) (u : Value), BindsTo s fd ⟨[u], []⟩ [(x, u)])
  (hsp : ∀ H : Hp, Only H → SqL K H a (ns.map V.int) → sp [.ref a] H (fun v _ => v = .bl true) fun _ _ _ => False)
  (hCX : ∀ H e s', CX [] H s₁ (fun _ _ _ => False) e s' → False) :
  codeAny (model P w) callerA (.call (.ref fa) ⟨[.ref a], []⟩) (fun r s' => r = .ok (.ret (.bool true)) ∧ OldK s₁.heap s'.heap ∧ s'.os = s₁.os ∧ AllBare s'.gens) s₁ := by
 have rv := iqE hi
 have lenV := hi.length
 have core : ∀ H : Hp, Only H → SqL K H a (ns.map V.int) → HOk P w H s₁.heap → (∀ b, H b ≠ none → b = a) → (H a ≠ none → K.lookup a = none) →
   codeAny (model P w) callerA (.call (.ref fa) ⟨[.ref a], []⟩) (fun r s' => r = .ok (.ret (.bool true)) ∧ OldK s₁.heap s'.heap ∧ s'.os = s₁.os ∧ AllBare s'.gens) s₁ := by
  intro H hO hS hok hA hK
  have base_of : ∀ {b : Addr} {o : Obj}, s₁.heap.get? b = some o → H b = none → (hidT s₁.heap H).get? b = some o := fun e n => mqz e n
  have noA : ∀ {b : Addr} {o : Obj} {es : Array DictEntry} {ep : Nat}, s₁.heap.get? b = some o → o.data = .dict es ep → H b = none := fun {b o es ep} e d => by
   cases q : H b with
   | none => rfl
   | some u =>
    have e' : b = a := hA b (by rw [q]; simp)
    subst e'
    rw [ha] at e; cases e
    have d' : Data.seq vs.toArray _ = Data.dict es ep := d
    cases d'
  have nsK : ∀ {b : Addr} {m : Str → Option Value}, s₁.heap.Ns b m → (hidT s₁.heap H).Ns b m := fun {b m} ⟨o, es, ep, e, d, r⟩ => ⟨o, es, ep, base_of e (noA e d), d, r⟩
  have hKb : K.In (hidT s₁.heap H) := fun b o e => base_of (KX b o e) (by
   cases q : H b with
   | none => rfl
   | some u =>
    have e' : b = a := hA b (by rw [q]; simp)
    subst e'
    rw [hK (by rw [q]; simp)] at e; cases e)
  have hM : Mod K mg (hidT s₁.heap H) := ⟨hKb, nsK hns, ⟨mb, nsK hb, hbb⟩, let ⟨mc, h1, h2⟩ := hlim; ⟨mc, nsK h1, h2⟩⟩
  have e0 : Env0 P w K mg (hidT s₁.heap H) callerA [] s₁ H := ⟨rfl, hM, fun b o e => oqk e, Nat.le_of_eq (lqM _ _), trivial, fun b hb => absurd (show b ∈ ([] : List Addr) from hb) (by simp), hok, .of_eq hg⟩
  refine codeAny_mono ((F _ hKb (nsK hns)).run callerA [] s₁ H ⟨[.ref a], []⟩ [.ref a] [.ref a] _ _ hr e0 (hbind s₁ (.ref a)) (.cons rfl .nil) (hsp H hO hS)) fun r s' h => ?_
  cases r with
  | error e => exact (hCX H e s' h).elim
  | ok fl =>
   cases fl with
   | next => exact False.elim h
   | brk => exact False.elim h
   | cont => exact False.elim h
   | ret u =>
    obtain ⟨v, H', os, bare, un, hok', r', q⟩ := h
    have q' : v = .bl true := q
    subst q'
    obtain rfl : u = Value.bool true := r'
    refine ⟨rfl, OldK.of_keep fun b o e => ?_, os, bare⟩
    cases q : H b with
    | none => exact un.keep b o e q (by intro z; exact absurd (show b ∈ ([] : List Addr) from z) (by simp)) (by simp)
    | some u =>
     rcases hO b with z | ⟨ob, xs, z⟩
     ·rw [q] at z; cases z
     ·have z2 := un.frzs b ob _ z
      obtain ⟨e1, _⟩ := hok b _ z
      obtain ⟨e2, _⟩ := hok' b _ z2
      rw [e] at e1; cases e1
      exact e2
 cases hk : K.lookup a with
 | some o =>
  have e := KX a o hk
  rw [ha] at e
  cases e
  refine core (fun _ => none) (fun _ => .inl rfl) (.inr ⟨_, vs.toArray, _, hk, rfl, rfl, rfl, by rw [List.size_toArray, lenV]; exact hl, by simpa using rv⟩) (fun b u z => by have z' : (none : Option HO) = some u := z; cases z') (fun b z => absurd rfl z) fun z => absurd rfl z
 | none =>
  refine core (fun b => if b = a then some (.frz { cls := .type "list", data := .seq vs.toArray } (.lst (ns.map V.int))) else none) (fun b => ?_) (.inl (.inr ⟨{ cls := .type "list", data := .seq vs.toArray }, if_pos rfl⟩)) (fun b u z => ?_) (fun b z => ?_) fun _ => hk
  ·by_cases hb : b = a
   ·exact .inr ⟨_, _, if_pos hb⟩
   ·exact .inl (if_neg hb)
  ·by_cases hb : b = a
   ·have z' := (if_pos hb).symm.trans z
    cases z'
    subst hb
    exact ⟨ha, by rw [List.length_map]; exact hl, vs, _, rv, ha⟩
   ·have z' := (if_neg hb).symm.trans z
    cases z'
  ·by_cases hb : b = a
   ·exact hb
   ·exact absurd (if_neg hb) z
abbrev KOf {K : PySem.W.Frag} {h : Heap} (_ : K.In h) : PySem.W.Frag := K
theorem oqR {l : PySem.W.OpenLaw} {n k : Nat} {q : Program} {loose : List Str} {XP : (Str → Option Value) → Heap → Prop} {YP : World → Heap → Prop} {d : DefRec} {K : Params → PySem.W.Frag} {CX : World → CXT} {sp : World → Sp} {x : Str}
  (hn : l.most = some n) (hn2 : n ≤ sizeLine) (hdf : d.params.defaults = []) (hr : Room k callerA)
  (hY : ∀ (w : World) (h : Heap), YP w h → (K w.params).In h)
  (F : ∀ (w : World) (mg : Str → Option Value) (fa : Addr) (h : Heap), (K w.params).In h → h.Ns mainGlobals mg → mg d.name = some (.ref fa) →
   ∃ fd : FuncData, (∀ (s : Shared) (u : Value), BindsTo s fd ⟨[u], []⟩ [(x, u)]) ∧
    ∀ base : Heap, (K w.params).In base → base.Ns mainGlobals mg → FnOk l.prog w (K w.params) mg base (CX w) k fa fd [x] (sp w))
  (hsp : ∀ (w : World) (H : Hp) (a : Addr) (ns : List Int), ns.length ≤ n → Only H → SqL (K w.params) H a (ns.map V.int) → sp w [.ref a] H (fun v _ => v = .bl true) fun _ _ _ => False)
  (hCX : ∀ (w : World) (H : Hp) (s : Shared) (e : Value) (s' : Shared), CX w [] H s (fun _ _ _ => False) e s' → False) :
  PySem.W.WalkO q loose XP YP l.row.toRowW d [] (fun f vs => PySem.call f vs) := by
 refine Att.attach_call hn hdf fun w s₀ s₁ mg mb fa o pm cd doc a vs ns G Y ho hd hcd hmg hobj hints hlen hg => ?_
 have KX := hY w _ Y
 obtain ⟨fd, hb, hF⟩ := F w mg fa _ KX G.T.g hmg
 exact mqN KX G.T.g G.T.b G.T.builtins G.T.nolimit hg hobj hints (Nat.le_trans hlen hn2) hr hF hb (fun H hO hS => hsp w H a ns hlen hO hS) fun H e s' => hCX w H s₁ e s'
def defArgs (s : Stmt) : Arguments := match s with
 | .FunctionDef _ a _ _ _ _ _ _ _ _ => a
 | _ => { posonlyargs := [], args := [], vararg := none, kwonlyargs := [], kw_defaults := [], kwarg := none, defaults := [] }
def defBody (s : Stmt) : List Stmt := match s with
 | .FunctionDef _ _ b _ _ _ _ _ _ _ => b
 | _ => []
def defScope (s : Stmt) : Scope := match s with
 | .FunctionDef _ _ _ _ _ _ sc _ _ _ => sc
 | _ => { kind := .function, names := [], isGenerator := false, isCoroutine := false }
abbrev CX0 : CXT := fun _ _ _ _ _ _ => False
abbrev E0 : XK := fun _ _ _ => False
theorem pass0 {X : Cx} : Passes CX0 X E0 := fun _ _ _ _ _ _ _ h => h.elim
structure Fun (K : PySem.W.Frag) (x qual : Str) (st : Stmt) (f : Addr) (fd : FuncData) : Prop where
 ex : ∃ (oc : Value) (od : Option Addr) (kV doc pm : Value) (an : Option Addr) (cdv ct : Value) (osl : Array (Option Value)),
  fd = PySem.W.fnOf x qual (defArgs st) (defBody st) (defScope st) .none kV doc pm an cdv ct ∧ K.lookup f = some ⟨oc, od, .func fd, osl⟩ ∧ PySem.W.codeIn K cdv qual = true
 kp : PySem.W.keepIn K (.ref f) = true
section
variable {P : Program} {w : World} {K : PySem.W.Frag} {mg : Str → Option Value} {base : Heap}
theorem Fun.ok {x qual : Str} {st : Stmt} {f : Addr} {fd : FuncData} {N ps : List Str} {k : Nat} {sp : Sp} (F : Fun K x qual st f fd) (S : FnScope N ps (defScope st)) (len : ∀ vs H Q E, sp vs H Q E → vs.length = ps.length)
  (hbody : ∀ (cdv : Value) (A : Around) (outer : List Env) (s : Shared) (H : Hp) (vs : List V) (Q : VK) (E : XK), Room k (A.deeper (envOfC qual (defScope st) s.heap.objs.size f cdv)) → sp vs H Q E →
   ∃ t, PSs (cxOf CX0 P w K mg base N qual (defScope st) f cdv A outer s H E).nox (defBody st) t ∧ t { nx := fun _ H' => Q .non H', rt := Q } (start N vs) H) : FnOk P w K mg base CX0 (k + 1) f fd ps sp := by
 obtain ⟨oc, od, kV, doc, pm, an, cdv, ct, osl, rfl, lk, hcd⟩ := F.ex
 refine qqS lk hcd S len fun A outer s H vs Q E hr hsp => ?_
 obtain ⟨t, h, q⟩ := hbody cdv A outer s H vs Q E hr hsp
 exact ⟨t, h.nox, q⟩
theorem Fun.binds {x qual : Str} {st : Stmt} {f : Addr} {fd : FuncData} {ps : List Str} (F : Fun K x qual st f fd)
  (h : ∀ (kV doc pm : Value) (an : Option Addr) (cdv ct : Value) (us : List Value), us.length = ps.length → bindArgs (PySem.W.fnOf x qual (defArgs st) (defBody st) (defScope st) .none kV doc pm an cdv ct) ⟨us, []⟩ = pure (ps.zip us)) : Binds K fd ps [] := by
 obtain ⟨oc, od, kV, doc, pm, an, cdv, ct, osl, rfl, lk, hcd⟩ := F.ex
 exact .all (h kV doc pm an cdv ct)
theorem aqE {x qual : Str} {st : Stmt} {f : Addr} {oc : Value} {od an : Option Addr} {osl : Array (Option Value)} {kV doc pm cdv ct : Value} (l : K.lookup f = some ⟨oc, od, .func (PySem.W.fnOf x qual (defArgs st) (defBody st) (defScope st) .none kV doc pm an cdv ct), osl⟩)
  (c : PySem.W.codeIn K cdv qual = true) (k : PySem.W.keepIn K (.ref f) = true) : Fun K x qual st f (PySem.W.fnOf x qual (defArgs st) (defBody st) (defScope st) .none kV doc pm an cdv ct) := ⟨⟨oc, od, kV, doc, pm, an, cdv, ct, osl, rfl, l, c⟩, k⟩
end
section
variable {X : Cx}
theorem pv (i : Nat) {x : Str} {pos : Pos} (hN : X.N[i]? = some x := by rfl) (hv : Vis X.env.scope x := by first | exact Or.inl rfl | exact Or.inr (Or.inl rfl) | exact Or.inr (Or.inr rfl)) (hd : (x == ("__debug__" : Str)) = false := by decide)
  (hcd : (x == ("__classdict__" : Str)) = false := by decide) : PE X (.Name x pos) (tVar i) := qqn hN hv hd hcd
end
theorem ite2 {c A B : Prop} [Decidable c] (h1 : c → A) (h2 : ¬ c → B) : if c then A else B := by
 by_cases h : c
 ·rw [if_pos h]
  exact h1 h
 ·rw [if_neg h]
  exact h2 h
def Same (H H' : Hp) : Prop := ∀ b o, H b = some o → H' b = some o
theorem Same.refl (H : Hp) : Same H H := fun _ _ h => h
theorem Same.trans {H H1 H2 : Hp} (a : Same H H1) (b : Same H1 H2) : Same H H2 := fun c o h => b c o (a c o h)
theorem Same.seq {K : PySem.W.Frag} {H H' : Hp} {a : Addr} {xs : List V} (e : Same H H') (h : SqL K H a xs) : SqL K H' a xs := by
 rcases h with (h | ⟨o, h⟩) | h
 ·exact .inl (.inl (e _ _ h))
 ·exact .inl (.inr ⟨o, e _ _ h⟩)
 ·exact .inr h
end L2
set_option maxHeartbeats 4000000
namespace L2
open PySem PySem.Spec PyProof.Rows
def Its (z : Str) : It := ⟨fun i _ => i < z.length, fun i H x H' => H' = H ∧ ∃ c, z.cps.toList[i]? = some c ∧ x = .str ⟨#[c]⟩, fun i _ => z.length ≤ i⟩
theorem lqp {z : Str} {i : Nat} (h : i < z.length) : ∃ c, z.cps[i]? = some c ∧ z.cps.toList[i]? = some c := by
 have h' : i < z.cps.size := h
 exact ⟨z.cps[i], by simp [h'], by simp [h']⟩
theorem jql {z : Str} {i : Nat} (h : z.length ≤ i) : z.cps[i]? = none := by
 have h' : z.cps.size ≤ i := h
 simp [h']
theorem kqS {P : Program} {w : World} {K : PySem.W.Frag} {tg : Expr} (it : Addr) (z : Str) (t : Tok) : Turn P w K tg (Its z) [it] it (fun i h => h.IsStrIter it "str_ascii_iterator" z t i) where
 mem := by simp
 obj := fun i h st b hb => by
  have e : b = it := by simpa using hb
  subst e
  obtain ⟨o, e, c, d⟩ := st
  exact ⟨o, e, fun v z => by rw [d] at z; cases z⟩
 keep := fun i h h' st k => by
  obtain ⟨o, e, r⟩ := st
  exact ⟨o, k it (by simp) o e, r⟩
 item := by
  intro X hP hw hK hc i pins s σ H E I hf st hg
  subst hP hw hK
  obtain ⟨c, h1, h2⟩ := lqp (z := z) (i := i) hg
  obtain ⟨f0, f1, f2, f3, f4, f5⟩ := hf it (by simp)
  refine wpAny_pyNext_ascii_item st h1 fun h' st' sb => ?_
  have I1 : Inv X pins σ H { s with heap := h', toks := s.toks + 1 } := I.turned (t' := s.toks + 1) (fun b o hb e => (sb.2 b hb).trans e) f0 f1 f3 f4 f5
  obtain ⟨o, e, cl, d⟩ := id st'
  exact ⟨_, rfl, kqz (s := { s with heap := h', toks := s.toks + 1 }) e cl d (by decide) ⟨.str ⟨#[c]⟩, H, I1, ⟨_, rfl⟩, ⟨rfl, c, h2, rfl⟩, st', fun b hb => (hf b hb).1⟩⟩
 done := by
  intro X hP hw hK hc i pins s σ H E I hf st hg
  subst hP hw hK
  obtain ⟨f0, f1, f2, f3, f4, f5⟩ := hf it (by simp)
  exact wpAny_pyNext_ascii_end (I.ok.hd hc) st (jql hg) fun h' eb => ⟨rfl, I.turned (t' := s.toks) (fun b o hb e => eb b o hb e) f0 f1 f3 f4 f5⟩
 self := fun _ _ _ _ _ st h => wpAny_pyIter_striter_ascii st h
theorem lqJ {P : Program} {w : World} {K : PySem.W.Frag} {tg : Expr} (it : Addr) (z : Str) (t : Tok) : Turn P w K tg (Its z) [it] it (fun i h => h.IsStrIter it "str_iterator" z t i) where
 mem := by simp
 obj := fun i h st b hb => by
  have e : b = it := by simpa using hb
  subst e
  obtain ⟨o, e, c, d⟩ := st
  exact ⟨o, e, fun v z => by rw [d] at z; cases z⟩
 keep := fun i h h' st k => by
  obtain ⟨o, e, r⟩ := st
  exact ⟨o, k it (by simp) o e, r⟩
 item := by
  intro X hP hw hK hc i pins s σ H E I hf st hg
  subst hP hw hK
  obtain ⟨c, h1, h2⟩ := lqp (z := z) (i := i) hg
  obtain ⟨f0, f1, f2, f3, f4, f5⟩ := hf it (by simp)
  refine wpAny_pyNext_wide_item st h1 fun h' st' sb => ?_
  have I1 : Inv X pins σ H { s with heap := h', toks := s.toks + 1 } := I.turned (t' := s.toks + 1) (fun b o hb e => (sb.2 b hb).trans e) f0 f1 f3 f4 f5
  obtain ⟨o, e, cl, d⟩ := id st'
  exact ⟨_, rfl, kqz (s := { s with heap := h', toks := s.toks + 1 }) e cl d (by decide) ⟨.str ⟨#[c]⟩, H, I1, ⟨_, rfl⟩, ⟨rfl, c, h2, rfl⟩, st', fun b hb => (hf b hb).1⟩⟩
 done := by
  intro X hP hw hK hc i pins s σ H E I hf st hg
  subst hP hw hK
  obtain ⟨f0, f1, f2, f3, f4, f5⟩ := hf it (by simp)
  exact wpAny_pyNext_wide_end (I.ok.hd hc) st (jql hg) fun h' eb => ⟨rfl, I.turned (t' := s.toks) (fun b o hb e => eb b o hb e) f0 f1 f3 f4 f5⟩
 self := fun _ _ _ _ _ st h => wpAny_pyIter_striter_wide st h
section
variable {X : Cx} {tg : Expr}
def iStr (tl : TE) : TI := fun σ H R => tl σ H fun x H1 => ∃ z, x = .str z ∧ R (Its z) H1
theorem nqm {l : Expr} {tl : TE} (hl : PE X l tl) : PI X tg l (iStr tl) := by
 intro pins s σ H R I h
 refine thn (hl pins s σ H _ I h) fun v s1 W' => ?_
 obtain ⟨x, H1, I1, r1, q1⟩ := W'
 obtain ⟨z, rfl, q⟩ := q1
 obtain ⟨t, rfl⟩ := r1
 have fp : ∀ b ∈ [s1.heap.objs.size], FpOk X pins H1 b := fun b hb => by
  have e : b = s1.heap.objs.size := by simpa using hb
  subst e
  exact I1.fpOk (Nat.le_refl _) (I1.hok.fresh (Nat.le_refl _))
 cases ha : z.cps.all (· < 128)
 ·refine wpAny_pyIter_wide ha ?_
  exact ⟨s1.heap.objs.size, [s1.heap.objs.size], _, _, H1, rfl, I1.kept (t' := s1.toks) fun b o e => Heap.get?_push_of_some _ e, lqJ _ z t, ⟨_, Heap.get?_push_size _ rfl, rfl, rfl⟩, fp, q⟩
 ·refine wpAny_pyIter_ascii ha ?_
  exact ⟨s1.heap.objs.size, [s1.heap.objs.size], _, _, H1, rfl, I1.kept (t' := s1.toks) fun b o e => Heap.get?_push_of_some _ e, kqS _ z t, ⟨_, Heap.get?_push_size _ rfl, rfl, rfl⟩, fp, q⟩
end
section
variable {X : Cx}
def rSlS : V → Option Int → Option Int → Hp → VK → Prop := fun x lo hi H Q => ∃ z, x = .str z ∧ z.length ≤ sizeLine ∧ Q (.str (Txt.slice z lo hi)) H
theorem pqk : SlR X rSlS := by
 intro pins s σ H x v vl vu lo hi sl Q I rx hs pl pu h
 obtain ⟨z, rfl, hz, q⟩ := h
 obtain ⟨t, rfl⟩ := rx
 refine ⟨"str", _, F.slot_str_getitem.lookup, typeIs_str _ _ _, ?_⟩
 obtain ⟨o, ho, hc, hd⟩ := hs
 cases pl with
 | none =>
  cases pu with
  | none => exact wpAny_getItem_str_slice (l := none) (u := none) (st := none) ⟨o, ho, hc, hd⟩ rfl (post_val_or_str ⟨Nat.le_trans (Txt.slice_le z none none) hz, fun t' k => ⟨.str (Txt.slice z none none), H, I.tok k, ⟨t', rfl⟩, q⟩⟩)
  | int j uj => exact wpAny_getItem_str_slice (l := none) (u := some (j, uj)) (st := none) ⟨o, ho, hc, hd⟩ rfl (post_val_or_str ⟨Nat.le_trans (Txt.slice_le z none (some j)) hz, fun t' k => ⟨.str (Txt.slice z none (some j)), H, I.tok k, ⟨t', rfl⟩, q⟩⟩)
 | int i ui =>
  cases pu with
  | none => exact wpAny_getItem_str_slice (l := some (i, ui)) (u := none) (st := none) ⟨o, ho, hc, hd⟩ rfl (post_val_or_str ⟨Nat.le_trans (Txt.slice_le z (some i) none) hz, fun t' k => ⟨.str (Txt.slice z (some i) none), H, I.tok k, ⟨t', rfl⟩, q⟩⟩)
  | int j uj => exact wpAny_getItem_str_slice (l := some (i, ui)) (u := some (j, uj)) (st := none) ⟨o, ho, hc, hd⟩ rfl (post_val_or_str ⟨Nat.le_trans (Txt.slice_le z (some i) (some j)) hz, fun t' k => ⟨.str (Txt.slice z (some i) (some j)), H, I.tok k, ⟨t', rfl⟩, q⟩⟩)
def rSl (K : PySem.W.Frag) : V → Option Int → Option Int → Hp → VK → Prop := fun x lo hi H Q => rSlL K x lo hi H Q ∨ rSlS x lo hi H Q
theorem pqW : SlR X (rSl X.K) := kqv.or pqk
def rIndex : V → List V → Hp → VK → Prop := fun x vs H Q => match x, vs with
 | .str z, [.str y] => ∃ i r, Builtin.Str.occurrences z y 0 z.length 1 = i :: r ∧ Q (.int (i : Nat)) H
 | _, _ => False
theorem mqB {z y : Str} {H : Hp} {Q : VK} : (rIndex (.str z) [.str y] H Q) = (∃ i r, Builtin.Str.occurrences z y 0 z.length 1 = i :: r ∧ Q (.int (i : Nat)) H) := rfl
theorem notTooLong {n : Nat} (h : n ≤ 1000000) : Builtin.Str.tooLong n = false := by
 unfold Builtin.Str.tooLong
 rw [sizeLine_eq]
 exact decide_eq_false (by omega)
def rUpper : V → List V → Hp → VK → Prop := fun x vs H Q => match x, vs with
 | .str z, [] => (∀ c ∈ z.cps.toList, c < 128) ∧ z.length ≤ 1000000 ∧ Q (.str ⟨z.cps.map up1⟩) H
 | _, _ => False
theorem qqv {z : Str} {H : Hp} {Q : VK} : (rUpper (.str z) [] H Q) = ((∀ c ∈ z.cps.toList, c < 128) ∧ z.length ≤ 1000000 ∧ Q (.str ⟨z.cps.map up1⟩) H) := rfl
def rLower : V → List V → Hp → VK → Prop := fun x vs H Q => match x, vs with
 | .str z, [] => (∀ c ∈ z.cps.toList, c < 128) ∧ z.length ≤ 1000000 ∧ Q (.str ⟨z.cps.map lo1⟩) H
 | _, _ => False
theorem pql {z : Str} {H : Hp} {Q : VK} : (rLower (.str z) [] H Q) = ((∀ c ∈ z.cps.toList, c < 128) ∧ z.length ≤ 1000000 ∧ Q (.str ⟨z.cps.map lo1⟩) H) := rfl
def rAlnum : V → List V → Hp → VK → Prop := fun x vs H Q => match x, vs with
 | .str z, [] => Q (.bl (Txt.isalnum z)) H
 | _, _ => False
theorem pq8 {z : Str} {H : Hp} {Q : VK} : (rAlnum (.str z) [] H Q) = (Q (.bl (Txt.isalnum z)) H) := rfl
def rJoin (K : PySem.W.Frag) : V → List V → Hp → VK → Prop := fun x vs H Q => ∃ z p ys, x = .str z ∧ vs = [.ref p] ∧ SqL K H p (ys.map V.str) ∧ (ys.map (·.length)).sum + ys.length * z.length ≤ 16777216 ∧ Q (.str (Txt.join z ys)) H
def rIsi (K : PySem.W.Frag) : List V → Hp → VK → Prop := fun vs H Q => ∃ x T t b, vs = [x, .ty T] ∧ TyOf K H x t ∧ PySem.W.kitOne K t (.type T) = some b ∧ Q (.bl b) H
theorem mqY : CallR X (.builtin "isinstance") (rIsi X.K) := by
 intro pins s σ H xs us Q I r h
 obtain ⟨x, T, t, b, rfl, ty, e, q⟩ := h
 obtain ⟨u, v, rfl, ru, rv⟩ := vals2 r
 cases (show v = Value.type T from rv)
 exact kqI I ru ty e fun tk => ⟨.bl b, H, I.tok tk, rfl, q⟩
def rCatD : R2 := fun x y H Q => ∃ a b xs ys, x = .ref a ∧ y = .ref b ∧ H a = some (.tup xs) ∧ H b = some (.tup ys) ∧ xs.length + ys.length ≤ sizeLine ∧ ∀ p H', Same H H' → H' p = some (.tup (xs ++ ys)) → Q (.ref p) H'
theorem nqJ : OpR X (binaryOp .Add) rCatD := by
 intro pins s σ H x y v u Q I rx ry h
 obtain ⟨a, b, xs, ys, rfl, rfl, ha, hb, hz, q⟩ := h
 by_cases hx : xs = []
 ·subst hx
  cases rx
  cases ry
  obtain ⟨its, r1, p1, _⟩ := I.tuple (SqT.of ha)
  obtain ⟨its2, r2, p2, _⟩ := I.tuple (SqT.of hb)
  cases r1
  obtain ⟨⟨cls, dd, data, sl⟩, ho, hc, n, hd⟩ := id p1
  obtain ⟨⟨cls2, dd2, data2, sl2⟩, ho2, hc2, n2, hd2⟩ := id p2
  simp only at hc hd hc2 hd2
  subst hc hd hc2 hd2
  exact concat_meets ⟨_, ho, rfl⟩ ⟨_, ho2, rfl⟩ noFill_tuple_add seq_tuple_add PySem.F.slot_tuple_add PySem.F.entry_tuple_add (PySem.F.args_tuple_add_2 _ _)
   (tuple_addW0 a b ([] : List Value).toArray its2.toArray n n2 dd dd2 sl sl2 rfl) ⟨ho, ho2, ⟨.ref b, H, I, rfl, q b H (Same.refl _) hb⟩⟩
 ·refine nqB pins s σ H _ _ v u Q I rx ry ⟨a, b, xs, ys, rfl, rfl, SqT.of ha, SqT.of hb, hx, hz, fun e => q a H (Same.refl _) (by rw [e, List.append_nil]; exact ha), fun _ p hp => q p _ (fun b o e => by rw [aqx (aqw e hp)]; exact e) aqq⟩
def rAddU (K : PySem.W.Frag) : R2 := fun x y H Q => match x, y with
 | .int i, .int j => Q (.int (i + j)) H
 | .str i, .str j => i.length + j.length ≤ sizeLine ∧ Q (.str (i ++ j)) H
 | .ref a, .ref b => (∃ xs zs, H a = some (.lst xs) ∧ H b = some (.lst zs) ∧ xs.length + zs.length ≤ sizeLine ∧ ∀ p, H p = none → Q (.ref p) (upd H p (.lst (xs ++ zs)))) ∨
   (∃ xs ys, H a = some (.tup xs) ∧ H b = some (.tup ys) ∧ xs.length + ys.length ≤ sizeLine ∧ ∀ p H', Same H H' → H' p = some (.tup (xs ++ ys)) → Q (.ref p) H')
 | _, _ => False
theorem kq2 : OpR X (binaryOp .Add) (rAddU X.K) := by
 intro pins s σ H x y v u Q I rx ry h
 cases x with
 | int i =>
  cases y with
  | int j => exact pqH pins s σ H _ _ v u Q I rx ry ⟨i, j, rfl, rfl, h⟩
  | _ => exact h.elim
 | str i =>
  cases y with
  | str j => exact jq4 pins s σ H _ _ v u Q I rx ry ⟨i, j, rfl, rfl, h.1, h.2⟩
  | _ => exact h.elim
 | ref a =>
  cases y with
  | ref b =>
   rcases h with ⟨xs, zs, h1, h2, h3, h4⟩ | ⟨xs, ys, h1, h2, h3, h4⟩
   ·exact pqS pins s σ H _ _ v u Q I rx ry ⟨a, b, xs, zs, rfl, rfl, h1, h2, h3, h4⟩
   ·exact nqJ pins s σ H _ _ v u Q I rx ry ⟨a, b, xs, ys, rfl, rfl, h1, h2, h3, h4⟩
  | _ => exact h.elim
 | _ => exact h.elim
theorem pqz {K : PySem.W.Frag} {i j : Int} {H : Hp} {Q : VK} : (rAddU K (.int i) (.int j) H Q) = (Q (.int (i + j)) H) := rfl
theorem pqc {K : PySem.W.Frag} {i j : Str} {H : Hp} {Q : VK} : (rAddU K (.str i) (.str j) H Q) = (i.length + j.length ≤ sizeLine ∧ Q (.str (i ++ j)) H) := rfl
end
section
variable {X : Cx}
def rMulU : R2 := fun x y H Q => match x, y with
 | .int i, .int j => CMul i j ∧ Q (.int (i * j)) H
 | .str z, .int k => MulOk z k ∧ Q (.str (Txt.mul z k)) H
 | _, _ => False
theorem dqe : OpR X (binaryOp .Mult) rMulU := by
 intro pins s σ H x y v u Q I rx ry h
 cases x with
 | int i =>
  cases y with
  | int j => exact pqn pins s σ H _ _ v u Q I rx ry ⟨i, j, rfl, rfl, h.1, h.2⟩
  | _ => exact h.elim
 | str z =>
  cases y with
  | int k =>
   obtain ⟨t, rfl⟩ := rx
   obtain ⟨t', rfl⟩ := ry
   exact SB.mul h.1 fun t' k' => ⟨.str (Txt.mul z k), H, I.tok k', ⟨t', rfl⟩, h.2⟩
  | _ => exact h.elim
 | _ => exact h.elim
theorem pqi {i j : Int} {H : Hp} {Q : VK} : (rMulU (.int i) (.int j) H Q) = (CMul i j ∧ Q (.int (i * j)) H) := rfl
theorem kqy {z : Str} {k : Int} {H : Hp} {Q : VK} : (rMulU (.str z) (.int k) H Q) = (MulOk z k ∧ Q (.str (Txt.mul z k)) H) := rfl
def rLenU (K : PySem.W.Frag) : List V → Hp → VK → Prop := fun xs H Q => match xs with
 | [.str z] => z.length ≤ sizeLine ∧ Q (.int z.length) H
 | [.ref p] => ∃ ys, (SqL K H p ys ∨ SqT K H p ys) ∧ Q (.int ys.length) H
 | _ => False
theorem kqY : CallR X (.builtin "len") (rLenU X.K) := by
 intro pins s σ H xs us Q I r h
 unfold rLenU at h
 split at h
 ·exact hq0 pins s σ H _ us Q I r ⟨_, rfl, h.1, h.2⟩
 ·obtain ⟨ys, h1, h2⟩ := h
  exact iqd pins s σ H _ us Q I r ⟨_, ys, rfl, h1, h2⟩
 ·exact h.elim
theorem pqh {K : PySem.W.Frag} {z : Str} {H : Hp} {Q : VK} : (rLenU K [.str z] H Q) = (z.length ≤ sizeLine ∧ Q (.int z.length) H) := rfl
theorem pqX {K : PySem.W.Frag} {p : Addr} {H : Hp} {Q : VK} : (rLenU K [.ref p] H Q) = (∃ ys, (SqL K H p ys ∨ SqT K H p ys) ∧ Q (.int ys.length) H) := rfl
def rOrdU : List V → Hp → VK → Prop := fun xs H Q => match xs with
 | [.str z] => z.length = 1 ∧ Q (.int (z.cps.getD 0 0 : Nat)) H
 | _ => False
theorem qqd {c : Nat} {H : Hp} {Q : VK} : rOrdU [.str ⟨#[c]⟩] H Q ↔ Q (.int (c : Nat)) H := ⟨fun h => h.2, fun h => ⟨rfl, h⟩⟩
theorem kqn : bootBuiltins "int" = some (.type "int") := by decide +kernel
theorem nql : bootBuiltins "str" = some (.type "str") := by decide +kernel
theorem nq3 : bootBuiltins "bool" = some (.type "bool") := by decide +kernel
theorem fqB : bootBuiltins "tuple" = some (.type "tuple") := by decide +kernel
theorem jqc : bootBuiltins "list" = some (.type "list") := by decide +kernel
theorem aq8 : bootBuiltins "isinstance" = some (.builtin "isinstance") := by decide +kernel
def rIntU : List V → Hp → VK → Prop := fun xs H Q => match xs with
 | [.int i] => Q (.int i) H
 | [.bl k] => Q (.int (if k then 1 else 0)) H
 | _ => False
theorem kqr : CallR X (.type "int") rIntU := by
 intro pins s σ H xs us Q I r h
 unfold rIntU at h
 split at h
 ·exact iqc pins s σ H _ us Q I r (.inl ⟨_, rfl, h⟩)
 ·exact iqc pins s σ H _ us Q I r (.inr ⟨_, rfl, h⟩)
 ·exact h.elim
theorem qqw {k : Bool} {H : Hp} {Q : VK} : (rIntU [.bl k] H Q) = (Q (.int (if k then 1 else 0)) H) := rfl
def rInU : R2 := fun x y H Q => match x, y with
 | .str i, .str j => Q (.bl (!(Builtin.Str.occurrences j i 0 j.length 1).isEmpty)) H
 | _, _ => False
theorem pqJ : OpR X (compareOp .In) rInU := by
 intro pins s σ H x y v u Q I rx ry h
 cases x with
 | str i =>
  cases y with
  | str j => exact lqu pins s σ H _ _ v u Q I rx ry ⟨i, j, rfl, rfl, h⟩
  | _ => exact h.elim
 | _ => exact h.elim
def rNotInU : R2 := fun x y H Q => match x, y with
 | .str i, .str j => Q (.bl (!(!(Builtin.Str.occurrences j i 0 j.length 1).isEmpty))) H
 | _, _ => False
theorem kqt : OpR X (compareOp .NotIn) rNotInU := by
 intro pins s σ H x y v u Q I rx ry h
 cases x with
 | str i =>
  cases y with
  | str j => exact hqW pins s σ H _ _ v u Q I rx ry ⟨i, j, rfl, rfl, h⟩
  | _ => exact h.elim
 | _ => exact h.elim
theorem pqy {c : Nat} {j : Str} {H : Hp} {Q : VK} : rInU (.str ⟨#[c]⟩) (.str j) H Q ↔ Q (.bl (decide (c ∈ j.cps.toList))) H := by
 show Q (.bl (!(Builtin.Str.occurrences j ⟨#[c]⟩ 0 j.length 1).isEmpty)) H ↔ _
 rw [StrLaws.found_one]
theorem kqO {c : Nat} {j : Str} {H : Hp} {Q : VK} : rNotInU (.str ⟨#[c]⟩) (.str j) H Q ↔ Q (.bl (!decide (c ∈ j.cps.toList))) H := by
 show Q (.bl (!(!(Builtin.Str.occurrences j ⟨#[c]⟩ 0 j.length 1).isEmpty))) H ↔ _
 rw [StrLaws.found_one]
def rIsN (neg : Bool) : R2 := fun x y H Q => y = .non ∧ Q (.bl (if neg then !decide (x = .non) else decide (x = .non))) H
theorem jqa : OpR X (compareOp .Is) (rIsN false) := fun pins s σ H x y v u Q I rx ry h => qqf pins s σ H x y v u Q I rx ry h
theorem jqm : OpR X (compareOp .IsNot) (rIsN true) := fun pins s σ H x y v u Q I rx ry h => oqn pins s σ H x y v u Q I rx ry h
theorem qqN {x : V} {H : Hp} {Q : VK} : rIsN false x .non H Q ↔ Q (.bl (decide (x = .non))) H := ⟨fun h => h.2, fun h => ⟨rfl, h⟩⟩
theorem qqD {x : V} {H : Hp} {Q : VK} : rIsN true x .non H Q ↔ Q (.bl (!decide (x = .non))) H := ⟨fun h => h.2, fun h => ⟨rfl, h⟩⟩
def kindV (x : V) (H : Hp) : Option String := match x with
 | .non => some "NoneType"
 | .bl _ => some "bool"
 | .int _ => some "int"
 | .str _ => some "str"
 | .ref a => match H a with
  | some (.lst _) => some "list"
  | some (.tup _) => some "tuple"
  | _ => none
 | _ => none
def subT (a b : String) : Bool := a == b || (a == "bool" && b == "int")
theorem oqc (K : PySem.W.Frag) : ∀ a ∈ ["NoneType", "bool", "int", "str", "list", "tuple"], ∀ b ∈ ["bool", "int", "str", "list", "tuple"], PySem.W.kitOne K (.type a) (.type b) = some (subT a b) := by
 intro a ha b hb
 simp only [List.mem_cons, List.not_mem_nil, or_false] at ha hb
 rcases ha with rfl | rfl | rfl | rfl | rfl | rfl <;> rcases hb with rfl | rfl | rfl | rfl | rfl <;> with_unfolding_all kernel_rfl
def rIsiU : List V → Hp → VK → Prop := fun vs H Q => match vs with
 | [x, .ty T] => ∃ k, kindV x H = some k ∧ T ∈ ["bool", "int", "str", "list", "tuple"] ∧ Q (.bl (subT k T)) H
 | _ => False
theorem dqP : CallR X (.builtin "isinstance") rIsiU := by
 intro pins s σ H xs us Q I r h
 unfold rIsiU at h
 split at h
 ·rename_i x T
  obtain ⟨k, hk, hT, q⟩ := h
  have key : TyOf X.K H x (.type k) ∧ k ∈ ["NoneType", "bool", "int", "str", "list", "tuple"] := by
   unfold kindV at hk
   split at hk
   ·cases hk; exact ⟨.non, by decide⟩
   ·cases hk; exact ⟨.bl _, by decide⟩
   ·cases hk; exact ⟨.int _, by decide⟩
   ·cases hk; exact ⟨.str _, by decide⟩
   ·split at hk
    ·rename_i e; cases hk; exact ⟨.lst e, by decide⟩
    ·rename_i e; cases hk; exact ⟨.tup e, by decide⟩
    ·cases hk
   ·cases hk
  exact mqY pins s σ H _ us Q I r ⟨x, T, .type k, subT k T, rfl, key.1, oqc X.K k key.2 T hT, q⟩
 ·exact h.elim
end
section
variable {σ : St} {H : Hp} {Q : VK} {D : Ends} {K : PySem.W.Frag} {ta tb te : TE} {tt tu : TT} {t u : TS} {aa ab : TA} {v x y : V} {r r' : R2}
theorem pq3 {i : Nat} : (tVar i σ H Q) = (∃ v, σ[i]? = some (some v) ∧ Q v H) := rfl
theorem rd_C : (tC v σ H Q) = (Q v H) := rfl
theorem pqj : (tSeq t u D σ H) = (t { D with nx := u D } σ H) := rfl
theorem oq8 {g : TG} : (tAsg te g D σ H) = (te σ H fun x H1 => g x σ H1 D.nx) := rfl
theorem oqz {i : Nat} {R : St → Hp → Prop} : (gName i v σ H R) = (R (σ.set i (some v)) H) := rfl
theorem pqR : (tIfS tt t u D σ H) = (tt σ H fun b H1 => if b = true then t D σ H1 else u D σ H1) := rfl
theorem oqQ : (tNext D σ H) = (D.nx σ H) := rfl
theorem pqE : (tBreak D σ H) = (D.bk σ H) := rfl
theorem pqT : (tRet te D σ H) = (te σ H D.rt) := rfl
theorem oqg : (tDrop te D σ H) = (te σ H fun _ H1 => D.nx σ H1) := rfl
theorem qqT : (tOp r ta tb σ H Q) = (ta σ H fun x H1 => tb σ H1 fun y H2 => r x y H2 Q) := rfl
theorem nq1 {R : Bool → Hp → Prop} : (tTest te σ H R) = (te σ H fun x H' => ∃ k, x = .bl k ∧ R k H') := rfl
theorem rd_B {R : Bool → Hp → Prop} : (tB te σ H R) = (te σ H fun x H' => ∃ k, x = .bl k ∧ R k H') := rfl
theorem pq5 {R : Bool → Hp → Prop} : (tAnd tt tu σ H R) = (tt σ H fun c H1 => if c = true then tu σ H1 R else R false H1) := rfl
theorem qqF {R : Bool → Hp → Prop} : (tOr tt tu σ H R) = (tt σ H fun c H1 => if c = true then R true H1 else tu σ H1 R) := rfl
theorem qqs {R : Bool → Hp → Prop} : (tNot tt σ H R) = (tt σ H fun c H1 => R (!c) H1) := rfl
theorem nqS : (tAndV ta tb σ H Q) = (ta σ H fun x H1 => ∃ c, x = .bl c ∧ if c = true then tb σ H1 Q else Q (.bl false) H1) := rfl
theorem pq4 : (tOrV ta tb σ H Q) = (ta σ H fun x H1 => ∃ c, x = .bl c ∧ if c = true then Q (.bl true) H1 else tb σ H1 Q) := rfl
theorem nqU : (tNotV ta σ H Q) = (ta σ H fun x H1 => ∃ c, x = .bl c ∧ Q (.bl (!c)) H1) := rfl
theorem qqI : (tIf tt ta tb σ H Q) = (tt σ H fun c H1 => if c = true then ta σ H1 Q else tb σ H1 Q) := rfl
theorem mqM {tc : TE} : (tChain r r' ta tb tc σ H Q) = (ta σ H fun x H1 => tb σ H1 fun y H2 => r x y H2 fun z H3 => ∃ k, z = .bl k ∧ (if k = true then tc σ H3 fun w' H4 => r' y w' H4 Q else Q (.bl false) H3)) := rfl
theorem qqa {R : List V → Hp → Prop} : (tNil σ H R) = (R [] H) := rfl
theorem oqy {R : List V → Hp → Prop} : (tCons te aa σ H R) = (te σ H fun x H1 => aa σ H1 fun xs H2 => R (x :: xs) H2) := rfl
theorem pqm : (tLst aa σ H Q) = (aa σ H fun xs H1 => xs.length ≤ sizeLine ∧ ∀ p, H1 p = none → Q (.ref p) (upd H1 p (.lst xs))) := rfl
theorem qqe : (tTup aa σ H Q) = (aa σ H fun xs H1 => xs.length ≤ sizeLine ∧ ∀ p, H1 p = none → Q (.ref p) (upd H1 p (.tup xs))) := rfl
theorem nqP {sp : Sp} {dvs : List V} {E : XK} : (tCall sp dvs E aa σ H Q) = (aa σ H fun vs H1 => sp (vs ++ dvs) H1 Q E) := rfl
theorem qqU {c : List V → Hp → VK → Prop} : (tCB c aa σ H Q) = (aa σ H fun vs H1 => c vs H1 Q) := rfl
theorem qqK {T : String} {m : V → List V → Hp → VK → Prop} : (tBM K T m te aa σ H Q) = (te σ H fun x H1 => tyV K T x H1 ∧ aa σ H1 fun xs H2 => m x xs H2 Q) := rfl
theorem pqZ {T : String} {m : V → List V → Hp → VK → Prop} : (tBM0 K T m te σ H Q) = (te σ H fun x H1 => tyV K T x H1 ∧ m x [] H1 Q) := rfl
theorem qqH {m : V → Option Int → Option Int → Hp → VK → Prop} {tl th : TO} : (tSl m te tl th σ H Q) = (te σ H fun x H1 => tl σ H1 fun l H2 => th σ H2 fun u H3 => m x l u H3 Q) := rfl
theorem lqK {R : Option Int → Hp → Prop} : (tNoPart σ H R) = (R none H) := rfl
theorem oq0 {R : Option Int → Hp → Prop} : (tPart te σ H R) = (te σ H fun x H1 => ∃ i, x = .int i ∧ R (some i) H1) := rfl
theorem lq4 {z : Str} : tyV K "str" (.str z) H ↔ True := ⟨fun _ => trivial, fun _ => rfl⟩
theorem rd_I {C : Int → Int → Prop} {g : Int → Int → V} {i j : Int} : rI C g (.int i) (.int j) H Q ↔ C i j ∧ Q (g i j) H :=
 ⟨fun ⟨_, _, h1, h2, h3⟩ => by cases h1; cases h2; exact h3, fun h => ⟨i, j, rfl, rfl, h⟩⟩
theorem qqM {g : Int → Int → V} {i j : Int} : rI0 g (.int i) (.int j) H Q ↔ Q (g i j) H :=
 ⟨fun ⟨_, _, h1, h2, h3⟩ => by cases h1; cases h2; exact h3, fun h => ⟨i, j, rfl, rfl, h⟩⟩
theorem nq6 {i j : Int} : rEq (.int i) (.int j) H Q ↔ Q (.bl (decide (i = j))) H := by
 unfold rEq scal; simp only [true_and, V.int.injEq]
theorem aqv {i j : Str} : rEq (.str i) (.str j) H Q ↔ Q (.bl (decide (i = j))) H := by
 unfold rEq scal; simp only [true_and, V.str.injEq]
theorem oq3 {i j : Bool} : rEq (.bl i) (.bl j) H Q ↔ Q (.bl (decide (i = j))) H := by
 unfold rEq scal; simp only [true_and, V.bl.injEq]
theorem oqT {i j : Int} : rNe (.int i) (.int j) H Q ↔ Q (.bl (!decide (i = j))) H := by
 unfold rNe scal; simp only [true_and, V.int.injEq]
theorem eqo {i j : Str} : rNe (.str i) (.str j) H Q ↔ Q (.bl (!decide (i = j))) H := by
 unfold rNe scal; simp only [true_and, V.str.injEq]
theorem kqG {i j : Bool} : rNe (.bl i) (.bl j) H Q ↔ Q (.bl (!decide (i = j))) H := by
 unfold rNe scal; simp only [true_and, V.bl.injEq]
theorem oqP : rNe .non .non H Q ↔ Q (.bl false) H := ⟨fun h => h.2, fun h => ⟨rfl, h⟩⟩
theorem oqY {i : Str} : rNe (.str i) .non H Q ↔ Q (.bl true) H := ⟨fun h => h.2, fun h => ⟨rfl, h⟩⟩
theorem mqX {i : Str} : rNe .non (.str i) H Q ↔ Q (.bl true) H := ⟨fun h => h.2, fun h => ⟨rfl, h⟩⟩
theorem oqN : rEq .non .non H Q ↔ Q (.bl true) H := ⟨fun h => h.2, fun h => ⟨rfl, h⟩⟩
theorem nqY {i : Str} : rEq (.str i) .non H Q ↔ Q (.bl false) H := ⟨fun h => h.2, fun h => ⟨rfl, h⟩⟩
theorem mqn {i : Str} : rEq .non (.str i) H Q ↔ Q (.bl false) H := ⟨fun h => h.2, fun h => ⟨rfl, h⟩⟩
theorem pqY {z : Str} {i : Int} : rIx K (.str z) (.int i) H Q ↔ ∃ c, z.length ≤ sizeLine ∧ atI z.cps.toList i = some c ∧ Q (.str ⟨#[c]⟩) H := by
 constructor
 ·rintro (⟨p, xs, j, v, h, _⟩ | ⟨p, xs, j, v, h, _⟩ | ⟨z', j, c, h1, h2, h3, h4, h5⟩)
  ·cases h
  ·cases h
  ·cases h1; cases h2; exact ⟨c, h3, h4, h5⟩
 ·rintro ⟨c, h3, h4, h5⟩
  exact .inr (.inr ⟨z, i, c, rfl, rfl, h3, h4, h5⟩)
theorem nqd {z : Str} {lo hi : Option Int} : rSl K (.str z) lo hi H Q ↔ z.length ≤ sizeLine ∧ Q (.str (Txt.slice z lo hi)) H := by
 constructor
 ·rintro (⟨a, xs, h, _⟩ | ⟨z', h1, h2, h3⟩)
  ·cases h
  ·cases h1; exact ⟨h2, h3⟩
 ·rintro ⟨h2, h3⟩
  exact .inr ⟨z, rfl, h2, h3⟩
end
section
variable {σ : St} {H : Hp} {Q : VK} {K : PySem.W.Frag}
theorem pq7 {a : Addr} {lo hi : Option Int} : rSl K (.ref a) lo hi H Q ↔ ∃ xs, SqL K H a xs ∧ ∀ p, H p = none → Q (.ref p) (upd H p (.lst (cutV xs lo hi))) := by
 constructor
 ·rintro (⟨a', xs, h, h2⟩ | ⟨z', h1, _⟩)
  ·cases h; exact ⟨xs, h2⟩
  ·cases h1
 ·rintro ⟨xs, h2⟩
  exact .inl ⟨a, xs, rfl, h2⟩
theorem pqp {p : Addr} {i : Int} : rIx K (.ref p) (.int i) H Q ↔ ∃ xs v, (SqL K H p xs ∨ SqT K H p xs) ∧ atI xs i = some v ∧ Q v H := by
 constructor
 ·rintro (⟨p', xs, j, v, h, h2, h3, h4⟩ | ⟨p', xs, j, v, h, h2, h3, h4⟩ | ⟨z', j, c, h1, _⟩)
  ·cases h; cases h2; exact ⟨xs, v, .inl h3, h4⟩
  ·cases h; cases h2; exact ⟨xs, v, .inr h3, h4⟩
  ·cases h1
 ·rintro ⟨xs, v, h | h, h2⟩
  ·exact .inl ⟨p, xs, i, v, rfl, rfl, h, h2⟩
  ·exact .inr (.inl ⟨p, xs, i, v, rfl, rfl, h, h2⟩)
theorem qqt {a b : Addr} : rAddU K (.ref a) (.ref b) H Q ↔ (∃ xs zs, H a = some (.lst xs) ∧ H b = some (.lst zs) ∧ xs.length + zs.length ≤ sizeLine ∧ ∀ p, H p = none → Q (.ref p) (upd H p (.lst (xs ++ zs)))) ∨
   (∃ xs ys, H a = some (.tup xs) ∧ H b = some (.tup ys) ∧ xs.length + ys.length ≤ sizeLine ∧ ∀ p H', Same H H' → H' p = some (.tup (xs ++ ys)) → Q (.ref p) H') := Iff.rfl
theorem cx_K {CX : CXT} {P : Program} {w : World} {mg : Str → Option Value} {base : Heap} {N : List Str} {qual : Str} {scope : Scope} {f : Addr} {cd : Value} {A : Around} {outer : List Env} {s : Shared} {E : XK} :
  (cxOf CX P w K mg base N qual scope f cd A outer s H E).K = K := rfl
end
def LoopI (J : It) (g : TG) (tb : TS) (D : Ends) (σ : St) (H : Hp) : Prop := ∃ W : Nat → Nat → St → Hp → Prop, (∃ m, W 0 m σ H) ∧ ∀ i m σ H, W i m σ H →
 (J.stop i H ∧ D.nx σ H) ∨ (J.go i H ∧ ∃ N : St → Hp → Prop, (∀ σ' H', N σ' H' → ∃ m', m' < m ∧ W (i + 1) m' σ' H') ∧ ∀ x H', J.yld i H x H' → g x σ H' fun σ2 H2 => tb { D with nx := N, ct := N, bk := D.nx } σ2 H2)
section
variable {σ : St} {H : Hp} {D : Ends} {K : PySem.W.Frag} {te : TE} {g : TG} {tb : TS} {aa : TA}
theorem nq8 : (tFor (iStr te) g tb D σ H) = (te σ H fun x H1 => ∃ z, x = .str z ∧ LoopI (Its z) g tb D σ H1) := rfl
theorem nqQ : (tFor (iList K te) g tb D σ H) = (te σ H fun x H1 => ∃ a, x = .ref a ∧ (∃ xs, SqL K H1 a xs) ∧ LoopI (Itl K a) g tb D σ H1) := rfl
theorem oqd : (tFor (iRng1 aa) g tb D σ H) = (aa σ H fun vs H1 => ∃ j : Int, vs = [.int j] ∧ -(2 ^ 62) ≤ j ∧ j < 2 ^ 62 ∧ LoopI (Itr 0 j.toNat) g tb D σ H1) := rfl
theorem fq1 {a : Addr} {xs : List V} (Pv : Nat → St → Hp → Prop) (h0 : Pv 0 σ H) (hl : ∀ i σ H, i ≤ xs.length → Pv i σ H → SqL K H a xs)
  (hs : ∀ i x σ H, xs[i]? = some x → Pv i σ H → g x σ H fun σ2 H2 => tb { D with nx := Pv (i + 1), ct := Pv (i + 1), bk := D.nx } σ2 H2) (hd : ∀ σ H, Pv xs.length σ H → D.nx σ H) : LoopI (Itl K a) g tb D σ H := mqu Pv h0 hl hs hd
theorem bqG {lo : Int} {n : Nat} (Pv : Nat → St → Hp → Prop) (h0 : Pv 0 σ H)
  (hs : ∀ i σ H, i < n → Pv i σ H → g (.int (lo + i)) σ H fun σ2 H2 => tb { D with nx := Pv (i + 1), ct := Pv (i + 1), bk := D.nx } σ2 H2) (hd : ∀ σ H, Pv n σ H → D.nx σ H) : LoopI (Itr lo n) g tb D σ H := lqx Pv h0 hs hd
end
section
variable {prog : Program} {w : World} {A : Around} {R : Result → Shared → Prop} {s : Shared}
theorem eq9 {elt target iter : Expr} {ifs : List Expr} {scope : Scope} {pos : Pos} {it acc : Value} {env : Env} (I : Nat → Shared → Prop)
  (turn : ∀ n s, I n s → wpAny (model prog w) A (pyNext it) (fun r s₁ => match r with
   | none => R (.ok .next) s₁
   | some v => wpAny (model prog w) A (letOwnedTupleGo target it v) (fun _ s₁' => wpAny (model prog w) A (assign target env v) (fun _ s₂ =>
     wpAny (model prog w) A (forIn ifs true fun c r => if r = true then do let ok ← isTrue c env (eval c env); pure (ForInStep.yield ok) else pure (ForInStep.yield r)) (fun ok s₃ =>
      if ok = true then wpAny (model prog w) A (eval elt env) (fun x s₄ =>
       wpAny (model prog w) A (call (.builtin "list.append") [acc, x]) (fun _ s₅ => ∃ m, m < n ∧ I m s₅) (fun _ _ => False) s₄) (fun _ _ => False) s₃
      else ∃ m, m < n ∧ I m s₃) (fun _ _ => False) s₂) (fun _ _ => False) s₁') (fun _ _ => False) s₁) (fun _ _ => False) s)
  (n : Nat) (h : I n s) : codeAny (model prog w) A (.compLoop (.ListComp elt [⟨target, iter, ifs, 0⟩] scope pos) 0 it acc env) R s := by
 refine codeAny_loop rfl I (fun n s hI => ?_) n h
 show wpAny _ A ((compTurn (.ListComp elt [⟨target, iter, ifs, 0⟩] scope pos) 0 it acc env).onRaise (fun x => do noteFrame x env; theTreesLotGoes x)) _ _ s
 refine wpAny_noted ?_
 rw [compTurn_list]
 refine wpAny_bind (wpAny_standAt (wpAny_bind (wpAny_mono (turn n s hI) (fun r s₁ h₁ => ?_) fun _ _ h' => h'.elim)))
 cases r with
 | none => exact wpAny_pure h₁
 | some v =>
  refine wpAny_bind (wpAny_mono h₁ (fun _ s₁' h₁' => wpAny_bind (wpAny_mono h₁' (fun _ s₂ h₂ => wpAny_bind (wpAny_mono h₂ (fun ok s₃ h₃ => ?_) fun _ _ h' => h'.elim)) fun _ _ h' => h'.elim)) fun _ _ h' => h'.elim)
  cases ok with
  | false => exact wpAny_pure ⟨rfl, h₃⟩
  | true =>
   exact wpAny_bind (wpAny_bind (wpAny_mono h₃ (fun x s₄ h₄ => wpAny_bind (wpAny_mono h₄ (fun _ s₅ h₅ => wpAny_pure (wpAny_pure ⟨rfl, h₅⟩)) fun _ _ h' => h'.elim)) fun _ _ h' => h'.elim))
end
def compCx (X : Cx) (N' : List Str) (scope : Scope) (cl : List (Str × Addr)) (s : Shared) (H : Hp) (fp : List Addr) : Cx :=
 { X with N := N', s₀ := s, H₀ := H, env := compEnvC scope cl s.heap.objs.size X.env, outer := X.stack, stack := X.stack, ex := fp, fn := fun _ => false, pn := [], xe := fun _ _ => False }
inductive Frees (X : Cx) (rs : Scope) (cl : List (Str × Addr)) : List Str → List Nat → Prop where
 | nil : Frees X rs cl [] []
 | cons {y : Str} {i : Nat} {fx : List Str} {fr : List Nat} (h1 : X.N[i]? = some y) (h2 : X.env.kindOf y = some .cell) (h3 : rs.names.lookup y = some .cell) (h4 : cl.lookup y = X.env.cells.lookup y) (r : Frees X rs cl fx fr) : Frees X rs cl (y :: fx) (i :: fr)
def frV (σ : St) (fr : List Nat) : St := fr.map fun i => (σ[i]?).getD none
theorem Frees.len {X : Cx} {rs : Scope} {cl : List (Str × Addr)} {fx : List Str} {fr : List Nat} (F : Frees X rs cl fx fr) : fr.length = fx.length := by
 induction F with
 | nil => rfl
 | cons _ _ _ _ _ ih => simp [ih]
theorem Frees.at {X : Cx} {rs : Scope} {cl : List (Str × Addr)} {σ : St} : ∀ {fx : List Str} {fr : List Nat}, Frees X rs cl fx fr → ∀ (j : Nat) (y : Str) (v : V), fx[j]? = some y → (frV σ fr)[j]? = some (some v) →
  ∃ i : Nat, X.N[i]? = some y ∧ σ[i]? = some (some v) ∧ X.env.kindOf y = some .cell ∧ rs.names.lookup y = some .cell ∧ cl.lookup y = X.env.cells.lookup y
 | _, _, .nil, j, y, v, h, _ => by simp at h
 | _, _, .cons (y := z) (i := i) h1 h2 h3 h4 r, 0, y, v, h, hv => by
  simp only [List.getElem?_cons_zero, Option.some.injEq] at h
  subst h
  simp only [frV, List.map_cons, List.getElem?_cons_zero, Option.some.injEq] at hv
  refine ⟨i, h1, ?_, h2, h3, h4⟩
  cases e : σ[i]? with
  | none => rw [e] at hv; cases hv
  | some o => rw [e] at hv; exact congrArg some hv
 | _, _, .cons h1 h2 h3 h4 r, j + 1, y, v, h, hv => by
  simp only [List.getElem?_cons_succ] at h
  simp only [frV, List.map_cons, List.getElem?_cons_succ] at hv
  exact r.at j y v h hv
theorem Frees.mem {X : Cx} {rs : Scope} {cl : List (Str × Addr)} : ∀ {fx : List Str} {fr : List Nat}, Frees X rs cl fx fr → ∀ y ∈ fx, X.env.kindOf y = some .cell ∧ cl.lookup y = X.env.cells.lookup y
 | _, _, .nil, y, h => by simp at h
 | _, _, .cons h1 h2 h3 h4 r, y, h => by
  rcases List.mem_cons.mp h with rfl | h
  ·exact ⟨h2, h4⟩
  ·exact r.mem y h
section
variable {X : Cx} {pins : List (Addr × Obj)} {σ : St} {H1 : Hp} {s3 : Shared} {x : Str} {fx : List Str} {fr : List Nat} {scope : Scope} {cl : List (Str × Addr)} {fp : List Addr}
theorem nqH (I : Inv X pins σ H1 s3) (hkind : scope.kind = .function) (hcl : ∀ y c, cl.lookup y = some c → X.env.cells.lookup y = some c)
  (F : Frees X (relabel scope X.env) cl fx fr) (hfx : ((relabel scope X.env).names.all fun p => if (p.2 == .cell || p.2 == .free) then fx.contains p.1 else true) = true)
  (ffp : ∀ b ∈ fp, FpOk X pins H1 b) (flt : ∀ b ∈ fp, b < s3.heap.objs.size) : (compCx X (x :: fx) scope cl s3 H1 fp).Ok where
 mod := I.ok.mod
 kind := hkind
 glob := I.ok.glob
 blt := I.ok.blt
 above := Nat.le_refl _
 inj := fun y z c h1 h2 => I.ok.inj y z c (hcl y c h1) (hcl z c h2)
 has := fun y h => by
  have h : (relabel scope X.env).names.lookup y = some .cell ∨ (relabel scope X.env).names.lookup y = some .free := h
  have key : y ∈ fx := by
   rcases h with h | h
   ·have q := List.all_eq_true.mp hfx _ (PySem.mem_of_lookup h)
    simpa using q
   ·have q := List.all_eq_true.mp hfx _ (PySem.mem_of_lookup h)
    simpa using q
  obtain ⟨k1, k2⟩ := F.mem y key
  obtain ⟨c, e⟩ := I.ok.has y (.inl k1)
  exact ⟨c, k2.trans e⟩
 cab := fun y c h => by cases (show false = true from h)
 hd := I.ok.hd
 frames := I.ok.frames
 stk := .inl rfl
 exf := fun b hb => ⟨Nat.ne_of_lt (flt b hb), fun y c e => (ffp b hb).2.2.2.2.1 y c (hcl y c e)⟩
 bs := I.bs
 bsz := Nat.le_trans I.ok.bsz I.sz
 noex := fun b o e hb => by
  rcases (ffp b hb).2.2.2.1 with z | z
  ·exact I.ok.noex b o e z
  ·exact absurd (Nat.lt_of_lt_of_le (Heap.lt_size (I.ok.bs b o e).1) z) (Nat.lt_irrefl _)
 exfs := fun b hb z => by
  rcases List.mem_cons.mp (I.stkSub b z) with q | q
  ·exact (ffp b hb).2.1 q
  ·exact (ffp b hb).2.2.1 q
 funs := I.stack
 frf := I.stkFree
theorem jqV (I : Inv X pins σ H1 s3) (hkind : scope.kind = .function) (hcl : ∀ y c, cl.lookup y = some c → X.env.cells.lookup y = some c)
  (F : Frees X (relabel scope X.env) cl fx fr) (hfx : ((relabel scope X.env).names.all fun p => if (p.2 == .cell || p.2 == .free) then fx.contains p.1 else true) = true)
  (ffp : ∀ b ∈ fp, FpOk X pins H1 b) (flt : ∀ b ∈ fp, b < s3.heap.objs.size) {h1 : Heap} {t : Nat} {m : Str → Option Value} (hn : h1.Ns s3.heap.objs.size m)
  (keep : ∀ b u, s3.heap.get? b = some u → h1.get? b = some u) : Inv (compCx X (x :: fx) scope cl s3 H1 fp) [] (none :: frV σ fr) H1 { s3 with heap := h1, toks := t } := by
 refine ⟨nqH I hkind hcl F hfx ffp flt, rfl, I.bare, Un.kept keep, ⟨m, hn, fun i y v e1 e2 e3 => ?_⟩, fun y c e => ?_, I.hok.fresh (Nat.le_refl _), fun y c e => I.freeC y c (hcl y c e), fun p hp => absurd (show p ∈ ([] : List (Addr × Obj)) from hp) (by simp), I.hok.kept keep, ?_⟩
 ·cases i with
  | zero => simp at e2
  | succ j =>
   obtain ⟨i0, k1, k2, k3, k4, k5⟩ := F.at (σ := σ) j y v (by simpa [compCx] using e1) (by simpa using e2)
   obtain ⟨m0, hn0, hl0⟩ := I.loc
   obtain ⟨u, r, l⟩ := hl0 i0 y v k1 k2 (.inr (.inl k3))
   refine ⟨u, r, ?_⟩
   rcases l with ⟨z, _⟩ | ⟨_, c, e, o, ho, hd⟩
   ·rw [k3] at z; cases z
   ·exact .inr ⟨.inl k4, c, k5.trans e, o, keep c o ho, hd⟩
 ·obtain ⟨v, o, ho, hd⟩ := I.cell y c (hcl y c e)
  exact ⟨v, o, keep c o ho, hd⟩
 ·show (none :: frV σ fr).length = (x :: fx).length
  simp [frV, F.len]
theorem gqn {N' : List Str} {pins' : List (Addr × Obj)} {σ' : St} {H2 : Hp} {s' : Shared} {h' : Heap} (I : Inv X pins σ H1 s3) (J : Inv (compCx X N' scope cl s3 H1 fp) pins' σ' H2 s') (ffp : ∀ b ∈ fp, FpOk X pins H1 b)
  (sb : Heap.SameBut s3.heap.objs.size s'.heap h') : Inv X pins σ H2 { s' with heap := h' } := by
 have k : ∀ b u, b ≠ s3.heap.objs.size → s'.heap.get? b = some u → h'.get? b = some u := fun b u hb e => sb.extBut b u hb e
 have lt : ∀ b u, s3.heap.get? b = some u → b ≠ s3.heap.objs.size := fun b u e => Nat.ne_of_lt (Heap.lt_size e)
 have u : Un (frs X.stack) fp H1 H2 s3.heap s'.heap := J.base
 have u' : Un (frs X.stack) fp H1 H2 s3.heap h' :=
  ⟨fun b o q n hb hx => k b o (lt b o q) (u.keep b o q n hb hx), fun b o q n hb hx => by
    obtain ⟨sl, e⟩ := u.slot b o q n hb hx
    exact ⟨sl, k b _ (lt b o q) e⟩, u.free, fun b o q hx => by
    obtain ⟨o', e⟩ := u.there b o q hx
    exact ⟨o', k b _ (lt b o q) e⟩, u.tups, u.frzs, u.tbls⟩
 have nC : H2 s3.heap.objs.size = none := J.free
 have hok : HOk X.prog X.w H2 h' := fun b uo e => by
  refine (J.hok b uo e).stay (fun c v hc q => k c v ?_ q) (fun _ q => q) fun _ _ q => q
  rintro rfl
  rcases hc with z | z
  ·rw [← z, nC] at e; cases e
  ·rw [nC] at z; cases z
 have os : s'.os = s3.os := J.os
 have bare := J.bare
 obtain ⟨hh, g, d, t, os'⟩ := s'
 obtain rfl : os' = s3.os := os
 have fin := I.call (h' := h') (g' := g) (d' := d) (t' := t) (ch := fp) u' hok bare fun b hb => by
  obtain ⟨f0, f1, f2, f3, f4, f5⟩ := ffp b hb
  exact ⟨f3, f1, f4, f5⟩
 exact fin
end
def PF (X : Cx) (ifs : List Expr) (t : TT) : Prop :=
 ∀ (pins : List (Addr × Obj)) (s : Shared) (σ : St) (H : Hp) (Q : Bool → Hp → Prop), Inv X pins σ H s → t σ H Q →
  wpAny (model X.prog X.w) X.A (forIn ifs true fun c r => if r = true then do let ok ← isTrue c X.env (eval c X.env); pure (ForInStep.yield ok) else pure (ForInStep.yield r)) (TP X pins σ Q) X.xe s
def tYes : TT := fun _ H Q => Q true H
theorem nqs {X : Cx} : PF X [] tYes := fun _ _ _ H _ I h => wpAny_tests_nil ⟨H, I, h⟩
theorem nqk {X : Cx} {c : Expr} {t : TT} (h : PT X c t) : PF X [c] t := fun pins s σ H Q I q => wpAny_tests_one (h pins s σ H Q I q)
def CompI (J : It) (p : Addr) (fv : St) (tt : TT) (te : TE) (Q : VK) (H1 : Hp) : Prop :=
 ∃ W : Nat → Nat → List V → Hp → Prop, (∃ m, W 0 m [] (upd H1 p (.lst []))) ∧ ∀ i m ys H2, W i m ys H2 → H2 p = some (.lst ys) ∧
  ((J.stop i H2 ∧ Q (.ref p) H2) ∨ (J.go i H2 ∧ ys.length < sizeLine ∧ ∀ x H3, J.yld i H2 x H3 → tt (some x :: fv) H3 fun b H4 =>
   if b = true then te (some x :: fv) H4 fun y H5 => H5 p = some (.lst ys) ∧ ∃ m', m' < m ∧ W (i + 1) m' (ys ++ [y]) (upd H5 p (.lst (ys ++ [y])))
   else ∃ m', m' < m ∧ W (i + 1) m' ys H4))
def tComp (wi : TI) (fr : List Nat) (tt : TT) (te : TE) : TE := fun σ H Q => wi σ H fun J H1 => ∀ p, H1 p = none → CompI J p (frV σ fr) tt te Q H1
section
variable {X : Cx} {elt iter : Expr} {x : Str} {px pos : Pos} {ifs : List Expr} {scope : Scope} {cl : List (Str × Addr)} {fx : List Str} {fr : List Nat} {wi : TI} {tt : TT} {te : TE}
theorem gqH {pins : List (Addr × Obj)} {σ : St} {H3 : Hp} {s3 : Shared} {it p : Addr} {fp : List Addr} {tn : Nat → Heap → Prop} {J : It} {Q : VK} {W : Nat → Nat → List V → Hp → Prop} {m0 t : Nat} {h₁ : Heap} {m : Str → Option Value} {RR : Result → Shared → Prop}
  (hc : X.calm = true) (hkind : scope.kind = .function) (hx : scope.names.lookup x = some .local) (hnd : (x :: fx).Nodup)
  (hcl : ∀ y c, cl.lookup y = some c → X.env.cells.lookup y = some c) (F : Frees X (relabel scope X.env) cl fx fr)
  (hfx : ((relabel scope X.env).names.all fun p => if (p.2 == .cell || p.2 == .free) then fx.contains p.1 else true) = true)
  (ht : ∀ s H fp, PF (compCx X (x :: fx) scope cl s H fp) ifs tt) (he : ∀ s H fp, PE (compCx X (x :: fx) scope cl s H fp) elt te)
  (I3 : Inv X pins σ H3 s3) (T : Turn X.prog X.w X.K (.Name x px) J fp it tn) (st3 : tn 0 s3.heap) (ffp : ∀ b ∈ fp, FpOk X pins H3 b) (flt3 : ∀ b ∈ fp, b < s3.heap.objs.size)
  (w0 : W 0 m0 [] H3) (turn : ∀ i m ys H2, W i m ys H2 → H2 p = some (.lst ys) ∧
   ((J.stop i H2 ∧ Q (.ref p) H2) ∨ (J.go i H2 ∧ ys.length < sizeLine ∧ ∀ x H3, J.yld i H2 x H3 → tt (some x :: frV σ fr) H3 fun b H4 =>
    if b = true then te (some x :: frV σ fr) H4 fun y H5 => H5 p = some (.lst ys) ∧ ∃ m', m' < m ∧ W (i + 1) m' (ys ++ [y]) (upd H5 p (.lst (ys ++ [y])))
    else ∃ m', m' < m ∧ W (i + 1) m' ys H4)))
  (hns : h₁.Ns s3.heap.objs.size m) (keep1 : ∀ b u, s3.heap.get? b = some u → h₁.get? b = some u)
  (fin : ∀ s6 H5 o, Inv (compCx X (x :: fx) scope cl s3 H3 fp) [] (o :: frV σ fr) H5 s6 → Q (.ref p) H5 → RR (.ok .next) s6) :
  codeAny (model X.prog X.w) X.A (.compStart (.ListComp elt [⟨.Name x px, iter, ifs, 0⟩] scope pos) 0 (.ref it) (.ref p) (compEnvC scope cl s3.heap.objs.size X.env))
   RR { s3 with heap := h₁, toks := t } := by
 have I4 := jqV (x := x) (t := t) I3 hkind hcl F hfx ffp flt3 hns keep1
 have st4 : tn 0 h₁ := T.keep _ _ _ st3 fun b hb o e => keep1 b o e
 have fp0 : ∀ b ∈ fp, H3 b = none := fun b hb => (ffp b hb).1
 have hcal : (compCx X (x :: fx) scope cl s3 H3 fp).calm = true := hc
 have stat : ∀ {H' : Hp}, (∀ b ∈ fp, H' b = none) → ∀ b ∈ fp, FpOk (compCx X (x :: fx) scope cl s3 H3 fp) [] H' b := fun {H'} hn b hb => by
  obtain ⟨f0, f1, f2, f3, f4, f5⟩ := ffp b hb
  exact ⟨hn b hb, Nat.ne_of_lt (flt3 b hb), I4.ok.exfs b hb, .inl hb, fun y c e => f4 y c (hcl y c e), fun q hq => absurd (show q ∈ ([] : List (Addr × Obj)) from hq) (by simp)⟩
 have hxl : (relabel scope X.env).names.lookup x = some .local := lookup_relabel_local hx
 have pg : PG (compCx X (x :: fx) scope cl s3 H3 fp) (.Name x px) (gName 0) := aqz (i := 0) hnd rfl (.inl hxl) (.inr hxl)
 have loop : codeAny (model X.prog X.w) X.A (.compLoop (.ListComp elt [⟨.Name x px, iter, ifs, 0⟩] scope pos) 0 (.ref it) (.ref p) (compEnvC scope cl s3.heap.objs.size X.env))
    RR { s3 with heap := h₁, toks := t } := by
  refine eq9 (fun n s' => ∃ i ys H' o, Inv (compCx X (x :: fx) scope cl s3 H3 fp) [] (o :: frV σ fr) H' s' ∧ tn i s'.heap ∧ (∀ b ∈ fp, H' b = none) ∧ W i n ys H') ?_ m0 ⟨0, [], _, none, I4, st4, fp0, w0⟩
  rintro n s5 ⟨i, ys, H5, o, I5, st5, fr5, w5⟩
  obtain ⟨hp5, alt⟩ := turn i n ys H5 w5
  rcases alt with ⟨stop, qn⟩ | ⟨go, hlen, step⟩
  ·refine thn (T.done (compCx X (x :: fx) scope cl s3 H3 fp) rfl rfl rfl hcal i [] s5 (o :: frV σ fr) H5 _ I5 (stat fr5) st5 stop) fun r s6 W' => ?_
   obtain ⟨hr, I6⟩ := W'
   subst hr
   exact fin s6 H5 o I6 qn
  ·refine thn (T.item (compCx X (x :: fx) scope cl s3 H3 fp) rfl rfl rfl hcal i [] s5 (o :: frV σ fr) H5 _ I5 (stat fr5) st5 go) fun r s6 W' => ?_
   obtain ⟨u, hr, h6⟩ := W'
   subst hr
   refine thn h6 fun _ s7 W' => ?_
   obtain ⟨y7, H7, I7, r7, yl7, st7, fr7⟩ := W'
   have I7' := I7.pinned (stat fr7) (T.obj _ _ st7)
   have back : ∀ {σ' : St} {H' : Hp} {s' : Shared}, Inv (compCx X (x :: fx) scope cl s3 H3 fp) ([] ++ pinsAt fp s7.heap) σ' H' s' → tn (i + 1) s'.heap ∧ ∀ b ∈ fp, H' b = none := fun {σ' H' s'} I' => by
    refine ⟨T.keep _ _ _ st7 fun b hb o e => (I'.pin (b, o) (List.mem_append_right _ (List.mem_append_right _ (cql hb e)))).1, fun b hb => ?_⟩
    obtain ⟨o, e, d⟩ := T.obj _ _ st7 b hb
    exact (I'.pin (b, o) (List.mem_append_right _ (List.mem_append_right _ (cql hb e)))).2.1
   refine thn (pg _ s7 _ H7 y7 u (fun σ' H' => σ' = some y7 :: frV σ fr ∧ H' = H7) I7' r7 ⟨rfl, rfl⟩) fun _ s8 W' => ?_
   obtain ⟨σ8, H8, I8, e8, e8'⟩ := W'
   subst e8 e8'
   refine thn (ht s3 H3 fp _ s8 _ _ _ I8 (step y7 _ yl7)) fun b s9 W' => ?_
   obtain ⟨H9, I9, q9⟩ := W'
   cases b with
   | false =>
    rw [if_neg Bool.false_ne_true] at q9 ⊢
    obtain ⟨m', hm, w9⟩ := q9
    exact ⟨m', hm, i + 1, ys, H9, some y7, I9.unpinned, (back I9).1, (back I9).2, w9⟩
   | true =>
    rw [if_pos rfl] at q9 ⊢
    refine thn (he s3 H3 fp _ s9 _ H9 _ I9 q9) fun u10 s10 W' => ?_
    obtain ⟨y10, H10, I10, r10, hp10, m', hm, w10⟩ := W'
    refine thn (aqV _ s10 _ H10 (.ref p) [y10] (.ref p) [u10] (fun _ H' => H' = upd H10 p (.lst (ys ++ [y10]))) I10 rfl (.cons r10 .nil) ⟨p, ys, y10, rfl, rfl, hp10, hlen, rfl⟩) fun _ s11 W' => ?_
    obtain ⟨_, H11, I11, _, e11⟩ := W'
    subst e11
    exact ⟨m', hm, i + 1, ys ++ [y10], _, some y7, I11.unpinned, (back I11).1, (back I11).2, w10⟩
 exact codeAny_compStart_list loop (T.self _ 0 _ _ _ st4 loop)
theorem kqm (hc : X.calm = true) (hclos : closureFor scope X.env = pure cl) (hcell : ∀ y ∈ scope.names, y.2 ≠ .cell) (hkind : scope.kind = .function)
  (hnames : ∀ y ∈ scope.names, y.2 = .local → scope.names.lookup y.1 = some .local) (hx : scope.names.lookup x = some .local) (hnd : (x :: fx).Nodup)
  (hk : (cl.all fun q => fx.contains q.1) = true) (F : Frees X (relabel scope X.env) cl fx fr)
  (hfx : ((relabel scope X.env).names.all fun p => if (p.2 == .cell || p.2 == .free) then fx.contains p.1 else true) = true)
  (hi : PI X (.Name x px) iter wi) (ht : ∀ s H fp, PF (compCx X (x :: fx) scope cl s H fp) ifs tt) (he : ∀ s H fp, PE (compCx X (x :: fx) scope cl s H fp) elt te)
  (hs : ∀ x, foldedSetIterable iter X.env x = pure x := by intro _; rfl) :
  PE X (.ListComp elt [⟨.Name x px, iter, ifs, 0⟩] scope pos) (tComp wi fr tt te) := by
 intro pins s σ H Q I h
 have hcl : ∀ y c, cl.lookup y = some c → X.env.cells.lookup y = some c := fun y c e => by
  have q := List.all_eq_true.mp hk _ (PySem.mem_of_lookup e)
  rw [← (F.mem y (by simpa using q)).2]
  exact e
 rw [eval_ListComp]
 refine wpAny_comprehension_free (use := none) rfl hs hclos hkind hnames ?_
 refine thn (hi pins s σ H _ I h) fun v s1 h1 => thn h1 fun itv s2 h2 => ?_
 obtain ⟨it, fp, tn, J, H2, e, I2, T, st2, f2, q2⟩ := h2
 subst e
 have hp0 : H2 s2.heap.objs.size = none := I2.hok.fresh (Nat.le_refl _)
 obtain ⟨W, ⟨m0, w0⟩, turn⟩ := q2 _ hp0
 have flt : ∀ b ∈ fp, b < s2.heap.objs.size := fun b hb => by
  obtain ⟨o, e, _⟩ := T.obj _ _ st2 b hb
  exact Heap.lt_size e
 refine wpAny_newObj_type (wpAny_newFunctionEnv hcell (by intro y hy; simp at hy) (fun h₁ hns₁ hsb₁ => ?_) hkind)
 dsimp only at hns₁ hsb₁ ⊢
 have hlay : ∀ b u, s2.heap.get? b = some u → (s2.heap.push { cls := .type "list", dict := none, data := .seq ([] : List Value).toArray }).get? b = some u := fun b u e => Heap.get?_push_of_some _ e
 have hnew : (s2.heap.push { cls := .type "list", dict := none, data := .seq ([] : List Value).toArray }).get? s2.heap.objs.size = some { cls := .type "list", dict := none, data := .seq ([] : List Value).toArray } := Heap.get?_push_size _ rfl
 have hsz : (s2.heap.push { cls := .type "list", dict := none, data := .seq ([] : List Value).toArray }).objs.size = s2.heap.objs.size + 1 := Heap.size_push _ _
 generalize hHH : s2.heap.push { cls := .type "list", dict := none, data := .seq ([] : List Value).toArray } = HH at hns₁ hsb₁ hlay hnew hsz ⊢
 have I3 : Inv X pins σ (upd H2 s2.heap.objs.size (.lst [])) { s2 with heap := HH, toks := s2.toks } :=
  I2.laid (t' := s2.toks) (o := .lst []) hlay (Nat.le_refl _) ⟨Nat.zero_le _, [], 0, .nil, hnew⟩
 have ffp : ∀ b ∈ fp, FpOk X pins (upd H2 s2.heap.objs.size (.lst [])) b := fun b hb => by
  obtain ⟨f0, fr'⟩ := f2 b hb
  exact ⟨by rw [aqx (Nat.ne_of_lt (flt b hb))]; exact f0, fr'⟩
 have keep1 : ∀ b u, HH.get? b = some u → h₁.get? b = some u := fun b u e => hsb₁.extBut b u (Nat.ne_of_lt (Heap.lt_size e)) (Heap.get?_push_of_some _ e)
 exact gqH (s3 := { s2 with heap := HH, toks := s2.toks }) hc hkind hx hnd hcl F hfx ht he I3 T (T.keep _ _ _ st2 fun b hb o e => hlay b o e) ffp (fun b hb => by show b < HH.objs.size; rw [hsz]; exact Nat.lt_succ_of_lt (flt b hb)) w0 turn hns₁ keep1 fun s6 H5 o I6 qn => by
  obtain ⟨m, hn6, _⟩ := id I6.loc
  exact ⟨m, hn6, fun h' sb => ⟨.ref _, H5, gqn I3 I6 ffp sb, rfl, qn⟩⟩
theorem nqX {i : Nat} {y : Str} {py spos : Pos} (hN : X.N.Nodup) (hiN : X.N[i]? = some y) (hy : X.env.scope.names.lookup y = some .local)
  (hc : X.calm = true) (hclos : closureFor scope X.env = pure cl) (hcell : ∀ y ∈ scope.names, y.2 ≠ .cell) (hkind : scope.kind = .function)
  (hnames : ∀ y ∈ scope.names, y.2 = .local → scope.names.lookup y.1 = some .local) (hx : scope.names.lookup x = some .local) (hnd : (x :: fx).Nodup)
  (hk : (cl.all fun q => fx.contains q.1) = true) (F : Frees X (relabel scope X.env) cl fx fr)
  (hfx : ((relabel scope X.env).names.all fun p => if (p.2 == .cell || p.2 == .free) then fx.contains p.1 else true) = true)
  (hi : PI X (.Name x px) iter wi) (ht : ∀ s H fp, PF (compCx X (x :: fx) scope cl s H fp) ifs tt) (he : ∀ s H fp, PE (compCx X (x :: fx) scope cl s H fp) elt te)
  (hs : ∀ x, foldedSetIterable iter X.env x = pure x := by intro _; rfl) (hsw : swapsWith (.ListComp elt [⟨.Name x px, iter, ifs, 0⟩] scope pos) (some (.Name y py)) spos.line X.env = pure true := by rfl) :
  PS X (.Assign [.Name y py] (.ListComp elt [⟨.Name x px, iter, ifs, 0⟩] scope pos) spos) (tAsg (tComp wi fr tt te) (gName i)) := by
 intro pins s σ H D I h
 have hcl : ∀ y c, cl.lookup y = some c → X.env.cells.lookup y = some c := fun y c e => by
  have q := List.all_eq_true.mp hk _ (PySem.mem_of_lookup e)
  rw [← (F.mem y (by simpa using q)).2]
  exact e
 rw [exec_Assign_Name_used _ _ _ _ hsw]
 refine wpAny_bind (wpAny_standAt (wpAny_bind ?_))
 show wpAny _ X.A (do let _ ← comprehension (.ListComp elt [⟨.Name x px, iter, ifs, 0⟩] scope pos) scope X.env _ (newList []) false (eval iter X.env) (some (assign (.Name y py) X.env))) _ _ s
 refine wpAny_bind (wpAny_mono (wpAny_comprehension_free (use := some (assign (.Name y py) X.env)) (Q := fun _ s' => SP X pins D .next s') rfl hs hclos hkind hnames ?_) (fun _ s' hq => wpAny_pure (wpAny_pure hq)) fun _ _ e => e)
 refine thn (hi pins s σ H _ I h) fun v s1 h1 => thn h1 fun itv s2 h2 => ?_
 obtain ⟨it, fp, tn, J, H2, e, I2, T, st2, f2, q2⟩ := h2
 subst e
 have hp0 : H2 s2.heap.objs.size = none := I2.hok.fresh (Nat.le_refl _)
 obtain ⟨W, ⟨m0, w0⟩, turn⟩ := q2 _ hp0
 have flt : ∀ b ∈ fp, b < s2.heap.objs.size := fun b hb => by
  obtain ⟨o, e, _⟩ := T.obj _ _ st2 b hb
  exact Heap.lt_size e
 refine wpAny_newObj_type (wpAny_newFunctionEnv hcell (by intro y hy; simp at hy) (fun h₁ hns₁ hsb₁ => ?_) hkind)
 dsimp only at hns₁ hsb₁ ⊢
 have hlay : ∀ b u, s2.heap.get? b = some u → (s2.heap.push { cls := .type "list", dict := none, data := .seq ([] : List Value).toArray }).get? b = some u := fun b u e => Heap.get?_push_of_some _ e
 have hnew : (s2.heap.push { cls := .type "list", dict := none, data := .seq ([] : List Value).toArray }).get? s2.heap.objs.size = some { cls := .type "list", dict := none, data := .seq ([] : List Value).toArray } := Heap.get?_push_size _ rfl
 have hsz : (s2.heap.push { cls := .type "list", dict := none, data := .seq ([] : List Value).toArray }).objs.size = s2.heap.objs.size + 1 := Heap.size_push _ _
 generalize hHH : s2.heap.push { cls := .type "list", dict := none, data := .seq ([] : List Value).toArray } = HH at hns₁ hsb₁ hlay hnew hsz ⊢
 have I3 : Inv X pins σ (upd H2 s2.heap.objs.size (.lst [])) { s2 with heap := HH, toks := s2.toks } :=
  I2.laid (t' := s2.toks) (o := .lst []) hlay (Nat.le_refl _) ⟨Nat.zero_le _, [], 0, .nil, hnew⟩
 have ffp : ∀ b ∈ fp, FpOk X pins (upd H2 s2.heap.objs.size (.lst [])) b := fun b hb => by
  obtain ⟨f0, fr'⟩ := f2 b hb
  exact ⟨by rw [aqx (Nat.ne_of_lt (flt b hb))]; exact f0, fr'⟩
 have keep1 : ∀ b u, HH.get? b = some u → h₁.get? b = some u := fun b u e => hsb₁.extBut b u (Nat.ne_of_lt (Heap.lt_size e)) (Heap.get?_push_of_some _ e)
 exact gqH (Q := fun x H1 => gName i x σ H1 D.nx) (s3 := { s2 with heap := HH, toks := s2.toks }) hc hkind hx hnd hcl F hfx ht he I3 T (T.keep _ _ _ st2 fun b hb o e => hlay b o e) ffp (fun b hb => by show b < HH.objs.size; rw [hsz]; exact Nat.lt_succ_of_lt (flt b hb)) w0 turn hns₁ keep1 fun s6 H5 o I6 qn => by
  have nC : H5 HH.objs.size = none := I6.free
  have I7 : Inv X pins σ H5 s6 := gqn (h' := s6.heap) I3 I6 ffp ⟨rfl, fun _ _ => rfl⟩
  obtain ⟨f0, f1, f2, f3, f4, f5⟩ := I3.fpOk (H' := H5) (b := HH.objs.size) (Nat.le_refl _) nC
  obtain ⟨m, hn6, _⟩ := id I6.loc
  show wpAny _ X.A (assign (.Name y py) X.env (.ref _)) _ _ s6
  refine wpAny_assign_Name (hqV I7 hN hiN (.inl hy) (v := .ref _) rfl (fun s8 I8 sbx => ?_) (.inr hy))
  obtain ⟨a, sb, ha⟩ := sbx
  have hne : HH.objs.size ≠ a := by
   rcases ha with rfl | ha
   ·exact f1
   ·exact fun z => f4 y a ha z.symm
  refine ⟨m, hn6.sameBut sb hne, fun h' sb' => ?_⟩
  exact ⟨_, H5, I8.turned (t' := s8.toks) (it := HH.objs.size) (fun b o hb e => sb'.extBut b o hb e) f0 f1 f3 f4 f5, qn⟩
end
section
variable {p : Addr} {fv : St} {te : TE} {Q : VK} {H1 : Hp}
theorem mql {z : Str} (hz : z.length ≤ sizeLine) (hp : H1 p = none) (f : Nat → V)
  (he : ∀ c, c ∈ z.cps.toList → ∀ (H' : Hp) (R : VK), (∀ H'', Same H' H'' → R (f c) H'') → te (some (.str ⟨#[c]⟩) :: fv) H' R)
  (hQ : ∀ H', Same H1 H' → H' p = some (.lst (z.cps.toList.map f)) → Q (.ref p) H') : CompI (Its z) p fv tYes te Q H1 := by
 have hl : z.cps.toList.length = z.length := by simp [Str.length]
 refine ⟨fun i m ys H2 => m = z.length - i ∧ i ≤ z.length ∧ ys = (z.cps.toList.take i).map f ∧ H2 p = some (.lst ys) ∧ Same H1 H2, ⟨z.length, by simp, Nat.zero_le _, by simp, aqq, fun b o e => by rw [aqx (aqw e hp)]; exact e⟩, ?_⟩
 rintro i m ys H2 ⟨rfl, hi, rfl, hp2, sm⟩
 refine ⟨hp2, ?_⟩
 by_cases hlt : i < z.length
 ·refine .inr ⟨hlt, ?_, fun x H3 y => ?_⟩
  ·rw [List.length_map, List.length_take]; omega
  ·obtain ⟨rfl, c, hc, rfl⟩ := y
   unfold tYes
   dsimp only
   rw [if_pos rfl]
   refine he c (List.mem_of_getElem? hc) _ _ fun H5 s5 => ⟨s5 _ _ hp2, z.length - (i + 1), by omega, rfl, hlt, ?_, aqq, fun b o e => ?_⟩
   ·rw [List.take_add_one, hc, List.map_append]; rfl
   ·rw [aqx (aqw e hp)]; exact s5 _ _ (sm _ _ e)
 ·have e : i = z.length := by omega
  subst e
  refine .inl ⟨Nat.le_refl _, hQ H2 sm ?_⟩
  rw [hp2, ← hl, List.take_length]
theorem jqR {z : Str} {tt : TT} (hz : z.length ≤ sizeLine) (hp : H1 p = none) (g : Nat → Bool) (f : Nat → V)
  (ht : ∀ c, c ∈ z.cps.toList → ∀ (H' : Hp) (R : Bool → Hp → Prop), (∀ H'', Same H' H'' → R (g c) H'') → tt (some (.str ⟨#[c]⟩) :: fv) H' R)
  (he : ∀ c, c ∈ z.cps.toList → ∀ (H' : Hp) (R : VK), (∀ H'', Same H' H'' → R (f c) H'') → te (some (.str ⟨#[c]⟩) :: fv) H' R)
  (hQ : ∀ H', Same H1 H' → H' p = some (.lst ((z.cps.toList.filter g).map f)) → Q (.ref p) H') : CompI (Its z) p fv tt te Q H1 := by
 have hl : z.cps.toList.length = z.length := by simp [Str.length]
 refine ⟨fun i m ys H2 => m = z.length - i ∧ i ≤ z.length ∧ ys = ((z.cps.toList.take i).filter g).map f ∧ H2 p = some (.lst ys) ∧ Same H1 H2, ⟨z.length, by simp, Nat.zero_le _, by simp, aqq, fun b o e => by rw [aqx (aqw e hp)]; exact e⟩, ?_⟩
 rintro i m ys H2 ⟨rfl, hi, rfl, hp2, sm⟩
 refine ⟨hp2, ?_⟩
 by_cases hlt : i < z.length
 ·refine .inr ⟨hlt, ?_, fun x H3 y => ?_⟩
  ·rw [List.length_map]
   have := List.length_filter_le g (z.cps.toList.take i)
   rw [List.length_take] at this
   omega
  ·obtain ⟨rfl, c, hc, rfl⟩ := y
   have et : z.cps.toList.take (i + 1) = z.cps.toList.take i ++ [c] := by rw [List.take_add_one, hc]; rfl
   refine ht c (List.mem_of_getElem? hc) _ _ fun H4 s4 => ?_
   cases hg : g c with
   | false =>
    rw [if_neg Bool.false_ne_true]
    refine ⟨z.length - (i + 1), by omega, rfl, hlt, ?_, s4 _ _ hp2, sm.trans s4⟩
    rw [et, List.filter_append, List.filter_cons, hg]
    simp
   | true =>
    rw [if_pos rfl]
    refine he c (List.mem_of_getElem? hc) _ _ fun H5 s5 => ⟨s5 _ _ (s4 _ _ hp2), z.length - (i + 1), by omega, rfl, hlt, ?_, aqq, fun b o e => ?_⟩
    ·rw [et, List.filter_append, List.filter_cons, hg]
     simp
    ·rw [aqx (aqw e hp)]; exact s5 _ _ (s4 _ _ (sm _ _ e))
 ·have e : i = z.length := by omega
  subst e
  refine .inl ⟨Nat.le_refl _, hQ H2 sm ?_⟩
  rw [hp2, ← hl, List.take_length]
end
section
variable {σ : St} {H : Hp} {Q : VK} {K : PySem.W.Frag} {tl te : TE} {tt : TT} {fr : List Nat}
theorem nqN : frV σ [] = [] := rfl
theorem mqC {i : Nat} {r : List Nat} : frV σ (i :: r) = (σ[i]?).getD none :: frV σ r := rfl
theorem qqx {z : Str} {p : Addr} : rJoin K (.str z) [.ref p] H Q ↔ ∃ ys : List Str, SqL K H p (ys.map V.str) ∧ (ys.map (·.length)).sum + ys.length * z.length ≤ 16777216 ∧ Q (.str (Txt.join z ys)) H := by
 constructor
 ·rintro ⟨z', p', ys, h1, h2, h3⟩
  cases h1; cases h2
  exact ⟨ys, h3⟩
 ·rintro ⟨ys, h⟩
  exact ⟨z, p, ys, rfl, rfl, h⟩
theorem mqR : (tComp (iStr tl) fr tt te σ H Q) = (tl σ H fun x H1 => ∃ z, x = .str z ∧ ∀ p, H1 p = none → CompI (Its z) p (frV σ fr) tt te Q H1) := rfl
theorem mqA : (tComp (iList K tl) fr tt te σ H Q) = (tl σ H fun x H1 => ∃ a, x = .ref a ∧ (∃ xs, SqL K H1 a xs) ∧ ∀ p, H1 p = none → CompI (Itl K a) p (frV σ fr) tt te Q H1) := rfl
end
section
variable {X : Cx} {K : PySem.W.Frag}
theorem lqF (h : X.K = K) : OpR X (binaryOp .Add) (rAddU K) := by subst h; exact kq2
theorem aqe (h : X.K = K) : IxR X (rIx K) := by subst h; exact qqo
theorem hqL (h : X.K = K) : SlR X (rSl K) := by subst h; exact pqW
theorem aqk (h : X.K = K) : CallR X (.builtin "len") (rLenU K) := by subst h; exact kqY
theorem fqC {tg l : Expr} {tl : TE} (h : X.K = K) (hl : PE X l tl) : PI X tg l (iList K tl) := by subst h; exact nqx hl
variable {o e : Expr} {es : List Expr} {to : TE} {t : TA} {name : Str} {apos cpos : Pos} {T id : String} {r : V → List V → Hp → VK → Prop}
theorem cqt (h : X.K = K) (pa : PlainAttrs T) (slot : Slot T name id) (hty : typeOf (.builtin id) = pure (.type "method_descriptor")) (hm : MtR X id r) (ho : PE X o to) (ha : PA X (e :: es) t)
  (hbase : attributeBase o name X.env (eval o X.env) = eval o X.env := by rfl)
  (hfew : ((backTo cpos (starEach (e :: es) X.env)).all (fun x => !x.1) && (backToKw cpos (keywordEach [] X.env)).all (fun x => x.1.isSome)
   && decide ((e :: es).length + ([] : List Keyword).length + (if ([] : List Keyword).isEmpty then 0 else 1) < 30)) = true := by rfl)
  (hline : (apos.endLine == cpos.line) = true := by rfl) (hs : starEach (e :: es) X.env = (false, eval e X.env) :: starEach es X.env := by rfl) (hplain : (backTo cpos (starEach es X.env)).any (·.1) = false := by rfl) :
  PE X (.Call (.Attribute o name apos) (e :: es) [] cpos) (tBM K T r to t) := by
 subst h; exact qqQ pa slot hty hm ho ha hbase hfew hline hs hplain
end
structure FunD (K : PySem.W.Frag) (x qual : Str) (st : Stmt) (f : Addr) (fd : FuncData) (T : Addr) : Prop where
 ex : ∃ (oc : Value) (od : Option Addr) (kV doc pm : Value) (an : Option Addr) (cdv ct : Value) (osl : Array (Option Value)),
  fd = PySem.W.fnOf x qual (defArgs st) (defBody st) (defScope st) (.ref T) kV doc pm an cdv ct ∧ K.lookup f = some ⟨oc, od, .func fd, osl⟩ ∧ PySem.W.codeIn K cdv qual = true
 kp : PySem.W.keepIn K (.ref f) = true
section
variable {P : Program} {w : World} {K : PySem.W.Frag} {mg : Str → Option Value} {base : Heap}
end
section
variable {σ : St} {H : Hp} {Q : VK}
theorem qqG {r : V → Hp → VK → Prop} {ta : TE} : (tUn r ta σ H Q) = (ta σ H fun x H1 => r x H1 Q) := rfl
theorem rd_U {g : Int → V} {i : Int} : rU g (.int i) H Q ↔ Q (g i) H := ⟨fun ⟨_, h1, h2⟩ => by cases h1; exact h2, fun h => ⟨i, rfl, h⟩⟩
theorem qqg {l : Addr} {y : V} : rAppend (.ref l) [y] H Q ↔ ∃ xs, H l = some (.lst xs) ∧ xs.length < sizeLine ∧ Q .non (upd H l (.lst (xs ++ [y]))) := by
 constructor
 ·rintro ⟨l', xs, y', h1, h2, h3⟩
  cases h1; cases h2
  exact ⟨xs, h3⟩
 ·rintro ⟨xs, h⟩
  exact ⟨l, xs, y, rfl, rfl, h⟩
theorem nqA {K : PySem.W.Frag} {p : Addr} : tyV K "list" (.ref p) H ↔ ∃ xs, SqL K H p xs := by
 constructor
 ·rintro (⟨_, h⟩ | ⟨h, _⟩ | ⟨h, _⟩ | ⟨h, _⟩)
  ·exact h
  ·exact absurd h (by decide)
  ·exact absurd h (by decide)
  ·exact absurd h (by decide)
 ·intro h; exact .inl ⟨rfl, h⟩
end
mutual
inductive Is (H : Hp) : PyData → V → Prop
 | non : Is H .none .non
 | bl (b : Bool) : Is H (.bool b) (.bl b)
 | int (i : Int) : Is H (.int i) (.int i)
 | str (x : Str) : Is H (.str x) (.str x)
 | lst {p : Addr} {xs : List V} {ds : List PyData} : H p = some (.lst xs) → IsAll H ds xs → Is H (.list ds) (.ref p)
 | tup {p : Addr} {xs : List V} {ds : List PyData} : H p = some (.tup xs) → IsAll H ds xs → Is H (.tuple ds) (.ref p)
inductive IsAll (H : Hp) : List PyData → List V → Prop
 | nil : IsAll H [] []
 | cons {d : PyData} {x : V} {ds : List PyData} {xs : List V} : Is H d x → IsAll H ds xs → IsAll H (d :: ds) (x :: xs)
end
mutual
theorem Is.mono {H H' : Hp} (sm : Same H H') : ∀ {d : PyData} {x : V}, Is H d x → Is H' d x
 | _, _, .non => .non
 | _, _, .bl b => .bl b
 | _, _, .int i => .int i
 | _, _, .str x => .str x
 | _, _, .lst h r => .lst (sm _ _ h) (IsAll.mono sm r)
 | _, _, .tup h r => .tup (sm _ _ h) (IsAll.mono sm r)
theorem IsAll.mono {H H' : Hp} (sm : Same H H') : ∀ {ds : List PyData} {xs : List V}, IsAll H ds xs → IsAll H' ds xs
 | _, _, .nil => .nil
 | _, _, .cons h r => .cons (Is.mono sm h) (IsAll.mono sm r)
end
section
variable {X : Cx} {pins : List (Addr × Obj)} {σ : St} {H : Hp} {s : Shared}
mutual
theorem Is.reads (I : Inv X pins σ H s) : ∀ {d : PyData} {x : V} {v : Value}, Is H d x → RelV x v → ∃ as, Reads s.heap v d as
 | _, _, _, .non, r => by cases r; exact ⟨_, .none⟩
 | _, _, _, .bl b, r => by cases r; exact ⟨_, .bool b⟩
 | _, _, _, .int i, r => by obtain ⟨t, rfl⟩ := r; exact ⟨_, .int i t⟩
 | _, _, _, .str x, r => by obtain ⟨t, rfl⟩ := r; exact ⟨_, .str x t⟩
 | _, _, _, .lst h q, r => by
  cases r
  obtain ⟨its, vs, ⟨o, n, e, c, _, dt⟩, _⟩ := I.list (SqL.of h)
  obtain ⟨as, ra⟩ := IsAll.reads I q vs
  exact ⟨_, .list e c dt (by simpa using ra)⟩
 | _, _, _, .tup h q, r => by
  cases r
  obtain ⟨its, vs, ⟨o, e, c, n, dt⟩, _⟩ := I.tuple (SqT.of h)
  obtain ⟨as, ra⟩ := IsAll.reads I q vs
  exact ⟨_, .tuple e c dt (by simpa using ra)⟩
theorem IsAll.reads (I : Inv X pins σ H s) : ∀ {ds : List PyData} {xs : List V} {vs : List Value}, IsAll H ds xs → Vals xs vs → ∃ as, ReadsAll s.heap vs ds as
 | _, _, _, .nil, r => by cases r; exact ⟨_, .nil⟩
 | _, _, _, .cons q t, r => by
  cases r with
  | cons r1 r2 =>
   obtain ⟨as, h1⟩ := Is.reads I q r1
   obtain ⟨bs, h2⟩ := IsAll.reads I t r2
   exact ⟨_, .cons h1 h2⟩
end
def rEqD : R2 := fun x y H Q => ∃ d e, Is H d x ∧ Is H e y ∧ SeqAt.shaped d = true ∧ SeqAt.shaped e = true ∧ Q (.bl (PyData.eqv d e)) H
def rNeD : R2 := fun x y H Q => ∃ d e, Is H d x ∧ Is H e y ∧ SeqAt.shaped d = true ∧ SeqAt.shaped e = true ∧ Q (.bl (!PyData.eqv d e)) H
theorem lqt (hu : X.A.units + 64 < cLine) : OpR X (compareOp .Eq) rEqD := by
 intro pins s σ H x y v u Q I rx ry h
 obtain ⟨d, e, hx, hy, sx, sy, q⟩ := h
 obtain ⟨as, ra⟩ := hx.reads I rx
 obtain ⟨bs, rb⟩ := hy.reads I ry
 exact eq_dataH ra rb sx sy hu ⟨.bl _, H, I, rfl, q⟩
theorem fqe (hu : X.A.units + 64 < cLine) : OpR X (compareOp .NotEq) rNeD := by
 intro pins s σ H x y v u Q I rx ry h
 obtain ⟨d, e, hx, hy, sx, sy, q⟩ := h
 obtain ⟨as, ra⟩ := hx.reads I rx
 obtain ⟨bs, rb⟩ := hy.reads I ry
 exact ne_dataH ra rb sx sy hu ⟨.bl _, H, I, rfl, q⟩
end
mutual
inductive IsT (H : Hp) : PyData → V → Prop
 | non : IsT H .none .non
 | bl (b : Bool) : IsT H (.bool b) (.bl b)
 | int (i : Int) : IsT H (.int i) (.int i)
 | str (x : Str) : IsT H (.str x) (.str x)
 | tup {p : Addr} {xs : List V} {ds : List PyData} : H p = some (.tup xs) → IsTAll H ds xs → IsT H (.tuple ds) (.ref p)
inductive IsTAll (H : Hp) : List PyData → List V → Prop
 | nil : IsTAll H [] []
 | cons {d : PyData} {x : V} {ds : List PyData} {xs : List V} : IsT H d x → IsTAll H ds xs → IsTAll H (d :: ds) (x :: xs)
end
def SameT (H H' : Hp) : Prop := ∀ b xs, H b = some (.tup xs) → H' b = some (.tup xs)
theorem Same.toT {H H' : Hp} (h : Same H H') : SameT H H' := fun b xs e => h b _ e
mutual
theorem IsT.mono {H H' : Hp} (sm : SameT H H') : ∀ {d : PyData} {x : V}, IsT H d x → IsT H' d x
 | _, _, .non => .non
 | _, _, .bl b => .bl b
 | _, _, .int i => .int i
 | _, _, .str x => .str x
 | _, _, .tup h r => .tup (sm _ _ h) (IsTAll.mono sm r)
theorem IsTAll.mono {H H' : Hp} (sm : SameT H H') : ∀ {ds : List PyData} {xs : List V}, IsTAll H ds xs → IsTAll H' ds xs
 | _, _, .nil => .nil
 | _, _, .cons h r => .cons (IsT.mono sm h) (IsTAll.mono sm r)
end
mutual
theorem IsT.is {H : Hp} : ∀ {d : PyData} {x : V}, IsT H d x → Is H d x
 | _, _, .non => .non
 | _, _, .bl b => .bl b
 | _, _, .int i => .int i
 | _, _, .str x => .str x
 | _, _, .tup h r => .tup h (IsTAll.is r)
theorem IsTAll.is {H : Hp} : ∀ {ds : List PyData} {xs : List V}, IsTAll H ds xs → IsAll H ds xs
 | _, _, .nil => .nil
 | _, _, .cons h r => .cons (IsT.is h) (IsTAll.is r)
end
section
variable {p : Addr} {fv : St} {te : TE} {Q : VK} {H1 : Hp}
inductive All2 (R : V → V → Hp → Prop) (H : Hp) : List V → List V → Prop
 | nil : All2 R H [] []
 | cons {x y : V} {xs ys : List V} : R x y H → All2 R H xs ys → All2 R H (x :: xs) (y :: ys)
end
section
variable {X : Cx}
def rAllB (K : PySem.W.Frag) : List V → Hp → VK → Prop := fun vs H Q => ∃ (p : Addr) (bs : List Bool), vs = [.ref p] ∧ SqL K H p (bs.map V.bl) ∧ Q (.bl (bs.all id)) H
def rAnyB (K : PySem.W.Frag) : List V → Hp → VK → Prop := fun vs H Q => ∃ (p : Addr) (bs : List Bool), vs = [.ref p] ∧ SqL K H p (bs.map V.bl) ∧ Q (.bl (bs.any id)) H
theorem lq8 {bs : List Bool} : ∀ {us : List Value}, Vals (bs.map V.bl) us → ∀ (i : Nat) (v : Value), us[i]? = some v → ∃ b, bs[i]? = some b ∧ v = .bool b := by
 induction bs with
 | nil => intro us r i v h; rw [List.map_nil] at r; cases r; simp at h
 | cons b bs ih =>
  intro us r i v h
  rw [List.map_cons] at r
  cases r with
  | cons r1 r2 =>
   cases i with
   | zero => simp at h; subst h; exact ⟨b, rfl, r1⟩
   | succ i =>
    obtain ⟨c, h1, h2⟩ := ih r2 i v (by simpa using h)
    exact ⟨c, by simpa using h1, h2⟩
theorem kq3 (hc : X.calm = true) : CallR X (.builtin "all") (rAllB X.K) := by
 intro pins s σ H xs us Q I r h
 obtain ⟨p, bs, rfl, hq, q⟩ := h
 obtain ⟨u, rfl, ru⟩ := vals1 r
 cases ru
 obtain ⟨its, vs, pl, hl⟩ := I.list hq
 have hI := pl.isList
 have hlt : p < s.heap.objs.size := by obtain ⟨_, e, _⟩ := hI; exact Heap.lt_size e
 refine call_all_walk (wpAny_pyIter_list hI ?_)
 refine ⟨s.heap.objs.size, [s.heap.objs.size, p], [s.heap.objs.size], its.toArray.size, _, _, fun i => (bs[i]?).getD true, rfl, Walks.list (A := X.A.in1) (I.ok.hd hc) _ p (Nat.ne_of_lt hlt) its.toArray,
  ⟨⟨_, Heap.get?_push_size _ rfl, rfl, rfl⟩, hI.push _⟩, fun i v s' Q' E' hP hQ => ?_, fun h' tk hk => ?_⟩
 ·obtain ⟨b, e, rfl⟩ := lq8 vs i v (by simpa using hP)
  simp only [e, Option.getD_some] at hQ
  exact wpAny_truthy_bool hQ
 ·have hbl := vs.length
  rw [List.length_map] at hbl
  have e : ((List.range its.toArray.size).all fun i => (bs[i]?).getD true) = bs.all id := by
   rw [List.size_toArray, ← hbl]; exact PyProof.Rows.LSm.range_all bs
  exact ⟨.bl _, H, I.kept (t' := tk) (PyProof.Rows.LSm.kept_iter hk), rfl, by rw [e]; exact q⟩
variable {K : PySem.W.Frag}
theorem iqA (h : X.K = K) (hc : X.calm = true) : CallR X (.builtin "all") (rAllB K) := by subst h; exact kq3 hc
def rListU (K : PySem.W.Frag) : List V → Hp → VK → Prop := fun xs H Q => ∃ p ys, xs = [.ref p] ∧ (SqL K H p ys ∨ SqT K H p ys) ∧ ∀ l, H l = none → Q (.ref l) (upd H l (.lst ys))
def rTupleU (K : PySem.W.Frag) : List V → Hp → VK → Prop := fun xs H Q => ∃ p ys, xs = [.ref p] ∧ ((SqL K H p ys ∧ ∀ l, H l = none → Q (.ref l) (upd H l (.tup ys))) ∨ (SqT K H p ys ∧ Q (.ref p) H))
theorem nqV {tg l : Expr} {tl : TE} (h : X.K = K) (hl : PE X l tl) : PI X tg l (iTup K tl) := by subst h; exact qqi hl
end
section
variable {H : Hp} {Q : VK} {K : PySem.W.Frag}
theorem oqo {x : V} {T : String} : (rIsiU [x, .ty T] H Q) = (∃ k, kindV x H = some k ∧ T ∈ ["bool", "int", "str", "list", "tuple"] ∧ Q (.bl (subT k T)) H) := rfl
theorem lqZ : kindV .non H = some "NoneType" := rfl
theorem oqD {b : Bool} : kindV (.bl b) H = some "bool" := rfl
theorem mqv {i : Int} : kindV (.int i) H = some "int" := rfl
theorem mqb {x : Str} : kindV (.str x) H = some "str" := rfl
theorem lqj : ("bool" ∈ ["bool", "int", "str", "list", "tuple"]) = True := by simp
theorem mqD : ("int" ∈ ["bool", "int", "str", "list", "tuple"]) = True := by simp
theorem mqZ : ("str" ∈ ["bool", "int", "str", "list", "tuple"]) = True := by simp
theorem lqP : ("list" ∈ ["bool", "int", "str", "list", "tuple"]) = True := by simp
theorem jqM : ("tuple" ∈ ["bool", "int", "str", "list", "tuple"]) = True := by simp
theorem eq5 : subT "NoneType" "bool" = false := by decide
theorem fqv : subT "NoneType" "int" = false := by decide
theorem fqu : subT "NoneType" "str" = false := by decide
theorem eq2 : subT "NoneType" "list" = false := by decide
theorem eqG : subT "NoneType" "tuple" = false := by decide
theorem gq7 : subT "bool" "bool" = true := by decide
theorem iqb : subT "bool" "int" = true := by decide
theorem iqh : subT "bool" "str" = false := by decide
theorem hqj : subT "bool" "list" = false := by decide
theorem gqu : subT "bool" "tuple" = false := by decide
theorem hqP : subT "int" "bool" = false := by decide
theorem iqM : subT "int" "int" = true := by decide
theorem iqN : subT "int" "str" = false := by decide
theorem iqk : subT "int" "list" = false := by decide
theorem hqm : subT "int" "tuple" = false := by decide
theorem hq9 : subT "str" "bool" = false := by decide
theorem iqX : subT "str" "int" = false := by decide
theorem iq1 : subT "str" "str" = true := by decide
theorem iqm : subT "str" "list" = false := by decide
theorem hqb : subT "str" "tuple" = false := by decide
theorem hqo : subT "list" "bool" = false := by decide
theorem hq3 : subT "list" "int" = false := by decide
theorem iqD : subT "list" "str" = false := by decide
theorem sub_list_list : subT "list" "list" = true := by decide
theorem gqA : subT "list" "tuple" = false := by decide
theorem gqt : subT "tuple" "bool" = false := by decide
theorem hql : subT "tuple" "int" = false := by decide
theorem hqt : subT "tuple" "str" = false := by decide
theorem gqw : subT "tuple" "list" = false := by decide
theorem sub_tuple_tuple : subT "tuple" "tuple" = true := by decide
theorem nqG {n : Nat} {t : TGs} {v : V} {σ : St} {R : St → Hp → Prop} : (gTup K n t v σ H R) = (∃ a xs, v = .ref a ∧ SqT K H a xs ∧ xs.length = n ∧ t xs σ H R) := rfl
theorem mqs {t : TG} {u : TGs} {vs : List V} {σ : St} {R : St → Hp → Prop} : (gCons t u vs σ H R) = (∃ v r, vs = v :: r ∧ t v σ H fun σ' H' => u r σ' H' R) := rfl
theorem oqf {vs : List V} {σ : St} {R : St → Hp → Prop} : (gNil vs σ H R) = (vs = [] ∧ R σ H) := rfl
theorem oqM {to ti : TE} {t : TSet} {v : V} {σ : St} {R : St → Hp → Prop} : (gSub to ti t v σ H R) = (to σ H fun o H1 => ti σ H1 fun i H2 => t o i v H2 fun H3 => R σ H3) := rfl
theorem nqI {p : Addr} {k : Int} {v : V} {R : Hp → Prop} : rSetL (.ref p) (.int k) v H R ↔ ∃ xs j, H p = some (.lst xs) ∧ ixN xs.length k = some j ∧ R (upd H p (.lst (xs.set j v))) := by
 constructor
 ·rintro ⟨p', xs, k', j, h1, h2, h3⟩; cases h1; cases h2; exact ⟨xs, j, h3⟩
 ·rintro ⟨xs, j, h⟩; exact ⟨p, xs, k, j, rfl, rfl, h⟩
end
section
variable {X : Cx} {K : PySem.W.Frag}
theorem dqm {es : List Expr} {k : Nat} {t : TGs} {n : Nat} {pos : Pos} (h : X.K = K) (hc : X.calm = true) (hg : PGs X es t)
  (hn : (assignEach es X.env).length = n := by rfl) (hst : (assignEach es X.env).findIdx? (·.1) = none := by rfl) : PG X (.Tuple es k pos) (gTup K n t) := by
 subst h; exact nqw hc hg hn hst
end
def SameBut (p : Addr) (H H' : Hp) : Prop := ∀ b o, b ≠ p → H b = some o → H' b = some o
theorem SameBut.trans {p : Addr} {H H' H'' : Hp} (h : SameBut p H H') (h' : SameBut p H' H'') : SameBut p H H'' := fun b o n e => h' b o n (h b o n e)
theorem Same.but {p : Addr} {H H' : Hp} (h : Same H H') : SameBut p H H' := fun b o _ e => h b o e
theorem fqI {p : Addr} {H : Hp} {o : HO} : SameBut p H (upd H p o) := fun b u n e => by rw [aqx n]; exact e
theorem SameBut.same {p : Addr} {H H' : Hp} (h : SameBut p H H') (hp : H p = none) : Same H H' := fun b o e => h b o (aqw e hp) e
section
variable {p : Addr} {fv : St} {te : TE} {Q : VK} {H1 : Hp} {K : PySem.W.Frag}
theorem Same.tup {H H' : Hp} {a : Addr} {xs : List V} (e : Same H H') (h : SqT K H a xs) : SqT K H' a xs := by
 rcases h with (h | ⟨o, h⟩) | h
 ·exact .inl (.inl (e _ _ h))
 ·exact .inl (.inr ⟨o, e _ _ h⟩)
 ·exact .inr h
variable {σ : St} {H : Hp} {tl : TE} {tt : TT} {fr : List Nat} {g : TG} {tb : TS} {D : Ends}
theorem mqm : (tComp (iTup K tl) fr tt te σ H Q) = (tl σ H fun x H1 => ∃ a, x = .ref a ∧ (∃ xs, SqT K H1 a xs) ∧ ∀ p, H1 p = none → CompI (Itt K a) p (frV σ fr) tt te Q H1) := rfl
theorem nqO : (tFor (iTup K te) g tb D σ H) = (te σ H fun x H1 => ∃ a, x = .ref a ∧ (∃ xs, SqT K H1 a xs) ∧ LoopI (Itt K a) g tb D σ H1) := rfl
theorem mqp {a : Addr} {xs : List V} (Pv : Nat → St → Hp → Prop) (h0 : Pv 0 σ H) (hl : ∀ i σ H, i ≤ xs.length → Pv i σ H → SqT K H a xs)
  (hs : ∀ i x σ H, xs[i]? = some x → Pv i σ H → g x σ H fun σ2 H2 => tb { D with nx := Pv (i + 1), ct := Pv (i + 1), bk := D.nx } σ2 H2) (hd : ∀ σ H, Pv xs.length σ H → D.nx σ H) : LoopI (Itt K a) g tb D σ H := nqM Pv h0 hl hs hd
theorem kqu {a : Addr} : rAllB K [.ref a] H Q ↔ ∃ bs : List Bool, SqL K H a (bs.map V.bl) ∧ Q (.bl (bs.all id)) H := by
 constructor
 ·rintro ⟨p, bs, h1, h2⟩; cases h1; exact ⟨bs, h2⟩
 ·rintro ⟨bs, h⟩; exact ⟨a, bs, rfl, h⟩
theorem oq6 {a : Addr} : rAnyB K [.ref a] H Q ↔ ∃ bs : List Bool, SqL K H a (bs.map V.bl) ∧ Q (.bl (bs.any id)) H := by
 constructor
 ·rintro ⟨p, bs, h1, h2⟩; cases h1; exact ⟨bs, h2⟩
 ·rintro ⟨bs, h⟩; exact ⟨a, bs, rfl, h⟩
theorem pq2 {a : Addr} : rListU K [.ref a] H Q ↔ ∃ ys, (SqL K H a ys ∨ SqT K H a ys) ∧ ∀ l, H l = none → Q (.ref l) (upd H l (.lst ys)) := by
 constructor
 ·rintro ⟨p, bs, h1, h2⟩; cases h1; exact ⟨bs, h2⟩
 ·rintro ⟨bs, h⟩; exact ⟨a, bs, rfl, h⟩
theorem qqk {a : Addr} : rTupleU K [.ref a] H Q ↔ ∃ ys, (SqL K H a ys ∧ ∀ l, H l = none → Q (.ref l) (upd H l (.tup ys))) ∨ (SqT K H a ys ∧ Q (.ref a) H) := by
 constructor
 ·rintro ⟨p, bs, h1, h2⟩; cases h1; exact ⟨bs, h2⟩
 ·rintro ⟨bs, h⟩; exact ⟨a, bs, rfl, h⟩
theorem nqF {a : Addr} {lo hi : Option Int} : rSlT K (.ref a) lo hi H Q ↔ ∃ xs, SqT K H a xs ∧ ¬ (HT.sIx xs.length 0 lo = 0 ∧ HT.sIx xs.length xs.length hi = xs.length) ∧ ∀ p, H p = none → Q (.ref p) (upd H p (.tup (cutV xs lo hi))) := by
 constructor
 ·rintro ⟨p, bs, h1, h2⟩; cases h1; exact ⟨bs, h2⟩
 ·rintro ⟨bs, h⟩; exact ⟨a, bs, rfl, h⟩
end
def tCut (t u : TS) : TS := fun D σ H => ∃ P : St → Hp → Prop, t { D with nx := P } σ H ∧ ∀ σ' H', P σ' H' → u D σ' H'
section
variable {X : Cx} {st : Stmt} {rest : List Stmt} {t u : TS}
theorem aqQ (h1 : PS X st t) (h2 : PSs X rest u) : PSs X (st :: rest) (tCut t u) := by
 intro pins s σ H D I h
 obtain ⟨P, h, hu⟩ := h
 refine wpAny_execs_cons (thn (h1 pins s σ H { D with nx := P } I h) fun f s1 q => ?_)
 cases f with
 | next =>
  obtain ⟨σ', H', I', q⟩ := q
  exact h2 pins s1 σ' H' D I' (hu _ _ q)
 | ret v => exact q
 | brk => exact q
 | cont => exact q
def Later (u : TS) (D : Ends) (σ : St) (H : Hp) : Prop := u D σ H
theorem mqc {D : Ends} {x : Option V} {σ : St} {H : Hp} : (Later u D (x :: σ) H) = (u D (x :: σ) H) := rfl
theorem qql {D : Ends} {σ : St} {H : Hp} : (tCut t u D σ H) = (∃ P : St → Hp → Prop, t { D with nx := P } σ H ∧ ∀ σ' H', P σ' H' → Later u D σ' H') := rfl
end
theorem aq5 {H : Hp} {p : Addr} {o : HO} (hp : H p = none) : Same H (upd H p o) := fun b u e => by rw [aqx (aqw e hp)]; exact e
def tTupS (t : TA) : TE := fun σ H Q => t σ H fun xs H1 => xs.length ≤ sizeLine ∧ ∀ p H', H1 p = none → Same H1 H' → H' p = some (.tup xs) → Q (.ref p) H'
def tLstS (t : TA) : TE := fun σ H Q => t σ H fun xs H1 => xs.length ≤ sizeLine ∧ ∀ p H', H1 p = none → Same H1 H' → H' p = some (.lst xs) → Q (.ref p) H'
section
variable {X : Cx} {es : List Expr} {t : TA} {pos : Pos} {K : PySem.W.Frag}
theorem aqM {x1} (h : PA X es t) : PE X (.Tuple es x1 pos) (tTupS t) := by
 intro pins s σ H Q I hq
 refine wpAny_Tuple_spliced (thn (h pos pins s σ H _ I hq) fun us s1 ⟨xs, H1, I1, r, z, q⟩ => ⟨by rw [← r.length]; exact z, ?_⟩)
 have hf : H1 s1.heap.objs.size = none := I1.hok.fresh (Nat.le_refl _)
 refine ⟨.ref s1.heap.objs.size, upd H1 s1.heap.objs.size (.tup xs), I1.laid (t' := s1.toks) (fun b u e => Heap.get?_push_of_some _ e) (Nat.le_refl _) ?_, rfl, q _ _ hf (aq5 hf) aqq⟩
 exact ⟨z, us, r, ⟨_, Heap.get?_push_size _ rfl, rfl, _, rfl⟩⟩
theorem aqD (h : PA X es t) : PE X (.List es pos) (tLstS t) := by
 intro pins s σ H Q I hq
 refine wpAny_List_spliced (thn (h pos pins s σ H _ I hq) fun us s1 ⟨xs, H1, I1, r, z, q⟩ => ⟨by rw [← r.length]; exact z, ?_⟩)
 have hf : H1 s1.heap.objs.size = none := I1.hok.fresh (Nat.le_refl _)
 refine ⟨.ref s1.heap.objs.size, upd H1 s1.heap.objs.size (.lst xs), I1.laid (t' := s1.toks) (fun b u e => Heap.get?_push_of_some _ e) (Nat.le_refl _) ?_, rfl, q _ _ hf (aq5 hf) aqq⟩
 exact ⟨z, us, 0, r, Heap.get?_push_size _ rfl⟩
def rAddS (K : PySem.W.Frag) : R2 := fun x y H Q => match x, y with
 | .int i, .int j => Q (.int (i + j)) H
 | .str i, .str j => i.length + j.length ≤ sizeLine ∧ Q (.str (i ++ j)) H
 | .ref a, .ref b => (∃ xs zs, H a = some (.lst xs) ∧ H b = some (.lst zs) ∧ xs.length + zs.length ≤ sizeLine ∧ ∀ p H', H p = none → Same H H' → H' p = some (.lst (xs ++ zs)) → Q (.ref p) H') ∨
   (∃ xs ys, H a = some (.tup xs) ∧ H b = some (.tup ys) ∧ xs.length + ys.length ≤ sizeLine ∧ ∀ p H', Same H H' → H' p = some (.tup (xs ++ ys)) → Q (.ref p) H')
 | _, _ => False
theorem aqA : OpR X (binaryOp .Add) (rAddS K) := by
 intro pins s σ H x y v u Q I rx ry h
 refine kq2 pins s σ H x y v u Q I rx ry ?_
 cases x with
 | int i =>
  cases y with
  | int j => exact h
  | _ => exact h.elim
 | str i =>
  cases y with
  | str j => exact h
  | _ => exact h.elim
 | ref a =>
  cases y with
  | ref b =>
   rcases h with ⟨xs, zs, h1, h2, h3, h4⟩ | h
   ·exact .inl ⟨xs, zs, h1, h2, h3, fun p hp => h4 p _ hp (aq5 hp) aqq⟩
   ·exact .inr h
  | _ => exact h.elim
 | _ => exact h.elim
def rListS (K : PySem.W.Frag) : List V → Hp → VK → Prop := fun xs H Q => ∃ p ys, xs = [.ref p] ∧ (SqL K H p ys ∨ SqT K H p ys) ∧ ∀ l H', H l = none → Same H H' → H' l = some (.lst ys) → Q (.ref l) H'
def rTupleS (K : PySem.W.Frag) : List V → Hp → VK → Prop := fun xs H Q => ∃ p ys, xs = [.ref p] ∧ (SqL K H p ys ∨ H p = some (.tup ys)) ∧ ∀ l H', Same H H' → H' l = some (.tup ys) → Q (.ref l) H'
theorem gqU (h : X.K = K) : CallR X (.type "list") (rListS K) := by
 subst h
 intro pins s σ H xs us Q I r h
 obtain ⟨p, ys, h1, h2, h3⟩ := h
 exact iqi pins s σ H xs us Q I r ⟨p, ys, h1, h2, fun l hl => h3 l _ hl (aq5 hl) aqq⟩
theorem gqi (h : X.K = K) : CallR X (.type "tuple") (rTupleS K) := by
 subst h
 intro pins s σ H xs us Q I r h
 obtain ⟨p, ys, h1, h2, h3⟩ := h
 rcases h2 with h2 | h2
 ·exact equ pins s σ H xs us Q I r ⟨p, ys, h1, .inl ⟨h2, fun l hl => h3 l _ (aq5 hl) aqq⟩⟩
 ·exact equ pins s σ H xs us Q I r ⟨p, ys, h1, .inr ⟨SqT.of h2, h3 p H (Same.refl _) h2⟩⟩
def rSlS2 (K : PySem.W.Frag) : V → Option Int → Option Int → Hp → VK → Prop := fun x lo hi H Q => ∃ a xs, x = .ref a ∧ SqT K H a xs ∧
 ¬ (HT.sIx xs.length 0 lo = 0 ∧ HT.sIx xs.length xs.length hi = xs.length) ∧ ∀ p H', H p = none → Same H H' → H' p = some (.tup (cutV xs lo hi)) → Q (.ref p) H'
end
section
variable {σ : St} {H : Hp} {Q : VK} {K : PySem.W.Frag} {aa : TA}
theorem oqV : (tTupS aa σ H Q) = (aa σ H fun xs H1 => xs.length ≤ sizeLine ∧ ∀ p H', H1 p = none → Same H1 H' → H' p = some (.tup xs) → Q (.ref p) H') := rfl
theorem nq9 : (tLstS aa σ H Q) = (aa σ H fun xs H1 => xs.length ≤ sizeLine ∧ ∀ p H', H1 p = none → Same H1 H' → H' p = some (.lst xs) → Q (.ref p) H') := rfl
theorem oqC {i j : Int} : (rAddS K (.int i) (.int j) H Q) = (Q (.int (i + j)) H) := rfl
theorem hqv {i j : Str} : (rAddS K (.str i) (.str j) H Q) = (i.length + j.length ≤ sizeLine ∧ Q (.str (i ++ j)) H) := rfl
theorem oq1 {a : Addr} : rListS K [.ref a] H Q ↔ ∃ ys, (SqL K H a ys ∨ SqT K H a ys) ∧ ∀ l H', H l = none → Same H H' → H' l = some (.lst ys) → Q (.ref l) H' := by
 constructor
 ·rintro ⟨p, bs, h1, h2⟩; cases h1; exact ⟨bs, h2⟩
 ·rintro ⟨bs, h⟩; exact ⟨a, bs, rfl, h⟩
theorem oqw {a : Addr} : rTupleS K [.ref a] H Q ↔ ∃ ys, (SqL K H a ys ∨ H a = some (.tup ys)) ∧ ∀ l H', Same H H' → H' l = some (.tup ys) → Q (.ref l) H' := by
 constructor
 ·rintro ⟨p, bs, h1, h2⟩; cases h1; exact ⟨bs, h2⟩
 ·rintro ⟨bs, h⟩; exact ⟨a, bs, rfl, h⟩
theorem oqB {a : Addr} {lo hi : Option Int} : rSlS2 K (.ref a) lo hi H Q ↔ ∃ xs, SqT K H a xs ∧ ¬ (HT.sIx xs.length 0 lo = 0 ∧ HT.sIx xs.length xs.length hi = xs.length) ∧ ∀ p H', H p = none → Same H H' → H' p = some (.tup (cutV xs lo hi)) → Q (.ref p) H' := by
 constructor
 ·rintro ⟨p, bs, h1, h2⟩; cases h1; exact ⟨bs, h2⟩
 ·rintro ⟨bs, h⟩; exact ⟨a, bs, rfl, h⟩
end
def rSlLS (K : PySem.W.Frag) : V → Option Int → Option Int → Hp → VK → Prop := fun x lo hi H Q => ∃ a xs, x = .ref a ∧ SqL K H a xs ∧ ∀ p H', H p = none → Same H H' → H' p = some (.lst (cutV xs lo hi)) → Q (.ref p) H'
theorem fqz {X : Cx} {K : PySem.W.Frag} (h : X.K = K) : SlR X (rSlLS K) := by
 subst h
 intro pins s σ H x v vl vu lo hi sl Q I rx hs pl pu h
 obtain ⟨a, xs, h1, h2, h3⟩ := h
 exact kqv pins s σ H x v vl vu lo hi sl Q I rx hs pl pu ⟨a, xs, h1, h2, fun p hp => h3 p _ hp (aq5 hp) aqq⟩
theorem mqy {K : PySem.W.Frag} {H : Hp} {Q : VK} {a : Addr} {lo hi : Option Int} : rSlLS K (.ref a) lo hi H Q ↔ ∃ xs, SqL K H a xs ∧ ∀ p H', H p = none → Same H H' → H' p = some (.lst (cutV xs lo hi)) → Q (.ref p) H' := by
 constructor
 ·rintro ⟨p, bs, h1, h2⟩; cases h1; exact ⟨bs, h2⟩
 ·rintro ⟨bs, h⟩; exact ⟨a, bs, rfl, h⟩
def rIsB (neg : Bool) : R2 := fun x y H Q => match x, y with
 | .bl b, .bl c => Q (.bl (if neg then !decide (b = c) else decide (b = c))) H
 | _, _ => False
theorem qqL {b c : Bool} {H : Hp} {Q : VK} : (rIsB false (.bl b) (.bl c) H Q) = (Q (.bl (decide (b = c))) H) := rfl
end L2
namespace Wm
open PySem L2
def isSg (c : Nat) : Bool := decide (32 ≤ c) && decide (c ≤ 126) && !decide (c = 37)
def SG : List Nat := (List.range 127).filter isSg
def hexd (n : Nat) : Nat := if n < 10 then 48 + n else 87 + n
def fig (a : Nat) : Option Nat := if 48 ≤ a ∧ a ≤ 57 then some (a - 48) else if 97 ≤ a ∧ a ≤ 102 then some (a - 87) else if 65 ≤ a ∧ a ≤ 70 then some (a - 55) else none
abbrev one (c : Nat) : V := .str ⟨#[c]⟩
theorem pqs {c : Nat} : c ∈ SG ↔ isSg c = true := by
 unfold SG
 rw [List.mem_filter, List.mem_range]
 constructor
 ·exact fun h => h.2
 ·intro h
  refine ⟨?_, h⟩
  simp only [isSg, Bool.and_eq_true, decide_eq_true_eq] at h
  omega
theorem nqy {c : Nat} (h : isSg c = true) : 32 ≤ c ∧ c ≤ 126 ∧ c ≠ 37 := by
 simp only [isSg, Bool.and_eq_true, decide_eq_true_eq, Bool.not_eq_true', decide_eq_false_iff_not] at h
 omega
theorem nqg : SG.length = 94 := by decide +kernel
theorem hq7 (l : List Nat) (a : Nat) : ∀ k, ((List.range k).map fun j => a + j).filterMap (fun i => l[i]?) = (l.drop a).take k
 | 0 => by simp
 | k + 1 => by
  rw [List.range_succ, List.map_append, List.filterMap_append, hq7 l a k, List.take_add_one, List.getElem?_drop]
  simp only [List.map_cons, List.map_nil]
  cases e : l[a + k]? with
  | none => simp [e]
  | some c => simp [e]
def clipI (n : Nat) (v : Int) : Nat := (max 0 (min (if v < 0 then v + n else v) n)).toNat
theorem lq2 (a b : Nat) : sliceRange (a : Int) (b : Int) 1 = (List.range (b - a)).map fun j => a + j := by
 unfold sliceRange
 have h1 : (1 : Int) > 0 := by decide
 simp only [h1, if_true, Int.one_mul, Int.ediv_one]
 have e : (if (a : Int) < (b : Int) then (b : Int) - (a : Int) + 1 - 1 else 0).toNat = b - a := by split <;> omega
 rw [e]
 apply List.map_congr_left
 intro j _
 omega
theorem iqY (lo hi : Option Int) (n : Nat) : Builtin.Str.strSliceIndices lo hi 1 n = (List.range ((hi.elim n (clipI n)) - (lo.elim 0 (clipI n)))).map fun j => (lo.elim 0 (clipI n)) + j := by
 unfold Builtin.Str.strSliceIndices
 have h1 : (1 : Int) > 0 := by decide
 simp only [h1, if_true]
 rw [← lq2]
 congr 1
 ·cases lo with
  | none => rfl
  | some v => simp only [Option.elim_some, clipI]; omega
 ·cases hi with
  | none => rfl
  | some v => simp only [Option.elim_some, clipI]; omega
theorem fqW (l : List Nat) (lo hi : Option Int) : Txt.slice (⟨l.toArray⟩ : Str) lo hi = ⟨((l.drop (lo.elim 0 (clipI l.length))).take ((hi.elim l.length (clipI l.length)) - (lo.elim 0 (clipI l.length)))).toArray⟩ := by
 have hl : (⟨l.toArray⟩ : Str).length = l.length := by simp [Str.length]
 have hb : hi.elim l.length (clipI l.length) ≤ l.length := by
  cases hi with
  | none => exact Nat.le_refl _
  | some v => simp only [Option.elim_some, clipI]; omega
 have hb' : lo.elim 0 (clipI l.length) ≤ l.length := by
  cases lo with
  | none => exact Nat.zero_le _
  | some v => simp only [Option.elim_some, clipI]; omega
 have ef : (fun i : Nat => (⟨l.toArray⟩ : Str).cps[i]?) = fun i => l[i]? := by funext i; simp
 unfold Txt.slice
 rw [hl, iqY, ef]
 split
 ·rename_i h
  simp only [List.length_map, List.length_range, beq_self_eq_true, Bool.true_and, beq_iff_eq] at h
  have e1 : lo.elim 0 (clipI l.length) = 0 := by omega
  have e2 : hi.elim l.length (clipI l.length) = l.length := by omega
  rw [e1, e2]
  simp
 ·rw [hq7 l (lo.elim 0 (clipI l.length)) ((hi.elim l.length (clipI l.length)) - (lo.elim 0 (clipI l.length)))]
theorem gq0 (n k : Nat) : clipI n (k : Int) = min k n := by unfold clipI; split <;> omega
theorem gqM (l : List Nat) (k : Nat) : Txt.slice (⟨l.toArray⟩ : Str) (some (k : Int)) none = ⟨(l.drop k).toArray⟩ := by
 rw [fqW]
 simp only [Option.elim_some, Option.elim_none, gq0]
 by_cases h : k ≤ l.length
 ·rw [Nat.min_eq_left h, List.take_of_length_le (by simp)]
 ·rw [Nat.min_eq_right (by omega), List.drop_eq_nil_of_le (Nat.le_refl _), List.drop_eq_nil_of_le (by omega)]
  simp
theorem nqa (l : List Nat) (k : Nat) : Txt.slice (⟨l.toArray⟩ : Str) none (some (k : Int)) = ⟨(l.take k).toArray⟩ := by
 rw [fqW]
 simp only [Option.elim_some, Option.elim_none, gq0, List.drop_zero, Nat.sub_zero]
 by_cases h : k ≤ l.length
 ·rw [Nat.min_eq_left h]
 ·rw [Nat.min_eq_right (by omega), List.take_length, List.take_of_length_le (by omega)]
theorem iqq (l : List Nat) (i j : Nat) : Txt.slice (⟨l.toArray⟩ : Str) (some (i : Int)) (some (j : Int)) = ⟨((l.drop i).take (j - i)).toArray⟩ := by
 rw [fqW]
 simp only [Option.elim_some, gq0]
 by_cases h : i ≤ l.length
 ·rw [Nat.min_eq_left h]
  by_cases h2 : j ≤ l.length
  ·rw [Nat.min_eq_left h2]
  ·rw [Nat.min_eq_right (by omega : l.length ≤ j), List.take_of_length_le (by simp), List.take_of_length_le (by simp; omega)]
 ·rw [Nat.min_eq_right (by omega : l.length ≤ i), List.drop_eq_nil_of_le (Nat.le_refl _), List.drop_eq_nil_of_le (by omega)]
  simp
theorem pqV : Str.ofString "" = ⟨([] : List Nat).toArray⟩ := by decide +kernel
theorem iqg (l m : List Nat) : ((⟨l.toArray⟩ : Str) ++ (⟨m.toArray⟩ : Str)) = ⟨(l ++ m).toArray⟩ := by
 show Str.mk (l.toArray ++ m.toArray) = _
 simp
theorem dqw {l m : List Nat} : ((⟨l.toArray⟩ : Str) = ⟨m.toArray⟩) ↔ l = m := by
 constructor
 ·intro h; injection h with h; injection h
 ·rintro rfl; rfl
theorem eqd (l : List Nat) : (⟨l.toArray⟩ : Str).length = l.length := by simp [Str.length]
theorem mqU : Str.ofString "~" = ⟨[126].toArray⟩ := by decide +kernel
theorem oqG (l : List Nat) : Txt.slice (⟨l.toArray⟩ : Str) (some 1) none = ⟨(l.drop 1).toArray⟩ := gqM l 1
theorem gq6 (l : List Nat) (m k : Int) (h0 : 0 < k) (h : k ≤ l.length) : ∃ a, a ∈ l ∧ atI l (m % k) = some a := by
 have h1 := Int.emod_nonneg m (show k ≠ 0 by omega)
 have h2 := Int.emod_lt_of_pos m h0
 have h3 : (m % k).toNat < l.length := by omega
 refine ⟨l[(m % k).toNat], List.getElem_mem _, ?_⟩
 have := aqi (xs := l) (j := (m % k).toNat) (v := l[(m % k).toNat]) (by simp [h3])
 rw [Int.toNat_of_nonneg h1] at this
 exact this
def isPl (c : Nat) : Bool := decide (48 ≤ c ∧ c ≤ 57) || decide (65 ≤ c ∧ c ≤ 90) || decide (97 ≤ c ∧ c ≤ 122) || decide (c = 45) || decide (c = 46) || decide (c = 95)
def wr1 (c : Nat) : List Nat := if isPl c then [c] else [126, hexd (c / 16), hexd (c % 16)]
def wr (l : List Nat) : List Nat := l.flatMap wr1
def sgO (a b : Nat) : Option Nat := match fig a, fig b with
 | some h, some l => if isSg (h * 16 + l) then some (h * 16 + l) else none
 | _, _ => none
theorem oqe {ns : List Int} {k : Nat} (h : k < ns.length) : atI (ns.map V.int) (k : Int) = some (.int (ns.getD k 0)) := by
 refine aqi ?_
 rw [List.getElem?_map, List.getElem?_eq_getElem h, List.getD_eq_getElem?_getD, List.getElem?_eq_getElem h]
 rfl
theorem aqu {n : Nat} (h : n ≤ 100000) : n ≤ sizeLine := Nat.le_trans h (by decide)
theorem nq4 (f : Nat → Nat) (l : List Nat) : (l.toArray).map f = (l.map f).toArray := by simp
theorem oqA (l : List Nat) : (⟨l.toArray⟩ : Str).cps.toList = l := rfl
theorem oql (xs : List V) (m k : Int) (h0 : 0 < k) (h : k ≤ xs.length) : ∃ a, a ∈ xs ∧ atI xs (m % k) = some a := by
 have h1 := Int.emod_nonneg m (show k ≠ 0 by omega)
 have h2 := Int.emod_lt_of_pos m h0
 have h3 : (m % k).toNat < xs.length := by omega
 refine ⟨xs[(m % k).toNat], List.getElem_mem _, ?_⟩
 have := aqi (xs := xs) (j := (m % k).toNat) (v := xs[(m % k).toNat]) (by simp [h3])
 rw [Int.toNat_of_nonneg h1] at this
 exact this
mutual
def smallD : PyData → Bool
 | .str x => decide (x.length ≤ 100000)
 | .list xs => decide (xs.length ≤ 100000) && smallAll xs
 | .tuple xs => decide (xs.length ≤ 100000) && smallAll xs
 | .dict _ => false
 | .none => true
 | .bool _ => true
 | .int _ => true
def smallAll : List PyData → Bool
 | [] => true
 | d :: ds => smallD d && smallAll ds
end
def isLet (c : Nat) : Bool := decide (65 ≤ c ∧ c ≤ 90) || decide (97 ≤ c ∧ c ≤ 122)
def isAln (c : Nat) : Bool := isLet c || decide (48 ≤ c ∧ c ≤ 57)
def tx : PyData → Bool
 | .str x => x.cps.toList.all isSg
 | _ => false
abbrev st (l : List Nat) : PyData := .str ⟨l.toArray⟩
def oD : Option (List Nat) → PyData
 | none => .none
 | some l => st l
def iD : Option Int → PyData
 | none => .none
 | some i => .int i
def qD : Option (List (List Nat × Option (List Nat))) → PyData
 | none => .none
 | some ps => .tuple (ps.map fun p => .tuple [st p.1, oD p.2])
structure Ad where
 scheme : List Nat
 house : Option (List Nat)
 door : Option Int
 rooted : Bool
 steps : List (List Nat)
 ends : Bool
 quest : Option (List (List Nat × Option (List Nat)))
 mark : Option (List Nat)
def Ad.way (x : Ad) : PyData := .tuple [.bool x.rooted, .tuple (x.steps.map st), .bool x.ends]
def Ad.data (x : Ad) : PyData := .tuple [st x.scheme, oD x.house, iD x.door, x.way, qD x.quest, oD x.mark]
def Tx (n : Nat) (l : List Nat) : Prop := l.length ≤ n ∧ ∀ c ∈ l, isSg c = true
structure Ad.Ok (x : Ad) : Prop where
 sch : x.scheme.length ≤ 8 ∧ (∀ c ∈ x.scheme, isAln c = true) ∧ ∀ c ∈ x.scheme.take 1, isLet c = true
 hou : ∀ l, x.house = some l → 0 < l.length ∧ Tx 60 l
 doo : ∀ i, x.door = some i → (0 ≤ i ∧ i ≤ 65535) ∧ x.house ≠ none
 stp : x.steps.length ≤ 50 ∧ ∀ l ∈ x.steps, 0 < l.length ∧ Tx 60 l
 roo : x.scheme ≠ [] ∨ x.house ≠ none → x.rooted = true
 end_ : x.steps = [] → x.ends = x.rooted
 que : ∀ ps, x.quest = some ps → ps.length ≤ 20 ∧ ∀ p ∈ ps, (0 < p.1.length ∧ Tx 6 p.1) ∧ ∀ v, p.2 = some v → Tx 6 v
 mar : ∀ l, x.mark = some l → Tx 60 l
theorem oq4 (ds : List PyData) : PyData.eqv (.tuple ds) (.tuple []) = ds.isEmpty := by
 cases ds <;> simp [PyData.eqv, PyData.eqvAll]
theorem pqU {l : List Nat} : ((⟨l.toArray⟩ : Str) = ⟨#[]⟩) ↔ l = [] := dqw (m := [])
def Bad (f : PyData → Bool) (H : Hp) (v : V) : Prop := ∃ d, Is H d v ∧ smallD d = true ∧ f d = false
def Bads (f : PyData → Bool) (H : Hp) (vs : List V) : Prop := ∀ v ∈ vs, Bad f H v
theorem Bads.cons {f : PyData → Bool} {H : Hp} {v : V} {vs : List V} (h : Bad f H v) (r : Bads f H vs) : Bads f H (v :: vs) := fun w hw => by
 rcases List.mem_cons.mp hw with rfl | hw
 ·exact h
 ·exact r w hw
theorem bqg {q : Addr} {H H' : Hp} {o : HO} (hq : H q = none) (sm : Same H H') : Same H (upd H' q o) := fun b u e => by
 rw [aqx (aqw e hq)]; exact sm _ _ e
def dg (i : Int) : List Nat := (Str.ofString (toString i)).cps.toList
theorem qqy {i : Int} (hi : 0 ≤ i) : ∀ c ∈ dg i, 48 ≤ c ∧ c ≤ 57 := by
 intro c hc
 obtain ⟨n, rfl⟩ := Int.eq_ofNat_of_zero_le hi
 unfold dg at hc
 rw [PySem.W.KIN.signs_num, List.mem_map] at hc
 obtain ⟨d, hd, rfl⟩ := hc
 have := Nat.isDigit_of_mem_toDigits (by decide) (by decide) hd
 simp only [Char.isDigit, Bool.and_eq_true, decide_eq_true_eq] at this
 exact ⟨this.1, this.2⟩
def Hd (p : Nat → Bool) (r : List Nat) : Prop := ∀ c r', r = c :: r' → p c = true
theorem Hd.cons {p : Nat → Bool} {c : Nat} {r : List Nat} (h : p c = true) : Hd p (c :: r) := fun d r' e => by injection e with e; exact e ▸ h
def tlT (sep : Nat) : List (List Nat) → List Nat
 | [] => []
 | s :: r => sep :: (s ++ tlT sep r)
def joinT (sep : Nat) : List (List Nat) → List Nat
 | [] => []
 | s :: r => s ++ tlT sep r
def oT (sep : Nat) : Option (List Nat) → List Nat
 | none => []
 | some l => sep :: wr l
def pairT (p : List Nat × Option (List Nat)) : List Nat := wr p.1 ++ oT 61 p.2
def queT : Option (List (List Nat × Option (List Nat))) → List Nat
 | none => []
 | some ps => 63 :: joinT 38 (ps.map pairT)
def wayT (r : Bool) (ss : List (List Nat)) (e : Bool) : List Nat := (if r then [47] else []) ++ (joinT 47 (ss.map wr) ++ (if e && !ss.isEmpty then [47] else []))
def dooT : Option Int → List Nat
 | none => []
 | some i => 58 :: dg i
def houT : Option (List Nat) → List Nat
 | none => []
 | some l => 47 :: 47 :: wr l
def schT (s : List Nat) : List Nat := if s = [] then [] else s ++ [58]
def Ad.wayT (x : Ad) : List Nat := Wm.wayT x.rooted x.steps x.ends
def Ad.shw (x : Ad) : List Nat := schT x.scheme ++ (houT x.house ++ (dooT x.door ++ (x.wayT ++ (queT x.quest ++ oT 35 x.mark))))
def PairOk (p : List Nat × Option (List Nat)) : Prop := (0 < p.1.length ∧ ∀ c ∈ p.1, isSg c = true) ∧ ∀ v, p.2 = some v → ∀ c ∈ v, isSg c = true
def StepOk (s : List Nat) : Prop := 0 < s.length ∧ ∀ c ∈ s, isSg c = true
structure Ad.Wf (x : Ad) : Prop where
 sch : x.scheme.length ≤ 8 ∧ (∀ c ∈ x.scheme, isAln c = true) ∧ ∀ c ∈ x.scheme.take 1, isLet c = true
 hou : ∀ l, x.house = some l → (0 < l.length ∧ l.length ≤ 60) ∧ ∀ c ∈ l, isSg c = true
 doo : ∀ i, x.door = some i → (0 ≤ i ∧ i ≤ 65535) ∧ x.house ≠ none
 stp : ∀ s ∈ x.steps, StepOk s
 roo : x.scheme ≠ [] ∨ x.house ≠ none → x.rooted = true
 end_ : x.steps = [] → x.ends = x.rooted
 que : ∀ ps, x.quest = some ps → ∀ p ∈ ps, PairOk p
 mar : ∀ l, x.mark = some l → ∀ c ∈ l, isSg c = true
def Ad.mid (x : Ad) : List Nat := houT x.house ++ (dooT x.door ++ x.wayT)
def Ad.pre (x : Ad) : List Nat := schT x.scheme ++ x.mid
theorem gqF {α : Type} {f : α → PyData} (hf : ∀ a b, PyData.eqv (f a) (f b) = true ↔ a = b) : ∀ (l m : List α), PyData.eqvAll (l.map f) (m.map f) = true ↔ l = m
 | [], [] => by simp [PyData.eqvAll]
 | [], b :: m => by simp [PyData.eqvAll]
 | a :: l, [] => by simp [PyData.eqvAll]
 | a :: l, b :: m => by
  simp only [List.map_cons, PyData.eqvAll, Bool.and_eq_true, List.cons.injEq]
  rw [hf a b, gqF hf l m]
def LayAt (n : Nat) (d : PyData) : Prop := d.canLay0 = true ∧ d.depth ≤ n
theorem LayAt.shaped {n : Nat} {d : PyData} (h : LayAt n d) (hn : n ≤ 64) : SeqAt.shaped d = true := by
 unfold SeqAt.shaped; rw [h.1, decide_eq_true (Nat.le_trans h.2 hn)]; rfl
theorem LayAt.le {n m : Nat} {d : PyData} (h : LayAt n d) (hn : n ≤ m) : LayAt m d := ⟨h.1, Nat.le_trans h.2 hn⟩
theorem layAll {n : Nat} : ∀ {ds : List PyData}, (∀ d ∈ ds, LayAt n d) → PyData.canLayAll0 ds = true ∧ PyData.depthAll ds ≤ n
 | [], _ => ⟨rfl, Nat.zero_le _⟩
 | d :: ds, h => by
  obtain ⟨h1, h2⟩ := layAll (ds := ds) fun e he => h e (List.mem_cons_of_mem _ he)
  have := h d (List.mem_cons_self ..)
  simp only [PyData.canLayAll0, PyData.depthAll, this.1, h1, Bool.and_self, true_and]
  exact Nat.max_le.mpr ⟨this.2, h2⟩
theorem LayAt.tup {n : Nat} {ds : List PyData} (h : ∀ d ∈ ds, LayAt n d) : LayAt (n + 1) (.tuple ds) := by
 obtain ⟨h1, h2⟩ := layAll h
 exact ⟨by simp only [PyData.canLay0, h1], by simp only [PyData.depth]; omega⟩
theorem LayAt.st {l : List Nat} (h : ∀ c ∈ l, isSg c = true) : LayAt 0 (st l) := by
 refine ⟨?_, Nat.le_refl _⟩
 simp only [PyData.canLay0, PyData.strOk, List.all_toArray, List.all_eq_true, decide_eq_true_eq]
 intro c hc
 have := nqy (h c hc)
 omega
theorem LayAt.bool {b : Bool} : LayAt 0 (.bool b) := ⟨rfl, Nat.le_refl _⟩
theorem LayAt.iD {o : Option Int} : LayAt 0 (iD o) := by
 cases o with
 | none => exact ⟨rfl, Nat.le_refl _⟩
 | some l => exact ⟨rfl, Nat.le_refl _⟩
end Wm
namespace Wm
structure Ad.Sz (x : Ad) : Prop where
 stp : ∀ s ∈ x.steps, s.length ≤ 2000
 que : ∀ ps, x.quest = some ps → ps.length ≤ 2000 ∧ ∀ p ∈ ps, p.1.length ≤ 2000 ∧ ∀ v, p.2 = some v → v.length ≤ 2000
 mar : ∀ l, x.mark = some l → l.length ≤ 2000
 num : x.steps.length ≤ 2000
 all : x.shw.length ≤ 90000
end Wm
namespace Wm
open PySem L2
end Wm
namespace L2
open PySem
end L2
namespace Wm
open PySem L2
abbrev Stp := List Nat
def sUp : Stp := [46, 46]
def sStay : Stp := [46]
def isDot (s : Stp) : Bool := decide (s = sUp) || decide (s = sStay)
theorem iqS {s : Stp} : isDot s = false ↔ s ≠ sUp ∧ s ≠ sStay := by simp [isDot]
def fwd (r : Bool) (q : Nat × List Stp) (s : Stp) : Nat × List Stp :=
 if s = sUp then (match q.2 with | [] => (if r then q.1 else q.1 + 1, []) | _ :: t => (q.1, t))
 else if s = sStay then q else (q.1, s :: q.2)
def goneS (r : Bool) (ss : List Stp) : List Stp := List.replicate (ss.foldl (fwd r) (0, [])).1 sUp ++ (ss.foldl (fwd r) (0, [])).2.reverse
def lastDot (ss : List Stp) : Bool := match ss.getLast? with | some s => isDot s | none => false
def goneW (r : Bool) (ss : List Stp) (e : Bool) : Bool × List Stp × Bool :=
 if ss = [] then (r, [], e) else if goneS r ss = [] then (r, if r then [] else [sStay], true) else (r, goneS r ss, e || lastDot ss)
def stk (q : Nat × List Stp) : List Stp := List.replicate q.1 sUp ++ q.2.reverse
end Wm
namespace L2
open PySem PySem.Spec PyProof.Rows HT
section
variable {prog : Program} {w : World} {A : Around} {E : Value → Shared → Prop} {s : Shared}
theorem eqK {t sl : Addr} {items : Array Value} {vl vu : Value} {lo hi : Option Int} {Q : Value → Shared → Prop} (ht : IsTup s.heap t items) (hs : s.heap.IsSliceOf sl vl vu .none) (pl : IsPart vl lo) (pu : IsPart vu hi)
  (hw : sIx items.size 0 lo = 0 ∧ sIx items.size items.size hi = items.size) (h : Q (.ref t) s) : wpAny (model prog w) A (getItem (.ref t) (.ref sl)) Q E s := by
 obtain ⟨os, hos, hcs, hds⟩ := id hs
 have hTs : s.TypeIs (.ref sl) "slice" := ⟨os, hos, hcs⟩
 unfold getItem
 try with_reducible refine wpAny_holding ?_
 first | refine wpAny_bind (wpAny_pure ?_) | skip
 refine wpAny_bind (wpAny_sequenceKey ht.typeIs (by decide) ?_)
 refine wpAny_bind (wpAny_callSpecial?_slot (name := Str.ofString "__getitem__") ht.typeIs PyProof.Rows.slot_tuple_getitem
  (wpAny_call_entry PyProof.Rows.slot_tuple_getitem ht.typeIs entry_tuple_getitem ?_ (args_tuple_getitem _ _)))
 show wpAny _ _ (Builtin.Tuple.tupleItemsOf (.ref t) >>= _) _ _ s
 refine wpAny_bind (tupleItemsOf_ ht ?_)
 refine wpAny_bind (wpAny_typeOf hTs ?_)
 rw [if_pos (by decide)]
 refine wpAny_bind (dqt hs pl pu ?_)
 show wpAny _ _ (if (((sIx items.size 0 lo : Nat) : Int) == 0 && (1 : Int) == 1 && (sIx items.size items.size hi - sIx items.size 0 lo) == items.size) = true then _ else _) _ _ s
 rw [if_pos (by rw [hw.1, hw.2]; simp)]
 refine wpAny_bind ?_
 show wpAny _ _ (typeOf (.ref t) >>= _) _ _ s
 refine wpAny_bind (wpAny_typeOf ht.typeIs (wpAny_pure ?_))
 rw [if_pos (by decide)]
 exact wpAny_bind (wpAny_rule (wpAny_pure ⟨_, rfl, wpAny_pure h⟩))
end
section
variable {X : Cx} {K : PySem.W.Frag}
def rSlTA : V → Option Int → Option Int → Hp → VK → Prop := fun x lo hi H Q => ∃ a xs, x = .ref a ∧ H a = some (.tup xs) ∧ ∀ p H', Same H H' → H' p = some (.tup (cutV xs lo hi)) → Q (.ref p) H'
theorem jqN {xs : List V} {lo hi : Option Int} (h : sIx xs.length 0 lo = 0 ∧ sIx xs.length xs.length hi = xs.length) : cutV xs lo hi = xs := by
 unfold cutV
 rw [h.1, h.2, List.drop_zero, Nat.sub_zero, List.take_length]
theorem hqa : SlR X rSlTA := by
 intro pins s σ H x v vl vu lo hi sl Q I rx hs pl pu h
 obtain ⟨a, xs, rfl, hx, q⟩ := h
 by_cases hw : sIx xs.length 0 lo = 0 ∧ sIx xs.length xs.length hi = xs.length
 ·cases rx
  obtain ⟨its, r, ht, hz⟩ := I.tuple (SqT.of hx)
  have hlen : its.toArray.size = xs.length := by rw [List.size_toArray]; exact r.length.symm
  refine ⟨"tuple", _, PyProof.Rows.slot_tuple_getitem.lookup, ht.typeIs, ?_⟩
  exact eqK ht hs pl pu (by rw [hlen]; exact hw) ⟨.ref a, H, I, rfl, q a H (Same.refl _) (by rw [jqN hw]; exact hx)⟩
 ·exact pqv pins s σ H _ v vl vu lo hi sl Q I rx hs pl pu ⟨a, xs, rfl, SqT.of hx, hw, fun p hp => q p _ (aq5 hp) aqq⟩
theorem lqY {a : Addr} {lo hi : Option Int} {H : Hp} {Q : VK} : rSlTA (.ref a) lo hi H Q ↔ ∃ xs, H a = some (.tup xs) ∧ ∀ p H', Same H H' → H' p = some (.tup (cutV xs lo hi)) → Q (.ref p) H' := by
 constructor
 ·rintro ⟨p, bs, h1, h2⟩; cases h1; exact ⟨bs, h2⟩
 ·rintro ⟨bs, h⟩; exact ⟨a, bs, rfl, h⟩
end
mutual
inductive IsK (K : PySem.W.Frag) (H : Hp) : PyData → V → Prop
 | non : IsK K H .none .non
 | bl (b : Bool) : IsK K H (.bool b) (.bl b)
 | int (i : Int) : IsK K H (.int i) (.int i)
 | str (x : Str) : IsK K H (.str x) (.str x)
 | tup {p : Addr} {xs : List V} {ds : List PyData} : SqT K H p xs → IsKAll K H ds xs → IsK K H (.tuple ds) (.ref p)
inductive IsKAll (K : PySem.W.Frag) (H : Hp) : List PyData → List V → Prop
 | nil : IsKAll K H [] []
 | cons {d : PyData} {x : V} {ds : List PyData} {xs : List V} : IsK K H d x → IsKAll K H ds xs → IsKAll K H (d :: ds) (x :: xs)
end
section
variable {K : PySem.W.Frag} {H H' : Hp}
mutual
theorem IsK.mono (sm : Same H H') : ∀ {d : PyData} {x : V}, IsK K H d x → IsK K H' d x
 | _, _, .non => .non
 | _, _, .bl b => .bl b
 | _, _, .int i => .int i
 | _, _, .str x => .str x
 | _, _, .tup h r => .tup (sm.tup h) (IsKAll.mono sm r)
theorem IsKAll.mono (sm : Same H H') : ∀ {ds : List PyData} {xs : List V}, IsKAll K H ds xs → IsKAll K H' ds xs
 | _, _, .nil => .nil
 | _, _, .cons h r => .cons (IsK.mono sm h) (IsKAll.mono sm r)
end
mutual
theorem IsT.k : ∀ {d : PyData} {x : V}, IsT H d x → IsK K H d x
 | _, _, .non => .non
 | _, _, .bl b => .bl b
 | _, _, .int i => .int i
 | _, _, .str x => .str x
 | _, _, .tup h r => .tup (SqT.of h) (IsTAll.k r)
theorem IsTAll.k : ∀ {ds : List PyData} {xs : List V}, IsTAll H ds xs → IsKAll K H ds xs
 | _, _, .nil => .nil
 | _, _, .cons h r => .cons (IsT.k h) (IsTAll.k r)
end
end
section
variable {X : Cx} {pins : List (Addr × Obj)} {σ : St} {H : Hp} {s : Shared}
mutual
theorem IsK.reads (I : Inv X pins σ H s) : ∀ {d : PyData} {x : V} {v : Value}, IsK X.K H d x → RelV x v → ∃ as, Reads s.heap v d as
 | _, _, _, .non, r => by cases r; exact ⟨_, .none⟩
 | _, _, _, .bl b, r => by cases r; exact ⟨_, .bool b⟩
 | _, _, _, .int i, r => by obtain ⟨t, rfl⟩ := r; exact ⟨_, .int i t⟩
 | _, _, _, .str x, r => by obtain ⟨t, rfl⟩ := r; exact ⟨_, .str x t⟩
 | _, _, _, .tup h q, r => by
  cases r
  obtain ⟨its, vs, ⟨o, e, c, n, dt⟩, _⟩ := I.tuple h
  obtain ⟨as, ra⟩ := IsKAll.reads I q vs
  exact ⟨_, .tuple e c dt (by simpa using ra)⟩
theorem IsKAll.reads (I : Inv X pins σ H s) : ∀ {ds : List PyData} {xs : List V} {vs : List Value}, IsKAll X.K H ds xs → Vals xs vs → ∃ as, ReadsAll s.heap vs ds as
 | _, _, _, .nil, r => by cases r; exact ⟨_, .nil⟩
 | _, _, _, .cons q t, r => by
  cases r with
  | cons r1 r2 =>
   obtain ⟨as, h1⟩ := IsK.reads I q r1
   obtain ⟨bs, h2⟩ := IsKAll.reads I t r2
   exact ⟨_, .cons h1 h2⟩
end
variable {K : PySem.W.Frag}
def rSlX (K : PySem.W.Frag) : V → Option Int → Option Int → Hp → VK → Prop := fun x lo hi H Q => ∃ a xs, x = .ref a ∧ SqT K H a xs ∧ ∀ p H', Same H H' → SqT K H' p (cutV xs lo hi) → Q (.ref p) H'
theorem nqZ {a : Addr} {lo hi : Option Int} {H : Hp} {Q : VK} : rSlX K (.ref a) lo hi H Q ↔ ∃ xs, SqT K H a xs ∧ ∀ p H', Same H H' → SqT K H' p (cutV xs lo hi) → Q (.ref p) H' := by
 constructor
 ·rintro ⟨p, bs, h1, h2⟩; cases h1; exact ⟨bs, h2⟩
 ·rintro ⟨bs, h⟩; exact ⟨a, bs, rfl, h⟩
def rCatX (K : PySem.W.Frag) : R2 := fun x y H Q => ∃ a b xs ys, x = .ref a ∧ y = .ref b ∧ SqT K H a xs ∧ SqT K H b ys ∧ xs.length + ys.length ≤ sizeLine ∧ ∀ p H', Same H H' → SqT K H' p (xs ++ ys) → Q (.ref p) H'
theorem mqG {a b : Addr} {H : Hp} {Q : VK} : rCatX K (.ref a) (.ref b) H Q ↔ ∃ xs ys, SqT K H a xs ∧ SqT K H b ys ∧ xs.length + ys.length ≤ sizeLine ∧ ∀ p H', Same H H' → SqT K H' p (xs ++ ys) → Q (.ref p) H' := by
 constructor
 ·rintro ⟨p, p', xs, ys, h1, h2, h3⟩; cases h1; cases h2; exact ⟨xs, ys, h3⟩
 ·rintro ⟨xs, ys, h⟩; exact ⟨a, b, xs, ys, rfl, rfl, h⟩
def KindK (K : PySem.W.Frag) (H : Hp) (x : V) (k : String) : Prop := kindV x H = some k ∨ ∃ a xs, x = .ref a ∧ SqT K H a xs ∧ k = "tuple"
theorem KindK.tup {K : PySem.W.Frag} {H : Hp} {a : Addr} {xs : List V} (h : SqT K H a xs) : KindK K H (.ref a) "tuple" := .inr ⟨a, xs, rfl, h, rfl⟩
def rIsiX (K : PySem.W.Frag) : List V → Hp → VK → Prop := fun vs H Q => match vs with
 | [x, .ty T] => ∃ k, KindK K H x k ∧ T ∈ ["bool", "int", "str", "list", "tuple"] ∧ Q (.bl (subT k T)) H
 | _ => False
theorem mq9 {x : V} {T : String} {H : Hp} {Q : VK} : (rIsiX K [x, .ty T] H Q) = (∃ k, KindK K H x k ∧ T ∈ ["bool", "int", "str", "list", "tuple"] ∧ Q (.bl (subT k T)) H) := rfl
end
end L2
namespace Wm
open PySem L2
section
variable {K : PySem.W.Frag} {H : Hp}
end
end Wm
namespace L2
open PySem PySem.Spec PyProof.Rows
def pickV {α : Type} (xs : List α) (lo hi st : Option Int) : List α :=
 (sliceRange (sliceBounds lo hi st xs.length).1 (sliceBounds lo hi st xs.length).2.1 (sliceBounds lo hi st xs.length).2.2).filterMap fun i => xs[i]?
section
variable {X : Cx}
def tSl3 (K : PySem.W.Frag) (te : TE) (tl th ts : TO) : TE := fun σ H Q => te σ H fun x H1 => tl σ H1 fun l H2 => th σ H2 fun u H3 => ts σ H3 fun k H4 =>
 ∃ a xs, x = .ref a ∧ SqL K H4 a xs ∧ k ≠ some 0 ∧ (pickV xs l u k).length ≤ sizeLine ∧ ∀ p, H4 p = none → Q (.ref p) (upd H4 p (.lst (pickV xs l u k)))
end
theorem qqq {K : PySem.W.Frag} {te : TE} {tl th ts : TO} {σ : St} {H : Hp} {Q : VK} : tSl3 K te tl th ts σ H Q ↔ te σ H fun x H1 => tl σ H1 fun l H2 => th σ H2 fun u H3 => ts σ H3 fun k H4 =>
 ∃ a xs, x = .ref a ∧ SqL K H4 a xs ∧ k ≠ some 0 ∧ (pickV xs l u k).length ≤ sizeLine ∧ ∀ p, H4 p = none → Q (.ref p) (upd H4 p (.lst (pickV xs l u k))) := Iff.rfl
end L2
namespace Wm
open PySem L2
abbrev Way := Bool × List Stp × Bool
def Ad.w (x : Ad) : Way := (x.rooted, x.steps, x.ends)
def Ad.withWay (x : Ad) (w : Way) : Ad := { x with rooted := w.1, steps := w.2.1, ends := w.2.2 }
def goneV (w : Way) : Way := goneW w.1 w.2.1 w.2.2
def Ad.gone (x : Ad) : Ad := x.withWay (goneV x.w)
theorem pqN {l : Addr} {H : Hp} {Q : VK} : rReverse (.ref l) [] H Q ↔ ∃ xs, H l = some (.lst xs) ∧ Q .non (upd H l (.lst xs.reverse)) :=
 ⟨fun ⟨_, xs, e, _, h, q⟩ => by cases e; exact ⟨xs, h, q⟩, fun ⟨xs, h, q⟩ => ⟨l, xs, rfl, rfl, h, q⟩⟩
abbrev sV (l : List Nat) : V := .str ⟨l.toArray⟩
theorem fqG (ds : List PyData) : PyData.eqv (.list ds) (.list []) = ds.isEmpty := by
 cases ds <;> simp [PyData.eqv, PyData.eqvAll]
theorem hqJ {α : Type} {l : List α} {s : α} (g : α → V) (h : l.getLast? = some s) : atI (l.map g) (-1) = some (g s) := by
 obtain ⟨pre, rfl⟩ := List.getLast?_eq_some_iff.mp h
 have e : ixN ((pre ++ [s]).map g).length (-1) = some pre.length := by
  unfold ixN
  simp
  try omega
 unfold atI
 rw [e]
 simp
theorem lqG (s : Stp) : inV (sV s) [sV sStay, sV sUp] = isDot s := by
 have e : ∀ a : Stp, eqV (sV a) (sV s) = decide (s = a) := fun a => by
  show ((⟨a.toArray⟩ : Str) == ⟨s.toArray⟩) = decide (s = a)
  rw [Bool.eq_iff_iff, beq_iff_eq, decide_eq_true_eq, dqw]
  exact ⟨Eq.symm, Eq.symm⟩
 unfold inV isDot
 simp only [List.any_cons, List.any_nil, Bool.or_false, e]
 rw [Bool.or_comm]
end Wm
namespace L2
open PySem
theorem eqW {X : Cx} {K : PySem.W.Frag} (h : X.K = K) : OpR X (compareOp .In) (rIn K false) := by subst h; exact kqK
theorem qqu {l : Addr} {H : Hp} {Q : VK} : rPop (.ref l) [] H Q ↔ ∃ xs y, H l = some (.lst xs) ∧ xs[xs.length - 1]? = some y ∧ Q y (upd H l (.lst xs.dropLast)) :=
 ⟨fun ⟨_, xs, y, h1, _, h3, h4, h5⟩ => by cases h1; exact ⟨xs, y, h3, h4, h5⟩, fun ⟨xs, y, h3, h4, h5⟩ => ⟨_, xs, y, rfl, rfl, h3, h4, h5⟩⟩
theorem mqe {D : Ends} {σ : St} {H : Hp} : (tNever D σ H) = (False) := rfl
end L2
namespace Wm
open PySem L2
structure Ad.Tiny (x : Ad) : Prop where
 stp : ∀ s ∈ x.steps, s.length ≤ 9
 que : ∀ ps, x.quest = some ps → ps.length ≤ 3 ∧ ∀ p ∈ ps, p.1.length ≤ 5 ∧ ∀ v, p.2 = some v → v.length ≤ 6
 mar : ∀ l, x.mark = some l → l.length ≤ 7
 hou : ∀ l, x.house = some l → l.length ≤ 13
end Wm
namespace Wm
end Wm
namespace Wm
open PySem L2
def cutA {α : Type} (xs : List α) (lo hi : Option Int) : List α := (xs.drop (HT.sIx xs.length 0 lo)).take (HT.sIx xs.length xs.length hi - HT.sIx xs.length 0 lo)
theorem hqO {α : Type} (f : α → V) (xs : List α) (lo hi : Option Int) : cutV (xs.map f) lo hi = (cutA xs lo hi).map f := by
 unfold cutV cutA; rw [List.length_map, List.map_take, List.map_drop]
theorem hqI {α : Type} (xs : List α) (lo hi : Option Int) : (cutA xs lo hi).length ≤ xs.length := by
 unfold cutA; rw [List.length_take, List.length_drop]; omega
end Wm
namespace L2
open PySem
end L2
namespace Wm
open PySem L2
section
variable {H : Hp}
end
theorem Ad.Wf.local {x : Ad} (h : x.Wf) : ({ x with scheme := [], house := none, door := none } : Ad).Wf :=
 ⟨⟨Nat.zero_le _, (fun c hc => by cases hc), (fun c hc => by cases hc)⟩, (fun l e => by cases e), (fun l e => by cases e), h.stp, (fun z => z.elim (fun y => absurd rfl y) (fun y => absurd rfl y)), h.end_, h.que, h.mar⟩
def Goods (n : Nat) (H : Hp) (vs : List V) : Prop := ∀ v ∈ vs, ∃ x : Ad, x.Wf ∧ x.steps.length ≤ n ∧ IsT H x.data v
theorem Goods.cons {n : Nat} {H : Hp} {v : V} {vs : List V} {x : Ad} (h1 : x.Wf) (h2 : x.steps.length ≤ n) (h3 : IsT H x.data v) (h : Goods n H vs) : Goods n H (v :: vs) := fun u hu => by
 rcases List.mem_cons.mp hu with rfl | hu
 ·exact ⟨x, h1, h2, h3⟩
 ·exact h u hu
end Wm
namespace L2
open PySem PySem.Spec PyProof.Rows
theorem qqR {b c : Bool} {H : Hp} {Q : VK} : (rIsB true (.bl b) (.bl c) H Q) = (Q (.bl (!decide (b = c))) H) := rfl
end L2
namespace Wm
open PySem L2
structure GoodAd (n : Nat) (x : Ad) : Prop where
 wf : x.Wf
 ti : x.Tiny
 sc : x.scheme ≠ []
 ln : x.steps.length ≤ n
end Wm
namespace L2
open PySem PySem.Spec PyProof.Rows
section
variable {prog : Program} {w : World} {A : Around} {E : Value → Shared → Prop} {s : Shared}
end
def Itv (K : PySem.W.Frag) (a : Addr) (n : Nat) : It :=
 ⟨fun i H => ∃ xs x, SqT K H a xs ∧ xs.length = n ∧ i < n ∧ xs[n - 1 - i]? = some x, fun i H x H' => H' = H ∧ ∀ xs, SqT K H a xs → xs.length = n → xs[n - 1 - i]? = some x, fun i _ => n ≤ i⟩
section
variable {X : Cx} {tg : Expr} {K : PySem.W.Frag}
def iRev (K : PySem.W.Frag) (ta : TA) : TI := fun σ H R => ta σ H fun vs H1 => ∃ a xs, vs = [.ref a] ∧ SqT K H1 a xs ∧ R (Itv K a xs.length) H1
variable {σ : St} {H : Hp} {D : Ends} {g : TG} {tb : TS} {aa : TA}
theorem oqK : (tFor (iRev K aa) g tb D σ H) = (aa σ H fun vs H1 => ∃ a xs, vs = [.ref a] ∧ SqT K H1 a xs ∧ LoopI (Itv K a xs.length) g tb D σ H1) := rfl
end
theorem iqy : fillsNumberSlot (.type "tuple") "mul" = pure false := PySem.fillsNumberSlot_seq (id := "tuple.__mul__") (r := some (.builtin "tuple.__rmul__")) F.slot_tuple_mul.lookup (by decide +kernel) F.slot_tuple_rmul.lookup (by decide +kernel)
theorem hqU : seqRepeat? (.type "tuple") = pure (some (.builtin "tuple.__mul__")) := by
 unfold seqRepeat?
 rw [PySem.seqSlot_of (T := "tuple") (name := "__mul__") (id := "tuple.__mul__") F.slot_tuple_mul.lookup (by decide +kernel), PySem.seqSlot_of (T := "tuple") (name := "__rmul__") (id := "tuple.__rmul__") F.slot_tuple_rmul.lookup (by decide +kernel)]
 rfl
theorem kqw (a : Int) (t : Tok) (l : Addr) (items : Array Value) (n : Nat) (dd : Option Addr) (sl : Array (Option Value)) :
  Meets (Builtin.«int.__rmul__» ⟨[.int a t, .ref l], []⟩) (fun _ R s => s.heap.get? l = some { cls := .type "tuple", dict := dd, data := .seq items n, slots := sl } ∧ R (.ok (.ret Value.notImplemented)) s) :=
 .of_wp fun prog w A R s h => by
  obtain ⟨hp, g, d, tk, os⟩ := s; obtain ⟨hl, h⟩ := h
  wp_walk; exact ⟨_, rfl, h⟩
theorem pqf (l : Addr) (items : Array Value) (n : Nat) (dd : Option Addr) (sl : Array (Option Value)) (x : Int) (u : Tok) (h0 : items.isEmpty = false) (h1 : ¬ (decide (x < -(2 ^ 63)) || decide (x ≥ 2 ^ 63)) = true) (h2 : 2 ≤ x) (h3 : ¬ ((items.size : Int) * x > (2 ^ 63 - 1) / 8)) (h4 : (items.size : Int) * x ≤ sizeLine) :
  Meets (Builtin.«tuple.__mul__» ⟨[.ref l, .int x u], []⟩) (fun _ R s => s.heap.get? l = some { cls := .type "tuple", dict := dd, data := .seq items n, slots := sl } ∧
   R (.ok (.ret (Value.ref s.heap.objs.size))) { s with heap := s.heap.push { cls := Value.type "tuple", data := Data.seq (List.foldl (fun x1 x2 => x1 ++ x2) #[] (List.replicate x.toNat items)) }, toks := s.toks }) :=
 .of_wp fun prog w A R s h => by
  obtain ⟨hp, g, d, tk, os⟩ := s; obtain ⟨hl, h⟩ := h
  unfold Builtin.«tuple.__mul__»
  wp_walk
  have hx1 : ¬ (items.isEmpty || x == 1) = true := by rw [h0, Bool.false_or]; intro z; have := eq_of_beq z; omega
  have hx2 : ¬ (decide (x ≤ 0) || items.isEmpty) = true := by rw [h0, Bool.or_false, decide_eq_true_eq]; omega
  have hx3 : ¬ Builtin.Tuple.tupleTooMany ((items.size : Int) * x) = true := by unfold Builtin.Tuple.tupleTooMany; rw [decide_eq_true_eq]; omega
  rw [if_neg h1]
  wp_walk
  rw [if_neg hx1]
  try dsimp only
  rw [if_neg hx2]
  try dsimp only
  rw [if_neg h3]
  try dsimp only
  rw [if_neg hx3]
  refine wpAny_bind (m := Builtin.Tuple.tupleExact _) (wpAny_newObj_type (wpAny_pure ⟨_, rfl, h⟩) ?_)
  show (List.foldl (fun x1 x2 => x1 ++ x2) #[] (List.replicate x.toNat items)).size ≤ sizeLine
  have e : List.foldl (fun x1 x2 => x1 ++ x2) #[] (List.replicate x.toNat items.toList.toArray) = (List.replicate x.toNat items.toList).flatten.toArray := by
   have := fqK items.toList x.toNat []
   rw [List.nil_append] at this
   exact this
  rw [show items.toList.toArray = items by simp] at e
  rw [e, List.size_toArray, kqH, Array.length_toList]
  have : (items.size : Int) * x = ((x.toNat * items.size : Nat) : Int) := by rw [Int.natCast_mul, Int.toNat_of_nonneg (by omega), Int.mul_comm]
  omega
section
variable {X : Cx}
def rRepT : R2 := fun x y H Q => ∃ a k xs, x = .ref a ∧ y = .int k ∧ H a = some (.tup xs) ∧ 2 ≤ k ∧ k < 1000 ∧ xs.length * k.toNat ≤ sizeLine ∧ ∀ p H', Same H H' → H' p = some (.tup (List.replicate k.toNat xs).flatten) → Q (.ref p) H'
theorem kqZ (l : Addr) (items : Array Value) (n : Nat) (dd : Option Addr) (sl : Array (Option Value)) (x : Int) (u : Tok) (h0 : items.isEmpty = true) (h1 : ¬ (decide (x < -(2 ^ 63)) || decide (x ≥ 2 ^ 63)) = true) :
  Meets (Builtin.«tuple.__mul__» ⟨[.ref l, .int x u], []⟩) (fun _ R s => s.heap.get? l = some { cls := .type "tuple", dict := dd, data := .seq items n, slots := sl } ∧ R (.ok (.ret (Value.ref l))) s) :=
 .of_wp fun prog w A R s h => by
  obtain ⟨hp, g, d, tk, os⟩ := s; obtain ⟨hl, h⟩ := h
  unfold Builtin.«tuple.__mul__»
  have hx1 : (items.isEmpty || x == 1) = true := by rw [h0, Bool.true_or]
  wp_walk
  rw [if_neg h1]
  wp_walk
  exact ⟨_, rfl, h⟩
theorem oqu : OpR X (binaryOp .Mult) rRepT := by
 intro pins s σ H x y v u Q I rx ry h
 obtain ⟨a, k, xs, rfl, rfl, hH, h1, h2, hz, q⟩ := h
 cases rx
 obtain ⟨t, rfl⟩ := ry
 obtain ⟨its, r, p, hl⟩ := I.tuple (SqT.of hH)
 obtain ⟨⟨cls, dd, data, sl⟩, ho, hc, n, hd⟩ := id p
 simp only at hc hd
 subst hc hd
 have hlen := r.length
 have hb : ¬ (decide (k < -(2 ^ 63)) || decide (k ≥ 2 ^ 63)) = true := by
  rw [Bool.or_eq_true, decide_eq_true_eq, decide_eq_true_eq]; omega
 have hprod : ((its.toArray.size : Nat) : Int) * k ≤ sizeLine := by
  rw [List.size_toArray, ← hlen]
  have : (xs.length : Int) * k = ((xs.length * k.toNat : Nat) : Int) := by rw [Int.natCast_mul, Int.toNat_of_nonneg (by omega)]
  omega
 refine wpAny_binaryOp_repeat_ref (T := "tuple") (U := "int") (by decide) p.typeIs (fun s' => typeIs_int s' k t) iqy F.fills_int_mul F.slot_int_rmul hqU F.slot_int_index.lookup
  (call_meets F.slot_int_rmul (typeIs_int s k t) F.entry_int_rmul (F.args_int_rmul_2 _ _) (kqw k t a its.toArray n dd sl) ⟨ho, rfl, p.typeIs, ?_⟩)
 by_cases he : its = []
 ·subst he
  have hx0 : xs = [] := r.nil_iff.mp rfl
  subst hx0
  exact call_meets F.slot_tuple_mul p.typeIs F.entry_tuple_mul (F.args_tuple_mul_2 _ _) (kqZ a _ n dd sl k t rfl hb) ⟨ho, .ref a, H, I, rfl, q a H (Same.refl _) (by rw [hH]; congr 2; exact (List.flatten_eq_nil_iff.mpr fun l hl => (List.mem_replicate.mp hl).2).symm)⟩
 ·have h0 : its.toArray.isEmpty = false := by simpa using he
  have hcap : ¬ (((its.toArray.size : Nat) : Int) * k > (2 ^ 63 - 1) / 8) := by
   have : (sizeLine : Int) ≤ (2 ^ 63 - 1) / 8 := by decide
   omega
  refine call_meets F.slot_tuple_mul p.typeIs F.entry_tuple_mul (F.args_tuple_mul_2 _ _) (pqf a _ n dd sl k t h0 hb h1 hcap hprod) ⟨ho, ?_⟩
  have e : List.foldl (fun x1 x2 => x1 ++ x2) #[] (List.replicate k.toNat its.toArray) = (List.replicate k.toNat its).flatten.toArray := by
   have := fqK its k.toNat []
   rw [List.nil_append] at this
   exact this
  rw [e]
  have hf : H s.heap.objs.size = none := I.hok.fresh (Nat.le_refl _)
  refine ⟨.ref s.heap.objs.size, _, I.laid (t' := s.toks) (o := .tup (List.replicate k.toNat xs).flatten) (fun b ob q => Heap.get?_push_of_some _ q) (Nat.le_refl _) ?_, rfl, q _ _ (aq5 hf) aqq⟩
  exact ⟨by rw [kqH, Nat.mul_comm]; exact hz, _, r.rep k.toNat, IsTup.new _ _⟩
theorem mqL {a : Addr} {k : Int} {H : Hp} {Q : VK} : rRepT (.ref a) (.int k) H Q ↔ ∃ xs, H a = some (.tup xs) ∧ 2 ≤ k ∧ k < 1000 ∧ xs.length * k.toNat ≤ sizeLine ∧ ∀ p H', Same H H' → H' p = some (.tup (List.replicate k.toNat xs).flatten) → Q (.ref p) H' := by
 constructor
 ·rintro ⟨a', k', xs, h1, h2, h⟩; cases h1; cases h2; exact ⟨xs, h⟩
 ·rintro ⟨xs, h⟩; exact ⟨a, k, xs, rfl, rfl, h⟩
def rRepS : R2 := fun x y H Q => ∃ l k xs, x = .ref l ∧ y = .int k ∧ H l = some (.lst xs) ∧ 0 ≤ k ∧ k < 1000000 ∧ xs.length * k.toNat ≤ sizeLine ∧ ∀ p H', H p = none → Same H H' → H' p = some (.lst (List.replicate k.toNat xs).flatten) → Q (.ref p) H'
theorem mq5 {a : Addr} {k : Int} {H : Hp} {Q : VK} : rRepS (.ref a) (.int k) H Q ↔ ∃ xs, H a = some (.lst xs) ∧ 0 ≤ k ∧ k < 1000000 ∧ xs.length * k.toNat ≤ sizeLine ∧ ∀ p H', H p = none → Same H H' → H' p = some (.lst (List.replicate k.toNat xs).flatten) → Q (.ref p) H' := by
 constructor
 ·rintro ⟨a', k', xs, h1, h2, h⟩; cases h1; cases h2; exact ⟨xs, h⟩
 ·rintro ⟨xs, h⟩; exact ⟨a, k, xs, rfl, rfl, h⟩
end
theorem pqq (l : Addr) (items : Array Value) (n : Nat) (dd : Option Addr) (sl : Array (Option Value)) (u : Tok) :
  Meets (Builtin.«tuple.__mul__» ⟨[.ref l, .int 1 u], []⟩) (fun _ R s => s.heap.get? l = some { cls := .type "tuple", dict := dd, data := .seq items n, slots := sl } ∧ R (.ok (.ret (Value.ref l))) s) :=
 .of_wp fun prog w A R s h => by
  obtain ⟨hp, g, d, tk, os⟩ := s; obtain ⟨hl, h⟩ := h
  unfold Builtin.«tuple.__mul__»
  have hx1 : (items.isEmpty || ((1 : Int) == 1)) = true := by simp
  have h1 : ¬ (decide ((1 : Int) < -(2 ^ 63)) || decide ((1 : Int) ≥ 2 ^ 63)) = true := by decide
  wp_walk
  first | rw [if_neg h1] | skip
  wp_walk
  first | rw [if_pos hx1] | skip
  wp_walk
  exact ⟨_, rfl, h⟩
theorem nq2 (l : Addr) (items : Array Value) (n : Nat) (dd : Option Addr) (sl : Array (Option Value)) (u : Tok) (h0 : items.isEmpty = false) :
  Meets (Builtin.«tuple.__mul__» ⟨[.ref l, .int 0 u], []⟩) (fun _ R s => s.heap.get? l = some { cls := .type "tuple", dict := dd, data := .seq items n, slots := sl } ∧
   R (.ok (.ret (Value.ref s.heap.objs.size))) { s with heap := s.heap.push { cls := Value.type "tuple", data := Data.seq #[] }, toks := s.toks }) :=
 .of_wp fun prog w A R s h => by
  obtain ⟨hp, g, d, tk, os⟩ := s; obtain ⟨hl, h⟩ := h
  unfold Builtin.«tuple.__mul__»
  have h1 : ¬ (decide ((0 : Int) < -(2 ^ 63)) || decide ((0 : Int) ≥ 2 ^ 63)) = true := by decide
  have hx1 : ¬ (items.isEmpty || ((0 : Int) == 1)) = true := by rw [h0]; decide
  have hx2 : (decide ((0 : Int) ≤ 0) || items.isEmpty) = true := by simp
  wp_walk
  first | rw [if_neg h1] | skip
  wp_walk
  first | rw [if_neg hx1] | skip
  try dsimp only
  first | rw [if_pos hx2] | skip
  exact ⟨_, rfl, h⟩
section
variable {X : Cx}
def rRepN : R2 := fun x y H Q => ∃ a k xs, x = .ref a ∧ y = .int k ∧ H a = some (.tup xs) ∧ 0 ≤ k ∧ k < 1000 ∧ xs.length * k.toNat ≤ sizeLine ∧ ∀ p H', Same H H' → H' p = some (.tup (List.replicate k.toNat xs).flatten) → Q (.ref p) H'
theorem oqX : OpR X (binaryOp .Mult) rRepN := by
 intro pins s σ H x y v u Q I rx ry h
 obtain ⟨a, k, xs, rfl, rfl, hH, h1, h2, hz, q⟩ := h
 by_cases hk : 2 ≤ k
 ·exact oqu pins s σ H _ _ v u Q I rx ry ⟨a, k, xs, rfl, rfl, hH, hk, h2, hz, q⟩
 cases rx
 obtain ⟨t, rfl⟩ := ry
 obtain ⟨its, r, p, hl⟩ := I.tuple (SqT.of hH)
 obtain ⟨⟨cls, dd, data, sl⟩, ho, hc, n, hd⟩ := id p
 simp only at hc hd
 subst hc hd
 refine wpAny_binaryOp_repeat_ref (T := "tuple") (U := "int") (by decide) p.typeIs (fun s' => typeIs_int s' k t) iqy F.fills_int_mul F.slot_int_rmul hqU F.slot_int_index.lookup
  (call_meets F.slot_int_rmul (typeIs_int s k t) F.entry_int_rmul (F.args_int_rmul_2 _ _) (kqw k t a its.toArray n dd sl) ⟨ho, rfl, p.typeIs, ?_⟩)
 have h01 : k = 0 ∨ k = 1 := by omega
 rcases h01 with rfl | rfl
 ·by_cases he : its = []
  ·subst he
   have hx0 : xs = [] := r.nil_iff.mp rfl
   subst hx0
   exact call_meets F.slot_tuple_mul p.typeIs F.entry_tuple_mul (F.args_tuple_mul_2 _ _) (kqZ a _ n dd sl 0 t rfl (by decide)) ⟨ho, .ref a, H, I, rfl, q a H (Same.refl _) hH⟩
  ·have h0 : its.toArray.isEmpty = false := by simpa using he
   refine call_meets F.slot_tuple_mul p.typeIs F.entry_tuple_mul (F.args_tuple_mul_2 _ _) (nq2 a _ n dd sl t h0) ⟨ho, ?_⟩
   have hf : H s.heap.objs.size = none := I.hok.fresh (Nat.le_refl _)
   refine ⟨.ref s.heap.objs.size, _, I.laid (t' := s.toks) (o := .tup []) (fun b ob q => Heap.get?_push_of_some _ q) (Nat.le_refl _) ?_, rfl, q _ _ (aq5 hf) aqq⟩
   exact ⟨Nat.zero_le _, [], .nil, IsTup.new _ _⟩
 ·exact call_meets F.slot_tuple_mul p.typeIs F.entry_tuple_mul (F.args_tuple_mul_2 _ _) (pqq a _ n dd sl t) ⟨ho, .ref a, H, I, rfl, q a H (Same.refl _) (by rw [hH]; simp)⟩
theorem mqt {a : Addr} {k : Int} {H : Hp} {Q : VK} : rRepN (.ref a) (.int k) H Q ↔ ∃ xs, H a = some (.tup xs) ∧ 0 ≤ k ∧ k < 1000 ∧ xs.length * k.toNat ≤ sizeLine ∧ ∀ p H', Same H H' → H' p = some (.tup (List.replicate k.toNat xs).flatten) → Q (.ref p) H' := by
 constructor
 ·rintro ⟨a', k', xs, h1, h2, h⟩; cases h1; cases h2; exact ⟨xs, h⟩
 ·rintro ⟨xs, h⟩; exact ⟨a, k, xs, rfl, rfl, h⟩
end
section
variable {X : Cx}
def intsV (lo : Int) (n : Nat) : List V := (List.range n).map fun k => .int (lo + (k : Nat))
def tLR (ta : TA) : TE := fun σ H Q => ta σ H fun vs H1 => ∃ j : Int, vs = [.int j] ∧ 0 ≤ j ∧ j ≤ 1000000 ∧ ∀ p, H1 p = none → Q (.ref p) (upd H1 p (.lst (intsV 0 j.toNat)))
end
theorem qqO {ta : TA} {σ : St} {H : Hp} {Q : VK} : (tLR ta σ H Q) = (ta σ H fun vs H1 => ∃ j : Int, vs = [.int j] ∧ 0 ≤ j ∧ j ≤ 1000000 ∧ ∀ p, H1 p = none → Q (.ref p) (upd H1 p (.lst (intsV 0 j.toNat)))) := rfl
end L2
namespace L2
open PySem
section
variable {p : Addr} {fv : St} {tt : TT} {te : TE} {Q : VK} {H1 : Hp} {K : PySem.W.Frag}
end
end L2
namespace L2
open PySem PySem.Spec PyProof.Rows
section
variable {X : Cx} {pins : List (Addr × Obj)} {σ : St} {H1 : Hp} {s3 : Shared} {x x2 : Str} {fx : List Str} {fr : List Nat} {scope : Scope} {cl : List (Str × Addr)} {fp : List Addr}
theorem mqq (I : Inv X pins σ H1 s3) (hkind : scope.kind = .function) (hcl : ∀ y c, cl.lookup y = some c → X.env.cells.lookup y = some c)
  (F : Frees X (relabel scope X.env) cl fx fr) (hfx : ((relabel scope X.env).names.all fun p => if (p.2 == .cell || p.2 == .free) then fx.contains p.1 else true) = true)
  (ffp : ∀ b ∈ fp, FpOk X pins H1 b) (flt : ∀ b ∈ fp, b < s3.heap.objs.size) : (compCx X (x :: x2 :: fx) scope cl s3 H1 fp).Ok where
 mod := I.ok.mod
 kind := hkind
 glob := I.ok.glob
 blt := I.ok.blt
 above := Nat.le_refl _
 inj := fun y z c h1 h2 => I.ok.inj y z c (hcl y c h1) (hcl z c h2)
 has := fun y h => by
  have h : (relabel scope X.env).names.lookup y = some .cell ∨ (relabel scope X.env).names.lookup y = some .free := h
  have key : y ∈ fx := by
   rcases h with h | h
   ·have q := List.all_eq_true.mp hfx _ (PySem.mem_of_lookup h)
    simpa using q
   ·have q := List.all_eq_true.mp hfx _ (PySem.mem_of_lookup h)
    simpa using q
  obtain ⟨k1, k2⟩ := F.mem y key
  obtain ⟨c, e⟩ := I.ok.has y (.inl k1)
  exact ⟨c, k2.trans e⟩
 cab := fun y c h => by cases (show false = true from h)
 hd := I.ok.hd
 frames := I.ok.frames
 stk := .inl rfl
 exf := fun b hb => ⟨Nat.ne_of_lt (flt b hb), fun y c e => (ffp b hb).2.2.2.2.1 y c (hcl y c e)⟩
 bs := I.bs
 bsz := Nat.le_trans I.ok.bsz I.sz
 noex := fun b o e hb => by
  rcases (ffp b hb).2.2.2.1 with z | z
  ·exact I.ok.noex b o e z
  ·exact absurd (Nat.lt_of_lt_of_le (Heap.lt_size (I.ok.bs b o e).1) z) (Nat.lt_irrefl _)
 exfs := fun b hb z => by
  rcases List.mem_cons.mp (I.stkSub b z) with q | q
  ·exact (ffp b hb).2.1 q
  ·exact (ffp b hb).2.2.1 q
 funs := I.stack
 frf := I.stkFree
theorem iqU (I : Inv X pins σ H1 s3) (hkind : scope.kind = .function) (hcl : ∀ y c, cl.lookup y = some c → X.env.cells.lookup y = some c)
  (F : Frees X (relabel scope X.env) cl fx fr) (hfx : ((relabel scope X.env).names.all fun p => if (p.2 == .cell || p.2 == .free) then fx.contains p.1 else true) = true)
  (ffp : ∀ b ∈ fp, FpOk X pins H1 b) (flt : ∀ b ∈ fp, b < s3.heap.objs.size) {h1 : Heap} {t : Nat} {m : Str → Option Value} (hn : h1.Ns s3.heap.objs.size m)
  (keep : ∀ b u, s3.heap.get? b = some u → h1.get? b = some u) : Inv (compCx X (x :: x2 :: fx) scope cl s3 H1 fp) [] (none :: none :: frV σ fr) H1 { s3 with heap := h1, toks := t } := by
 refine ⟨mqq I hkind hcl F hfx ffp flt, rfl, I.bare, Un.kept keep, ⟨m, hn, fun i y v e1 e2 e3 => ?_⟩, fun y c e => ?_, I.hok.fresh (Nat.le_refl _), fun y c e => I.freeC y c (hcl y c e), fun p hp => absurd (show p ∈ ([] : List (Addr × Obj)) from hp) (by simp), I.hok.kept keep, ?_⟩
 ·cases i with
  | zero => simp at e2
  | succ j =>
   cases j with
   | zero => simp at e2
   | succ j =>
    obtain ⟨i0, k1, k2, k3, k4, k5⟩ := F.at (σ := σ) j y v (by simpa [compCx] using e1) (by simpa using e2)
    obtain ⟨m0, hn0, hl0⟩ := I.loc
    obtain ⟨u, r, l⟩ := hl0 i0 y v k1 k2 (.inr (.inl k3))
    refine ⟨u, r, ?_⟩
    rcases l with ⟨z, _⟩ | ⟨_, c, e, o, ho, hd⟩
    ·rw [k3] at z; cases z
    ·exact .inr ⟨.inl k4, c, k5.trans e, o, keep c o ho, hd⟩
 ·obtain ⟨v, o, ho, hd⟩ := I.cell y c (hcl y c e)
  exact ⟨v, o, keep c o ho, hd⟩
 ·show (none :: none :: frV σ fr).length = (x :: x2 :: fx).length
  simp [frV, F.len]
end
def CompI2 (K : PySem.W.Frag) (J : It) (p : Addr) (fv : St) (tt : TT) (te : TE) (Q : VK) (H1 : Hp) : Prop :=
 ∃ W : Nat → Nat → List V → Hp → Prop, (∃ m, W 0 m [] (upd H1 p (.lst []))) ∧ ∀ i m ys H2, W i m ys H2 → H2 p = some (.lst ys) ∧
  ((J.stop i H2 ∧ Q (.ref p) H2) ∨ (J.go i H2 ∧ ys.length < sizeLine ∧ ∀ z H3, J.yld i H2 z H3 → ∃ a x y, z = .ref a ∧ SqT K H3 a [x, y] ∧ tt (some x :: some y :: fv) H3 fun b H4 =>
   if b = true then te (some x :: some y :: fv) H4 fun y H5 => H5 p = some (.lst ys) ∧ ∃ m', m' < m ∧ W (i + 1) m' (ys ++ [y]) (upd H5 p (.lst (ys ++ [y])))
   else ∃ m', m' < m ∧ W (i + 1) m' ys H4))
def tComp2 (K : PySem.W.Frag) (wi : TI) (fr : List Nat) (tt : TT) (te : TE) : TE := fun σ H Q => wi σ H fun J H1 => ∀ p, H1 p = none → CompI2 K J p (frV σ fr) tt te Q H1
section
variable {X : Cx} {elt iter : Expr} {x x2 : Str} {px px2 ptx pos : Pos} {kx : Nat} {ifs : List Expr} {scope : Scope} {cl : List (Str × Addr)} {fx : List Str} {fr : List Nat} {wi : TI} {tt : TT} {te : TE}
theorem iq6 {pins : List (Addr × Obj)} {σ : St} {H3 : Hp} {s3 : Shared} {it p : Addr} {fp : List Addr} {tn : Nat → Heap → Prop} {J : It} {Q : VK} {W : Nat → Nat → List V → Hp → Prop} {m0 t : Nat} {h₁ : Heap} {m : Str → Option Value} {RR : Result → Shared → Prop}
  (hc : X.calm = true) (hkind : scope.kind = .function) (hx : scope.names.lookup x = some .local) (hx2 : scope.names.lookup x2 = some .local) (hnd : (x :: x2 :: fx).Nodup)
  (hcl : ∀ y c, cl.lookup y = some c → X.env.cells.lookup y = some c) (F : Frees X (relabel scope X.env) cl fx fr)
  (hfx : ((relabel scope X.env).names.all fun p => if (p.2 == .cell || p.2 == .free) then fx.contains p.1 else true) = true)
  (ht : ∀ s H fp, PF (compCx X (x :: x2 :: fx) scope cl s H fp) ifs tt) (he : ∀ s H fp, PE (compCx X (x :: x2 :: fx) scope cl s H fp) elt te)
  (I3 : Inv X pins σ H3 s3) (T : Turn X.prog X.w X.K (.Tuple [.Name x px, .Name x2 px2] kx ptx) J fp it tn) (st3 : tn 0 s3.heap) (ffp : ∀ b ∈ fp, FpOk X pins H3 b) (flt3 : ∀ b ∈ fp, b < s3.heap.objs.size)
  (w0 : W 0 m0 [] H3) (turn : ∀ i m ys H2, W i m ys H2 → H2 p = some (.lst ys) ∧
   ((J.stop i H2 ∧ Q (.ref p) H2) ∨ (J.go i H2 ∧ ys.length < sizeLine ∧ ∀ z H3, J.yld i H2 z H3 → ∃ a x y, z = .ref a ∧ SqT X.K H3 a [x, y] ∧ tt (some x :: some y :: frV σ fr) H3 fun b H4 =>
    if b = true then te (some x :: some y :: frV σ fr) H4 fun y H5 => H5 p = some (.lst ys) ∧ ∃ m', m' < m ∧ W (i + 1) m' (ys ++ [y]) (upd H5 p (.lst (ys ++ [y])))
    else ∃ m', m' < m ∧ W (i + 1) m' ys H4)))
  (hns : h₁.Ns s3.heap.objs.size m) (keep1 : ∀ b u, s3.heap.get? b = some u → h₁.get? b = some u)
  (fin : ∀ s6 H5 o o2, Inv (compCx X (x :: x2 :: fx) scope cl s3 H3 fp) [] (o :: o2 :: frV σ fr) H5 s6 → Q (.ref p) H5 → RR (.ok .next) s6) :
  codeAny (model X.prog X.w) X.A (.compStart (.ListComp elt [⟨.Tuple [.Name x px, .Name x2 px2] kx ptx, iter, ifs, 0⟩] scope pos) 0 (.ref it) (.ref p) (compEnvC scope cl s3.heap.objs.size X.env))
   RR { s3 with heap := h₁, toks := t } := by
 have I4 := iqU (x := x) (x2 := x2) (t := t) I3 hkind hcl F hfx ffp flt3 hns keep1
 have st4 : tn 0 h₁ := T.keep _ _ _ st3 fun b hb o e => keep1 b o e
 have fp0 : ∀ b ∈ fp, H3 b = none := fun b hb => (ffp b hb).1
 have hcal : (compCx X (x :: x2 :: fx) scope cl s3 H3 fp).calm = true := hc
 have stat : ∀ {H' : Hp}, (∀ b ∈ fp, H' b = none) → ∀ b ∈ fp, FpOk (compCx X (x :: x2 :: fx) scope cl s3 H3 fp) [] H' b := fun {H'} hn b hb => by
  obtain ⟨f0, f1, f2, f3, f4, f5⟩ := ffp b hb
  exact ⟨hn b hb, Nat.ne_of_lt (flt3 b hb), I4.ok.exfs b hb, .inl hb, fun y c e => f4 y c (hcl y c e), fun q hq => absurd (show q ∈ ([] : List (Addr × Obj)) from hq) (by simp)⟩
 have hxl : (relabel scope X.env).names.lookup x = some .local := lookup_relabel_local hx
 have hxl2 : (relabel scope X.env).names.lookup x2 = some .local := lookup_relabel_local hx2
 have pg : PG (compCx X (x :: x2 :: fx) scope cl s3 H3 fp) (.Tuple [.Name x px, .Name x2 px2] kx ptx) (gTup X.K 2 (gCons (gName 0) (gCons (gName 1) gNil))) := nqw hcal (aqH (aqz (i := 0) hnd rfl (.inl hxl) (.inr hxl)) (aqH (aqz (i := 1) hnd rfl (.inl hxl2) (.inr hxl2)) cqY))
 have loop : codeAny (model X.prog X.w) X.A (.compLoop (.ListComp elt [⟨.Tuple [.Name x px, .Name x2 px2] kx ptx, iter, ifs, 0⟩] scope pos) 0 (.ref it) (.ref p) (compEnvC scope cl s3.heap.objs.size X.env))
    RR { s3 with heap := h₁, toks := t } := by
  refine eq9 (fun n s' => ∃ i ys H' o o2, Inv (compCx X (x :: x2 :: fx) scope cl s3 H3 fp) [] (o :: o2 :: frV σ fr) H' s' ∧ tn i s'.heap ∧ (∀ b ∈ fp, H' b = none) ∧ W i n ys H') ?_ m0 ⟨0, [], _, none, none, I4, st4, fp0, w0⟩
  rintro n s5 ⟨i, ys, H5, o, o2, I5, st5, fr5, w5⟩
  obtain ⟨hp5, alt⟩ := turn i n ys H5 w5
  rcases alt with ⟨stop, qn⟩ | ⟨go, hlen, step⟩
  ·refine thn (T.done (compCx X (x :: x2 :: fx) scope cl s3 H3 fp) rfl rfl rfl hcal i [] s5 (o :: o2 :: frV σ fr) H5 _ I5 (stat fr5) st5 stop) fun r s6 W' => ?_
   obtain ⟨hr, I6⟩ := W'
   subst hr
   exact fin s6 H5 o o2 I6 qn
  ·refine thn (T.item (compCx X (x :: x2 :: fx) scope cl s3 H3 fp) rfl rfl rfl hcal i [] s5 (o :: o2 :: frV σ fr) H5 _ I5 (stat fr5) st5 go) fun r s6 W' => ?_
   obtain ⟨u, hr, h6⟩ := W'
   subst hr
   refine thn h6 fun _ s7 W' => ?_
   obtain ⟨y7, H7, I7, r7, yl7, st7, fr7⟩ := W'
   have I7' := I7.pinned (stat fr7) (T.obj _ _ st7)
   have back : ∀ {σ' : St} {H' : Hp} {s' : Shared}, Inv (compCx X (x :: x2 :: fx) scope cl s3 H3 fp) ([] ++ pinsAt fp s7.heap) σ' H' s' → tn (i + 1) s'.heap ∧ ∀ b ∈ fp, H' b = none := fun {σ' H' s'} I' => by
    refine ⟨T.keep _ _ _ st7 fun b hb o e => (I'.pin (b, o) (List.mem_append_right _ (List.mem_append_right _ (cql hb e)))).1, fun b hb => ?_⟩
    obtain ⟨o, e, d⟩ := T.obj _ _ st7 b hb
    exact (I'.pin (b, o) (List.mem_append_right _ (List.mem_append_right _ (cql hb e)))).2.1
   obtain ⟨a7, z1, z2, e7, q7, step7⟩ := step y7 _ yl7
   subst e7
   refine thn (pg _ s7 _ H7 (.ref a7) u (fun σ' H' => σ' = some z1 :: some z2 :: frV σ fr ∧ H' = H7) I7' r7 ⟨a7, [z1, z2], rfl, q7, rfl, z1, [z2], rfl, z2, [], rfl, rfl, rfl, rfl⟩) fun _ s8 W' => ?_
   obtain ⟨σ8, H8, I8, e8, e8'⟩ := W'
   subst e8 e8'
   refine thn (ht s3 H3 fp _ s8 _ _ _ I8 step7) fun b s9 W' => ?_
   obtain ⟨H9, I9, q9⟩ := W'
   cases b with
   | false =>
    rw [if_neg Bool.false_ne_true] at q9 ⊢
    obtain ⟨m', hm, w9⟩ := q9
    exact ⟨m', hm, i + 1, ys, H9, some z1, some z2, I9.unpinned, (back I9).1, (back I9).2, w9⟩
   | true =>
    rw [if_pos rfl] at q9 ⊢
    refine thn (he s3 H3 fp _ s9 _ H9 _ I9 q9) fun u10 s10 W' => ?_
    obtain ⟨y10, H10, I10, r10, hp10, m', hm, w10⟩ := W'
    refine thn (aqV _ s10 _ H10 (.ref p) [y10] (.ref p) [u10] (fun _ H' => H' = upd H10 p (.lst (ys ++ [y10]))) I10 rfl (.cons r10 .nil) ⟨p, ys, y10, rfl, rfl, hp10, hlen, rfl⟩) fun _ s11 W' => ?_
    obtain ⟨_, H11, I11, _, e11⟩ := W'
    subst e11
    exact ⟨m', hm, i + 1, ys ++ [y10], _, some z1, some z2, I11.unpinned, (back I11).1, (back I11).2, w10⟩
 exact codeAny_compStart_list loop (T.self _ 0 _ _ _ st4 loop)
theorem lqT (hc : X.calm = true) (hclos : closureFor scope X.env = pure cl) (hcell : ∀ y ∈ scope.names, y.2 ≠ .cell) (hkind : scope.kind = .function)
  (hnames : ∀ y ∈ scope.names, y.2 = .local → scope.names.lookup y.1 = some .local) (hx : scope.names.lookup x = some .local) (hx2 : scope.names.lookup x2 = some .local) (hnd : (x :: x2 :: fx).Nodup)
  (hk : (cl.all fun q => fx.contains q.1) = true) (F : Frees X (relabel scope X.env) cl fx fr)
  (hfx : ((relabel scope X.env).names.all fun p => if (p.2 == .cell || p.2 == .free) then fx.contains p.1 else true) = true)
  (hi : PI X (.Tuple [.Name x px, .Name x2 px2] kx ptx) iter wi) (ht : ∀ s H fp, PF (compCx X (x :: x2 :: fx) scope cl s H fp) ifs tt) (he : ∀ s H fp, PE (compCx X (x :: x2 :: fx) scope cl s H fp) elt te)
  (hs : ∀ x, foldedSetIterable iter X.env x = pure x := by intro _; rfl) :
  PE X (.ListComp elt [⟨.Tuple [.Name x px, .Name x2 px2] kx ptx, iter, ifs, 0⟩] scope pos) (tComp2 X.K wi fr tt te) := by
 intro pins s σ H Q I h
 have hcl : ∀ y c, cl.lookup y = some c → X.env.cells.lookup y = some c := fun y c e => by
  have q := List.all_eq_true.mp hk _ (PySem.mem_of_lookup e)
  rw [← (F.mem y (by simpa using q)).2]
  exact e
 rw [eval_ListComp]
 refine wpAny_comprehension_free (use := none) rfl hs hclos hkind hnames ?_
 refine thn (hi pins s σ H _ I h) fun v s1 h1 => thn h1 fun itv s2 h2 => ?_
 obtain ⟨it, fp, tn, J, H2, e, I2, T, st2, f2, q2⟩ := h2
 subst e
 have hp0 : H2 s2.heap.objs.size = none := I2.hok.fresh (Nat.le_refl _)
 obtain ⟨W, ⟨m0, w0⟩, turn⟩ := q2 _ hp0
 have flt : ∀ b ∈ fp, b < s2.heap.objs.size := fun b hb => by
  obtain ⟨o, e, _⟩ := T.obj _ _ st2 b hb
  exact Heap.lt_size e
 refine wpAny_newObj_type (wpAny_newFunctionEnv hcell (by intro y hy; simp at hy) (fun h₁ hns₁ hsb₁ => ?_) hkind)
 dsimp only at hns₁ hsb₁ ⊢
 have hlay : ∀ b u, s2.heap.get? b = some u → (s2.heap.push { cls := .type "list", dict := none, data := .seq ([] : List Value).toArray }).get? b = some u := fun b u e => Heap.get?_push_of_some _ e
 have hnew : (s2.heap.push { cls := .type "list", dict := none, data := .seq ([] : List Value).toArray }).get? s2.heap.objs.size = some { cls := .type "list", dict := none, data := .seq ([] : List Value).toArray } := Heap.get?_push_size _ rfl
 have hsz : (s2.heap.push { cls := .type "list", dict := none, data := .seq ([] : List Value).toArray }).objs.size = s2.heap.objs.size + 1 := Heap.size_push _ _
 generalize hHH : s2.heap.push { cls := .type "list", dict := none, data := .seq ([] : List Value).toArray } = HH at hns₁ hsb₁ hlay hnew hsz ⊢
 have I3 : Inv X pins σ (upd H2 s2.heap.objs.size (.lst [])) { s2 with heap := HH, toks := s2.toks } :=
  I2.laid (t' := s2.toks) (o := .lst []) hlay (Nat.le_refl _) ⟨Nat.zero_le _, [], 0, .nil, hnew⟩
 have ffp : ∀ b ∈ fp, FpOk X pins (upd H2 s2.heap.objs.size (.lst [])) b := fun b hb => by
  obtain ⟨f0, fr'⟩ := f2 b hb
  exact ⟨by rw [aqx (Nat.ne_of_lt (flt b hb))]; exact f0, fr'⟩
 have keep1 : ∀ b u, HH.get? b = some u → h₁.get? b = some u := fun b u e => hsb₁.extBut b u (Nat.ne_of_lt (Heap.lt_size e)) (Heap.get?_push_of_some _ e)
 exact iq6 (s3 := { s2 with heap := HH, toks := s2.toks }) hc hkind hx hx2 hnd hcl F hfx ht he I3 T (T.keep _ _ _ st2 fun b hb o e => hlay b o e) ffp (fun b hb => by show b < HH.objs.size; rw [hsz]; exact Nat.lt_succ_of_lt (flt b hb)) w0 turn hns₁ keep1 fun s6 H5 o o2 I6 qn => by
  obtain ⟨m, hn6, _⟩ := id I6.loc
  exact ⟨m, hn6, fun h' sb => ⟨.ref _, H5, gqn I3 I6 ffp sb, rfl, qn⟩⟩
theorem lqA {K : PySem.W.Frag} (h : X.K = K) (hc : X.calm = true) (hclos : closureFor scope X.env = pure cl) (hcell : ∀ y ∈ scope.names, y.2 ≠ .cell) (hkind : scope.kind = .function)
  (hnames : ∀ y ∈ scope.names, y.2 = .local → scope.names.lookup y.1 = some .local) (hx : scope.names.lookup x = some .local) (hx2 : scope.names.lookup x2 = some .local) (hnd : (x :: x2 :: fx).Nodup)
  (hk : (cl.all fun q => fx.contains q.1) = true) (F : Frees X (relabel scope X.env) cl fx fr)
  (hfx : ((relabel scope X.env).names.all fun p => if (p.2 == .cell || p.2 == .free) then fx.contains p.1 else true) = true)
  (hi : PI X (.Tuple [.Name x px, .Name x2 px2] kx ptx) iter wi) (ht : ∀ s H fp, PF (compCx X (x :: x2 :: fx) scope cl s H fp) ifs tt) (he : ∀ s H fp, PE (compCx X (x :: x2 :: fx) scope cl s H fp) elt te)
  (hs : ∀ x, foldedSetIterable iter X.env x = pure x := by intro _; rfl) :
  PE X (.ListComp elt [⟨.Tuple [.Name x px, .Name x2 px2] kx ptx, iter, ifs, 0⟩] scope pos) (tComp2 K wi fr tt te) := by
 subst h; exact lqT hc hclos hcell hkind hnames hx hx2 hnd hk F hfx hi ht he hs
end
section
variable {p : Addr} {fv : St} {te : TE} {Q : VK} {H1 : Hp} {K : PySem.W.Frag}
theorem lqN {tl : TE} {tt : TT} {fr : List Nat} {σ : St} {H : Hp} : (tComp2 K (iTup K tl) fr tt te σ H Q) = (tl σ H fun x H1 => ∃ a, x = .ref a ∧ (∃ xs, SqT K H1 a xs) ∧ ∀ p, H1 p = none → CompI2 K (Itt K a) p (frV σ fr) tt te Q H1) := rfl
end
section
variable {X : Cx}
def rFind : V → List V → Hp → VK → Prop := fun x vs H Q => match x, vs with
 | .str z, [.str y] => Q (.int (Txt.find z y)) H
 | _, _ => False
theorem oqq {z y : Str} {H : Hp} {Q : VK} : (rFind (.str z) [.str y] H Q) = (Q (.int (Txt.find z y)) H) := rfl
end
end L2
namespace Wm
open PySem L2
end Wm
namespace Wm
end Wm
namespace L2
open PySem
theorem pqb {l : Addr} {H : Hp} {Q : VK} {i : Int} : rPopAt (.ref l) [.int i] H Q ↔ ∃ xs k y, H l = some (.lst xs) ∧ -(2 ^ 63) ≤ i ∧ i < 2 ^ 63 ∧ seqIndex? i xs.length = some k ∧ xs[k]? = some y ∧ Q y (upd H l (.lst (xs.eraseIdx k))) :=
 ⟨fun ⟨_, xs, _, k, y, h1, h2, h⟩ => by cases h1; cases h2; exact ⟨xs, k, y, h⟩, fun ⟨xs, k, y, h⟩ => ⟨_, xs, _, k, y, rfl, rfl, h⟩⟩
end L2
namespace L2
open PySem PySem.Spec PySem.W PyProof.Rows
abbrev vErr : List Value := [.type "ValueError", .type "Exception", .type "BaseException", .type "object"]
abbrev vNew : String := "ValueError.__new__"
def tRaise (E : XK) (C : Addr) : TS := fun _ _ H => E (.ref C) none H
theorem jqG {E : XK} {C : Addr} {D : Ends} {σ : St} {H : Hp} : (tRaise E C D σ H) = (E (.ref C) none H) := rfl
structure Flown (P : Program) (w : World) (base : Heap) (outer : List Env) (H : Hp) (s : Shared) (a t C : Addr) (B : Heap) (H' : Hp) (s' : Shared) : Prop where
 os : s'.os = s.os
 bare : AllBare s'.gens
 st : base.StaysIn B
 fly : Heap.FlyingW B outer a (.ref C) (.ref t) s'.heap
 hok : HOk P w H' B
 un : Un (frs outer) [] H H' s.heap s'.heap
 kb : ∀ b o, s.heap.get? b = some o → H b = none → b ∉ frs outer → B.get? b = some o
 thB : ∀ b o, s.heap.get? b = some o → b ∉ frs outer → ∃ o', B.get? b = some o'
section
variable {P : Program} {w : World} {K : Frag} {mg : Str → Option Value} {base : Heap} {N : List Str} {qual : Str} {scope : Scope} {f : Addr} {cd : Value} {A : Around} {outer : List Env} {s : Shared} {H : Hp} {E : XK}
end
def exO (a C : Addr) : HO := .ext fun h => ∃ o, h.get? a = some o ∧ o.cls = .ref C
section
variable {X : Cx} {pins : List (Addr × Obj)} {σ : St} {H H1 H2 : Hp} {s s1 s2 : Shared}
end
structure Catch (K : Frag) (W : Addr) : Prop where
 ty : typeIn K (.ref W) = some (.type "type")
 ex : subIn K (.ref W) (.type "BaseException") = some true
 cl : (clsIn K W).isSome = true
def tTry (K : Frag) (sp : Sp) (t : TA) (W : Addr) (i : Nat) (tb : TS) : TS := fun D σ H => t σ H fun vs H1 => sp vs H1 (fun _ H2 => D.nx σ H2) fun cls _ H2 =>
 ∃ C, cls = .ref C ∧ subIn K (.ref C) (.ref W) = some true ∧ ∀ a, H2 a = none → tb { nx := fun σ' H' => D.nx (σ'.set i none) H', rt := D.rt } (σ.set i (some (.ref a))) (upd H2 a (exO a C))
end L2
namespace L2
open PySem PySem.Spec PySem.W PySem.Calls PyProof.Rows PySem.Builtin PySem.Builtin.ObjectAttr PySem.Builtin.Getset_descriptor
structure ExLook (K : Frag) (C : Addr) : Prop where
 ga : findIn K (.ref C) "__getattribute__" = some (some (.builtin "BaseException.__getattribute__"))
 cl : findIn K (.ref C) "__class__" = some (some (.builtin "object.__class__"))
 na : findIn K (.ref C) "__getattr__" = some none
 mo : mroIn K C (.type "object") = some true
 mb : mroIn K C (.type "BaseException") = some true
 is : (clsIn K C).isSome = true
section
variable {prog : Program} {w : World} {A : Around} {E : Value → Shared → Prop} {hh : Heap} {g : Array GenState} {dr : Drawn} {t : Nat} {os : OsState} {K : Frag} {a C : Addr} {o : Obj}
end
inductive KitAns (K : Frag) (H : Hp) (C : Addr) : V → Bool → Prop
 | cls {W : Addr} {b : Bool} : kitOne K (.ref C) (.ref W) = some b → KitAns K H C (.ref W) b
 | ty {T : String} {b : Bool} : kitOne K (.ref C) (.type T) = some b → KitAns K H C (.ty T) b
 | tup {p : Addr} {cs : List Addr} {b : Bool} : H p = some (.tup (cs.map V.ref)) → kitAny K (.ref C) (cs.map Value.ref) = some b → KitAns K H C (.ref p) b
def rIsE (K : Frag) : List V → Hp → VK → Prop := fun vs H Q => ∃ a c C b, vs = [.ref a, c] ∧ H a = some (exO a C) ∧ ExLook K C ∧ KitAns K H C c b ∧ Q (.bl b) H
end L2
namespace L2
open PySem PySem.W
theorem pqP {K : Frag} {a : Addr} {c : V} {H : Hp} {Q : VK} : rIsE K [.ref a, c] H Q ↔ ∃ C b, H a = some (exO a C) ∧ ExLook K C ∧ KitAns K H C c b ∧ Q (.bl b) H :=
 ⟨fun ⟨_, _, C, b, e, h⟩ => by cases e; exact ⟨C, b, h⟩, fun ⟨C, b, h⟩ => ⟨a, c, C, b, rfl, h⟩⟩
theorem pqu {K : Frag} {sp : Sp} {t : TA} {W : Addr} {i : Nat} {tb : TS} {D : Ends} {σ : St} {H : Hp} : tTry K sp t W i tb D σ H ↔ t σ H fun vs H1 => sp vs H1 (fun _ H2 => D.nx σ H2) fun cls _ H2 =>
 ∃ C, cls = .ref C ∧ subIn K (.ref C) (.ref W) = some true ∧ ∀ a, H2 a = none → tb { nx := fun σ' H' => D.nx (σ'.set i none) H', rt := D.rt } (σ.set i (some (.ref a))) (upd H2 a (exO a C)) := Iff.rfl
end L2
namespace L2
open PySem PySem.Spec PyProof.Rows
section
variable {X : Cx}
def rStarts : V → List V → Hp → VK → Prop := fun x vs H Q => ∃ z y, ∃ i : Nat, x = .str z ∧ vs = [.str y, .int (i : Int)] ∧ Q (.bl (decide (i + y.length ≤ z.length) && Builtin.Str.subAt z y i)) H
end
section
variable {X : Cx}
def rPart : V → List V → Hp → VK → Prop := fun x vs H Q => ∃ z y, x = .str z ∧ vs = [.str y] ∧ (y.length == 0) = false ∧ z.length ≤ sizeLine ∧
 ∀ p, H p = none → Q (.ref p) (upd H p (.tup [.str (Txt.partition z y).1, .str (Txt.partition z y).2.1, .str (Txt.partition z y).2.2]))
end
section
variable {X : Cx}
def rIntS : List V → Hp → VK → Prop := fun xs H Q => ∃ z n, xs = [.str z] ∧ z.length ≤ 640 ∧ PySem.intText? z = some n ∧ Q (.int n) H
theorem iqs : CallR X (.type "int") rIntS := by
 intro pins s σ H xs us Q I r h
 obtain ⟨z, n, rfl, hz, hn, q⟩ := h
 obtain ⟨u, rfl, t, rfl⟩ := vals1 r
 exact PySem.W.KIN.call_text hn hz ⟨.int n, H, I.tok _, ⟨_, rfl⟩, q⟩
theorem oqF {z : Str} {H : Hp} {Q : VK} : rIntS [.str z] H Q ↔ ∃ n, z.length ≤ 640 ∧ PySem.intText? z = some n ∧ Q (.int n) H :=
 ⟨fun ⟨_, n, e, h⟩ => by cases e; exact ⟨n, h⟩, fun ⟨n, h⟩ => ⟨z, n, rfl, h⟩⟩
theorem qqb {z y : Str} {i : Nat} {H : Hp} {Q : VK} : rStarts (.str z) [.str y, .int (i : Int)] H Q ↔ Q (.bl (decide (i + y.length ≤ z.length) && Builtin.Str.subAt z y i)) H :=
 ⟨fun ⟨_, _, j, e1, e2, h⟩ => by
  cases e1
  injection e2 with e2 e3
  cases e2
  injection e3 with e3
  injection e3 with e3
  obtain rfl : i = j := by omega
  exact h, fun h => ⟨z, y, i, rfl, rfl, h⟩⟩
theorem pqg {z y : Str} {H : Hp} {Q : VK} : rPart (.str z) [.str y] H Q ↔ (y.length == 0) = false ∧ z.length ≤ sizeLine ∧ ∀ p, H p = none → Q (.ref p) (upd H p (.tup [.str (Txt.partition z y).1, .str (Txt.partition z y).2.1, .str (Txt.partition z y).2.2])) :=
 ⟨fun ⟨_, _, e1, e2, h⟩ => by cases e1; cases e2; exact h, fun h => ⟨z, y, rfl, rfl, h⟩⟩
theorem pqO {K : PySem.W.Frag} {ta : TE} {f : Str} {σ : St} {H : Hp} {Q : VK} : (tFld K ta f σ H Q) = (ta σ H fun x H1 => ∃ a C dx fs v, x = .ref a ∧ H1 a = some (.ins C dx fs) ∧ Cls K C ∧ NoAttr K C f ∧ fs.lookup f = some v ∧ Q v H1) := rfl
theorem oqm {K : PySem.W.Frag} {ta tv : TE} {f : Str} {D : Ends} {σ : St} {H : Hp} : (sFld K ta tv f D σ H) = (tv σ H fun y H1 => ta σ H1 fun x H2 => ∃ a C dx fs, x = .ref a ∧ H2 a = some (.ins C dx fs) ∧ Cls K C ∧ NoAttr K C f ∧ fs.length < 1000 ∧ D.nx σ (upd H2 a (.ins C dx (putF f y fs)))) := rfl
theorem nq7 {C : Addr} {m : Str} {sp : Sp} {dvs : List V} {E : XK} {ta : TE} {t : TA} {σ : St} {H : Hp} {Q : VK} : (tMeth C m sp dvs E ta t σ H Q) = (ta σ H fun x H1 => ∃ a dx fs, x = .ref a ∧ H1 a = some (.ins C dx fs) ∧ fs.lookup m = none ∧ t σ H1 fun vs H2 => sp (x :: (vs ++ dvs)) H2 Q E) := rfl
theorem oqv {C : Addr} {sp : Sp} {dvs : List V} {E : XK} {t : TA} {σ : St} {H : Hp} {Q : VK} : (tMake C sp dvs E t σ H Q) = (t σ H fun vs H1 => ∀ x dx, H1 x = none → H1 dx = none → dx ≠ x → sp (.ref x :: (vs ++ dvs)) (upd (upd H1 dx (.own x)) x (.ins C dx [])) (fun v H2 => v = .non ∧ Q (.ref x) H2) E) := rfl
end
end L2
namespace Wm
open PySem L2
def ahead (t : List Nat) : List Nat := t.takeWhile fun c => decide (c ≠ 58)
inductive WrT (fr : List Nat) : List Nat → List Nat → Prop
 | nil : WrT fr [] []
 | self {c : Nat} {s w : List Nat} : (isPl c = true ∨ c ∈ fr) → c ≠ 126 → WrT fr s w → WrT fr (c :: s) (c :: w)
 | pair {c a b : Nat} {s w : List Nat} : sgO a b = some c → WrT fr s w → WrT fr (c :: s) (126 :: a :: b :: w)
section
variable {K : PySem.W.Frag} {H : Hp} {C p : Addr} {t : List Nat} {i : Nat}
end
def frS : List Nat := (Str.ofString "!$'()*,;@&=+").cps.toList
def frQ : List Nat := (Str.ofString "!$'()*,;@+/?:").cps.toList
def ValW (o : Option (List Nat)) (w : List Nat) : Prop := match o with
 | none => w = []
 | some s => ∃ v, w = 61 :: v ∧ WrT frQ s v
inductive TlW : List (List Nat) → Bool → List Nat → Prop
 | stop : TlW [] false []
 | ends : TlW [] true [47]
 | more {s w : List Nat} {ss : List (List Nat)} {e : Bool} {v : List Nat} : WrT frS s w → s ≠ [] → TlW ss e v → TlW (s :: ss) e (47 :: (w ++ v))
inductive StpW : List (List Nat) → Bool → List Nat → Prop
 | none {e : Bool} : StpW [] e []
 | some {s w : List Nat} {ss : List (List Nat)} {e : Bool} {v : List Nat} : WrT frS s w → s ≠ [] → TlW ss e v → StpW (s :: ss) e (w ++ v)
inductive PrsW : List (List Nat × Option (List Nat)) → List Nat → Prop
 | nil : PrsW [] []
 | cons {n w v : List Nat} {o : Option (List Nat)} {ps : List (List Nat × Option (List Nat))} {r : List Nat} : WrT frQ n w → n ≠ [] → ValW o v → PrsW ps r → PrsW ((n, o) :: ps) (38 :: (w ++ (v ++ r)))
def fgS : List Nat := (Str.ofString "0123456789").cps.toList
theorem qqr {c : Nat} : c ∈ fgS ↔ 48 ≤ c ∧ c ≤ 57 := by
 rw [show fgS = [48, 49, 50, 51, 52, 53, 54, 55, 56, 57] by decide +kernel]
 simp only [List.mem_cons, List.not_mem_nil, or_false]
 omega
def valD (ds : List Nat) : Nat := ds.foldl (fun a c => a * 10 + (c - 48)) 0
theorem lqv (ds : List Nat) (c : Nat) : valD (ds ++ [c]) = valD ds * 10 + (c - 48) := by unfold valD; rw [List.foldl_append]; rfl
end Wm
namespace L2
open PySem
end L2
namespace Wm
open PySem L2
theorem gqT : ∀ n : Nat, valD ((Nat.toDigits 10 n).map Char.toNat) = n ∧ (Nat.toDigits 10 n).map Char.toNat ≠ [] ∧ (((Nat.toDigits 10 n).map Char.toNat).head? = some 48 → n = 0)
 | n => by
  by_cases h : n < 10
  ·rw [Nat.toDigits_of_lt_base h]
   have key : ∀ n, n < 10 → valD ([Nat.digitChar n].map Char.toNat) = n ∧ ([Nat.digitChar n].map Char.toNat).head? = some (48 + n) := by decide +kernel
   obtain ⟨k1, k2⟩ := key n h
   refine ⟨k1, by simp, fun z => ?_⟩
   rw [k2] at z
   injection z with z
   omega
  ·have h' : 10 ≤ n := by omega
   rw [Nat.toDigits_of_base_le (by decide) h', List.map_append]
   obtain ⟨i1, i2, i3⟩ := gqT (n / 10)
   have key : ∀ n, n < 10 → ([Nat.digitChar n].map Char.toNat) = [48 + n] := by decide +kernel
   rw [key (n % 10) (by omega), lqv, i1]
   refine ⟨by omega, by simp, fun z => ?_⟩
   cases hh : (Nat.toDigits 10 (n / 10)).map Char.toNat with
   | nil => exact absurd hh i2
   | cons c r =>
    rw [hh] at z i3
    have := i3 z
    omega
def GoodsT (n : Nat) (H : Hp) (vs : List V) : Prop := ∀ v ∈ vs, ∃ x : Ad, (x.Wf ∧ x.Tiny ∧ x.steps.length ≤ n) ∧ IsT H x.data v
theorem GoodsT.cons {n : Nat} {H : Hp} {v : V} {vs : List V} {x : Ad} (h1 : x.Wf ∧ x.Tiny ∧ x.steps.length ≤ n) (h3 : IsT H x.data v) (h : GoodsT n H vs) : GoodsT n H (v :: vs) := fun u hu => by
 rcases List.mem_cons.mp hu with rfl | hu
 ·exact ⟨x, h1, h3⟩
 ·exact h u hu
theorem Ad.Tiny.local {x : Ad} (h : x.Tiny) : ({ x with scheme := [], house := none, door := none } : Ad).Tiny := ⟨h.stp, h.que, h.mar, fun l e => by cases e⟩
end Wm
namespace L2
open PySem
end L2
namespace Wm
open PySem L2
def PrW (p : List Nat × Option (List Nat)) (w : List Nat) : Prop := ∃ a v, w = a ++ v ∧ WrT frQ p.1 a ∧ ValW p.2 v
inductive PrWs : List (List Nat × Option (List Nat)) → List (List Nat) → Prop
 | nil : PrWs [] []
 | cons {p : List Nat × Option (List Nat)} {w : List Nat} {ps : List (List Nat × Option (List Nat))} {ws : List (List Nat)} : PrW p w → PrWs ps ws → PrWs (p :: ps) (w :: ws)
inductive StWs : List (List Nat) → List (List Nat) → Prop
 | nil : StWs [] []
 | cons {s w : List Nat} {ss ws : List (List Nat)} : WrT frS s w → StWs ss ws → StWs (s :: ss) (w :: ws)
end Wm
namespace L2
open PySem PySem.Spec PyProof.Rows
section
variable {X : Cx} {pins : List (Addr × Obj)} {σ : St} {H : Hp} {s : Shared} {h' : Heap}
theorem Inv.walked {t' : Nat} {wr : List Addr} {T : Addr} {o : HO} (I : Inv X pins σ H s) (hf : ∀ b ∈ wr, FpOk X pins H b) (k : ∀ b u, b ∉ wr → s.heap.get? b = some u → h'.get? b = some u) (hT : s.heap.objs.size ≤ T)
  (new : ObjOk X.prog X.w (upd H T o) h' T o) : Inv X pins σ (upd H T o) { s with heap := h', toks := t' } := by
 have hn : H T = none := I.hok.fresh hT
 have nw : ∀ b u, H b = some u → b ∉ wr := fun b u e z => by rw [(hf b z).1] at e; cases e
 refine I.step (g' := s.gens) (d' := s.drawn) (ch := wr) (fun b hb => ?_) (fun b u _ _ hc e _ => k b u hc e) (fun b u _ _ hc e _ => ⟨u.slots, k b u hc e⟩) (fun b u _ q n => ?_)
  (fun b u hc e => ⟨u, k b u hc e⟩) (fun b xs q => ?_) (fun b u xs q => ?_) (fun b ps q => ?_) (fun m hm => ?_) (fun b u e => ?_) I.bare
 ·obtain ⟨f0, f1, f2, f3, f4, f5⟩ := hf b hb
  exact ⟨f3, f1, f4, f5⟩
 ·rw [aqx (Nat.ne_of_lt (Nat.lt_of_lt_of_le (Heap.lt_size q) hT))]; exact n
 ·rw [aqx (aqw q hn)]; exact q
 ·rw [aqx (aqw q hn)]; exact q
 ·exact ⟨#[], by rw [aqx (aqw q hn), q]; simp⟩
 ·obtain ⟨u, es, ep, ho, r⟩ := hm
  refine ⟨u, es, ep, k _ u (fun z => ?_) ho, r⟩
  exact (hf _ z).2.1 rfl
 ·by_cases hb : b = T
  ·subst hb; rw [aqq] at e; cases e; exact new
  ·rw [aqx hb] at e
   refine (I.hok b u e).stay (fun c v hc q => k c v ?_ q) (fun c q => by rw [aqx (aqw q hn)]; exact q) fun c xs q => by rw [aqx (aqw q hn)]; exact q
   rcases hc with z | z
   ·rw [z]; exact nw b u e
   ·exact nw c _ z
theorem Inv.turnedL {t' : Nat} {wr : List Addr} (I : Inv X pins σ H s) (hf : ∀ b ∈ wr, FpOk X pins H b) (k : ∀ b u, b ∉ wr → s.heap.get? b = some u → h'.get? b = some u) : Inv X pins σ H { s with heap := h', toks := t' } := by
 have nw : ∀ b u, H b = some u → b ∉ wr := fun b u e z => by rw [(hf b z).1] at e; cases e
 refine I.step (g' := s.gens) (d' := s.drawn) (ch := wr) (fun b hb => ?_) (fun b u _ _ hc e _ => k b u hc e) (fun b u _ _ hc e _ => ⟨u.slots, k b u hc e⟩) (fun _ _ _ _ n => n)
  (fun b u hc e => ⟨u, k b u hc e⟩) (fun _ _ e => e) (fun _ _ _ e => e) (fun b ps e => ⟨#[], by rw [e]; simp⟩) (fun m hm => ?_) (fun b u e => ?_) I.bare
 ·obtain ⟨f0, f1, f2, f3, f4, f5⟩ := hf b hb
  exact ⟨f3, f1, f4, f5⟩
 ·obtain ⟨u, es, ep, ho, r⟩ := hm
  refine ⟨u, es, ep, k _ u (fun z => ?_) ho, r⟩
  exact (hf _ z).2.1 rfl
 ·refine (I.hok b u e).stay (fun c v hc q => k c v ?_ q) (fun _ q => q) fun _ _ q => q
  rcases hc with z | z
  ·rw [z]; exact nw b u e
  ·exact nw c _ z
end
def ItW (n : Nat) (ok : Hp → Prop) (pt : Nat → Hp → List V → Prop) : It :=
 ⟨fun i H => i < n ∧ ok H, fun i H x H' => ∃ T xs, x = .ref T ∧ H T = none ∧ H' = upd H T (.tup xs) ∧ pt i H xs, fun i H => i = n ∧ ok H⟩
theorem fqM {P : Program} {w : World} {K : PySem.W.Frag} {elts : List Expr} {k : Nat} {pos : Pos} {I : Addr} {fp wr fq : List Addr} {n : Nat} {α : Type} {Pt : α → Nat → Array Value → Prop} {Sn : α → Nat → Heap → Prop} {Mid : α → Nat → Addr → Heap → Prop} {tn : Nat → Heap → Prop} {ok : Hp → Prop} {pt : Nat → Hp → List V → Prop}
  (hI : I ∈ fq) (hq : ∀ b ∈ wr, b ∈ fq) (hW : ∀ (A : Around) (a : α), A.handled = none → WalksT P w A I fp wr n (Pt a) (Sn a) (Mid a))
  (hself : ∀ (A : Around) (i : Nat) (s : Shared) (Q : Value → Shared → Prop) (E : Value → Shared → Prop), tn i s.heap → Q (.ref I) s → wpAny (model P w) A (pyIter (.ref I)) Q E s)
  (hobj : ∀ i h, tn i h → ∀ b ∈ fq, ∃ o, h.get? b = some o ∧ ∀ v, o.data ≠ .cell v)
  (hkeep : ∀ i h h', tn i h → (∀ b ∈ fq, ∀ o, h.get? b = some o → h'.get? b = some o) → tn i h')
  (hin : ∀ (X : Cx), X.prog = P → X.w = w → X.K = K → ∀ (i : Nat) (pins : List (Addr × Obj)) (s : Shared) (σ : St) (H : Hp), Inv X pins σ H s → (∀ b ∈ fq, FpOk X pins H b) → tn i s.heap → ok H → ∃ a, Sn a i s.heap ∧ ∀ vals, Pt a i vals → ∃ xs, xs.length ≤ sizeLine ∧ Vals xs vals.toList ∧ pt i H xs)
  (hout : ∀ a i h, Sn a i h → tn i h) :
  Turn P w K (.Tuple elts k pos) (ItW n ok pt) fq I tn where
 mem := hI
 obj := hobj
 keep := hkeep
 item := by
  intro X hP hw hK hc i pins s σ H E J hf st hg
  obtain ⟨hi, hok⟩ := hg
  have hfw : ∀ b ∈ wr, FpOk X pins H b := fun b hb => hf b (hq b hb)
  obtain ⟨a, hst, hv⟩ := hin X hP hw hK i pins s σ H J hf st hok
  obtain ⟨hW1, hW2, hW3, hW4, hW5, hW6, hW7⟩ := hW X.A a (J.ok.hd hc)
  refine hW3 i s _ E hi hst fun T vals h1 tk hPt hT hTup hmid hk => ?_
  refine ⟨.ref T, rfl, ?_⟩
  refine hW4 elts k pos i T _ _ E hmid fun h2 st2 hk2 => ?_
  obtain ⟨xs, hxl, hvs, hpt⟩ := hv vals hPt
  have hTw : T ∉ wr := hW5 i T h1 hmid
  have hTn : H T = none := J.hok.fresh hT
  have hk3 : ∀ b u, b ∉ wr → s.heap.get? b = some u → h2.get? b = some u := fun b u hb e => hk2 b u hb (hk b u hb e)
  obtain ⟨o, ho, hcl, m, hd⟩ := hTup
  have hT2 : IsTup h2 T vals.toList.toArray := by
   refine ⟨o, hk2 T o hTw ho, hcl, m, ?_⟩
   rw [hd]
  refine ⟨.ref T, upd H T (.tup xs), J.walked (t' := tk) hfw hk3 hT ⟨hxl, vals.toList, hvs, hT2⟩, rfl, ⟨T, xs, rfl, hTn, rfl, hpt⟩, hout a _ _ st2, fun b hb => ?_⟩
  have : b ≠ T := fun z => by
   obtain ⟨o, e, _⟩ := hobj i _ st b hb
   exact absurd (Heap.lt_size e) (by rw [z]; exact Nat.not_lt.mpr hT)
  rw [aqx this]
  exact (hf b hb).1
 done := by
  intro X hP hw hK hc i pins s σ H E J hf st hg
  obtain ⟨hi, hok⟩ := hg
  subst hi
  have hfw : ∀ b ∈ wr, FpOk X pins H b := fun b hb => hf b (hq b hb)
  obtain ⟨a, hst, _⟩ := hin X hP hw hK i pins s σ H J hf st hok
  obtain ⟨hW1, hW2, hW3, hW4, hW5, hW6, hW7⟩ := hW X.A a (J.ok.hd hc)
  exact hW6 s _ E hst fun h1 tk hk => ⟨rfl, J.turnedL hfw hk⟩
 self := hself
section
variable {σ : St} {H : Hp} {D : Ends} {g : TG} {tb : TS}
theorem gqj {n : Nat} {ok : Hp → Prop} {pt : Nat → Hp → List V → Prop} (Pv : Nat → St → Hp → Prop) (h0 : Pv 0 σ H) (hl : ∀ i σ H, i ≤ n → Pv i σ H → ok H)
  (hs : ∀ i σ H T xs, i < n → Pv i σ H → H T = none → pt i H xs → g (.ref T) σ (upd H T (.tup xs)) fun σ2 H2 => tb { D with nx := Pv (i + 1), ct := Pv (i + 1), bk := D.nx } σ2 H2) (hd : ∀ σ H, Pv n σ H → D.nx σ H) : LoopI (ItW n ok pt) g tb D σ H := by
 refine ⟨fun i m σ H => m = n - i ∧ i ≤ n ∧ Pv i σ H, ⟨n, by simp, Nat.zero_le _, h0⟩, ?_⟩
 rintro i m σ H ⟨rfl, hi, p⟩
 have hq := hl i σ H hi p
 by_cases hlt : i < n
 ·refine .inr ⟨⟨hlt, hq⟩, Pv (i + 1), fun σ' H' p' => ⟨n - (i + 1), by omega, rfl, hlt, p'⟩, fun x H' y => ?_⟩
  obtain ⟨T, xs, rfl, hT, rfl, hp⟩ := y
  exact hs i σ _ T xs hlt p hT hp
 ·have e : i = n := by omega
  subst e
  exact .inl ⟨⟨rfl, hq⟩, hd σ H p⟩
end
section
variable {prog : Program} {w : World} {A : Around} {E : Value → Shared → Prop} {s : Shared}
theorem kqB {it a : Addr} {i : Nat} {its : Array Value} {x : Value} {Q : Value → Shared → Prop} (hi : s.heap.IsTupleIter it a i) (ha : s.heap.IsTuple a its) (hx : its[i]? = some x)
  (q : ∀ h', h'.IsTupleIter it a (i + 1) → Heap.SameBut it s.heap h' → Q x { s with heap := h' }) : wpAny (model prog w) A (Builtin.SmallTypes.nextOf (.ref it)) Q E s := by
 obtain ⟨u, hu, hcu, hdu⟩ := id hi
 obtain ⟨v, hv, _, m, hdv⟩ := ha
 unfold Builtin.SmallTypes.nextOf
 refine wpAny_bind (wpAny_callSpecial?_slot (name := Str.ofString "__next__") hi.typeIs F.slot_tuple_iterator_next (wpAny_call_entry F.slot_tuple_iterator_next hi.typeIs F.entry_tuple_iterator_next ?_ (F.args_tuple_iterator_next_1 _)))
 show wpAny _ _ (field (.ref it) 0 >>= _) _ _ _
 refine wpAny_bind (wpAny_field hu hdu (x := .ref a) rfl ?_)
 show wpAny _ _ (if (Value.ref a == Value.none) = true then _ else _) _ _ _
 rw [if_neg (by exact Bool.false_ne_true)]
 show wpAny _ _ (field (.ref it) 1 >>= _) _ _ _
 refine wpAny_bind (wpAny_field hu hdu (x := .int i 0) rfl ?_)
 show wpAny _ _ (seqItems? (.ref a) >>= _) _ _ _
 refine wpAny_bind (wpAny_seqItems hv hdv ?_)
 simp only [Int.toNat_natCast, hx]
 refine wpAny_bind (wpAny_setField hu hdu (by simp) (wpAny_pure ⟨x, rfl, wpAny_pure (q _ ⟨_, Heap.get?_update_self _ hu (Obj.isFreed_of_fields (Obj.data_mapFields hdu _)), (Obj.cls_mapFields ..).trans hcu, ?_⟩ (Heap.SameBut.update ..))⟩))
 rw [Obj.data_mapFields hdu]
 simp [rawInt]
theorem kq0 {it a : Addr} {i : Nat} {its : Array Value} {Q : Value → Shared → Prop} (hh : A.handled = none) (hi : s.heap.IsTupleIter it a i) (ha : s.heap.IsTuple a its) (hx : its[i]? = none)
  (q : ∀ h' e, Heap.ExtBut it s.heap h' → (∃ o, h'.get? e = some o ∧ o.cls = .type "StopIteration") → E (.ref e) { s with heap := h' }) : wpAny (model prog w) A (Builtin.SmallTypes.nextOf (.ref it)) Q E s := by
 obtain ⟨u, hu, hcu, hdu⟩ := id hi
 obtain ⟨v, hv, _, m, hdv⟩ := ha
 unfold Builtin.SmallTypes.nextOf
 refine wpAny_bind (wpAny_callSpecial?_slot (name := Str.ofString "__next__") hi.typeIs F.slot_tuple_iterator_next (wpAny_call_entry F.slot_tuple_iterator_next hi.typeIs F.entry_tuple_iterator_next ?_ (F.args_tuple_iterator_next_1 _)))
 show wpAny _ _ (field (.ref it) 0 >>= _) _ _ _
 refine wpAny_bind (wpAny_field hu hdu (x := .ref a) rfl ?_)
 show wpAny _ _ (if (Value.ref a == Value.none) = true then _ else _) _ _ _
 rw [if_neg (by exact Bool.false_ne_true)]
 show wpAny _ _ (field (.ref it) 1 >>= _) _ _ _
 refine wpAny_bind (wpAny_field hu hdu (x := .int i 0) rfl ?_)
 show wpAny _ _ (seqItems? (.ref a) >>= _) _ _ _
 refine wpAny_bind (wpAny_seqItems hv hdv ?_)
 simp only [Int.toNat_natCast, hx]
 refine wpAny_bind (wpAny_rule (wpAny_bind (wpAny_setField hu hdu (by simp) ?_)))
 show wpAny _ A.in1 (newExc (.type "StopIteration") [] >>= _) _ _ _
 unfold newExc newTuple
 refine wpAny_bind (wpAny_bind (wpAny_newObj_type (wpAny_bind (m := firstArgMember _ _) (wpAny_of_eq (a := Value.none) (by first | rfl | (simp only [firstArgMember]; rfl)) (wpAny_newObj_type ?_ (by size_fits)))) (by size_fits)))
 unfold raiseNew
 refine wpAny_bind (wpAny_handled ?_)
 rw [show A.in1.handled = none from hh]
 exact wpAny_bind (wpAny_pure (wpAny_throw (q _ _ (((Heap.SameBut.update ..).extBut.push _).push _) ⟨_, Heap.get?_push_size _ rfl, rfl⟩)))
theorem fq8 (hh : A.handled = none) (it a : Addr) (hne : a ≠ it) (its : Array Value) : Draws prog w A it [it, a] its.size (fun i v => its[i]? = some v) (fun i h => h.IsTupleIter it a i ∧ h.IsTuple a its) where
 live := fun _ _ st => let ⟨o, ho, _⟩ := st.1; ⟨o, ho⟩
 frame := fun _ _ _ st hk => ⟨let ⟨o, ho, r⟩ := st.1; ⟨o, hk it (by simp) o ho, r⟩, let ⟨o, ho, r⟩ := st.2; ⟨o, hk a (by simp) o ho, r⟩⟩
 item := fun i s Q E hi st hQ => kqB st.1 st.2 (x := its[i]) (by simp [hi]) fun h' hit' hs' => hQ _ h' s.toks (by simp [hi]) ⟨hit', st.2.extBut hs'.extBut hne⟩ hs'
 done := fun s Q E st hE => kq0 hh st.1 st.2 (by simp) hE
end
abbrev titO (t : Addr) : Obj := { cls := .type "tuple_iterator", data := .fields #[.ref t, .int 0 0] }
abbrev enuO (it : Addr) : Obj := { cls := .type "enumerate", data := .fields #[.none, .bool false, .ref it, rawInt 0, .none, .none] }
theorem lq5 (t : Addr) (its : Array Value) : Meets (Builtin.«enumerate.__new__» ⟨[.type "enumerate", .ref t], []⟩) (fun _ R s => s.heap.IsTuple t its ∧
  R (.ok (.ret (.ref (s.heap.push (titO t)).objs.size))) { s with heap := (s.heap.push (titO t)).push (enuO s.heap.objs.size) }) :=
 .of_wp fun prog w A R s h => by
  obtain ⟨hp, g, d, tk, os⟩ := s; obtain ⟨hl, h⟩ := h
  have hsub := sub_enumerate
  wp_walk using wpAny_pyIter_tuple hl
  refine wpAny_stack_any fun _ => wpAny_pure ?_
  split
  ·rename_i z _ _ _ _ _
   cases (z == Value.type "enumerate") <;> (wp_walk using wpAny_pyIter_tuple hl) <;> exact ⟨_, rfl, h⟩
  ·wp_walk using wpAny_pyIter_tuple hl
   exact ⟨_, rfl, h⟩
section
variable {prog : Program} {w : World} {A : Around} {E : Value → Shared → Prop} {s : Shared}
theorem lqc {t : Addr} {its : Array Value} {Q : Value → Shared → Prop} (ht : s.heap.IsTuple t its)
  (h : ∀ h', IsEnum h' (s.heap.objs.size + 1) s.heap.objs.size 0 .none → h'.IsTupleIter s.heap.objs.size t 0 → (∀ b o, s.heap.get? b = some o → h'.get? b = some o) → Q (.ref (s.heap.objs.size + 1)) { s with heap := h' }) :
  wpAny (model prog w) A (call (.type "enumerate") [.ref t]) Q E s := by
 refine callType_new F.called_enumerate (by decide) (F.typeCall_enumerate_1 _) (F.newCall_enumerate_1 _) (fun obj => F.args_object_init_2 obj _) F.entry_enumerate_new (lq5 t its) ⟨ht, ?_⟩
 have hz : (s.heap.push (titO t)).objs.size = s.heap.objs.size + 1 := Heap.size_push ..
 show _ ∧ _
 rw [hz]
 have he : IsEnum ((s.heap.push (titO t)).push (enuO s.heap.objs.size)) (s.heap.objs.size + 1) s.heap.objs.size 0 .none := by
  have := Heap.get?_push_size (s.heap.push (titO t)) (o := enuO s.heap.objs.size) rfl
  rw [hz] at this
  exact this
 exact ⟨⟨_, he, rfl⟩, h _ he ⟨_, Heap.get?_push_of_some _ (Heap.get?_push_size _ rfl), rfl, rfl⟩ fun b o x => Heap.get?_push_of_some _ (Heap.get?_push_of_some _ x)⟩
end
def ItE (K : PySem.W.Frag) (a : Addr) (xs : List V) : It := ItW xs.length (fun H => SqT K H a xs) fun i _ ys => ∃ v, xs[i]? = some v ∧ ys = [.int (i : Int), v]
theorem kqW {P : Program} {w : World} {K : PySem.W.Frag} {elts : List Expr} {k : Nat} {pos : Pos} (a it e : Addr) (xs : List V) (h1 : a ≠ it) (h2 : e ≠ it) (h3 : e ≠ a) :
  Turn P w K (.Tuple elts k pos) (ItE K a xs) [e, it] e (fun i h => (∃ old, IsEnum h e it i old) ∧ h.IsTupleIter it a i) := by
 refine fqM (fp := e :: [it, a]) (α := { its : Array Value // its.size = xs.length }) (Pt := fun z i vals => ∃ t x, z.1[i]? = some x ∧ vals = #[.int i t, x])
  (Sn := fun z i h => (∃ old, IsEnum h e it i old) ∧ (h.IsTupleIter it a i ∧ h.IsTuple a z.1)) (Mid := fun z i T h => (∃ x, IsEnumOut h e it ((i : Int) + 1) x T) ∧ (h.IsTupleIter it a (i + 1) ∧ h.IsTuple a z.1) ∧ T ≠ e ∧ T ≠ it)
  (by simp) (fun _ z => z) (fun A z hh => ?_) (fun A i s Q E st q => ?_) (fun i h st b hb => ?_) (fun i h h' st kp => ?_) ?_ (fun z i h st => ⟨st.1, st.2.1⟩)
 ·have := WalksT.enumerateD (fq8 (prog := P) (w := w) (A := A.in1) hh it a h1 z.1) e h2 (by simp [h2, h3]) (by simp)
  rw [z.2] at this
  exact this
 ·obtain ⟨⟨old, he⟩, _⟩ := st
  exact wpAny_pyIter_enum he q
 ·obtain ⟨⟨old, he⟩, o, ho, hc, hd⟩ := st
  rcases List.mem_cons.mp hb with rfl | hb
  ·exact ⟨_, he, fun v z => by cases z⟩
  ·rw [List.mem_singleton.mp hb]
   exact ⟨o, ho, fun v z => by rw [hd] at z; cases z⟩
 ·obtain ⟨⟨old, he⟩, o, ho, r⟩ := st
  exact ⟨⟨old, kp e (by simp) _ he⟩, o, kp it (by simp) o ho, r⟩
 ·intro X hP hw hK i pins s σ H J hf st hok
  subst hP hw hK
  obtain ⟨its, rv, p, hz⟩ := J.tuple hok
  refine ⟨⟨its.toArray, by have := rv.length; simp; omega⟩, ⟨st.1, st.2, p⟩, ?_⟩
  rintro vals ⟨t, x, hx, rfl⟩
  have hx' : its[i]? = some x := by simpa using hx
  have hi : i < xs.length := by have := rv.length; have := (List.getElem?_eq_some_iff.mp hx').1; omega
  obtain ⟨u, hu, ru⟩ := rv.get (List.getElem?_eq_getElem hi)
  rw [hx'] at hu
  cases hu
  exact ⟨[.int (i : Int), xs[i]], (show 2 ≤ sizeLine by decide), .cons ⟨t, rfl⟩ (.cons ru .nil), xs[i], List.getElem?_eq_getElem hi, rfl⟩
section
variable {X : Cx} {K : PySem.W.Frag} {elts : List Expr} {kk : Nat} {tpos : Pos}
def iEnum (K : PySem.W.Frag) (ta : TA) : TI := fun σ H R => ta σ H fun vs H1 => ∃ a xs, vs = [.ref a] ∧ SqT K H1 a xs ∧ R (ItE K a xs) H1
theorem iqJ {a : Expr} {ta : TA} {p pos : Pos} (h : X.K = K) (hg : Gl X "enumerate") (hm : X.mg "enumerate" = none) (ha : PA X [a] ta) (hs : starEach [a] X.env = [(false, eval a X.env)] := by rfl) : PI X (.Tuple elts kk tpos) (.Call (.Name "enumerate" p) [a] [] pos) (iEnum K ta) := by
 subst h
 intro pins s σ H R I q
 refine Call_ (fq5 I hg hm boot_enumerate (PyProof.Rows.callWith_type1 (thn (ha pos pins s σ H _ I q) fun us s1 W' => ?_) hs rfl))
 obtain ⟨vs, H1, I1, r1, q1⟩ := W'
 obtain ⟨a, xs, e, hq, q⟩ := q1
 subst e
 obtain ⟨u, rfl, ru⟩ := vals1 r1
 cases ru
 obtain ⟨its, rv, pt, hz⟩ := I1.tuple hq
 refine lqc (show s1.heap.IsTuple a its.toArray from pt) fun h' he hi hk => ?_
 refine wpAny_pyIter_enum (s := { s1 with heap := h' }) he ?_
 have hal : a < s1.heap.objs.size := by obtain ⟨o, ho, _⟩ := pt; exact Heap.lt_size ho
 have hkept : Inv X pins σ H1 { s1 with heap := h' } := I1.kept (t' := s1.toks) hk
 refine ⟨s1.heap.objs.size + 1, [s1.heap.objs.size + 1, s1.heap.objs.size], _, _, H1, rfl, hkept, kqW a s1.heap.objs.size (s1.heap.objs.size + 1) xs (Nat.ne_of_lt hal) (Nat.succ_ne_self _) (Nat.ne_of_gt (Nat.lt_succ_of_lt hal)), ⟨⟨_, he⟩, hi⟩, fun b hb => ?_, q⟩
 simp only [List.mem_cons, List.not_mem_nil, or_false] at hb
 have hb' : s1.heap.objs.size ≤ b := by
  rcases hb with rfl | rfl
  ·exact Nat.le_succ _
  ·exact Nat.le_refl _
 exact I1.fpOk hb' (I1.hok.fresh hb')
variable {σ : St} {H : Hp} {D : Ends} {g : TG} {tb : TS} {aa : TA}
theorem oqa : (tFor (iEnum K aa) g tb D σ H) = (aa σ H fun vs H1 => ∃ a xs, vs = [.ref a] ∧ SqT K H1 a xs ∧ LoopI (ItE K a xs) g tb D σ H1) := rfl
theorem fq0 {a : Addr} {xs : List V} (Pv : Nat → St → Hp → Prop) (h0 : Pv 0 σ H) (hl : ∀ i σ H, i ≤ xs.length → Pv i σ H → SqT K H a xs)
  (hs : ∀ i v σ H T, xs[i]? = some v → Pv i σ H → H T = none → g (.ref T) σ (upd H T (.tup [.int (i : Int), v])) fun σ2 H2 => tb { D with nx := Pv (i + 1), ct := Pv (i + 1), bk := D.nx } σ2 H2) (hd : ∀ σ H, Pv xs.length σ H → D.nx σ H) : LoopI (ItE K a xs) g tb D σ H :=
 gqj Pv h0 hl (fun i σ H T ys _ p hT hy => by obtain ⟨v, hv, rfl⟩ := hy; exact hs i v σ H T hv p hT) hd
end
structure Zap (z TI TO i1 i2 l1 l2 : Addr) : Prop where
 a1 : TI ≠ z ∧ TO ≠ z ∧ i1 ≠ z ∧ i2 ≠ z ∧ l1 ≠ z ∧ l2 ≠ z
 a2 : TI ≠ TO ∧ TI ≠ i1 ∧ TI ≠ i2 ∧ TO ≠ i1 ∧ TO ≠ i2 ∧ i1 ≠ i2
 a3 : l1 ≠ TO ∧ l2 ≠ TO ∧ l1 ≠ i2 ∧ l2 ≠ i1
section
variable {prog : Program} {w : World} {A : Around} {E : Value → Shared → Prop} {s : Shared}
variable {z TI TO i1 i2 l1 l2 : Addr} {n1 n2 k : Nat} {P1 P2 : Nat → Value → Prop} {S1 S2 : Nat → Heap → Prop}
theorem still {it l b : Addr} {n i : Nat} {P : Nat → Value → Prop} {S : Nat → Heap → Prop} {h h' : Heap} (D : Draws prog w A it [it, l] n P S) (st : S i h) (e : Heap.ExtBut b h h') (h1 : it ≠ b) (h2 : l ≠ b) : S i h' :=
 D.frame i h h' st fun c hc o q => e c o (by rcases List.mem_cons.mp hc with rfl | hc; exact h1; rw [List.mem_singleton.mp hc]; exact h2) q
theorem mq4 (hh : A.handled = none) (d1 : ∀ A : Around, A.handled = none → Draws prog w A i1 [i1, l1] n1 P1 S1) (d2 : ∀ A : Around, A.handled = none → Draws prog w A i2 [i2, l2] n2 P2 S2) (ap : Zap z TI TO i1 i2 l1 l2) {a b : Value} {Q : Value → Shared → Prop}
  (hz : IsZip s.heap z TI TO .none) (hTI : IsPair s.heap TI (.ref i1) (.ref i2)) (hTO : IsPair s.heap TO a b) (t1 : S1 k s.heap) (t2 : S2 k s.heap) (k1 : k < n1) (k2 : k < n2)
  (q : ∀ x y h' tk, P1 k x → P2 k y → IsZip h' z TI TO (rawInt s.heap.objs.size) → IsPair h' TO x y → S1 (k + 1) h' → S2 (k + 1) h' → IsPair h' s.heap.objs.size x y →
   (∀ c o, c ≠ z → c ≠ TO → c ≠ i1 → c ≠ i2 → s.heap.get? c = some o → h'.get? c = some o) → Q (.ref s.heap.objs.size) { s with heap := h', toks := tk }) :
  wpAny (model prog w) A (Builtin.«zip.__next__» ⟨[.ref z], []⟩) (fun fin s' => ∃ v, fin = .done (.ret v) ∧ Q v s') E s := by
 obtain ⟨⟨p1, p2, p3, p4, p5, p6⟩, ⟨q1, q2, q3, q4, q5, q6⟩, r1, r2, r3, r4⟩ := ap
 show wpAny _ _ (field (.ref z) 2 >>= _) _ _ s
 refine wpAny_bind (wpAny_field (s := s) hz rfl (x := .bool false) rfl ?_)
 show wpAny _ _ (field (.ref z) 3 >>= _) _ _ s
 refine wpAny_bind (wpAny_field (s := s) hz rfl (x := .ref TI) rfl (wpAny_bind (wpAny_seqItems hTI rfl ?_)))
 show wpAny _ _ (Builtin.SmallTypes.ownedTupleIsFree (.ref z) >>= _) _ _ s
 unfold Builtin.SmallTypes.ownedTupleIsFree
 refine wpAny_bind (wpAny_bind (wpAny_field (s := s) hz rfl (x := .none) rfl (wpAny_pure ?_)))
 simp only [if_true]
 refine wpAny_bind (wpAny_rule (wpAny_bind (wpAny_field (s := s) hz rfl (x := .ref TO) rfl (wpAny_bind (wpAny_setField_rec hz (by simp) fun ha za sa => ?_)))))
 replace za : IsZip ha z TI TO .ellipsis := za
 simp only [List.zipIdx_cons, List.zipIdx_nil, List.forIn_cons, List.forIn_nil]
 refine wpAny_bind (wpAny_bind (wpAny_bind (wpAny_onRaise ?_)))
 show wpAny _ _ (Builtin.SmallTypes.nextOf (.ref i1) >>= _) _ _ _
 refine wpAny_bind ((d1 A hh).item k _ _ _ k1 (still (d1 A hh) t1 sa.extBut p3 p5) fun x hb tb px s1b sb => wpAny_pure ?_)
 have ob : IsPair hb TO a b := sb.extBut _ _ q4 (sa.extBut _ _ p2 hTO)
 refine wpAny_bind (wpAny_seqItems ob rfl (wpAny_bind (wpAny_updateSeq_pair ob fun hc oc sc => wpAny_bind (wpAny_letGo (wpAny_pure ?_)))))
 replace oc : IsPair hc TO x b := oc
 refine wpAny_bind (wpAny_bind (wpAny_onRaise ?_))
 show wpAny _ _ (Builtin.SmallTypes.nextOf (.ref i2) >>= _) _ _ _
 have t2c : S2 k hc := still (d2 A hh) (still (d2 A hh) (still (d2 A hh) t2 sa.extBut p4 p6) sb.extBut q6.symm r4) sc.extBut q5.symm r2
 refine wpAny_bind ((d2 A hh).item k _ _ _ k2 t2c fun y hd td py s2d sd => wpAny_pure ?_)
 have od : IsPair hd TO x b := sd.extBut _ _ q5 oc
 refine wpAny_bind (wpAny_seqItems od rfl (wpAny_bind (wpAny_updateSeq_pair od fun he oe se => wpAny_bind (wpAny_letGo (wpAny_pure (wpAny_pure ?_))))))
 replace oe : IsPair he TO x y := oe
 refine wpAny_bind (wpAny_seqItems oe rfl (wpAny_bind (wpAny_newTuple ?_)))
 have ze : IsZip he z TI TO .ellipsis := se.extBut _ _ p2.symm (sd.extBut _ _ p4.symm (sc.extBut _ _ p2.symm (sb.extBut _ _ p3.symm za)))
 have hsz : he.objs.size = s.heap.objs.size := by rw [se.1, sd.1, sc.1, sb.1, sa.1]
 have ke : ∀ c o, c ≠ z → c ≠ TO → c ≠ i1 → c ≠ i2 → s.heap.get? c = some o → he.get? c = some o := fun c o c1 c2 c3 c4 e => se.extBut _ _ c2 (sd.extBut _ _ c4 (sc.extBut _ _ c2 (sb.extBut _ _ c3 (sa.extBut _ _ c1 e))))
 have s1e : S1 (k + 1) he := still (d1 A hh) (still (d1 A hh) (still (d1 A hh) s1b sc.extBut q4.symm r1) sd.extBut q6 r3) se.extBut q4.symm r1
 have s2e : S2 (k + 1) he := still (d2 A hh) s2d se.extBut q5.symm r2
 have zl : z < he.objs.size := Heap.lt_size ze
 show wpAny _ _ (Builtin.SmallTypes.ownedTupleHandOut (.ref z) (.ref he.objs.size) >>= _) _ _ _
 unfold Builtin.SmallTypes.ownedTupleHandOut
 have zf : IsZip (he.push { cls := .type "tuple", data := .seq #[x, y] }) z TI TO .ellipsis := Heap.get?_push_of_some _ ze
 refine wpAny_bind (wpAny_bind (wpAny_setField_rec zf (by simp) fun hf zg sf => ?_))
 replace zg : IsZip hf z TI TO (rawInt he.objs.size) := zg
 refine wpAny_setField_rec zg (by simp) fun hg zh sg => ?_
 replace zh : IsZip hg z TI TO (rawInt he.objs.size) := zh
 have up : ∀ c o, c ≠ z → he.get? c = some o → hg.get? c = some o := fun c o c1 e => sg.extBut _ _ c1 (sf.extBut _ _ c1 (Heap.get?_push_of_some _ e))
 have tg : IsPair hg he.objs.size x y := sg.extBut _ _ (Nat.ne_of_gt zl) (sf.extBut _ _ (Nat.ne_of_gt zl) (Heap.get?_push_size _ rfl))
 rw [hsz] at zh tg
 refine wpAny_pure ⟨_, rfl, ?_⟩
 show Q (.ref he.objs.size) _
 rw [hsz]
 exact q x y hg td px py zh (up _ _ p2 oe) ((d1 A hh).frame _ _ _ s1e fun c hc o e => up c o (by rcases List.mem_cons.mp hc with rfl | hc; exact p3; rw [List.mem_singleton.mp hc]; exact p5) e) ((d2 A hh).frame _ _ _ s2e fun c hc o e => up c o (by rcases List.mem_cons.mp hc with rfl | hc; exact p4; rw [List.mem_singleton.mp hc]; exact p6) e) tg fun c o c1 c2 c3 c4 e => up c o c1 (ke c o c1 c2 c3 c4 e)
theorem mqk (hh : A.handled = none) (d1 : ∀ A : Around, A.handled = none → Draws prog w A i1 [i1, l1] n1 P1 S1) (d2 : ∀ A : Around, A.handled = none → Draws prog w A i2 [i2, l2] n2 P2 S2) (ap : Zap z TI TO i1 i2 l1 l2) {a b : Value} {Q : Fin → Shared → Prop}
  (hz : IsZip s.heap z TI TO .none) (hTI : IsPair s.heap TI (.ref i1) (.ref i2)) (hTO : IsPair s.heap TO a b) (t1 : S1 k s.heap) (t2 : S2 k s.heap) (hk : k = n1 ∨ (k < n1 ∧ k = n2))
  (q : ∀ h' e tk, (∀ c o, c ≠ z → c ≠ TO → c ≠ i1 → c ≠ i2 → s.heap.get? c = some o → h'.get? c = some o) → (∃ o, h'.get? e = some o ∧ o.cls = .type "StopIteration") → E (.ref e) { s with heap := h', toks := tk }) :
  wpAny (model prog w) A (Builtin.«zip.__next__» ⟨[.ref z], []⟩) Q E s := by
 obtain ⟨⟨p1, p2, p3, p4, p5, p6⟩, ⟨q1, q2, q3, q4, q5, q6⟩, r1, r2, r3, r4⟩ := ap
 show wpAny _ _ (field (.ref z) 2 >>= _) _ _ s
 refine wpAny_bind (wpAny_field (s := s) hz rfl (x := .bool false) rfl ?_)
 show wpAny _ _ (field (.ref z) 3 >>= _) _ _ s
 refine wpAny_bind (wpAny_field (s := s) hz rfl (x := .ref TI) rfl (wpAny_bind (wpAny_seqItems hTI rfl ?_)))
 show wpAny _ _ (Builtin.SmallTypes.ownedTupleIsFree (.ref z) >>= _) _ _ s
 unfold Builtin.SmallTypes.ownedTupleIsFree
 refine wpAny_bind (wpAny_bind (wpAny_field (s := s) hz rfl (x := .none) rfl (wpAny_pure ?_)))
 simp only [if_true]
 refine wpAny_bind (wpAny_rule (wpAny_bind (wpAny_field (s := s) hz rfl (x := .ref TO) rfl (wpAny_bind (wpAny_setField_rec hz (by simp) fun ha za sa => ?_)))))
 replace za : IsZip ha z TI TO .ellipsis := za
 simp only [List.zipIdx_cons, List.zipIdx_nil, List.forIn_cons, List.forIn_nil]
 refine wpAny_bind (wpAny_bind (wpAny_bind (wpAny_onRaise ?_)))
 show wpAny _ _ (Builtin.SmallTypes.nextOf (.ref i1) >>= _) _ _ _
 rcases hk with rfl | ⟨k1, rfl⟩
 ·refine wpAny_bind ((d1 A hh).done _ _ _ (still (d1 A hh) t1 sa.extBut p3 p5) fun hb e sb W' => ?_)
  obtain ⟨oe, ho, hc⟩ := W'
  have zb : IsZip hb z TI TO .ellipsis := sb _ _ p3.symm za
  have ez : e ≠ z := fun y => by subst y; rw [zb] at ho; cases ho; simp at hc
  exact wpAny_setField_rec zb (by simp) fun hd _ sd => q hd e _ (fun c o c1 _ c3 _ y => sd.extBut _ _ c1 (sb _ _ c3 (sa.extBut _ _ c1 y))) ⟨oe, sd.extBut _ _ ez ho, hc⟩
 refine wpAny_bind ((d1 A hh).item _ _ _ _ k1 (still (d1 A hh) t1 sa.extBut p3 p5) fun x hb tb px s1b sb => wpAny_pure ?_)
 have ob : IsPair hb TO a b := sb.extBut _ _ q4 (sa.extBut _ _ p2 hTO)
 refine wpAny_bind (wpAny_seqItems ob rfl (wpAny_bind (wpAny_updateSeq_pair ob fun hc oc sc => wpAny_bind (wpAny_letGo (wpAny_pure ?_)))))
 refine wpAny_bind (wpAny_bind (wpAny_onRaise ?_))
 show wpAny _ _ (Builtin.SmallTypes.nextOf (.ref i2) >>= _) _ _ _
 have t2c := still (d2 A hh) (still (d2 A hh) (still (d2 A hh) t2 sa.extBut p4 p6) sb.extBut q6.symm r4) sc.extBut q5.symm r2
 refine wpAny_bind ((d2 A hh).done _ _ _ t2c fun hd e sd W' => ?_)
 obtain ⟨oe, ho, hce⟩ := W'
 have zd : IsZip hd z TI TO .ellipsis := sd _ _ p4.symm (sc.extBut _ _ p2.symm (sb.extBut _ _ p3.symm za))
 have ez : e ≠ z := fun y => by subst y; rw [zd] at ho; cases ho; simp at hce
 exact wpAny_setField_rec zd (by simp) fun hf _ sf => q hf e _ (fun c o c1 c2 c3 c4 y => sf.extBut _ _ c1 (sd _ _ c4 (sc.extBut _ _ c2 (sb.extBut _ _ c3 (sa.extBut _ _ c1 y))))) ⟨oe, sf.extBut _ _ ez ho, hce⟩
theorem lqm (hh : A.handled = none) (d1 : ∀ A : Around, A.handled = none → Draws prog w A i1 [i1, l1] n1 P1 S1) (d2 : ∀ A : Around, A.handled = none → Draws prog w A i2 [i2, l2] n2 P2 S2) (ap : Zap z TI TO i1 i2 l1 l2) :
  WalksT prog w A z [z, TI, TO, i1, i2, l1, l2] [z, TO, i1, i2] (min n1 n2) (fun i vals => ∃ x y, P1 i x ∧ P2 i y ∧ vals = #[x, y])
   (fun i h => IsZip h z TI TO .none ∧ IsPair h TI (.ref i1) (.ref i2) ∧ (∃ a b, IsPair h TO a b) ∧ S1 i h ∧ S2 i h)
   (fun i T h => IsZip h z TI TO (rawInt T) ∧ IsPair h TI (.ref i1) (.ref i2) ∧ (∃ a b, IsPair h TO a b) ∧ S1 (i + 1) h ∧ S2 (i + 1) h ∧ T ≠ z ∧ T ≠ TO ∧ T ≠ i1 ∧ T ≠ i2) where
 sub := fun c hc => by simp at hc ⊢; rcases hc with rfl | rfl | rfl | rfl <;> simp
 frame := fun i h h' st hk => by
  obtain ⟨hz, hTI, ⟨a, b, hTO⟩, t1, t2⟩ := st
  exact ⟨hk z (by simp) _ hz, hk TI (by simp) _ hTI, ⟨a, b, hk TO (by simp) _ hTO⟩, (d1 A hh).frame _ _ _ t1 fun c hc o e => hk c (by simp at hc ⊢; rcases hc with rfl | rfl <;> simp) o e, (d2 A hh).frame _ _ _ t2 fun c hc o e => hk c (by simp at hc ⊢; rcases hc with rfl | rfl <;> simp) o e⟩
 item := fun i s Q E hi st hQ => by
  obtain ⟨hz, hTI, ⟨a, b, hTO⟩, t1, t2⟩ := st
  have hT : s.TypeIs (.ref z) "zip" := ⟨_, hz, rfl⟩
  have lt : ∀ {c o}, s.heap.get? c = some o → s.heap.objs.size ≠ c := fun e => Nat.ne_of_gt (Heap.lt_size e)
  unfold pyNext
  refine wpAny_bind (wpAny_attempt (wpAny_callSpecial?_slot (name := Str.ofString "__next__") hT F.slot_zip_next (wpAny_call_entry F.slot_zip_next hT F.entry_zip_next ?_ (F.args_zip_next_1 _))))
  refine mq4 (A := A.in1) hh d1 d2 ap hz hTI hTO t1 t2 (Nat.lt_of_lt_of_le hi (Nat.min_le_left ..)) (Nat.lt_of_lt_of_le hi (Nat.min_le_right ..)) fun x y h' tk px py z' o' s1 s2 T' hk => wpAny_pure ?_
  obtain ⟨o1, e1⟩ := (d1 A hh).live _ _ t1
  obtain ⟨o2, e2⟩ := (d2 A hh).live _ _ t2
  exact hQ s.heap.objs.size #[x, y] h' tk ⟨x, y, px, py, rfl⟩ (Nat.le_refl _) ⟨_, T', rfl, _, rfl⟩
   ⟨z', hk _ _ ap.a1.1 ap.a2.1 ap.a2.2.1 ap.a2.2.2.1 hTI, ⟨_, _, o'⟩, s1, s2, lt hz, lt hTO, lt e1, lt e2⟩
   fun c o hc e => hk c o (fun y => hc (by simp [y])) (fun y => hc (by simp [y])) (fun y => hc (by simp [y])) (fun y => hc (by simp [y])) e
 go := fun elts k pos i T s Q E hm hQ => by
  obtain ⟨hz, hTI, ⟨a, b, hTO⟩, t1, t2, _⟩ := hm
  obtain ⟨⟨p1, p2, p3, p4, p5, p6⟩, _⟩ := ap
  exact wpAny_letOwnedTupleGo_zip hz fun h' z' s' => hQ h' ⟨z', s'.extBut _ _ p1 hTI, ⟨a, b, s'.extBut _ _ p2 hTO⟩, still (d1 A hh) t1 s'.extBut p3 p5, still (d2 A hh) t2 s'.extBut p4 p6⟩ fun c o hc e => s'.extBut _ _ (fun y => hc (by simp [y])) e
 apart := fun i T h hm hT => by
  obtain ⟨_, _, _, _, _, t1, t2, t3, t4⟩ := hm
  simp only [List.mem_cons, List.not_mem_nil, or_false] at hT
  rcases hT with h | h | h | h
  ·exact t1 h
  ·exact t2 h
  ·exact t3 h
  ·exact t4 h
 done := fun s Q E st hQ => by
  obtain ⟨hz, hTI, ⟨a, b, hTO⟩, t1, t2⟩ := st
  have hT : s.TypeIs (.ref z) "zip" := ⟨_, hz, rfl⟩
  unfold pyNext
  refine wpAny_bind (wpAny_attempt (wpAny_callSpecial?_slot (name := Str.ofString "__next__") hT F.slot_zip_next (wpAny_call_entry F.slot_zip_next hT F.entry_zip_next ?_ (F.args_zip_next_1 _))))
  refine mqk (A := A.in1) hh d1 d2 ap hz hTI hTO t1 t2 (by omega) fun h' e tk hk W' => ?_
  obtain ⟨o, ho, hc⟩ := W'
  refine wpAny_bind (wpAny_isInstance (T := "StopIteration") (b := true) ⟨o, ho, hc⟩ isSubtype_stop (wpAny_pure (hQ h' tk fun c o hc e => ?_)))
  exact hk c o (fun y => hc (by simp [y])) (fun y => hc (by simp [y])) (fun y => hc (by simp [y])) (fun y => hc (by simp [y])) e
 self := fun i s Q E st hQ => wpAny_pyIter_zip st.1 hQ
end
abbrev zA (h : Heap) (a : Addr) : Heap := h.push (titO a)
abbrev zB (h : Heap) (a b : Addr) : Heap := (zA h a).push (titO b)
abbrev zC (h : Heap) (a b : Addr) : Heap := (zB h a b).push { cls := .type "tuple", data := .seq #[.ref h.objs.size, .ref (zA h a).objs.size] }
abbrev zD (h : Heap) (a b : Addr) : Heap := (zC h a b).push { cls := .type "tuple", data := .seq #[.none, .none] }
abbrev zE (h : Heap) (a b : Addr) : Heap := (zD h a b).push { cls := .type "zip", data := .fields #[.none, .bool false, .bool false, .ref (zB h a b).objs.size, .ref (zC h a b).objs.size] }
theorem oqO (a b : Addr) (xs ys : Array Value) : Meets (Builtin.«zip.__new__» ⟨[.type "zip", .ref a, .ref b], []⟩) (fun _ R s => s.heap.IsTuple a xs ∧ s.heap.IsTuple b ys ∧ R (.ok (.ret (.ref (zD s.heap a b).objs.size))) { s with heap := zE s.heap a b }) :=
 .of_wp fun prog w A R s h => by
  obtain ⟨hp, g, d, tk, os⟩ := s; obtain ⟨ha, hb, h⟩ := h
  have hsub := sub_zip
  have h1 : Heap.IsTuple (Shared.heap ⟨hp, g, d, tk, os⟩) a xs := ha
  have h2 : Heap.IsTuple (Shared.heap ⟨hp.push (titO a), g, d, tk, os⟩) b ys := Heap.IsTuple.push hb _
  wp_walk using wpAny_pyIter_tuple h1, wpAny_pyIter_tuple h2
  exact ⟨_, rfl, h⟩
section
variable {prog : Program} {w : World} {A : Around} {E : Value → Shared → Prop} {s : Shared}
theorem mqr {a b : Addr} {xs ys : Array Value} {Q : Value → Shared → Prop} (ha : s.heap.IsTuple a xs) (hb : s.heap.IsTuple b ys)
  (h : ∀ h', IsZip h' (s.heap.objs.size + 4) (s.heap.objs.size + 2) (s.heap.objs.size + 3) .none → IsPair h' (s.heap.objs.size + 2) (.ref s.heap.objs.size) (.ref (s.heap.objs.size + 1)) → IsPair h' (s.heap.objs.size + 3) .none .none →
   h'.IsTupleIter s.heap.objs.size a 0 → h'.IsTupleIter (s.heap.objs.size + 1) b 0 → (∀ c o, s.heap.get? c = some o → h'.get? c = some o) → Q (.ref (s.heap.objs.size + 4)) { s with heap := h' }) :
  wpAny (model prog w) A (call (.type "zip") [.ref a, .ref b]) Q E s := by
 refine callType_new F.called_zip (by decide) (F.typeCall_zip_2 _ _) (F.newCall_zip_2 _ _) (fun obj => F.args_object_init_3 obj _ _) F.entry_zip_new (oqO a b xs ys) ⟨ha, hb, ?_⟩
 have y1 : (zA s.heap a).objs.size = s.heap.objs.size + 1 := Heap.size_push ..
 have y2 : (zB s.heap a b).objs.size = s.heap.objs.size + 2 := by rw [Heap.size_push, y1]
 have y3 : (zC s.heap a b).objs.size = s.heap.objs.size + 3 := by rw [Heap.size_push, y2]
 have y4 : (zD s.heap a b).objs.size = s.heap.objs.size + 4 := by rw [Heap.size_push, y3]
 have up : ∀ {h : Heap} {o : Obj} {c : Addr} {u : Obj}, h.get? c = some u → (h.push o).get? c = some u := fun e => Heap.get?_push_of_some _ e
 have e5 : (zE s.heap a b).get? (zD s.heap a b).objs.size = some _ := Heap.get?_push_size _ rfl
 have e4 : (zE s.heap a b).get? (zC s.heap a b).objs.size = some _ := up (Heap.get?_push_size _ rfl)
 have e3 : (zE s.heap a b).get? (zB s.heap a b).objs.size = some _ := up (up (Heap.get?_push_size _ rfl))
 have e2 : (zE s.heap a b).get? (zA s.heap a).objs.size = some _ := up (up (up (Heap.get?_push_size _ rfl)))
 have e1 : (zE s.heap a b).get? s.heap.objs.size = some _ := up (up (up (up (Heap.get?_push_size _ rfl))))
 show _ ∧ _
 rw [y2, y3, y4] at e5
 rw [y1, y2] at e3
 rw [y3] at e4
 rw [y1] at e2
 rw [y4]
 exact ⟨⟨_, e5, rfl⟩, h _ e5 e3 e4 ⟨_, e1, rfl, rfl⟩ ⟨_, e2, rfl, rfl⟩ fun c o x => up (up (up (up (up x))))⟩
end
def ItZ (K : PySem.W.Frag) (a b : Addr) (xs ys : List V) : It := ItW (min xs.length ys.length) (fun H => SqT K H a xs ∧ SqT K H b ys) fun i _ vs => ∃ x y, xs[i]? = some x ∧ ys[i]? = some y ∧ vs = [x, y]
theorem lq9 {P : Program} {w : World} {K : PySem.W.Frag} {elts : List Expr} {k : Nat} {pos : Pos} {z TI TO i1 i2 a b : Addr} (xs ys : List V) (ap : Zap z TI TO i1 i2 a b) (h1 : a ≠ i1) (h2 : b ≠ i2) :
  Turn P w K (.Tuple elts k pos) (ItZ K a b xs ys) [z, TO, i1, i2, TI] z (fun i h => IsZip h z TI TO .none ∧ IsPair h TI (.ref i1) (.ref i2) ∧ (∃ u v, IsPair h TO u v) ∧ h.IsTupleIter i1 a i ∧ h.IsTupleIter i2 b i) := by
 refine fqM (fp := [z, TI, TO, i1, i2, a, b]) (wr := [z, TO, i1, i2]) (α := { q : Array Value × Array Value // q.1.size = xs.length ∧ q.2.size = ys.length }) (Pt := fun q i vals => ∃ x y, q.1.1[i]? = some x ∧ q.1.2[i]? = some y ∧ vals = #[x, y])
  (Sn := fun q i h => IsZip h z TI TO .none ∧ IsPair h TI (.ref i1) (.ref i2) ∧ (∃ a b, IsPair h TO a b) ∧ (h.IsTupleIter i1 a i ∧ h.IsTuple a q.1.1) ∧ (h.IsTupleIter i2 b i ∧ h.IsTuple b q.1.2))
  (Mid := fun q i T h => IsZip h z TI TO (rawInt T) ∧ IsPair h TI (.ref i1) (.ref i2) ∧ (∃ a b, IsPair h TO a b) ∧ (h.IsTupleIter i1 a (i + 1) ∧ h.IsTuple a q.1.1) ∧ (h.IsTupleIter i2 b (i + 1) ∧ h.IsTuple b q.1.2) ∧ T ≠ z ∧ T ≠ TO ∧ T ≠ i1 ∧ T ≠ i2)
  (by simp) (fun b hb => by simp at hb ⊢; rcases hb with rfl | rfl | rfl | rfl <;> simp) (fun A q hh => ?_) (fun A i s Q E st q => wpAny_pyIter_zip st.1 q) (fun i h st b hb => ?_) (fun i h h' st kp => ?_) ?_ (fun q i h st => ⟨st.1, st.2.1, st.2.2.1, st.2.2.2.1.1, st.2.2.2.2.1⟩)
 ·have := lqm (prog := P) (w := w) (A := A) hh (fun B hB => fq8 (prog := P) (w := w) (A := B) hB i1 a h1 q.1.1) (fun B hB => fq8 (prog := P) (w := w) (A := B) hB i2 b h2 q.1.2) ap
  rw [q.2.1, q.2.2] at this
  exact this
 ·obtain ⟨hz, hI, ⟨u, v, hO⟩, ⟨o1, e1, c1, d1⟩, o2, e2, c2, d2⟩ := st
  simp only [List.mem_cons, List.not_mem_nil, or_false] at hb
  rcases hb with rfl | rfl | rfl | rfl | rfl
  ·exact ⟨_, hz, fun v z => by cases z⟩
  ·exact ⟨_, hO, fun v z => by cases z⟩
  ·exact ⟨o1, e1, fun v z => by rw [d1] at z; cases z⟩
  ·exact ⟨o2, e2, fun v z => by rw [d2] at z; cases z⟩
  ·exact ⟨_, hI, fun v z => by cases z⟩
 ·obtain ⟨hz, hI, ⟨u, v, hO⟩, ⟨o1, e1, r1⟩, o2, e2, r2⟩ := st
  exact ⟨kp z (by simp) _ hz, kp TI (by simp) _ hI, ⟨u, v, kp TO (by simp) _ hO⟩, ⟨o1, kp i1 (by simp) _ e1, r1⟩, o2, kp i2 (by simp) _ e2, r2⟩
 ·intro X hP hw hK i pins s σ H J hf st hok
  subst hP hw hK
  obtain ⟨l1, rv1, p1, hz1⟩ := J.tuple hok.1
  obtain ⟨l2, rv2, p2, hz2⟩ := J.tuple hok.2
  refine ⟨⟨(l1.toArray, l2.toArray), by have := rv1.length; simp; omega, by have := rv2.length; simp; omega⟩, ⟨st.1, st.2.1, st.2.2.1, ⟨st.2.2.2.1, p1⟩, st.2.2.2.2, p2⟩, ?_⟩
  rintro vals ⟨x, y, hx, hy, rfl⟩
  have hx' : l1[i]? = some x := by simpa using hx
  have hy' : l2[i]? = some y := by simpa using hy
  have hi : i < xs.length := by have := rv1.length; have := (List.getElem?_eq_some_iff.mp hx').1; omega
  have hj : i < ys.length := by have := rv2.length; have := (List.getElem?_eq_some_iff.mp hy').1; omega
  obtain ⟨u, hu, ru⟩ := rv1.get (List.getElem?_eq_getElem hi)
  obtain ⟨v, hv, rv⟩ := rv2.get (List.getElem?_eq_getElem hj)
  rw [hx'] at hu
  rw [hy'] at hv
  cases hu
  cases hv
  exact ⟨[xs[i], ys[i]], (show 2 ≤ sizeLine by decide), .cons ru (.cons rv .nil), xs[i], ys[i], List.getElem?_eq_getElem hi, List.getElem?_eq_getElem hj, rfl⟩
section
variable {X : Cx} {K : PySem.W.Frag} {elts : List Expr} {kk : Nat} {tpos : Pos}
theorem nqR {n a b : Nat} (ha : a < n) (hb : b < n) : Zap (n + 4) (n + 2) (n + 3) n (n + 1) a b := by
 refine ⟨⟨?_, ?_, ?_, ?_, ?_, ?_⟩, ⟨?_, ?_, ?_, ?_, ?_, ?_⟩, ?_, ?_, ?_, ?_⟩ <;> (show ¬ ((_ : Nat) = _)) <;> omega
def iZip (K : PySem.W.Frag) (ta : TA) : TI := fun σ H R => ta σ H fun vs H1 => ∃ a b xs ys, vs = [.ref a, .ref b] ∧ SqT K H1 a xs ∧ SqT K H1 b ys ∧ R (ItZ K a b xs ys) H1
theorem nqc {a b : Expr} {ta : TA} {p pos : Pos} (h : X.K = K) (hg : Gl X "zip") (hm : X.mg "zip" = none) (ha : PA X [a, b] ta) (hs : starEach [a, b] X.env = [(false, eval a X.env), (false, eval b X.env)] := by rfl) (hs2 : starEach [b] X.env = [(false, eval b X.env)] := by rfl) : PI X (.Tuple elts kk tpos) (.Call (.Name "zip" p) [a, b] [] pos) (iZip K ta) := by
 subst h
 intro pins s σ H R I q
 refine Call_ (fq5 I hg hm boot_zip (PyProof.Rows.callWith_type1 (thn (ha pos pins s σ H _ I q) fun us s1 W' => ?_) (by rw [hs, hs2]) (by rw [hs2]; rfl)))
 obtain ⟨vs, H1, I1, r1, q1⟩ := W'
 obtain ⟨a, b, xs, ys, e, hq1, hq2, q⟩ := q1
 subst e
 obtain ⟨u, v, rfl, ru, rv⟩ := vals2 r1
 cases ru
 cases rv
 obtain ⟨l1, rv1, p1, hz1⟩ := I1.tuple hq1
 obtain ⟨l2, rv2, p2, hz2⟩ := I1.tuple hq2
 refine mqr (show s1.heap.IsTuple a l1.toArray from p1) (show s1.heap.IsTuple b l2.toArray from p2) fun h' he hI hO hi hj hk => ?_
 refine wpAny_pyIter_zip (s := { s1 with heap := h' }) he ?_
 have hal : a < s1.heap.objs.size := by obtain ⟨o, ho, _⟩ := p1; exact Heap.lt_size ho
 have hbl : b < s1.heap.objs.size := by obtain ⟨o, ho, _⟩ := p2; exact Heap.lt_size ho
 have hkept : Inv X pins σ H1 { s1 with heap := h' } := I1.kept (t' := s1.toks) hk
 refine ⟨s1.heap.objs.size + 4, [s1.heap.objs.size + 4, s1.heap.objs.size + 3, s1.heap.objs.size, s1.heap.objs.size + 1, s1.heap.objs.size + 2], _, _, H1, rfl, hkept, lq9 xs ys (nqR hal hbl) (Nat.ne_of_lt hal) (Nat.ne_of_lt (Nat.lt_succ_of_lt hbl)), ⟨he, hI, ⟨_, _, hO⟩, hi, hj⟩, fun b hb => ?_, q⟩
 simp only [List.mem_cons, List.not_mem_nil, or_false] at hb
 have hb' : s1.heap.objs.size ≤ b := by
  rcases hb with rfl | rfl | rfl | rfl | rfl
  ·exact Nat.le_add_right _ _
  ·exact Nat.le_add_right _ _
  ·exact Nat.le_refl _
  ·exact Nat.le_add_right _ _
  ·exact Nat.le_add_right _ _
 exact I1.fpOk hb' (I1.hok.fresh hb')
variable {σ : St} {H : Hp} {D : Ends} {g : TG} {tb : TS} {aa : TA}
theorem oqU : (tFor (iZip K aa) g tb D σ H) = (aa σ H fun vs H1 => ∃ a b xs ys, vs = [.ref a, .ref b] ∧ SqT K H1 a xs ∧ SqT K H1 b ys ∧ LoopI (ItZ K a b xs ys) g tb D σ H1) := rfl
theorem mq3 {a b : Addr} {xs ys : List V} (Pv : Nat → St → Hp → Prop) (h0 : Pv 0 σ H) (hl : ∀ i σ H, i ≤ min xs.length ys.length → Pv i σ H → SqT K H a xs ∧ SqT K H b ys)
  (hs : ∀ i x y σ H T, xs[i]? = some x → ys[i]? = some y → Pv i σ H → H T = none → g (.ref T) σ (upd H T (.tup [x, y])) fun σ2 H2 => tb { D with nx := Pv (i + 1), ct := Pv (i + 1), bk := D.nx } σ2 H2) (hd : ∀ σ H, Pv (min xs.length ys.length) σ H → D.nx σ H) : LoopI (ItZ K a b xs ys) g tb D σ H :=
 gqj Pv h0 hl (fun i σ H T zs _ p hT hy => by obtain ⟨x, y, hx, hy, rfl⟩ := hy; exact hs i x y σ H T hx hy p hT) hd
variable {p : Addr} {fv : St} {tt : TT} {te : TE} {Q : VK} {H1 : Hp} {fr : List Nat}
theorem lqR : (tComp2 K (iZip K aa) fr tt te σ H Q) = (aa σ H fun vs H1 => ∃ a b xs ys, vs = [.ref a, .ref b] ∧ SqT K H1 a xs ∧ SqT K H1 b ys ∧ ∀ p, H1 p = none → CompI2 K (ItZ K a b xs ys) p (frV σ fr) tt te Q H1) := rfl
theorem mq6 {a b : Addr} {xs ys zs : List V} (hxs : SqT K H1 a xs) (hys : SqT K H1 b ys) (hlen : zs.length ≤ sizeLine) (hp : H1 p = none) (hz : zs.length = min xs.length ys.length)
  (he : ∀ (i : Nat) (x y z : V), xs[i]? = some x → ys[i]? = some y → zs[i]? = some z → ∀ (H' : Hp) (T : VK), Same H1 H' → (∀ H'', Same H' H'' → T z H'') → te (some x :: some y :: fv) H' T)
  (hQ : ∀ H', Same H1 H' → H' p = some (.lst zs) → Q (.ref p) H') : CompI2 K (ItZ K a b xs ys) p fv tYes te Q H1 := by
 refine ⟨fun i m ws H2 => m = zs.length - i ∧ i ≤ zs.length ∧ ws = zs.take i ∧ H2 p = some (.lst ws) ∧ Same H1 H2, ⟨zs.length, by simp, Nat.zero_le _, by simp, aqq, fun b o e => by rw [aqx (aqw e hp)]; exact e⟩, ?_⟩
 rintro i m ws H2 ⟨rfl, hi, rfl, hp2, sm⟩
 refine ⟨hp2, ?_⟩
 have qx := sm.tup hxs
 have qy := sm.tup hys
 by_cases hlt : i < zs.length
 ·refine .inr ⟨⟨by rw [← hz]; exact hlt, qx, qy⟩, by rw [List.length_take]; omega, fun x H3 y => ?_⟩
  obtain ⟨T, vs, rfl, hT, rfl, x, y, hx, hy, rfl⟩ := y
  have s3 : Same H2 (upd H2 T (.tup [x, y])) := fun b o e => by rw [aqx (aqw e hT)]; exact e
  refine ⟨T, x, y, rfl, .inl (.inl aqq), ?_⟩
  unfold tYes
  dsimp only
  rw [if_pos rfl]
  have hzi : zs[i]? = some zs[i] := by simp [hlt]
  refine he i x y _ hx hy hzi _ _ (sm.trans s3) fun H5 s5 => ⟨s5 _ _ (s3 _ _ hp2), zs.length - (i + 1), by omega, rfl, hlt, ?_, aqq, fun b o e => ?_⟩
  ·rw [List.take_add_one, hzi]; rfl
  ·rw [aqx (aqw e hp)]; exact s5 _ _ (s3 _ _ (sm _ _ e))
 ·have e : i = zs.length := by omega
  subst e
  refine .inl ⟨⟨hz, qx, qy⟩, hQ H2 sm ?_⟩
  rw [hp2, List.take_length]
end
section
variable {p : Addr} {fv : St} {tt : TT} {te : TE} {Q : VK} {H1 H : Hp} {fr : List Nat} {aa : TA} {σ : St}
theorem kqE : (tComp (iRng1 aa) fr tt te σ H Q) = (aa σ H fun vs H1 => ∃ j : Int, vs = [.int j] ∧ -(2 ^ 62) ≤ j ∧ j < 2 ^ 62 ∧ ∀ p, H1 p = none → CompI (Itr 0 j.toNat) p (frV σ fr) tt te Q H1) := rfl
end
abbrev litO (t : Addr) : Obj := { cls := .type "list_iterator", data := .fields #[.ref t, .int 0 0] }
section
variable {prog : Program} {w : World} {A : Around} {E : Value → Shared → Prop} {s : Shared}
end
def ItZL (K : PySem.W.Frag) (a b : Addr) (xs ys : List V) : It := ItW (min xs.length ys.length) (fun H => SqL K H a xs ∧ SqL K H b ys) fun i _ vs => ∃ x y, xs[i]? = some x ∧ ys[i]? = some y ∧ vs = [x, y]
section
variable {X : Cx} {K : PySem.W.Frag} {elts : List Expr} {kk : Nat} {tpos : Pos}
def iZipL (K : PySem.W.Frag) (ta : TA) : TI := fun σ H R => ta σ H fun vs H1 => ∃ a b xs ys, vs = [.ref a, .ref b] ∧ SqL K H1 a xs ∧ SqL K H1 b ys ∧ R (ItZL K a b xs ys) H1
variable {σ : St} {H : Hp} {D : Ends} {g : TG} {tb : TS} {aa : TA}
theorem lq7 : (tFor (iZipL K aa) g tb D σ H) = (aa σ H fun vs H1 => ∃ a b xs ys, vs = [.ref a, .ref b] ∧ SqL K H1 a xs ∧ SqL K H1 b ys ∧ LoopI (ItZL K a b xs ys) g tb D σ H1) := rfl
variable {p : Addr} {fv : St} {tt : TT} {te : TE} {Q : VK} {H1 : Hp} {fr : List Nat}
theorem jq6 : (tComp2 K (iZipL K aa) fr tt te σ H Q) = (aa σ H fun vs H1 => ∃ a b xs ys, vs = [.ref a, .ref b] ∧ SqL K H1 a xs ∧ SqL K H1 b ys ∧ ∀ p, H1 p = none → CompI2 K (ItZL K a b xs ys) p (frV σ fr) tt te Q H1) := rfl
end
section
variable {K : PySem.W.Frag} {p : Addr} {fv : St} {te : TE} {Q : VK} {H1 : Hp}
end
theorem lqf (t : Addr) (its : Array Value) : Meets (Builtin.«enumerate.__new__» ⟨[.type "enumerate", .ref t], []⟩) (fun _ R s => s.heap.IsList t its ∧
  R (.ok (.ret (.ref (s.heap.push (litO t)).objs.size))) { s with heap := (s.heap.push (litO t)).push (enuO s.heap.objs.size) }) :=
 .of_wp fun prog w A R s h => by
  obtain ⟨hp, g, d, tk, os⟩ := s; obtain ⟨hl, h⟩ := h
  have hsub := sub_enumerate
  wp_walk using wpAny_pyIter_list hl
  refine wpAny_stack_any fun _ => wpAny_pure ?_
  split
  ·rename_i z _ _ _ _ _
   cases (z == Value.type "enumerate") <;> (wp_walk using wpAny_pyIter_list hl) <;> exact ⟨_, rfl, h⟩
  ·wp_walk using wpAny_pyIter_list hl
   exact ⟨_, rfl, h⟩
section
variable {prog : Program} {w : World} {A : Around} {E : Value → Shared → Prop} {s : Shared}
theorem jq2 {t : Addr} {its : Array Value} {Q : Value → Shared → Prop} (ht : s.heap.IsList t its)
  (h : ∀ h', IsEnum h' (s.heap.objs.size + 1) s.heap.objs.size 0 .none → h'.IsListIter s.heap.objs.size t 0 → (∀ b o, s.heap.get? b = some o → h'.get? b = some o) → Q (.ref (s.heap.objs.size + 1)) { s with heap := h' }) :
  wpAny (model prog w) A (call (.type "enumerate") [.ref t]) Q E s := by
 refine callType_new F.called_enumerate (by decide) (F.typeCall_enumerate_1 _) (F.newCall_enumerate_1 _) (fun obj => F.args_object_init_2 obj _) F.entry_enumerate_new (lqf t its) ⟨ht, ?_⟩
 have hz : (s.heap.push (litO t)).objs.size = s.heap.objs.size + 1 := Heap.size_push ..
 show _ ∧ _
 rw [hz]
 have he : IsEnum ((s.heap.push (litO t)).push (enuO s.heap.objs.size)) (s.heap.objs.size + 1) s.heap.objs.size 0 .none := by
  have := Heap.get?_push_size (s.heap.push (litO t)) (o := enuO s.heap.objs.size) rfl
  rw [hz] at this
  exact this
 exact ⟨⟨_, he, rfl⟩, h _ he ⟨_, Heap.get?_push_of_some _ (Heap.get?_push_size _ rfl), rfl, rfl⟩ fun b o x => Heap.get?_push_of_some _ (Heap.get?_push_of_some _ x)⟩
end
def ItEL (K : PySem.W.Frag) (a : Addr) (xs : List V) : It := ItW xs.length (fun H => SqL K H a xs) fun i _ ys => ∃ v, xs[i]? = some v ∧ ys = [.int (i : Int), v]
theorem jqO {P : Program} {w : World} {K : PySem.W.Frag} {elts : List Expr} {k : Nat} {pos : Pos} (a it e : Addr) (xs : List V) (h1 : a ≠ it) (h2 : e ≠ it) (h3 : e ≠ a) :
  Turn P w K (.Tuple elts k pos) (ItEL K a xs) [e, it] e (fun i h => (∃ old, IsEnum h e it i old) ∧ h.IsListIter it a i) := by
 refine fqM (fp := e :: [it, a]) (α := { its : Array Value // its.size = xs.length }) (Pt := fun z i vals => ∃ t x, z.1[i]? = some x ∧ vals = #[.int i t, x])
  (Sn := fun z i h => (∃ old, IsEnum h e it i old) ∧ (h.IsListIter it a i ∧ h.IsList a z.1)) (Mid := fun z i T h => (∃ x, IsEnumOut h e it ((i : Int) + 1) x T) ∧ (h.IsListIter it a (i + 1) ∧ h.IsList a z.1) ∧ T ≠ e ∧ T ≠ it)
  (by simp) (fun _ z => z) (fun A z hh => ?_) (fun A i s Q E st q => ?_) (fun i h st b hb => ?_) (fun i h h' st kp => ?_) ?_ (fun z i h st => ⟨st.1, st.2.1⟩)
 ·have := WalksT.enumerateD (Draws.list (prog := P) (w := w) (A := A.in1) hh it a h1 z.1) e h2 (by simp [h2, h3]) (by simp)
  rw [z.2] at this
  exact this
 ·obtain ⟨⟨old, he⟩, _⟩ := st
  exact wpAny_pyIter_enum he q
 ·obtain ⟨⟨old, he⟩, o, ho, hc, hd⟩ := st
  rcases List.mem_cons.mp hb with rfl | hb
  ·exact ⟨_, he, fun v z => by cases z⟩
  ·rw [List.mem_singleton.mp hb]
   exact ⟨o, ho, fun v z => by rw [hd] at z; cases z⟩
 ·obtain ⟨⟨old, he⟩, o, ho, r⟩ := st
  exact ⟨⟨old, kp e (by simp) _ he⟩, o, kp it (by simp) o ho, r⟩
 ·intro X hP hw hK i pins s σ H J hf st hok
  subst hP hw hK
  obtain ⟨its, rv, p, hz⟩ := J.list hok
  refine ⟨⟨its.toArray, by have := rv.length; simp; omega⟩, ⟨st.1, st.2, p.isList⟩, ?_⟩
  rintro vals ⟨t, x, hx, rfl⟩
  have hx' : its[i]? = some x := by simpa using hx
  have hi : i < xs.length := by have := rv.length; have := (List.getElem?_eq_some_iff.mp hx').1; omega
  obtain ⟨u, hu, ru⟩ := rv.get (List.getElem?_eq_getElem hi)
  rw [hx'] at hu
  cases hu
  exact ⟨[.int (i : Int), xs[i]], (show 2 ≤ sizeLine by decide), .cons ⟨t, rfl⟩ (.cons ru .nil), xs[i], List.getElem?_eq_getElem hi, rfl⟩
section
variable {X : Cx} {K : PySem.W.Frag} {elts : List Expr} {kk : Nat} {tpos : Pos}
def iEnumL (K : PySem.W.Frag) (ta : TA) : TI := fun σ H R => ta σ H fun vs H1 => ∃ a xs, vs = [.ref a] ∧ SqL K H1 a xs ∧ R (ItEL K a xs) H1
theorem lq6 {a : Expr} {ta : TA} {p pos : Pos} (h : X.K = K) (hg : Gl X "enumerate") (hm : X.mg "enumerate" = none) (ha : PA X [a] ta) (hs : starEach [a] X.env = [(false, eval a X.env)] := by rfl) : PI X (.Tuple elts kk tpos) (.Call (.Name "enumerate" p) [a] [] pos) (iEnumL K ta) := by
 subst h
 intro pins s σ H R I q
 refine Call_ (fq5 I hg hm boot_enumerate (PyProof.Rows.callWith_type1 (thn (ha pos pins s σ H _ I q) fun us s1 W' => ?_) hs rfl))
 obtain ⟨vs, H1, I1, r1, q1⟩ := W'
 obtain ⟨a, xs, e, hq, q⟩ := q1
 subst e
 obtain ⟨u, rfl, ru⟩ := vals1 r1
 cases ru
 obtain ⟨its, rv, pt, hz⟩ := I1.list hq
 refine jq2 pt.isList fun h' he hi hk => ?_
 refine wpAny_pyIter_enum (s := { s1 with heap := h' }) he ?_
 have hal : a < s1.heap.objs.size := by obtain ⟨o, _, ho, _⟩ := pt; exact Heap.lt_size ho
 have hkept : Inv X pins σ H1 { s1 with heap := h' } := I1.kept (t' := s1.toks) hk
 refine ⟨s1.heap.objs.size + 1, [s1.heap.objs.size + 1, s1.heap.objs.size], _, _, H1, rfl, hkept, jqO a s1.heap.objs.size (s1.heap.objs.size + 1) xs (Nat.ne_of_lt hal) (Nat.succ_ne_self _) (Nat.ne_of_gt (Nat.lt_succ_of_lt hal)), ⟨⟨_, he⟩, hi⟩, fun b hb => ?_, q⟩
 simp only [List.mem_cons, List.not_mem_nil, or_false] at hb
 have hb' : s1.heap.objs.size ≤ b := by
  rcases hb with rfl | rfl
  ·exact Nat.le_succ _
  ·exact Nat.le_refl _
 exact I1.fpOk hb' (I1.hok.fresh hb')
variable {σ : St} {H : Hp} {D : Ends} {g : TG} {tb : TS} {aa : TA}
theorem mqK : (tFor (iEnumL K aa) g tb D σ H) = (aa σ H fun vs H1 => ∃ a xs, vs = [.ref a] ∧ SqL K H1 a xs ∧ LoopI (ItEL K a xs) g tb D σ H1) := rfl
theorem kqf {a : Addr} {xs : List V} (Pv : Nat → St → Hp → Prop) (h0 : Pv 0 σ H) (hl : ∀ i σ H, i ≤ xs.length → Pv i σ H → SqL K H a xs)
  (hs : ∀ i v σ H T, xs[i]? = some v → Pv i σ H → H T = none → g (.ref T) σ (upd H T (.tup [.int (i : Int), v])) fun σ2 H2 => tb { D with nx := Pv (i + 1), ct := Pv (i + 1), bk := D.nx } σ2 H2) (hd : ∀ σ H, Pv xs.length σ H → D.nx σ H) : LoopI (ItEL K a xs) g tb D σ H :=
 gqj Pv h0 hl (fun i σ H T ys _ p hT hy => by obtain ⟨v, hv, rfl⟩ := hy; exact hs i v σ H T hv p hT) hd
variable {p : Addr} {fv : St} {tt : TT} {te : TE} {Q : VK} {H1 : Hp} {fr : List Nat}
theorem kqb : (tComp2 K (iEnumL K aa) fr tt te σ H Q) = (aa σ H fun vs H1 => ∃ a xs, vs = [.ref a] ∧ SqL K H1 a xs ∧ ∀ p, H1 p = none → CompI2 K (ItEL K a xs) p (frV σ fr) tt te Q H1) := rfl
theorem kqi : (tComp2 K (iEnum K aa) fr tt te σ H Q) = (aa σ H fun vs H1 => ∃ a xs, vs = [.ref a] ∧ SqT K H1 a xs ∧ ∀ p, H1 p = none → CompI2 K (ItE K a xs) p (frV σ fr) tt te Q H1) := rfl
end
end L2
namespace L2
open PySem PySem.Spec PySem.W PyProof.Rows
end L2
namespace L2
open PySem PySem.Spec PySem.W PySem.Calls PyProof.Rows PySem.Builtin PySem.Builtin.ObjectAttr
def errTail : List Value → Bool
 | .ref _ :: r => errTail r
 | l => l == vErr
def overErr (K : Frag) (C : Addr) : Bool := (clsIn K C).any fun cd => errTail cd.mro
section
variable {prog : Program} {w : World} {A : Around} {E : Value → Shared → Prop} {s : Shared} {K : Frag} {x C : Addr} {name : Str} {v : Value} {ox : Obj} {od : Option Obj}
end
end L2
namespace L2
open PySem PySem.Spec PySem.W PySem.Calls PyProof.Rows
def excInI (K : Frag) (C : Addr) (bmB : List Value) (newId : String) (fI : Addr) : Bool := match K.lookup C with
 | some o => (match o.data with
  | .cls cd => o.cls == .type "type" && cd.mro.head? == some (.ref C) && o.slots.size == 6 && o.slots[4]? == some (some (.builtin newId)) && !cd.hasDel && tailIn K bmB cd.mro.tail && nsOkIn K cd.ns && nsIn K cd.ns "__init__" == some (some (.ref fI))
  | _ => false)
 | _ => false
abbrev newExc (C t : Addr) : Obj := { cls := .ref C, data := .fields #[.ref t, .none, .none, .none, .bool false, .none] }
section
variable {prog : Program} {w : World} {A : Around} {E : Value → Shared → Prop} {h : Heap} {g : Array GenState} {d : Drawn} {t : Nat} {os : OsState}
variable {nm q : Str} {C N : Addr} {bs bm bmB : List Value} {hdct : Bool} {sn : List Str} {sub : List Value} {ab : Bool} {col : Option Bool} {dd : Option Addr} {k0 k1 k2 k3 k5 : Option Value} {B newId initId : String}
end
def exNew (e C : Addr) : HO := .ext fun h => ∃ t sl, h.get? e = some ⟨.ref C, none, .fields #[.ref t, .none, .none, .none, .bool false, .none], sl⟩
def exSet (e C d : Addr) : HO := .ext fun h => ∃ t sl, h.get? e = some ⟨.ref C, some d, .fields #[.ref t, .none, .none, .none, .bool false, .none], sl⟩
def exC (a C : Addr) (d : Option Addr) : HO := .ext fun h => ∃ o, h.get? a = some o ∧ o.cls = .ref C ∧ (∀ x, d = some x → o.dict = some x) ∧ notCls o = true
structure ExSt (K : Frag) (C : Addr) (f : Str) : Prop where
 sa : findIn K (.ref C) "__setattr__" = some (some (.builtin "object.__setattr__"))
 po : overErr K C = true
 na : findIn K (.ref C) f = some none
 hd : hasDictIn K C = true
def sFldE (K : Frag) (ta tv : TE) (f : Str) : TS := fun D σ H => tv σ H fun y H1 => ta σ H1 fun x H2 => ∃ a C, x = .ref a ∧ H2 a = some (exNew a C) ∧ ExSt K C f ∧ ∀ d, H2 d = none → D.nx σ (upd (upd H2 a (exSet a C d)) d (.xd [(f, y)]))
section
variable {X : Cx} {ta tv : TE} {o value : Expr} {f : Str} {pos pos' : Pos}
theorem oqS {K : Frag} {D : Ends} {σ : St} {H : Hp} : (sFldE K ta tv f D σ H) = (tv σ H fun y H1 => ta σ H1 fun x H2 => ∃ a C, x = .ref a ∧ H2 a = some (exNew a C) ∧ ExSt K C f ∧ ∀ d, H2 d = none → D.nx σ (upd (upd H2 a (exSet a C d)) d (.xd [(f, y)]))) := rfl
end
def forget (H : Hp) (a : Addr) : Hp := fun b => if b = a then none else H b
structure FlownN (P : Program) (w : World) (base : Heap) (outer : List Env) (H : Hp) (s : Shared) (a t C : Addr) (d : Option Addr) (B : Heap) (H' : Hp) (s' : Shared) : Prop where
 f : Flown P w base outer H s a t C B H' s'
 dc : ∀ x, d = some x → ∃ oe, s'.heap.get? a = some oe ∧ oe.dict = some x
section
variable {P : Program} {w : World} {K : Frag} {mg : Str → Option Value} {base : Heap} {N : List Str} {qual : Str} {scope : Scope} {f : Addr} {cd : Value} {A : Around} {outer : List Env} {s : Shared} {H : Hp} {E : XK}
end
structure Mk1 (K : Frag) (C f : Addr) : Prop where
 ex : excInI K C vErr vNew f = true
 fn : isFn K (.ref f) = true
 kp : keepIn K (.ref C) = true
def tRaise1 (E : XK) (C : Addr) (sp : Sp) (t : TA) : TS := fun _ σ H => t σ H fun vs H1 => ∀ a, H1 a = none → sp (.ref a :: vs) (upd H1 a (exNew a C)) (fun v H2 => v = .non ∧ ∃ d, H2 a = some (exSet a C d) ∧ E (.ref C) (some d) (forget H2 a)) E0
theorem lqo {E : XK} {C : Addr} {sp : Sp} {t : TA} {D : Ends} {σ : St} {H : Hp} : (tRaise1 E C sp t D σ H) = (t σ H fun vs H1 => ∀ a, H1 a = none → sp (.ref a :: vs) (upd H1 a (exNew a C)) (fun v H2 => v = .non ∧ ∃ d, H2 a = some (exSet a C d) ∧ E (.ref C) (some d) (forget H2 a)) E0) := rfl
def tTryCall (sp : Sp) (t : TA) : XK → TS := fun Eh D σ H => t σ H fun vs H1 => sp vs H1 (fun _ H2 => D.nx σ H2) Eh
def tTryN (K : Frag) (t : XK → TS) (W : Addr) (i : Nat) (tb : TS) : TS := fun D σ H => t (fun cls d H2 =>
 ∃ C, cls = .ref C ∧ subIn K (.ref C) (.ref W) = some true ∧ ∀ a, H2 a = none → tb { nx := fun σ' H' => D.nx (σ'.set i none) H', rt := D.rt } (σ.set i (some (.ref a))) (upd H2 a (exC a C d))) { nx := D.nx, rt := D.rt } σ H
theorem oqx {K : Frag} {t : XK → TS} {W : Addr} {i : Nat} {tb : TS} {D : Ends} {σ : St} {H : Hp} : tTryN K t W i tb D σ H ↔ t (fun cls d H2 =>
 ∃ C, cls = .ref C ∧ subIn K (.ref C) (.ref W) = some true ∧ ∀ a, H2 a = none → tb { nx := fun σ' H' => D.nx (σ'.set i none) H', rt := D.rt } (σ.set i (some (.ref a))) (upd H2 a (exC a C d))) { nx := D.nx, rt := D.rt } σ H := Iff.rfl
theorem jq0 {sp : Sp} {t : TA} {Eh : XK} {D : Ends} {σ : St} {H : Hp} : (tTryCall sp t Eh D σ H) = (t σ H fun vs H1 => sp vs H1 (fun _ H2 => D.nx σ H2) Eh) := rfl
def rIsX (K : Frag) : List V → Hp → VK → Prop := fun vs H Q => ∃ a c C d b, vs = [.ref a, c] ∧ H a = some (exC a C d) ∧ ExLook K C ∧ KitAns K H C c b ∧ Q (.bl b) H
theorem pqC {K : Frag} {a : Addr} {c : V} {H : Hp} {Q : VK} : rIsX K [.ref a, c] H Q ↔ ∃ C d b, H a = some (exC a C d) ∧ ExLook K C ∧ KitAns K H C c b ∧ Q (.bl b) H :=
 ⟨fun ⟨_, _, C, d, b, e, h⟩ => by cases e; exact ⟨C, d, b, h⟩, fun ⟨C, d, b, h⟩ => ⟨a, c, C, d, b, rfl, h⟩⟩
end L2
namespace L2
open PySem PySem.Spec PySem.W PySem.Calls PyProof.Rows PySem.Builtin PySem.Builtin.ObjectAttr
section
variable {prog : Program} {w : World} {A : Around} {E : Value → Shared → Prop} {hh : Heap} {g : Array GenState} {dr : Drawn} {t : Nat} {os : OsState} {K : Frag} {a C : Addr} {o : Obj} {od : Option Obj} {name : Str} {v : Value}
end
structure ExFld (K : Frag) (C : Addr) (f : Str) : Prop where
 look : ExLook K C
 na : findIn K (.ref C) f = some none
 hd : hasDictIn K C = true
def tFldE (K : Frag) (te : TE) (f : Str) : TE := fun σ H Q => te σ H fun x H1 => ∃ a C d fs v, x = .ref a ∧ H1 a = some (exC a C (some d)) ∧ H1 d = some (.xd fs) ∧ ExFld K C f ∧ fs.lookup f = some v ∧ Q v H1
theorem oqi {K : Frag} {te : TE} {f : Str} {σ : St} {H : Hp} {Q : VK} : (tFldE K te f σ H Q) = (te σ H fun x H1 => ∃ a C d fs v, x = .ref a ∧ H1 a = some (exC a C (some d)) ∧ H1 d = some (.xd fs) ∧ ExFld K C f ∧ fs.lookup f = some v ∧ Q v H1) := rfl
end L2
namespace L2
open PySem PySem.Spec PyProof.Rows
section
variable {X : Cx}
def rStart1 : V → List V → Hp → VK → Prop := fun x vs H Q => ∃ z y : List Nat, x = .str ⟨z.toArray⟩ ∧ vs = [.str ⟨y.toArray⟩] ∧ Q (.bl (decide (z.take y.length = y))) H
def rEnd1 : V → List V → Hp → VK → Prop := fun x vs H Q => ∃ z y : List Nat, x = .str ⟨z.toArray⟩ ∧ vs = [.str ⟨y.toArray⟩] ∧ Q (.bl (decide (z.drop (z.length - y.length) = y))) H
theorem nqf (z y : List Nat) (i : Nat) : Builtin.Str.subAt ⟨z.toArray⟩ ⟨y.toArray⟩ i = decide ((z.drop i).take y.length = y) := by
 unfold Builtin.Str.subAt
 have hl : (⟨y.toArray⟩ : Str).length = y.length := rfl
 rw [hl, Bool.eq_iff_iff, beq_iff_eq, decide_eq_true_eq]
 show (z.toArray.extract i (i + y.length) = y.toArray) ↔ _
 rw [← Array.toList_inj]
 simp
theorem mqg (z y : List Nat) : (decide (0 + (⟨y.toArray⟩ : Str).length ≤ (⟨z.toArray⟩ : Str).length) && Builtin.Str.subAt ⟨z.toArray⟩ ⟨y.toArray⟩ 0) = decide (z.take y.length = y) := by
 rw [nqf, List.drop_zero]
 show (decide (0 + y.length ≤ z.length) && _) = _
 by_cases h : z.take y.length = y
 ·have := congrArg List.length h
  rw [List.length_take] at this
  rw [decide_eq_true h, decide_eq_true (show 0 + y.length ≤ z.length by omega)]
  rfl
 ·rw [decide_eq_false h, Bool.and_false]
theorem pqG (z y : List Nat) : (decide (0 + (⟨y.toArray⟩ : Str).length ≤ (⟨z.toArray⟩ : Str).length) && Builtin.Str.subAt ⟨z.toArray⟩ ⟨y.toArray⟩ ((⟨z.toArray⟩ : Str).length - (⟨y.toArray⟩ : Str).length)) = decide (z.drop (z.length - y.length) = y) := by
 rw [nqf]
 show (decide (0 + y.length ≤ z.length) && decide ((z.drop (z.length - y.length)).take y.length = y)) = _
 have e : (z.drop (z.length - y.length)).length ≤ y.length → (z.drop (z.length - y.length)).take y.length = z.drop (z.length - y.length) := fun h => List.take_of_length_le h
 rw [e (by rw [List.length_drop]; omega)]
 by_cases h : z.drop (z.length - y.length) = y
 ·have := congrArg List.length h
  rw [List.length_drop] at this
  rw [decide_eq_true h, decide_eq_true (show 0 + y.length ≤ z.length by omega)]
  rfl
 ·rw [decide_eq_false h, Bool.and_false]
theorem lql : MtR X "str.startswith" rStart1 := by
 intro pins s σ H x vs v us Q I rx rv h
 obtain ⟨z, y, rfl, rfl, q⟩ := h
 obtain ⟨t, rfl⟩ := rx
 obtain ⟨u, rfl, t', rfl⟩ := vals1 rv
 refine call_meets F.slot_str_startswith (typeIs_str _ _ _) F.entry_str_startswith (F.args_str_startswith_2 _ _) (gives_str_startswith _ _ t t').meets ?_
 refine ⟨.bl _, H, I, rfl, ?_⟩
 rw [← mqg] at q
 exact q
theorem oq2 : MtR X "str.endswith" rEnd1 := by
 intro pins s σ H x vs v us Q I rx rv h
 obtain ⟨z, y, rfl, rfl, q⟩ := h
 obtain ⟨t, rfl⟩ := rx
 obtain ⟨u, rfl, t', rfl⟩ := vals1 rv
 refine call_meets F.slot_str_endswith (typeIs_str _ _ _) F.entry_str_endswith (F.args_str_endswith_2 _ _) (gives_str_endswith _ _ t t').meets ?_
 refine ⟨.bl _, H, I, rfl, ?_⟩
 rw [← pqG] at q
 exact q
theorem qqc {i j : Nat} {ta : TA} {D : Ends} {σ : St} {H : Hp} : (tPar i j ta D σ H) = (ta σ H fun vs H1 => ∃ v w, vs = [v, w] ∧ D.nx ((σ.set i (some v)).set j (some w)) H1) := rfl
theorem kq5 {z y : List Nat} {H : Hp} {Q : VK} : rStart1 (.str ⟨z.toArray⟩) [.str ⟨y.toArray⟩] H Q ↔ Q (.bl (decide (z.take y.length = y))) H :=
 ⟨fun ⟨z', y', e1, e2, h⟩ => by
  injection e1 with e1; injection e1 with e1
  injection e2 with e2; injection e2 with e2; injection e2 with e2
  have h1 : z = z' := by simpa using congrArg Array.toList e1
  have h2 : y = y' := by simpa using congrArg Array.toList e2
  subst h1 h2; exact h, fun h => ⟨z, y, rfl, rfl, h⟩⟩
theorem kq1 {z y : List Nat} {H : Hp} {Q : VK} : rEnd1 (.str ⟨z.toArray⟩) [.str ⟨y.toArray⟩] H Q ↔ Q (.bl (decide (z.drop (z.length - y.length) = y))) H :=
 ⟨fun ⟨z', y', e1, e2, h⟩ => by
  injection e1 with e1; injection e1 with e1
  injection e2 with e2; injection e2 with e2; injection e2 with e2
  have h1 : z = z' := by simpa using congrArg Array.toList e1
  have h2 : y = y' := by simpa using congrArg Array.toList e2
  subst h1 h2; exact h, fun h => ⟨z, y, rfl, rfl, h⟩⟩
end
end L2
namespace L2
open PySem
section
variable {p : Addr} {fv : St} {tt : TT} {te : TE} {Q : VK} {H1 : Hp} {K : PySem.W.Frag}
end
end L2
namespace Wm
open PySem L2
inductive Pc
 | step (s : List Nat)
 | part (h n t : List Nat)
 | num (n : List Nat)
 | word (n : List Nat)
 | gap (n : List Nat)
 | rest (n : List Nat)
abbrev tV (l : List Nat) : V := .str ⟨l.toArray⟩
def Pc.kw : Pc → Str
 | .step _ => Str.ofString "step"
 | .part .. => Str.ofString "part"
 | .num _ => Str.ofString "number"
 | .word _ => Str.ofString "word"
 | .gap _ => Str.ofString "gap"
 | .rest _ => Str.ofString "rest"
def Pc.tl : Pc → List V
 | .step s => [tV s]
 | .part h n t => [tV h, tV n, tV t]
 | .num n => [tV n]
 | .word n => [tV n]
 | .gap n => [tV n]
 | .rest n => [tV n]
def Pc.vals (c : Pc) : List V := .str c.kw :: c.tl
def Pc.name : Pc → List Nat
 | .step _ => []
 | .part _ n _ => n
 | .num n => n
 | .word n => n
 | .gap n => n
 | .rest n => n
def Pc.head : Pc → List Nat | .part h _ _ => h | _ => []
def Pc.tail : Pc → List Nat | .part _ _ t => t | _ => []
def Pc.isStep : Pc → Bool | .step _ => true | _ => false
def Pc.isPart : Pc → Bool | .part .. => true | _ => false
def Pc.isNum : Pc → Bool | .num _ => true | _ => false
def Pc.isWord : Pc → Bool | .word _ => true | _ => false
def Pc.isRest : Pc → Bool | .rest _ => true | _ => false
theorem Pc.at0 (c : Pc) : atI c.vals 0 = some (.str c.kw) := aqi (j := 0) rfl
theorem gqh (c : Pc) : decide (c.kw = Str.ofString "step") = c.isStep := by cases c <;> first | exact decide_eq_true rfl | exact decide_eq_false (show ¬ (Str.ofString _ = Str.ofString _) by decide +kernel)
theorem cqq (c : Pc) : decide (c.kw = Str.ofString "part") = c.isPart := by cases c <;> first | exact decide_eq_true rfl | exact decide_eq_false (show ¬ (Str.ofString _ = Str.ofString _) by decide +kernel)
theorem cqr (c : Pc) : decide (c.kw = Str.ofString "number") = c.isNum := by cases c <;> first | exact decide_eq_true rfl | exact decide_eq_false (show ¬ (Str.ofString _ = Str.ofString _) by decide +kernel)
theorem iq3 (c : Pc) : decide (c.kw = Str.ofString "word") = c.isWord := by cases c <;> first | exact decide_eq_true rfl | exact decide_eq_false (show ¬ (Str.ofString _ = Str.ofString _) by decide +kernel)
theorem eq3 (c : Pc) : decide (c.kw = Str.ofString "rest") = c.isRest := by cases c <;> first | exact decide_eq_true rfl | exact decide_eq_false (show ¬ (Str.ofString _ = Str.ofString _) by decide +kernel)
def isFig (c : Nat) : Bool := decide (48 ≤ c ∧ c ≤ 57)
def isSma (c : Nat) : Bool := decide (97 ≤ c ∧ c ≤ 122)
def numB (l : List Nat) : Bool := decide (1 ≤ l.length) && decide (l.length ≤ 60) && l.all isFig && (decide (l = [48]) || !decide (l.head? = some 48))
def wordB (l : List Nat) : Bool := decide (1 ≤ l.length) && decide (l.length ≤ 60) && l.all isSma
def partB (h t s : List Nat) : Bool := decide (s.take h.length = h) && (decide (s.drop (s.length - t.length) = t) && decide (h.length + t.length < s.length))
def fitsM (c : Pc) (s : List Nat) : Bool := !isDot s && match c with
 | .step w => decide (s = w)
 | .part h _ t => partB h t s
 | .num _ => numB s
 | .word _ => wordB s
 | .gap _ => true
 | .rest _ => true
inductive Vl
 | txt (l : List Nat)
 | int (i : Int)
 | lst (ls : List (List Nat))
def intOf (l : List Nat) : Int := (PySem.intText? ⟨l.toArray⟩).getD 0
def amid (h t s : List Nat) : List Nat := (s.drop h.length).take (s.length - t.length - h.length)
def bvM (c : Pc) (ss : List (List Nat)) : Vl := match c with
 | .rest _ => .lst ss
 | .num _ => .int (intOf (ss.headD []))
 | _ => .txt (amid c.head c.tail (ss.headD []))
def VlV (H : Hp) : Vl → V → Prop
 | .txt l, v => v = tV l
 | .int i, v => v = .int i
 | .lst ls, v => ∃ p, v = .ref p ∧ H p = some (.lst (ls.map tV))
theorem VlV.mono {H H' : Hp} (s : Same H H') : ∀ {x : Vl} {v : V}, VlV H x v → VlV H' x v
 | .txt _, _, h => h
 | .int _, _, h => h
 | .lst _, _, ⟨p, e, h⟩ => ⟨p, e, s _ _ h⟩
theorem kq9 {l : List Nat} (h : l.all isFig = true) (h0 : 1 ≤ l.length) (h1 : l.length ≤ 60) : PySem.intText? ⟨l.toArray⟩ = some (intOf l) := by
 have e := intText_digits (x := ⟨l.toArray⟩) (fun c hc => by
  have := List.all_eq_true.mp h c (by simpa using hc)
  simpa [isFig] using this) (by intro z; simp at z; rw [z] at h0; simp at h0) (by show l.length ≤ 4300; omega)
 unfold intOf
 rw [e]
 rfl
inductive PcAll (K : PySem.W.Frag) (H : Hp) : List Pc → List V → Prop
 | nil : PcAll K H [] []
 | cons {c : Pc} {p : Addr} {cs : List Pc} {xs : List V} : SqT K H p c.vals → PcAll K H cs xs → PcAll K H (c :: cs) (.ref p :: xs)
theorem PcAll.mono {K : PySem.W.Frag} {H H' : Hp} (s : Same H H') : ∀ {cs : List Pc} {xs : List V}, PcAll K H cs xs → PcAll K H' cs xs
 | _, _, .nil => .nil
 | _, _, .cons h r => .cons (s.tup h) (PcAll.mono s r)
theorem PcAll.length {K : PySem.W.Frag} {H : Hp} : ∀ {cs : List Pc} {xs : List V}, PcAll K H cs xs → xs.length = cs.length
 | _, _, .nil => rfl
 | _, _, .cons _ r => by simp [PcAll.length r]
theorem PcAll.get {K : PySem.W.Frag} {H : Hp} : ∀ {cs : List Pc} {xs : List V}, PcAll K H cs xs → ∀ {i : Nat} {v : V}, xs[i]? = some v → ∃ c p, cs[i]? = some c ∧ v = .ref p ∧ SqT K H p c.vals
 | _, _, .nil, i, v, e => by simp at e
 | _, _, .cons h r, 0, v, e => by cases e; exact ⟨_, _, rfl, rfl, h⟩
 | _, _, .cons h r, i + 1, v, e => by simp only [List.getElem?_cons_succ] at e ⊢; exact r.get e
theorem PcAll.append {K : PySem.W.Frag} {H : Hp} {ds : List Pc} {ys : List V} (h2 : PcAll K H ds ys) : ∀ {cs : List Pc} {xs : List V}, PcAll K H cs xs → PcAll K H (cs ++ ds) (xs ++ ys)
 | _, _, .nil => h2
 | _, _, .cons h r => .cons h (PcAll.append h2 r)
def hasRest (cs : List Pc) : Bool := match cs.getLast? with
 | some c => c.isRest
 | none => false
def smaL : List Nat := (Str.ofString "abcdefghijklmnopqrstuvwxyz").cps.toList
theorem lqI : ∀ c, c < 128 → (c ∈ smaL ↔ isSma c = true) := by decide +kernel
theorem jqE : ∀ c ∈ smaL, c < 128 := by decide +kernel
theorem lqH (l : List Nat) : l.all isSma = l.all fun c => decide (c ∈ smaL) := by
 congr 1
 funext c
 by_cases h : c < 128
 ·rw [Bool.eq_iff_iff, decide_eq_true_eq]; exact (lqI c h).symm
 ·have h1 : ¬ c ∈ smaL := fun z => h (jqE c z)
  rw [decide_eq_false h1]
  unfold isSma
  exact decide_eq_false (by omega)
theorem kqF (l : List Nat) : (l.all fun c => decide (c ∈ fgS)) = l.all isFig := by
 congr 1
 funext c
 unfold isFig
 exact decide_eq_decide.mpr qqr
theorem PcAll.last {K : PySem.W.Frag} {H : Hp} {cs : List Pc} {xs : List V} {c : Pc} (h : PcAll K H cs xs) (hc : cs.getLast? = some c) : ∃ v, atI xs (-1) = some v ∧ ∃ p, v = .ref p ∧ SqT K H p c.vals := by
 have hl := h.length
 have hn : cs ≠ [] := by rintro rfl; cases hc
 have hp := List.length_pos_iff.mpr hn
 obtain ⟨v, hx⟩ : ∃ v, xs[cs.length - 1]? = some v := ⟨_, List.getElem?_eq_getElem (by omega)⟩
 obtain ⟨d, p, e1, e2, e3⟩ := h.get hx
 rw [List.getLast?_eq_getElem?] at hc
 rw [hc] at e1
 cases e1
 refine ⟨v, ?_, p, e2, e3⟩
 have hg : xs.getLast? = some v := by rw [List.getLast?_eq_getElem?, hl]; exact hx
 have := hqJ (l := xs) (fun v => v) hg
 simpa using this
def spreadM (cs : List Pc) (n : Nat) : Option (List Pc) := if hasRest cs = true ∧ cs.length ≤ n then some (cs ++ (List.replicate (n - cs.length) (cs.drop (cs.length - 1))).flatten) else if n = cs.length then some cs else none
theorem jqs (s : List Nat) : amid [] [] s = s := by unfold amid; simp
def fitsP (cs : List Pc) (cl r : Bool) (ss : List (List Nat)) (e : Bool) : Bool := match spreadM cs ss.length with
 | none => false
 | some ds => r && decide (e = cl) && (List.zipWith fitsM ds ss).all id
def boundM : List Pc → List (List Nat) → List (List Nat × Vl)
 | [], _ => []
 | c :: cs, ss => (if c.isStep then [] else [(c.name, bvM c ss)]) ++ boundM cs (ss.drop 1)
inductive BndV (H : Hp) (l : Addr) : List (List Nat × Vl) → List V → Prop
 | nil : BndV H l [] []
 | cons {n : List Nat} {x : Vl} {p : Addr} {v : V} {bs : List (List Nat × Vl)} {ys : List V} : H p = some (.tup [tV n, v]) → VlV H x v → (∀ q, v = .ref q → q ≠ l) → BndV H l bs ys → BndV H l ((n, x) :: bs) (.ref p :: ys)
theorem BndV.mono {H H' : Hp} {l : Addr} (s : Same H H') : ∀ {bs : List (List Nat × Vl)} {ys : List V}, BndV H l bs ys → BndV H' l bs ys
 | _, _, .nil => .nil
 | _, _, .cons h v n r => .cons (s _ _ h) (v.mono s) n (BndV.mono s r)
theorem VlV.upd {H : Hp} {l : Addr} {o : HO} : ∀ {x : Vl} {v : V}, VlV H x v → (∀ q, v = .ref q → q ≠ l) → VlV (L2.upd H l o) x v
 | .txt _, _, h, _ => h
 | .int _, _, h, _ => h
 | .lst _, _, ⟨p, e, h⟩, hn => ⟨p, e, by rw [aqx (hn p e)]; exact h⟩
theorem BndV.upd {H : Hp} {l : Addr} {o : HO} {xs : List V} (hl : H l = some (.lst xs)) : ∀ {bs : List (List Nat × Vl)} {ys : List V}, BndV H l bs ys → BndV (L2.upd H l o) l bs ys
 | _, _, .nil => .nil
 | _, _, .cons h v n r => .cons (by rw [aqx (mq7 h hl (by intro z; cases z))]; exact h) (v.upd n) n (BndV.upd hl r)
theorem BndV.snoc {H : Hp} {l : Addr} {n : List Nat} {x : Vl} {p : Addr} {v : V} (h : H p = some (.tup [tV n, v])) (hv : VlV H x v) (hn : ∀ q, v = .ref q → q ≠ l) : ∀ {bs : List (List Nat × Vl)} {ys : List V}, BndV H l bs ys → BndV H l (bs ++ [(n, x)]) (ys ++ [.ref p])
 | _, _, .nil => .cons h hv hn .nil
 | _, _, .cons a b c r => .cons a b c (BndV.snoc h hv hn r)
theorem BndV.length {H : Hp} {l : Addr} : ∀ {bs : List (List Nat × Vl)} {ys : List V}, BndV H l bs ys → ys.length = bs.length
 | _, _, .nil => rfl
 | _, _, .cons _ _ _ r => by simp [BndV.length r]
theorem dq8 : ∀ (cs : List Pc) (ss : List (List Nat)), (boundM cs ss).length ≤ cs.length
 | [], _ => Nat.le_refl _
 | c :: cs, ss => by
  have := dq8 cs (ss.drop 1)
  unfold boundM
  rw [List.length_append]
  split <;> simp only [List.length_nil, List.length_cons] <;> omega
theorem gqg : ∀ (cs : List Pc) (ss : List (List Nat)) (i : Nat) (c : Pc), cs[i]? = some c → boundM (cs.take (i + 1)) ss = boundM (cs.take i) ss ++ (if c.isStep then [] else [(c.name, bvM c (ss.drop i))])
 | [], ss, i, c, h => by simp at h
 | d :: cs, ss, 0, c, h => by
  cases h
  show _ ++ boundM (cs.take 0) (ss.drop 1) = boundM [] ss ++ _
  simp [boundM]
 | d :: cs, ss, i + 1, c, h => by
  have := gqg cs (ss.drop 1) i c (by simpa using h)
  show _ ++ boundM (cs.take (i + 1)) (ss.drop 1) = (_ ++ boundM (cs.take i) (ss.drop 1)) ++ _
  rw [this, List.append_assoc, List.drop_drop, Nat.add_comm 1 i]
theorem jqP {cs ds : List Pc} {n : Nat} (h : spreadM cs n = some ds) : cs.length ≤ n ∧ ∃ es, ds = cs ++ es := by
 unfold spreadM at h
 split at h
 ·rename_i hh
  cases h
  exact ⟨hh.2, _, rfl⟩
 ·split at h
  ·rename_i hh
   cases h
   exact ⟨by omega, [], by simp⟩
  ·cases h
theorem mq1 {cs : List Pc} {cl r e : Bool} {ss : List (List Nat)} (h : fitsP cs cl r ss e = true) {i : Nat} {c : Pc} (hc : cs[i]? = some c) : ∃ s, ss[i]? = some s ∧ fitsM c s = true := by
 unfold fitsP at h
 split at h
 ·cases h
 ·rename_i ds hd
  obtain ⟨hl, es, rfl⟩ := jqP hd
  have hi := (List.getElem?_eq_some_iff.mp hc).1
  have hs : ss[i]? = some ss[i] := List.getElem?_eq_getElem (by omega)
  refine ⟨_, hs, ?_⟩
  have ha := (Bool.and_eq_true _ _ ▸ h).2
  have hz : (List.zipWith fitsM (cs ++ es) ss)[i]? = some (fitsM c ss[i]) := by
   rw [List.getElem?_zipWith, List.getElem?_append_left hi, hc, hs]
  exact List.all_eq_true.mp ha _ (List.mem_of_getElem? hz)
theorem lqX {n s : List Nat} (h : fitsM (.num n) s = true) : 1 ≤ s.length ∧ s.length ≤ 60 ∧ s.all isFig = true := by
 unfold fitsM numB at h
 simp only [Bool.and_eq_true, decide_eq_true_eq] at h
 exact ⟨h.2.1.1.1, h.2.1.1.2, h.2.1.2⟩
theorem hqM {h n t s : List Nat} (hf : fitsM (.part h n t) s = true) : (Pc.part h n t).head.length + (Pc.part h n t).tail.length ≤ s.length := by
 unfold fitsM partB at hf
 simp only [Bool.and_eq_true, decide_eq_true_eq] at hf
 have := hf.2.2.2
 show h.length + t.length ≤ s.length
 omega
theorem hqA (xs : List V) : cutV xs (some (-1)) none = xs.drop (xs.length - 1) := by
 unfold cutV
 rw [HT.sIx_none]
 have e : HT.sIx xs.length 0 (some (-1)) = xs.length - 1 := by
  unfold HT.sIx
  simp only [if_pos (show (-1 : Int) < 0 by decide)]
  omega
 rw [e, List.take_of_length_le (by rw [List.length_drop]; omega)]
theorem PcAll.drop {K : PySem.W.Frag} {H : Hp} : ∀ {cs : List Pc} {xs : List V}, PcAll K H cs xs → ∀ i, PcAll K H (cs.drop i) (xs.drop i)
 | _, _, h, 0 => h
 | _, _, .nil, i + 1 => .nil
 | _, _, .cons _ r, i + 1 => r.drop i
theorem PcAll.reps {K : PySem.W.Frag} {H : Hp} {cs : List Pc} {xs : List V} (h : PcAll K H cs xs) : ∀ m : Nat, PcAll K H (List.replicate m cs).flatten (List.replicate m xs).flatten
 | 0 => .nil
 | m + 1 => by
  rw [List.replicate_succ, List.replicate_succ, List.flatten_cons, List.flatten_cons]
  exact (h.reps m).append h
theorem mqx {α : Type} (xs : List α) (m : Nat) (h : xs.length ≤ 1) : (List.replicate m xs).flatten.length ≤ m := by
 induction m with
 | zero => simp
 | succ m ih =>
  rw [List.replicate_succ, List.flatten_cons, List.length_append]
  omega
def PcSz (cs : List Pc) : Prop := ∀ c ∈ cs, c.head.length ≤ 100000 ∧ c.tail.length ≤ 100000
theorem kqk {cs ds : List Pc} {n : Nat} (h : spreadM cs n = some ds) : ∀ c ∈ ds, c ∈ cs := by
 unfold spreadM at h
 split at h
 ·cases h
  intro c hc
  rcases List.mem_append.mp hc with hc | hc
  ·exact hc
  ·obtain ⟨l, hl, hc⟩ := List.mem_flatten.mp hc
   rw [List.eq_of_mem_replicate hl] at hc
   exact List.mem_of_mem_drop hc
 ·split at h
  ·cases h; exact fun c hc => hc
  ·cases h
theorem jq9 {cs ds : List Pc} {n : Nat} (h : spreadM cs n = some ds) : ds.length = n := by
 unfold spreadM at h
 split at h
 ·rename_i hh
  cases h
  have hne : cs ≠ [] := by rintro rfl; exact absurd hh.1 (by decide)
  have hp := List.length_pos_iff.mpr hne
  have e : ∀ m, (List.replicate m (cs.drop (cs.length - 1))).flatten.length = m := fun m => by
   induction m with
   | zero => simp
   | succ m ih =>
    rw [List.replicate_succ, List.flatten_cons, List.length_append, ih, List.length_drop]
    omega
  rw [List.length_append, e]
  omega
 ·split at h
  ·rename_i hh
   cases h; omega
  ·cases h
theorem hqh (xs : List V) (i : Nat) : cutV xs (some (i : Int)) none = xs.drop i := by
 unfold cutV
 rw [HT.sIx_none, HT.sIx_nat]
 by_cases h : i ≤ xs.length
 ·rw [Nat.min_eq_left h, List.take_of_length_le (by rw [List.length_drop]; omega)]
 ·rw [Nat.min_eq_right (by omega), List.drop_of_length_le (Nat.le_refl _), List.drop_of_length_le (by omega)]
  simp
theorem nqt (i : Int) : ∃ c, atI smaL (i % 26) = some c ∧ isSma c = true := by
 have h1 := Int.emod_nonneg i (show (26 : Int) ≠ 0 by decide)
 have h2 := Int.emod_lt_of_pos i (show (0 : Int) < 26 by decide)
 have hl : smaL.length = 26 := by decide +kernel
 have h3 : (i % 26).toNat < smaL.length := by omega
 refine ⟨smaL[(i % 26).toNat], ?_, (lqI _ (jqE _ (List.getElem_mem h3))).mp (List.getElem_mem h3)⟩
 have := aqi (List.getElem?_eq_getElem h3)
 rw [Int.toNat_of_nonneg h1] at this
 exact this
def PcOk : Pc → Prop
 | .step s => 0 < s.length ∧ s.length ≤ 100 ∧ (∀ c ∈ s, isSg c = true) ∧ isDot s = false
 | .part h _ t => h.length ≤ 100 ∧ t.length ≤ 100 ∧ (∀ c ∈ h, isSg c = true) ∧ (∀ c ∈ t, isSg c = true) ∧ h ++ t ≠ []
 | _ => True
theorem lqi (s : Stp) : inV (sV s) [sV [], sV sStay, sV sUp] = (decide (s = []) || isDot s) := by
 have e : ∀ a : Stp, eqV (sV a) (sV s) = decide (s = a) := fun a => by
  show ((⟨a.toArray⟩ : Str) == ⟨s.toArray⟩) = decide (s = a)
  rw [Bool.eq_iff_iff, beq_iff_eq, decide_eq_true_eq, dqw]
  exact ⟨Eq.symm, Eq.symm⟩
 have h := lqG s
 unfold inV at h ⊢
 rw [List.any_cons, h, e]
theorem mqd (l : List Nat) (d : Nat) (h : d ≠ 46) : isDot (l ++ [d]) = false := by
 refine iqS.mpr ⟨fun z => ?_, fun z => ?_⟩
 ·have : (l ++ [d]).getLast? = sUp.getLast? := by rw [z]
  rw [List.getLast?_append] at this
  exact h (by simpa [sUp] using this)
 ·have : (l ++ [d]).getLast? = sStay.getLast? := by rw [z]
  rw [List.getLast?_append] at this
  exact h (by simpa [sStay] using this)
theorem gqO {H : Hp} : ∀ (ss : List Nat), IsAll H (ss.map fun c => st [c]) (ss.map fun c => V.str ⟨#[c]⟩)
 | [] => .nil
 | c :: ss => .cons (.str _) (gqO ss)
theorem layL {n : Nat} {ds : List PyData} (h : ∀ d ∈ ds, LayAt n d) : LayAt (n + 1) (.list ds) := by
 obtain ⟨h1, h2⟩ := layAll h
 exact ⟨by simp only [PyData.canLay0, h1], by simp only [PyData.depth]; omega⟩
theorem kqj {ss : List Nat} (h : ∀ c ∈ ss, isSg c = true) : SeqAt.shaped (.list (ss.map fun c => st [c])) = true := by
 refine LayAt.shaped (n := 1) (layL (n := 0) fun d hd => ?_) (by decide)
 obtain ⟨c, hc, rfl⟩ := List.mem_map.mp hd
 exact .st fun e he => by rw [List.mem_singleton.mp he]; exact h c hc
def vlD : Vl → PyData
 | .txt l => st l
 | .int i => .int i
 | .lst ls => .list (ls.map st)
theorem hqd {H : Hp} : ∀ (ls : List (List Nat)), IsAll H (ls.map st) (ls.map tV)
 | [] => .nil
 | l :: ls => .cons (.str _) (hqd ls)
theorem VlV.is {H : Hp} : ∀ {x : Vl} {v : V}, VlV H x v → Is H (vlD x) v
 | .txt l, _, h => by cases h; exact .str _
 | .int i, _, h => by cases h; exact .int _
 | .lst ls, _, ⟨p, e, h⟩ => by cases e; exact .lst h (hqd ls)
theorem lqE {l : List Nat} (h : l.all isSma = true) : ∀ c ∈ l, isSg c = true := fun c hc => by
 have := List.all_eq_true.mp h c hc
 simp only [isSma, decide_eq_true_eq] at this
 simp only [isSg, Bool.and_eq_true, decide_eq_true_eq, Bool.not_eq_true', decide_eq_false_iff_not]
 omega
def PatOk (ps : List Pc) : Prop := (∀ c ∈ ps, PcOk c) ∧ ∀ i c, ps[i]? = some c → c.isRest = true → i + 1 = ps.length
def NmAt (X : Int) (a k : Nat) (n : List Nat) : Prop := ∃ d, n[a]? = some d ∧ atI smaL ((X + (k : Int)) % 26) = some d
theorem NmAt.app {X : Int} {a k : Nat} {n m : List Nat} (h : NmAt X a k n) : NmAt X a k (n ++ m) := by
 obtain ⟨d, h1, h2⟩ := h
 exact ⟨d, by rw [List.getElem?_append_left (List.getElem?_eq_some_iff.mp h1).1]; exact h1, h2⟩
theorem nqC : ∀ i, i < 26 → ∀ j, j < 26 → smaL[i]? = smaL[j]? → i = j := by decide +kernel
theorem mqV {X : Int} {a : Nat} {ns : List (List Nat)} (h : ∀ (k : Nat) (n : List Nat), ns[k]? = some n → NmAt X a k n) (hl : ns.length ≤ 26) : ns.Nodup := by
 rw [List.nodup_iff_pairwise_ne, List.pairwise_iff_getElem]
 intro i j hi hj hij e
 obtain ⟨d, h1, h2⟩ := h i _ (List.getElem?_eq_getElem hi)
 obtain ⟨d', h3, h4⟩ := h j _ (List.getElem?_eq_getElem hj)
 rw [e, h3] at h1
 cases h1
 have m1 := Int.emod_nonneg (X + (i : Int)) (show (26 : Int) ≠ 0 by decide)
 have m2 := Int.emod_lt_of_pos (X + (i : Int)) (show (0 : Int) < 26 by decide)
 have m3 := Int.emod_nonneg (X + (j : Int)) (show (26 : Int) ≠ 0 by decide)
 have m4 := Int.emod_lt_of_pos (X + (j : Int)) (show (0 : Int) < 26 by decide)
 have at_get : ∀ {z : Int}, 0 ≤ z → z < 26 → atI smaL z = smaL[z.toNat]? := fun {z} z0 z1 => by
  obtain ⟨n, rfl⟩ := Int.eq_ofNat_of_zero_le z0
  have hl : smaL.length = 26 := by decide +kernel
  have hn : n < smaL.length := by omega
  rw [aqi (List.getElem?_eq_getElem hn), ← List.getElem?_eq_getElem hn]
  rfl
 rw [at_get m1 m2] at h2
 rw [at_get m3 m4] at h4
 have := nqC _ (by omega) _ (by omega) (h2.trans h4.symm)
 omega
inductive PcT (H : Hp) : List Pc → List V → Prop
 | nil : PcT H [] []
 | cons {c : Pc} {p : Addr} {cs : List Pc} {xs : List V} : H p = some (.tup c.vals) → PcT H cs xs → PcT H (c :: cs) (.ref p :: xs)
theorem PcT.mono {H H' : Hp} (s : SameT H H') : ∀ {cs : List Pc} {xs : List V}, PcT H cs xs → PcT H' cs xs
 | _, _, .nil => .nil
 | _, _, .cons h r => .cons (s _ _ h) (PcT.mono s r)
theorem PcT.all {K : PySem.W.Frag} {H : Hp} : ∀ {cs : List Pc} {xs : List V}, PcT H cs xs → PcAll K H cs xs
 | _, _, .nil => .nil
 | _, _, .cons h r => .cons (.of h) (PcT.all r)
theorem PcT.length {H : Hp} : ∀ {cs : List Pc} {xs : List V}, PcT H cs xs → xs.length = cs.length
 | _, _, .nil => rfl
 | _, _, .cons _ r => by simp [PcT.length r]
theorem PcT.append {H : Hp} {ds : List Pc} {ys : List V} (h2 : PcT H ds ys) : ∀ {cs : List Pc} {xs : List V}, PcT H cs xs → PcT H (cs ++ ds) (xs ++ ys)
 | _, _, .nil => h2
 | _, _, .cons h r => .cons h (PcT.append h2 r)
theorem PcT.take {H : Hp} : ∀ {cs : List Pc} {xs : List V} (n : Nat), PcT H cs xs → PcT H (cs.take n) (xs.take n)
 | _, _, 0, _ => .nil
 | _, _, _ + 1, .nil => .nil
 | _, _, n + 1, .cons h r => .cons h (PcT.take n r)
theorem PcT.drop {H : Hp} : ∀ {cs : List Pc} {xs : List V} (n : Nat), PcT H cs xs → PcT H (cs.drop n) (xs.drop n)
 | _, _, 0, h => h
 | _, _, _ + 1, .nil => .nil
 | _, _, n + 1, .cons _ r => PcT.drop n r
theorem PcT.get {H : Hp} : ∀ {cs : List Pc} {xs : List V}, PcT H cs xs → ∀ {i : Nat} {v : V}, xs[i]? = some v → ∃ c p, cs[i]? = some c ∧ v = .ref p ∧ H p = some (.tup c.vals)
 | _, _, .cons h _, 0, _, e => by cases e; exact ⟨_, _, rfl, rfl, h⟩
 | _, _, .cons _ r, i + 1, _, e => PcT.get r (i := i) (by simpa using e)
 | _, _, .nil, _, _, e => by cases e
def pcD (c : Pc) : PyData := .tuple (.str c.kw :: match c with
 | .step s => [st s]
 | .part h n t => [st h, st n, st t]
 | .num n => [st n]
 | .word n => [st n]
 | .gap n => [st n]
 | .rest n => [st n])
theorem PcT.isT {H : Hp} : ∀ {cs : List Pc} {xs : List V}, PcT H cs xs → IsTAll H (cs.map pcD) xs
 | _, _, .nil => .nil
 | c :: _, _, .cons h r => by
  refine .cons ?_ (PcT.isT r)
  cases c with
  | step s => exact .tup h (.cons (.str _) (.cons (.str _) .nil))
  | part a b d => exact .tup h (.cons (.str _) (.cons (.str _) (.cons (.str _) (.cons (.str _) .nil))))
  | num n => exact .tup h (.cons (.str _) (.cons (.str _) .nil))
  | word n => exact .tup h (.cons (.str _) (.cons (.str _) .nil))
  | gap n => exact .tup h (.cons (.str _) (.cons (.str _) .nil))
  | rest n => exact .tup h (.cons (.str _) (.cons (.str _) .nil))
def PcSg (c : Pc) : Prop := (∀ l, c = .step l → ∀ x ∈ l, isSg x = true) ∧ (∀ h n t, c = .part h n t → (∀ x ∈ h, isSg x = true) ∧ ∀ x ∈ t, isSg x = true) ∧ ∀ x ∈ c.name, isSg x = true
theorem kqQ {c : Pc} (h : PcSg c) : LayAt 1 (pcD c) := by
 have kwl : ∀ s : Str, s ∈ [Str.ofString "step", Str.ofString "part", Str.ofString "number", Str.ofString "word", Str.ofString "gap", Str.ofString "rest"] → LayAt 0 (PyData.str s) := fun s hs => by
  have all : ∀ s ∈ [Str.ofString "step", Str.ofString "part", Str.ofString "number", Str.ofString "word", Str.ofString "gap", Str.ofString "rest"], ∀ x ∈ s.cps.toList, isSg x = true := by decide +kernel
  exact LayAt.st (l := s.cps.toList) (all s hs)
 have one : ∀ (k : Str) (l : List Nat), k ∈ [Str.ofString "step", Str.ofString "part", Str.ofString "number", Str.ofString "word", Str.ofString "gap", Str.ofString "rest"] → (∀ x ∈ l, isSg x = true) → LayAt 1 (.tuple [.str k, st l]) := fun k l hk hl => LayAt.tup (n := 0) fun d hd => by
  simp only [List.mem_cons, List.not_mem_nil, or_false] at hd
  rcases hd with rfl | rfl
  ·exact kwl k hk
  ·exact LayAt.st hl
 cases c with
 | step s => exact one _ s (by simp [Pc.kw]) (h.1 s rfl)
 | part a b d =>
  obtain ⟨h1, h2⟩ := h.2.1 a b d rfl
  refine LayAt.tup (n := 0) fun x hx => ?_
  simp only [List.mem_cons, List.not_mem_nil, or_false] at hx
  rcases hx with rfl | rfl | rfl | rfl
  ·exact kwl _ (by simp [Pc.kw])
  ·exact LayAt.st h1
  ·exact LayAt.st h.2.2
  ·exact LayAt.st h2
 | num n => exact one _ n (by simp [Pc.kw]) h.2.2
 | word n => exact one _ n (by simp [Pc.kw]) h.2.2
 | gap n => exact one _ n (by simp [Pc.kw]) h.2.2
 | rest n => exact one _ n (by simp [Pc.kw]) h.2.2
theorem jqC {cs : List Pc} (h : ∀ c ∈ cs, PcSg c) : LayAt 2 (.list (cs.map pcD)) := layL fun d hd => by
 obtain ⟨c, hc, rfl⟩ := List.mem_map.mp hd
 exact kqQ (h c hc)
theorem jqF {cs : List Pc} (h : ∀ c ∈ cs, PcSg c) : LayAt 2 (.tuple (cs.map pcD)) := LayAt.tup fun d hd => by
 obtain ⟨c, hc, rfl⟩ := List.mem_map.mp hd
 exact kqQ (h c hc)
end Wm
namespace L2
open PySem PySem.Spec PyProof.Rows
section
variable {p : Addr} {fv : St} {tt : TT} {te : TE} {Q : VK} {H H1 : Hp} {K : PySem.W.Frag}
theorem pqB {l b : Addr} : rExtend (.ref l) [.ref b] H Q ↔ ∃ xs zs, H l = some (.lst xs) ∧ H b = some (.lst zs) ∧ xs.length + zs.length ≤ sizeLine ∧ Q .non (upd H l (.lst (xs ++ zs))) := by
 constructor
 ·rintro ⟨l', b', xs, zs, h1, h2, h3⟩
  cases h1; cases h2
  exact ⟨xs, zs, h3⟩
 ·rintro ⟨xs, zs, h⟩
  exact ⟨l, b, xs, zs, rfl, rfl, h⟩
theorem lqw {tl : TE} {fr : List Nat} {σ : St} : (tComp2 K (iList K tl) fr tt te σ H Q) = (tl σ H fun x H1 => ∃ a, x = .ref a ∧ (∃ xs, SqL K H1 a xs) ∧ ∀ p, H1 p = none → CompI2 K (Itl K a) p (frV σ fr) tt te Q H1) := rfl
end
end L2
namespace Wm
open PySem L2
inductive VlsV (H : Hp) : List (List Nat × PyData) → List V → Prop
 | nil : VlsV H [] []
 | cons {n : List Nat} {d : PyData} {p : Addr} {v : V} {vs : List (List Nat × PyData)} {xs : List V} : H p = some (.tup [tV n, v]) → Is H d v → VlsV H vs xs → VlsV H ((n, d) :: vs) (.ref p :: xs)
def gapsM (cs : List Pc) : List (List Nat) := (cs.filter fun c => !c.isStep).map Pc.name
def named (vs : List (List Nat × PyData)) (n : List Nat) : List PyData := (vs.filter fun p => decide (p.1 = n)).map (·.2)
end Wm
namespace L2
open PySem
end L2
namespace Wm
open PySem L2
def SgT (s : List Nat) : Prop := s ≠ [] ∧ ∀ c ∈ s, isSg c = true
theorem fq2 : ∀ (cs : List Pc) (ss : List (List Nat)), (boundM cs ss).map (·.1) = gapsM cs
 | [], _ => rfl
 | c :: cs, ss => by
  have ih := fq2 cs (ss.drop 1)
  show ((if c.isStep then [] else [(c.name, bvM c ss)]) ++ boundM cs (ss.drop 1)).map (·.1) = _
  rw [List.map_append, ih]
  unfold gapsM
  rw [List.filter_cons]
  cases c.isStep <;> rfl
theorem pqD {c : Nat} (h : 48 ≤ c ∧ c ≤ 57) : isSg c = true := by
 simp only [isSg, Bool.and_eq_true, decide_eq_true_eq, Bool.not_eq_true', decide_eq_false_iff_not]
 omega
theorem oqL {k : Nat} : ∀ {n : Nat}, 0 < k → n < 10 ^ k → (Nat.toDigits 10 n).length ≤ k := by
 induction k with
 | zero => intro n h; cases h
 | succ k ih =>
  intro n _ h
  by_cases hn : n < 10
  ·rw [Nat.toDigits_of_lt_base hn]; simp
  ·rw [Nat.toDigits_of_base_le (by decide) (by omega), List.length_append, List.length_singleton]
   cases k with
   | zero => omega
   | succ k =>
    have := ih (n := n / 10) (by omega) (by rw [Nat.pow_succ] at h; omega)
    omega
theorem lqq {n : Nat} (h : n < 10 ^ 60) : (Nat.toDigits 10 n).length ≤ 60 := oqL (by decide) h
theorem jqy (d : Nat) : ∀ (n : Nat) (a : Array Nat), ((List.replicate n #[d]).foldl (· ++ ·) a).toList = a.toList ++ List.replicate n d
 | 0, a => by simp
 | n + 1, a => by
  rw [List.replicate_succ, List.foldl_cons, jqy d n, List.replicate_succ]
  simp
theorem mqo (d m : Nat) : Txt.mul (⟨#[d]⟩ : Str) (m : Int) = ⟨(List.replicate m d).toArray⟩ := by
 unfold Txt.mul
 by_cases h : (m : Int) < 1
 ·rw [if_pos h]
  have : m = 0 := by omega
  subst this
  rfl
 ·rw [if_neg h]
  by_cases h1 : m = 1
  ·subst h1
   rw [if_pos (by rfl)]
   rfl
  ·rw [if_neg (by
    have e : (⟨#[d]⟩ : Str).length = 1 := rfl
    rw [e, Bool.or_eq_true]
    rintro (z | z)
    ·exact h1 (by have := eq_of_beq z; omega)
    ·cases z)]
   have e := jqy d m #[]
   rw [Int.toNat_natCast]
   congr 1
   rw [← Array.toList_inj, e]
   simp
theorem kqM (d m : Nat) (h : m ≤ 60) : MulOk (⟨#[d]⟩ : Str) (m : Int) := by
 refine ⟨?_, fun h1 _ => ?_, fun _ _ => notTooLong ?_⟩
 ·rw [decide_eq_false (by omega), decide_eq_false (by omega)]; rfl
 ·show ¬ (1 : Int) > _
  have : (1 : Int) ≤ (2 ^ 63 - 1) / (m : Int) := by
   rw [Int.le_ediv_iff_mul_le (by omega)]
   omega
  omega
 ·show 1 * _ ≤ _
  have : ((m : Int)).toNat = m := by omega
  rw [this]
  exact Nat.le_trans (show 1 * m ≤ 100 by omega) (by decide)
theorem eqk : ∀ {ds : List PyData}, (∀ d ∈ ds, PyData.eqv d d = true) → PyData.eqvAll ds ds = true
 | [], _ => by simp [PyData.eqvAll]
 | d :: ds, h => by
  have h1 := h d (List.mem_cons_self ..)
  have h2 := eqk (ds := ds) fun x hx => h x (List.mem_cons_of_mem _ hx)
  simp [PyData.eqvAll, h1, h2]
theorem hqB {ds : List PyData} (h : ∀ d ∈ ds, PyData.eqv d d = true) : PyData.eqv (.list ds) (.list ds) = true := by
 simp [PyData.eqv, eqk h]
theorem eq1 {ds : List PyData} (h : ∀ d ∈ ds, PyData.eqv d d = true) : PyData.eqv (.tuple ds) (.tuple ds) = true := by
 simp [PyData.eqv, eqk h]
theorem fqm (l : List Nat) : PyData.eqv (st l) (st l) = true := by simp [PyData.eqv]
theorem nqL (i : Int) : PyData.eqv (.int i) (.int i) = true := by simp [PyData.eqv]
theorem mqP (b : Bool) : PyData.eqv (.bool b) (.bool b) = true := by simp [PyData.eqv]
theorem pqo (x : Vl) : PyData.eqv (vlD x) (vlD x) = true := by
 cases x with
 | txt l => exact fqm l
 | int i => exact nqL i
 | lst ls => exact hqB fun d hd => by obtain ⟨l, _, rfl⟩ := List.mem_map.mp hd; exact fqm l
def VlOk : Vl → Prop
 | .txt l => (∀ c ∈ l, isSg c = true) ∧ l.length ≤ 20000
 | .int _ => True
 | .lst ls => (∀ l ∈ ls, (∀ c ∈ l, isSg c = true) ∧ l.length ≤ 20000) ∧ ls.length ≤ 20000
theorem VlOk.lay {x : Vl} (h : VlOk x) : LayAt 1 (vlD x) := by
 cases x with
 | txt l => exact (LayAt.st h.1).le (by decide)
 | int i => exact (LayAt.iD (o := some i)).le (by decide)
 | lst ls => exact layL (n := 0) fun d hd => by obtain ⟨l, hl, rfl⟩ := List.mem_map.mp hd; exact LayAt.st (h.1 l hl).1
theorem iqH {h t s : List Nat} : ∀ c ∈ amid h t s, c ∈ s := fun c hc => List.mem_of_mem_drop (List.mem_of_mem_take hc)
theorem hqK {h t s : List Nat} : (amid h t s).length ≤ s.length := by unfold amid; rw [List.length_take, List.length_drop]; omega
theorem jqH : ∀ {cs : List Pc} {ss : List (List Nat)}, (∀ s ∈ ss, (∀ c ∈ s, isSg c = true) ∧ s.length ≤ 20000) → ss.length ≤ 20000 → ∀ p ∈ boundM cs ss, VlOk p.2
 | [], _, _, _, p, hp => by cases hp
 | c :: cs, ss, h, hl, p, hp => by
  have hp : p ∈ (if c.isStep then [] else [(c.name, bvM c ss)]) ++ boundM cs (ss.drop 1) := hp
  rcases List.mem_append.mp hp with z | z
  ·cases hs : c.isStep with
   | true => rw [hs] at z; cases z
   | false =>
    rw [hs] at z
    have hh : (∀ x ∈ ss.headD [], isSg x = true) ∧ (ss.headD []).length ≤ 20000 := by
     cases ss with
     | nil => exact ⟨(fun x hx => by cases hx), Nat.zero_le _⟩
     | cons s ss => exact h s (List.mem_cons_self ..)
    have z : p = (c.name, bvM c ss) := by simpa using z
    rw [z]
    cases c with
    | step w => cases hs
    | rest n => exact ⟨h, hl⟩
    | num n => trivial
    | part a n t => exact ⟨fun x hx => hh.1 x (iqH x hx), Nat.le_trans hqK hh.2⟩
    | word n => exact ⟨fun x hx => hh.1 x (iqH x hx), Nat.le_trans hqK hh.2⟩
    | gap n => exact ⟨fun x hx => hh.1 x (iqH x hx), Nat.le_trans hqK hh.2⟩
  ·exact jqH (fun s hs => h s (List.mem_of_mem_drop hs)) (by rw [List.length_drop]; omega) p z
theorem BndV.vls {H : Hp} {l : Addr} : ∀ {bs : List (List Nat × Vl)} {ys : List V}, BndV H l bs ys → VlsV H (bs.map fun p => (p.1, vlD p.2)) ys
 | _, _, .nil => .nil
 | _, _, .cons a b _ r => .cons a b.is (BndV.vls r)
theorem VlsV.isAll {H : Hp} : ∀ {vs : List (List Nat × PyData)} {xs : List V}, VlsV H vs xs → IsAll H (vs.map fun p => .tuple [st p.1, p.2]) xs
 | _, _, .nil => .nil
 | _, _, .cons h a r => .cons (.tup h (.cons (.str _) (.cons a .nil))) (VlsV.isAll r)
def bndD (bs : List (List Nat × Vl)) : PyData := .list ((bs.map fun p => (p.1, vlD p.2)).map fun p => .tuple [st p.1, p.2])
theorem lqU {bs : List (List Nat × Vl)} (hn : ∀ p ∈ bs, ∀ c ∈ p.1, isSg c = true) (hv : ∀ p ∈ bs, VlOk p.2) : LayAt 3 (bndD bs) := layL fun d hd => by
 obtain ⟨q, hq, rfl⟩ := List.mem_map.mp hd
 obtain ⟨p, hp, rfl⟩ := List.mem_map.mp hq
 refine LayAt.tup (n := 1) fun e he => ?_
 simp only [List.mem_cons, List.not_mem_nil, or_false] at he
 rcases he with rfl | rfl
 ·exact (LayAt.st (hn p hp)).le (by decide)
 ·exact (hv p hp).lay
theorem lqV (bs : List (List Nat × Vl)) : PyData.eqv (bndD bs) (bndD bs) = true := hqB fun d hd => by
 obtain ⟨q, hq, rfl⟩ := List.mem_map.mp hd
 obtain ⟨p, hp, rfl⟩ := List.mem_map.mp hq
 refine eq1 fun e he => ?_
 simp only [List.mem_cons, List.not_mem_nil, or_false] at he
 rcases he with rfl | rfl
 ·exact fqm _
 ·exact pqo _
theorem nqb (xs : List V) (i : Nat) : cutV xs none (some (i : Int)) = xs.take i := by
 unfold cutV
 rw [HT.sIx_none, HT.sIx_nat, List.drop_zero, Nat.sub_zero]
 by_cases h : i ≤ xs.length
 ·rw [Nat.min_eq_left h]
 ·rw [Nat.min_eq_right (by omega), List.take_length, List.take_of_length_le (by omega)]
def trS : List Nat := [97, 98, 48, 49]
def trialsM (h t : List Nat) : List (List Nat) := trS.map fun c => h ++ [c] ++ t
def PcTx (c : Pc) : Prop := c.head.length ≤ 40000 ∧ c.tail.length ≤ 40000 ∧ ∀ w, c = .step w → w.length ≤ 40000
def fitT (c : Pc) : List (List Nat) := (match c with | .step w => [w] | c => trialsM c.head c.tail).filter (fitsM c)
def stepBey (c d : Pc) : Option (List Nat) := (fitT c).find? fun s => !fitsM d s
theorem gqQ {ds ts : List Pc} {n : Nat} (h : spreadM ds n = some ts) : ts.length = n ∧ ∀ i, i < n → (i < ds.length ∧ ts[i]? = ds[i]?) ∨ (ds.length ≤ i ∧ hasRest ds = true ∧ ∃ c, ts[i]? = some c ∧ c.isRest = true ∧ c ∈ ds) := by
 unfold spreadM at h
 by_cases hr : hasRest ds = true ∧ ds.length ≤ n
 ·rw [if_pos hr] at h
  cases h
  have hne : ds ≠ [] := fun e => by subst e; exact absurd hr.1 (by decide)
  obtain ⟨c, hc⟩ : ∃ c, ds.getLast? = some c := ⟨_, List.getLast?_eq_some_getLast hne⟩
  have hcr : c.isRest = true := by
   have := hr.1
   unfold hasRest at this
   rw [hc] at this
   exact this
  have hd : ds.drop (ds.length - 1) = [c] := by
   rw [List.getLast?_eq_getElem?] at hc
   have hl := List.length_pos_iff.mpr hne
   obtain ⟨h1, h2⟩ := List.getElem?_eq_some_iff.mp hc
   rw [List.drop_eq_getElem_cons h1, h2, List.drop_eq_nil_of_le (by omega)]
  rw [hd]
  have hfl : ∀ k : Nat, (List.replicate k [c]).flatten = List.replicate k c := fun k => by
   induction k with
   | zero => rfl
   | succ k ih => rw [List.replicate_succ, List.flatten_cons, ih]; rfl
  rw [hfl]
  refine ⟨by rw [List.length_append, List.length_replicate]; omega, fun i hi => ?_⟩
  by_cases hil : i < ds.length
  ·exact .inl ⟨hil, List.getElem?_append_left hil⟩
  ·refine .inr ⟨by omega, hr.1, c, ?_, hcr, List.mem_of_getLast? hc⟩
   rw [List.getElem?_append_right (by omega), List.getElem?_replicate, if_pos (by omega)]
 ·rw [if_neg hr] at h
  by_cases e : n = ds.length
  ·rw [if_pos e] at h
   cases h
   exact ⟨e.symm, fun i hi => .inl ⟨by omega, rfl⟩⟩
  ·rw [if_neg e] at h
   cases h
theorem gqm {ds : List Pc} {n : Nat} (h : (hasRest ds = true ∧ ds.length ≤ n) ∨ n = ds.length) : ∃ ts, spreadM ds n = some ts := by
 unfold spreadM
 by_cases hr : hasRest ds = true ∧ ds.length ≤ n
 ·rw [if_pos hr]; exact ⟨_, rfl⟩
 ·rw [if_neg hr]
  rcases h with h | h
  ·exact absurd h hr
  ·rw [if_pos h]; exact ⟨_, rfl⟩
theorem fqQ {ds ts : List Pc} {n : Nat} (h : spreadM ds n = some ts) : n = ds.length ∨ (hasRest ds = true ∧ ds.length ≤ n) := by
 unfold spreadM at h
 by_cases hr : hasRest ds = true ∧ ds.length ≤ n
 ·exact .inr hr
 ·rw [if_neg hr] at h
  by_cases e : n = ds.length
  ·exact .inl e
  ·rw [if_neg e] at h; cases h
theorem jqK : ∀ {ms : List Pc} {ss : List (List Nat)}, (List.zipWith fitsM ms ss).all id = true ↔ ∀ (i : Nat) (c : Pc) (s : List Nat), ms[i]? = some c → ss[i]? = some s → fitsM c s = true
 | [], ss => ⟨fun _ i c s h => by simp at h, fun _ => rfl⟩
 | c :: ms, [] => ⟨fun _ i c s _ h => by simp at h, fun _ => rfl⟩
 | c :: ms, s :: ss => by
  rw [List.zipWith_cons_cons, List.all_cons, Bool.and_eq_true, jqK]
  constructor
  ·rintro ⟨h1, h2⟩ i c' s' hc hs
   cases i with
   | zero => cases hc; cases hs; exact h1
   | succ i => exact h2 i c' s' hc hs
  ·intro h
   exact ⟨h 0 c s rfl rfl, fun i c' s' hc hs => h (i + 1) c' s' hc hs⟩
theorem gqf {cs : List Pc} {cl r e : Bool} {ss : List (List Nat)} : fitsP cs cl r ss e = true ↔ ∃ ms, spreadM cs ss.length = some ms ∧ r = true ∧ e = cl ∧ ∀ (i : Nat) (c : Pc) (s : List Nat), ms[i]? = some c → ss[i]? = some s → fitsM c s = true := by
 unfold fitsP
 cases h : spreadM cs ss.length with
 | none => exact ⟨fun h => (by cases h), fun ⟨_, h, _⟩ => (by cases h)⟩
 | some ms =>
  show (r && decide (e = cl) && _) = true ↔ _
  rw [Bool.and_eq_true, Bool.and_eq_true, decide_eq_true_eq, jqK]
  exact ⟨fun ⟨⟨a, b⟩, c⟩ => ⟨ms, rfl, a, b, c⟩, fun ⟨ms', e', a, b, c⟩ => by cases e'; exact ⟨⟨a, b⟩, c⟩⟩
end Wm
namespace L2
open PySem
section
variable {p : Addr} {fv : St} {tt : TT} {te : TE} {Q : VK} {H1 : Hp}
end
end L2
namespace Wm
open PySem L2
theorem dq5 {H : Hp} : ∀ l : List Int, IsAll H (l.map PyData.int) (l.map V.int)
 | [] => .nil
 | c :: ss => .cons (.int _) (dq5 ss)
theorem iqQ (l : List Int) : SeqAt.shaped (.list (l.map PyData.int)) = true := by
 refine LayAt.shaped (n := 1) (layL (n := 0) fun d hd => ?_) (by decide)
 obtain ⟨c, hc, rfl⟩ := List.mem_map.mp hd
 exact ⟨rfl, Nat.le_refl _⟩
theorem iq4 {cs : List Pc} {c : Pc} {n : Nat} (hc : cs.getLast? = some c) (hr : c.isRest = true) (hn : cs.length ≤ n) : spreadM cs n = some (cs ++ List.replicate (n - cs.length) c) := by
 have h : hasRest cs = true := by unfold hasRest; rw [hc]; exact hr
 unfold spreadM
 rw [if_pos ⟨h, hn⟩]
 have hd : cs.drop (cs.length - 1) = [c] := by
  rw [List.getLast?_eq_getElem?] at hc
  obtain ⟨h1, h2⟩ := List.getElem?_eq_some_iff.mp hc
  rw [List.drop_eq_getElem_cons h1, h2, List.drop_eq_nil_of_le (by omega)]
 rw [hd]
 have hfl : ∀ k : Nat, (List.replicate k [c]).flatten = List.replicate k c := fun k => by
  induction k with
  | zero => rfl
  | succ k ih => rw [List.replicate_succ, List.flatten_cons, ih]; rfl
 rw [hfl]
def PtAt (H : Hp) (cs : List Pc) (e : Bool) (p : Addr) : Prop := ∃ (q : Addr) (xs : List V), H p = some (.tup [.ref q, .bl e]) ∧ H q = some (.tup xs) ∧ PcT H cs xs
theorem PtAt.mono {H H' : Hp} {cs : List Pc} {e : Bool} {p : Addr} (s : SameT H H') (h : PtAt H cs e p) : PtAt H' cs e p := by
 obtain ⟨q, xs, h1, h2, h3⟩ := h
 exact ⟨q, xs, s _ _ h1, s _ _ h2, h3.mono s⟩
def PcsOk (cs : List Pc) : Prop := cs.length ≤ 90 ∧ ∀ c ∈ cs, PcOk c ∧ PcSg c
theorem iq9 {c : Pc} (o : PcOk c) (hn : ∀ x ∈ c.name, isSg x = true) : PcSg c :=
 ⟨fun l h => by subst h; exact o.2.2.1, fun h n t e => by subst e; exact ⟨o.2.2.1, o.2.2.2.1⟩, hn⟩
theorem bqS {H H' : Hp} {a : Addr} (s : Same H H') (h : H' a = none) : H a = none := by
 cases e : H a with
 | none => rfl
 | some o => rw [s _ _ e] at h; cases h
theorem jqL {H H' : Hp} {l : Addr} {ys : List V} (s : Same H H') (h : H l = none) : Same H (upd H' l (.lst ys)) := fun b o hb => by
 rw [aqx (fun w => by subst w; rw [h] at hb; cases hb)]; exact s _ _ hb
theorem bqU {H : Hp} {l : Addr} {ys zs : List V} (h : H l = some (.lst zs)) : SameT H (upd H l (.lst ys)) := fun b o hb => by
 rw [aqx (fun w => by subst w; rw [h] at hb; cases hb)]; exact hb
def alikeM : Pc → Pc → Bool
 | .step v, .step w => decide (v = w)
 | .part h _ t, .part h' _ t' => decide (h = h') && decide (t = t')
 | .num _, .num _ => true
 | .word _, .word _ => true
 | .gap _, .gap _ => true
 | .rest _, .rest _ => true
 | _, _ => false
structure Wid (c d : Pc) : Prop where
 ok : PcOk d
 nr : d.isRest = false
 fits : ∀ s, fitsM c s = true → fitsM d s = true
 grown : alikeM c d = true ∨ stepBey d c ≠ none
def restM (cs : List Pc) : Nat := if hasRest cs = true then cs.length - 1 else cs.length
structure WidAll (cs ds : List Pc) : Prop where
 len : ds.length = restM cs
 wid : ∀ (i : Nat) (c d : Pc), cs[i]? = some c → ds[i]? = some d → Wid c d
end Wm
namespace L2
open PySem PySem.Spec PySem.W PySem.Calls PyProof.Rows
section
variable {prog : Program} {w : World} {A : Around} {R : Result → Shared → Prop} {I S : Addr} {fp wr : List Addr} {P : Nat → Value → Prop} {St : Nat → Heap → Prop} {n : Nat}
end
section
variable {A : Around} {prog : Program} {w : World} {s : Shared} {E : Value → Shared → Prop}
end
section
variable {X : Cx} {p pos kp kpos : Pos} {e e2 : Expr} {t : TA}
end
end L2
namespace Wm
open PySem L2
theorem PcOk.ends {c : Pc} (o : PcOk c) : c.head.length ≤ 100 ∧ c.tail.length ≤ 100 := by
 cases c with
 | part h n t => exact ⟨o.1, o.2.1⟩
 | _ => exact ⟨Nat.zero_le _, Nat.zero_le _⟩
end Wm
namespace HT
open PySem PyProof.Rows
theorem mqI (A : Around) (s : Shared) (a : Int) (t : Tok) (c : Int) (u : Tok) (prog : Program) (w : World) (E : Value → Shared → Prop) (Q : Value → Shared → Prop) (h : Q (.bool (decide (c < a))) s) :
  wpAny (model prog w) A (richCompare .Gt (.int a t) (.int c u)) Q E s :=
 (PyProof.Rows.gt_int h : wpAny (model prog w) A (compareOp .Gt (.int a t) (.int c u)) Q E s)
section
open PySem.SeqAt
open PySem.AutoSeq1 (wpAny_loadPart')
open PySem.MeetsSeq PySem.MeetsSeq2 PySem.MeetsSeq3
theorem hqE (l b : Addr) (items items2 : Array Value) (n n2 : Nat) (dd dd2 : Option Addr) (sl sl2 : Array (Option Value)) (ns ms : List Int) (hi : IntsAre items.toList ns) (hj : IntsAre items2.toList ms) :
  Meets (Builtin.«tuple.__gt__» ⟨[.ref l, .ref b], []⟩)
   (fun _ R s => s.heap.get? l = some { cls := .type "tuple", dict := dd, data := .seq items n, slots := sl } ∧ s.heap.get? b = some { cls := .type "tuple", dict := dd2, data := .seq items2 n2, slots := sl2 } ∧
    R (.ok (.ret (.bool (lexLt ms ns)))) s) :=
 .of_wp fun prog w A R s h => by
  obtain ⟨hp, g, d, tk, os⟩ := s; obtain ⟨hl, hb, h⟩ := h
  have f2 := AutoSeq1.sub_tuple_tuple
  have z1 : items.size = ns.length := by rw [← hi.length]; simp
  have z2 : items2.size = ms.length := by rw [← hj.length]; simp
  wp_walk using wpAny_loadPart' hl, wpAny_loadPart' hb, wpAny_forIn_list _ (fun rest b s' => b.1 = none ∧ s' = ⟨hp, g, d, tk, os⟩ ∧ ∃ (vs ws : List Value) (ns' ms' : List Int), rest = vs.zip ws ∧
   IntsAre vs ns' ∧ IntsAre ws ms' ∧ ns'.length + items2.size = ms'.length + items.size ∧ R (.ok (.ret (.bool (lexLt ms' ns')))) ⟨hp, g, d, tk, os⟩) _
  case turn =>
   rintro ⟨y, x⟩ rest b s' ⟨hb', rfl, vs, ws, ns', ms', hz, hvi, hwi, hlen, hR⟩
   cases hvi with
   | nil => rw [List.zip_nil_left] at hz; cases hz
   | cons a t hvi' =>
    cases hwi with
    | nil => rw [List.zip_nil_right] at hz; cases hz
    | cons c u hwi' =>
     rw [List.zip_cons_cons] at hz
     injection hz with hyx hrest
     injection hyx with hy hx
     subst hy hx
     rw [jqU] at hR
     simp only [List.length_cons] at hlen
     obtain ⟨e, he, hiff⟩ := mqf A.in1 ⟨hp, g, d, tk, os⟩ a t c u
     refine wpAny_bind (he prog w _ _ ?_)
     cases e with
     | true =>
      rw [if_pos (hiff.mp rfl).symm] at hR
      wp_walk
      exact ⟨rfl, rfl, _, _, _, _, hrest, hvi', hwi', by omega, hR⟩
     | false =>
      rw [if_neg (fun q => absurd (hiff.mpr q.symm) Bool.false_ne_true)] at hR
      have hri := mqI A.in1 ⟨hp, g, d, tk, os⟩ a t c u prog w
      wp_walk using hri
      exact ⟨_, rfl, by simpa using hR⟩
  case fin =>
   rintro ⟨b1, b2⟩ s' ⟨hb', rfl, vs, ws, ns', ms', hz, hvi, hwi, hlen, hR⟩
   simp only at hb'
   subst hb'
   have hv : lexLt ms' ns' = decide (items2.size < items.size) := by
    cases hvi with
    | nil =>
     cases hwi with
     | nil =>
      simp only [List.length_nil] at hlen
      rw [hqw]
      exact (decide_eq_false (by omega)).symm
     | cons c u hw =>
      simp only [List.length_nil, List.length_cons] at hlen
      rw [gqC]
      exact (decide_eq_false (by omega)).symm
    | cons a t hv =>
     cases hwi with
     | nil =>
      simp only [List.length_nil, List.length_cons] at hlen
      rw [gqB]
      exact (decide_eq_true (by omega)).symm
     | cons c u hw =>
      rw [List.zip_cons_cons] at hz
      cases hz
   rw [hv] at hR
   wp_walk
   exact ⟨_, rfl, by simpa [Builtin.Tuple.tupleCompareSizes] using hR⟩
  case h =>
   exact ⟨rfl, rfl, items.toList, items2.toList, ns, ms, rfl, hi, hj, by omega, h⟩
end
section
variable {prog : Program} {w : World} {A : Around} {E : Value → Shared → Prop} {s : Shared}
theorem gt_tupInts {l b : Addr} {items items2 : Array Value} {ns ms : List Int} {Q : Value → Shared → Prop} (hl : IsTup s.heap l items) (hb : IsTup s.heap b items2) (hi : IntsAre items.toList ns) (hj : IntsAre items2.toList ms)
  (hu : A.units < cLine) (h : Q (.bool (lexLt ms ns)) s) : wpAny (model prog w) A (compareOp .Gt (.ref l) (.ref b)) Q E s := by
 obtain ⟨⟨cls, dd, data, sl⟩, ho, hc, n, hd⟩ := id hl
 obtain ⟨⟨cls2, dd2, data2, sl2⟩, ho2, hc2, n2, hd2⟩ := id hb
 simp only at hc hd hc2 hd2
 subst hc hd hc2 hd2
 exact richCompare_meets_room (op := .Gt) ⟨_, ho, rfl⟩ ⟨_, ho2, rfl⟩ PySem.F.slot_tuple_gt PySem.F.entry_tuple_gt (PySem.F.args_tuple_gt_2 _ _) (hqE l b items items2 n n2 dd dd2 sl sl2 ns ms hi hj)
  ⟨ho, ho2, show Value.bool (lexLt ms ns) ≠ Value.notImplemented ∧ Q (.bool (lexLt ms ns)) s from ⟨(fun x => nomatch x), h⟩⟩ hu
end
end HT
namespace L2
open PySem PySem.Spec PyProof.Rows PyProof.V
section
variable {X : Cx} {o i : Expr} {x : Str} {np pos : Pos} {td ty : TE}
def tTab (p : Addr) (D : List (PyData × PyData)) (td ty : TE) : TE := fun σ H Q => td σ H fun x H1 => ty σ H1 fun y H2 => x = .ref p ∧ ∃ (k : Str) (n : Int), y = .str k ∧ lookup (.str k) D = some (.int n) ∧ Q (.int n) H2
theorem oq9 {p : Addr} {D : List (PyData × PyData)} {σ : St} {H : Hp} {Q : VK} : (tTab p D td ty σ H Q) = (td σ H fun x H1 => ty σ H1 fun y H2 => x = .ref p ∧ ∃ (k : Str) (n : Int), y = .str k ∧ lookup (.str k) D = some (.int n) ∧ Q (.int n) H2) := rfl
theorem pqF {p : Addr} {D : List (PyData × PyData)} (T : ∀ h : Heap, X.K.In h → StrTab X.prog X.w h p D) (ho : PE X (.Name x np) td) (hi : PE X i ty) (hs : ∀ ov iv, subscripted i false ov iv = operate [ov, iv] (getItem ov iv)) : PE X (.Subscript (.Name x np) i pos) (tTab p D td ty) := by
 intro pins s σ H Q I h
 refine Subscript_ (thn (ho pins s σ H _ I h) fun u s1 ⟨x, H1, I1, rx, q1⟩ => thn (hi pins s1 σ H1 _ I1 q1) fun iv s2 W' => ?_)
 obtain ⟨y, H2, I2, ry, ex, k, n, ey, hl, q2⟩ := W'
 subst ex ey
 obtain rfl : u = Value.ref p := rx
 obtain ⟨t, rfl⟩ := ry
 refine item_strTab (T _ I2.kIn) hl (fun v hv => ?_) (hs _ _)
 obtain ⟨t', rfl⟩ := hv.int_inv
 exact ⟨.int n, H2, I2.tok _, ⟨t', rfl⟩, q2⟩
def rGtT (K : PySem.W.Frag) : R2 := fun x y H Q => ∃ a b ns ms, x = .ref a ∧ y = .ref b ∧ SqT K H a (ns.map V.int) ∧ SqT K H b (ms.map V.int) ∧ Q (.bl (HT.lexLt ms ns)) H
theorem pqe {K : PySem.W.Frag} (hK : X.K = K) (hu : X.A.units + 64 < cLine) : OpR X (compareOp .Gt) (rGtT K) := by
 subst hK
 intro pins s σ H x y v u Q I rx ry h
 obtain ⟨a, b, ns, ms, rfl, rfl, ha, hb, q⟩ := h
 cases rx
 cases ry
 obtain ⟨us, r1, p1, _⟩ := I.tuple ha
 obtain ⟨ws, r2, p2, _⟩ := I.tuple hb
 exact HT.gt_tupInts p1 p2 (dq4 r1) (dq4 r2) (by omega) ⟨.bl (HT.lexLt ms ns), H, I, rfl, q⟩
end
end L2
namespace Wm
open PySem L2
def wordW : Pc → Int
 | .step _ => 6
 | .part .. => 5
 | .num _ => 4
 | .word _ => 3
 | .gap _ => 2
 | .rest _ => 1
def worthM (c : Pc) : List Int := [wordW c, ((c.head.length + c.tail.length : Nat) : Int), (c.head.length : Int)]
def moreM : List Pc → List Pc → Bool
 | [], [] => false
 | [], _ :: _ => true
 | _ :: _, [] => false
 | c :: cs, d :: ds => if worthM c = worthM d then moreM cs ds else HT.lexLt (worthM d) (worthM c)
theorem mqQ : ∀ {A B : List Pc}, A = [] ∨ B = [] → moreM A B = decide (A.length < B.length)
 | [], [], _ => rfl
 | [], _ :: _, _ => by simp [moreM]
 | _ :: _, [], _ => by simp [moreM]
 | _ :: _, _ :: _, h => by rcases h with h | h <;> cases h
def LastR (cs : List Pc) : Prop := ∀ (i : Nat) (c : Pc), cs[i]? = some c → c.isRest = true → i + 1 = cs.length
theorem jq5 {cs : List Pc} {i : Nat} {c : Pc} (l : LastR cs) (h : cs[i]? = some c) (hr : c.isRest = true) : hasRest cs = true := by
 have := l i c h hr
 unfold hasRest
 rw [List.getLast?_eq_getElem?, ← this, Nat.add_sub_cancel, h]
 exact hr
def mostM {α : Type} (mr : α → α → Bool) (b : α) : List α → α
 | [] => b
 | e :: r => mostM mr (if mr e b = true then e else b) r
theorem nqz (a b : Int) : PyData.eqv (.int a) (.int b) = true ↔ a = b := by simp [PyData.eqv]
theorem mqi (a b : List Int) : PyData.eqv (.tuple (a.map PyData.int)) (.tuple (b.map PyData.int)) = decide (a = b) := by
 rw [Bool.eq_iff_iff, decide_eq_true_eq, PyData.eqv]
 exact gqF nqz _ _
theorem fq3 (l : List Int) : SeqAt.shaped (.tuple (l.map PyData.int)) = true := by
 refine LayAt.shaped (n := 1) (LayAt.tup (n := 0) fun d hd => ?_) (by decide)
 obtain ⟨c, hc, rfl⟩ := List.mem_map.mp hd
 exact ⟨rfl, Nat.le_refl _⟩
theorem PcOk.tx {c : Pc} (o : PcOk c) : PcTx c := by
 cases c with
 | step w => exact ⟨Nat.zero_le _, Nat.zero_le _, fun w' h => by cases h; have := o.2.1; omega⟩
 | part a n b => exact ⟨by have := o.1; show a.length ≤ _; omega, by have := o.2.1; show b.length ≤ _; omega, fun w h => by cases h⟩
 | _ => exact ⟨Nat.zero_le _, Nat.zero_le _, fun w h => by cases h⟩
def worthL (c : Pc) : List Int := match c with
 | .part h _ t => [4, ((h.length + t.length : Nat) : Int), (h.length : Int)]
 | c => [wordW c - 1]
theorem gqL {c d : Pc} : worthL c = worthL d ↔ worthM c = worthM d := by
 cases c <;> cases d <;> simp [worthL, worthM, wordW, Pc.head, Pc.tail]
structure Wdr (c d : Pc) : Prop where
 ok : PcOk d
 fit : ∀ s, fitsM c s = true → fitsM d s = true
 le : HT.lexLt (worthM c) (worthM d) = false
 nr : d.isRest = c.isRest
def kwS : List Str := [Str.ofString "rest", Str.ofString "gap", Str.ofString "word", Str.ofString "number", Str.ofString "part", Str.ofString "step"]
theorem qqP (c : Pc) : ∃ j : Nat, (kwS.map V.str)[j]? = some (.str c.kw) ∧ (∀ i, i < j → (kwS.map V.str)[i]? ≠ some (.str c.kw)) ∧ (j : Int) = wordW c - 1 := by
 have go : ∀ (j : Nat) (s : Str), kwS[j]? = some s → (∀ i, i < j → kwS[i]? ≠ some s) → (kwS.map V.str)[j]? = some (.str s) ∧ ∀ i, i < j → (kwS.map V.str)[i]? ≠ some (.str s) := fun j s h1 h2 => ⟨by rw [List.getElem?_map, h1]; rfl, fun i hi z => by
  rw [List.getElem?_map] at z
  obtain ⟨y, hy, e⟩ := Option.map_eq_some_iff.mp z
  injection e with e
  subst e
  exact h2 i hi hy⟩
 cases c with
 | step w => obtain ⟨a, b⟩ := go 5 (Str.ofString "step") (by decide +kernel) (by decide +kernel); exact ⟨5, a, b, rfl⟩
 | part x y z => obtain ⟨a, b⟩ := go 4 (Str.ofString "part") (by decide +kernel) (by decide +kernel); exact ⟨4, a, b, rfl⟩
 | num n => obtain ⟨a, b⟩ := go 3 (Str.ofString "number") (by decide +kernel) (by decide +kernel); exact ⟨3, a, b, rfl⟩
 | word n => obtain ⟨a, b⟩ := go 2 (Str.ofString "word") (by decide +kernel) (by decide +kernel); exact ⟨2, a, b, rfl⟩
 | gap n => obtain ⟨a, b⟩ := go 1 (Str.ofString "gap") (by decide +kernel) (by decide +kernel); exact ⟨1, a, b, rfl⟩
 | rest n => obtain ⟨a, b⟩ := go 0 (Str.ofString "rest") (by decide +kernel) (by decide +kernel); exact ⟨0, a, b, rfl⟩
end Wm
namespace L2
open PySem PySem.Spec PyProof.Rows
section
variable {X : Cx}
def rIndexL : V → List V → Hp → VK → Prop := fun x vs H Q => ∃ (l : Addr) (xs : List V) (k : Str) (j : Nat), x = .ref l ∧ vs = [.str k] ∧ H l = some (.lst xs) ∧ (∀ v ∈ xs, ∃ z, v = .str z) ∧ xs[j]? = some (.str k) ∧ (∀ i, i < j → xs[i]? ≠ some (.str k)) ∧ Q (.int j) H
def strIs (k : Str) : Value → Bool
 | .str z _ => z == k
 | _ => false
theorem kq8 : MtR X "list.index" rIndexL := by
 intro pins s σ H x vs v us Q I rx rv h
 obtain ⟨l, xs, k, j, rfl, rfl, hH, hall, hj, hno, q⟩ := h
 cases rx
 obtain ⟨u, rfl, t, rfl⟩ := vals1 rv
 obtain ⟨z, its, n, r, hl, e⟩ := I.lstM hH
 have hjl := (List.getElem?_eq_some_iff.mp hj).1
 have hz : sizeLine < 2 ^ 62 := by decide
 have at_ : ∀ (i : Nat) (h : i < its.length), ∃ y t', xs[i]? = some (.str y) ∧ its[i] = .str y t' := fun i h => by
  have hx : xs[i]? = some xs[i] := List.getElem?_eq_getElem (by omega)
  obtain ⟨y, hy⟩ := hall _ (List.mem_of_getElem? hx)
  rw [hy] at hx
  obtain ⟨u, hu, t', rfl⟩ := r.get hx
  refine ⟨y, t', hx, ?_⟩
  rw [List.getElem?_eq_getElem h] at hu
  injection hu
 refine call_meets F.slot_list_index ⟨_, e, rfl⟩ F.entry_list_index (F.args_list_index_2 _ _) (SeqAt.list_indexAt l its.toArray n none #[] (.str k t) (strIs k) j (by rw [List.size_toArray]; omega) (by omega) ?_ ?_) ⟨e, fun y hy => ?_, ⟨.int j, H, I.tok _, ⟨_, rfl⟩, q⟩⟩
 ·obtain ⟨y, t', h1, h2⟩ := at_ j (by omega)
  rw [hj] at h1
  cases h1
  show strIs k its[j] = true
  rw [h2]
  exact beq_self_eq_true k
 ·intro i hi hlt
  rw [List.size_toArray] at hi
  obtain ⟨y, t', h1, h2⟩ := at_ i hi
  show strIs k its[i] = false
  rw [h2]
  exact beq_eq_false_iff_ne.mpr fun z => hno i hlt (by rw [h1, z])
 ·obtain ⟨i, hi, rfl⟩ := List.getElem_of_mem (show y ∈ its by simpa using hy)
  obtain ⟨y, t', h1, h2⟩ := at_ i hi
  rw [h2]
  exact SeqAt.EqAt.str_str y t' k t
theorem lqs {l : Addr} {k : Str} {H : Hp} {Q : VK} : rIndexL (.ref l) [.str k] H Q ↔ ∃ (xs : List V) (j : Nat), H l = some (.lst xs) ∧ (∀ v ∈ xs, ∃ z, v = .str z) ∧ xs[j]? = some (.str k) ∧ (∀ i, i < j → xs[i]? ≠ some (.str k)) ∧ Q (.int j) H :=
 ⟨fun ⟨_, xs, _, j, e1, e2, h⟩ => by cases e1; cases e2; exact ⟨xs, j, h⟩, fun ⟨xs, j, h⟩ => ⟨l, xs, k, j, rfl, rfl, h⟩⟩
end
end L2
namespace HT
open PySem PyProof.Rows
def GtAt (A : Around) (s : Shared) (x y : Value) (b : Bool) : Prop := ∀ (prog : Program) (w : World) (E : Value → Shared → Prop) (Q : Value → Shared → Prop), Q (.bool b) s → wpAny (model prog w) A (richCompare .Gt x y) Q E s
def lexG {α : Type} (eqf gtf : α → α → Bool) : List α → List α → Bool
 | [], _ => false
 | _ :: _, [] => true
 | x :: xs, y :: ys => if eqf x y = true then lexG eqf gtf xs ys else gtf x y
theorem mqT {α : Type} {eqf gtf : α → α → Bool} : ∀ {xs ys : List α}, xs = [] ∨ ys = [] → lexG eqf gtf xs ys = decide (ys.length < xs.length)
 | [], ys, _ => by simp [lexG]
 | x :: xs, [], _ => by simp [lexG]
 | _ :: _, _ :: _, h => by rcases h with h | h <;> cases h
section
open PySem.SeqAt
open PySem.AutoSeq1 (wpAny_loadPart')
open PySem.MeetsSeq PySem.MeetsSeq2 PySem.MeetsSeq3
variable {α : Type} {eqf gtf : α → α → Bool} {l b : Addr} {us ws : Array Value} {n n2 : Nat} {dd dd2 : Option Addr} {sl sl2 : Array (Option Value)} {xs ys : List α}
def GtIts (A : Around) (s : Shared) (us ws : Array Value) (eqf gtf : α → α → Bool) (xs ys : List α) : Prop :=
 ∀ (j : Nat) (x y : α) (u w : Value), us[j]? = some u → ws[j]? = some w → xs[j]? = some x → ys[j]? = some y → EqAt A s u w (eqf x y) ∧ (eqf x y = false → GtAt A s u w (gtf x y))
theorem lqy (h1 : us.size = xs.length) (h2 : ws.size = ys.length) (k : Nat) : ∀ i : Nat, min xs.length ys.length - i = k → i ≤ min xs.length ys.length →
  Meets (Builtin.«list.__eq__.loop» ⟨[.ref l, .ref b, rawInt i, rawInt 4], []⟩)
   (fun A R s => s.heap.get? l = some { cls := .type "list", dict := dd, data := .seq us n, slots := sl } ∧ s.heap.get? b = some { cls := .type "list", dict := dd2, data := .seq ws n2, slots := sl2 } ∧
    GtIts A.in1 s us ws eqf gtf xs ys ∧ R (.ok (.ret (.bool (lexG eqf gtf (xs.drop i) (ys.drop i))))) s) := by
 induction k with
 | zero =>
  intro i hk hi prog w A R s h
  obtain ⟨hp, gg, dd', tk, os⟩ := s
  obtain ⟨hl, hb, _, h⟩ := h
  have hor : xs.drop i = [] ∨ ys.drop i = [] := by simp only [List.drop_eq_nil_iff]; omega
  rw [mqT hor] at h
  wp_walk using wpAny_loadPart' hb, wpAny_loadPart' hl
  have e0 : us[((i : Nat) : Int).toNat]? = none ∨ ws[((i : Nat) : Int).toNat]? = none := by
   simp only [Int.toNat_natCast, Array.getElem?_eq_none_iff]; omega
  have hd : decide ((ys.drop i).length < (xs.drop i).length) = decide (us.size > ws.size) := by
   rw [List.length_drop, List.length_drop]; exact decide_eq_decide.mpr (by omega)
  rw [hd] at h
  rcases e0 with e0 | e0
  ·rw [e0]
   cases us[((i : Nat) : Int).toNat]? <;> cases ws[((i : Nat) : Int).toNat]? <;> (wp_walk using wpAny_loadPart' hl, wpAny_loadPart' hb; exact h)
  ·rw [e0]
   cases us[((i : Nat) : Int).toNat]? <;> (wp_walk using wpAny_loadPart' hl, wpAny_loadPart' hb; exact h)
 | succ k ih =>
  intro i hk hi prog w A R s h
  obtain ⟨hp, gg, dd', tk, os⟩ := s
  obtain ⟨hl, hb, he, h⟩ := h
  have a1 : i < xs.length := by omega
  have a2 : i < ys.length := by omega
  obtain ⟨u, hu⟩ : ∃ u, us[i]? = some u := ⟨_, Array.getElem?_eq_getElem (by omega)⟩
  obtain ⟨z, hz⟩ : ∃ z, ws[i]? = some z := ⟨_, Array.getElem?_eq_getElem (by omega)⟩
  have hu' : us[((i : Nat) : Int).toNat]? = some u := by simpa using hu
  have hz' : ws[((i : Nat) : Int).toNat]? = some z := by simpa using hz
  rw [List.drop_eq_getElem_cons a1, List.drop_eq_getElem_cons a2] at h
  obtain ⟨f1, f2⟩ := he i xs[i] ys[i] u z hu hz (List.getElem?_eq_getElem a1) (List.getElem?_eq_getElem a2)
  have hc : ((i : Int) + 1) = ((i + 1 : Nat) : Int) := by omega
  wp_walk using wpAny_loadPart' hb, wpAny_loadPart' hl
  rw [hu', hz']
  refine wpAny_bind (f1 prog w _ _ ?_)
  unfold lexG at h
  cases hb' : eqf xs[i] ys[i] with
  | true =>
   rw [if_pos hb'] at h
   wp_walk
   rw [hc]
   refine ⟨plainId_quiet plain_eq_loop _, codeAny_builtin entry_eq_loop (by
    rw [(Around.under_plainId plain_eq_loop _)]
    exact ih (i + 1) (by omega) (by omega) prog w A R _ ⟨hl, hb, he, h⟩)⟩
  | false =>
   rw [if_neg (by rw [hb']; exact Bool.false_ne_true)] at h
   wp_walk using wpAny_loadPart' hb, wpAny_loadPart' hl
   rw [hu', hz']
   have hri := fun E Q hq => f2 hb' prog w E Q hq
   wp_walk using hri
   exact h
theorem list_gtAt (h1 : us.size = xs.length) (h2 : ws.size = ys.length) : Meets (Builtin.«list.__gt__» ⟨[.ref l, .ref b], []⟩)
   (fun A R s => s.heap.get? l = some { cls := .type "list", dict := dd, data := .seq us n, slots := sl } ∧ s.heap.get? b = some { cls := .type "list", dict := dd2, data := .seq ws n2, slots := sl2 } ∧
    GtIts A.in1 s us ws eqf gtf xs ys ∧ R (.ok (.ret (.bool (lexG eqf gtf xs ys)))) s) := by
 intro prog w A R s h
 obtain ⟨hp, gg, dd', tk, os⟩ := s
 obtain ⟨hl, hb, he, h⟩ := h
 have f3' := AutoSeq1.sub_list_list
 wp_walk using wpAny_loadPart' hb, wpAny_loadPart' hl
 refine ⟨plainId_quiet plain_eq_loop _, codeAny_builtin entry_eq_loop (by
  rw [(Around.under_plainId plain_eq_loop _)]
  exact lqy (eqf := eqf) (gtf := gtf) h1 h2 _ 0 rfl (Nat.zero_le _) prog w A R _ ⟨hl, hb, he, by simpa using h⟩)⟩
end
theorem hqY : ∀ ns ms : List Int, lexG (fun a b : Int => a == b) (fun a b => decide (b < a)) ns ms = lexLt ms ns
 | [], [] => rfl
 | [], _ :: _ => rfl
 | _ :: _, [] => rfl
 | x :: xs, y :: ys => by
  show (if (x == y) = true then lexG _ _ xs ys else decide (y < x)) = if y = x then lexLt ys xs else decide (y < x)
  by_cases e : x = y
  ·rw [if_pos (beq_iff_eq.mpr e), if_pos e.symm, hqY xs ys]
  ·rw [if_neg (fun z => e (beq_iff_eq.mp z)), if_neg (Ne.symm e)]
theorem hqD : ∀ {us : List Value} {ns : List Int}, IntsAre us ns → ∀ {j : Nat} {u : Value} {x : Int}, us[j]? = some u → ns[j]? = some x → ∃ t, u = .int x t
 | _, _, .nil, j, u, x, h, _ => by simp at h
 | _, _, .cons n t r, 0, u, x, h, h' => by simp at h h'; exact ⟨t, by rw [← h, ← h']⟩
 | _, _, .cons n t r, j + 1, u, x, h, h' => by simp at h h'; exact hqD r h h'
theorem gt_intsAt {A : Around} {s : Shared} {l b : Addr} {us ws : List Value} {n n2 : Nat} {ns ms : List Int} (hl : s.heap.get? l = some { cls := .type "list", data := .seq us.toArray n }) (hb : s.heap.get? b = some { cls := .type "list", data := .seq ws.toArray n2 })
  (hi : IntsAre us ns) (hj : IntsAre ws ms) (hu : A.units < cLine) : GtAt A s (.ref l) (.ref b) (lexLt ms ns) := fun prog w E Q h => by
 rw [← hqY ns ms] at h
 refine richCompare_meets_room (op := .Gt) ⟨_, hl, rfl⟩ ⟨_, hb, rfl⟩ PySem.F.slot_list_gt PySem.F.entry_list_gt (PySem.F.args_list_gt_2 _ _)
  (list_gtAt (us := us.toArray) (ws := ws.toArray) (xs := ns) (ys := ms) (by rw [List.size_toArray]; exact hi.length) (by rw [List.size_toArray]; exact hj.length)) ⟨hl, hb, fun j x y u z h1 h2 h3 h4 => ?_, ⟨(fun q => nomatch q), h⟩⟩ hu
 obtain ⟨t, rfl⟩ := hqD hi (by simpa using h1) h3
 obtain ⟨t', rfl⟩ := hqD hj (by simpa using h2) h4
 exact ⟨SeqAt.EqAt.int_int x t y t', fun _ => fun prog w E Q hq => PyProof.Rows.gt_int hq⟩
end HT
namespace L2
open PySem PySem.Spec PyProof.Rows
def intsD (l : List Int) : PyData := .list (l.map PyData.int)
theorem IsAll.get {H : Hp} : ∀ {ds : List PyData} {vs : List V}, IsAll H ds vs → ∀ {j : Nat} {d : PyData} {v : V}, ds[j]? = some d → vs[j]? = some v → Is H d v
 | _, _, .nil, j, d, v, h, _ => by simp at h
 | _, _, .cons q t, 0, d, v, h, h' => by simp at h h'; subst h h'; exact q
 | _, _, .cons q t, j + 1, d, v, h, h' => by simp at h h'; exact IsAll.get t h h'
theorem IsAll.len {H : Hp} : ∀ {ds : List PyData} {vs : List V}, IsAll H ds vs → ds.length = vs.length
 | _, _, .nil => rfl
 | _, _, .cons q t => by rw [List.length_cons, List.length_cons, IsAll.len t]
theorem kqC {H : Hp} : ∀ {l : List Int} {vs : List V}, IsAll H (l.map PyData.int) vs → vs = l.map V.int
 | [], _, h => by cases h; rfl
 | x :: l, _, h => by
  rw [List.map_cons] at h
  cases h with
  | cons q t => cases q; rw [kqC t]; rfl
theorem kqA {H : Hp} {l : List Int} {v : V} (h : Is H (intsD l) v) : ∃ p, v = .ref p ∧ H p = some (.lst (l.map V.int)) := by
 unfold intsD at h
 cases h with
 | lst hp q => exact ⟨_, rfl, by rw [← kqC q]; exact hp⟩
theorem fqO : ∀ {xs : List V} {us : List Value}, Vals xs us → ∀ {j : Nat} {u : Value}, us[j]? = some u → ∃ v, xs[j]? = some v ∧ RelV v u
 | _, _, .nil, j, u, h => by simp at h
 | _, _, .cons q t, 0, u, h => by simp at h; subst h; exact ⟨_, rfl, q⟩
 | _, _, .cons q t, j + 1, u, h => by simp at h; exact fqO t h
theorem mqO (a b : List Int) : PyData.eqv (intsD a) (intsD b) = decide (a = b) := by
 rw [Bool.eq_iff_iff, decide_eq_true_iff]
 unfold intsD
 rw [PyData.eqv]
 induction a generalizing b with
 | nil => cases b <;> simp [PyData.eqvAll]
 | cons x a ih =>
  cases b with
  | nil => simp [PyData.eqvAll]
  | cons y b => simp [PyData.eqvAll, PyData.eqv, ih]
theorem Room.unitsL {k : Nat} {A : Around} (r : Room k A) : A.units + 100 < cLine := by have := r.un; omega
section
variable {X : Cx}
def rGtLL : R2 := fun x y H Q => ∃ (a b : Addr) (xs ys : List (List Int)) (us ws : List V), x = .ref a ∧ y = .ref b ∧ H a = some (.lst us) ∧ H b = some (.lst ws) ∧ IsAll H (xs.map intsD) us ∧ IsAll H (ys.map intsD) ws ∧ Q (.bl (HT.lexG (fun a b : List Int => decide (a = b)) (fun a b => HT.lexLt b a) xs ys)) H
theorem oqb (hu : X.A.units + 100 < cLine) : OpR X (compareOp .Gt) rGtLL := by
 intro pins s σ H x y v u Q I rx ry h
 obtain ⟨a, b, xs, ys, us, ws, rfl, rfl, ha, hb, hx, hy, q⟩ := h
 cases rx
 cases ry
 obtain ⟨_, its, n, r, hl, e⟩ := I.lstM ha
 obtain ⟨_, its2, n2, r2, hl2, e2⟩ := I.lstM hb
 have l1 := hx.len
 have l2 := hy.len
 rw [List.length_map] at l1 l2
 refine richCompare_meets_room (op := .Gt) ⟨_, e, rfl⟩ ⟨_, e2, rfl⟩ PySem.F.slot_list_gt PySem.F.entry_list_gt (PySem.F.args_list_gt_2 _ _)
  (HT.list_gtAt (us := its.toArray) (ws := its2.toArray) (xs := xs) (ys := ys) (by rw [List.size_toArray]; omega) (by rw [List.size_toArray]; omega)) ⟨e, e2, fun j x y u z h1 h2 h3 h4 => ?_, ⟨(fun w => nomatch w), ⟨.bl _, H, I, rfl, q⟩⟩⟩ (by omega)
 obtain ⟨v1, g1, g2⟩ := fqO r (by simpa using h1)
 obtain ⟨v2, g3, g4⟩ := fqO r2 (by simpa using h2)
 have i1 := hx.get (by rw [List.getElem?_map, h3]; rfl) g1
 have i2 := hy.get (by rw [List.getElem?_map, h4]; rfl) g3
 obtain ⟨as, ra⟩ := i1.reads I g2
 obtain ⟨bs, rb⟩ := i2.reads I g4
 obtain ⟨p1, rfl, hp1⟩ := kqA i1
 obtain ⟨p2, rfl, hp2⟩ := kqA i2
 cases g2
 cases g4
 obtain ⟨_, t1, m1, q1, _, e3⟩ := I.lstM hp1
 obtain ⟨_, t2, m2, q2, _, e4⟩ := I.lstM hp2
 have sh : ∀ l : List Int, SeqAt.shaped (intsD l) = true := fun l => Wm.iqQ l
 refine ⟨?_, fun _ => HT.gt_intsAt e3 e4 (dq4 q1) (dq4 q2) (by show X.A.units + 1 < cLine; omega)⟩
 rw [← mqO]
 refine PySem.SeqAt.eqAt_reads (intsD x) (intsD y) _ s _ _ as bs ra rb (SeqAt.canLay_of_shaped (sh x)) (SeqAt.canLay_of_shaped (sh y)) ?_
 have := SeqAt.depth_of_shaped (sh x)
 have hm : min (intsD x).depth (intsD y).depth ≤ (intsD x).depth := Nat.min_le_left _ _
 show X.A.units + 1 + _ < _
 omega
end
section
variable {κ : Type} [DecidableEq κ]
def valV (kvs : List (κ × V)) (k : κ) : Option V := (kvs.find? fun kv => decide (kv.1 = k)).map (·.2)
def putK (kvs : List (κ × V)) (k : κ) (v : V) : List (κ × V) :=
 if (kvs.any fun kv => decide (kv.1 = k)) = true then kvs.map (fun kv => if kv.1 = k then (kv.1, v) else kv) else kvs ++ [(k, v)]
theorem fqE {p : κ × V} {r : List (κ × V)} {k : κ} (e : p.1 = k) : valV (p :: r) k = some p.2 := by simp [valV, List.find?_cons, e]
theorem dqg {p : κ × V} {r : List (κ × V)} {k : κ} (e : ¬ p.1 = k) : valV (p :: r) k = valV r k := by simp [valV, List.find?_cons, e]
theorem iqZ (kvs : List (κ × V)) (k : κ) (v : V) : (putK kvs k v).length ≤ kvs.length + 1 := by
 unfold putK
 split
 ·rw [List.length_map]; omega
 ·rw [List.length_append, List.length_cons, List.length_nil]; omega
theorem RelO.getD {o : Option V} {u : Option Value} {d : V} {d' : Value} (r : RelO o u) (rd : RelV d d') : RelV (o.getD d) (u.getD d') := by
 cases o with
 | none => cases u with
  | none => exact rd
  | some _ => exact (show False from r).elim
 | some _ => cases u with
  | none => exact (show False from r).elim
  | some _ => exact r
theorem KV.val {kvs : List (κ × V)} {vs : List (κ × Value)} (r : KV kvs vs) (k : κ) : RelO (valV kvs k) (valueAt vs k) := by
 unfold KV at r
 induction r with
 | nil => exact True.intro
 | @cons p q ps qs h t ih =>
  obtain ⟨h1, h2⟩ := h
  by_cases e : p.1 = k
  ·have e' : q.1 = k := h1.symm.trans e
   have b : valueAt (q :: qs) k = some q.2 := by simp [valueAt, List.find?_cons, e']
   rw [fqE e, b]; exact h2
  ·have e' : ¬ q.1 = k := fun z => e (h1.trans z)
   have b : valueAt (q :: qs) k = valueAt qs k := by simp [valueAt, List.find?_cons, e']
   rw [dqg e, b]; exact ih
theorem KV.any {kvs : List (κ × V)} {vs : List (κ × Value)} (r : KV kvs vs) (k : κ) : (kvs.any fun kv => decide (kv.1 = k)) = vs.any fun kv => decide (kv.1 = k) := by
 unfold KV at r
 induction r with
 | nil => rfl
 | cons h t ih => rw [List.any_cons, List.any_cons, ih, h.1]
theorem KV.repl {kvs : List (κ × V)} {vs : List (κ × Value)} (r : KV kvs vs) (k : κ) {y : V} {u : Value} (ry : RelV y u) :
  KV (kvs.map fun kv => if kv.1 = k then (kv.1, y) else kv) (vs.map fun kv => if kv.1 = k then (kv.1, u) else kv) := by
 unfold KV at r ⊢
 induction r with
 | nil => exact .nil
 | @cons p q ps qs h t ih =>
  rw [List.map_cons, List.map_cons]
  refine .cons ?_ ih
  obtain ⟨h1, h2⟩ := h
  by_cases e : p.1 = k
  ·rw [if_pos e, if_pos (h1.symm.trans e)]; exact ⟨h1, ry⟩
  ·rw [if_neg e, if_neg (fun z => e (h1.trans z))]; exact ⟨h1, h2⟩
theorem KV.put {kvs : List (κ × V)} {vs : List (κ × Value)} (r : KV kvs vs) (k : κ) {y : V} {u : Value} (ry : RelV y u) : KV (putK kvs k y) (stored vs k u) := by
 unfold putK stored
 rw [r.any k]
 by_cases e : (vs.any fun kv => decide (kv.1 = k)) = true
 ·rw [if_pos e, if_pos e]; exact r.repl k ry
 ·rw [if_neg e, if_neg e]; exact Paired.snoc r ⟨rfl, ry⟩
end
theorem nqK {P : Program} {w : World} {k : Key} {u : Value} (r : RelV (kV k) u) : (mixKind P w).is k u = true := by
 cases k with
 | inl i => obtain ⟨t, e⟩ := (show ∃ t, u = Value.int i t from r); subst e; exact iq2 P w i t
 | inr x => obtain ⟨t, e⟩ := (show ∃ t, u = Value.str x t from r); subst e; exact iq7 P w x t
theorem iqw {P : Program} {w : World} : ∀ {ks : List Key} {us : List Value}, Vals (ks.map kV) us → ItemsAre (mixKind P w) ks us
 | [], _, r => by rw [List.map_nil] at r; cases r; exact .nil
 | k :: ks, _, r => by
  rw [List.map_cons] at r
  cases r with
  | cons h t => exact .cons (nqK h) (iqw t)
abbrev KT (H : Hp) : List (List Key × V) → List (List Key × Addr × Value) → Prop := Paired fun p q => p.1 = q.1 ∧ H q.2.1 = some (.tup (p.1.map kV)) ∧ RelV p.2 q.2.2
theorem KT.val {H : Hp} {kvs : List (List Key × V)} {xs : List (List Key × Addr × Value)} (r : KT H kvs xs) (k : List Key) : RelO (valV kvs k) ((atKey xs k).map (·.2)) := by
 induction r with
 | nil => exact True.intro
 | @cons p q ps qs h t ih =>
  obtain ⟨h1, _, h2⟩ := h
  by_cases e : p.1 = k
  ·have e' : q.1 = k := h1.symm.trans e
   have b : atKey (q :: qs) k = some q.2 := by simp [atKey, List.find?_cons, e']
   rw [fqE e, b]; exact h2
  ·have e' : ¬ q.1 = k := fun z => e (h1.trans z)
   have b : atKey (q :: qs) k = atKey qs k := by simp [atKey, List.find?_cons, e']
   rw [dqg e, b]; exact ih
section
variable {P : Program} {w : World} {H : Hp} {h : Heap} {a : Addr}
theorem pqr {u : HO} (ok : HOk P w H h) (e : Rd H a u) : ObjOk P w H h a u := e.ok ok
theorem nq5 {kvs : List (Key × V)} (ok : HOk P w H h) (e : Rd H a (.dK kvs)) : kvs.length ≤ sizeLine ∧ (a == sysModules) = false ∧ ∃ vs, KV kvs vs ∧ h.DictOf (mixKind P w) a vs :=
 show ObjOk P w H h a (.dK kvs) from pqr ok e
theorem qqC {kvs : List (Key × V)} (ok : HOk P w H h) (e : H a = some (.dK kvs)) : kvs.length ≤ sizeLine ∧ (a == sysModules) = false ∧ ∃ vs, KV kvs vs ∧ h.DictOf (mixKind P w) a vs := nq5 ok (.inl e)
theorem nqu {ks : List Key} (ok : HOk P w H h) (e : H a = some (.tup (ks.map kV))) : (tupleKind (mixKind P w)).is h ks a := by
 obtain ⟨_, its, r, o, h1, h2, n, h3⟩ := (show ObjOk P w H h a (.tup (ks.map kV)) from ok a _ e)
 exact ⟨o, its.toArray, n, h1, h2, h3, by simpa using iqw r⟩
theorem pqI {kvs : List (List Key × V)} (ok : HOk P w H h) (e : Rd H a (.dT kvs)) : kvs.length ≤ sizeLine ∧ (a == sysModules) = false ∧
  ∃ xs, KT H kvs xs ∧ h.DictOfH (tupleKind (mixKind P w)) a xs := by
 obtain ⟨z, y, xs, r, o, es, ep, h1, h2, h3, h4, h5⟩ := (show ObjOk P w H h a (.dT kvs) from pqr ok e)
 refine ⟨z, y, xs, r, o, es, ep, h1, h2, h3, h4, fun x hx => ?_, h5⟩
 have all : ∀ {l : List (List Key × V)} {m : List (List Key × Addr × Value)}, KT H l m → ∀ x ∈ m, (tupleKind (mixKind P w)).is h x.1 x.2.1 := by
  intro l m q
  induction q with
  | nil => intro x hx; exact nomatch hx
  | @cons p q ps qs hq t ih =>
   intro x hx
   rcases List.mem_cons.mp hx with e | hx
   ·subst e
    exact nqu ok (by rw [← hq.1]; exact hq.2.1)
   ·exact ih x hx
 exact all r x hx
end
def DGet (H : Hp) (a : Addr) (y : V) (r : Option V) : Prop :=
 (∃ kvs k, Rd H a (.dK kvs) ∧ y = kV k ∧ r = valV kvs k) ∨ ∃ kvs k b, Rd H a (.dT kvs) ∧ y = .ref b ∧ H b = some (.tup (k.map kV)) ∧ r = valV kvs k
def DPut (H : Hp) (a : Addr) (y v : V) (H' : Hp) : Prop :=
 (∃ kvs k, H a = some (.dK kvs) ∧ y = kV k ∧ kvs.length < sizeLine ∧ H' = upd H a (.dK (putK kvs k v))) ∨
 ∃ kvs k b, H a = some (.dT kvs) ∧ y = .ref b ∧ H b = some (.tup (k.map kV)) ∧ kvs.length < sizeLine ∧ H' = upd H a (.dT (putK kvs k v))
theorem DGet.k {H : Hp} {a : Addr} {kvs : List (Key × V)} {k : Key} (e : H a = some (.dK kvs)) : DGet H a (kV k) (valV kvs k) := .inl ⟨kvs, k, .inl e, rfl, rfl⟩
section
variable {X : Cx} {pins : List (Addr × Obj)} {σ : St} {H : Hp} {s : Shared} {a : Addr} {y v : V} {u r : Value} {o : Option V} {A : Around} {E : Value → Shared → Prop}
theorem Inv.big (I : Inv X pins σ H s) : sysModules < s.heap.objs.size := by
 have h : mainGlobals < s.heap.objs.size := (I.mod.glob.keeps I.bk).lt
 exact Nat.lt_trans (by decide) h
theorem nqE {h' : Heap} {t' : Nat} {ob : HO} (I : Inv X pins σ H s) (mu : Mut (H a)) (hs : Heap.SameBut a s.heap h') (he : ∃ q, h'.get? a = some q) (new : ObjOk X.prog X.w (upd H a ob) h' a ob) :
  Inv X pins σ (upd H a ob) { s with heap := h', toks := t' } :=
 I.write (x := a) (e := a) mu (.inl rfl) (fun b q hb z => (hs.2 b hb).trans z) he new
theorem pqa {P : Program} {w : World} {H' : Hp} {h' : Heap} {kvs : List (Key × V)} {vs : List (Key × Value)} (z : kvs.length ≤ sizeLine) (hd : (a == sysModules) = false) (rel : KV kvs vs) (dd : h'.DictOf (mixKind P w) a vs) :
  ObjOk P w H' h' a (.dK kvs) := ⟨z, hd, vs, rel, dd⟩
end
section
variable {X : Cx} {pins : List (Addr × Obj)} {σ : St} {H : Hp} {s : Shared} {a : Addr} {kvs : List (Key × V)} {k : Key} {u : Value} {A : Around} {E : Value → Shared → Prop}
end
def tDGet (td ty : TE) : TE := fun σ H Q => td σ H fun x H1 => ty σ H1 fun y H2 => ∃ a v, x = .ref a ∧ DGet H2 a y (some v) ∧ Q v H2
def sDPut (td ty tv : TE) : TS := fun D σ H => tv σ H fun v H1 => td σ H1 fun x H2 => ty σ H2 fun y H3 => ∃ a H4, x = .ref a ∧ DPut H3 a y v H4 ∧ D.nx σ H4
section
variable {X : Cx} {o i e value : Expr} {pos pos' tpos : Pos} {td ty tv : TE}
end
theorem lqS {P : Program} {w : World} {H : Hp} (h : Heap) (hb : sysModules < h.objs.size) : ObjOk P w H (h.push { cls := .type "dict", data := .dict #[] }) h.objs.size (.dK []) :=
 ⟨Nat.zero_le _, beq_eq_false_iff_ne.mpr (Ne.symm (Nat.ne_of_lt hb)), [], .nil, Heap.DictOf.new h⟩
def tDNewK : TE := fun _ H Q => ∀ p, H p = none → Q (.ref p) (upd H p (.dK []))
section
variable {X : Cx} {pos : Pos}
end
def tPairs : List (TE × TE) → St → Hp → (List (V × V) → Hp → Prop) → Prop
 | [], _, H, Q => Q [] H
 | (tk, tv) :: r, σ, H, Q => tk σ H fun x H1 => tv σ H1 fun y H2 => tPairs r σ H2 fun ps H3 => Q ((x, y) :: ps) H3
abbrev VV : List (V × V) → List (Value × Value) → Prop := Paired fun p q => RelV p.1 q.1 ∧ RelV p.2 q.2
def PPs (X : Cx) (pos : Pos) (keys : List (Option Expr)) (values : List Expr) (trs : List (TE × TE)) : Prop :=
 ∀ (pins : List (Addr × Obj)) (s : Shared) (σ : St) (H : Hp) (Q : List (V × V) → Hp → Prop), Inv X pins σ H s → tPairs trs σ H Q →
  wpAny (model X.prog X.w) X.A (evalPairs (pairTrees keys values X.env pos)) (fun vs s' => ∃ ps H', Inv X pins σ H' s' ∧ VV ps vs ∧ Q ps H') X.xe s
theorem oq5 {X : Cx} {pos : Pos} : PPs X pos [] [] [] := fun pins s σ H Q I h => pairTrees_nil_walk ⟨[], H, I, .nil, h⟩
theorem jqi {X : Cx} {pos : Pos} {k v : Expr} {ks : List (Option Expr)} {vs : List Expr} {tk tv : TE} {trs : List (TE × TE)} (hk : PE X k tk) (hv : PE X v tv) (hr : PPs X pos ks vs trs) :
  PPs X pos (some k :: ks) (v :: vs) ((tk, tv) :: trs) := fun pins s σ H Q I h =>
 pairTrees_cons_walk (thn (hk pins s σ H _ I h) fun u s1 ⟨x, H1, I1, rx, q1⟩ => thn (hv pins s1 σ H1 _ I1 q1) fun w2 s2 ⟨y, H2, I2, ry, q2⟩ =>
  thn (hr pins s2 σ H2 _ I2 q2) fun ws s3 ⟨ps, H3, I3, rel, q3⟩ => ⟨(x, y) :: ps, H3, I3, .cons ⟨rx, ry⟩ rel, q3⟩)
def mergeK (kvs more : List (Key × V)) : List (Key × V) := more.foldl (fun acc kv => putK acc kv.1 kv.2) kvs
theorem KV.merge : ∀ {more : List (Key × V)} {rs : List (Key × Value)} {kvs : List (Key × V)} {vs : List (Key × Value)}, KV more rs → KV kvs vs → KV (mergeK kvs more) (merged vs rs) := by
 intro more rs kvs vs r
 unfold KV at r
 induction r generalizing kvs vs with
 | nil => intro q; exact q
 | @cons p q ps qs h t ih =>
  intro r0
  have e : KV (putK kvs p.1 p.2) (stored vs q.1 q.2) := by
   have := r0.put p.1 h.2
   rw [← h.1]; exact this
  exact ih e
theorem eqy : ∀ (more kvs : List (Key × V)), (mergeK kvs more).length ≤ kvs.length + more.length
 | [], kvs => by show kvs.length ≤ kvs.length + 0; omega
 | p :: r, kvs => by
  have h1 := eqy r (putK kvs p.1 p.2)
  have h2 := iqZ kvs p.1 p.2
  show (mergeK (putK kvs p.1 p.2) r).length ≤ _
  rw [List.length_cons]; omega
theorem gqY {P : Program} {w : World} : ∀ {kvs : List (Key × V)} {ws : List (Value × Value)}, VV (kvs.map fun kv => (kV kv.1, kv.2)) ws → ∃ rs, Carries (mixKind P w) ws rs ∧ KV kvs rs
 | [], _, r => by rw [List.map_nil] at r; cases r; exact ⟨[], True.intro, .nil⟩
 | p :: kvs, _, r => by
  rw [List.map_cons] at r
  cases r with
  | @cons a b as bs h t =>
   obtain ⟨rs, c, q⟩ := gqY (P := P) (w := w) t
   obtain ⟨b1, b2⟩ := b
   exact ⟨(p.1, b2) :: rs, ⟨nqK h.1, rfl, c⟩, .cons ⟨rfl, h.2⟩ q⟩
def tDisp (trs : List (TE × TE)) : TE := fun σ H Q => ∀ p, H p = none → tPairs trs σ (upd H p (.dK [])) fun ps H2 => H2 p = some (.dK []) ∧ ∃ kvs : List (Key × V), ps = kvs.map (fun kv => (kV kv.1, kv.2)) ∧ kvs.length ≤ 15 ∧ Q (.ref p) (upd H2 p (.dK (mergeK [] kvs)))
theorem oqr {X : Cx} {pos : Pos} {keys : List (Option Expr)} {values : List Expr} {trs : List (TE × TE)} (h : PPs X pos keys values trs) (hall : keys.all (·.isSome) = true) (hl : keys.length = values.length) (h0 : keys ≠ [])
  (h15 : keys.length ≤ 15) : PE X (.Dict keys values pos) (tDisp trs) := by
 intro pins s σ H Q I q
 have hn := I.hok.fresh (Nat.le_refl s.heap.objs.size)
 have I1 := I.laid (a := s.heap.objs.size) (o := .dK []) (h' := s.heap.push { cls := .type "dict", data := .dict #[] }) (t' := s.toks) (fun _ _ q => Heap.get?_push_of_some _ q) (Nat.le_refl _) (lqS s.heap I.big)
 refine wpAny_Dict_walk (knd := mixKind X.prog X.w) hall hl h0 h15 (thn (h pins _ σ _ _ I1 (q _ hn)) fun ws s2 W' => ?_)
 obtain ⟨ps, H2, I2, rel, e, kvs, ep, lk, q2⟩ := W'
 subst ep
 obtain ⟨rs, c, rk⟩ := gqY (P := X.prog) (w := X.w) rel
 obtain ⟨z, hd, vs0, r0, dd⟩ := qqC I2.hok e
 cases r0
 refine ⟨rs, c, dd, fun h' dd' hs => ⟨.ref s.heap.objs.size, _, ?_, rfl, q2⟩⟩
 have hz : (mergeK [] kvs).length ≤ sizeLine := by
  have h1 := eqy kvs []
  rw [List.length_nil] at h1
  rw [sizeLine_eq]; omega
 have he : ∃ q, h'.get? s.heap.objs.size = some q := let ⟨q, _, _, hq, _⟩ := dd'; ⟨q, hq⟩
 exact nqE I2 (by rw [e]; exact True.intro) hs he (pqa hz hd (rk.merge .nil) dd')
structure M1 (X : Cx) (o : Expr) (m : Str) (apos : Pos) (e : Expr) (cpos : Pos) : Prop where
 base : attributeBase o m X.env (eval o X.env) = eval o X.env
 few : ((backTo cpos (starEach [e] X.env)).all (fun x => !x.1) && (backToKw cpos (keywordEach [] X.env)).all (fun x => x.1.isSome)
  && decide (([e] : List Expr).length + ([] : List Keyword).length + (if ([] : List Keyword).isEmpty then 0 else 1) < 30)) = true
 line : (apos.endLine == cpos.line) = true
 trees : backTo cpos (starEach [e] X.env) = [(false, eval e X.env)]
structure M2 (X : Cx) (o : Expr) (m : Str) (apos : Pos) (e f : Expr) (cpos : Pos) : Prop where
 base : attributeBase o m X.env (eval o X.env) = eval o X.env
 few : ((backTo cpos (starEach [e, f] X.env)).all (fun x => !x.1) && (backToKw cpos (keywordEach [] X.env)).all (fun x => x.1.isSome)
  && decide (([e, f] : List Expr).length + ([] : List Keyword).length + (if ([] : List Keyword).isEmpty then 0 else 1) < 30)) = true
 line : (apos.endLine == cpos.line) = true
 trees : backTo cpos (starEach [e, f] X.env) = [(false, eval e X.env), (false, eval f X.env)]
def IsD (H : Hp) (a : Addr) : Prop := (∃ kvs, Rd H a (.dK kvs)) ∨ ∃ kvs, Rd H a (.dT kvs)
theorem pqM {X : Cx} {pins : List (Addr × Obj)} {σ : St} {H : Hp} {s : Shared} {a : Addr} (I : Inv X pins σ H s) (d : IsD H a) :
  s.TypeIs (.ref a) "dict" ∧ (∀ b, Value.ref a = .ref b → ∃ ob, s.heap.get? b = some ob ∧ ob.dict = none) ∧ (a == sysModules) = false := by
 rcases d with ⟨kvs, e⟩ | ⟨kvs, e⟩
 ·obtain ⟨_, hd, vs, _, dd⟩ := nq5 I.hok e
  refine ⟨dd.typeIs, fun b q => ?_, hd⟩
  cases q
  obtain ⟨ob, _, _, h1, h2, _⟩ := dd
  exact ⟨ob, h1, h2.2.1⟩
 ·obtain ⟨_, hd, xs, _, dd⟩ := pqI I.hok e
  refine ⟨dd.typeIs, fun b q => ?_, hd⟩
  cases q
  obtain ⟨ob, _, _, h1, h2, _⟩ := dd
  exact ⟨ob, h1, h2.2.1⟩
section
variable {X : Cx} {pins : List (Addr × Obj)} {σ : St} {H : Hp} {s : Shared} {a : Addr} {y d : V} {u r : Value} {o : Option V} {A : Around} {E : Value → Shared → Prop}
theorem qqj {Q : Value → Shared → Prop} (hu : A.units + 1 < cLine) (I : Inv X pins σ H s) (g : DGet H a y o) (ry : RelV y u) (rd : RelV d r) (h : ∀ w' s', Inv X pins σ H s' → RelV (o.getD d) w' → Q w' s') :
  wpAny (model X.prog X.w) A (call (.builtin "dict.get") [.ref a, u, r]) Q E s := by
 rcases g with ⟨kvs, k, e, ey, l⟩ | ⟨kvs, k, b, e, ey, eb, l⟩
 ·subst ey
  obtain ⟨z, hd, vs, rel, dd⟩ := nq5 I.hok e
  refine call_meetsIn PySem.F.slot_dict_get dd.typeIs PySem.F.entry_dict_get (PySem.F.args_dict_get_3 _ _ _) (meets_dict_get_default (mixKind X.prog X.w) a (nqK ry) hd r) ⟨_, dd.mapOf, h _ _ (I.tok _) ?_⟩
  rw [l]
  exact (rel.val k).getD rd
 ·subst ey
  cases (show u = Value.ref b from ry)
  obtain ⟨z, hd, xs, rel, dd⟩ := pqI I.hok e
  refine call_meetsIn PySem.F.slot_dict_get dd.typeIs PySem.F.entry_dict_get (PySem.F.args_dict_get_3 _ _ _) (meetsH_dict_get_default (tupleKind (mixKind X.prog X.w)) a b hd r) ⟨tupleKind_room_in1 hu, k, xs, nqu I.hok eb, dd, h _ _ (I.tok _) ?_⟩
  rw [l]
  exact (rel.val k).getD rd
end
def tDGet2 (td ty tx : TE) : TE := fun σ H Q => td σ H fun x H1 => ∃ a, x = .ref a ∧ IsD H1 a ∧ ty σ H1 fun y H2 => tx σ H2 fun z H3 => ∃ o, DGet H3 a y o ∧ Q (o.getD z) H3
section
variable {X : Cx} {o e f : Expr} {apos cpos : Pos} {td ty tx : TE}
theorem mqF (hu : X.A.units + 1 < cLine) (ho : PE X o td) (he : PE X e ty) (hf : PE X f tx) (m : M2 X o "get" apos e f cpos) : PE X (.Call (.Attribute o "get" apos) [e, f] [] cpos) (tDGet2 td ty tx) := by
 intro pins s σ H Q I h
 refine wpAny_Call_method m.base m.few m.line PySem.F.plainAttrs_dict PySem.F.slot_dict_get PySem.F.type_dict_get (thn (ho pins s σ H _ I h) fun u s1 W' => ?_)
 obtain ⟨x, H1, I1, rx, a, ex, d, q1⟩ := W'
 subst ex
 obtain rfl : u = Value.ref a := rx
 obtain ⟨t1, t2, _⟩ := pqM I1 d
 refine ⟨t1, t2, ?_⟩
 rw [m.trees]
 refine Calls.callWith_builtin rfl (Calls.evalArgs_plain (Calls.spliced_cons (thn (he pins s1 σ H1 _ I1 q1) fun iv s2 ⟨y, H2, I2, ry, q2⟩ =>
  Calls.spliced_cons (thn (hf pins s2 σ H2 _ I2 q2) fun fv s3 ⟨z, H3, I3, rz, ov, g, q3⟩ => Calls.spliced_nil ?_))))
 exact qqj hu I3 g ry rz fun w' s4 I4 rw' => ⟨_, H3, I4, rw', q3⟩
end
section
variable {X : Cx} {pins : List (Addr × Obj)} {σ : St} {H : Hp} {s : Shared} {a : Addr} {kvs : List (Key × V)} {A : Around} {E : Value → Shared → Prop}
end
section
variable {X : Cx} {pins : List (Addr × Obj)} {σ : St} {H : Hp} {s : Shared} {a : Addr} {y : V} {u : Value} {A : Around} {E : Value → Shared → Prop}
end
end L2
namespace L2
open PySem PyProof.Rows PySem.Spec
theorem Room.units1 {k : Nat} {A : Around} (r : Room k A) : A.units + 1 < cLine := by have := r.un; omega
section
variable {td ty tv : TE} {σ : St} {H : Hp} {Q : VK} {D : Ends}
theorem oqE : (tDGet td ty σ H Q) = (td σ H fun x H1 => ty σ H1 fun y H2 => ∃ a v, x = .ref a ∧ DGet H2 a y (some v) ∧ Q v H2) := rfl
theorem oqs : (sDPut td ty tv D σ H) = (tv σ H fun v H1 => td σ H1 fun x H2 => ty σ H2 fun y H3 => ∃ a H4, x = .ref a ∧ DPut H3 a y v H4 ∧ D.nx σ H4) := rfl
theorem oqh : (tDNewK σ H Q) = (∀ p, H p = none → Q (.ref p) (upd H p (.dK []))) := rfl
theorem oqJ {trs : List (TE × TE)} : (tDisp trs σ H Q) = (∀ p, H p = none → tPairs trs σ (upd H p (.dK [])) fun ps H2 => H2 p = some (.dK []) ∧ ∃ kvs : List (Key × V), ps = kvs.map (fun kv => (kV kv.1, kv.2)) ∧ kvs.length ≤ 15 ∧ Q (.ref p) (upd H2 p (.dK (mergeK [] kvs)))) := rfl
theorem nqD {R : List (V × V) → Hp → Prop} : (tPairs [] σ H R) = (R [] H) := rfl
theorem oqj {tk tv : TE} {r : List (TE × TE)} {R : List (V × V) → Hp → Prop} : (tPairs ((tk, tv) :: r) σ H R) = (tk σ H fun x H1 => tv σ H1 fun y H2 => tPairs r σ H2 fun ps H3 => R ((x, y) :: ps) H3) := rfl
theorem mq2 {tx : TE} : (tDGet2 td ty tx σ H Q) = (td σ H fun x H1 => ∃ a, x = .ref a ∧ IsD H1 a ∧ ty σ H1 fun y H2 => tx σ H2 fun z H3 => ∃ o, DGet H3 a y o ∧ Q (o.getD z) H3) := rfl
end
end L2
namespace L2
open PySem
section
variable {K : PySem.W.Frag} {p : Addr} {fv : St} {tt : TT} {te : TE} {Q : VK} {H1 : Hp}
theorem iqK {a : Addr} {xs : List V} (t : Nat → Bool) (g : Nat → V) (hxs : SqL K H1 a xs) (hlen : xs.length ≤ sizeLine) (hp : H1 p = none)
  (ht : ∀ (i : Nat) (x : V), xs[i]? = some x → ∀ (H' : Hp) (R : Bool → Hp → Prop), Same H1 H' → (∀ H'', Same H' H'' → R (t i) H'') → tt (some x :: fv) H' R)
  (he : ∀ (i : Nat) (x : V), xs[i]? = some x → t i = true → ∀ (H' : Hp) (T : VK), Same H1 H' → (∀ H'', Same H' H'' → T (g i) H'') → te (some x :: fv) H' T)
  (hQ : ∀ H', Same H1 H' → H' p = some (.lst (((List.range xs.length).filter t).map g)) → Q (.ref p) H') : CompI (Itl K a) p fv tt te Q H1 := by
 refine ⟨fun i m ys H2 => m = xs.length - i ∧ i ≤ xs.length ∧ ys = ((List.range i).filter t).map g ∧ H2 p = some (.lst ys) ∧ Same H1 H2, ⟨xs.length, by simp, Nat.zero_le _, by simp, aqq, fun b o e => by rw [aqx (aqw e hp)]; exact e⟩, ?_⟩
 rintro i m ys H2 ⟨rfl, hi, rfl, hp2, sm⟩
 refine ⟨hp2, ?_⟩
 have q := sm.seq hxs
 by_cases hlt : i < xs.length
 ·refine .inr ⟨⟨xs, xs[i], q, by simp [hlt]⟩, ?_, fun x H3 y => ?_⟩
  ·rw [List.length_map]
   have := List.length_filter_le t (List.range i)
   rw [List.length_range] at this
   omega
  ·obtain ⟨rfl, y⟩ := y
   have hc := y xs q
   refine ht i x hc _ _ sm fun H4 s4 => ?_
   by_cases hf : t i = true
   ·rw [if_pos hf]
    refine he i x hc hf _ _ (sm.trans s4) fun H5 s5 => ⟨(s4.trans s5) _ _ hp2, xs.length - (i + 1), by omega, rfl, hlt, ?_, aqq, fun b o e => ?_⟩
    ·rw [List.range_succ, List.filter_append, List.map_append]; simp [hf]
    ·rw [aqx (aqw e hp)]; exact (s4.trans s5) _ _ (sm _ _ e)
   ·rw [if_neg hf]
    refine ⟨xs.length - (i + 1), by omega, rfl, hlt, ?_, s4 _ _ hp2, sm.trans s4⟩
    rw [List.range_succ, List.filter_append, List.map_append]; simp [hf]
 ·have e : i = xs.length := by omega
  subst e
  exact .inl ⟨⟨xs, q, Nat.le_refl _⟩, hQ H2 sm hp2⟩
end
end L2
namespace Wm
open PySem L2
abbrev Rw := List Nat × (List Pc × Bool)
def mrR (a b : Rw) : Bool := moreM a.2.1 b.2.1
theorem gqk {α : Type} {mr : α → α → Bool} : ∀ (L : List α) (b e : α), mostM mr b (L ++ [e]) = if mr e (mostM mr b L) = true then e else mostM mr b L
 | [], b, e => rfl
 | x :: L, b, e => by
  show mostM mr _ (L ++ [e]) = _
  rw [gqk L]
  rfl
theorem fqH {α : Type} {mr : α → α → Bool} : ∀ (L : List α) (b : α), mostM mr b L ∈ b :: L
 | [], b => List.mem_singleton.mpr rfl
 | x :: L, b => by
  have := fqH (mr := mr) L (if mr x b = true then x else b)
  show mostM mr (if mr x b = true then x else b) L ∈ _
  rcases List.mem_cons.mp this with h | h
  ·rw [h]; split <;> simp
  ·exact List.mem_cons_of_mem _ (List.mem_cons_of_mem _ h)
def RwAt (H : Hp) (r : Rw) (v : V) : Prop := ∃ a p : Addr, v = .ref a ∧ H a = some (.tup [tV r.1, .ref p]) ∧ PtAt H r.2.1 r.2.2 p
theorem RwAt.mono {H H' : Hp} {r : Rw} {v : V} (s : SameT H H') : RwAt H r v → RwAt H' r v := fun ⟨a, p, e, h1, h2⟩ => ⟨a, p, e, s _ _ h1, h2.mono s⟩
inductive TbV (H : Hp) : List Rw → List V → Prop
 | nil : TbV H [] []
 | cons {r : Rw} {v : V} {rs : List Rw} {vs : List V} : RwAt H r v → TbV H rs vs → TbV H (r :: rs) (v :: vs)
theorem TbV.mono {H H' : Hp} (s : SameT H H') : ∀ {rs : List Rw} {vs : List V}, TbV H rs vs → TbV H' rs vs
 | _, _, .nil => .nil
 | _, _, .cons h t => .cons (h.mono s) (TbV.mono s t)
theorem TbV.length {H : Hp} : ∀ {rs : List Rw} {vs : List V}, TbV H rs vs → vs.length = rs.length
 | _, _, .nil => rfl
 | _, _, .cons h t => by rw [List.length_cons, List.length_cons, TbV.length t]
theorem TbV.get {H : Hp} : ∀ {rs : List Rw} {vs : List V}, TbV H rs vs → ∀ {i : Nat} {v : V}, vs[i]? = some v → ∃ r, rs[i]? = some r ∧ RwAt H r v
 | _, _, .nil, i, v, e => by simp at e
 | _, _, .cons h t, 0, v, e => by cases e; exact ⟨_, rfl, h⟩
 | _, _, .cons h t, i + 1, v, e => by simp only [List.getElem?_cons_succ] at e ⊢; exact t.get e
theorem TbV.append {H : Hp} {ss : List Rw} {ws : List V} (h2 : TbV H ss ws) : ∀ {rs : List Rw} {vs : List V}, TbV H rs vs → TbV H (rs ++ ss) (vs ++ ws)
 | _, _, .nil => h2
 | _, _, .cons h t => .cons h (TbV.append h2 t)
theorem TbV.drop {H : Hp} : ∀ {rs : List Rw} {vs : List V}, TbV H rs vs → ∀ n : Nat, TbV H (rs.drop n) (vs.drop n)
 | _, _, .nil, n => by simp; exact .nil
 | _, _, .cons h t, 0 => .cons h t
 | _, _, .cons h t, n + 1 => by rw [List.drop_succ_cons, List.drop_succ_cons]; exact TbV.drop t n
theorem TbV.pick {H : Hp} {f : Rw → Bool} : ∀ {rs : List Rw} {vs : List V}, TbV H rs vs → TbV H (rs.filter f) (((List.range vs.length).filter fun i => match rs[i]? with | some r => f r | none => false).map fun i => vs[i]?.getD .non) := by
 intro rs vs h
 induction h with
 | nil => exact .nil
 | @cons r v rs vs h t ih =>
  have e : (List.range (v :: vs).length).filter (fun i => match (r :: rs)[i]? with | some r => f r | none => false) = (if f r = true then [0] else []) ++ ((List.range vs.length).filter fun i => match rs[i]? with | some r => f r | none => false).map (· + 1) := by
   rw [List.length_cons, List.range_succ_eq_map, List.filter_cons, List.filter_map]
   simp only [List.getElem?_cons_zero]
   split <;> rename_i hh <;> simp [hh, Function.comp_def]
  rw [e, List.map_append, List.map_map, List.filter_cons]
  have tl : (((List.range vs.length).filter fun i => match rs[i]? with | some r => f r | none => false).map ((fun i => (v :: vs)[i]?.getD .non) ∘ (· + 1))) = (((List.range vs.length).filter fun i => match rs[i]? with | some r => f r | none => false).map fun i => vs[i]?.getD .non) := by
   apply List.map_congr_left
   intro i _
   simp
  rw [tl]
  split
  ·exact .cons h ih
  ·exact ih
theorem BndV.get {H : Hp} {l : Addr} : ∀ {bs : List (List Nat × Vl)} {ys : List V}, BndV H l bs ys → ∀ {i : Nat} {v : V}, ys[i]? = some v → ∃ (b : List Nat × Vl) (p : Addr) (w : V), bs[i]? = some b ∧ v = .ref p ∧ H p = some (.tup [tV b.1, w]) ∧ VlV H b.2 w ∧ ∀ q, w = .ref q → q ≠ l
 | _, _, .nil, i, v, e => by simp at e
 | _, _, .cons a b c r, 0, v, e => by cases e; exact ⟨_, _, _, rfl, rfl, a, b, c⟩
 | _, _, .cons a b c r, i + 1, v, e => by simp only [List.getElem?_cons_succ] at e ⊢; exact r.get e
theorem lq1 {c : Pc} {s : List Nat} {a b : List (List Nat)} (h : c.isRest = false) : bvM c (s :: a) = bvM c (s :: b) := by
 cases c with
 | rest n => cases h
 | _ => rfl
theorem fqV : ∀ (a b : List Pc) (ss : List (List Nat)), boundM (a ++ b) ss = boundM a ss ++ boundM b (ss.drop a.length)
 | [], b, ss => by simp [boundM]
 | c :: a, b, ss => by
  show (if c.isStep then [] else [(c.name, bvM c ss)]) ++ boundM (a ++ b) (ss.drop 1) = ((if c.isStep then [] else [(c.name, bvM c ss)]) ++ boundM a (ss.drop 1)) ++ boundM b (ss.drop (a.length + 1))
  rw [fqV a b, List.append_assoc, List.drop_drop, Nat.add_comm 1 a.length]
theorem gqq : ∀ {a : List Pc} {ss : List (List Nat)} (m : Nat), (∀ c ∈ a, c.isRest = false) → a.length ≤ m → a.length ≤ ss.length → boundM a (ss.take m) = boundM a ss
 | [], ss, m, _, _, _ => by simp [boundM]
 | c :: a, [], m, _, _, h => by simp at h
 | c :: a, s :: ss, 0, _, h, _ => by simp at h
 | c :: a, s :: ss, m + 1, hr, h1, h2 => by
  show (if c.isStep then [] else [(c.name, bvM c (s :: ss.take m))]) ++ boundM a (ss.take m) = (if c.isStep then [] else [(c.name, bvM c (s :: ss))]) ++ boundM a ss
  rw [lq1 (b := ss) (hr c (List.mem_cons_self ..)), gqq m (fun d hd => hr d (List.mem_cons_of_mem _ hd)) (by simpa using h1) (by simpa using h2)]
theorem kqx {cs : List Pc} {ss : List (List Nat)} {k : Nat} {c : Pc} {s : List Nat} (hc : cs[k]? = some c) (hs : ss[k]? = some s) (hr : ∀ (j : Nat) (d : Pc), j < k → cs[j]? = some d → d.isRest = false) :
  boundM (cs.take (k + 1)) (ss.take (k + 1)) = boundM (cs.take k) (ss.take k) ++ (if c.isStep then [] else [(c.name, bvM c [s])]) := by
 have hk := (List.getElem?_eq_some_iff.mp hc).1
 have hk2 := (List.getElem?_eq_some_iff.mp hs).1
 have ec : cs.take (k + 1) = cs.take k ++ [c] := by rw [List.take_add_one, hc]; rfl
 have es : ss.take (k + 1) = ss.take k ++ [s] := by rw [List.take_add_one, hs]; rfl
 have hl : (cs.take k).length = k := by rw [List.length_take]; omega
 have hl2 : (ss.take k).length = k := by rw [List.length_take]; omega
 have hn : ∀ d ∈ cs.take k, d.isRest = false := fun d hd => by
  obtain ⟨j, hj, e⟩ := List.getElem_of_mem hd
  rw [hl] at hj
  exact hr j d hj (by
   have := List.getElem?_eq_getElem (l := cs.take k) (i := j) (by omega)
   rw [List.getElem?_take, if_pos hj] at this
   rw [this, e])
 rw [ec, fqV, es]
 have e1 : boundM (cs.take k) (ss.take k ++ [s]) = boundM (cs.take k) (ss.take k) := by
  have := gqq (a := cs.take k) (ss := ss.take k ++ [s]) k hn (by omega) (by rw [List.length_append]; omega)
  rw [← this, List.take_append_of_le_length (by omega), List.take_take, Nat.min_self]
 rw [e1, hl, List.drop_append_of_le_length (by omega), List.drop_of_length_le (by omega)]
 congr 1
 show (if c.isStep then [] else [(c.name, bvM c [s])]) ++ boundM [] _ = _
 simp [boundM]
theorem gqK {a : List Pc} {nm : List Nat} {ss : List (List Nat)} {k : Nat} (hr : ∀ c ∈ a, c.isRest = false) (h : a.length < k) (hk : k ≤ ss.length) :
  boundM (a ++ [.rest nm]) (ss.take k) = boundM a ss ++ [(nm, .lst ((ss.take k).drop a.length))] := by
 rw [fqV, gqq k hr (by omega) (by omega)]
 rfl
theorem lqC {cs ms : List Pc} {n i : Nat} (h : spreadM cs n = some ms) (hi : i < n) : ∃ c, cs[min i (cs.length - 1)]? = some c ∧ ms[i]? = some c := by
 obtain ⟨h1, h2⟩ := gqQ h
 rcases h2 i hi with ⟨a, b⟩ | ⟨a, b, c, d, e, f⟩
 ·rw [Nat.min_eq_left (by omega)]
  exact ⟨cs[i], List.getElem?_eq_getElem a, by rw [b]; exact List.getElem?_eq_getElem a⟩
 ·obtain ⟨x, hx⟩ : ∃ x, cs.getLast? = some x := by
   cases hh : cs.getLast? with
   | some x => exact ⟨x, rfl⟩
   | none => rw [List.getLast?_eq_none_iff] at hh; subst hh; exact absurd b (by decide)
  have hxr : x.isRest = true := by unfold hasRest at b; rw [hx] at b; exact b
  have := iq4 hx hxr (n := n) (by omega)
  rw [h] at this
  cases this
  rw [Nat.min_eq_right (by omega), ← List.getLast?_eq_getElem?]
  refine ⟨x, hx, ?_⟩
  rw [List.getElem?_append_right (by omega), List.getElem?_replicate, if_pos (by omega)]
theorem BndV.snoc_inv {H : Hp} {l : Addr} {n : List Nat} {x : Vl} : ∀ {bs : List (List Nat × Vl)} {ys : List V}, BndV H l (bs ++ [(n, x)]) ys → ∃ (y0 : List V) (p : Addr) (w : V), ys = y0 ++ [.ref p] ∧ BndV H l bs y0 ∧ H p = some (.tup [tV n, w]) ∧ VlV H x w ∧ ∀ q, w = .ref q → q ≠ l := by
 intro bs
 induction bs with
 | nil =>
  intro ys h
  cases h with
  | cons a b c r => cases r; exact ⟨[], _, _, rfl, .nil, a, b, c⟩
 | cons d bs ih =>
  intro ys h
  cases h with
  | cons a b c r =>
   obtain ⟨y0, p, w, e, h1, h2, h3, h4⟩ := ih r
   exact ⟨_ :: y0, p, w, by rw [e]; rfl, .cons a b c h1, h2, h3, h4⟩
theorem BndV.upd2 {H : Hp} {l q : Addr} {o : HO} {xs : List V} (hq : H q = some (.lst xs)) {bs : List (List Nat × Vl)} {ys : List V} (hb : ∀ b ∈ bs, ∀ ls, b.2 ≠ .lst ls) (h : BndV H l bs ys) : BndV (L2.upd H q o) l bs ys := by
 induction h with
 | nil => exact .nil
 | @cons n x p v bs ys h v m r ih =>
  refine .cons (by rw [aqx (mq7 h hq (by intro z; cases z))]; exact h) ?_ m (ih fun b hb' => hb b (List.mem_cons_of_mem _ hb'))
  cases x with
  | lst ls => exact absurd rfl (hb _ (List.mem_cons_self ..) ls)
  | _ => exact v
theorem eq8 : ∀ {a : List Pc} {ss : List (List Nat)}, (∀ c ∈ a, c.isRest = false) → ∀ b ∈ boundM a ss, ∀ ls, b.2 ≠ .lst ls
 | [], _, _, b, hb, _ => by cases hb
 | c :: a, ss, hr, b, hb, ls => by
  have hb : b ∈ (if c.isStep then [] else [(c.name, bvM c ss)]) ++ boundM a (ss.drop 1) := hb
  rcases List.mem_append.mp hb with z | z
  ·have hc := hr c (List.mem_cons_self ..)
   split at z
   ·cases z
   ·rw [List.mem_singleton.mp z]
    cases c with
    | rest n => cases hc
    | _ => intro e; cases e
  ·exact eq8 (fun d hd => hr d (List.mem_cons_of_mem _ hd)) b z ls
def FrB (H0 H : Hp) (ys : List V) : Prop := ∀ v ∈ ys, ∃ (p : Addr) (a w : V), v = .ref p ∧ H p = some (.tup [a, w]) ∧ ∀ q, w = .ref q → H0 q = none
theorem FrB.mono {H0 H H' : Hp} {ys : List V} (s : SameT H H') (h : FrB H0 H ys) : FrB H0 H' ys := fun v hv => by
 obtain ⟨p, a, w, e, h1, h2⟩ := h v hv
 exact ⟨p, a, w, e, s _ _ h1, h2⟩
theorem FrB.snoc {H0 H : Hp} {ys : List V} {p : Addr} {a w : V} (h : FrB H0 H ys) (hp : H p = some (.tup [a, w])) (hw : ∀ q, w = .ref q → H0 q = none) : FrB H0 H (ys ++ [.ref p]) := fun v hv => by
 rcases List.mem_append.mp hv with z | z
 ·exact h v z
 ·exact ⟨p, a, w, List.mem_singleton.mp z, hp, hw⟩
theorem kqT {cs : List Pc} (ok : PatOk cs) (h : hasRest cs = true) : ∃ (a : List Pc) (nm : List Nat), cs = a ++ [.rest nm] ∧ ∀ c ∈ a, c.isRest = false := by
 rcases List.eq_nil_or_concat cs with e | ⟨a, x, e⟩
 ·subst e; exact absurd h (by decide)
 ·subst e
  rw [List.concat_eq_append] at h ok ⊢
  have hx : x.isRest = true := by
   unfold hasRest at h
   rw [List.getLast?_concat] at h
   exact h
  cases x with
  | rest nm =>
   refine ⟨a, nm, rfl, fun c hc => ?_⟩
   obtain ⟨j, hj, e⟩ := List.getElem_of_mem hc
   cases hr : c.isRest with
   | false => rfl
   | true =>
    have := ok.2 j c (by rw [List.getElem?_append_left hj, List.getElem?_eq_getElem hj, e]) hr
    rw [List.length_append, List.length_singleton] at this
    omega
  | _ => cases hx
theorem jqk {ps : List Pc} (h : ∀ c ∈ ps, c.isRest = false) : LastR ps := fun i c hc hr => by
 rw [h c (List.mem_of_getElem? hc)] at hr
 cases hr
theorem jqT {ps : List Pc} {d : Pc} (h : ∀ c ∈ ps, c.isRest = false) : LastR (ps ++ [d]) := fun i c hc hr => by
 by_cases hi : i < ps.length
 ·rw [List.getElem?_append_left hi] at hc
  rw [h c (List.mem_of_getElem? hc)] at hr
  cases hr
 ·have := (List.getElem?_eq_some_iff.mp hc).1
  rw [List.length_append, List.length_singleton] at this ⊢
  omega
def dueM (f : Rw → Bool) (T : List Rw) : Option Rw := match T.filter f with
 | [] => none
 | b :: L => some (mostM mrR b L)
theorem mqH (f : Rw → Bool) (T : List Rw) (t : Rw) : dueM f (T ++ [t]) = if f t = true then (match dueM f T with | none => some t | some m => some (if mrR t m = true then t else m)) else dueM f T := by
 unfold dueM
 by_cases h : f t = true
 ·rw [if_pos h, List.filter_append, show [t].filter f = [t] by simp [h]]
  cases hF : T.filter f with
  | nil => rfl
  | cons b L =>
   show some (mostM mrR b (L ++ [t])) = some (if mrR t (mostM mrR b L) = true then t else mostM mrR b L)
   rw [gqk]
 ·rw [if_neg h, List.filter_append, show [t].filter f = [] by simp [h], List.append_nil]
def WlAt (H : Hp) (l : Addr) (ws : List (List Int)) (us : List V) : Prop := us.length = ws.length ∧ ∀ (j : Nat) (u : V), us[j]? = some u → ∃ (w : List Int) (r : Addr), ws[j]? = some w ∧ u = .ref r ∧ r ≠ l ∧ H r = some (.lst (w.map V.int))
theorem WlAt.mono {H H' : Hp} {l : Addr} {ws : List (List Int)} {us : List V} (s : Same H H') (h : WlAt H l ws us) : WlAt H' l ws us := ⟨h.1, fun j u hu => by
 obtain ⟨w, r, h1, h2, h3, h4⟩ := h.2 j u hu
 exact ⟨w, r, h1, h2, h3, s _ _ h4⟩⟩
theorem WlAt.put {H : Hp} {l : Addr} {ws : List (List Int)} {us : List V} {o : HO} (h : WlAt H l ws us) : WlAt (L2.upd H l o) l ws us := ⟨h.1, fun j u hu => by
 obtain ⟨w, r, h1, h2, h3, h4⟩ := h.2 j u hu
 exact ⟨w, r, h1, h2, h3, by rw [aqx h3]; exact h4⟩⟩
theorem WlAt.snoc {H : Hp} {l r : Addr} {ws : List (List Int)} {us : List V} {w : List Int} (h : WlAt H l ws us) (hr : r ≠ l) (hw : H r = some (.lst (w.map V.int))) : WlAt H l (ws ++ [w]) (us ++ [.ref r]) := ⟨by rw [List.length_append, List.length_append, h.1]; rfl, fun j u hu => by
 by_cases hj : j < us.length
 ·rw [List.getElem?_append_left hj] at hu
  obtain ⟨w', r', h1, h2⟩ := h.2 j u hu
  exact ⟨w', r', by rw [List.getElem?_append_left (by rw [← h.1]; exact hj)]; exact h1, h2⟩
 ·have h9 := (List.getElem?_eq_some_iff.mp hu).1
  rw [List.length_append, List.length_singleton] at h9
  rw [List.getElem?_append_right (by omega), show j - us.length = 0 by omega] at hu
  cases hu
  exact ⟨w, r, by rw [List.getElem?_append_right (by rw [← h.1]; omega), ← h.1, show j - us.length = 0 by omega]; rfl, rfl, hr, hw⟩⟩
theorem lexL {c d : Pc} (h : worthM c ≠ worthM d) : HT.lexLt (worthL d) (worthL c) = HT.lexLt (worthM d) (worthM c) := by
 cases c <;> cases d <;> first
  | exact absurd rfl h
  | rfl
  | (simp [worthL, worthM, wordW, Pc.head, Pc.tail, HT.lexLt])
theorem jqf (c : Pc) : worthL c ≠ [6] ∧ HT.lexLt (worthL c) [6] = true ∧ HT.lexLt [6] (worthL c) = false := by
 cases c <;> simp [worthL, wordW, HT.lexLt]
theorem jqu : ∀ a b : List Pc, HT.lexG (fun a b : List Int => decide (a = b)) (fun a b => HT.lexLt b a) (a.map worthL ++ [[6]]) (b.map worthL ++ [[6]]) = moreM a b
 | [], [] => (rfl)
 | [], d :: ds => by
  have h := jqf d
  show (if decide ([6] = worthL d) = true then _ else HT.lexLt (worthL d) [6]) = true
  rw [if_neg (by rw [decide_eq_true_iff]; exact h.1.symm)]
  exact h.2.1
 | c :: cs, [] => by
  have h := jqf c
  show (if decide (worthL c = [6]) = true then _ else HT.lexLt [6] (worthL c)) = false
  rw [if_neg (by rw [decide_eq_true_iff]; exact h.1)]
  exact h.2.2
 | c :: cs, d :: ds => by
  show (if decide (worthL c = worthL d) = true then HT.lexG _ _ (cs.map worthL ++ [[6]]) (ds.map worthL ++ [[6]]) else HT.lexLt (worthL d) (worthL c)) = if worthM c = worthM d then moreM cs ds else HT.lexLt (worthM d) (worthM c)
  by_cases e : worthM c = worthM d
  ·rw [if_pos e, if_pos (decide_eq_true (gqL.mpr e)), jqu cs ds]
  ·rw [if_neg e, if_neg (by rw [decide_eq_true_iff]; exact fun z => e (gqL.mp z)), lexL e]
theorem jqt {H : Hp} : ∀ (ws : List (List Int)) (us : List V), us.length = ws.length → (∀ (j : Nat) (u : V), us[j]? = some u → ∃ (w : List Int) (r : Addr), ws[j]? = some w ∧ u = .ref r ∧ H r = some (.lst (w.map V.int))) → IsAll H (ws.map intsD) us
 | [], [], _, _ => .nil
 | [], _ :: _, h, _ => (by simp at h)
 | _ :: _, [], h, _ => (by simp at h)
 | w :: ws, u :: us, h, hj => by
  obtain ⟨w', r, h1, rfl, h2⟩ := hj 0 u rfl
  cases h1
  exact .cons (.lst h2 (dq5 _)) (jqt ws us (by simpa using h) fun j y hy => hj (j + 1) y (by simpa using hy))
theorem WlAt.isAll {H : Hp} {l : Addr} {ws : List (List Int)} {us : List V} (h : WlAt H l ws us) : IsAll H (ws.map intsD) us := jqt ws us h.1 fun j u hu => by
 obtain ⟨w, r, h1, h2, _, h4⟩ := h.2 j u hu
 exact ⟨w, r, h1, h2, h4⟩
theorem pqL (cs : List Pc) : HT.lexG (fun a b : List Int => decide (a = b)) (fun a b => HT.lexLt b a) (cs.map worthL ++ [[6]]) [] = true := by
 cases cs <;> rfl
theorem pqd (c : Pc) : PyData.eqv (pcD c) (pcD c) = true := by
 have eq : ∀ s : Str, PyData.eqv (.str s) (.str s) = true := fun s => by simp [PyData.eqv]
 have two : ∀ (k : Str) (l : List Nat), PyData.eqv (.tuple [.str k, st l]) (.tuple [.str k, st l]) = true := fun k l => eq1 fun d hd => by
  simp only [List.not_mem_nil, List.mem_cons, or_false] at hd
  rcases hd with rfl | rfl
  ·exact eq _
  ·exact fqm l
 cases c with
 | part h n t =>
  refine eq1 fun d hd => ?_
  simp only [List.not_mem_nil, List.mem_cons, or_false] at hd
  rcases hd with rfl | rfl | rfl | rfl
  ·exact eq _
  ·exact fqm _
  ·exact fqm _
  ·exact fqm _
 | step s => exact two _ s
 | num n => exact two _ n
 | word n => exact two _ n
 | gap n => exact two _ n
 | rest n => exact two _ n
def pttD (p : List Pc × Bool) : PyData := .tuple [.tuple (p.1.map pcD), .bool p.2]
def rwD (t : Rw) : PyData := .tuple [st t.1, pttD t.2]
theorem PtAt.isD {H : Hp} {cs : List Pc} {e : Bool} {p : Addr} (h : PtAt H cs e p) : Is H (pttD (cs, e)) (.ref p) := by
 obtain ⟨q, xs, h1, h2, h3⟩ := h
 exact .tup h1 (.cons (.tup h2 h3.isT.is) (.cons (.bl _) .nil))
theorem TbV.isAll {H : Hp} : ∀ {T : List Rw} {ws : List V}, TbV H T ws → IsAll H (T.map rwD) ws
 | _, _, .nil => .nil
 | _, _, .cons ⟨a, p, e, h1, h2⟩ t => .cons (by rw [e]; exact .tup h1 (.cons (.str _) (.cons h2.isD .nil))) t.isAll
def TabOk (T : List Rw) : Prop := ∀ t ∈ T, (∀ x ∈ t.1, isSg x = true) ∧ PcsOk t.2.1 ∧ LastR t.2.1 ∧ t.2.1.length ≤ 5
theorem jqp {T : List Rw} (h : TabOk T) : SeqAt.shaped (.list (T.map rwD)) = true := (layL (n := 4) fun d hd => by
 obtain ⟨t, ht, rfl⟩ := List.mem_map.mp hd
 obtain ⟨h1, h2, _⟩ := h t ht
 refine LayAt.tup (n := 3) fun d hd => ?_
 simp only [List.not_mem_nil, List.mem_cons, or_false] at hd
 rcases hd with rfl | rfl
 ·exact (LayAt.st h1).le (by decide)
 ·refine LayAt.tup (n := 2) fun d hd => ?_
  simp only [List.not_mem_nil, List.mem_cons, or_false] at hd
  rcases hd with rfl | rfl
  ·exact jqF fun c hc => (h2.2 c hc).2
  ·exact LayAt.bool.le (by decide)).shaped (by decide)
theorem pqK (T : List Rw) : PyData.eqv (.list (T.map rwD)) (.list (T.map rwD)) = true := hqB fun d hd => by
 obtain ⟨t, _, rfl⟩ := List.mem_map.mp hd
 refine eq1 fun d hd => ?_
 simp only [List.not_mem_nil, List.mem_cons, or_false] at hd
 rcases hd with rfl | rfl
 ·exact fqm _
 ·refine eq1 fun d hd => ?_
  simp only [List.not_mem_nil, List.mem_cons, or_false] at hd
  rcases hd with rfl | rfl
  ·exact eq1 fun d hd => by obtain ⟨c, _, rfl⟩ := List.mem_map.mp hd; exact pqd c
  ·exact mqP _
def fitR (r e : Bool) (ss : List (List Nat)) (t : Rw) : Bool := fitsP t.2.1 t.2.2 r ss e
def DuA (ss : List (List Nat)) (H : Hp) (fv : V) (us : List V) : Option Rw → Prop
 | none => fv = .non ∧ us = []
 | some m => IsAll H ((m.2.1.map worthL ++ [[6]]).map intsD) us ∧ ∃ (p l' : Addr) (ys : List V), fv = .ref p ∧ H p = some (.tup [tV m.1, .ref l']) ∧ H l' = some (.lst ys) ∧ BndV H l' (boundM m.2.1 ss) ys
theorem DuA.mono {ss : List (List Nat)} {H H' : Hp} {fv : V} {us : List V} (s : Same H H') : ∀ {o : Option Rw}, DuA ss H fv us o → DuA ss H' fv us o
 | none, h => h
 | some m, ⟨h1, p, l', ys, h2, h3, h4, h5⟩ => ⟨h1.mono s, p, l', ys, h2, s _ _ h3, s _ _ h4, h5.mono s⟩
theorem lqb {cs : List Pc} {m : Nat} {n : List Nat} (hm : m < cs.length) (l : LastR cs) : LastR (cs.take m ++ [.gap n] ++ cs.drop (m + 1)) := by
 have e : cs.take m ++ [.gap n] ++ cs.drop (m + 1) = cs.set m (.gap n) := by
  rw [List.set_eq_take_append_cons_drop, if_pos hm, List.append_assoc]
  rfl
 rw [e]
 intro i c hc hr
 rw [List.length_set]
 rw [List.getElem?_set] at hc
 split at hc
 ·cases hc
  cases hr
 ·exact l i c hc hr
def top (i : Nat) : Stmt := PySem.Challenge.pw_waymark_k62_led_by_a_table.main.body.getD i (.Pass ⟨0, 0, 0, 0⟩)
abbrev cq2 : Stmt := top 3
abbrev dqZ : Stmt := top 10
abbrev dq0 : Stmt := top 14
abbrev cq5 : Stmt := top 15
abbrev cq1 : Stmt := top 16
abbrev cq4 : Stmt := top 17
abbrev cqm : Stmt := top 18
abbrev aq2 : Stmt := top 38
abbrev bqr : Stmt := top 39
abbrev bqo : Stmt := top 40
abbrev aqK : Stmt := top 46
abbrev aq3 : Stmt := top 47
abbrev bqv : Stmt := top 49
abbrev bqd : Stmt := top 52
abbrev dq7 : Stmt := top 24
abbrev bqK : Stmt := top 26
abbrev bqD : Stmt := top 27
abbrev cq3 : Stmt := top 28
abbrev aq9 : Stmt := top 29
abbrev cqo : Stmt := top 33
abbrev bqF : Stmt := top 41
abbrev bqq : Stmt := top 48
abbrev bqH : Stmt := top 25
abbrev bqt : Stmt := top 32
abbrev bqJ : Stmt := top 42
abbrev cqn : Stmt := top 54
abbrev gqP : Stmt := top 23
abbrev bqp : Stmt := top 36
abbrev bqy : Stmt := top 43
abbrev aqT : Stmt := top 50
abbrev eqY : Stmt := top 22
abbrev bqn : Stmt := top 45
abbrev bqs : Stmt := top 51
abbrev gqE : Stmt := top 35
abbrev bqw : Stmt := top 53
abbrev bqx : Stmt := top 55
abbrev aqU : Stmt := top 56
abbrev jqY : Stmt := top 57
abbrev dqO : V := .str (Str.ofString "abcdefghijklmnopqrstuvwxyz")
abbrev hqT : V := .str (Str.ofString "0123456789")
abbrev lq3 : V := .int 0
abbrev kq6 : V := .int 1
abbrev qqp : V := .int 2
abbrev qqz : V := .str (Str.ofString ".")
abbrev k_UP : V := .str (Str.ofString "..")
abbrev dqn : V := .int 0
abbrev mqw : V := .int 1
abbrev fqw : V := .int 60
abbrev gqz : V := .int 60
def bqV : List (Str × PyData) := [(Str.ofString "step", .int 6), (Str.ofString "part", .int 5), (Str.ofString "number", .int 4), (Str.ofString "word", .int 3), (Str.ofString "gap", .int 2), (Str.ofString "rest", .int 1)]
set_option genInjectivity false
set_option genSizeOf false
set_option genSizeOfSpec false
structure G (w : World) (K : W.Frag) (mg : Str → Option Value) where
 eqP : Addr
 dqY : FuncData
 eqp : Fun K "made_of" "made_of" cq2 eqP dqY
 gqd : mg "made_of" = some (.ref eqP)
 fqZ : Binds K dqY ["text", "signs"] []
 fqF : Addr
 eqr : FuncData
 hqG : Fun K "is_dot" "is_dot" dqZ fqF eqr
 jqg : mg "is_dot" = some (.ref fqF)
 jqD : Binds K eqr ["step"] []
 fqy : Addr
 eqt : FuncData
 gqZ : Fun K "is_gap" "is_gap" dq0 fqy eqt
 jqA : mg "is_gap" = some (.ref fqy)
 jqv : Binds K eqt ["piece"] []
 eqE : Addr
 dqV : FuncData
 fq9 : Fun K "name_of" "name_of" cq5 eqE dqV
 iqr : mg "name_of" = some (.ref eqE)
 iqu : Binds K dqV ["gap"] []
 eqC : Addr
 dq3 : FuncData
 dqI : Fun K "head_of" "head_of" cq1 eqC dq3
 eqJ : mg "head_of" = some (.ref eqC)
 eqA : Binds K dq3 ["piece"] []
 eqz : Addr
 dqW : FuncData
 dqG : Fun K "tail_of" "tail_of" cq4 eqz dqW
 eqM : mg "tail_of" = some (.ref eqz)
 eqs : Binds K dqW ["piece"] []
 dq1 : Addr
 dqc : FuncData
 eq0 : Fun K "has_rest" "has_rest" cqm dq1 dqc
 gqN : mg "has_rest" = some (.ref dq1)
 gqG : Binds K dqc ["pattern"] []
 bqP : Addr
 bqB : FuncData
 aqI : Fun K "_law_cell_at" "_law_cell_at" aq2 bqP bqB
 aqN : mg "_law_cell_at" = some (.ref bqP)
 aqO : Binds K bqB ["_law_script", "_law_k"] []
 cqQ : Addr
 bq3 : FuncData
 bqT : Fun K "_law_names" "_law_names" bqr cqQ bq3
 cqF : mg "_law_names" = some (.ref cqQ)
 cqL : Binds K bq3 ["_law_cell", "_law_many"] []
 cqD : Addr
 bq7 : FuncData
 dqF : Fun K "_law_signs" "_law_signs" bqo cqD bq7
 fqr : mg "_law_signs" = some (.ref cqD)
 fqk : Binds K bq7 [] []
 aq4 : Addr
 aqX : FuncData
 bqA : Fun K "_law_piece_value" "_law_piece_value" aqK aq4 aqX
 cqT : mg "_law_piece_value" = some (.ref aq4)
 cqV : Binds K aqX ["_law_piece_here", "_law_step_here"] []
 bqO : Addr
 bqz : FuncData
 cqZ : Fun K "_law_name_of" "_law_name_of" aq3 bqO bqz
 eqb : mg "_law_name_of" = some (.ref bqO)
 eqc : Binds K bqz ["_law_piece_here"] []
 cqN : Addr
 bq9 : FuncData
 dqJ : Fun K "_law_alike" "_law_alike" bqv cqN bq9
 eq7 : mg "_law_alike" = some (.ref cqN)
 fqh : Binds K bq9 ["_law_found", "_law_due_here"] []
 cqc : Addr
 bqN : FuncData
 cqh : Fun K "_law_worths" "_law_worths" bqd cqc bqN
 dqb : mg "_law_worths" = some (.ref cqc)
 dqo : Binds K bqN ["_law_pattern_here"] []
 fqA : Addr
 eqw : FuncData
 hqH : Fun K "spread" "spread" dq7 fqA eqw
 jqx : mg "spread" = some (.ref fqA)
 jqB : Binds K eqw ["pattern", "count"] []
 dqa : Addr
 cqX : FuncData
 eqj : Fun K "fits_part" "fits_part" bqK dqa cqX
 fq7 : mg "fits_part" = some (.ref dqa)
 gqo : Binds K cqX ["part", "step"] []
 dqf : Addr
 cqM : FuncData
 eqm : Fun K "is_number" "is_number" bqD dqf cqM
 fqT : mg "is_number" = some (.ref dqf)
 gqr : Binds K cqM ["text"] []
 eqB : Addr
 dqX : FuncData
 fqN : Fun K "is_word" "is_word" cq3 eqB dqX
 iqa : mg "is_word" = some (.ref eqB)
 iqo : Binds K dqX ["text"] []
 cqf : Addr
 bqL : FuncData
 dqp : Fun K "bound_value" "bound_value" aq9 cqf bqL
 eqN : mg "bound_value" = some (.ref cqf)
 eqI : Binds K bqL ["gap", "steps"] []
 dq6 : Addr
 dqr : FuncData
 cqk : Fun K "worth_of" "worth_of" cqo dq6 dqr
 cq0 : mg "worth_of" = some (.ref dq6)
 cq9 : Binds K dqr ["piece"] []
 dqd : Addr
 cqB : FuncData
 bqI : Fun K "_law_text" "_law_text" bqF dqd cqB
 cqu : mg "_law_text" = some (.ref dqd)
 cqy : Binds K cqB ["_law_cell"] []
 cqW : Addr
 cqa : FuncData
 dqK : Fun K "_law_bound" "_law_bound" bqq cqW cqa
 fqi : mg "_law_bound" = some (.ref cqW)
 fqa : Binds K cqa ["_law_pattern_here", "_law_way"] []
 dqh : Addr
 cqE : FuncData
 eql : Fun K "step_fits" "step_fits" bqH dqh cqE
 gqe : mg "step_fits" = some (.ref dqh)
 fq6 : Binds K cqE ["piece", "step"] []
 cqS : Addr
 cqg : FuncData
 dqL : Fun K "worth_more" "worth_more" bqt cqS cqg
 fqc : mg "worth_more" = some (.ref cqS)
 fqg : Binds K cqg ["one", "other"] []
 dqk : Addr
 cqI : FuncData
 bqE : Fun K "_law_step" "_law_step" bqJ dqk cqI
 cqv : mg "_law_step" = some (.ref dqk)
 cqs : Binds K cqI ["_law_cell"] []
 dq2 : Addr
 dql : FuncData
 eqZ : Fun K "_law_due" "_law_due" cqn dq2 dql
 gqV : mg "_law_due" = some (.ref dq2)
 gqD : Binds K dql ["_law_table_here", "_law_way"] []
 jqj : Addr
 hqi : FuncData
 jqI : Fun K "fits" "fits" gqP jqj hqi
 kqq : mg "fits" = some (.ref jqj)
 lqh : Binds K hqi ["pattern", "way"] []
 cqP : Addr
 cqj : FuncData
 dqD : Fun K "worth_most" "worth_most" bqp cqP cqj
 fqs : mg "worth_most" = some (.ref cqP)
 fql : Binds K cqj ["entries"] []
 cqO : Addr
 bq5 : FuncData
 dqB : Fun K "_law_piece" "_law_piece" bqy cqO bq5
 fqo : mg "_law_piece" = some (.ref cqO)
 fqq : Binds K bq5 ["_law_cell", "_law_name"] []
 bqk : Addr
 bqb : FuncData
 bqY : Fun K "_law_near_step" "_law_near_step" aqT bqk bqb
 dqu : mg "_law_near_step" = some (.ref bqk)
 dqz : Binds K bqb ["_law_piece_here", "_law_cell"] []
 gq2 : Addr
 fqx : FuncData
 iq5 : Fun K "bound" "bound" eqY gq2 fqx
 lqd : mg "bound" = some (.ref gq2)
 kqU : Binds K fqx ["pattern", "way"] []
 cqG : Addr
 cqb : FuncData
 cqH : Fun K "_law_small" "_law_small" bqn cqG cqb
 dqS : mg "_law_small" = some (.ref cqG)
 dqT : Binds K cqb ["_law_cell", "_law_names_here"] []
 cqU : Addr
 cqd : FuncData
 dqC : Fun K "_law_steps" "_law_steps" bqs cqU cqd
 fqd : mg "_law_steps" = some (.ref cqU)
 fqb : Binds K cqd ["_law_pattern_here", "_law_cells"] []
 jqJ : Addr
 hqz : FuncData
 kqL : Fun K "lead" "lead" gqE jqJ hqz
 nqv : mg "lead" = some (.ref jqJ)
 nqi : Binds K hqz ["table", "way"] []
 cqK : Addr
 cqi : FuncData
 dqQ : Fun K "_law_table" "_law_table" bqw cqK cqi
 fqt : mg "_law_table" = some (.ref cqK)
 fqp : Binds K cqi ["_law_script", "_law_names_here", "_law_labels", "_law_first", "_law_many"] []
 cqA : Addr
 cqe : FuncData
 dqR : Fun K "_law_right" "_law_right" bqx cqA cqe
 fqj : mg "_law_right" = some (.ref cqA)
 fqf : Binds K cqe ["_law_table_here", "_law_way"] []
 bqj : Addr
 bqa : FuncData
 bqi : Fun K "_law_all_right" "_law_all_right" aqU bqj bqa
 bqW : mg "_law_all_right" = some (.ref bqj)
 bqZ : Binds K bqa ["_law_table_here", "_law_cells"] []
 mqW : Addr
 iqB : FuncData
 pqt : Fun K "law" "law" jqY mqW iqB
 qqE : mg "law" = some (.ref mqW)
 qqJ : Binds K iqB ["_law_script"] []
 aq6 : Tok
 dqN : mg "SMALL_LETTERS" = some (.str (Str.ofString "abcdefghijklmnopqrstuvwxyz") aq6)
 dqA : Tok
 iqz : mg "FIGURES" = some (.str (Str.ofString "0123456789") dqA)
 eqL : Tok
 jqo : mg "ROOTED" = some (.int 0 eqL)
 fqL : Tok
 iqV : mg "STEPS" = some (.int 1 fqL)
 iqv : Tok
 nqn : mg "ENDS" = some (.int 2 iqv)
 hq8 : Tok
 nqh : mg "STAY" = some (.str (Str.ofString ".") hq8)
 t_UP : Tok
 c_UP : mg "UP" = some (.str (Str.ofString "..") t_UP)
 eqO : Tok
 cqR : mg "PIECES" = some (.int 0 eqO)
 eqx : Tok
 jqr : mg "CLOSES" = some (.int 1 eqx)
 aq1 : Tok
 dqy : mg "LONGEST_NUMBER" = some (.int 60 aq1)
 bqf : Tok
 eqg : mg "LONGEST_WORD" = some (.int 60 bqf)
 bqh : Addr
 dqs : mg "WORTH_OF_WORDS" = some (.ref bqh)
 dqv : ∀ (P : Program) (h : Heap), K.In h → PyProof.Rows.StrTab P w h bqh (bqV.map fun p => (PyData.str p.1, p.2))
 nq0 : mg "all" = none
 aqS : mg "len" = none
 dqU : mg "range" = none
 mqE : mg "int" = none
 bqu : mg "isinstance" = none
 nqj : mg "bool" = none
 fqU : mg "tuple" = none
 jqz : mg "list" = none
 cqx : mg "enumerate" = none
 pq6 : mg "min" = none
 oqp : mg "zip" = none
 oqW : mg "str" = none
def jqW : Sp := fun vs H Q _ => ∃ x y : Str, vs = [.str x, .str y] ∧ x.length ≤ 100000 ∧ ∀ H', Same H H' → Q (.bl (x.cps.toList.all fun c => decide (c ∈ y.cps.toList))) H'
def lqk : Sp := fun vs H Q _ => ∃ s : Stp, vs = [sV s] ∧ Q (.bl (isDot s)) H
def lqe (K : W.Frag) : Sp := fun vs H Q _ => ∃ (c : Pc) (p : Addr), vs = [.ref p] ∧ SqT K H p c.vals ∧ Q (.bl (!c.isStep)) H
def kqh (K : W.Frag) : Sp := fun vs H Q _ => ∃ (c : Pc) (p : Addr), vs = [.ref p] ∧ SqT K H p c.vals ∧ c.isStep = false ∧ Q (tV c.name) H
def gqS (K : W.Frag) : Sp := fun vs H Q _ => ∃ (c : Pc) (p : Addr), vs = [.ref p] ∧ SqT K H p c.vals ∧ Q (tV c.head) H
def gqI (K : W.Frag) : Sp := fun vs H Q _ => ∃ (c : Pc) (p : Addr), vs = [.ref p] ∧ SqT K H p c.vals ∧ Q (tV c.tail) H
def iqW (K : W.Frag) : Sp := fun vs H Q _ => ∃ (cs : List Pc) (xs : List V) (p q : Addr) (e : Bool), vs = [.ref p] ∧ SqT K H p [.ref q, .bl e] ∧ SqT K H q xs ∧ PcAll K H cs xs ∧ cs.length ≤ 1000 ∧ Q (.bl (hasRest cs)) H
def gqa (K : W.Frag) : Sp := fun vs H Q _ => ∃ (a : Addr) (ns : List Int) (k : Nat), vs = [.ref a, .int (k : Int)] ∧ SqL K H a (ns.map V.int) ∧ Q (.int (ns.getD k 0)) H
def gq1 (K : W.Frag) : Sp := fun vs H Q _ => ∃ (c : Int) (m : Nat), vs = [.int c, .int (m : Int)] ∧ m ≤ 26 ∧ ∀ (ns : List (List Nat)) (p : Addr) (H' : Hp), ns.length = m → (∀ n ∈ ns, 0 < n.length ∧ n.length ≤ 8 ∧ n.all isSma = true) → ns.Nodup → Same H H' → H' p = some (.lst (ns.map tV)) → Q (.ref p) H'
def eqF : Sp := fun vs H Q _ => vs = [] ∧ Q (.str ⟨SG.toArray⟩) H
def pvV : Pc → List Nat → V
 | .part h _ t, s => tV (amid h t s)
 | .num _, s => .int (intOf s)
 | _, s => tV s
def poolM (c : Pc) (s : List Nat) : List Nat := match c with | .num _ => fgS | .word _ => smaL | _ => s
def eqi (K : W.Frag) : Sp := fun vs H Q _ => ∃ (c : Pc) (p : Addr) (s : List Nat), vs = [.ref p, tV s] ∧ SqT K H p c.vals ∧ PcOk c ∧ 0 < s.length ∧ s.length ≤ 1000 ∧ (∀ x ∈ s, isSg x = true) ∧ (fitsM c s = false → ∀ H', Same H H' → Q .non H') ∧ (fitsM c s = true → ∀ (l : Addr) (H' : Hp), H l = none → Same H H' → H' l = some (.lst [pvV c s]) → Q (.ref l) H')
def fqJ (K : W.Frag) : Sp := fun vs H Q _ => ∃ (c : Pc) (p : Addr), vs = [.ref p] ∧ SqT K H p c.vals ∧ c.isStep = false ∧ Q (tV c.name) H
def gq8 (K : W.Frag) : Sp := fun vs H Q _ => ∃ (l l' : Addr) (bs : List (List Nat × Vl)) (ys ys' : List V), vs = [.ref l, .ref l'] ∧ H l = some (.lst ys) ∧ BndV H l bs ys ∧ H l' = some (.lst ys') ∧ BndV H l' bs ys' ∧ (∀ b ∈ bs, (∀ x ∈ b.1, isSg x = true) ∧ VlOk b.2) ∧ bs.length ≤ 100 ∧ ∀ H', Same H H' → Q (.bl true) H'
def gqs (K : W.Frag) : Sp := fun vs H Q _ => ∃ (cs : List Pc) (e : Bool) (p : Addr), vs = [.ref p] ∧ PtAt H cs e p ∧ PcsOk cs ∧ ∀ (l : Addr) (us : List V) (H' : Hp), Same H H' → H' l = some (.lst us) → IsAll H' ((cs.map worthL ++ [[6]]).map intsD) us → Q (.ref l) H'
def kqX (K : W.Frag) : Sp := fun vs H Q _ => ∃ (cs : List Pc) (xs : List V) (p q : Addr) (e : Bool) (n : Nat), vs = [.ref p, .int (n : Int)] ∧ SqT K H p [.ref q, .bl e] ∧ H q = some (.tup xs) ∧ PcAll K H cs xs ∧ cs.length ≤ 100 ∧ n ≤ 500 ∧ (spreadM cs n = none → Q .non H) ∧ ∀ (ds : List Pc) (ys : List V) (r : Addr) (H' : Hp), spreadM cs n = some ds → Same H H' → SqT K H' r ys → PcAll K H' ds ys → Q (.ref r) H'
def hq6 (K : W.Frag) : Sp := fun vs H Q _ => ∃ (h n t s : List Nat) (p : Addr), vs = [.ref p, tV s] ∧ SqT K H p (Pc.part h n t).vals ∧ s.length ≤ 100000 ∧ h.length ≤ 100000 ∧ t.length ≤ 100000 ∧ Q (.bl (partB h t s)) H
def iqt : Sp := fun vs H Q _ => ∃ (l : List Nat), vs = [tV l] ∧ l.length ≤ 100000 ∧ ∀ H', Same H H' → Q (.bl (numB l)) H'
def jqZ : Sp := fun vs H Q _ => ∃ (l : List Nat), vs = [tV l] ∧ l.length ≤ 100000 ∧ ∀ H', Same H H' → Q (.bl (wordB l)) H'
def gqy (K : W.Frag) : Sp := fun vs H Q _ => ∃ (c : Pc) (s : List Nat) (ss : List (List Nat)) (p q : Addr), vs = [.ref p, .ref q] ∧ SqT K H p c.vals ∧ H q = some (.tup ((s :: ss).map tV)) ∧ fitsM c s = true ∧ s.length ≤ 100000 ∧ c.head.length ≤ 100000 ∧ c.tail.length ≤ 100000 ∧ ss.length ≤ 1000 ∧ ∀ v H', Same H H' → VlV H' (bvM c (s :: ss)) v → (∀ q, v = .ref q → H q = none) → Q v H'
def iqI (K : W.Frag) : Sp := fun vs H Q _ => ∃ (c : Pc) (p : Addr), vs = [.ref p] ∧ SqT K H p c.vals ∧ PcTx c ∧ ∀ (r : Addr) (H' : Hp), Same H H' → H' r = some (.tup ((worthM c).map V.int)) → Q (.ref r) H'
def hqS (K : W.Frag) : Sp := fun vs H Q _ => ∃ c : Int, vs = [.int c] ∧ ∀ (l : List Nat) (H' : Hp), l.length ≤ 4 → (∀ c ∈ l, isSg c = true) → Same H H' → Q (tV l) H'
def hqg (K : W.Frag) : Sp := fun vs H Q _ => ∃ (cs : List Pc) (cl r e : Bool) (p pw ps : Addr) (ss : List (List Nat)), vs = [.ref p, .ref pw] ∧ PtAt H cs cl p ∧ PatOk cs ∧ (∀ c ∈ cs, PcSg c) ∧ cs.length ≤ 12 ∧ H pw = some (.tup [.bl r, .ref ps, .bl e]) ∧ H ps = some (.tup (ss.map tV)) ∧ (∀ s ∈ ss, SgT s ∧ s.length ≤ 300) ∧ ss.length ≤ 200 ∧
 (fitsP cs cl r ss e = false → ∀ H', Same H H' → Q .non H') ∧ (fitsP cs cl r ss e = true → ∀ (l : Addr) (ys : List V) (H' : Hp), Same H H' → H' l = some (.lst ys) → BndV H' l (boundM cs ss) ys → Q (.ref l) H')
def hqZ (K : W.Frag) : Sp := fun vs H Q _ => ∃ (c : Pc) (s : List Nat) (p : Addr), vs = [.ref p, tV s] ∧ SqT K H p c.vals ∧ s.length ≤ 100000 ∧ c.head.length ≤ 100000 ∧ c.tail.length ≤ 100000 ∧ ∀ H', Same H H' → Q (.bl (fitsM c s)) H'
def hqe (K : W.Frag) : Sp := fun vs H Q _ => ∃ (cs ds : List Pc) (xs ys : List V) (p q p' q' : Addr) (e e' : Bool), vs = [.ref p, .ref p'] ∧ SqT K H p [.ref q, .bl e] ∧ SqT K H q xs ∧ PcAll K H cs xs ∧ SqT K H p' [.ref q', .bl e'] ∧ SqT K H q' ys ∧ PcAll K H ds ys ∧ cs.length ≤ 90 ∧ ds.length ≤ 90 ∧ (∀ c ∈ cs, PcTx c) ∧ (∀ c ∈ ds, PcTx c) ∧ ∀ H', Same H H' → Q (.bl (moreM cs ds)) H'
def iqn (K : W.Frag) : Sp := fun vs H Q _ => ∃ c : Int, vs = [.int c] ∧ ∀ (l : List Nat) (H' : Hp), 0 < l.length → l.length ≤ 5 → (∀ c ∈ l, isSg c = true) → isDot l = false → Same H H' → Q (tV l) H'
def jqb (K : W.Frag) : Sp := fun vs H Q _ => ∃ (l pw ps : Addr) (T : List Rw) (ws : List V) (r e : Bool) (ss : List (List Nat)), vs = [.ref l, .ref pw] ∧ H l = some (.lst ws) ∧ TbV H T ws ∧ TabOk T ∧ T.length ≤ 20 ∧ H pw = some (.tup [.bl r, .ref ps, .bl e]) ∧ H ps = some (.tup (ss.map tV)) ∧ (∀ s ∈ ss, SgT s ∧ s.length ≤ 300) ∧ ss.length ≤ 200 ∧
 (dueM (fitR r e ss) T = none → ∀ H', Same H H' → Q .non H') ∧ ∀ m : Rw, dueM (fitR r e ss) T = some m → ∀ (p l' : Addr) (ys : List V) (H' : Hp), Same H H' → H' p = some (.tup [tV m.1, .ref l']) → H' l' = some (.lst ys) → BndV H' l' (boundM m.2.1 ss) ys → Q (.ref p) H'
def nqT (K : W.Frag) : Sp := fun vs H Q _ => ∃ (cs : List Pc) (xs : List V) (p q pw ps : Addr) (cl r e : Bool) (ss : List (List Nat)), vs = [.ref p, .ref pw] ∧ SqT K H p [.ref q, .bl cl] ∧ H q = some (.tup xs) ∧ PcAll K H cs xs ∧ cs.length ≤ 100 ∧ PcSz cs ∧ SqT K H pw [.bl r, .ref ps, .bl e] ∧ SqT K H ps (ss.map tV) ∧ ss.length ≤ 500 ∧ (∀ s ∈ ss, s.length ≤ 100000) ∧ ∀ H', Same H H' → Q (.bl (fitsP cs cl r ss e)) H'
def hqN (K : W.Frag) : Sp := fun vs H Q _ => ∃ (l : Addr) (b : Rw) (L : List Rw) (ws : List V), vs = [.ref l] ∧ H l = some (.lst ws) ∧ TbV H (b :: L) ws ∧ (∀ r ∈ b :: L, PcsOk r.2.1) ∧ L.length ≤ 90 ∧ ∀ (v : V) (H' : Hp), Same H H' → RwAt H' (mostM mrR b L) v → Q v H'
def hqC (K : W.Frag) : Sp := fun vs H Q _ => ∃ (c : Int) (n : List Nat), vs = [.int c, tV n] ∧ ∀ (pc : Pc) (p : Addr) (H' : Hp), PcOk pc → pc.isRest = false → (pc.isStep = false → pc.name = n) → Same H H' → H' p = some (.tup pc.vals) → Q (.ref p) H'
def StT (s : List Nat) : Prop := SgT s ∧ s.length ≤ 300
def eq4 (K : W.Frag) : Sp := fun vs H Q _ => ∃ (c : Pc) (p : Addr) (i : Int), vs = [.ref p, .int i] ∧ H p = some (.tup c.vals) ∧ PcOk c ∧ ∀ (l : List Nat) (H' : Hp), Same H H' → StT l → Q (tV l) H'
def mqa (K : W.Frag) : Sp := fun vs H Q _ => ∃ (cs : List Pc) (xs : List V) (p q pw ps : Addr) (cl r e : Bool) (ss : List (List Nat)), vs = [.ref p, .ref pw] ∧ SqT K H p [.ref q, .bl cl] ∧ H q = some (.tup xs) ∧ PcAll K H cs xs ∧ cs.length ≤ 100 ∧ PcSz cs ∧ SqT K H pw [.bl r, .ref ps, .bl e] ∧ H ps = some (.tup (ss.map tV)) ∧ ss.length ≤ 500 ∧ (∀ s ∈ ss, s.length ≤ 100000) ∧
 (fitsP cs cl r ss e = false → ∀ H', Same H H' → Q .non H') ∧ (fitsP cs cl r ss e = true → ∀ (l : Addr) (ys : List V) (H' : Hp), H l = none → FrB H H' ys → Same H H' → H' l = some (.lst ys) → BndV H' l (boundM cs ss) ys → Q (.ref l) H')
def gq3 (K : W.Frag) : Sp := fun vs H Q _ => ∃ (c : Int) (pn : Addr) (ns : List (List Nat)), vs = [.int c, .ref pn] ∧ H pn = some (.lst (ns.map tV)) ∧ 5 ≤ ns.length ∧ ns.length ≤ 100 ∧ (∀ n ∈ ns, ∀ x ∈ n, isSg x = true) ∧ ∀ (ps : List Pc) (e : Bool) (p : Addr) (H' : Hp), (∀ c ∈ ps, PcOk c ∧ PcSg c) → LastR ps → ps.length ≤ 5 → Same H H' → PtAt H' ps e p → Q (.ref p) H'
def hqx (K : W.Frag) : Sp := fun vs H Q _ => ∃ (cs : List Pc) (xs : List V) (p q pc : Addr) (e : Bool) (is : List Int), vs = [.ref p, .ref pc] ∧ H p = some (.tup [.ref q, .bl e]) ∧ H q = some (.tup xs) ∧ PcT H cs xs ∧ (∀ c ∈ cs, PcOk c) ∧ cs.length ≤ 12 ∧ SqL K H pc (is.map V.int) ∧ 0 < is.length ∧ is.length ≤ 100 ∧ ∀ (ss : List (List Nat)) (l : Addr) (H' : Hp), Same H H' → H' l = some (.lst (ss.map tV)) → (∀ s ∈ ss, StT s) → ss.length ≤ 48 → Q (.ref l) H'
def oqt (K : W.Frag) : Sp := fun vs H Q _ => ∃ (l pw ps : Addr) (T : List Rw) (ws : List V) (r e : Bool) (ss : List (List Nat)), vs = [.ref l, .ref pw] ∧ H l = some (.lst ws) ∧ TbV H T ws ∧ (∀ t ∈ T, PcsOk t.2.1) ∧ T.length ≤ 90 ∧ H pw = some (.tup [.bl r, .ref ps, .bl e]) ∧ H ps = some (.tup (ss.map tV)) ∧ ss.length ≤ 500 ∧ (∀ s ∈ ss, s.length ≤ 100000) ∧
 (T.filter (fitR r e ss) = [] → ∀ H', Same H H' → Q .non H') ∧ ∀ (b : Rw) (L : List Rw), T.filter (fitR r e ss) = b :: L → ∀ (p l' : Addr) (ys : List V) (H' : Hp), H l' = none → Same H H' → H' p = some (.tup [tV (mostM mrR b L).1, .ref l']) → H' l' = some (.lst ys) → BndV H' l' (boundM (mostM mrR b L).2.1 ss) ys → Q (.ref p) H'
def gq4 (K : W.Frag) : Sp := fun vs H Q _ => ∃ (a pn pl : Addr) (ns : List Int) (nm lb : List (List Nat)) (m : Nat), vs = [.ref a, .ref pn, .ref pl, .int 3, .int (m : Int)] ∧ SqL K H a (ns.map V.int) ∧ H pn = some (.lst (nm.map tV)) ∧ nm.length = 6 ∧ (∀ n ∈ nm, ∀ x ∈ n, isSg x = true) ∧ H pl = some (.lst (lb.map tV)) ∧ lb.length = 16 ∧ (∀ n ∈ lb, ∀ x ∈ n, isSg x = true) ∧ m ≤ 16 ∧ ∀ (T : List Rw) (ws : List V) (l : Addr) (H' : Hp), H l = none → Same H H' → H' l = some (.lst ws) → TbV H' T ws → TabOk T → T.length = m → Q (.ref l) H'
def eqD (K : W.Frag) : Sp := fun vs H Q _ => ∃ (l pw ps : Addr) (T : List Rw) (ws : List V) (r e : Bool) (ss : List (List Nat)), vs = [.ref l, .ref pw] ∧ H l = some (.lst ws) ∧ TbV H T ws ∧ TabOk T ∧ T.length ≤ 20 ∧ H pw = some (.tup [.bl r, .ref ps, .bl e]) ∧ H ps = some (.tup (ss.map tV)) ∧ (∀ s ∈ ss, SgT s ∧ s.length ≤ 300) ∧ ss.length ≤ 200 ∧ ∀ H', Same H H' → Q (.bl true) H'
def eq6 (K : W.Frag) : Sp := fun vs H Q _ => ∃ (l pc : Addr) (T : List Rw) (ws : List V) (is : List Int), vs = [.ref l, .ref pc] ∧ H l = some (.lst ws) ∧ TbV H T ws ∧ TabOk T ∧ T.length ≤ 20 ∧ H pc = some (.lst (is.map V.int)) ∧ is.length ≤ 200 ∧ ∀ H', Same H H' → Q (.bl true) H'
def jqw (K : W.Frag) : Sp := fun vs H Q _ => ∃ (a : Addr) (ns : List Int), vs = [.ref a] ∧ SqL K H a (ns.map V.int) ∧ ns.length ≤ 63 ∧ ∀ H', Q (.bl true) H'
section
variable {H : Hp} {Q : VK} {E : XK} {K : W.Frag}
theorem oqZ : eqF [] H Q E ↔ Q (.str ⟨SG.toArray⟩) H := ⟨fun h => h.2, fun h => ⟨rfl, h⟩⟩
end
section
variable {P : Program} {w : World} {K : W.Frag} {mg : Str → Option Value} {base : Heap}
seal PE PA PT PS PSs PG PI PF PO PW
local macro_rules | `(tactic| walk_at "rd") => `(tactic| simp only [L2.start, List.map_cons, List.map_nil, List.length_cons, List.length_nil, Nat.reduceAdd, Nat.reduceSub, Nat.zero_add, List.replicate_succ, List.replicate_zero, L2.pq3, L2.rd_C, L2.pqj, L2.qql, L2.mqc, L2.oq8, L2.oqz, L2.pqR, L2.oqQ, L2.pqE, L2.pqT, L2.oqg, L2.qqT, L2.nq1, L2.rd_B, L2.pq5, L2.qqF, L2.qqs, L2.nqS, L2.pq4, L2.nqU, L2.qqI, L2.mqM, L2.qqa, L2.oqy, L2.pqm, L2.qqe, L2.oqV, L2.nq9, L2.oqC, L2.hqv, L2.oq1, L2.oqw, L2.oqB, L2.mqy, L2.nqP, L2.qqU, L2.qqK, L2.pqZ, L2.qqH, L2.lqK, L2.oq0, L2.lq4, L2.rd_I, L2.qqM, L2.nq6, L2.aqv, L2.oq3, L2.oqT, L2.eqo, L2.kqG, L2.oqP, L2.oqY, L2.mqX, L2.oqN, L2.nqY, L2.mqn, L2.pqY, L2.nqd, L2.pq7, L2.pqp, L2.qqt, L2.oqo, L2.lqZ, L2.oqD, L2.mqv, L2.mqb, L2.lqj, L2.mqD, L2.mqZ, L2.lqP, L2.jqM, L2.eq5, L2.fqv, L2.fqu, L2.eq2, L2.eqG, L2.gq7, L2.iqb, L2.iqh, L2.hqj, L2.gqu, L2.hqP, L2.iqM, L2.iqN, L2.iqk, L2.hqm, L2.hq9, L2.iqX, L2.iq1, L2.iqm, L2.hqb, L2.hqo, L2.hq3, L2.iqD, L2.sub_list_list, L2.gqA, L2.gqt, L2.hql, L2.hqt, L2.gqw, L2.sub_tuple_tuple, L2.nqG, L2.oqM, L2.mqs, L2.oqf, L2.nqI, L2.cx_K, L2.pqz, L2.pqc, L2.pqi, L2.kqy, L2.pqh, L2.pqX, L2.qqd, L2.qqw, L2.pqy, L2.kqO, L2.qqN, L2.qqL, L2.qqD, L2.mqR, L2.mqA, L2.nqN, L2.mqC, Option.getD_some, L2.qqx, L2.qqG, L2.rd_U, L2.qqg, L2.nqA, L2.mqm, L2.nqO, L2.kqu, L2.oq6, L2.pq2, L2.qqk, L2.nqF, L2.nq8, L2.nqQ, L2.oqd, List.getElem?_cons_zero, List.getElem?_cons_succ, List.set_cons_zero, List.set_cons_succ, List.nil_append, List.cons_append, List.append_nil, Option.some.injEq, exists_eq_left, exists_eq_left', true_and, and_true, L2.V.bl.injEq, L2.V.int.injEq, L2.V.str.injEq, L2.V.ref.injEq, List.cons.injEq, reduceCtorEq, false_and, and_false, exists_false, false_or, or_false, decide_eq_true_eq, Bool.not_true, Bool.not_false, ↓reduceIte, if_true, if_false, not_true_eq_false, not_false_eq_true, decide_true, decide_false, Bool.false_eq_true, oqZ, L2.lqY, L2.nqZ, L2.mqG, L2.mq9, L2.qqq, pqN, L2.qqu, L2.mqe, L2.qqR, L2.oqK, L2.mqL, L2.mq5, L2.mqt, L2.qqO, L2.lqN, L2.oqq, L2.pqb, L2.jqG, L2.pqu, L2.pqP, L2.oqF, L2.qqb, L2.pqg, L2.pqO, L2.nq7, L2.oqv, L2.oqm, L2.oqa, L2.oqU, L2.lqR, L2.kqE, L2.lq7, L2.jq6, L2.mqK, L2.kqb, L2.kqi, L2.jqG, L2.lqo, L2.oqx, L2.jq0, L2.pqC, L2.oqi, L2.oqS, L2.kq5, L2.kq1, L2.qqc, L2.pqB, L2.lqw, L2.oq9, L2.lqs, L2.oqJ, L2.nqD, L2.oqj, L2.mq2, L2.oqE, L2.oqs, L2.oqh, pqV, mqU, iqg, eqd, oqA, oqG, nq4, List.drop_succ_cons, List.drop_zero, L2.mqB, L2.qqv, L2.pql, L2.pq8, Bool.not_eq_true', decide_eq_false_iff_not])
theorem jq7 : FnScope ["text", "signs"] ["text", "signs"] (defScope cq2) := ⟨rfl, rfl, rfl, by decide +kernel, rfl, by decide +kernel, by decide +kernel⟩
theorem lqQ : FnScope ["step"] ["step"] (defScope dqZ) := ⟨rfl, rfl, rfl, by decide +kernel, rfl, by decide +kernel, by decide +kernel⟩
theorem kqP : FnScope ["piece"] ["piece"] (defScope dq0) := ⟨rfl, rfl, rfl, by decide +kernel, rfl, by decide +kernel, by decide +kernel⟩
theorem jq3 : FnScope ["gap"] ["gap"] (defScope cq5) := ⟨rfl, rfl, rfl, by decide +kernel, rfl, by decide +kernel, by decide +kernel⟩
theorem kql : FnScope ["piece"] ["piece"] (defScope cq1) := ⟨rfl, rfl, rfl, by decide +kernel, rfl, by decide +kernel, by decide +kernel⟩
theorem jqQ : FnScope ["piece"] ["piece"] (defScope cq4) := ⟨rfl, rfl, rfl, by decide +kernel, rfl, by decide +kernel, by decide +kernel⟩
theorem fqX : FnScope ["pattern", "pieces"] ["pattern"] (defScope cqm) := ⟨rfl, rfl, rfl, by decide +kernel, rfl, by decide +kernel, by decide +kernel⟩
theorem fq4 : FnScope ["_law_script", "_law_k"] ["_law_script", "_law_k"] (defScope aq2) := ⟨rfl, rfl, rfl, by decide +kernel, rfl, by decide +kernel, by decide +kernel⟩
theorem aqC : FnScope ["_law_cell", "_law_many", "_law_letters", "_law_size", "_law_at", "_law_names_here", "_law_k", "_law_name", "_law_j", "_law_step_here"] ["_law_cell", "_law_many"] (defScope bqr) := ⟨rfl, rfl, rfl, by decide +kernel, rfl, by decide +kernel, by decide +kernel⟩
theorem eqQ : FnScope ["_law_some"] [] (defScope bqo) := ⟨rfl, rfl, rfl, by decide +kernel, rfl, by decide +kernel, by decide +kernel⟩
theorem bqm : FnScope ["_law_piece_here", "_law_step_here", "_law_far", "_law_pool"] ["_law_piece_here", "_law_step_here"] (defScope aqK) := ⟨rfl, rfl, rfl, by decide +kernel, rfl, by decide +kernel, by decide +kernel⟩
theorem fqY : FnScope ["_law_piece_here"] ["_law_piece_here"] (defScope aq3) := ⟨rfl, rfl, rfl, by decide +kernel, rfl, by decide +kernel, by decide +kernel⟩
theorem eqH : FnScope ["_law_found", "_law_due_here", "_law_pair"] ["_law_found", "_law_due_here"] (defScope bqv) := ⟨rfl, rfl, rfl, by decide +kernel, rfl, by decide +kernel, by decide +kernel⟩
theorem bqM : FnScope ["_law_pattern_here", "_law_found", "_law_piece_here", "_law_place"] ["_law_pattern_here"] (defScope bqd) := ⟨rfl, rfl, rfl, by decide +kernel, rfl, by decide +kernel, by decide +kernel⟩
theorem gql : FnScope ["pattern", "count", "pieces", "more"] ["pattern", "count"] (defScope dq7) := ⟨rfl, rfl, rfl, by decide +kernel, rfl, by decide +kernel, by decide +kernel⟩
theorem dqE : FnScope ["part", "step", "head", "tail"] ["part", "step"] (defScope bqK) := ⟨rfl, rfl, rfl, by decide +kernel, rfl, by decide +kernel, by decide +kernel⟩
theorem hqR : FnScope ["text"] ["text"] (defScope bqD) := ⟨rfl, rfl, rfl, by decide +kernel, rfl, by decide +kernel, by decide +kernel⟩
theorem kqe : FnScope ["text"] ["text"] (defScope cq3) := ⟨rfl, rfl, rfl, by decide +kernel, rfl, by decide +kernel, by decide +kernel⟩
theorem gqx : FnScope ["gap", "steps"] ["gap", "steps"] (defScope aq9) := ⟨rfl, rfl, rfl, by decide +kernel, rfl, by decide +kernel, by decide +kernel⟩
theorem fqP : FnScope ["piece", "head"] ["piece"] (defScope cqo) := ⟨rfl, rfl, rfl, by decide +kernel, rfl, by decide +kernel, by decide +kernel⟩
theorem bqR : FnScope ["_law_cell", "_law_pool", "_law_text_here", "_law_k"] ["_law_cell"] (defScope bqF) := ⟨rfl, rfl, rfl, by decide +kernel, rfl, by decide +kernel, by decide +kernel⟩
theorem aqB : FnScope ["_law_pattern_here", "_law_way", "_law_pieces", "_law_ends", "_law_rooted", "_law_steps_here", "_law_ended", "_law_rest", "_law_found", "_law_k", "_law_step_here", "_law_piece_here", "_law_value"] ["_law_pattern_here", "_law_way"] (defScope bqq) := ⟨rfl, rfl, rfl, by decide +kernel, rfl, by decide +kernel, by decide +kernel⟩
theorem iqf : FnScope ["piece", "step"] ["piece", "step"] (defScope bqH) := ⟨rfl, rfl, rfl, by decide +kernel, rfl, by decide +kernel, by decide +kernel⟩
theorem dqi : FnScope ["one", "other", "mine", "theirs"] ["one", "other"] (defScope bqt) := ⟨rfl, rfl, rfl, by decide +kernel, rfl, by decide +kernel, by decide +kernel⟩
theorem dqH : FnScope ["_law_cell", "_law_text_here"] ["_law_cell"] (defScope bqJ) := ⟨rfl, rfl, rfl, by decide +kernel, rfl, by decide +kernel, by decide +kernel⟩
theorem aq7 : FnScope ["_law_table_here", "_law_way", "_law_found", "_law_most", "_law_name", "_law_pattern_here", "_law_values"] ["_law_table_here", "_law_way"] (defScope cqn) := ⟨rfl, rfl, rfl, by decide +kernel, rfl, by decide +kernel, by decide +kernel⟩
theorem iqR : FnScope ["pattern", "way", "steps", "pieces"] ["pattern", "way"] (defScope gqP) := ⟨rfl, rfl, rfl, by decide +kernel, rfl, by decide +kernel, by decide +kernel⟩
theorem bq6 : FnScope ["entries", "best", "entry"] ["entries"] (defScope bqp) := ⟨rfl, rfl, rfl, by decide +kernel, rfl, by decide +kernel, by decide +kernel⟩
theorem bq4 : FnScope ["_law_cell", "_law_name", "_law_head", "_law_tail"] ["_law_cell", "_law_name"] (defScope bqy) := ⟨rfl, rfl, rfl, by decide +kernel, rfl, by decide +kernel, by decide +kernel⟩
theorem cq6 : FnScope ["_law_piece_here", "_law_cell", "_law_text_here"] ["_law_piece_here", "_law_cell"] (defScope aqT) := ⟨rfl, rfl, rfl, by decide +kernel, rfl, by decide +kernel, by decide +kernel⟩
theorem fqD : FnScope ["pattern", "way", "values", "place", "piece"] ["pattern", "way"] (defScope eqY) := ⟨rfl, rfl, rfl, by decide +kernel, rfl, by decide +kernel, by decide +kernel⟩
theorem bq2 : FnScope ["_law_cell", "_law_names_here", "_law_many", "_law_pieces", "_law_k"] ["_law_cell", "_law_names_here"] (defScope bqn) := ⟨rfl, rfl, rfl, by decide +kernel, rfl, by decide +kernel, by decide +kernel⟩
theorem bqc : FnScope ["_law_pattern_here", "_law_cells", "_law_found", "_law_k", "_law_piece_here", "_law_cell", "_law_j"] ["_law_pattern_here", "_law_cells"] (defScope bqs) := ⟨rfl, rfl, rfl, by decide +kernel, rfl, by decide +kernel, by decide +kernel⟩
theorem jqd : FnScope ["table", "way", "entries", "best"] ["table", "way"] (defScope gqE) := ⟨rfl, rfl, rfl, by decide +kernel, rfl, by decide +kernel, by decide +kernel⟩
theorem aqG : FnScope ["_law_script", "_law_names_here", "_law_labels", "_law_first", "_law_many", "_law_table_here", "_law_k", "_law_cell", "_law_pattern_here", "_law_pieces", "_law_ends", "_law_at"] ["_law_script", "_law_names_here", "_law_labels", "_law_first", "_law_many"] (defScope bqw) := ⟨rfl, rfl, rfl, by decide +kernel, rfl, by decide +kernel, by decide +kernel⟩
theorem bq8 : FnScope ["_law_table_here", "_law_way", "_law_due_here", "_law_k", "_law_found"] ["_law_table_here", "_law_way"] (defScope bqx) := ⟨rfl, rfl, rfl, by decide +kernel, rfl, by decide +kernel, by decide +kernel⟩
theorem aqF : FnScope ["_law_table_here", "_law_cells", "_law_k", "_law_cell", "_law_pattern_here", "_law_steps_here"] ["_law_table_here", "_law_cells"] (defScope aqU) := ⟨rfl, rfl, rfl, by decide +kernel, rfl, by decide +kernel, by decide +kernel⟩
theorem gqb : FnScope ["_law_script", "_law_many", "_law_labels", "_law_table_here", "_law_kept", "_law_cells", "_law_pattern_here"] ["_law_script"] (defScope jqY) := ⟨rfl, rfl, rfl, by decide +kernel, rfl, by decide +kernel, by decide +kernel⟩
theorem gqR (g : G w K mg) : FnOk P w K mg base CX0 1 g.eqP g.dqY ["text", "signs"] jqW := by
 refine g.eqp.ok jq7 (fun vs H Q E h => ?_) (fun cdv A outer s H vs Q E hr h => ?_)
 ·obtain ⟨x, y, rfl, _⟩ := h; rfl
 ·obtain ⟨x, y, rfl, hx, k⟩ := h
  refine ⟨_, (aqf (aqr (aql (iqA (K := K) rfl rfl) rfl g.nq0 PyProof.Rows.boot_all (aqa (kqm (fx := ["signs"]) (fr := [1]) rfl rfl (by decide +kernel) rfl (by decide +kernel) rfl (by decide +kernel) rfl (.cons rfl rfl rfl rfl .nil) rfl (nqm (pv 0)) (fun _ _ _ => nqs) (fun _ _ _ => (aq0 pqJ (pv 0) (pv 1) (by with_unfolding_all rfl)))) aqb)))), ?_⟩
  walk_at "rd"
  intro p hp
  refine mql (z := x) (aqu hx) hp (fun c => .bl (decide (c ∈ y.cps.toList))) (fun c hc H' R hR => ?_) (fun H' sm hp' => ?_)
  ·walk_at "rd"
   exact hR H' (Same.refl _)
  ·refine kqu.mpr ⟨x.cps.toList.map fun c => decide (c ∈ y.cps.toList), SqL.of (by rw [hp', List.map_map]; rfl), ?_⟩
   rw [List.all_map]
   exact k H' sm
theorem lqB (g : G w K mg) : FnOk P w K mg base CX0 1 g.fqF g.eqr ["step"] lqk := by
 refine g.hqG.ok lqQ (fun vs H Q E h => ?_) (fun cdv A outer s H vs Q E hr h => ?_)
 ·obtain ⟨s, rfl, _⟩ := h; rfl
 ·obtain ⟨s, rfl, k⟩ := h
  refine ⟨_, (aqf (aqr (lqW (aq0 aqW (pv 0) (aqY (v := qqz) rfl g.nqh ⟨_, rfl⟩) (nomark _)) (fqn (aq0 aqW (pv 0) (aqY (v := k_UP) rfl g.c_UP ⟨_, rfl⟩) (nomark _)))))), ?_⟩
  have d1 : Str.ofString ".." = ⟨sUp.toArray⟩ := by decide +kernel
  have d2 : Str.ofString "." = ⟨sStay.toArray⟩ := by decide +kernel
  walk_at "rd"
  rw [d1, d2]
  simp only [dqw]
  by_cases h2 : s = sStay
  ·rw [if_pos h2]
   rw [show isDot s = true by simp [isDot, h2]] at k
   exact k
  ·rw [if_neg h2]
   rw [show isDot s = decide (s = sUp) by simp [isDot, h2]] at k
   exact k
theorem kqJ (g : G w K mg) : FnOk P w K mg base CX0 1 g.fqy g.eqt ["piece"] (lqe K) := by
 refine g.gqZ.ok kqP (fun vs H Q E h => ?_) (fun cdv A outer s H vs Q E hr h => ?_)
 ·obtain ⟨c, p, rfl, _⟩ := h; rfl
 ·obtain ⟨c, p, rfl, hp, k⟩ := h
  refine ⟨_, (aqf (aqr (aq0 eqR (aqo (aqe (K := K) rfl) (pv 0) aqc (fun _ _ => rfl)) aqp (nomark _)))), ?_⟩
  walk_at "rd"
  refine ⟨_, _, .inr hp, c.at0, ?_⟩
  refine L2.eqo.mpr ?_
  rw [gqh]
  exact k
theorem jq1 (g : G w K mg) : FnOk P w K mg base CX0 1 g.eqE g.dqV ["gap"] (kqh K) := by
 refine g.fq9.ok jq3 (fun vs H Q E h => ?_) (fun cdv A outer s H vs Q E hr h => ?_)
 ·obtain ⟨c, p, rfl, _⟩ := h; rfl
 ·obtain ⟨c, p, rfl, hp, hc, k⟩ := h
  refine ⟨_, (aqf (aqr (cqC (aqj aqW (aqo (aqe (K := K) rfl) (pv 0) aqc (fun _ _ => rfl)) aqp (nomark _)) (aqo (aqe (K := K) rfl) (pv 0) aqc (fun _ _ => rfl)) (aqo (aqe (K := K) rfl) (pv 0) aqc (fun _ _ => rfl))))), ?_⟩
  walk_at "rd"
  refine ⟨_, _, .inr hp, c.at0, ?_⟩
  refine L2.aqv.mpr ⟨_, rfl, ?_⟩
  rw [cqq]
  cases c with
  | step s => cases hc
  | part h n t => exact ite2 (fun _ => ⟨_, _, .inr hp, aqi (j := 2) rfl, k⟩) (fun z => absurd rfl z)
  | num n => exact ite2 (fun z => by cases z) (fun _ => ⟨_, _, .inr hp, aqi (j := 1) rfl, k⟩)
  | word n => exact ite2 (fun z => by cases z) (fun _ => ⟨_, _, .inr hp, aqi (j := 1) rfl, k⟩)
  | gap n => exact ite2 (fun z => by cases z) (fun _ => ⟨_, _, .inr hp, aqi (j := 1) rfl, k⟩)
  | rest n => exact ite2 (fun z => by cases z) (fun _ => ⟨_, _, .inr hp, aqi (j := 1) rfl, k⟩)
theorem eqT (g : G w K mg) : FnOk P w K mg base CX0 1 g.eqC g.dq3 ["piece"] (gqS K) := by
 refine g.dqI.ok kql (fun vs H Q E h => ?_) (fun cdv A outer s H vs Q E hr h => ?_)
 ·obtain ⟨c, p, rfl, _⟩ := h; rfl
 ·obtain ⟨c, p, rfl, hp, k⟩ := h
  refine ⟨_, (aqf (aqr (cqC (aqj aqW (aqo (aqe (K := K) rfl) (pv 0) aqc (fun _ _ => rfl)) aqp (nomark _)) (aqo (aqe (K := K) rfl) (pv 0) aqc (fun _ _ => rfl)) aqp))), ?_⟩
  walk_at "rd"
  refine ⟨_, _, .inr hp, c.at0, ?_⟩
  refine L2.aqv.mpr ⟨_, rfl, ?_⟩
  rw [cqq]
  cases c with
  | part h n t => exact ite2 (fun _ => ⟨_, _, .inr hp, aqi (j := 1) rfl, k⟩) (fun z => absurd rfl z)
  | _ => exact ite2 (fun z => by cases z) (fun _ => k)
theorem eqS (g : G w K mg) : FnOk P w K mg base CX0 1 g.eqz g.dqW ["piece"] (gqI K) := by
 refine g.dqG.ok jqQ (fun vs H Q E h => ?_) (fun cdv A outer s H vs Q E hr h => ?_)
 ·obtain ⟨c, p, rfl, _⟩ := h; rfl
 ·obtain ⟨c, p, rfl, hp, k⟩ := h
  refine ⟨_, (aqf (aqr (cqC (aqj aqW (aqo (aqe (K := K) rfl) (pv 0) aqc (fun _ _ => rfl)) aqp (nomark _)) (aqo (aqe (K := K) rfl) (pv 0) aqc (fun _ _ => rfl)) aqp))), ?_⟩
  walk_at "rd"
  refine ⟨_, _, .inr hp, c.at0, ?_⟩
  refine L2.aqv.mpr ⟨_, rfl, ?_⟩
  rw [cqq]
  cases c with
  | part h n t => exact ite2 (fun _ => ⟨_, _, .inr hp, aqi (j := 3) rfl, k⟩) (fun z => absurd rfl z)
  | _ => exact ite2 (fun z => by cases z) (fun _ => k)
theorem iqO (g : G w K mg) : FnOk P w K mg base CX0 1 g.dq1 g.dqc ["pattern"] (iqW K) := by
 refine g.eq0.ok fqX (fun vs H Q E h => ?_) (fun cdv A outer s H vs Q E hr h => ?_)
 ·obtain ⟨cs, xs, p, q, e, rfl, _⟩ := h; rfl
 ·obtain ⟨cs, xs, p, q, e, rfl, hp, hq, hx, hn, k⟩ := h
  refine ⟨_, (aqd (aqt (i := 1) fqX.nd rfl (Or.inl rfl) (aqo (aqe (K := K) rfl) (pv 0) (aqY (v := dqn) rfl g.cqR ⟨_, rfl⟩) (fun _ _ => rfl)))
   (aqf (aqr (iqe (aq0 lq0 (aql (aqk (K := K) rfl) rfl g.aqS PySem.boot_len (aqa (pv 1) aqb)) aqc (nomark _)) (fqn (aq0 aqW (aqo (aqe (K := K) rfl) (aqo (aqe (K := K) rfl) (pv 1) (kqa gqJ aqc) (fun _ _ => rfl)) aqc (fun _ _ => rfl)) aqp (nomark _))))))), ?_⟩
  walk_at "rd"
  refine ⟨_, _, .inr hp, aqi (j := 0) rfl, ?_⟩
  walk_at "rd"
  refine ⟨xs, .inr hq, ?_⟩
  have hl := hx.length
  by_cases h0 : cs = []
  ·subst h0
   refine ite2 (fun z => ?_) (fun _ => k)
   rw [hl] at z
   simp at z
  obtain ⟨c, hc⟩ : ∃ c, cs.getLast? = some c := ⟨_, List.getLast?_eq_some_getLast h0⟩
  have hr : hasRest cs = c.isRest := by unfold hasRest; rw [hc]
  obtain ⟨v, hv, pc, rfl, hpc⟩ := hx.last hc
  refine ite2 (fun _ => ?_) (fun z => absurd (show (0 : Int) < (xs.length : Int) by rw [hl]; have := List.length_pos_iff.mpr h0; omega) z)
  refine ⟨_, _, .inr hq, hv, ?_⟩
  walk_at "rd"
  refine ⟨_, _, .inr hpc, c.at0, ?_⟩
  refine L2.aqv.mpr ?_
  rw [eq3, ← hr]
  exact k
theorem aqP (g : G w K mg) : FnOk P w K mg base CX0 1 g.bqP g.bqB ["_law_script", "_law_k"] (gqa K) := by
 refine g.aqI.ok fq4 (fun vs H Q E h => ?_) (fun cdv A outer s H vs Q E hr h => ?_)
 ·obtain ⟨a, ns, k, rfl, _⟩ := h; rfl
 ·obtain ⟨a, ns, i, rfl, hS, k⟩ := h
  refine ⟨_, (aqd (aqJ (aqj iq0 (pv 1) (aql (aqk (K := K) rfl) rfl g.aqS PySem.boot_len (aqa (pv 0) aqb)) (nomark _))
    (aqf (aqr (aqo (aqe (K := K) rfl) (pv 0) (pv 1) (fun _ _ => rfl)))) aqs)
   (aqf (aqr aqc))), ?_⟩
  walk_at "rd"
  refine ⟨ns.map V.int, .inl hS, ite2 (fun h => ?_) (fun h => ?_)⟩
  ·rw [List.length_map] at h
   exact ⟨ns.map V.int, _, .inl hS, oqe (by omega), k⟩
  ·rw [List.length_map] at h
   rw [List.getD_eq_getElem?_getD, List.getElem?_eq_none (by omega)] at k
   exact k
theorem dqj (g : G w K mg) : FnOk P w K mg base CX0 1 g.cqQ g.bq3 ["_law_cell", "_law_many"] (gq1 K) := by
 refine g.bqT.ok aqC (fun vs H Q E h => ?_) (fun cdv A outer s H vs Q E hr h => ?_)
 ·obtain ⟨c, m, rfl, _⟩ := h; rfl
 ·obtain ⟨c, m, rfl, hm, k⟩ := h
  refine ⟨_, (aqd (aqt (i := 2) aqC.nd rfl (Or.inl rfl) aqp)
   (aqd (aqt (i := 3) aqC.nd rfl (Or.inl rfl) (aqn (aqA (K := K)) aqc (aqn aqR (pv 0) aqc)))
   (aqd (aqt (i := 4) aqC.nd rfl (Or.inl rfl) (aqn aqR (aqn aqy (pv 0) aqc) (pv 3)))
   (aqd (aqt (i := 5) aqC.nd rfl (Or.inl rfl) (aqD aqb))
   (aqd (bq1 PassesOwn.never rfl (cqp rfl g.dqU (aqa (pv 1) aqb)) (aqz (i := 6) aqC.nd rfl (Or.inl rfl))
   (aqd (aqt (i := 7) aqC.nd rfl (Or.inl rfl) aqp)
   (aqQ (bq1 PassesOwn.never rfl (cqp rfl g.dqU (aqa (pv 3) aqb)) (aqz (i := 8) aqC.nd rfl (Or.inl rfl))
   (aqd (aqt (i := 9) aqC.nd rfl (Or.inl rfl) (aqn (aqA (K := K)) (aqn aqy (pv 0) (aqn (aqA (K := K)) aqc (aqn dqe aqc (pv 8)))) (aqn dqe (aqn dqe aqc (pv 8)) (pv 8))))
   (aqQ (aqJ (aqj aqW (pv 8) (pv 4) (nomark _))
    (aqf (aqt (i := 9) aqC.nd rfl (Or.inl rfl) (aqn (aqA (K := K)) (pv 9) (pv 6)))) aqs)
   (aqf (aqt (i := 7) aqC.nd rfl (Or.inl rfl) (aqn (aqA (K := K)) (pv 7) (aqo (aqe (K := K) rfl) (pv 2) (aqn aqR (pv 9) aqc) (fun _ _ => rfl))))))))
   (aqQ (aqJ (PW.pt (dqx (aqj aqW (aqn aqR (aqn aqy (pv 0) aqc) aqc) aqc (nomark _)) (cqw (aqj aqW (aqn aqR (pv 6) aqc) aqc (nomark _)))))
    (aqf (aqt (i := 7) aqC.nd rfl (Or.inl rfl) (aqn (aqA (K := K)) (pv 7) (aqo (aqe (K := K) rfl) (pv 2) (aqn aqR (aqn aqy (pv 0) aqc) aqc) (fun _ _ => rfl))))) aqs)
   (aqf (bqX (cqt (K := K) rfl PySem.F.plainAttrs_list PySem.F.slot_list_append PySem.F.type_list_append aqV (pv 5) (aqa (pv 7) aqb))))))))
   (aqf (aqr (pv 5)))))))), ?_⟩
  have eL : Str.ofString "abcdefghijklmnopqrstuvwxyz" = ⟨smaL.toArray⟩ := by unfold smaL; simp
  rw [eL]
  walk_at "rd"
  refine ⟨by decide, ⟨by decide, by decide⟩, by omega, by decide, fun p H1 n1 s1 e1 => ⟨by omega, by omega, ?_⟩⟩
  rw [Int.toNat_natCast]
  obtain ⟨sz, hsz, hs1, hs7⟩ : ∃ sz : Nat, 1 + c % 7 = (sz : Int) ∧ 1 ≤ sz ∧ sz ≤ 7 := ⟨(1 + c % 7).toNat, by omega, by omega, by omega⟩
  rw [hsz]
  obtain ⟨at_, ha, hat⟩ : ∃ a : Nat, c / 7 % (sz : Int) = (a : Int) ∧ a < sz := by
   have h1 := Int.emod_nonneg (c / 7) (show (sz : Int) ≠ 0 by omega)
   have h2 := Int.emod_lt_of_pos (c / 7) (show 0 < (sz : Int) by omega)
   exact ⟨(c / 7 % (sz : Int)).toNat, by omega, by omega⟩
  rw [ha]
  obtain ⟨X, hX⟩ : ∃ X : Int, X = c / (49 + 11 * (at_ : Int)) + 3 * (at_ : Int) * (at_ : Int) := ⟨_, rfl⟩
  refine bqG (fun i σ H' => ∃ (ns : List (List Nat)) (v6 v7 v8 v9 : Option V), σ = [some (.int c), some (.int (m : Int)), some (tV smaL), some (.int (sz : Int)), some (.int (at_ : Int)), some (.ref p), v6, v7, v8, v9] ∧ ns.length = i ∧ (∀ n ∈ ns, 0 < n.length ∧ n.length ≤ 8 ∧ n.all isSma = true) ∧ (∀ (k : Nat) (n : List Nat), ns[k]? = some n → NmAt X at_ k n) ∧ Same H H' ∧ H' p = some (.lst (ns.map tV))) ⟨[], none, none, none, none, rfl, rfl, by simp, (fun k n h => by cases h), s1, e1⟩ ?_ ?_
  ·rintro i σ H2 hi ⟨ns, v6, v7, v8, v9, rfl, hl, hns, hnm, s2, e2⟩
   walk_at "rd"
   refine ⟨fun σ H3 => H3 = H2 ∧ ∃ (l : List Nat) (v8 v9 : Option V), l.length = sz ∧ NmAt X at_ i l ∧ l.all isSma = true ∧ σ = [some (.int c), some (.int (m : Int)), some (tV smaL), some (.int (sz : Int)), some (.int (at_ : Int)), some (.ref p), some (.int (0 + (i : Int))), some (tV l), v8, v9], ?_, ?_⟩
   ·refine ⟨by omega, by omega, ?_⟩
    rw [Int.toNat_natCast]
    refine bqG (fun j σ H3 => H3 = H2 ∧ ∃ (l : List Nat) (v8 v9 : Option V), l.length = j ∧ (at_ < j → NmAt X at_ i l) ∧ l.all isSma = true ∧ σ = [some (.int c), some (.int (m : Int)), some (tV smaL), some (.int (sz : Int)), some (.int (at_ : Int)), some (.ref p), some (.int (0 + (i : Int))), some (tV l), v8, v9]) ⟨rfl, [], _, _, rfl, (fun z => absurd z (by omega)), rfl, rfl⟩ ?_ (fun σ H3 ⟨h1, l, v8, v9, h2, h3, h4, h5⟩ => ⟨h1, l, v8, v9, h2, h3 hat, h4, h5⟩)
    rintro j σ H3 hj ⟨rfl, l, v8, v9, hll, hln, hla, rfl⟩
    walk_at "rd"
    refine ⟨.inl ⟨by decide, by decide⟩, ⟨by omega, by omega⟩, .inl ⟨by decide, by decide⟩, .inr ⟨by omega, by omega⟩, ?_⟩
    refine ⟨fun σ H4 => H4 = H3 ∧ ∃ x : Int, (j = at_ → x = X + (i : Int)) ∧ σ = [some (.int c), some (.int (m : Int)), some (tV smaL), some (.int (sz : Int)), some (.int (at_ : Int)), some (.ref p), some (.int (0 + (i : Int))), some (tV l), some (.int (0 + (j : Int))), some (.int x)], ?_, ?_⟩
    ·refine ite2 (fun z => ⟨rfl, _, fun e => ?_, rfl⟩) (fun z => ⟨rfl, _, fun e => absurd (by rw [e]; omega) z, rfl⟩)
     rw [hX, e, Int.zero_add, Int.zero_add]
    rintro σ H4 ⟨rfl, x, hx, rfl⟩
    obtain ⟨d, hd, hds⟩ := nqt x
    walk_at "rd"
    refine ⟨by decide, d, by decide +kernel, hd, aqu (by omega), l ++ [d], _, _, by rw [List.length_append, List.length_singleton, hll], fun z => ?_, by rw [List.all_append, hla]; simp [hds], rfl, rfl, rfl⟩
    by_cases ej : j = at_
    ·rw [hx ej] at hd
     exact ⟨d, by rw [List.getElem?_append_right (by omega), hll, ej, Nat.sub_self]; rfl, hd⟩
    ·exact (hln (by omega)).app
   rintro σ H3 ⟨rfl, l, v8, v9, hll, hln, hla, rfl⟩
   walk_at "rd"
   refine ⟨fun σ H4 => H4 = H3 ∧ ∃ (l : List Nat), (0 < l.length ∧ l.length ≤ 8 ∧ l.all isSma = true) ∧ NmAt X at_ i l ∧ σ = [some (.int c), some (.int (m : Int)), some (tV smaL), some (.int (sz : Int)), some (.int (at_ : Int)), some (.ref p), some (.int (0 + (i : Int))), some (tV l), v8, v9], ?_, ?_⟩
   ·have stay : H3 = H3 ∧ ∃ (l' : List Nat), (0 < l'.length ∧ l'.length ≤ 8 ∧ l'.all isSma = true) ∧ NmAt X at_ i l' ∧ [some (V.int c), some (.int (m : Int)), some (tV smaL), some (.int (sz : Int)), some (.int (at_ : Int)), some (.ref p), some (.int (0 + (i : Int))), some (tV l), v8, v9] = [some (V.int c), some (.int (m : Int)), some (tV smaL), some (.int (sz : Int)), some (.int (at_ : Int)), some (.ref p), some (.int (0 + (i : Int))), some (tV l'), v8, v9] := ⟨rfl, l, ⟨by omega, by omega, hla⟩, hln, rfl⟩
    refine ⟨⟨by decide, by decide⟩, by decide, ite2 (fun _ => ⟨by decide, ite2 (fun _ => ?_) (fun _ => stay)⟩) (fun _ => stay)⟩
    obtain ⟨d, hd, hds⟩ := nqt (c / 686)
    refine ⟨⟨by decide, by decide⟩, by decide, d, by decide +kernel, hd, aqu (by omega), rfl, l ++ [d], ⟨by rw [List.length_append, List.length_singleton]; omega, by rw [List.length_append, List.length_singleton]; omega, by rw [List.all_append, hla]; simp [hds]⟩, hln.app, ?_⟩
    simp
   rintro σ H4 ⟨rfl, l2, hl2, hn2, rfl⟩
   walk_at "rd"
   refine ⟨⟨_, .of e2⟩, _, e2, by rw [List.length_map]; exact Nat.lt_of_le_of_lt (show ns.length ≤ 26 by omega) (by decide), ns ++ [l2], _, _, _, _, ⟨rfl, rfl, rfl, rfl⟩, by rw [List.length_append, List.length_singleton, hl], fun n hn => ?_, fun k n hk => ?_, bqg n1 s2, by rw [aqq, List.map_append]; rfl⟩
   rcases List.mem_append.mp hn with z | z
   ·exact hns n z
   ·rw [List.mem_singleton.mp z]; exact hl2
   ·by_cases hk2 : k < ns.length
    ·rw [List.getElem?_append_left hk2] at hk
     exact hnm k n hk
    ·rw [List.getElem?_append_right (by omega)] at hk
     have hk3 : k - ns.length = 0 := by
      cases hh : k - ns.length with
      | zero => rfl
      | succ z => rw [hh] at hk; cases hk
     rw [hk3] at hk
     cases hk
     rw [show k = i by omega]
     exact hn2
  ·rintro σ H2 ⟨ns, v6, v7, v8, v9, rfl, hl, hns, hnm, s2, e2⟩
   walk_at "rd"
   exact k ns p H2 hl hns (mqV hnm (by omega)) s2 e2
theorem hqk (g : G w K mg) : FnOk P w K mg base CX0 1 g.cqD g.bq7 [] eqF := by
 refine g.dqF.ok eqQ (fun vs H Q E h => ?_) (fun cdv A outer s H vs Q E hr h => ?_)
 ·obtain ⟨rfl, _⟩ := h; rfl
 ·obtain ⟨rfl, k⟩ := h
  refine ⟨_, (aqd (aqt (i := 0) eqQ.nd rfl (Or.inl rfl) aqp)
   (aqf (aqr (aqn (lqF (K := K) rfl) (pv 0) aqp)))), ?_⟩
  walk_at "rd"
  rw [show Str.ofString " !\"#$&'()*+,-./0123456789:;<=>?@ABCDEFGHIJKLMNOPQRSTUVWXYZ" ++ Str.ofString "[\\]^_`abcdefghijklmnopqrstuvwxyz{|}~" = ⟨SG.toArray⟩ by decide +kernel]
  exact ⟨by decide +kernel, k⟩
theorem eqn (g : G w K mg) : FnOk P w K mg base CX0 1 g.aq4 g.aqX ["_law_piece_here", "_law_step_here"] (eqi K) := by
 refine g.bqA.ok bqm (fun vs H Q E h => ?_) (fun cdv A outer s H vs Q E hr h => ?_)
 ·obtain ⟨c, p, s, rfl, _⟩ := h; rfl
 ·obtain ⟨c, p, s, rfl, hp, ok, h0, hl, hs, k0, k⟩ := h
  refine ⟨_, (aqd (aqJ (aqj (eqW (K := K) rfl) (pv 1) (aqM (aqa aqp (aqa aqp aqb))) (by with_unfolding_all rfl))
    (aqf (aqr bq0)) aqs)
   (aqd (aqJ (aqj aqW (aqo (aqe (K := K) rfl) (pv 0) aqc (fun _ _ => rfl)) aqp (nomark _))
    (aqf (aqr (cqC (aqj aqW (pv 1) (aqo (aqe (K := K) rfl) (pv 0) aqc (fun _ _ => rfl)) (nomark _)) (aqD (aqa (pv 1) aqb)) bq0))) aqs)
   (aqd (aqJ (aqj aqW (aqo (aqe (K := K) rfl) (pv 0) aqc (fun _ _ => rfl)) aqp (nomark _))
    (aqd (aqt (i := 2) bqm.nd rfl (Or.inl rfl) (aqn gqX (aql (aqk (K := K) rfl) rfl g.aqS PySem.boot_len (aqa (pv 1) aqb)) (aql (aqk (K := K) rfl) rfl g.aqS PySem.boot_len (aqa (aqo (aqe (K := K) rfl) (pv 0) aqc (fun _ _ => rfl)) aqb))))
   (aqd (aqJ (PW.pt (dq9 (aqj lqz (pv 2) (aql (aqk (K := K) rfl) rfl g.aqS PySem.boot_len (aqa (aqo (aqe (K := K) rfl) (pv 0) aqc (fun _ _ => rfl)) aqb)) (nomark _)) (dq9 (aqj eqR (bql (hqL (K := K) rfl) (pv 1) dqM (bqe (aql (aqk (K := K) rfl) rfl g.aqS PySem.boot_len (aqa (aqo (aqe (K := K) rfl) (pv 0) aqc (fun _ _ => rfl)) aqb)))) (aqo (aqe (K := K) rfl) (pv 0) aqc (fun _ _ => rfl)) (nomark _)) (eqa (aqj eqR (bql (hqL (K := K) rfl) (pv 1) (bqe (pv 2)) dqM) (aqo (aqe (K := K) rfl) (pv 0) aqc (fun _ _ => rfl)) (nomark _))))))
    (aqf (aqr bq0)) aqs)
   (aqf (aqr (aqD (aqa (bql (hqL (K := K) rfl) (pv 1) (bqe (aql (aqk (K := K) rfl) rfl g.aqS PySem.boot_len (aqa (aqo (aqe (K := K) rfl) (pv 0) aqc (fun _ _ => rfl)) aqb))) (bqe (pv 2))) aqb)))))) aqs)
   (aqd (aqt (i := 3) bqm.nd rfl (Or.inr rfl) (mqF hr.units1 (oqr (jqi aqp aqp (jqi aqp aqp oq5)) rfl rfl (by intro z; cases z) (by decide)) (aqo (aqe (K := K) rfl) (pv 0) aqc (fun _ _ => rfl)) (pv 1) ⟨rfl, rfl, rfl, rfl⟩))
   (aqd (aqJ (PW.pt (dq9 (aqj (fqe hr.units) (kqm (fx := ["_law_pool"]) (fr := [3]) rfl rfl (by decide +kernel) rfl (by decide +kernel) rfl (by decide +kernel) rfl (.cons rfl rfl rfl rfl .nil) rfl (nqm (pv 1)) (fun _ _ _ => (nqk (aqj kqt (pv 0) (pv 1) (by with_unfolding_all rfl)))) (fun _ _ _ => (pv 0))) (aqD aqb) (nomark _)) (eqa (PW.pt (dqx (aqj (eqW (K := K) rfl) (aqo (aqe (K := K) rfl) (pv 0) aqc (fun _ _ => rfl)) (aqM (aqa aqp (aqa aqp aqb))) (by with_unfolding_all rfl)) (cqw (aqj lq0 (aql (aqk (K := K) rfl) rfl g.aqS PySem.boot_len (aqa (pv 1) aqb)) aqc (nomark _))))))))
    (aqf (aqr bq0)) aqs)
   (aqd (aqJ (PW.pt (dqx (aqj aqW (aqo (aqe (K := K) rfl) (pv 0) aqc (fun _ _ => rfl)) aqp (nomark _)) (dqx (aqj aqW (aqo (aqe (K := K) rfl) (pv 1) aqc (fun _ _ => rfl)) aqp (nomark _)) (cqw (aqj eqR (pv 1) aqp (nomark _))))))
    (aqf (aqr bq0)) aqs)
   (aqf (aqr (cqC (aqj aqW (aqo (aqe (K := K) rfl) (pv 0) aqc (fun _ _ => rfl)) aqp (nomark _)) (aqD (aqa (bqQ iqs rfl g.mqE kqn (aqa (pv 1) aqb)) aqb)) (aqD (aqa (pv 1) aqb))))))))))), ?_⟩
  have d1 : Str.ofString ".." = ⟨sUp.toArray⟩ := by decide +kernel
  have d2 : Str.ofString "." = ⟨sStay.toArray⟩ := by decide +kernel
  rw [d1, d2]
  walk_at "rd"
  refine ⟨by decide, fun p1 H1 n1 s1 e1 => ?_⟩
  refine ⟨p1, _, rfl, .inr (.of e1), rfl, rfl, _, rfl, ?_⟩
  show if (if false then _ else inV (sV s) [sV sStay, sV sUp]) = true then _ else _
  rw [if_neg (show ¬ false = true by decide), lqG]
  refine ite2 (fun hd => k0 (by unfold fitsM; rw [hd]; rfl) H1 s1) (fun hd => ?_)
  have nd : isDot s = false := (Bool.not_eq_true _).mp hd
  have hp1 := s1.tup hp
  have new : ∀ {H2 : Hp}, Same H1 H2 → fitsM c s = true → pvV c s = tV s → 1 ≤ sizeLine ∧ ∀ (p : Addr) (H' : Hp), H2 p = none → Same H2 H' → H' p = some (HO.lst [tV s]) → Q (V.ref p) H' := fun {H2} s2 hf hv => ⟨by decide, fun p3 H3 n3 s3 e3 => k hf p3 H3 (bqS (s1.trans s2) n3) ((s1.trans s2).trans s3) (by rw [hv]; exact e3)⟩
  refine ⟨_, _, .inr hp1, c.at0, aqv.mpr ⟨_, rfl, ?_⟩⟩
  rw [gqh]
  refine ite2 (fun h1 => ?_) (fun h1 => ⟨_, _, .inr hp1, c.at0, aqv.mpr ⟨_, rfl, ?_⟩⟩)
  ·cases c with
   | step w =>
    refine ⟨_, _, .inr hp1, aqi (j := 1) rfl, aqv.mpr ⟨_, rfl, ?_⟩⟩
    have ef : fitsM (.step w) s = decide ((⟨s.toArray⟩ : Str) = ⟨w.toArray⟩) := by
     show (!isDot s && decide (s = w)) = _
     rw [nd]
     exact decide_eq_decide.mpr dqw.symm
    exact ite2 (fun z => new (Same.refl _) (by rw [ef]; exact z) rfl) (fun z => k0 (by rw [ef]; exact (Bool.not_eq_true _).mp z) H1 s1)
   | _ => cases h1
  rw [cqq]
  refine ite2 (fun h2 => ?_) (fun h2 => ?_)
  ·cases c with
   | part h n t =>
    obtain ⟨o1, o2, o3, o4, o5⟩ := ok
    have ef : fitsM (.part h n t) s = partB h t s := by show (!isDot s && partB h t s) = _; rw [nd]; rfl
    have kp : partB h t s = (decide (s.take h.length = h) && (decide (s.drop (s.length - t.length) = t) && decide (h.length + t.length < s.length))) := rfl
    rw [ef, kp] at k0 k
    refine ⟨aqu (by omega), _, _, .inr hp1, aqi (j := 3) rfl, ?_⟩
    walk_at "rd"
    refine ⟨aqu (by omega), _, _, .inr hp1, aqi (j := 1) rfl, ?_⟩
    walk_at "rd"
    refine ⟨aqu (by omega), ite2 (fun hle => k0 (by rw [decide_eq_false (show ¬ h.length + t.length < s.length by omega)]; simp) H1 s1) (fun hgt => ⟨_, _, .inr hp1, aqi (j := 1) rfl, ?_⟩)⟩
    have hlen : h.length + t.length < s.length := by omega
    rw [decide_eq_true hlen, Bool.and_true] at k0 k
    walk_at "rd"
    rw [show ((s.length : Int) - (t.length : Int)) = ((s.length - t.length : Nat) : Int) by omega, nqa, gqM]
    refine ⟨aqu (by omega), aqu (by omega), _, _, .inr hp1, aqi (j := 1) rfl, eqo.mpr ⟨_, rfl, ?_⟩⟩
    rw [show decide ((⟨(s.take h.length).toArray⟩ : Str) = ⟨h.toArray⟩) = decide (s.take h.length = h) from decide_eq_decide.mpr dqw]
    refine ite2 (fun z => k0 (by rw [show decide (s.take h.length = h) = false by simpa using z]; rfl) H1 s1) (fun ha => ⟨aqu (by omega), _, _, .inr hp1, aqi (j := 3) rfl, eqo.mpr ⟨_, rfl, ?_⟩⟩)
    have ha' : decide (s.take h.length = h) = true := by simpa using ha
    rw [ha', Bool.true_and] at k0 k
    rw [show decide ((⟨(s.drop (s.length - t.length)).toArray⟩ : Str) = ⟨t.toArray⟩) = decide (s.drop (s.length - t.length) = t) from decide_eq_decide.mpr dqw]
    refine ite2 (fun z => k0 (by simpa using z) H1 s1) (fun hb => ⟨_, _, .inr hp1, aqi (j := 1) rfl, ?_⟩)
    have hb' : decide (s.drop (s.length - t.length) = t) = true := by simpa using hb
    walk_at "rd"
    refine ⟨aqu (by omega), aqu (by omega), by decide, fun p3 H3 n3 s3 e3 => k hb' p3 H3 (bqS s1 n3) (s1.trans s3) ?_⟩
    rw [e3, iqq]
    rfl
   | _ => cases h2
  intro p2 n2
  obtain ⟨H2, hH2⟩ : ∃ H2, H2 = upd (upd H1 p2 (HO.dK [])) p2 (HO.dK (mergeK [] [((Sum.inr (Str.ofString "number") : Key), V.str (Str.ofString "0123456789")), (Sum.inr (Str.ofString "word"), V.str (Str.ofString "abcdefghijklmnopqrstuvwxyz"))])) := ⟨_, rfl⟩
  have s2 : Same H1 H2 := fun b o hb => by
   have hne : b ≠ p2 := fun z => by rw [z, n2] at hb; cases hb
   rw [hH2, aqx hne, aqx hne]
   exact hb
  have hd2 : H2 p2 = some (HO.dK [((Sum.inr (Str.ofString "number") : Key), V.str (Str.ofString "0123456789")), (Sum.inr (Str.ofString "word"), V.str (Str.ofString "abcdefghijklmnopqrstuvwxyz"))]) := by rw [hH2]; exact aqq
  have s02 := s1.trans s2
  refine ⟨aqq, [(Sum.inr (Str.ofString "number"), V.str (Str.ofString "0123456789")), (Sum.inr (Str.ofString "word"), V.str (Str.ofString "abcdefghijklmnopqrstuvwxyz"))], rfl, (show 2 ≤ 15 by decide), ?_⟩
  rw [← hH2]
  refine ⟨.inl ⟨_, .inl hd2⟩, _, _, .inr (s2.tup hp1), c.at0, _, DGet.k (k := Sum.inr c.kw) hd2, fun p3 n3 => ?_⟩
  have eF : Str.ofString "0123456789" = ⟨fgS.toArray⟩ := by unfold fgS; simp
  have eS : Str.ofString "abcdefghijklmnopqrstuvwxyz" = ⟨smaL.toArray⟩ := by unfold smaL; simp
  have nk : ∀ {x y : Str}, x ≠ y → ¬ ((Sum.inr x : Key) = Sum.inr y) := fun h z => h (by injection z)
  have hpool : (valV [((Sum.inr (Str.ofString "number") : Key), V.str (Str.ofString "0123456789")), (Sum.inr (Str.ofString "word"), V.str (Str.ofString "abcdefghijklmnopqrstuvwxyz"))] (Sum.inr c.kw)).getD (tV s) = tV (poolM c s) := by
   cases c with
   | step w => exact absurd rfl h1
   | part a b d => exact absurd rfl h2
   | num n => rw [fqE (show (Sum.inr (Str.ofString "number") : Key) = Sum.inr (Pc.num n).kw from rfl), eF]; rfl
   | word n => rw [dqg (nk (show Str.ofString "number" ≠ Str.ofString "word" by decide +kernel)), fqE (show (Sum.inr (Str.ofString "word") : Key) = Sum.inr (Pc.word n).kw from rfl), eS]; rfl
   | gap n => rw [dqg (nk (show Str.ofString "number" ≠ Str.ofString "gap" by decide +kernel)), dqg (nk (show Str.ofString "word" ≠ Str.ofString "gap" by decide +kernel))]; rfl
   | rest n => rw [dqg (nk (show Str.ofString "number" ≠ Str.ofString "rest" by decide +kernel)), dqg (nk (show Str.ofString "word" ≠ Str.ofString "rest" by decide +kernel))]; rfl
  rw [hpool]
  refine jqR (z := ⟨s.toArray⟩) (aqu (by show s.length ≤ 100000; omega)) n3 (fun x => !decide (x ∈ poolM c s)) (fun x => V.str ⟨#[x]⟩) (fun x hx H' R hR => ?_) (fun x hx H' R hR => ?_) (fun H3 s3 e3 => ?_)
  ·walk_at "rd"
   exact hR H' (Same.refl _)
  ·walk_at "rd"
   exact hR H' (Same.refl _)
  refine ⟨by decide, fun p4 H4 n4 s4 e4 => ?_⟩
  have s14 := (s2.trans s3).trans s4
  have hf : ∀ x ∈ s.filter (fun x => !decide (x ∈ poolM c s)), isSg x = true := fun x hx => hs x (List.mem_filter.mp hx).1
  refine ⟨.list ((s.filter fun x => !decide (x ∈ poolM c s)).map fun x => st [x]), .list [], .lst (s4 _ _ e3) (gqO _), .lst e4 .nil, kqj hf, by decide, _, rfl, ?_⟩
  rw [fqG]
  rw [List.isEmpty_map]
  have em : (s.filter fun x => !decide (x ∈ poolM c s)).isEmpty = s.all fun x => decide (x ∈ poolM c s) := by
   rw [Bool.eq_iff_iff, List.isEmpty_iff, List.filter_eq_nil_iff, List.all_eq_true]
   simp
  rw [em]
  have hp4 := s14.tup hp1
  cases c with
  | step w => exact absurd rfl h1
  | part a b d => exact absurd rfl h2
  | num n =>
   have ef : fitsM (.num n) s = numB s := by show (!isDot s && numB s) = _; rw [nd]; rfl
   rw [ef] at k0 k
   rw [show (s.all fun x => decide (x ∈ poolM (.num n) s)) = s.all isFig from kqF s]
   refine ite2 (fun z => k0 (by unfold numB; rw [show s.all isFig = false by simpa using z]; simp) H4 (s1.trans s14)) (fun z => ?_)
   have hall : s.all isFig = true := by simpa using z
   refine ⟨_, _, .inr hp4, Pc.at0 _, by decide, fun p5 H5 n5 s5 e5 => ⟨p5, _, rfl, .inr (.of e5), rfl, rfl, _, rfl, ?_⟩⟩
   show if (if false then _ else inV (V.str (Str.ofString "number")) [V.str (Str.ofString "number"), V.str (Str.ofString "word")]) = true then _ else _
   rw [if_neg (show ¬ false = true by decide), if_pos (show inV (V.str (Str.ofString "number")) [V.str (Str.ofString "number"), V.str (Str.ofString "word")] = true by decide +kernel)]
   have s15 := s14.trans s5
   have s05 := s1.trans s15
   refine ⟨aqu (by omega), ite2 (fun h60 => k0 (by unfold numB; rw [decide_eq_false (show ¬ s.length ≤ 60 by omega)]; simp) H5 s05) (fun h60 => ⟨_, _, .inr (s15.tup hp1), Pc.at0 _, aqv.mpr ⟨_, rfl, ?_⟩⟩)⟩
   rw [cqr]
   refine ite2 (fun _ => ?_) (fun z => absurd rfl z)
   have e0 : Str.ofString "0" = ⟨[48].toArray⟩ := by decide +kernel
   rw [e0]
   have en : numB s = (decide (s = [48]) || !decide (s.head? = some 48)) := by
    unfold numB
    rw [decide_eq_true (show 1 ≤ s.length by omega), decide_eq_true (show s.length ≤ 60 by omega), hall]
    rfl
   have fin : numB s = true → ∃ xs v, (SqL K H5 p xs ∨ SqT K H5 p xs) ∧ atI xs 0 = some v ∧ rEq v (V.str (Str.ofString "number")) H5 fun x H' => ∃ k, x = V.bl k ∧ if k = true then ∃ n, s.length ≤ 640 ∧ intText? ⟨s.toArray⟩ = some n ∧ 1 ≤ sizeLine ∧ ∀ (p : Addr) (H'_1 : Hp), H' p = none → Same H' H'_1 → H'_1 p = some (HO.lst [V.int n]) → Q (V.ref p) H'_1 else 1 ≤ sizeLine ∧ ∀ (p : Addr) (H'_1 : Hp), H' p = none → Same H' H'_1 → H'_1 p = some (HO.lst [tV s]) → Q (V.ref p) H'_1 := fun hn => by
    refine ⟨_, _, .inr (s15.tup hp1), Pc.at0 _, aqv.mpr ⟨_, rfl, ?_⟩⟩
    rw [cqr]
    exact ite2 (fun _ => ⟨intOf s, by omega, kq9 hall h0 (by omega), by decide, fun p6 H6 n6 s6 e6 => k hn p6 H6 (bqS s05 n6) (s05.trans s6) e6⟩) (fun z => absurd rfl z)
   obtain ⟨x, r, hsx⟩ : ∃ x r, s = x :: r := by
    cases s with
    | nil => simp at h0
    | cons x r => exact ⟨x, r, rfl⟩
   refine ⟨x, aqu (by omega), by rw [hsx]; exact aqi (j := 0) rfl, ite2 (fun hx0 => ite2 (fun hne => k0 ?_ H5 s05) (fun he => fin ?_)) (fun hx0 => fin ?_)⟩
   ·have hx : x = 48 := by
     have := dqw.mp (show (⟨[x].toArray⟩ : Str) = ⟨[48].toArray⟩ from hx0)
     injection this
    rw [en, decide_eq_false (fun z => hne (by rw [z])), hsx, hx]
    rfl
   ·rw [en, decide_eq_true (dqw.mp (Classical.not_not.mp he))]
    rfl
   ·have hx : ¬ s.head? = some 48 := fun z => hx0 (by
     rw [hsx] at z
     injection z with z
     rw [z])
    rw [en, decide_eq_false hx]
    simp
  | word n =>
   have ef : fitsM (.word n) s = wordB s := by show (!isDot s && wordB s) = _; rw [nd]; rfl
   rw [show (s.all fun x => decide (x ∈ poolM (.word n) s)) = s.all isSma from (lqH s).symm]
   refine ite2 (fun z => k0 (by rw [ef]; unfold wordB; rw [show s.all isSma = false by simpa using z]; simp) H4 (s1.trans s14)) (fun z => ?_)
   have hall : s.all isSma = true := by simpa using z
   refine ⟨_, _, .inr hp4, Pc.at0 _, by decide, fun p5 H5 n5 s5 e5 => ⟨p5, _, rfl, .inr (.of e5), rfl, rfl, _, rfl, ?_⟩⟩
   show if (if false then _ else inV (V.str (Str.ofString "word")) [V.str (Str.ofString "number"), V.str (Str.ofString "word")]) = true then _ else _
   rw [if_neg (show ¬ false = true by decide), if_pos (show inV (V.str (Str.ofString "word")) [V.str (Str.ofString "number"), V.str (Str.ofString "word")] = true by decide +kernel)]
   have s15 := s14.trans s5
   have s05 := s1.trans s15
   refine ⟨aqu (by omega), ite2 (fun h60 => k0 (by rw [ef]; unfold wordB; rw [decide_eq_false (show ¬ s.length ≤ 60 by omega)]; simp) H5 s05) (fun h60 => ⟨_, _, .inr (s15.tup hp1), Pc.at0 _, aqv.mpr ⟨_, rfl, ?_⟩⟩)⟩
   rw [cqr]
   refine ite2 (fun z => by cases z) (fun _ => ⟨_, _, .inr (s15.tup hp1), Pc.at0 _, aqv.mpr ⟨_, rfl, ?_⟩⟩)
   rw [cqr]
   refine ite2 (fun z => by cases z) (fun _ => new s15 ?_ rfl)
   rw [ef]
   unfold wordB
   rw [decide_eq_true (show 1 ≤ s.length by omega), decide_eq_true (show s.length ≤ 60 by omega), hall]
   rfl
  | gap n =>
   have hall : (s.all fun x => decide (x ∈ poolM (.gap n) s)) = true := List.all_eq_true.mpr fun x hx => decide_eq_true hx
   rw [hall]
   refine ite2 (fun z => by cases z) (fun _ => ?_)
   refine ⟨_, _, .inr hp4, Pc.at0 _, by decide, fun p5 H5 n5 s5 e5 => ⟨p5, _, rfl, .inr (.of e5), rfl, rfl, _, rfl, ?_⟩⟩
   show if (if false then _ else inV (V.str (Str.ofString "gap")) [V.str (Str.ofString "number"), V.str (Str.ofString "word")]) = true then _ else _
   rw [if_neg (show ¬ false = true by decide), if_neg (show ¬ inV (V.str (Str.ofString "gap")) [V.str (Str.ofString "number"), V.str (Str.ofString "word")] = true by decide +kernel)]
   have s15 := s14.trans s5
   refine ⟨_, _, .inr (s15.tup hp1), Pc.at0 _, aqv.mpr ⟨_, rfl, ?_⟩⟩
   rw [cqr]
   refine ite2 (fun z => by cases z) (fun _ => ⟨_, _, .inr (s15.tup hp1), Pc.at0 _, aqv.mpr ⟨_, rfl, ?_⟩⟩)
   rw [cqr]
   exact ite2 (fun z => by cases z) (fun _ => new s15 (by show (!isDot s && true) = true; rw [nd]; rfl) rfl)
  | rest n =>
   have hall : (s.all fun x => decide (x ∈ poolM (.rest n) s)) = true := List.all_eq_true.mpr fun x hx => decide_eq_true hx
   rw [hall]
   refine ite2 (fun z => by cases z) (fun _ => ?_)
   refine ⟨_, _, .inr hp4, Pc.at0 _, by decide, fun p5 H5 n5 s5 e5 => ⟨p5, _, rfl, .inr (.of e5), rfl, rfl, _, rfl, ?_⟩⟩
   show if (if false then _ else inV (V.str (Str.ofString "rest")) [V.str (Str.ofString "number"), V.str (Str.ofString "word")]) = true then _ else _
   rw [if_neg (show ¬ false = true by decide), if_neg (show ¬ inV (V.str (Str.ofString "rest")) [V.str (Str.ofString "number"), V.str (Str.ofString "word")] = true by decide +kernel)]
   have s15 := s14.trans s5
   refine ⟨_, _, .inr (s15.tup hp1), Pc.at0 _, aqv.mpr ⟨_, rfl, ?_⟩⟩
   rw [cqr]
   refine ite2 (fun z => by cases z) (fun _ => ⟨_, _, .inr (s15.tup hp1), Pc.at0 _, aqv.mpr ⟨_, rfl, ?_⟩⟩)
   rw [cqr]
   exact ite2 (fun z => by cases z) (fun _ => new s15 (by show (!isDot s && true) = true; rw [nd]; rfl) rfl)
theorem gqp (g : G w K mg) : FnOk P w K mg base CX0 1 g.bqO g.bqz ["_law_piece_here"] (fqJ K) := by
 refine g.cqZ.ok fqY (fun vs H Q E h => ?_) (fun cdv A outer s H vs Q E hr h => ?_)
 ·obtain ⟨c, p, rfl, _⟩ := h; rfl
 ·obtain ⟨c, p, rfl, hp, hst, k⟩ := h
  refine ⟨_, (aqf (aqr (cqC (aqj aqW (aqo (aqe (K := K) rfl) (pv 0) aqc (fun _ _ => rfl)) aqp (nomark _)) (aqo (aqe (K := K) rfl) (pv 0) aqc (fun _ _ => rfl)) (aqo (aqe (K := K) rfl) (pv 0) aqc (fun _ _ => rfl))))), ?_⟩
  walk_at "rd"
  refine ⟨_, _, .inr hp, c.at0, ?_⟩
  refine L2.aqv.mpr ⟨_, rfl, ?_⟩
  rw [cqq]
  cases c with
  | part h n t => exact ite2 (fun _ => ⟨_, _, .inr hp, aqi (j := 2) rfl, k⟩) (fun z => absurd rfl z)
  | step w => cases hst
  | _ => exact ite2 (fun z => by cases z) (fun _ => ⟨_, _, .inr hp, aqi (j := 1) rfl, k⟩)
theorem hqu (g : G w K mg) : FnOk P w K mg base CX0 1 g.cqN g.bq9 ["_law_found", "_law_due_here"] (gq8 K) := by
 refine g.dqJ.ok eqH (fun vs H Q E h => ?_) (fun cdv A outer s H vs Q E hr h => ?_)
 ·obtain ⟨l, l', bs, ys, ys', rfl, _⟩ := h; rfl
 ·obtain ⟨l, l', bs, ys, ys', rfl, hl, hB, hl', hB', hok, hbl, k⟩ := h
  refine ⟨_, (aqd (aqJ (PW.pt (dq9 (cq8 (bqC (aql dqP rfl g.bqu aq8 (aqa (pv 0) (aqa (gqc (v := .ty "list") rfl g.jqz jqc rfl) aqb))))) (eqa (aqj eqR (aql (aqk (K := K) rfl) rfl g.aqS PySem.boot_len (aqa (pv 0) aqb)) (aql (aqk (K := K) rfl) rfl g.aqS PySem.boot_len (aqa (pv 1) aqb)) (nomark _)))))
    (aqf (aqr eqh)) aqs)
   (aqd (bq1 PassesOwn.never rfl (fqC (K := K) rfl (pv 0)) (aqz (i := 2) eqH.nd rfl (Or.inl rfl))
   (aqf (aqJ (PW.pt (dq9 (cq8 (bqC (aql dqP rfl g.bqu aq8 (aqa (pv 2) (aqa (gqc (v := .ty "tuple") rfl g.fqU fqB rfl) aqb))))) (dq9 (aqj eqR (aql (aqk (K := K) rfl) rfl g.aqS PySem.boot_len (aqa (pv 2) aqb)) aqc (nomark _)) (eqa (bqC (aql dqP rfl g.bqu aq8 (aqa (aqo (aqe (K := K) rfl) (pv 2) aqc (fun _ _ => rfl)) (aqa (gqc (v := .ty "bool") rfl g.nqj nq3 rfl) aqb))))))))
    (aqf (aqr eqh)) aqs)))
   (aqf (aqr (aq0 (lqt hr.units) (pv 0) (pv 1) (nomark _)))))), ?_⟩
  walk_at "rd"
  have kl : kindV (.ref l) H = some "list" := by simp only [kindV, hl]
  have e1 := hB.length
  have e2 := hB'.length
  refine ⟨_, kl, ite2 (fun z => absurd z (by decide)) (fun _ => ⟨_, .inl (.of hl), _, .inl (.of hl'), ite2 (fun z => absurd (by rw [e1, e2]) z) (fun _ => ⟨⟨_, .of hl⟩, ?_⟩)⟩)⟩
  refine fq1 (xs := ys) (fun i σ H' => Same H H' ∧ ∃ v2 : Option V, σ = [some (.ref l), some (.ref l'), v2]) ⟨Same.refl _, _, rfl⟩ (fun i σ H' _ h => .of (h.1 _ _ hl)) ?_ ?_
  ·rintro i v σ H1 hv ⟨s1, v2, rfl⟩
   obtain ⟨b, p, w, hb, rfl, hp, hw, _⟩ := hB.get hv
   have hp1 := s1 _ _ hp
   have kp : kindV (.ref p) H1 = some "tuple" := by simp only [kindV, hp1]
   walk_at "rd"
   refine ⟨_, kp, ite2 (fun z => absurd z (by decide)) (fun _ => ⟨_, .inr (.of hp1), ite2 (fun z => absurd rfl z) (fun _ => ⟨_, _, .inr (.of hp1), aqi (j := 1) rfl, ?_⟩)⟩)⟩
   obtain ⟨kk, hk, hnb⟩ : ∃ kk, kindV w H1 = some kk ∧ subT kk "bool" = false := by
    cases hx : b.2 with
    | txt t => rw [hx] at hw; cases hw; exact ⟨_, rfl, by decide⟩
    | int n => rw [hx] at hw; cases hw; exact ⟨_, rfl, by decide⟩
    | lst ls =>
     rw [hx] at hw
     obtain ⟨q, rfl, hq⟩ := hw
     exact ⟨"list", by simp only [kindV, s1 _ _ hq], by decide⟩
   refine ⟨kk, hk, ite2 (fun z => by rw [hnb] at z; cases z) (fun _ => ⟨s1, _, rfl⟩)⟩
  ·rintro σ H1 ⟨s1, v2, rfl⟩
   walk_at "rd"
   have sh : SeqAt.shaped (bndD bs) = true := (lqU (fun p hp => (hok p hp).1) (fun p hp => (hok p hp).2)).shaped (by decide)
   refine ⟨bndD bs, bndD bs, .lst (s1 _ _ hl) (hB.mono s1).vls.isAll, .lst (s1 _ _ hl') (hB'.mono s1).vls.isAll, sh, sh, ?_⟩
   rw [lqV]
   exact k H1 s1
theorem eqe (g : G w K mg) : FnOk P w K mg base CX0 1 g.cqc g.bqN ["_law_pattern_here"] (gqs K) := by
 refine g.cqh.ok bqM (fun vs H Q E h => ?_) (fun cdv A outer s H vs Q E hr h => ?_)
 ·obtain ⟨cs, e, p, rfl, _⟩ := h; rfl
 ·obtain ⟨cs, e, p, rfl, ⟨q, xs, hp, hq, hx⟩, hok, k⟩ := h
  refine ⟨_, (aqd (aqt (i := 1) bqM.nd rfl (Or.inl rfl) (aqD aqb))
   (aqd (bq1 PassesOwn.never rfl (nqV (K := K) rfl (aqo (aqe (K := K) rfl) (pv 0) aqc (fun _ _ => rfl))) (aqz (i := 2) bqM.nd rfl (Or.inl rfl))
   (aqd (aqt (i := 3) bqM.nd rfl (Or.inl rfl) (cqt (K := K) rfl PySem.F.plainAttrs_list PySem.F.slot_list_index PySem.F.type_list_index kq8 (aqD (aqa aqp (aqa aqp (aqa aqp (aqa aqp (aqa aqp (aqa aqp aqb))))))) (aqa (aqo (aqe (K := K) rfl) (pv 2) aqc (fun _ _ => rfl)) aqb)))
   (aqd (bqX (cqt (K := K) rfl PySem.F.plainAttrs_list PySem.F.slot_list_append PySem.F.type_list_append aqV (pv 1) (aqa (aqD (aqa (pv 3) aqb)) aqb)))
   (aqf (aqJ (aqj aqW (aqo (aqe (K := K) rfl) (pv 2) aqc (fun _ _ => rfl)) aqp (nomark _))
    (aqf (hqQ (aqD (aqa (pv 3) (aqa (aqn (aqA (K := K)) (aql (aqk (K := K) rfl) rfl g.aqS PySem.boot_len (aqa (aqo (aqe (K := K) rfl) (pv 2) aqc (fun _ _ => rfl)) aqb)) (aql (aqk (K := K) rfl) rfl g.aqS PySem.boot_len (aqa (aqo (aqe (K := K) rfl) (pv 2) aqc (fun _ _ => rfl)) aqb))) (aqa (aql (aqk (K := K) rfl) rfl g.aqS PySem.boot_len (aqa (aqo (aqe (K := K) rfl) (pv 2) aqc (fun _ _ => rfl)) aqb)) aqb)))) (nqo (pv 1) (kqa gqJ aqc) jqq))) aqs)))))
   (aqf (aqr (aqn (aqA (K := K)) (pv 1) (aqD (aqa (aqD (aqa aqc aqb)) aqb))))))), ?_⟩
  walk_at "rd"
  have hxl := hx.length
  have o90 := hok.1
  refine ⟨by decide, fun l H1 n1 s1 hl => ⟨_, _, .inr (.of (s1 _ _ hp)), aqi (j := 0) rfl, q, rfl, ⟨_, .of (s1 _ _ hq)⟩, ?_⟩⟩
  refine mqp (xs := xs) (fun i σ H' => Same H H' ∧ ∃ (us : List V) (v2 v3 : Option V), σ = [some (.ref p), some (.ref l), v2, v3] ∧ H' l = some (.lst us) ∧ WlAt H' l ((cs.take i).map worthL) us) ⟨s1, [], none, none, rfl, hl, rfl, fun j u h => by simp at h⟩ (fun i σ H' _ h => .of (h.1 _ _ hq)) ?_ ?_
  ·rintro i v σ H2 hxi ⟨s2, us, v2, v3, rfl, hl2, hw⟩
   obtain ⟨c, b, hc, rfl, hv⟩ := hx.get hxi
   have hb2 := s2 _ _ hv
   have hul : us.length ≤ 90 := by rw [hw.1, List.length_map, List.length_take]; omega
   have hlt : ∀ z : Nat, z ≤ 91 → z < sizeLine := fun z h => Nat.lt_of_le_of_lt h (by decide)
   have et : (cs.take (i + 1)).map worthL = (cs.take i).map worthL ++ [worthL c] := by rw [List.take_add_one, hc, List.map_append]; rfl
   obtain ⟨j, j1, j2, j3⟩ := qqP c
   walk_at "rd"
   refine ⟨by decide, fun p3 H3 n3 s3 e3 => ⟨⟨_, .of e3⟩, _, _, .inr (.of (s3 _ _ hb2)), c.at0, lqs.mpr ⟨kwS.map V.str, j, e3, (fun v hv => ?_), j1, j2, ?_⟩⟩⟩
   ·obtain ⟨z, _, rfl⟩ := List.mem_map.mp hv
    exact ⟨z, rfl⟩
   have hl3 := s3 _ _ hl2
   refine ⟨⟨_, .of hl3⟩, by decide, fun p4 H4 n4 s4 e4 => ?_⟩
   have hl4 := s4 _ _ hl3
   have n4l : p4 ≠ l := fun z => by rw [z, hl3] at n4; cases n4
   have u4 := (s2.trans s3).trans s4
   have hw4 := hw.mono (s3.trans s4)
   refine ⟨us, hl4, hlt _ (by omega), ?_⟩
   have hne : b ≠ l := mq7 (u4 _ _ hv) hl4 (by intro z; cases z)
   have hb5 : (upd H4 l (.lst (us ++ [.ref p4]))) b = some (.tup c.vals) := by rw [aqx hne]; exact u4 _ _ hv
   refine ⟨_, _, .inr (.of hb5), c.at0, aqv.mpr ⟨_, rfl, ?_⟩⟩
   rw [cqq]
   rw [j3] at e4
   refine ite2 (fun h2 => ?_) (fun h2 => ⟨bqg n1 u4, us ++ [.ref p4], _, _, ⟨rfl, rfl⟩, aqq, ?_⟩)
   ·cases c with
    | part h n t =>
     obtain ⟨o1, o2, _⟩ := (hok.2 _ (List.mem_of_getElem? hc)).1
     have u5 : Same H (upd H4 l (.lst (us ++ [.ref p4]))) := bqg n1 u4
     have hl5 : (upd H4 l (.lst (us ++ [.ref p4]))) l = some (.lst (us ++ [.ref p4])) := aqq
     have hw5 : WlAt (upd H4 l (.lst (us ++ [.ref p4]))) l ((cs.take i).map worthL) us := hw4.put
     generalize upd H4 l (.lst (us ++ [.ref p4])) = H5 at u5 hl5 hw5 hb5
     refine ⟨_, _, .inr (.of hb5), aqi (j := 1) rfl, ?_⟩
     walk_at "rd"
     refine ⟨aqu (by omega), _, _, .inr (.of hb5), aqi (j := 3) rfl, ?_⟩
     walk_at "rd"
     refine ⟨aqu (by omega), _, _, .inr (.of hb5), aqi (j := 1) rfl, ?_⟩
     walk_at "rd"
     refine ⟨aqu (by omega), by decide, fun p6 H6 n6 s6 e6 => ⟨us ++ [.ref p4], us.length, s6 _ _ hl5, ?_, ?_⟩⟩
     ·unfold ixN
      rw [List.length_append, List.length_singleton, if_neg (by omega), if_pos (by omega)]
      congr 1
      omega
     have es : (us ++ [V.ref p4]).set us.length (.ref p6) = us ++ [.ref p6] := by
      rw [List.set_append_right _ _ (Nat.le_refl _), Nat.sub_self]
      rfl
     have n6l : p6 ≠ l := fun z => by rw [z, hl5] at n6; cases n6
     rw [es, et]
     refine ⟨bqg n1 (u5.trans s6), us ++ [.ref p6], _, _, ⟨rfl, rfl⟩, aqq, ((hw5.mono s6).snoc n6l ?_).put⟩
     rw [e6, j3]
     show some (HO.lst [V.int (5 - 1), V.int ((h.length : Int) + (t.length : Int)), V.int (h.length : Int)]) = some (HO.lst [V.int 4, V.int ((h.length + t.length : Nat) : Int), V.int (h.length : Int)])
     rw [show ((h.length + t.length : Nat) : Int) = (h.length : Int) + (t.length : Int) by omega]
     rfl
    | _ => cases h2
   ·rw [et]
    refine (hw4.snoc n4l ?_).put
    cases c with
    | part h n t => exact absurd rfl h2
    | _ => exact e4
  ·rintro σ H2 ⟨s2, us, v2, v3, rfl, hl2, hw⟩
   rw [hxl, List.take_length] at hw
   have hul : us.length ≤ 90 := by rw [hw.1, List.length_map]; omega
   walk_at "rd"
   refine ⟨by decide, fun p3 H3 n3 s3 e3 => ⟨by decide, fun p4 H4 n4 s4 e4 => .inl ⟨_, _, (s3.trans s4) _ _ hl2, e4, aqu (by simp only [List.length_cons, List.length_nil]; omega), fun p5 H5 n5 s5 e5 => ?_⟩⟩⟩
   have u5 := (s3.trans s4).trans s5
   have n3l : p3 ≠ l := fun z => by rw [z, hl2] at n3; cases n3
   exact k p5 _ H5 (s2.trans u5) e5 ((hw.mono u5).snoc (w := [6]) n3l ((s4.trans s5) _ _ e3)).isAll
theorem kqD (g : G w K mg) : FnOk P w K mg base CX0 2 g.fqA g.eqw ["pattern", "count"] (kqX K) := by
 refine g.hqH.ok gql (fun vs H Q E h => ?_) (fun cdv A outer s H vs Q E hr h => ?_)
 ·obtain ⟨cs, xs, p, q, e, n, rfl, _⟩ := h; rfl
 ·obtain ⟨cs, xs, p, q, e, n, rfl, hp, hq, hx, hn, hnn, k0, k⟩ := h
  refine ⟨_, (aqd (aqt (i := 2) gql.nd rfl (Or.inl rfl) (aqo (aqe (K := K) rfl) (pv 0) (aqY (v := dqn) rfl g.cqR ⟨_, rfl⟩) (fun _ _ => rfl)))
   (aqd (aqt (i := 3) gql.nd rfl (Or.inl rfl) (aqn gqX (pv 1) (aql (aqk (K := K) rfl) rfl g.aqS PySem.boot_len (aqa (pv 2) aqb))))
   (aqd (aqJ (PW.pt (dqx (bqC (aqm (iqO g) (hr.mono (by decide)) rfl g.gqN g.eq0.kp g.gqG .nil pass0 (aqa (pv 0) aqb))) (cqw (aqj pq1 (pv 3) aqc (nomark _)))))
    (aqf (aqr (aqn (aqA (K := K)) (pv 2) (aqn oqX (bql hqa (pv 2) (bqe (kqa gqJ aqc)) dqM) (pv 3))))) aqs)
   (aqf (aqr (cqC (aqj aqW (pv 3) aqc (nomark _)) (pv 2) bq0)))))), ?_⟩
  walk_at "rd"
  refine ⟨_, _, .inr hp, aqi (j := 0) rfl, ?_⟩
  have hl := hx.length
  walk_at "rd"
  refine ⟨xs, .inr (.of hq), ?_⟩
  refine ⟨cs, xs, p, q, e, rfl, hp, .of hq, hx, by omega, _, rfl, ?_⟩
  rw [hl]
  have tail : ¬ (hasRest cs = true ∧ cs.length ≤ n) → if (n : Int) - (cs.length : Int) = 0 then Q (.ref q) H else Q .non H := fun hnot => by
   refine ite2 (fun h0 => ?_) (fun h0 => ?_)
   ·refine k cs xs q H ?_ (Same.refl _) (.of hq) hx
    unfold spreadM
    rw [if_neg hnot, if_pos (by omega)]
   ·refine k0 ?_
    unfold spreadM
    rw [if_neg hnot, if_neg (by omega)]
  refine ite2 (fun hr => ite2 (fun hm => ?_) (fun hm => tail fun z => by omega)) (fun hr => tail fun z => hr z.1)
  have hd1 : (xs.drop (xs.length - 1)).length ≤ 1 := by rw [List.length_drop]; omega
  have ht : ((n : Int) - (cs.length : Int)).toNat = n - cs.length := by omega
  refine ⟨_, hq, fun p1 H1 s1 e1 => ⟨_, e1, hm, by omega, ?_, fun p2 H2 s2 e2 => .inr ⟨_, _, (s1.trans s2) _ _ hq, e2, ?_, fun p3 H3 s3 e3 => ?_⟩⟩⟩
  ·rw [hqA, ht]
   exact aqu (Nat.le_trans (Nat.mul_le_mul hd1 (Nat.le_refl _)) (by omega))
  ·rw [hqA, ht]
   have := mqx (xs.drop (xs.length - 1)) (n - cs.length) hd1
   exact aqu (by omega)
  ·rw [hqA, ht, hl] at e3
   have s03 := s1.trans (s2.trans s3)
   refine k _ _ p3 H3 ?_ s03 (.of e3) (PcAll.append (((hx.drop (cs.length - 1)).reps (n - cs.length)).mono s03) (hx.mono s03))
   unfold spreadM
   rw [if_pos ⟨hr, by omega⟩]
theorem iqx (g : G w K mg) : FnOk P w K mg base CX0 2 g.dqa g.cqX ["part", "step"] (hq6 K) := by
 refine g.eqj.ok dqE (fun vs H Q E h => ?_) (fun cdv A outer s H vs Q E hr h => ?_)
 ·obtain ⟨h1, n, t, s, p, rfl, _⟩ := h; rfl
 ·obtain ⟨h1, n, t, s, p, rfl, hp, hs, hh, ht, k⟩ := h
  refine ⟨_, (aqd (aqt (i := 2) dqE.nd rfl (Or.inl rfl) (aqm (eqT g) (hr.mono (by decide)) rfl g.eqJ g.dqI.kp g.eqA .nil pass0 (aqa (pv 0) aqb)))
   (aqd (aqt (i := 3) dqE.nd rfl (Or.inl rfl) (aqm (eqS g) (hr.mono (by decide)) rfl g.eqM g.dqG.kp g.eqs .nil pass0 (aqa (pv 0) aqb)))
   (aqf (aqr (iqe (cqt (K := K) rfl PySem.F.plainAttrs_str PySem.F.slot_str_startswith PySem.F.type_str_startswith lql (pv 1) (aqa (pv 2) aqb)) (iqe (cqt (K := K) rfl PySem.F.plainAttrs_str PySem.F.slot_str_endswith PySem.F.type_str_endswith oq2 (pv 1) (aqa (pv 3) aqb)) (fqn (aq0 lq0 (aql (aqk (K := K) rfl) rfl g.aqS PySem.boot_len (aqa (pv 1) aqb)) (aqn (lqF (K := K) rfl) (aql (aqk (K := K) rfl) rfl g.aqS PySem.boot_len (aqa (pv 2) aqb)) (aql (aqk (K := K) rfl) rfl g.aqS PySem.boot_len (aqa (pv 3) aqb))) (nomark _))))))))), ?_⟩
  walk_at "rd"
  refine ⟨_, p, rfl, hp, _, p, rfl, hp, ?_⟩
  show rStart1 (tV s) [tV h1] H _
  rw [L2.kq5]
  have kp : partB h1 t s = (decide (s.take h1.length = h1) && (decide (s.drop (s.length - t.length) = t) && decide (h1.length + t.length < s.length))) := rfl
  rw [kp] at k
  refine ⟨_, rfl, ite2 (fun ha => ?_) (fun ha => ?_)⟩
  rotate_left
  ·rw [(Bool.not_eq_true _).mp ha] at k
   exact k
  rw [ha, Bool.true_and] at k
  show rEnd1 (tV s) [tV t] H _
  rw [L2.kq1]
  refine ⟨_, rfl, ite2 (fun hb => ?_) (fun hb => ?_)⟩
  rotate_left
  ·rw [(Bool.not_eq_true _).mp hb] at k
   exact k
  rw [hb, Bool.true_and] at k
  refine ⟨aqu hs, ?_⟩
  show rLenU K [tV h1] H _
  walk_at "rd"
  refine ⟨aqu hh, aqu ht, ?_⟩
  show Q (V.bl (decide ((h1.length : Int) + (t.length : Int) < (s.length : Int)))) H
  rw [show decide ((h1.length : Int) + (t.length : Int) < (s.length : Int)) = decide (h1.length + t.length < s.length) from decide_eq_decide.mpr (by omega)]
  exact k
theorem iqG (g : G w K mg) : FnOk P w K mg base CX0 2 g.dqf g.cqM ["text"] iqt := by
 refine g.eqm.ok hqR (fun vs H Q E h => ?_) (fun cdv A outer s H vs Q E hr h => ?_)
 ·obtain ⟨l, rfl, _⟩ := h; rfl
 ·obtain ⟨l, rfl, hl, k⟩ := h
  refine ⟨_, (aqd (aqJ (PW.pt (dq9 (cq8 (mq0 lqz lqz aqc (aql (aqk (K := K) rfl) rfl g.aqS PySem.boot_len (aqa (pv 0) aqb)) (aqY (v := fqw) rfl g.dqy ⟨_, rfl⟩))) (eqa (cq8 (bqC (aqm (gqR g) (hr.mono (by decide)) rfl g.gqd g.eqp.kp g.fqZ .nil pass0 (aqa (pv 0) (aqa (aqY (v := hqT) rfl g.iqz ⟨_, rfl⟩) aqb))))))))
    (aqf (aqr eqh)) aqs)
   (aqf (aqr (lqW (aq0 aqW (pv 0) aqp (nomark _)) (fqn (aq0 eqR (aqo (aqe (K := K) rfl) (pv 0) aqc (fun _ _ => rfl)) aqp (nomark _))))))), ?_⟩
  have eF : hqT = .str ⟨fgS.toArray⟩ := by
   show V.str (Str.ofString _) = _
   unfold fgS; simp
  have e0 : Str.ofString "0" = ⟨[48].toArray⟩ := by decide +kernel
  rw [eF, e0]
  walk_at "rd"
  have no : ∀ H', Same H H' → (¬ (1 ≤ l.length ∧ l.length ≤ 60 ∧ l.all isFig = true)) → Q (.bl false) H' := fun H' sm h => by
   have : numB l = false := by
    unfold numB
    by_cases h1 : 1 ≤ l.length
    ·by_cases h2 : l.length ≤ 60
     ·rw [show l.all isFig = false by simpa using fun z => h ⟨h1, h2, z⟩]; simp
     ·rw [decide_eq_false h2]; simp
    ·rw [decide_eq_false h1]; simp
   rw [← this]
   exact k H' sm
  refine ⟨aqu hl, ite2 (fun h1 => ite2 (fun h2 => no _ (Same.refl _) (by omega)) (fun h2 => ?_)) (fun h1 => no _ (Same.refl _) (by omega))⟩
  refine ⟨_, _, rfl, hl, fun H' sm => ⟨_, rfl, ?_⟩⟩
  have ea : ((⟨l.toArray⟩ : Str).cps.toList.all fun c => decide (c ∈ (⟨fgS.toArray⟩ : Str).cps.toList)) = l.all isFig := by
   rw [← kqF]
  rw [ea]
  refine ite2 (fun h3 => no H' sm (by rw [h3]; simp)) (fun h3 => ?_)
  have h3 : l.all isFig = true := by simpa using h3
  have en : numB l = (decide (l = [48]) || !decide (l.head? = some 48)) := by
   unfold numB
   rw [decide_eq_true (show 1 ≤ l.length by omega), decide_eq_true (show l.length ≤ 60 by omega), h3]
   rfl
  have k' := k H' sm
  rw [en] at k'
  cases l with
  | nil => simp at h1
  | cons c r =>
   refine ite2 (fun h4 => ?_) (fun h4 => ⟨c, aqu hl, aqi (j := 0) rfl, ?_⟩)
   ·rw [decide_eq_true (dqw.mp h4)] at k'
    exact k'
   ·rw [decide_eq_false (fun z => h4 (by rw [z]))] at k'
    have : decide ((⟨#[c]⟩ : Str) = ⟨[48].toArray⟩) = decide ((c :: r).head? = some 48) := by
     refine decide_eq_decide.mpr ?_
     rw [show (⟨#[c]⟩ : Str) = ⟨[c].toArray⟩ from rfl, dqw]
     simp
    first | (rw [this]; simpa using k') | (simp at this ⊢; simpa [this] using k')
theorem kqg (g : G w K mg) : FnOk P w K mg base CX0 2 g.eqB g.dqX ["text"] jqZ := by
 refine g.fqN.ok kqe (fun vs H Q E h => ?_) (fun cdv A outer s H vs Q E hr h => ?_)
 ·obtain ⟨l, rfl, _⟩ := h; rfl
 ·obtain ⟨l, rfl, hl, k⟩ := h
  refine ⟨_, (aqf (aqr (iqe (mqh lqz lqz aqc (aql (aqk (K := K) rfl) rfl g.aqS PySem.boot_len (aqa (pv 0) aqb)) (aqY (v := gqz) rfl g.eqg ⟨_, rfl⟩)) (fqn (aqm (gqR g) (hr.mono (by decide)) rfl g.gqd g.eqp.kp g.fqZ .nil pass0 (aqa (pv 0) (aqa (aqY (v := dqO) rfl g.dqN ⟨_, rfl⟩) aqb))))))), ?_⟩
  have eF : dqO = .str ⟨smaL.toArray⟩ := by
   show V.str (Str.ofString _) = _
   unfold smaL; simp
  rw [eF]
  walk_at "rd"
  have no : (¬ (1 ≤ l.length ∧ l.length ≤ 60)) → Q (.bl false) H := fun h => by
   have : wordB l = false := by
    unfold wordB
    by_cases h1 : 1 ≤ l.length
    ·rw [decide_eq_false (show ¬ l.length ≤ 60 from fun z => h ⟨h1, z⟩)]; simp
    ·rw [decide_eq_false h1]; simp
   rw [← this]
   exact k H (Same.refl _)
  refine ⟨aqu hl, ite2 (fun h1 => ite2 (fun h2 => ?_) (fun h2 => no (by omega))) (fun h1 => no (by omega))⟩
  refine ⟨_, _, rfl, hl, fun H' sm => ?_⟩
  have e : wordB l = (l.all fun c => decide (c ∈ smaL)) := by
   unfold wordB
   rw [decide_eq_true (show 1 ≤ l.length by omega), decide_eq_true (show l.length ≤ 60 by omega), lqH]
   rfl
  have := k H' sm
  rw [e] at this
  simpa using this
theorem gqv (g : G w K mg) : FnOk P w K mg base CX0 2 g.cqf g.bqL ["gap", "steps"] (gqy K) := by
 refine g.dqp.ok gqx (fun vs H Q E h => ?_) (fun cdv A outer s H vs Q E hr h => ?_)
 ·obtain ⟨c, s, ss, p, q, rfl, _⟩ := h; rfl
 ·obtain ⟨c, s, ss, p, q, rfl, hp, hq, hf, hs, hh, ht, hn, k⟩ := h
  refine ⟨_, (aqd (aqJ (aqj aqW (aqo (aqe (K := K) rfl) (pv 0) aqc (fun _ _ => rfl)) aqp (nomark _))
    (aqf (aqr (bqQ (gqU (K := K) rfl) rfl g.jqz jqc (aqa (pv 1) aqb)))) aqs)
   (aqd (aqJ (aqj aqW (aqo (aqe (K := K) rfl) (pv 0) aqc (fun _ _ => rfl)) aqp (nomark _))
    (aqf (aqr (bqQ iqs rfl g.mqE kqn (aqa (aqo (aqe (K := K) rfl) (pv 1) aqc (fun _ _ => rfl)) aqb)))) aqs)
   (aqf (aqr (bql (hqL (K := K) rfl) (aqo (aqe (K := K) rfl) (pv 1) aqc (fun _ _ => rfl)) (bqe (aql (aqk (K := K) rfl) rfl g.aqS PySem.boot_len (aqa (aqm (eqT g) (hr.mono (by decide)) rfl g.eqJ g.dqI.kp g.eqA .nil pass0 (aqa (pv 0) aqb)) aqb))) (bqe (aqn gqX (aql (aqk (K := K) rfl) rfl g.aqS PySem.boot_len (aqa (aqo (aqe (K := K) rfl) (pv 1) aqc (fun _ _ => rfl)) aqb)) (aql (aqk (K := K) rfl) rfl g.aqS PySem.boot_len (aqa (aqm (eqS g) (hr.mono (by decide)) rfl g.eqM g.dqG.kp g.eqs .nil pass0 (aqa (pv 0) aqb)) aqb))))))))), ?_⟩
  walk_at "rd"
  refine ⟨_, _, .inr hp, c.at0, ?_⟩
  refine L2.aqv.mpr ⟨_, rfl, ?_⟩
  rw [eq3]
  have rest : c.isRest = false → c.isNum = false → c.head.length + c.tail.length ≤ s.length → ∃ xs v, (SqL K H q xs ∨ SqT K H q xs) ∧ atI xs 0 = some v ∧ gqS K [V.ref p] H (fun x H1 => rLenU K [x] H1 fun x H1 => ∃ i, x = V.int i ∧ ∃ xs v_1, (SqL K H1 q xs ∨ SqT K H1 q xs) ∧ atI xs 0 = some v_1 ∧ rLenU K [v_1] H1 fun x H1 => gqI K [V.ref p] H1 (fun x_1 H1 => rLenU K [x_1] H1 fun y H2 => rI0 (fun i j => V.int (i - j)) x y H2 fun x H1 => ∃ i_1, x = V.int i_1 ∧ rSl K v (some i) (some i_1) H1 Q) E0) E0 := fun h1 h2 hle => by
   refine ⟨_, _, .inr (.of hq), aqi (j := 0) rfl, c, p, rfl, hp, aqu hh, _, rfl, _, _, .inr (.of hq), aqi (j := 0) rfl, aqu hs, c, p, rfl, hp, aqu ht, ?_⟩
   refine ⟨_, _, rfl, rfl, _, rfl, ?_⟩
   refine L2.nqd.mpr ⟨aqu hs, ?_⟩
   show Q (.str (Txt.slice ⟨s.toArray⟩ (some (c.head.length : Int)) (some ((s.length : Int) - (c.tail.length : Int))))) H
   rw [show (s.length : Int) - (c.tail.length : Int) = ((s.length - c.tail.length : Nat) : Int) by omega, iqq]
   refine k _ H (Same.refl _) ?_ (fun q z => by cases z)
   cases c with
   | rest n => cases h1
   | num n => cases h2
   | _ => rfl
  cases c with
  | rest n =>
   refine ite2 (fun _ => ?_) (fun z => absurd rfl z)
   exact ⟨_, .inr (.of hq), fun l H1 n1 s1 e1 => k _ H1 s1 ⟨l, rfl, e1⟩ (fun q z => by cases z; exact n1)⟩
  | num n =>
   refine ite2 (fun z => by cases z) (fun _ => ⟨_, _, .inr hp, Pc.at0 _, ?_⟩)
   refine L2.aqv.mpr ⟨_, rfl, ?_⟩
   rw [cqr]
   refine ite2 (fun _ => ⟨_, _, .inr (.of hq), aqi (j := 0) rfl, ?_⟩) (fun z => absurd rfl z)
   have hn := lqX hf
   exact ⟨⟨s.toArray⟩, intOf s, rfl, by show s.length ≤ 640; omega, kq9 hn.2.2 hn.1 hn.2.1, k _ H (Same.refl _) rfl (fun q z => by cases z)⟩
  | part h n t =>
   refine ite2 (fun z => by cases z) (fun _ => ⟨_, _, .inr hp, Pc.at0 _, ?_⟩)
   refine L2.aqv.mpr ⟨_, rfl, ?_⟩
   rw [cqr]
   exact ite2 (fun z => by cases z) (fun _ => rest rfl rfl (hqM hf))
  | _ =>
   refine ite2 (fun z => by cases z) (fun _ => ⟨_, _, .inr hp, Pc.at0 _, ?_⟩)
   refine L2.aqv.mpr ⟨_, rfl, ?_⟩
   rw [cqr]
   exact ite2 (fun z => by cases z) (fun _ => rest rfl rfl (by show 0 + 0 ≤ _; omega))
theorem dqq (g : G w K mg) : FnOk P w K mg base CX0 2 g.dq6 g.dqr ["piece"] (iqI K) := by
 refine g.cqk.ok fqP (fun vs H Q E h => ?_) (fun cdv A outer s H vs Q E hr h => ?_)
 ·obtain ⟨c, p, rfl, _⟩ := h; rfl
 ·obtain ⟨c, p, rfl, hp, hz, k⟩ := h
  refine ⟨_, (aqd (aqt (i := 1) fqP.nd rfl (Or.inl rfl) (aqm (eqT g) (hr.mono (by decide)) rfl g.eqJ g.dqI.kp g.eqA .nil pass0 (aqa (pv 0) aqb)))
   (aqf (aqr (aqM (aqa (pqF (g.dqv P) (aqY (v := .ref g.bqh) rfl g.dqs rfl) (aqo (aqe (K := K) rfl) (pv 0) aqc (fun _ _ => rfl)) (fun _ _ => rfl)) (aqa (aqn (aqA (K := K)) (aql (aqk (K := K) rfl) rfl g.aqS PySem.boot_len (aqa (pv 1) aqb)) (aql (aqk (K := K) rfl) rfl g.aqS PySem.boot_len (aqa (aqm (eqS g) (hr.mono (by decide)) rfl g.eqM g.dqG.kp g.eqs .nil pass0 (aqa (pv 0) aqb)) aqb))) (aqa (aql (aqk (K := K) rfl) rfl g.aqS PySem.boot_len (aqa (pv 1) aqb)) aqb))))))), ?_⟩
  walk_at "rd"
  refine ⟨c, p, rfl, hp, ?_⟩
  refine ⟨_, _, .inr hp, c.at0, c.kw, wordW c, rfl, ?_, ?_⟩
  ·cases c with
   | step w => show Spec.lookup (PyData.str (Str.ofString "step")) _ = some (PyData.int 6); with_unfolding_all kernel_rfl
   | part a n b => show Spec.lookup (PyData.str (Str.ofString "part")) _ = some (PyData.int 5); with_unfolding_all kernel_rfl
   | num n => show Spec.lookup (PyData.str (Str.ofString "number")) _ = some (PyData.int 4); with_unfolding_all kernel_rfl
   | word n => show Spec.lookup (PyData.str (Str.ofString "word")) _ = some (PyData.int 3); with_unfolding_all kernel_rfl
   | gap n => show Spec.lookup (PyData.str (Str.ofString "gap")) _ = some (PyData.int 2); with_unfolding_all kernel_rfl
   | rest n => show Spec.lookup (PyData.str (Str.ofString "rest")) _ = some (PyData.int 1); with_unfolding_all kernel_rfl
  have h1 := hz.1
  have h2 := hz.2.1
  refine ⟨aqu (by rw [eqd]; omega), c, p, rfl, hp, aqu (by rw [eqd]; omega), aqu (by rw [eqd]; omega), by decide, fun r H1 n1 s1 hr => ?_⟩
  exact k r H1 s1 hr
theorem cqJ (g : G w K mg) : FnOk P w K mg base CX0 2 g.dqd g.cqB ["_law_cell"] (hqS K) := by
 refine g.bqI.ok bqR (fun vs H Q E h => ?_) (fun cdv A outer s H vs Q E hr h => ?_)
 ·obtain ⟨c, rfl, _⟩ := h; rfl
 ·obtain ⟨c, rfl, k⟩ := h
  refine ⟨_, (aqd (aqt (i := 1) bqR.nd rfl (Or.inl rfl) (aqo (aqe (K := K) rfl) (aqD (aqa aqp (aqa aqp (aqa aqp (aqa aqp (aqa (mq8 (hqk g) (hr.mono (by decide)) rfl g.fqr g.dqF.kp g.fqk .nil pass0) (aqa aqp aqb))))))) (aqn aqR (pv 0) aqc) (fun _ _ => rfl)))
   (aqd (aqt (i := 2) bqR.nd rfl (Or.inl rfl) aqp)
   (aqd (bq1 PassesOwn.never rfl (cqp rfl g.dqU (aqa (aqn aqR (aqn aqy (pv 0) aqc) aqc) aqb)) (aqz (i := 3) bqR.nd rfl (Or.inl rfl))
   (aqf (aqt (i := 2) bqR.nd rfl (Or.inl rfl) (aqn (aqA (K := K)) (pv 2) (aqo (aqe (K := K) rfl) (pv 1) (aqn aqR (aqn aqy (pv 0) (aqn (aqA (K := K)) aqc (aqn dqe (aqn dqe aqc (pv 3)) (pv 3)))) (aql (aqk (K := K) rfl) rfl g.aqS PySem.boot_len (aqa (pv 1) aqb))) (fun _ _ => rfl))))))
   (aqf (aqr (pv 2)))))), ?_⟩
  walk_at "rd"
  refine ⟨by decide, fun p H1 n1 s1 e1 => ⟨by decide, ?_⟩⟩
  obtain ⟨v, hv, hat⟩ := oql [V.str (Str.ofString "ab"), V.str (Str.ofString "a1"), V.str (Str.ofString "0123456789"), V.str (Str.ofString "a."), V.str { cps := SG.toArray }, V.str (Str.ofString "./{}~ab")] c 6 (by decide) (by decide)
  have hpool : ∃ l : List Nat, v = tV l ∧ 0 < l.length ∧ l.length ≤ 94 ∧ ∀ c ∈ l, isSg c = true := by
   simp only [List.mem_cons, List.not_mem_nil, or_false] at hv
   rcases hv with rfl | rfl | rfl | rfl | rfl | rfl
   ·exact ⟨[97, 98], congrArg V.str (by decide +kernel), by decide, by decide, by decide⟩
   ·exact ⟨[97, 49], congrArg V.str (by decide +kernel), by decide, by decide, by decide⟩
   ·exact ⟨[48, 49, 50, 51, 52, 53, 54, 55, 56, 57], congrArg V.str (by decide +kernel), by decide, by decide, by decide⟩
   ·exact ⟨[97, 46], congrArg V.str (by decide +kernel), by decide, by decide, by decide⟩
   ·exact ⟨SG, rfl, by rw [nqg]; decide, by rw [nqg]; decide, fun c hc => pqs.mp hc⟩
   ·exact ⟨[46, 47, 123, 125, 126, 97, 98], congrArg V.str (by decide +kernel), by decide, by decide, by decide⟩
  obtain ⟨pl, rfl, hp0, hp94, hpl⟩ := hpool
  refine ⟨_, _, .inl (.of e1), hat, ⟨by decide, by decide⟩, by decide, by omega, by omega, ?_⟩
  refine bqG (fun j σ H2 => H2 = H1 ∧ ∃ (w : List Nat) (v3 : Option V), σ = [some (.int c), some (tV pl), some (tV w), v3] ∧ w.length = j ∧ ∀ c ∈ w, isSg c = true) ⟨rfl, [], none, rfl, rfl, by simp⟩ ?_ ?_
  ·rintro j σ H2 hj ⟨rfl, w, v3, rfl, hwl, hw⟩
   have hj5 : j = 0 ∨ j = 1 ∨ j = 2 ∨ j = 3 ∨ j = 4 := by omega
   have hb : 0 < 30 + 17 * (0 + (j : Int)) * (0 + (j : Int)) ∧ 30 + 17 * (0 + (j : Int)) * (0 + (j : Int)) < 1073741824 := by
    rcases hj5 with rfl | rfl | rfl | rfl | rfl <;> decide
   obtain ⟨d, hd, hda⟩ := gq6 pl (c / (30 + 17 * (0 + (j : Int)) * (0 + (j : Int)))) (pl.length : Int) (by omega) (by omega)
   walk_at "rd"
   refine ⟨.inl ⟨by decide, by decide⟩, .inr ⟨by omega, by omega⟩, hb, aqu (by omega), by omega, d, aqu (by omega), hda, aqu (by omega), w ++ [d], _, ⟨by simp, rfl⟩, by rw [List.length_append, List.length_singleton, hwl], fun e he => ?_⟩
   rcases List.mem_append.mp he with z | z
   ·exact hw e z
   ·rw [List.mem_singleton.mp z]; exact hpl d hd
  ·rintro σ H2 ⟨rfl, w, v3, rfl, hwl, hw⟩
   walk_at "rd"
   exact k w H2 (by omega) hw s1
theorem hqp (g : G w K mg) : FnOk P w K mg base CX0 2 g.cqW g.cqa ["_law_pattern_here", "_law_way"] (hqg K) := by
 refine g.dqK.ok aqB (fun vs H Q E h => ?_) (fun cdv A outer s H vs Q E hr h => ?_)
 ·obtain ⟨cs, cl, r, e, p, pw, ps, ss, rfl, _⟩ := h; rfl
 ·obtain ⟨cs, cl, r, e, p, pw, ps, ss, rfl, ⟨q, xs, hp, hq, hx⟩, hok, hsg, hcl, hpw, hps, hss, hsl, k0, k⟩ := h
  refine ⟨_, (aqd (hqQ (pv 0) (dqm (n := 2) (K := K) rfl rfl (aqH (aqz (i := 2) aqB.nd rfl (Or.inl rfl)) (aqH (aqz (i := 3) aqB.nd rfl (Or.inl rfl)) cqY))))
   (aqd (hqQ (pv 1) (dqm (n := 3) (K := K) rfl rfl (aqH (aqz (i := 4) aqB.nd rfl (Or.inl rfl)) (aqH (aqz (i := 5) aqB.nd rfl (Or.inl rfl)) (aqH (aqz (i := 6) aqB.nd rfl (Or.inl rfl)) cqY)))))
   (aqQ (aqt (i := 7) aqB.nd rfl (Or.inl rfl) (iqe (aq0 (fqe hr.units) (pv 2) (aqM aqb) (nomark _)) (fqn (aq0 aqW (aqo (aqe (K := K) rfl) (aqo (aqe (K := K) rfl) (pv 2) (kqa gqJ aqc) (fun _ _ => rfl)) aqc (fun _ _ => rfl)) aqp (nomark _)))))
   (aqQ (aqJ (PW.pt (dq9 (cq8 (bqC (pv 4))) (dq9 (aqj eqR (pv 6) (pv 3) (nomark _)) (dq9 (aqj iq0 (aql (aqk (K := K) rfl) rfl g.aqS PySem.boot_len (aqa (pv 5) aqb)) (aql (aqk (K := K) rfl) rfl g.aqS PySem.boot_len (aqa (pv 2) aqb)) (nomark _)) (eqa (PW.pt (dqx (aqj lq0 (aql (aqk (K := K) rfl) rfl g.aqS PySem.boot_len (aqa (pv 5) aqb)) (aql (aqk (K := K) rfl) rfl g.aqS PySem.boot_len (aqa (pv 2) aqb)) (nomark _)) (cqw (cq8 (bqC (pv 7)))))))))))
    (aqf (aqr bq0)) aqs)
   (aqd (aqt (i := 8) aqB.nd rfl (Or.inl rfl) (aqD aqb))
   (aqd (bq1 PassesOwn.never rfl (iqJ (K := K) rfl rfl g.cqx (aqa (pv 5) aqb)) (dqm (n := 2) (K := K) rfl rfl (aqH (aqz (i := 9) aqB.nd rfl (Or.inl rfl)) (aqH (aqz (i := 10) aqB.nd rfl (Or.inl rfl)) cqY)))
   (aqd (aqt (i := 11) aqB.nd rfl (Or.inl rfl) (aqo (aqe (K := K) rfl) (pv 2) (aql (kqR rfl) rfl g.pq6 PyProof.Rows.boot_min (aqa (pv 9) (aqa (aqn gqX (aql (aqk (K := K) rfl) rfl g.aqS PySem.boot_len (aqa (pv 2) aqb)) aqc) aqb))) (fun _ _ => rfl)))
   (aqd (aqt (i := 12) aqB.nd rfl (Or.inl rfl) (aqm (eqn g) (hr.mono (by decide)) rfl g.cqT g.bqA.kp g.cqV .nil pass0 (aqa (pv 11) (aqa (pv 10) aqb))))
   (aqd (aqJ (aqj jqa (pv 12) bq0 (nomark _))
    (aqf (aqr bq0)) aqs)
   (aqf (aqJ (PW.pt (dqx (aqj aqW (aqo (aqe (K := K) rfl) (pv 11) aqc (fun _ _ => rfl)) aqp (nomark _)) (cqw (aqj pq1 (pv 9) (aql (aqk (K := K) rfl) rfl g.aqS PySem.boot_len (aqa (pv 2) aqb)) (nomark _)))))
    (aqf (bqX (cqt (K := K) rfl PySem.F.plainAttrs_list PySem.F.slot_list_append PySem.F.type_list_append aqV (aqo (aqe (K := K) rfl) (aqo (aqe (K := K) rfl) (pv 8) (kqa gqJ aqc) (fun _ _ => rfl)) aqc (fun _ _ => rfl)) (aqa (pv 10) aqb)))) (aqf (aqJ (aqj aqW (aqo (aqe (K := K) rfl) (pv 11) aqc (fun _ _ => rfl)) aqp (nomark _))
    (aqf (bqX (cqt (K := K) rfl PySem.F.plainAttrs_list PySem.F.slot_list_append PySem.F.type_list_append aqV (pv 8) (aqa (aqM (aqa (aqo (aqe (K := K) rfl) (pv 11) aqc (fun _ _ => rfl)) (aqa (aqD (aqa (pv 10) aqb)) aqb))) aqb)))) (aqf (aqJ (aqj eqR (aqo (aqe (K := K) rfl) (pv 11) aqc (fun _ _ => rfl)) aqp (nomark _))
    (aqf (bqX (cqt (K := K) rfl PySem.F.plainAttrs_list PySem.F.slot_list_append PySem.F.type_list_append aqV (pv 8) (aqa (aqM (aqa (aqm (gqp g) (hr.mono (by decide)) rfl g.eqb g.cqZ.kp g.eqc .nil pass0 (aqa (pv 11) aqb)) (aqa (aqo (aqe (K := K) rfl) (pv 12) aqc (fun _ _ => rfl)) aqb))) aqb)))) aqs))))))))))
   (aqf (aqr (pv 8))))))))), ?_⟩
  walk_at "rd"
  have hxl := hx.length
  refine ⟨p, _, rfl, .of hp, rfl, _, _, rfl, _, _, rfl, rfl, pw, _, rfl, .of hpw, rfl, _, _, rfl, _, _, rfl, _, _, rfl, rfl, ?_⟩
  refine ⟨fun σ H1 => Same H H1 ∧ σ = [some (.ref p), some (.ref pw), some (.ref q), some (.bl cl), some (.bl r), some (.ref ps), some (.bl e), some (.bl (hasRest cs)), none, none, none, none, none], ⟨by decide, fun p1 H1 n1 s1 hp1 => ?_⟩, ?_⟩
  ·have hx1 := hx.mono s1.toT
   refine ⟨.tuple (cs.map pcD), .tuple [], .tup (s1 _ _ hq) hx1.isT.is, .tup hp1 .nil, (jqF hsg).shaped (by decide), by decide +kernel, _, rfl, ?_⟩
   rw [oq4]
   refine ite2 (fun hne => ?_) (fun he => ⟨s1, ?_⟩)
   ·obtain ⟨c, hc⟩ : ∃ c, cs.getLast? = some c := by
     cases hcl : cs.getLast? with
     | some c => exact ⟨c, rfl⟩
     | none => rw [List.getLast?_eq_none_iff] at hcl; subst hcl; cases hne
    obtain ⟨v, hv, pc, rfl, hpc⟩ := (hx1.all (K := K)).last hc
    walk_at "rd"
    refine ⟨_, _, .inr (.of (s1 _ _ hq)), hv, ?_⟩
    walk_at "rd"
    refine ⟨_, _, .inr hpc, c.at0, aqv.mpr ⟨s1, ?_⟩⟩
    rw [eq3, show hasRest cs = c.isRest by unfold hasRest; rw [hc]]
   ·cases cs with
    | nil => rfl
    | cons a b => exact absurd rfl he
  rintro σ H1 ⟨s1, rfl⟩
  have hq1 := s1 _ _ hq
  have hps1 := s1 _ _ hps
  have hml : (ss.map tV).length = ss.length := List.length_map ..
  have no : (∀ ms, spreadM cs ss.length = some ms → False) ∨ r = false ∨ e ≠ cl → fitsP cs cl r ss e = false := fun h => by
   cases hf : fitsP cs cl r ss e with
   | false => rfl
   | true =>
    obtain ⟨ms, a1, a2, a3, _⟩ := gqf.mp hf
    rcases h with h | h | h
    ·exact (h ms a1).elim
    ·rw [a2] at h; cases h
    ·exact absurd a3 h
  walk_at "rd"
  refine ⟨fun σ H2 => H2 = H1 ∧ σ = [some (.ref p), some (.ref pw), some (.ref q), some (.bl cl), some (.bl r), some (.ref ps), some (.bl e), some (.bl (hasRest cs)), none, none, none, none, none] ∧ r = true ∧ e = cl ∧ ∃ ms, spreadM cs ss.length = some ms, ?_, ?_⟩
  ·refine ite2 (fun hr => k0 (no (.inr (.inl hr))) H1 s1) (fun hr => ite2 (fun he => k0 (no (.inr (.inr he))) H1 s1) (fun he => ⟨_, .inr (.of hps1), _, .inr (.of hq1), ?_⟩))
   have hr' : r = true := by simpa using hr
   have he' : e = cl := Classical.not_not.mp he
   rw [hml, hxl]
   refine ite2 (fun hlt => k0 (no (.inl fun ms hm => ?_)) H1 s1) (fun hge => ⟨_, .inr (.of hps1), _, .inr (.of hq1), ?_⟩)
   ·rcases fqQ hm with z | z <;> omega
   rw [hml, hxl]
   refine ite2 (fun hgt => ite2 (fun hrs => k0 (no (.inl fun ms hm => ?_)) H1 s1) (fun hrs => ⟨rfl, rfl, hr', he', gqm (.inl ⟨by simpa using hrs, by omega⟩)⟩)) (fun hle => ⟨rfl, rfl, hr', he', gqm (.inr (by omega))⟩)
   rcases fqQ hm with z | z
   ·omega
   ·rw [z.1] at hrs; cases hrs
  rintro σ H2 ⟨rfl, rfl, rfl, rfl, ms, hms⟩
  walk_at "rd"
  refine ⟨by decide, fun l H3 n3 s3 e3 => ⟨ps, _, rfl, .of (s3 _ _ hps1), ?_⟩⟩
  have nl : H l = none := bqS s1 n3
  have hle : cs.length ≤ ss.length := by rcases fqQ hms with z | z <;> omega
  have bad : ∀ {i : Nat} {c : Pc} {s : List Nat}, ms[i]? = some c → ss[i]? = some s → fitsM c s = false → fitsP cs e true ss e = false := fun hc hs hf => by
   cases h : fitsP cs e true ss e with
   | false => rfl
   | true =>
    obtain ⟨ms', a1, _, _, a4⟩ := gqf.mp h
    rw [hms] at a1
    cases a1
    rw [a4 _ _ _ hc hs] at hf
    cases hf
  refine fq0 (fun i σ H' => ∃ (ys : List V) (v9 v10 v11 v12 : Option V), σ = [some (.ref p), some (.ref pw), some (.ref q), some (.bl e), some (.bl true), some (.ref ps), some (.bl e), some (.bl (hasRest cs)), some (.ref l), v9, v10, v11, v12] ∧ H' l = some (.lst ys) ∧ BndV H' l (boundM (cs.take i) (ss.take i)) ys ∧ FrB H H' ys ∧ Same H H' ∧ ∀ (j : Nat) (c : Pc) (s : List Nat), j < i → ms[j]? = some c → ss[j]? = some s → fitsM c s = true) ⟨[], none, none, none, none, rfl, e3, .nil, (show FrB H H3 [] from fun v hv => by cases hv), s1.trans s3, fun j c s h => by omega⟩ (fun i σ H' _ h => by obtain ⟨_, _, _, _, _, _, _, _, _, hh, _⟩ := h; exact .of (hh _ _ hps)) ?_ ?_
  rotate_left
  ·rintro σ H4 ⟨ys, v9, v10, v11, v12, rfl, hl4, hB, hF, s4, hfit⟩
   walk_at "rd"
   rw [hml, List.take_length, List.take_of_length_le hle] at hB
   refine k (gqf.mpr ⟨ms, hms, rfl, rfl, fun j c s hc hs => hfit j c s ?_ hc hs⟩) l ys H4 s4 hl4 hB
   have := (List.getElem?_eq_some_iff.mp hs).1
   rw [hml]
   exact this
  rintro i v σ H4 T hv ⟨ys, v9, v10, v11, v12, rfl, hl4, hB, hF, s4, hfit⟩ hT
  obtain ⟨s, hs, rfl⟩ : ∃ s, ss[i]? = some s ∧ v = tV s := by
   rw [List.getElem?_map] at hv
   cases h : ss[i]? with
   | none => rw [h] at hv; cases hv
   | some s => rw [h] at hv; cases hv; exact ⟨s, rfl, rfl⟩
  have hi : i < ss.length := (List.getElem?_eq_some_iff.mp hs).1
  obtain ⟨c, hc, hmc⟩ := lqC hms hi
  have st : Same H4 (upd H4 T (.tup [.int (i : Int), tV s])) := aq5 hT
  walk_at "rd"
  refine ⟨T, _, rfl, .of aqq, rfl, _, _, rfl, _, _, rfl, rfl, ?_⟩
  generalize upd H4 T (.tup [.int (i : Int), tV s]) = H5 at st
  walk_at "rd"
  have u5 := s4.trans st
  have hq5 := u5 _ _ hq
  have hl5 := st _ _ hl4
  have hB5 := hB.mono st
  have hF5 := hF.mono st.toT
  have hmi := (List.getElem?_eq_some_iff.mp hc).1
  obtain ⟨w, hw⟩ : ∃ w, xs[min i (cs.length - 1)]? = some w := ⟨_, List.getElem?_eq_getElem (by rw [hxl]; exact hmi)⟩
  obtain ⟨c', pc, hc', rfl, hpc⟩ := hx.get hw
  rw [hc] at hc'
  cases hc'
  obtain ⟨⟨sne, ssg⟩, sl3⟩ := hss s (List.mem_of_getElem? hs)
  have hyl := hB.length
  have hbl := dq8 (cs.take i) (ss.take i)
  have hbl2 : (cs.take i).length ≤ 12 := by rw [List.length_take]; omega
  have hlen : ys.length < sizeLine := Nat.lt_of_le_of_lt (show ys.length ≤ 12 by omega) (by decide)
  refine ⟨_, .inr (.of hq5), _, _, ⟨rfl, rfl⟩, _, _, .inr (.of hq5), ?_, c, pc, s, rfl, .of (u5 _ _ hpc), hok.1 c (List.mem_of_getElem? hc), List.length_pos_iff.mpr sne, by omega, ssg, fun hf H6 s6 => ?_, fun hf lv H6 n6 s6 e6 => ?_⟩
  ·rw [hxl, show (if ((cs.length : Int) - 1) < (i : Int) then ((cs.length : Int) - 1) else (i : Int)) = ((min i (cs.length - 1) : Nat) : Int) by split <;> omega]
   exact aqi hw
  ·exact ite2 (fun _ => k0 (bad hmc hs hf) H6 (u5.trans s6)) (fun z => absurd rfl z)
  have u6 := u5.trans s6
  have fit : ∀ (j : Nat) (d : Pc) (t : List Nat), j < i + 1 → ms[j]? = some d → ss[j]? = some t → fitsM d t = true := fun j d t hj hd ht => by
   by_cases hji : j < i
   ·exact hfit j d t hji hd ht
   ·have : j = i := by omega
    subst this
    rw [hmc] at hd
    rw [hs] at ht
    cases hd
    cases ht
    exact hf
  refine ite2 (fun z => by cases z) (fun _ => ?_)
  walk_at "rd"
  refine ⟨_, _, .inr (.of (u6 _ _ hpc)), c.at0, aqv.mpr ⟨_, rfl, ?_⟩⟩
  rw [eq3]
  have hl6 := s6 _ _ hl5
  have hB6 := hB5.mono s6
  have hF6 := hF5.mono s6.toT
  have hpc6 := u6 _ _ hpc
  have one : i < cs.length → boundM (cs.take (i + 1)) (ss.take (i + 1)) = boundM (cs.take i) (ss.take i) ++ (if c.isStep then [] else [(c.name, bvM c [s])]) := fun hic => by
   rw [Nat.min_eq_left (by omega)] at hc
   exact kqx hc hs fun j d hj hd => by
    cases hr : d.isRest with
    | false => rfl
    | true => have := hok.2 j d hd hr; omega
  refine ite2 (fun hrest => ⟨_, .inr (.of (u6 _ _ hq)), ?_⟩) (fun hrest => ⟨_, _, .inr (.of hpc6), c.at0, aqv.mpr ⟨_, rfl, ?_⟩⟩)
  ·rw [hxl]
   refine ite2 (fun hge => ?_) (fun hlt => ⟨_, _, .inr (.of hpc6), c.at0, aqv.mpr ⟨_, rfl, ?_⟩⟩)
   ·obtain ⟨a0, nm, ecs, hnr⟩ := kqT hok (jq5 hok.2 hc hrest)
    have hal : cs.length = a0.length + 1 := by rw [ecs, List.length_append, List.length_singleton]
    have g1 := gqK (nm := nm) (ss := ss) (k := i) hnr (by omega) (by omega)
    have g2 := gqK (nm := nm) (ss := ss) (k := i + 1) hnr (by omega) (by omega)
    rw [List.take_of_length_le (l := cs) (i := i) (by omega), ecs, g1] at hB6
    obtain ⟨y0, pp, w', rfl, hB0, hpp, hvl, hne⟩ := hB6.snoc_inv
    obtain ⟨qq, rfl, hqq⟩ := hvl
    obtain ⟨p', a', w', z1, z2, z3⟩ := hF6 (.ref pp) (by simp)
    cases z1
    rw [hpp] at z2
    cases z2
    have hqn := z3 qq rfl
    refine ⟨_, _, .inl (.of hl6), L2.hqJ _ _, ?_⟩
    walk_at "rd"
    refine ⟨_, _, .inr (.of hpp), aqi (j := 1) rfl, ?_⟩
    walk_at "rd"
    refine ⟨⟨_, .of hqq⟩, _, hqq, ?_, y0 ++ [.ref pp], _, _, _, _, ⟨rfl, rfl, rfl, rfl⟩, by rw [aqx (Ne.symm (hne qq rfl))]; exact hl6, ?_, hF6.mono (bqU hqq), bqg hqn u6, fit⟩
    ·rw [List.length_map, List.length_drop, List.length_take]
     exact Nat.lt_of_le_of_lt (show min i ss.length - a0.length ≤ 200 by omega) (by decide)
    rw [List.take_of_length_le (l := cs) (i := i + 1) (by omega), ecs, g2]
    have ed : (ss.take (i + 1)).drop a0.length = (ss.take i).drop a0.length ++ [s] := by
     rw [List.take_add_one, hs, List.drop_append_of_le_length (by rw [List.length_take]; omega)]
     rfl
    rw [ed]
    exact (hB0.upd2 hqq (eq8 hnr)).snoc (x := .lst ((ss.take i).drop a0.length ++ [s])) (by rw [aqx (mq7 hpp hqq (by intro z; cases z))]; exact hpp) ⟨qq, rfl, by rw [aqq, List.map_append]; rfl⟩ hne
   ·rw [eq3, hrest]
    have o1 := one (by omega)
    cases c with
    | rest nm =>
     rw [if_neg (by intro z; cases z)] at o1
     refine ite2 (fun _ => ⟨⟨_, .of hl6⟩, _, _, .inr (.of hpc6), aqi (j := 1) rfl, by decide, fun p7 H7 n7 s7 e7 => ⟨by decide, fun p8 H8 n8 s8 e8 => ?_⟩⟩) (fun z => absurd rfl z)
     have u68 := s7.trans s8
     have hl8 := u68 _ _ hl6
     have n7l : p7 ≠ l := fun z => by rw [z, hl6] at n7; cases n7
     refine ⟨_, hl8, hlen, ys ++ [.ref p8], _, _, _, _, ⟨rfl, rfl, rfl, rfl⟩, aqq, ?_, ((hF6.mono u68.toT).snoc e8 (fun q z => by cases z; exact bqS u6 n7)).mono (bqU hl8), bqg nl (u6.trans u68), fit⟩
     rw [o1]
     exact ((hB6.mono u68).snoc (x := .lst [s]) e8 ⟨p7, rfl, s8 _ _ e7⟩ (fun q z => by cases z; exact n7l)).upd hl8
    | _ => cases hrest
  ·rw [eq3]
   have hic : i < cs.length := by
    rcases (gqQ hms).2 i hi with z | ⟨_, _, d, z1, z2, _⟩
    ·exact z.1
    ·rw [hmc] at z1
     cases z1
     exact absurd z2 hrest
   have o1 := one hic
   refine ite2 (fun z => absurd z hrest) (fun _ => ⟨_, _, .inr (.of hpc6), c.at0, eqo.mpr ⟨_, rfl, ?_⟩⟩)
   rw [gqh]
   refine ite2 (fun hst => ⟨⟨_, .of hl6⟩, c, pc, rfl, .of hpc6, by simpa using hst, _, _, .inl (.of e6), aqi (j := 0) rfl, by decide, fun p7 H7 n7 s7 e7 => ?_⟩) (fun hst => ?_)
   ·have hst' : c.isStep = false := by simpa using hst
    have hl7 := s7 _ _ hl6
    have hpv : (∀ H : Hp, VlV H (bvM c [s]) (pvV c s)) ∧ ∀ q, pvV c s = .ref q → False := by
     cases c with
     | step w => cases hst'
     | rest n => exact absurd rfl hrest
     | part h n t => exact ⟨fun _ => rfl, fun q z => by cases z⟩
     | num n => exact ⟨fun _ => rfl, fun q z => by cases z⟩
     | word n => exact ⟨fun _ => by show tV s = tV (amid [] [] s); rw [jqs], fun q z => by cases z⟩
     | gap n => exact ⟨fun _ => by show tV s = tV (amid [] [] s); rw [jqs], fun q z => by cases z⟩
    rw [hst', if_neg (by decide)] at o1
    refine ⟨_, hl7, hlen, ys ++ [.ref p7], _, _, _, _, ⟨rfl, rfl, rfl, rfl⟩, aqq, ?_, ((hF6.mono s7.toT).snoc e7 (fun q z => (hpv.2 q z).elim)).mono (bqU hl7), bqg nl (u6.trans s7), fit⟩
    rw [o1]
    exact ((hB6.mono s7).snoc e7 (hpv.1 _) (fun q z => (hpv.2 q z).elim)).upd hl7
   ·have hst' : c.isStep = true := by simpa using hst
    rw [hst', if_pos rfl, List.append_nil] at o1
    exact ⟨ys, _, _, _, _, ⟨rfl, rfl, rfl, rfl⟩, hl6, by rw [o1]; exact hB6, hF6, u6, fit⟩
theorem iql (g : G w K mg) : FnOk P w K mg base CX0 3 g.dqh g.cqE ["piece", "step"] (hqZ K) := by
 refine g.eql.ok iqf (fun vs H Q E h => ?_) (fun cdv A outer s H vs Q E hr h => ?_)
 ·obtain ⟨c, s, p, rfl, _⟩ := h; rfl
 ·obtain ⟨c, s, p, rfl, hp, hs, hh, ht, k⟩ := h
  refine ⟨_, (aqd (aqJ (bqC (aqm (lqB g) (hr.mono (by decide)) rfl g.jqg g.hqG.kp g.jqD .nil pass0 (aqa (pv 1) aqb)))
    (aqf (aqr eqh)) aqs)
   (aqd (aqJ (aqj aqW (aqo (aqe (K := K) rfl) (pv 0) aqc (fun _ _ => rfl)) aqp (nomark _))
    (aqf (aqr (aq0 aqW (pv 1) (aqo (aqe (K := K) rfl) (pv 0) aqc (fun _ _ => rfl)) (nomark _)))) aqs)
   (aqd (aqJ (aqj aqW (aqo (aqe (K := K) rfl) (pv 0) aqc (fun _ _ => rfl)) aqp (nomark _))
    (aqf (aqr (aqm (iqx g) (hr.mono (by decide)) rfl g.fq7 g.eqj.kp g.gqo .nil pass0 (aqa (pv 0) (aqa (pv 1) aqb))))) aqs)
   (aqd (aqJ (aqj aqW (aqo (aqe (K := K) rfl) (pv 0) aqc (fun _ _ => rfl)) aqp (nomark _))
    (aqf (aqr (aqm (iqG g) (hr.mono (by decide)) rfl g.fqT g.eqm.kp g.gqr .nil pass0 (aqa (pv 1) aqb)))) aqs)
   (aqf (aqr (cqC (aqj aqW (aqo (aqe (K := K) rfl) (pv 0) aqc (fun _ _ => rfl)) aqp (nomark _)) (aqm (kqg g) (hr.mono (by decide)) rfl g.iqa g.fqN.kp g.iqo .nil pass0 (aqa (pv 1) aqb)) eqh))))))), ?_⟩
  walk_at "rd"
  refine ⟨s, rfl, _, rfl, ?_⟩
  have kk := k
  by_cases hdt : isDot s = true
  ·rw [if_pos hdt]
   have e : fitsM c s = false := by unfold fitsM; rw [hdt]; rfl
   rw [e] at k
   exact k H (Same.refl _)
  rw [if_neg hdt]
  have hdf : isDot s = false := by simpa using hdt
  refine ⟨_, _, .inr hp, c.at0, ?_⟩
  refine L2.aqv.mpr ⟨_, rfl, ?_⟩
  rw [gqh]
  cases c with
  | step w =>
   refine ite2 (fun _ => ⟨_, _, .inr hp, aqi (j := 1) rfl, ?_⟩) (fun z => absurd rfl z)
   refine L2.aqv.mpr ?_
   have e : fitsM (.step w) s = decide ((⟨s.toArray⟩ : Str) = ⟨w.toArray⟩) := by
    unfold fitsM; rw [hdf]
    show decide (s = w) = _
    exact decide_eq_decide.mpr dqw.symm
   rw [← e]
   exact k H (Same.refl _)
  | part h n t =>
   refine ite2 (fun z => by cases z) (fun _ => ⟨_, _, .inr hp, Pc.at0 _, ?_⟩)
   refine L2.aqv.mpr ⟨_, rfl, ?_⟩
   rw [cqq]
   refine ite2 (fun _ => ?_) (fun z => absurd rfl z)
   have e : fitsM (.part h n t) s = partB h t s := by unfold fitsM; rw [hdf]; rfl
   exact ⟨h, n, t, s, p, rfl, hp, hs, hh, ht, by rw [← e]; exact k H (Same.refl _)⟩
  | num n =>
   refine ite2 (fun z => by cases z) (fun _ => ⟨_, _, .inr hp, Pc.at0 _, ?_⟩)
   refine L2.aqv.mpr ⟨_, rfl, ?_⟩
   rw [cqq]
   refine ite2 (fun z => by cases z) (fun _ => ⟨_, _, .inr hp, Pc.at0 _, ?_⟩)
   refine L2.aqv.mpr ⟨_, rfl, ?_⟩
   rw [cqr]
   refine ite2 (fun _ => ?_) (fun z => absurd rfl z)
   have e : fitsM (.num n) s = numB s := by unfold fitsM; rw [hdf]; rfl
   exact ⟨s, rfl, hs, fun H' sm => by rw [← e]; exact k H' sm⟩
  | word n =>
   refine ite2 (fun z => by cases z) (fun _ => ⟨_, _, .inr hp, Pc.at0 _, ?_⟩)
   refine L2.aqv.mpr ⟨_, rfl, ?_⟩
   rw [cqq]
   refine ite2 (fun z => by cases z) (fun _ => ⟨_, _, .inr hp, Pc.at0 _, ?_⟩)
   refine L2.aqv.mpr ⟨_, rfl, ?_⟩
   rw [cqr]
   refine ite2 (fun z => by cases z) (fun _ => ⟨_, _, .inr hp, Pc.at0 _, ?_⟩)
   refine L2.aqv.mpr ⟨_, rfl, ?_⟩
   rw [iq3]
   refine ite2 (fun _ => ?_) (fun z => absurd rfl z)
   have e : fitsM (.word n) s = wordB s := by unfold fitsM; rw [hdf]; rfl
   exact ⟨s, rfl, hs, fun H' sm => by rw [← e]; exact k H' sm⟩
  | _ =>
   refine ite2 (fun z => by cases z) (fun _ => ⟨_, _, .inr hp, Pc.at0 _, ?_⟩)
   refine L2.aqv.mpr ⟨_, rfl, ?_⟩
   rw [cqq]
   refine ite2 (fun z => by cases z) (fun _ => ⟨_, _, .inr hp, Pc.at0 _, ?_⟩)
   refine L2.aqv.mpr ⟨_, rfl, ?_⟩
   rw [cqr]
   refine ite2 (fun z => by cases z) (fun _ => ⟨_, _, .inr hp, Pc.at0 _, ?_⟩)
   refine L2.aqv.mpr ⟨_, rfl, ?_⟩
   rw [iq3]
   refine ite2 (fun z => by cases z) (fun _ => ?_)
   have e := k H (Same.refl _)
   unfold fitsM at e
   rw [hdf] at e
   exact e
theorem gq5 (g : G w K mg) : FnOk P w K mg base CX0 3 g.cqS g.cqg ["one", "other"] (hqe K) := by
 refine g.dqL.ok dqi (fun vs H Q E h => ?_) (fun cdv A outer s H vs Q E hr h => ?_)
 ·obtain ⟨cs, ds, xs, ys, p, q, p', q', e, e', rfl, _⟩ := h; rfl
 ·obtain ⟨cs, ds, xs, ys, p, q, p', q', e, e', rfl, hp, hq, hx, hp', hq', hy, hcl, hdl, oc, od, k⟩ := h
  refine ⟨_, (aqd (bq1 PassesOwn.never rfl (nqc (K := K) rfl rfl g.oqp (aqa (aqo (aqe (K := K) rfl) (pv 0) (aqY (v := dqn) rfl g.cqR ⟨_, rfl⟩) (fun _ _ => rfl)) (aqa (aqo (aqe (K := K) rfl) (pv 1) (aqY (v := dqn) rfl g.cqR ⟨_, rfl⟩) (fun _ _ => rfl)) aqb))) (dqm (n := 2) (K := K) rfl rfl (aqH (aqz (i := 2) dqi.nd rfl (Or.inl rfl)) (aqH (aqz (i := 3) dqi.nd rfl (Or.inl rfl)) cqY)))
   (aqf (aqJ (aqj (fqe hr.units) (aqm (dqq g) (hr.mono (by decide)) rfl g.cq0 g.cqk.kp g.cq9 .nil pass0 (aqa (pv 2) aqb)) (aqm (dqq g) (hr.mono (by decide)) rfl g.cq0 g.cqk.kp g.cq9 .nil pass0 (aqa (pv 3) aqb)) (nomark _))
    (aqf (aqr (aq0 (pqe (K := K) rfl hr.units) (aqm (dqq g) (hr.mono (by decide)) rfl g.cq0 g.cqk.kp g.cq9 .nil pass0 (aqa (pv 2) aqb)) (aqm (dqq g) (hr.mono (by decide)) rfl g.cq0 g.cqk.kp g.cq9 .nil pass0 (aqa (pv 3) aqb)) (nomark _)))) aqs)))
   (aqf (aqr (aq0 iq0 (aql (aqk (K := K) rfl) rfl g.aqS PySem.boot_len (aqa (aqo (aqe (K := K) rfl) (pv 0) (aqY (v := dqn) rfl g.cqR ⟨_, rfl⟩) (fun _ _ => rfl)) aqb)) (aql (aqk (K := K) rfl) rfl g.aqS PySem.boot_len (aqa (aqo (aqe (K := K) rfl) (pv 1) (aqY (v := dqn) rfl g.cqR ⟨_, rfl⟩) (fun _ _ => rfl)) aqb)) (nomark _))))), ?_⟩
  walk_at "rd"
  have hxl := hx.length
  have hyl := hy.length
  refine ⟨_, _, .inr hp, aqi (j := 0) rfl, _, _, .inr hp', aqi (j := 0) rfl, q, q', xs, ys, ⟨rfl, rfl⟩, hq, hq', ?_⟩
  refine mq3 (fun i σ H' => Same H H' ∧ ∃ v2 v3 : Option V, σ = [some (.ref p), some (.ref p'), v2, v3] ∧ moreM cs ds = moreM (cs.drop i) (ds.drop i)) ⟨Same.refl _, none, none, rfl, rfl⟩ (fun i σ H' hi ⟨s, _⟩ => ⟨s.tup hq, s.tup hq'⟩) ?_ ?_
  ·rintro i x y σ H1 T hxi hyi ⟨s1, v2, v3, rfl, hm⟩ hT
   obtain ⟨c, pc, hc, rfl, hpc⟩ := hx.get hxi
   obtain ⟨d, pd, hd, rfl, hpd⟩ := hy.get hyi
   have s2 := s1.trans (aq5 (o := .tup [.ref pc, .ref pd]) hT)
   refine ⟨T, _, rfl, .of aqq, rfl, _, _, rfl, _, _, rfl, rfl, ?_⟩
   walk_at "rd"
   generalize upd H1 T (.tup [.ref pc, .ref pd]) = H2 at s2
   have ocx := oc c (List.mem_of_getElem? hc)
   have odx := od d (List.mem_of_getElem? hd)
   refine ⟨c, pc, rfl, s2.tup hpc, ocx, fun r3 H3 s3 hr3 => ?_⟩
   have s23 := s2.trans s3
   refine ⟨d, pd, rfl, s23.tup hpd, odx, fun r4 H4 s4 hr4 => ?_⟩
   have s24 := s23.trans s4
   refine ⟨.tuple ((worthM c).map PyData.int), .tuple ((worthM d).map PyData.int), .tup (s4 _ _ hr3) (dq5 _), .tup hr4 (dq5 _), fq3 _, fq3 _, _, rfl, ?_⟩
   rw [mqi]
   have ec : cs.drop i = c :: cs.drop (i + 1) := by obtain ⟨h1, h2⟩ := List.getElem?_eq_some_iff.mp hc; rw [← h2]; exact List.drop_eq_getElem_cons h1
   have ed : ds.drop i = d :: ds.drop (i + 1) := by obtain ⟨h1, h2⟩ := List.getElem?_eq_some_iff.mp hd; rw [← h2]; exact List.drop_eq_getElem_cons h1
   have hm2 : moreM cs ds = if worthM c = worthM d then moreM (cs.drop (i + 1)) (ds.drop (i + 1)) else HT.lexLt (worthM d) (worthM c) := by rw [hm, ec, ed]; rfl
   refine ite2 (fun hne => ?_) (fun hne => ?_)
   ·have hne : ¬ worthM c = worthM d := by simpa using hne
    refine ⟨c, pc, rfl, s24.tup hpc, ocx, fun r5 H5 s5 hr5 => ⟨d, pd, rfl, (s24.trans s5).tup hpd, odx, fun r6 H6 s6 hr6 => ?_⟩⟩
    refine ⟨r5, r6, worthM c, worthM d, rfl, rfl, .of (s6 _ _ hr5), .of hr6, ?_⟩
    rw [if_neg hne] at hm2
    rw [← hm2]
    exact k H6 ((s24.trans s5).trans s6)
   ·have hne : worthM c = worthM d := by simpa using hne
    rw [if_pos hne] at hm2
    exact ⟨s24, _, _, ⟨rfl, rfl⟩, hm2⟩
  ·rintro σ H1 ⟨s1, v2, v3, rfl, hm⟩
   walk_at "rd"
   refine ⟨_, _, .inr (s1.tup hp), aqi (j := 0) rfl, xs, .inr (s1.tup hq), _, _, .inr (s1.tup hp'), aqi (j := 0) rfl, ys, .inr (s1.tup hq'), ?_⟩
   have e1 : moreM cs ds = decide ((xs.length : Int) < (ys.length : Int)) := by
    rw [hm, hxl, hyl]
    have hor : cs.drop (min cs.length ds.length) = [] ∨ ds.drop (min cs.length ds.length) = [] := by simp only [List.drop_eq_nil_iff]; omega
    have hl : (cs.drop (min cs.length ds.length)).length < (ds.drop (min cs.length ds.length)).length ↔ (cs.length : Int) < (ds.length : Int) := by
     rw [List.length_drop, List.length_drop]; omega
    rw [← decide_eq_decide.mpr hl]
    exact mqQ hor
   walk_at "rd"
   rw [← e1]
   exact k H1 s1
theorem cqz (g : G w K mg) : FnOk P w K mg base CX0 3 g.dqk g.cqI ["_law_cell"] (iqn K) := by
 refine g.bqE.ok dqH (fun vs H Q E h => ?_) (fun cdv A outer s H vs Q E hr h => ?_)
 ·obtain ⟨c, rfl, _⟩ := h; rfl
 ·obtain ⟨c, rfl, k⟩ := h
  refine ⟨_, (aqd (aqt (i := 1) dqH.nd rfl (Or.inl rfl) (aqm (cqJ g) (hr.mono (by decide)) rfl g.cqu g.bqI.kp g.cqy .nil pass0 (aqa (pv 0) aqb)))
   (aqQ (aqJ (aqj (eqW (K := K) rfl) (pv 1) (aqM (aqa aqp (aqa aqp (aqa aqp aqb)))) (by with_unfolding_all rfl))
    (aqf (aqt (i := 1) dqH.nd rfl (Or.inl rfl) (aqn (aqA (K := K)) (pv 1) (aqo (aqe (K := K) rfl) aqp (aqn aqR (aqn aqy (pv 0) aqc) aqc) (fun _ _ => rfl))))) aqs)
   (aqf (aqr (pv 1))))), ?_⟩
  have d1 : Str.ofString ".." = ⟨sUp.toArray⟩ := by decide +kernel
  have d2 : Str.ofString "." = ⟨sStay.toArray⟩ := by decide +kernel
  rw [d1, d2]
  walk_at "rd"
  refine ⟨c, rfl, fun l H1 hl hs s1 => ?_⟩
  refine ⟨fun σ H2 => Same H H2 ∧ ∃ l : List Nat, 0 < l.length ∧ l.length ≤ 5 ∧ (∀ c ∈ l, isSg c = true) ∧ isDot l = false ∧ σ = [some (.int c), some (tV l)], ?_, ?_⟩
  ·refine ⟨by decide, fun p H2 n2 s2 e2 => ?_⟩
   refine ⟨p, _, rfl, .inr (.of e2), rfl, rfl, _, rfl, ?_⟩
   show if (if false then _ else inV (sV l) [sV [], sV sStay, sV sUp]) = true then _ else _
   rw [if_neg (show ¬ false = true by decide), lqi]
   refine ite2 (fun hin => ?_) (fun hin => ?_)
   ·obtain ⟨d, hd, hda⟩ := gq6 (Str.ofString "ab1z").cps.toList (c / 30) 4 (by decide) (by decide +kernel)
    have hd' : d ≠ 46 ∧ isSg d = true := by
     rw [show (Str.ofString "ab1z").cps.toList = [97, 98, 49, 122] by decide +kernel] at hd
     simp only [List.mem_cons, List.not_mem_nil, or_false] at hd
     rcases hd with rfl | rfl | rfl | rfl <;> decide
    refine ⟨⟨by decide, by decide⟩, by decide, d, by decide +kernel, hda, ?_⟩
    walk_at "rd"
    refine ⟨aqu (by omega), s1.trans s2, l ++ [d], by simp, by simp; omega, fun e he => ?_, mqd l d hd'.1, by simp⟩
    rcases List.mem_append.mp he with z | z
    ·exact hs e z
    ·rw [List.mem_singleton.mp z]; exact hd'.2
   ·simp only [Bool.or_eq_true, decide_eq_true_eq, not_or, Bool.not_eq_true] at hin
    exact ⟨s1.trans s2, l, List.length_pos_iff.mpr hin.1, by omega, hs, hin.2, rfl⟩
  rintro σ H2 ⟨s2, l, h1, h2, h3, h4, rfl⟩
  walk_at "rd"
  exact k l H2 h1 h2 h3 h4 s2
theorem iq8 (g : G w K mg) : FnOk P w K mg base CX0 3 g.dq2 g.dql ["_law_table_here", "_law_way"] (jqb K) := by
 refine g.eqZ.ok aq7 (fun vs H Q E h => ?_) (fun cdv A outer s H vs Q E hr h => ?_)
 ·obtain ⟨l, pw, ps, T, ws, r, e, ss, rfl, _⟩ := h; rfl
 ·obtain ⟨l, pw, ps, T, ws, r, e, ss, rfl, hl, hT, hok, hTl, hpw, hps, hss, hsl, k0, k⟩ := h
  refine ⟨_, (aqd (aqt (i := 2) aq7.nd rfl (Or.inl rfl) bq0)
   (aqd (aqt (i := 3) aq7.nd rfl (Or.inl rfl) (aqD aqb))
   (aqd (bq1 PassesOwn.never rfl (fqC (K := K) rfl (pv 0)) (dqm (n := 2) (K := K) rfl rfl (aqH (aqz (i := 4) aq7.nd rfl (Or.inl rfl)) (aqH (aqz (i := 5) aq7.nd rfl (Or.inl rfl)) cqY)))
   (aqd (aqt (i := 6) aq7.nd rfl (Or.inl rfl) (aqm (hqp g) (hr.mono (by decide)) rfl g.fqi g.dqK.kp g.fqa .nil pass0 (aqa (pv 5) (aqa (pv 1) aqb))))
   (aqf (aqJ (PW.pt (dqx (aqj jqm (pv 6) bq0 (nomark _)) (cqw (aqj (oqb hr.unitsL) (aqm (eqe g) (hr.mono (by decide)) rfl g.dqb g.cqh.kp g.dqo .nil pass0 (aqa (pv 5) aqb)) (pv 3) (nomark _)))))
    (aqd (aqt (i := 2) aq7.nd rfl (Or.inl rfl) (aqM (aqa (pv 4) (aqa (pv 6) aqb))))
   (aqf (aqt (i := 3) aq7.nd rfl (Or.inl rfl) (aqm (eqe g) (hr.mono (by decide)) rfl g.dqb g.cqh.kp g.dqo .nil pass0 (aqa (pv 5) aqb))))) aqs))))
   (aqf (aqr (pv 2)))))), ?_⟩
  walk_at "rd"
  have hwl := hT.length
  refine ⟨by decide, fun l0 H1 n1 s1 hl0 => ⟨⟨_, .of (s1 _ _ hl)⟩, ?_⟩⟩
  refine fq1 (xs := ws) (fun i σ H' => Same H H' ∧ ∃ (fv : V) (lm : Addr) (us : List V) (v4 v5 v6 : Option V), σ = [some (.ref l), some (.ref pw), some fv, some (.ref lm), v4, v5, v6] ∧ H' lm = some (.lst us) ∧ DuA ss H' fv us (dueM (fitR r e ss) (T.take i))) ⟨s1, .non, l0, [], none, none, none, rfl, hl0, rfl, rfl⟩ (fun i σ H' _ h => .of (h.1 _ _ hl)) ?_ ?_
  rotate_left
  ·rintro σ H2 ⟨s2, fv, lm, us, v4, v5, v6, rfl, hlm, hD⟩
   rw [hwl, List.take_length] at hD
   walk_at "rd"
   cases hd : dueM (fitR r e ss) T with
   | none =>
    rw [hd] at hD
    rw [hD.1]
    exact k0 hd H2 s2
   | some m =>
    rw [hd] at hD
    obtain ⟨_, p, l', ys, rfl, h3, h4, h5⟩ := hD
    exact k m hd p l' ys H2 s2 h3 h4 h5
  rintro i x σ H2 hxi ⟨s2, fv, lm, us, v4, v5, v6, rfl, hlm, hD⟩
  obtain ⟨t, ht, a', p', rfl, ha', hpt⟩ := hT.get hxi
  obtain ⟨t1, t2, t3, t4⟩ := hok t (List.mem_of_getElem? ht)
  have et : T.take (i + 1) = T.take i ++ [t] := by rw [List.take_add_one, ht]; rfl
  have ed := mqH (fitR r e ss) (T.take i) t
  rw [← et] at ed
  walk_at "rd"
  refine ⟨a', _, rfl, .of (s2 _ _ ha'), rfl, _, _, rfl, _, _, rfl, rfl, ?_⟩
  refine ⟨t.2.1, t.2.2, r, e, p', pw, ps, ss, rfl, hpt.mono s2.toT, ⟨fun c hc => (t2.2 c hc).1, t3⟩, fun c hc => (t2.2 c hc).2, by omega, s2 _ _ hpw, s2 _ _ hps, hss, hsl, fun hf H3 s3 => ?_, fun hf lb yb H3 s3 hlb hB => ?_⟩
  ·have hf' : fitR r e ss t = false := hf
   rw [if_neg (by rw [hf']; decide)] at ed
   exact ite2 (fun z => absurd rfl z) (fun _ => ⟨s2.trans s3, fv, lm, us, _, _, _, ⟨rfl, rfl, rfl, rfl, rfl⟩, s3 _ _ hlm, by rw [ed]; exact hD.mono s3⟩)
  have hf' : fitR r e ss t = true := hf
  rw [if_pos hf'] at ed
  refine ite2 (fun _ => ⟨t.2.1, t.2.2, p', rfl, hpt.mono (s2.trans s3).toT, t2, fun lw uw H4 s4 hlw hall => ?_⟩) (fun z => absurd (by simp) z)
  have u4 := (s2.trans s3).trans s4
  cases hd : dueM (fitR r e ss) (T.take i) with
  | none =>
   rw [hd] at hD ed
   obtain ⟨rfl, rfl⟩ := hD
   refine ⟨lw, lm, _, [], uw, [], rfl, rfl, hlw, (s3.trans s4) _ _ hlm, hall, .nil, _, rfl, ?_⟩
   rw [pqL]
   refine ite2 (fun _ => ⟨by decide, fun p5 H5 n5 s5 h5 => ⟨t.2.1, t.2.2, p', rfl, hpt.mono (u4.trans s5).toT, t2, fun lx ux H6 s6 hlx hallx => ⟨(u4.trans s5).trans s6, .ref p5, lx, ux, _, _, _, ⟨rfl, rfl, rfl, rfl, rfl⟩, hlx, ?_⟩⟩⟩) (fun z => absurd rfl z)
   have s46 := (s4.trans s5).trans s6
   rw [ed]
   exact ⟨hallx, p5, lb, yb, rfl, s6 _ _ h5, s46 _ _ hlb, hB.mono s46⟩
  | some m =>
   rw [hd] at hD ed
   refine ⟨lw, lm, _, _, uw, us, rfl, rfl, hlw, (s3.trans s4) _ _ hlm, hall, hD.1.mono (s3.trans s4), _, rfl, ?_⟩
   rw [jqu]
   refine ite2 (fun hm => ⟨by decide, fun p5 H5 n5 s5 h5 => ⟨t.2.1, t.2.2, p', rfl, hpt.mono (u4.trans s5).toT, t2, fun lx ux H6 s6 hlx hallx => ⟨(u4.trans s5).trans s6, .ref p5, lx, ux, _, _, _, ⟨rfl, rfl, rfl, rfl, rfl⟩, hlx, ?_⟩⟩⟩) (fun hm => ⟨u4, fv, lm, us, _, _, _, ⟨rfl, rfl, rfl, rfl, rfl⟩, (s3.trans s4) _ _ hlm, ?_⟩)
   ·have s46 := (s4.trans s5).trans s6
    have ed : dueM (fitR r e ss) (T.take (i + 1)) = some t := by
     rw [ed]
     show some (if moreM t.2.1 m.2.1 = true then t else m) = some t
     rw [if_pos hm]
    rw [ed]
    exact ⟨hallx, p5, lb, yb, rfl, s6 _ _ h5, s46 _ _ hlb, hB.mono s46⟩
   ·have ed : dueM (fitR r e ss) (T.take (i + 1)) = some m := by
     rw [ed]
     show some (if moreM t.2.1 m.2.1 = true then t else m) = some m
     rw [if_neg hm]
    rw [ed]
    exact hD.mono (s3.trans s4)
theorem lqD (g : G w K mg) : FnOk P w K mg base CX0 4 g.jqj g.hqi ["pattern", "way"] (nqT K) := by
 refine g.jqI.ok iqR (fun vs H Q E h => ?_) (fun cdv A outer s H vs Q E hr h => ?_)
 ·obtain ⟨cs, xs, p, q, pw, ps, cl, r, e, ss, rfl, _⟩ := h; rfl
 ·obtain ⟨cs, xs, p, q, pw, ps, cl, r, e, ss, rfl, hp, hq, hx, hn, hz, hw, hps, hsn, hsl, k⟩ := h
  refine ⟨_, (aqd (aqt (i := 2) iqR.nd rfl (Or.inl rfl) (aqo (aqe (K := K) rfl) (pv 1) (aqY (v := kq6) rfl g.iqV ⟨_, rfl⟩) (fun _ _ => rfl)))
   (aqQ (aqt (i := 3) iqR.nd rfl (Or.inl rfl) (aqm (kqD g) (hr.mono (by decide)) rfl g.jqx g.hqH.kp g.jqB .nil pass0 (aqa (pv 0) (aqa (aql (aqk (K := K) rfl) rfl g.aqS PySem.boot_len (aqa (pv 2) aqb)) aqb))))
   (aqd (aqJ (PW.pt (dq9 (aqj jqa (pv 3) bq0 (nomark _)) (dq9 (cq8 (bqC (aqo (aqe (K := K) rfl) (pv 1) (aqY (v := lq3) rfl g.jqo ⟨_, rfl⟩) (fun _ _ => rfl)))) (eqa (aqj eqR (aqo (aqe (K := K) rfl) (pv 1) (aqY (v := qqp) rfl g.nqn ⟨_, rfl⟩) (fun _ _ => rfl)) (aqo (aqe (K := K) rfl) (pv 0) (aqY (v := mqw) rfl g.jqr ⟨_, rfl⟩) (fun _ _ => rfl)) (nomark _))))))
    (aqf (aqr eqh)) aqs)
   (aqf (aqr (aql (iqA (K := K) rfl rfl) rfl g.nq0 PyProof.Rows.boot_all (aqa (lqA (K := K) (fx := []) (fr := []) rfl rfl rfl (by decide +kernel) rfl (by decide +kernel) rfl rfl (by decide +kernel) rfl .nil rfl (nqc (K := K) rfl rfl g.oqp (aqa (pv 3) (aqa (pv 2) aqb))) (fun _ _ _ => nqs) (fun _ _ _ => (aqm (iql g) (hr.mono (by decide)) rfl g.gqe g.eql.kp g.fq6 .nil pass0 (aqa (pv 0) (aqa (pv 1) aqb))))) aqb))))))), ?_⟩
  walk_at "rd"
  refine ⟨_, _, .inr hw, aqi (j := 1) rfl, ?_⟩
  refine ⟨fun σ H1 => Same H H1 ∧ ((spreadM cs ss.length = none ∧ σ = [some (.ref p), some (.ref pw), some (.ref ps), some .non]) ∨ ∃ (ds : List Pc) (ys : List V) (r' : Addr), spreadM cs ss.length = some ds ∧ SqT K H1 r' ys ∧ PcAll K H1 ds ys ∧ σ = [some (.ref p), some (.ref pw), some (.ref ps), some (.ref r')]), ?_, ?_⟩
  ·walk_at "rd"
   refine ⟨_, .inr hps, ?_⟩
   rw [List.length_map]
   exact ⟨cs, xs, p, q, cl, ss.length, rfl, hp, hq, hx, hn, hsn, fun h => ⟨Same.refl _, .inl ⟨h, rfl⟩⟩, fun ds ys r' H1 h s1 h1 h2 => ⟨s1, .inr ⟨ds, ys, r', h, h1, h2, rfl⟩⟩⟩
  rintro σ H1 ⟨s1, ⟨h0, rfl⟩ | ⟨ds, ys, r', h0, hr', hy, rfl⟩⟩
  ·walk_at "rd"
   have e : fitsP cs cl r ss e = false := by unfold fitsP; rw [h0]
   rw [e] at k
   exact k H1 s1
  have ef : fitsP cs cl r ss e = (r && decide (e = cl) && (List.zipWith fitsM ds ss).all id) := by unfold fitsP; rw [h0]
  have hw1 := s1.tup hw
  have hp1 := s1.tup hp
  have hps1 := s1.tup hps
  walk_at "rd"
  refine ⟨_, _, .inr hw1, aqi (j := 0) rfl, r, rfl, ?_⟩
  cases r with
  | false =>
   refine ite2 (fun _ => ?_) (fun z => absurd rfl z)
   rw [ef] at k
   exact k H1 s1
  | true =>
   refine ite2 (fun z => by cases z) (fun _ => ?_)
   refine ⟨_, _, .inr hw1, aqi (j := 2) rfl, _, _, .inr hp1, aqi (j := 1) rfl, ?_⟩
   refine L2.kqG.mpr ⟨_, rfl, ?_⟩
   by_cases hec : e = cl
   ·rw [decide_eq_true hec] at ef
    refine ite2 (fun z => by rw [decide_eq_true hec] at z; cases z) (fun _ => ?_)
    refine ⟨r', ps, ys, ss.map tV, ⟨rfl, rfl⟩, hr', hps1, fun pc nc => ?_⟩
    have hyl := hy.length
    have hdl := jq9 h0
    refine mq6 (zs := (List.zipWith fitsM ds ss).map V.bl) hr' hps1 (aqu (by rw [List.length_map, List.length_zipWith]; omega)) nc (by rw [List.length_map, List.length_zipWith, List.length_map, hyl]) (fun i x y z hx' hy' hz' H2 T s2 hT => ?_) (fun H2 s2 e2 => ?_)
    ·obtain ⟨c, p', hc, rfl, hcp⟩ := hy.get hx'
     obtain ⟨s, hs, rfl⟩ : ∃ s, ss[i]? = some s ∧ tV s = y := by
      rw [List.getElem?_map] at hy'
      cases hs : ss[i]? with
      | none => rw [hs] at hy'; cases hy'
      | some s => rw [hs] at hy'; exact ⟨s, rfl, by simpa using hy'⟩
     have hz' : V.bl (fitsM c s) = z := by
      rw [List.getElem?_map, List.getElem?_zipWith, hc, hs] at hz'
      simpa using hz'
     subst hz'
     obtain ⟨z1, z2⟩ := hz c (kqk h0 c (List.mem_of_getElem? hc))
     walk_at "rd"
     exact ⟨c, s, p', rfl, s2.tup hcp, hsl s (List.mem_of_getElem? hs), z1, z2, hT⟩
    ·refine ⟨pc, _, rfl, .of e2, ?_⟩
     rw [ef] at k
     exact k H2 (s1.trans s2)
   ·rw [decide_eq_false hec] at ef
    refine ite2 (fun _ => ?_) (fun z => by rw [decide_eq_false hec] at z; exact absurd rfl z)
    rw [ef] at k
    exact k H1 s1
theorem hqc (g : G w K mg) : FnOk P w K mg base CX0 4 g.cqP g.cqj ["entries"] (hqN K) := by
 refine g.dqD.ok bq6 (fun vs H Q E h => ?_) (fun cdv A outer s H vs Q E hr h => ?_)
 ·obtain ⟨l, b, L, ws, rfl, _⟩ := h; rfl
 ·obtain ⟨l, b, L, ws, rfl, hl, hT, hok, hL, k⟩ := h
  refine ⟨_, (aqd (aqt (i := 1) bq6.nd rfl (Or.inl rfl) (aqo (aqe (K := K) rfl) (pv 0) aqc (fun _ _ => rfl)))
   (aqd (bq1 PassesOwn.never rfl (fqC (K := K) rfl (bql (fqz (K := K) rfl) (pv 0) (bqe aqc) dqM)) (aqz (i := 2) bq6.nd rfl (Or.inl rfl))
   (aqf (aqJ (bqC (aqm (gq5 g) (hr.mono (by decide)) rfl g.fqc g.dqL.kp g.fqg .nil pass0 (aqa (aqo (aqe (K := K) rfl) (pv 2) aqc (fun _ _ => rfl)) (aqa (aqo (aqe (K := K) rfl) (pv 1) aqc (fun _ _ => rfl)) aqb))))
    (aqf (aqt (i := 1) bq6.nd rfl (Or.inl rfl) (pv 2))) aqs)))
   (aqf (aqr (pv 1))))), ?_⟩
  walk_at "rd"
  have hwl := hT.length
  rw [List.length_cons] at hwl
  obtain ⟨v0, hv0⟩ : ∃ v, ws[0]? = some v := ⟨_, List.getElem?_eq_getElem (by omega)⟩
  obtain ⟨r0, hr0, hrw⟩ := hT.get hv0
  cases hr0
  refine ⟨_, _, .inl (.of hl), aqi (j := 0) hv0, _, .of hl, fun p1 H1 n1 s1 hp1 => ⟨⟨_, .of hp1⟩, ?_⟩⟩
  rw [show (1 : Int) = ((1 : Nat) : Int) from rfl, hqh] at hp1
  have hT1 : TbV H1 L (ws.drop 1) := (hT.drop 1).mono s1.toT
  have hokm : ∀ n : Nat, PcsOk (mostM mrR b (L.take n)).2.1 := fun n => hok _ (by
   rcases List.mem_cons.mp (fqH (mr := mrR) (L.take n) b) with h | h
   ·rw [h]; exact List.mem_cons_self ..
   ·exact List.mem_cons_of_mem _ (List.mem_of_mem_take h))
  refine fq1 (xs := ws.drop 1) (fun i σ H' => Same H1 H' ∧ ∃ (v : V) (v2 : Option V), σ = [some (.ref l), some v, v2] ∧ RwAt H' (mostM mrR b (L.take i)) v) ⟨Same.refl _, v0, none, rfl, hrw.mono s1.toT⟩ (fun i σ H' _ h => .of (h.1 _ _ hp1)) ?_ ?_
  ·rintro i x σ H2 hxi ⟨s2, v, v2, rfl, hv⟩
   obtain ⟨r, hr, a1, p', rfl, ha1, q', ys, hp', hq', hy⟩ := hT1.get hxi
   have hi : i < L.length := (List.getElem?_eq_some_iff.mp hr).1
   have et : L.take (i + 1) = L.take i ++ [r] := by rw [List.take_add_one, hr]; rfl
   obtain ⟨a2, p, rfl, ha2, q, xs, hp, hq, hx⟩ := id hv
   have or := hok r (List.mem_cons_of_mem _ (List.mem_of_getElem? hr))
   have ob := hokm i
   walk_at "rd"
   refine ⟨_, _, .inr (.of (s2 _ _ ha1)), aqi (j := 1) rfl, _, _, .inr (.of ha2), aqi (j := 1) rfl, ?_⟩
   refine ⟨r.2.1, (mostM mrR b (L.take i)).2.1, ys, xs, p', q', p, q, _, _, rfl, .of (s2 _ _ hp'), .of (s2 _ _ hq'), (hy.mono s2.toT).all, .of hp, .of hq, hx.all, or.1, ob.1, fun c hc => (or.2 c hc).1.tx, fun c hc => (ob.2 c hc).1.tx, fun H3 s3 => ⟨_, rfl, ?_⟩⟩
   have em : mostM mrR b (L.take (i + 1)) = if moreM r.2.1 (mostM mrR b (L.take i)).2.1 = true then r else mostM mrR b (L.take i) := by rw [et, gqk]; rfl
   refine ite2 (fun hm => ?_) (fun hm => ?_)
   ·refine ⟨s2.trans s3, _, _, ⟨rfl, rfl⟩, ?_⟩
    rw [em, if_pos hm]
    exact ⟨a1, p', rfl, (s2.trans s3) _ _ ha1, q', ys, (s2.trans s3) _ _ hp', (s2.trans s3) _ _ hq', hy.mono (s2.trans s3).toT⟩
   ·refine ⟨s2.trans s3, _, _, ⟨rfl, rfl⟩, ?_⟩
    rw [em, if_neg hm]
    exact hv.mono s3.toT
  ·rintro σ H2 ⟨s2, v, v2, rfl, hv⟩
   walk_at "rd"
   rw [List.length_drop, show ws.length - 1 = L.length by omega, List.take_length] at hv
   exact k v H2 (s1.trans s2) hv
theorem hqr (g : G w K mg) : FnOk P w K mg base CX0 4 g.cqO g.bq5 ["_law_cell", "_law_name"] (hqC K) := by
 refine g.dqB.ok bq4 (fun vs H Q E h => ?_) (fun cdv A outer s H vs Q E hr h => ?_)
 ·obtain ⟨c, n, rfl, _⟩ := h; rfl
 ·obtain ⟨c, n, rfl, k⟩ := h
  refine ⟨_, (aqd (aqJ (aqj iq0 (aqn aqR (pv 0) aqc) aqc (nomark _))
    (aqf (aqr (aqM (aqa aqp (aqa (aqm (cqz g) (hr.mono (by decide)) rfl g.cqv g.bqE.kp g.cqs .nil pass0 (aqa (aqn aqy (pv 0) aqc) aqb)) aqb))))) aqs)
   (aqd (aqJ (aqj iq0 (aqn aqR (pv 0) aqc) aqc (nomark _))
    (aqd (aqt (i := 2) bq4.nd rfl (Or.inl rfl) (aqm (cqJ g) (hr.mono (by decide)) rfl g.cqu g.bqI.kp g.cqy .nil pass0 (aqa (aqn aqy (pv 0) aqc) aqb)))
   (aqd (aqt (i := 3) bq4.nd rfl (Or.inl rfl) (aqm (cqJ g) (hr.mono (by decide)) rfl g.cqu g.bqI.kp g.cqy .nil pass0 (aqa (aqn aqy (pv 0) aqc) aqb)))
   (aqQ (aqJ (aqj aqW (aqn (aqA (K := K)) (pv 2) (pv 3)) aqp (nomark _))
    (aqf (aqt (i := 2) bq4.nd rfl (Or.inl rfl) (aqo (aqe (K := K) rfl) aqp (aqn aqR (aqn aqy (pv 0) aqc) aqc) (fun _ _ => rfl)))) aqs)
   (aqf (aqr (aqM (aqa aqp (aqa (pv 2) (aqa (pv 1) (aqa (pv 3) aqb)))))))))) aqs)
   (aqf (aqr (aqM (aqa (aqo (aqe (K := K) rfl) (aqD (aqa aqp (aqa aqp (aqa aqp (aqa aqp aqb))))) (aqn gqX (aqn aqR (pv 0) aqc) aqc) (fun _ _ => rfl)) (aqa (pv 1) aqb))))))), ?_⟩
  walk_at "rd"
  have c0 := Int.emod_nonneg c (show (8 : Int) ≠ 0 by decide)
  have c1 := Int.emod_lt_of_pos c (show (0 : Int) < 8 by decide)
  refine ⟨by decide, ite2 (fun _ => ⟨⟨by decide, by decide⟩, ?_⟩) (fun h2 => ⟨by decide, ite2 (fun _ => ⟨⟨by decide, by decide⟩, ?_⟩) (fun h4 => ?_)⟩)⟩
  ·exact ⟨_, rfl, fun l H1 h1 h2 h3 h4 s1 => ⟨by decide, fun p H2 n2 s2 e2 => k (.step l) p H2 ⟨h1, by omega, h3, h4⟩ rfl (fun z => by cases z) (s1.trans s2) e2⟩⟩
  ·refine ⟨_, rfl, fun hd H1 l1 h1 s1 => ⟨⟨by decide, by decide⟩, _, rfl, fun tl H2 l2 h2 s2 => ?_⟩⟩
   refine ⟨fun σ H3 => Same H H3 ∧ ∃ hd : List Nat, hd.length ≤ 4 ∧ (∀ c ∈ hd, isSg c = true) ∧ hd ++ tl ≠ [] ∧ σ = [some (.int c), some (tV n), some (tV hd), some (tV tl)], ?_, ?_⟩
   ·walk_at "rd"
    refine ⟨aqu (by omega), ite2 (fun h0 => ?_) (fun h0 => ⟨s1.trans s2, hd, l1, h1, fun z => h0 (by rw [z]), rfl⟩)⟩
    obtain ⟨d, hdm, hda⟩ := gq6 (Str.ofString "ab1.").cps.toList (c / 16) 4 (by decide) (by decide +kernel)
    have hd' : isSg d = true := by
     rw [show (Str.ofString "ab1.").cps.toList = [97, 98, 49, 46] by decide +kernel] at hdm
     simp only [List.mem_cons, List.not_mem_nil, or_false] at hdm
     rcases hdm with rfl | rfl | rfl | rfl <;> decide
    exact ⟨⟨by decide, by decide⟩, by decide, d, by decide +kernel, hda, s1.trans s2, [d], by simp, fun e he => by rw [List.mem_singleton.mp he]; exact hd', by simp, rfl⟩
   rintro σ H3 ⟨s3, hd, l1, h1, hne, rfl⟩
   walk_at "rd"
   exact ⟨by decide, fun p H4 n4 s4 e4 => k (.part hd n tl) p H4 ⟨by omega, by omega, h1, h2, hne⟩ rfl (fun _ => rfl) (s3.trans s4) e4⟩
  ·refine ⟨by decide, fun p H1 n1 s1 e1 => ⟨by decide, ?_⟩⟩
   have h : c % 8 - 4 = 0 ∨ c % 8 - 4 = 1 ∨ c % 8 - 4 = 2 ∨ c % 8 - 4 = 3 := by omega
   rcases h with h | h | h | h <;> rw [h]
   ·exact ⟨_, _, .inl (.of e1), aqi (j := 0) rfl, by decide, fun p2 H2 n2 s2 e2 => k (.num n) p2 H2 trivial rfl (fun _ => rfl) (s1.trans s2) e2⟩
   ·exact ⟨_, _, .inl (.of e1), aqi (j := 1) rfl, by decide, fun p2 H2 n2 s2 e2 => k (.word n) p2 H2 trivial rfl (fun _ => rfl) (s1.trans s2) e2⟩
   ·exact ⟨_, _, .inl (.of e1), aqi (j := 2) rfl, by decide, fun p2 H2 n2 s2 e2 => k (.gap n) p2 H2 trivial rfl (fun _ => rfl) (s1.trans s2) e2⟩
   ·exact ⟨_, _, .inl (.of e1), aqi (j := 3) rfl, by decide, fun p2 H2 n2 s2 e2 => k (.gap n) p2 H2 trivial rfl (fun _ => rfl) (s1.trans s2) e2⟩
theorem eqX (g : G w K mg) : FnOk P w K mg base CX0 4 g.bqk g.bqb ["_law_piece_here", "_law_cell"] (eq4 K) := by
 refine g.bqY.ok cq6 (fun vs H Q E h => ?_) (fun cdv A outer s H vs Q E hr h => ?_)
 ·obtain ⟨c, p, i, rfl, _⟩ := h; rfl
 ·obtain ⟨c, p, i, rfl, hp, hok, k⟩ := h
  refine ⟨_, (aqd (aqt (i := 2) cq6.nd rfl (Or.inl rfl) (aqm (cqJ g) (hr.mono (by decide)) rfl g.cqu g.bqI.kp g.cqy .nil pass0 (aqa (aqn aqy (pv 1) aqc) aqb)))
   (aqd (aqJ (aqj aqW (aqo (aqe (K := K) rfl) (pv 0) aqc (fun _ _ => rfl)) aqp (nomark _))
    (aqf (aqr (aqo (aqe (K := K) rfl) (pv 0) aqc (fun _ _ => rfl)))) aqs)
   (aqd (aqJ (aqj aqW (aqo (aqe (K := K) rfl) (pv 0) aqc (fun _ _ => rfl)) aqp (nomark _))
    (aqf (aqr (aqn (aqA (K := K)) (aqn (aqA (K := K)) (aqn (aqA (K := K)) (aqo (aqe (K := K) rfl) (pv 0) aqc (fun _ _ => rfl)) (pv 2)) (aqn dqe aqp (bqQ kqr rfl g.mqE kqn (aqa (aq0 aqW (pv 2) aqp (nomark _)) aqb)))) (aqo (aqe (K := K) rfl) (pv 0) aqc (fun _ _ => rfl))))) aqs)
   (aqd (aqJ (aqj aqW (aqo (aqe (K := K) rfl) (pv 0) aqc (fun _ _ => rfl)) aqp (nomark _))
    (aqf (aqr (bqQ iqF rfl g.oqW nql (aqa (aqn aqR (aqn aqy (pv 1) aqc) (aqo (aqe (K := K) rfl) (aqD (aqa aqc (aqa aqc (aqa (aqn nqr aqc aqc) (aqa (aqn nqr aqc aqc) aqb))))) (aqn aqR (pv 1) aqc) (fun _ _ => rfl))) aqb)))) aqs)
   (aqd (aqJ (aqj aqW (aqo (aqe (K := K) rfl) (pv 0) aqc (fun _ _ => rfl)) aqp (nomark _))
    (aqf (aqr (aqn dqe (aqo (aqe (K := K) rfl) aqp (aqn aqR (aqn aqy (pv 1) aqc) aqc) (fun _ _ => rfl)) (aqn (aqA (K := K)) aqc (aqn aqR (aqn aqy (pv 1) aqc) aqc))))) aqs)
   (aqf (aqr (aqm (cqz g) (hr.mono (by decide)) rfl g.cqv g.bqE.kp g.cqs .nil pass0 (aqa (aqn aqy (pv 1) aqc) aqb))))))))), ?_⟩
  walk_at "rd"
  have b3 : 300000 ≤ sizeLine := by decide
  refine ⟨⟨by decide, by decide⟩, i / 8, rfl, fun l H1 hl hlg s1 => ?_⟩
  have hv := s1 _ _ hp
  refine ⟨_, _, .inr (.of hv), c.at0, aqv.mpr ⟨_, rfl, ?_⟩⟩
  rw [gqh]
  refine ite2 (fun h1 => ?_) (fun h1 => ⟨_, _, .inr (.of hv), c.at0, aqv.mpr ⟨_, rfl, ?_⟩⟩)
  ·cases c with
   | step w => exact ⟨_, _, .inr (.of hv), aqi (j := 1) rfl, k w H1 s1 ⟨⟨List.length_pos_iff.mp hok.1, hok.2.2.1⟩, by have := hok.2.1; omega⟩⟩
   | _ => cases h1
  rw [cqq]
  refine ite2 (fun h2 => ?_) (fun h2 => ⟨_, _, .inr (.of hv), c.at0, aqv.mpr ⟨_, rfl, ?_⟩⟩)
  ·cases c with
   | part a n t =>
    obtain ⟨o1, o2, o3, o4, o5⟩ := hok
    refine ⟨_, _, .inr (.of hv), aqi (j := 1) rfl, hqv.mpr ⟨aqu (by rw [eqd, eqd]; omega), aqv.mpr ?_⟩⟩
    rw [iqg]
    have hnil : decide ((⟨l.toArray⟩ : Str) = ⟨#[]⟩) = decide (l = []) := by rw [decide_eq_decide]; exact pqU
    have e1 : Str.ofString "1" = ⟨#[49]⟩ := by decide +kernel
    have sg : ∀ z : List Nat, (∀ x ∈ z, isSg x = true) → ∀ x ∈ a ++ l ++ z ++ t, isSg x = true := fun z hz x hx => by
     simp only [List.mem_append] at hx
     rcases hx with ((hx | hx) | hx) | hx
     ·exact o3 x hx
     ·exact hlg x hx
     ·exact hz x hx
     ·exact o4 x hx
    rw [hnil, e1]
    refine qqw.mpr ?_
    have fin : ∀ z : List Nat, (∀ x ∈ z, isSg x = true) → z.length ≤ 1 → a ++ l ++ z ++ t ≠ [] → rAddS K (V.str ⟨(a ++ l).toArray⟩) (V.str ⟨z.toArray⟩) H1 fun x H1 => ∃ xs v, (SqL K H1 p xs ∨ SqT K H1 p xs) ∧ atI xs 3 = some v ∧ rAddS K x v H1 Q := fun z hz hzl hne => by
     refine hqv.mpr ⟨aqu (by rw [eqd, eqd, List.length_append]; omega), _, _, .inr (.of hv), aqi (j := 3) rfl, hqv.mpr ⟨aqu ?_, ?_⟩⟩
     ·rw [iqg, eqd, eqd, List.length_append, List.length_append]; omega
     ·rw [iqg, iqg]
      exact k _ H1 s1 ⟨⟨hne, sg z hz⟩, by simp only [List.length_append]; omega⟩
    by_cases he : l = []
    ·rw [decide_eq_true he]
     refine kqy.mpr ⟨⟨by decide, fun _ _ => by decide +kernel, fun _ _ => by decide +kernel⟩, ?_⟩
     rw [show PySem.Txt.mul (⟨#[49]⟩ : PySem.Str) (if true = true then 1 else 0) = ⟨[49].toArray⟩ by decide +kernel]
     exact fin [49] (by decide) (by decide) (by simp)
    ·rw [decide_eq_false he]
     refine kqy.mpr ⟨⟨by decide, fun a b => by exfalso; revert a b; decide +kernel, fun a b => by exfalso; revert a b; decide +kernel⟩, ?_⟩
     rw [show PySem.Txt.mul (⟨#[49]⟩ : PySem.Str) (if false = true then 1 else 0) = ⟨([] : List Nat).toArray⟩ by decide +kernel]
     exact fin [] (fun x hx => by cases hx) (by decide) (by simp [he])
   | _ => cases h2
  rw [cqr]
  refine ite2 (fun h3 => ?_) (fun h3 => ⟨_, _, .inr (.of hv), c.at0, aqv.mpr ⟨_, rfl, ?_⟩⟩)
  ·refine ⟨⟨by decide, by decide⟩, ⟨by decide, by decide, by decide⟩, ⟨by decide, by decide, by decide⟩, by decide, fun p2 H2 n2 s2 hp2 => ⟨by decide, ?_⟩⟩
   obtain ⟨j, hj, ej⟩ : ∃ j : Nat, j < 4 ∧ i % 4 = (j : Int) := ⟨(i % 4).toNat, by omega, by omega⟩
   obtain ⟨m, hm, hm0, hm1⟩ : ∃ m : Int, [V.int 10, V.int 100, V.int (10 ^ Int.toNat 9), V.int (10 ^ Int.toNat 60)][j]? = some (.int m) ∧ 0 < m ∧ m ≤ 10 ^ 60 := by
    match j, hj with
    | 0, _ => exact ⟨_, rfl, by decide, by decide +kernel⟩
    | 1, _ => exact ⟨_, rfl, by decide, by decide +kernel⟩
    | 2, _ => exact ⟨_, rfl, by decide, by decide +kernel⟩
    | 3, _ => exact ⟨_, rfl, by decide +kernel, by decide +kernel⟩
   have m1 := Int.emod_nonneg (i / 8) (show m ≠ 0 by omega)
   have m2 := Int.emod_lt_of_pos (i / 8) hm0
   refine ⟨_, _, .inl (.of hp2), by rw [ej]; exact aqi hm, rd_I.mpr ⟨hm0, _, rfl, ?_, ?_⟩⟩
   ·by_cases h0 : (i / 8 % m).natAbs = 0
    ·rw [h0]; decide
    ·rw [Nat.log2_lt h0]
     have : (i / 8 % m).natAbs < 10 ^ 60 := by omega
     exact Nat.lt_of_lt_of_le this (by decide +kernel)
   ·obtain ⟨n, hn⟩ := Int.eq_ofNat_of_zero_le m1
    rw [hn] at m2 ⊢
    have hd := gqT n
    have ed : dg (n : Int) = (Nat.toDigits 10 n).map Char.toNat := by unfold dg; rw [PySem.W.KIN.signs_num]
    have hfg := qqy (i := (n : Int)) (by omega)
    have hdl : (dg (n : Int)).length ≤ 60 := by rw [ed, List.length_map]; exact lqq (by omega)
    refine k (dg (n : Int)) H2 (s1.trans s2) ⟨⟨by rw [ed]; exact hd.2.1, fun x hx => pqD (hfg x hx)⟩, by omega⟩
  rw [iq3]
  refine ite2 (fun h4 => ?_) (fun h4 => ⟨⟨by decide, by decide⟩, _, rfl, fun s H2 a1 a2 a3 a4 s2 => k s H2 (s1.trans s2) ⟨⟨List.length_pos_iff.mp a1, a3⟩, by omega⟩⟩)
  ·obtain ⟨d, hd, hda⟩ := gq6 (Str.ofString "abcxyz").cps.toList (i / 8) 6 (by decide) (by decide +kernel)
   rw [show (Str.ofString "abcxyz").cps.toList = [97, 98, 99, 120, 121, 122] by decide +kernel] at hd
   have hd6 := hd
   have hd' : isSg d = true := by
    simp only [List.mem_cons, List.not_mem_nil, or_false] at hd
    rcases hd with rfl | rfl | rfl | rfl | rfl | rfl <;> decide
   obtain ⟨m, hm, hm1, hm2⟩ : ∃ m : Nat, 1 + i / 48 % 60 = (m : Int) ∧ 1 ≤ m ∧ m ≤ 60 := ⟨(1 + i / 48 % 60).toNat, by omega, by omega, by omega⟩
   rw [hm]
   refine ⟨⟨by decide, by decide⟩, by decide, d, by decide +kernel, hda, ⟨by decide, by decide⟩, by decide, kqM d m hm2, ?_⟩
   rw [mqo d m]
   exact k (List.replicate m d) H1 s1 ⟨⟨by intro z; have := congrArg List.length z; simp at this; omega, fun x hx => by rw [List.eq_of_mem_replicate hx]; exact hd'⟩, by rw [List.length_replicate]; omega⟩
theorem mqJ (g : G w K mg) : FnOk P w K mg base CX0 5 g.gq2 g.fqx ["pattern", "way"] (mqa K) := by
 refine g.iq5.ok fqD (fun vs H Q E h => ?_) (fun cdv A outer s H vs Q E hr h => ?_)
 ·obtain ⟨cs, xs, p, q, pw, ps, cl, r, e, ss, rfl, _⟩ := h; rfl
 ·obtain ⟨cs, xs, p, q, pw, ps, cl, r, e, ss, rfl, hp, hq, hx, hn, hz, hw, hps, hsn, hsl, k0, k⟩ := h
  refine ⟨_, (aqd (aqJ (cq8 (bqC (aqm (lqD g) (hr.mono (by decide)) rfl g.kqq g.jqI.kp g.lqh .nil pass0 (aqa (pv 0) (aqa (pv 1) aqb)))))
    (aqf (aqr bq0)) aqs)
   (aqd (aqt (i := 2) fqD.nd rfl (Or.inl rfl) (aqD aqb))
   (aqd (bq1 PassesOwn.never rfl (iqJ (K := K) rfl rfl g.cqx (aqa (aqo (aqe (K := K) rfl) (pv 0) (aqY (v := dqn) rfl g.cqR ⟨_, rfl⟩) (fun _ _ => rfl)) aqb)) (dqm (n := 2) (K := K) rfl rfl (aqH (aqz (i := 3) fqD.nd rfl (Or.inl rfl)) (aqH (aqz (i := 4) fqD.nd rfl (Or.inl rfl)) cqY)))
   (aqf (aqJ (bqC (aqm (kqJ g) (hr.mono (by decide)) rfl g.jqA g.gqZ.kp g.jqv .nil pass0 (aqa (pv 4) aqb)))
    (aqf (bqX (cqt (K := K) rfl PySem.F.plainAttrs_list PySem.F.slot_list_append PySem.F.type_list_append aqV (pv 2) (aqa (aqM (aqa (aqm (jq1 g) (hr.mono (by decide)) rfl g.iqr g.fq9.kp g.iqu .nil pass0 (aqa (pv 4) aqb)) (aqa (aqm (gqv g) (hr.mono (by decide)) rfl g.eqN g.dqp.kp g.eqI .nil pass0 (aqa (pv 4) (aqa (bql hqa (aqo (aqe (K := K) rfl) (pv 1) (aqY (v := kq6) rfl g.iqV ⟨_, rfl⟩) (fun _ _ => rfl)) (bqe (pv 3)) dqM) aqb))) aqb))) aqb)))) aqs)))
   (aqf (aqr (pv 2)))))), ?_⟩
  walk_at "rd"
  refine ⟨cs, xs, p, q, pw, ps, cl, r, e, ss, rfl, hp, hq, hx, hn, hz, hw, .of hps, hsn, hsl, fun H1 s1 => ⟨_, rfl, ?_⟩⟩
  cases hf : fitsP cs cl r ss e with
  | false => exact ite2 (fun _ => k0 hf H1 s1) (fun z => absurd rfl z)
  | true =>
   refine ite2 (fun z => by cases z) (fun _ => ⟨by decide, fun l H2 n2 s2 e2 => ?_⟩)
   have s02 := s1.trans s2
   have hl := hx.length
   refine ⟨_, _, .inr (s02.tup hp), aqi (j := 0) rfl, q, xs, rfl, .of (s02 _ _ hq), ?_⟩
   have nl : H l = none := by
    cases hh : H l with
    | none => rfl
    | some o => rw [s1 _ _ hh] at n2; cases n2
   refine fq0 (fun i σ H' => ∃ (ys : List V) (v3 v4 : Option V), σ = [some (.ref p), some (.ref pw), some (.ref l), v3, v4] ∧ H' l = some (.lst ys) ∧ BndV H' l (boundM (cs.take i) ss) ys ∧ Same H H' ∧ FrB H H' ys) ⟨[], none, none, rfl, e2, .nil, s02, fun v hv => by cases hv⟩ (fun i σ H' _ h => by obtain ⟨_, _, _, _, _, _, hh, _⟩ := h; exact .of (hh _ _ hq)) ?_ ?_
   ·rintro i v σ H3 T hv ⟨ys, v3, v4, rfl, e3, hb, s3, hF⟩ hT
    obtain ⟨c, pc, hc, rfl, hpc⟩ := hx.get hv
    have st : Same H3 (upd H3 T (.tup [.int (i : Int), .ref pc])) := aq5 hT
    have hpc' := (s3.trans st).tup hpc
    have et := gqg cs ss i c hc
    obtain ⟨s, hs, hfs⟩ := mq1 hf hc
    walk_at "rd"
    refine ⟨T, _, rfl, .of aqq, rfl, _, _, rfl, _, _, rfl, rfl, ?_⟩
    walk_at "rd"
    refine ⟨c, pc, rfl, hpc', _, rfl, ?_⟩
    have hbl := hb.length
    have hbn := dq8 (cs.take i) ss
    rw [List.length_take] at hbn
    cases hcs : c.isStep with
    | true =>
     refine ite2 (fun z => by cases z) (fun _ => ?_)
     rw [hcs, if_pos rfl, List.append_nil] at et
     exact ⟨ys, _, _, ⟨rfl, rfl⟩, st _ _ e3, by rw [et]; exact hb.mono st, s3.trans st, hF.mono st.toT⟩
    | false =>
     refine ite2 (fun _ => ?_) (fun z => absurd rfl z)
     rw [hcs, if_neg (by decide)] at et
     have sT := s3.trans st
     have hsi : ss.drop i = s :: ss.drop (i + 1) := by
      have hi := (List.getElem?_eq_some_iff.mp hs)
      rw [List.drop_eq_getElem_cons hi.1, hi.2]
     obtain ⟨z1, z2⟩ := hz c (List.mem_of_getElem? hc)
     refine ⟨⟨_, .of (st _ _ e3)⟩, c, pc, rfl, hpc', hcs, _, _, .inr (sT.tup hw), aqi (j := 1) rfl, ps, _, rfl, sT _ _ hps, fun p4 H4 s4 e4 => ?_⟩
     rw [hqh, ← List.map_drop, hsi] at e4
     refine ⟨c, s, ss.drop (i + 1), pc, p4, rfl, s4.tup hpc', e4, hfs, hsl s (List.mem_of_getElem? hs), z1, z2, by rw [List.length_drop]; omega, fun v H5 s5 hv5 hn5 => ⟨by decide, fun p6 H6 n6 s6 e6 => ?_⟩⟩
     have e36 := (st.trans (s4.trans (s5.trans s6))) _ _ e3
     have hvn : ∀ q, v = .ref q → q ≠ l := fun q z w => by
      have := hn5 q z
      rw [w, s4 _ _ (st _ _ e3)] at this
      cases this
     refine ⟨_, e36, Nat.lt_of_le_of_lt (show ys.length ≤ 100 by omega) (by decide), ys ++ [.ref p6], _, _, ⟨rfl, rfl⟩, by rw [aqq], ?_, bqg nl (sT.trans (s4.trans (s5.trans s6))), ((hF.mono (st.trans (s4.trans (s5.trans s6))).toT).snoc e6 fun q z => bqS (sT.trans s4) (hn5 q z)).mono (bqU e36)⟩
     rw [et, hsi]
     exact ((hb.mono (st.trans (s4.trans (s5.trans s6)))).snoc e6 (hv5.mono s6) hvn).upd e36
   ·rintro σ H3 ⟨ys, v3, v4, rfl, e3, hb, s3, hF⟩
    rw [hl, List.take_length] at hb
    walk_at "rd"
    exact k hf l ys H3 nl hF s3 e3 hb
theorem eqq (g : G w K mg) : FnOk P w K mg base CX0 5 g.cqG g.cqb ["_law_cell", "_law_names_here"] (gq3 K) := by
 refine g.cqH.ok bq2 (fun vs H Q E h => ?_) (fun cdv A outer s H vs Q E hr h => ?_)
 ·obtain ⟨c, pn, ns, rfl, _⟩ := h; rfl
 ·obtain ⟨c, pn, ns, rfl, hpn, hn5, hn, hns, k⟩ := h
  refine ⟨_, (aqd (aqt (i := 2) bq2.nd rfl (Or.inl rfl) (aqn aqR (pv 0) aqc))
   (aqd (aqt (i := 3) bq2.nd rfl (Or.inl rfl) (aqD aqb))
   (aqQ (bq1 PassesOwn.never rfl (cqp rfl g.dqU (aqa (pv 2) aqb)) (aqz (i := 4) bq2.nd rfl (Or.inl rfl))
   (aqf (bqX (cqt (K := K) rfl PySem.F.plainAttrs_list PySem.F.slot_list_append PySem.F.type_list_append aqV (pv 3) (aqa (aqm (hqr g) (hr.mono (by decide)) rfl g.fqo g.dqB.kp g.fqq .nil pass0 (aqa (aqn aqy (pv 0) (aqn (aqA (K := K)) aqc (aqn dqe (aqn dqe aqc (pv 4)) (pv 4)))) (aqa (aqo (aqe (K := K) rfl) (pv 1) (pv 4) (fun _ _ => rfl)) aqb))) aqb)))))
   (aqQ (aqJ (PW.pt (dqx (aqj aqW (aqn aqR (aqn aqy (pv 0) aqc) aqc) aqc (nomark _)) (cqw (aqj (fqe hr.units) (pv 3) (aqD aqb) (nomark _)))))
    (aqf (hqQ (aqM (aqa aqp (aqa (aqo (aqe (K := K) rfl) (pv 1) (aqn gqX (pv 2) aqc) (fun _ _ => rfl)) aqb))) (nqo (pv 3) (kqa gqJ aqc) jqq))) aqs)
   (aqf (aqr (aqM (aqa (bqQ (gqi (K := K) rfl) rfl g.fqU fqB (aqa (pv 3) aqb)) (aqa (lqW (aq0 (lqt hr.units) (pv 3) (aqD aqb) (nomark _)) (fqn (aq0 aqW (aqn aqR (aqn aqy (pv 0) aqc) aqc) aqc (nomark _)))) aqb))))))))), ?_⟩
  walk_at "rd"
  obtain ⟨m, hm, hm5⟩ : ∃ m : Nat, c % 6 = (m : Int) ∧ m ≤ 5 := ⟨(c % 6).toNat, by omega, by omega⟩
  rw [hm]
  refine ⟨by decide, by decide, fun p1 H1 n1 s1 hp1 => ?_⟩
  refine ⟨fun σ H' => Same H H' ∧ ∃ (v5 : Option V) (ps : List Pc) (xs : List V), σ = [some (.int c), some (.ref pn), some (.int (m : Int)), some (.ref p1), v5] ∧ PcT H' ps xs ∧ H' p1 = some (.lst xs) ∧ ps.length = m ∧ ∀ x ∈ ps, (PcOk x ∧ PcSg x) ∧ x.isRest = false, ⟨by omega, by omega, ?_⟩, ?_⟩
  ·rw [Int.toNat_natCast]
   refine bqG (fun i σ H' => Same H H' ∧ ∃ (v5 : Option V) (ps : List Pc) (xs : List V), σ = [some (.int c), some (.ref pn), some (.int (m : Int)), some (.ref p1), v5] ∧ PcT H' ps xs ∧ H' p1 = some (.lst xs) ∧ ps.length = i ∧ ∀ x ∈ ps, (PcOk x ∧ PcSg x) ∧ x.isRest = false) ⟨s1, none, [], [], rfl, .nil, hp1, rfl, (fun x hx => by cases hx)⟩ ?_ ?_
   ·rintro i σ H2 hi ⟨s2, v5, ps, xs, rfl, hP, hl2, hpl, hok⟩
    have hxl := hP.length
    walk_at "rd"
    have hi5 : i = 0 ∨ i = 1 ∨ i = 2 ∨ i = 3 ∨ i = 4 := by omega
    have hb : 0 < 6 + 31 * (0 + (i : Int)) * (0 + (i : Int)) ∧ 6 + 31 * (0 + (i : Int)) * (0 + (i : Int)) < 1073741824 := by
     rcases hi5 with rfl | rfl | rfl | rfl | rfl <;> decide
    obtain ⟨nm, hnm⟩ : ∃ z, ns[i]? = some z := ⟨_, List.getElem?_eq_getElem (by omega)⟩
    have hnmg := hns nm (List.mem_of_getElem? hnm)
    refine ⟨⟨_, .of hl2⟩, .inl ⟨by decide, by decide⟩, .inr ⟨by omega, by omega⟩, hb, _, _, .inl (.of (s2 _ _ hpn)), by rw [Int.zero_add]; exact aqi (by rw [List.getElem?_map, hnm]; rfl), _, nm, rfl, fun pcx b H3 ok1 ok2 ok3 s3 hbx => ?_⟩
    have st := bqU (ys := xs ++ [.ref b]) (s3 _ _ hl2)
    have sgx : PcSg pcx := iq9 ok1 fun x hx => by
     cases hst : pcx.isStep with
     | true =>
      cases pcx with
      | step s => exact absurd (show x ∈ ([] : List Nat) from hx) List.not_mem_nil
      | _ => cases hst
     | false => rw [ok3 hst] at hx; exact hnmg x hx
    refine ⟨_, s3 _ _ hl2, by rw [hxl]; exact Nat.lt_of_le_of_lt (show ps.length ≤ 5 by omega) (by decide), jqL (s2.trans s3) n1, _, ps ++ [pcx], xs ++ [.ref b], rfl, PcT.append (.cons (st _ _ hbx) .nil) ((hP.mono s3.toT).mono st), aqq, by rw [List.length_append, List.length_singleton, hpl], fun y hy => ?_⟩
    rcases List.mem_append.mp hy with z | z
    ·exact hok y z
    ·rw [List.mem_singleton.mp z]; exact ⟨⟨ok1, sgx⟩, ok2⟩
   ·rintro σ H2 ⟨s2, v5, ps, xs, rfl, hP, hl2, hpl, hok⟩
    exact ⟨s2, v5, ps, xs, rfl, hP, hl2, hpl, hok⟩
  rintro σ H2 ⟨s2, v5, ps, xs, rfl, hP, hl2, hpl, hok⟩
  have hxl := hP.length
  walk_at "rd"
  refine ⟨fun σ H3 => Same H H3 ∧ ∃ (ps : List Pc) (xs : List V), σ = [some (.int c), some (.ref pn), some (.int (m : Int)), some (.ref p1), v5] ∧ PcT H3 ps xs ∧ H3 p1 = some (.lst xs) ∧ ps.length ≤ 5 ∧ (∀ x ∈ ps, PcOk x ∧ PcSg x) ∧ LastR ps, ⟨⟨by decide, by decide⟩, by decide, ite2 (fun _ => ⟨by decide, fun p3 H3 n3 s3 hp3 => ?_⟩) (fun _ => ⟨s2, ps, xs, rfl, hP, hl2, by omega, fun x hx => (hok x hx).1, jqk fun x hx => (hok x hx).2⟩)⟩, ?_⟩
  ·have hP3 := hP.mono s3.toT
   have hl3 := s3 _ _ hl2
   refine ⟨.list (ps.map pcD), .list [], .lst hl3 hP3.isT.is, .lst hp3 .nil, (jqC fun c hc => (hok c hc).1.2).shaped (by decide), by decide +kernel, _, rfl, ?_⟩
   rw [fqG]
   refine ite2 (fun hne => ?_) (fun _ => ⟨s2.trans s3, ps, xs, rfl, hP3, hl3, by omega, fun x hx => (hok x hx).1, jqk fun x hx => (hok x hx).2⟩)
   have hpos : 0 < ps.length := by
    cases ps with
    | nil => cases hne
    | cons a b => simp
   obtain ⟨nm, hnm⟩ : ∃ z, ns[m - 1]? = some z := ⟨_, List.getElem?_eq_getElem (by omega)⟩
   refine ⟨_, _, .inl (.of ((s2.trans s3) _ _ hpn)), by rw [show ((m : Int) - 1) = ((m - 1 : Nat) : Int) by omega]; exact aqi (by rw [List.getElem?_map, hnm]; rfl), by decide, fun p4 H4 n4 s4 hp4 => ?_⟩
   have hl4 := s4 _ _ hl3
   have h4l : p4 ≠ p1 := fun z => by rw [z, hl4] at hp4; cases hp4
   refine ⟨xs, xs.length - 1, hl4, ?_, ?_⟩
   ·have hx0 : 0 < xs.length := by omega
    unfold ixN
    rw [if_neg (by omega)]
    rw [if_pos (by omega)]
    congr 1
    omega
   have ex : xs.set (xs.length - 1) (.ref p4) = xs.take (ps.length - 1) ++ [.ref p4] := by
    rw [List.set_eq_take_append_cons_drop, if_pos (by omega), hxl, List.drop_eq_nil_of_le (by omega)]
   rw [ex]
   have st := bqU (ys := xs.take (ps.length - 1) ++ [.ref p4]) hl4
   refine ⟨jqL ((s2.trans s3).trans s4) n1, ps.take (ps.length - 1) ++ [.rest nm], _, rfl, PcT.append (.cons (st _ _ hp4) .nil) (((hP3.mono s4.toT).mono st).take _), aqq, by rw [List.length_append, List.length_take, List.length_singleton]; omega, fun x hx => ?_, jqT fun x hx => (hok x (List.mem_of_mem_take hx)).2⟩
   rcases List.mem_append.mp hx with z | z
   ·exact (hok x (List.mem_of_mem_take z)).1
   ·rw [List.mem_singleton.mp z]; exact ⟨trivial, iq9 trivial (hns nm (List.mem_of_getElem? hnm))⟩
  clear hP hl2 hok hxl hpl s2
  clear ps xs H2
  rintro σ H3 ⟨s3, ps, xs, rfl, hP, hl3, hpl, hok, hlr⟩
  walk_at "rd"
  refine ⟨_, .inl (.of hl3), fun t H4 s4 ht => ⟨by decide, fun p5 H5 n5 s5 hp5 => ?_⟩⟩
  have s45 := s4.trans s5
  have hP5 := hP.mono s45.toT
  refine ⟨.list (ps.map pcD), .list [], .lst (s45 _ _ hl3) hP5.isT.is, .lst hp5 .nil, (jqC fun c hc => (hok c hc).2).shaped (by decide), by decide +kernel, _, rfl, ?_⟩
  refine ite2 (fun _ => ⟨by decide, fun p6 H6 n6 s6 hp6 => ?_⟩) (fun _ => ⟨⟨by decide, by decide⟩, by decide, by decide, fun p6 H6 n6 s6 hp6 => ?_⟩)
  ·exact k ps _ p6 H6 hok hlr hpl ((s3.trans s45).trans s6) ⟨t, _, hp6, (s5.trans s6) _ _ ht, hP5.mono s6.toT⟩
  ·exact k ps _ p6 H6 hok hlr hpl ((s3.trans s45).trans s6) ⟨t, _, hp6, (s5.trans s6) _ _ ht, hP5.mono s6.toT⟩
theorem hqF (g : G w K mg) : FnOk P w K mg base CX0 5 g.cqU g.cqd ["_law_pattern_here", "_law_cells"] (hqx K) := by
 refine g.dqC.ok bqc (fun vs H Q E h => ?_) (fun cdv A outer s H vs Q E hr h => ?_)
 ·obtain ⟨cs, xs, p, q, pc, e, is, rfl, _⟩ := h; rfl
 ·obtain ⟨cs, xs, p, q, pc, e, is, rfl, hp, hq, hx, hok, hn, hpc, hi0, hi1, k⟩ := h
  refine ⟨_, (aqd (aqt (i := 2) bqc.nd rfl (Or.inl rfl) (aqD aqb))
   (aqd (bq1 PassesOwn.never rfl (iqJ (K := K) rfl rfl g.cqx (aqa (aqo (aqe (K := K) rfl) (pv 0) aqc (fun _ _ => rfl)) aqb)) (dqm (n := 2) (K := K) rfl rfl (aqH (aqz (i := 3) bqc.nd rfl (Or.inl rfl)) (aqH (aqz (i := 4) bqc.nd rfl (Or.inl rfl)) cqY)))
   (aqd (aqt (i := 5) bqc.nd rfl (Or.inl rfl) (aqn aqy (aqo (aqe (K := K) rfl) (pv 1) (aqn aqR (pv 3) (aql (aqk (K := K) rfl) rfl g.aqS PySem.boot_len (aqa (pv 1) aqb))) (fun _ _ => rfl)) (aqn (aqA (K := K)) (aqn aqy (pv 3) (aql (aqk (K := K) rfl) rfl g.aqS PySem.boot_len (aqa (pv 1) aqb))) aqc)))
   (aqQ (bqX (cqt (K := K) rfl PySem.F.plainAttrs_list PySem.F.slot_list_append PySem.F.type_list_append aqV (pv 2) (aqa (aqm (eqX g) (hr.mono (by decide)) rfl g.dqu g.bqY.kp g.dqz .nil pass0 (aqa (pv 4) (aqa (pv 5) aqb))) aqb)))
   (aqf (aqJ (aqj aqW (aqo (aqe (K := K) rfl) (pv 4) aqc (fun _ _ => rfl)) aqp (nomark _))
    (aqf (bq1 PassesOwn.never rfl (cqp rfl g.dqU (aqa (aqn aqR (aqn aqy (pv 5) aqc) aqc) aqb)) (aqz (i := 6) bqc.nd rfl (Or.inl rfl))
   (aqf (bqX (cqt (K := K) rfl PySem.F.plainAttrs_list PySem.F.slot_list_append PySem.F.type_list_append aqV (pv 2) (aqa (aqm (cqz g) (hr.mono (by decide)) rfl g.cqv g.bqE.kp g.cqs .nil pass0 (aqa (aqn aqy (pv 5) (aqn (aqA (K := K)) aqc (pv 6))) aqb)) aqb)))))) aqs)))))
   (aqf (aqr (pv 2))))), ?_⟩
  walk_at "rd"
  have hxl := hx.length
  have hpcl : (is.map V.int).length = is.length := List.length_map ..
  refine ⟨by decide, fun p1 H1 n1 s1 hp1 => ⟨_, _, .inr (.of (s1 _ _ hp)), rfl, q, xs, rfl, .of (s1 _ _ hq), ?_⟩⟩
  have add : ∀ (ss : List (List Nat)) (s : List Nat), (∀ z ∈ ss, StT z) → StT s → ∀ z ∈ ss ++ [s], StT z := fun ss s h1 h2 z hz => (List.mem_append.mp hz).elim (h1 z) (fun y => by rw [List.mem_singleton.mp y]; exact h2)
  refine fq0 (fun i σ H' => SameBut p1 H H' ∧ ∃ (v3 v4 v5 v6 : Option V) (ss : List (List Nat)), σ = [some (.ref p), some (.ref pc), some (.ref p1), v3, v4, v5, v6] ∧ H' p1 = some (.lst (ss.map tV)) ∧ (∀ s ∈ ss, StT s) ∧ ss.length ≤ 4 * i) ⟨Same.but s1, none, none, none, none, [], rfl, hp1, (fun s hs => by cases hs), Nat.zero_le _⟩ (fun i σ H' _ h => .of ((h.1.same n1) _ _ hq)) ?_ ?_
  ·rintro i v σ H2 T hxi ⟨sb, v3, v4, v5, v6, ss, rfl, hl2, hss, hsl⟩ hT
   obtain ⟨c, b, hc, rfl, hv⟩ := hx.get hxi
   have hi : i < cs.length := (List.getElem?_eq_some_iff.mp hc).1
   have sb3 : SameBut p1 H (upd H2 T (.tup [.int (i : Int), .ref b])) := sb.trans (aq5 hT).but
   have s3 := sb3.same n1
   have hT1 : p1 ≠ T := fun z => by rw [← z, hl2] at hT; cases hT
   have hl3 : (upd H2 T (.tup [.int (i : Int), .ref b])) p1 = some (.lst (ss.map tV)) := by rw [aqx hT1]; exact hl2
   walk_at "rd"
   refine ⟨T, _, rfl, .of aqq, rfl, _, _, rfl, _, _, rfl, rfl, ?_⟩
   walk_at "rd"
   generalize upd H2 T (.tup [.int (i : Int), .ref b]) = H3 at sb3 s3 hl3
   have hpc3 := s3.seq hpc
   obtain ⟨j, hj, ej⟩ : ∃ j : Nat, j < is.length ∧ (i : Int) % (is.length : Int) = (j : Int) := by
    have h1 := Int.emod_nonneg (i : Int) (show (is.length : Int) ≠ 0 by omega)
    have h2 := Int.emod_lt_of_pos (i : Int) (show 0 < (is.length : Int) by omega)
    exact ⟨((i : Int) % (is.length : Int)).toNat, by omega, by omega⟩
   have hd0 : 0 ≤ (i : Int) / (is.length : Int) := Int.ediv_nonneg (by omega) (by omega)
   have hd1 : (i : Int) / (is.length : Int) ≤ (i : Int) := Int.ediv_le_self _ (by omega)
   refine ⟨_, .inl hpc3, ?_⟩
   rw [hpcl]
   refine ⟨by omega, _, .int is[j], .inl hpc3, by rw [ej]; exact aqi (by rw [List.getElem?_map, List.getElem?_eq_getElem hj]; rfl), _, .inl hpc3, ?_⟩
   rw [hpcl]
   refine ⟨⟨by omega, by omega⟩, rd_I.mpr ⟨⟨by omega, by omega⟩, ?_⟩⟩
   generalize is[j] / ((i : Int) / (is.length : Int) + 1) = cc
   refine ⟨fun σ H' => SameBut p1 H H' ∧ ∃ (ss : List (List Nat)), σ = [some (.ref p), some (.ref pc), some (.ref p1), some (.int (i : Int)), some (.ref b), some (.int cc), v6] ∧ H' p1 = some (.lst (ss.map tV)) ∧ (∀ s ∈ ss, StT s) ∧ ss.length ≤ 4 * i + 1, ⟨⟨_, .of hl3⟩, c, b, cc, rfl, s3 _ _ hv, hok c (List.mem_of_getElem? hc), fun s H4 s4 hs => ?_⟩, ?_⟩
   ·exact ⟨_, s4 _ _ hl3, by rw [List.length_map]; exact Nat.lt_of_le_of_lt (show ss.length ≤ 100 by omega) (by decide), (sb3.trans s4.but).trans fqI, ss ++ [s], rfl, by rw [aqq, List.map_append]; rfl, add ss s hss hs, by rw [List.length_append, List.length_singleton]; omega⟩
   clear hl3 hss hsl hl2 sb hT hpc3
   rintro σ H4 ⟨sb4, ss, rfl, hl4, hss, hsl⟩
   walk_at "rd"
   refine ⟨_, _, .inr (.of ((sb4.same n1) _ _ hv)), c.at0, aqv.mpr ⟨_, rfl, ?_⟩⟩
   refine ite2 (fun _ => ?_) (fun _ => ⟨sb4, _, _, _, _, ss, ⟨rfl, rfl, rfl, rfl⟩, hl4, hss, by omega⟩)
   obtain ⟨m, hm, hm4⟩ : ∃ m : Nat, cc / 3 % 4 = (m : Int) ∧ m ≤ 3 := ⟨(cc / 3 % 4).toNat, by omega, by omega⟩
   rw [hm, Int.toNat_natCast]
   refine ⟨⟨by decide, by decide⟩, by decide, by omega, by omega, ?_⟩
   refine bqG (fun j σ H' => SameBut p1 H H' ∧ ∃ (v6 : Option V) (ss : List (List Nat)), σ = [some (.ref p), some (.ref pc), some (.ref p1), some (.int (i : Int)), some (.ref b), some (.int cc), v6] ∧ H' p1 = some (.lst (ss.map tV)) ∧ (∀ s ∈ ss, StT s) ∧ ss.length ≤ 4 * i + 1 + j) ⟨sb4, v6, ss, rfl, hl4, hss, by omega⟩ ?_ ?_
   ·clear hl4 hss hsl sb4
    rintro j σ H5 hj ⟨sb5, v6, ss, rfl, hl5, hss, hsl⟩
    walk_at "rd"
    refine ⟨⟨_, .of hl5⟩, ⟨by omega, by omega⟩, _, rfl, fun s H6 a1 a2 a3 a4 s6 => ⟨_, s6 _ _ hl5, by rw [List.length_map]; exact Nat.lt_of_le_of_lt (show ss.length ≤ 100 by omega) (by decide), (sb5.trans s6.but).trans fqI, _, ss ++ [s], rfl, by rw [aqq, List.map_append]; rfl, add ss s hss ⟨⟨List.length_pos_iff.mp a1, a3⟩, by omega⟩, by rw [List.length_append, List.length_singleton]; omega⟩⟩
   ·rintro σ H5 ⟨sb5, v6, ss, rfl, hl5, hss, hsl⟩
    exact ⟨sb5, _, _, _, _, ss, rfl, hl5, hss, by omega⟩
  ·rintro σ H2 ⟨sb, v3, v4, v5, v6, ss, rfl, hl2, hss, hsl⟩
   walk_at "rd"
   exact k ss p1 H2 (sb.same n1) hl2 hss (by omega)
theorem oqI (g : G w K mg) : FnOk P w K mg base CX0 6 g.jqJ g.hqz ["table", "way"] (oqt K) := by
 refine g.kqL.ok jqd (fun vs H Q E h => ?_) (fun cdv A outer s H vs Q E hr h => ?_)
 ·obtain ⟨l, pw, ps, T, ws, r, e, ss, rfl, _⟩ := h; rfl
 ·obtain ⟨l, pw, ps, T, ws, r, e, ss, rfl, hl, hT, hok, hTl, hpw, hps, hsl, hss, k0, k⟩ := h
  refine ⟨_, (aqQ (nqX (i := 2) (fx := ["way"]) (fr := [1]) jqd.nd rfl rfl rfl rfl (by decide +kernel) rfl (by decide +kernel) rfl (by decide +kernel) rfl (.cons rfl rfl rfl rfl .nil) rfl (fqC (K := K) rfl (pv 0)) (fun _ _ _ => (nqk (bqC (aqm (lqD g) (hr.mono (by decide)) rfl g.kqq g.jqI.kp g.lqh .nil pass0 (aqa (aqo (aqe (K := K) rfl) (pv 0) aqc (fun _ _ => rfl)) (aqa (pv 1) aqb)))))) (fun _ _ _ => (pv 0)))
   (aqd (aqJ (aqj aqW (aql (aqk (K := K) rfl) rfl g.aqS PySem.boot_len (aqa (pv 2) aqb)) aqc (nomark _))
    (aqf (aqr bq0)) aqs)
   (aqd (aqt (i := 3) jqd.nd rfl (Or.inl rfl) (aqm (hqc g) (hr.mono (by decide)) rfl g.fqs g.dqD.kp g.fql .nil pass0 (aqa (pv 2) aqb)))
   (aqf (aqr (aqM (aqa (aqo (aqe (K := K) rfl) (pv 3) aqc (fun _ _ => rfl)) (aqa (aqm (mqJ g) (hr.mono (by decide)) rfl g.lqd g.iq5.kp g.kqU .nil pass0 (aqa (aqo (aqe (K := K) rfl) (pv 3) aqc (fun _ _ => rfl)) (aqa (pv 1) aqb))) aqb)))))))), ?_⟩
  walk_at "rd"
  have hwl := hT.length
  refine ⟨fun σ H1 => Same H H1 ∧ ∃ (l1 : Addr) (us : List V), σ = [some (.ref l), some (.ref pw), some (.ref l1), none] ∧ H1 l1 = some (.lst us) ∧ TbV H1 (T.filter (fitR r e ss)) us, ⟨⟨_, .of hl⟩, fun l1 n1 => ?_⟩, ?_⟩
  ·refine iqK (fun i => match T[i]? with | some t => fitR r e ss t | none => false) (fun i => ws[i]?.getD .non) (.of hl) (aqu (by omega)) n1 (fun i x hxi H1 R s1 hR => ?_) (fun i x hxi ht H1 T' s1 hT' => ?_) (fun H1 s1 hl1 => ?_)
   ·obtain ⟨t, ht, a, p, rfl, ha, q, xs, hp, hq, hx⟩ := hT.get hxi
    have ot := hok t (List.mem_of_getElem? ht)
    have o90 := ot.1
    rw [ht] at hR
    walk_at "rd"
    refine ⟨_, _, .inr (.of (s1 _ _ ha)), aqi (j := 1) rfl, ?_⟩
    exact ⟨t.2.1, xs, p, q, pw, ps, t.2.2, r, e, ss, rfl, .of (s1 _ _ hp), s1 _ _ hq, (hx.mono s1.toT).all, by omega, (fun c hc => by have := (ot.2 c hc).1.ends; exact ⟨by omega, by omega⟩), .of (s1 _ _ hpw), .of (s1 _ _ hps), hsl, hss, fun H2 s2 => ⟨_, rfl, hR H2 s2⟩⟩
   ·rw [hxi] at hT'
    walk_at "rd"
    exact hT' H1 (Same.refl _)
   ·exact ⟨s1, l1, _, rfl, hl1, (hT.mono s1.toT).pick⟩
  rintro σ H1 ⟨s1, l1, us, rfl, hl1, hU⟩
  have hul := hU.length
  walk_at "rd"
  refine ⟨_, .inl (.of hl1), ite2 (fun h0 => k0 ?_ H1 s1) (fun h0 => ?_)⟩
  ·exact List.eq_nil_of_length_eq_zero (by omega)
  cases hF : T.filter (fitR r e ss) with
  | nil => rw [hF] at hul; exact absurd (by rw [hul]; rfl) h0
  | cons b L =>
   rw [hF] at hU hul
   have hsub : ∀ t ∈ b :: L, t ∈ T ∧ fitR r e ss t = true := fun t ht => List.mem_filter.mp (by rw [hF]; exact ht)
   have hLl : L.length ≤ 90 := by
    have := List.length_filter_le (fitR r e ss) T
    rw [hF, List.length_cons] at this
    omega
   refine ⟨l1, b, L, us, rfl, hl1, hU, fun t ht => hok t (hsub t ht).1, hLl, fun v H2 s2 hv => ?_⟩
   obtain ⟨a, p, rfl, ha, q, xs, hp, hq, hx⟩ := hv
   have hm := hsub _ (fqH (mr := mrR) L b)
   have om := hok _ hm.1
   have o90 := om.1
   have s02 := s1.trans s2
   walk_at "rd"
   refine ⟨_, _, .inr (.of ha), aqi (j := 0) rfl, _, _, .inr (.of ha), aqi (j := 1) rfl, ?_⟩
   refine ⟨_, xs, p, q, pw, ps, _, r, e, ss, rfl, .of hp, hq, hx.all, by omega, (fun c hc => by have := (om.2 c hc).1.ends; exact ⟨by omega, by omega⟩), .of (s02 _ _ hpw), s02 _ _ hps, hsl, hss, (fun z => by have hz := hm.2; unfold fitR at hz; rw [hz] at z; cases z), fun _ l' ys H3 nl' _ s3 hl' hB => ⟨by decide, fun p4 H4 n4 s4 hp4 => k b L hF p4 l' ys H4 (bqS s02 nl') ((s02.trans s3).trans s4) hp4 (s4 _ _ hl') (hB.mono s4)⟩⟩
theorem hqs (g : G w K mg) : FnOk P w K mg base CX0 6 g.cqK g.cqi ["_law_script", "_law_names_here", "_law_labels", "_law_first", "_law_many"] (gq4 K) := by
 refine g.dqQ.ok aqG (fun vs H Q E h => ?_) (fun cdv A outer s H vs Q E hr h => ?_)
 ·obtain ⟨a, pn, pl, ns, nm, lb, m, rfl, _⟩ := h; rfl
 ·obtain ⟨a, pn, pl, ns, nm, lb, m, rfl, hS, hpn, hnl, hns, hpl, hll, hls, hm, k⟩ := h
  refine ⟨_, (aqd (aqt (i := 5) aqG.nd rfl (Or.inl rfl) (aqD aqb))
   (aqd (bq1 PassesOwn.never rfl (cqp rfl g.dqU (aqa (pv 4) aqb)) (aqz (i := 6) aqG.nd rfl (Or.inl rfl))
   (aqd (aqt (i := 7) aqG.nd rfl (Or.inl rfl) (aqm (aqP g) (hr.mono (by decide)) rfl g.aqN g.aqI.kp g.aqO .nil pass0 (aqa (pv 0) (aqa (aqn (aqA (K := K)) (pv 3) (pv 6)) aqb))))
   (aqQ (aqt (i := 8) aqG.nd rfl (Or.inl rfl) (aqm (eqq g) (hr.mono (by decide)) rfl g.dqS g.cqH.kp g.dqT .nil pass0 (aqa (aqn aqy (pv 7) aqc) (aqa (pv 1) aqb))))
   (aqQ (aqJ (PW.pt (dqx (aqj aqW (aqn aqR (pv 7) aqc) aqc (nomark _)) (cqw (aqj (fqe hr.units) (pv 5) (aqD aqb) (nomark _)))))
    (aqf (aqt (i := 8) aqG.nd rfl (Or.inl rfl) (aqo (aqe (K := K) rfl) (aqo (aqe (K := K) rfl) (pv 5) (aqn aqR (aqn aqy (pv 7) aqc) (aql (aqk (K := K) rfl) rfl g.aqS PySem.boot_len (aqa (pv 5) aqb))) (fun _ _ => rfl)) aqc (fun _ _ => rfl)))) aqs)
   (aqQ (aqJ (PW.pt (dqx (aqj aqW (aqn aqR (pv 7) aqc) aqc (nomark _)) (cqw (aqj (fqe hr.units) (pv 5) (aqD aqb) (nomark _)))))
    (aqd (hqQ (aqo (aqe (K := K) rfl) (aqo (aqe (K := K) rfl) (pv 5) (aqn aqR (aqn aqy (pv 7) aqc) (aql (aqk (K := K) rfl) rfl g.aqS PySem.boot_len (aqa (pv 5) aqb))) (fun _ _ => rfl)) aqc (fun _ _ => rfl)) (dqm (n := 2) (K := K) rfl rfl (aqH (aqz (i := 9) aqG.nd rfl (Or.inl rfl)) (aqH (aqz (i := 10) aqG.nd rfl (Or.inl rfl)) cqY))))
   (aqd (aqt (i := 11) aqG.nd rfl (Or.inl rfl) (aqn aqR (aqn aqy (pv 7) aqc) (aqn (aqA (K := K)) (aql (aqk (K := K) rfl) rfl g.aqS PySem.boot_len (aqa (pv 9) aqb)) aqc)))
   (aqf (aqJ (PW.pt (dqx (aqj iq0 (pv 11) (aql (aqk (K := K) rfl) rfl g.aqS PySem.boot_len (aqa (pv 9) aqb)) (nomark _)) (cqw (aqj eqR (aqo (aqe (K := K) rfl) (aqo (aqe (K := K) rfl) (pv 9) (pv 11) (fun _ _ => rfl)) aqc (fun _ _ => rfl)) aqp (nomark _)))))
    (aqf (aqt (i := 8) aqG.nd rfl (Or.inl rfl) (aqM (aqa (aqn (aqA (K := K)) (aqn (aqA (K := K)) (bql hqa (pv 9) dqM (bqe (pv 11))) (aqM (aqa (aqM (aqa aqp (aqa (aqo (aqe (K := K) rfl) (pv 1) (pv 11) (fun _ _ => rfl)) aqb))) aqb))) (bql hqa (pv 9) (bqe (aqn (aqA (K := K)) (pv 11) aqc)) dqM)) (aqa (pv 10) aqb))))) aqs)))) aqs)
   (aqf (bqX (cqt (K := K) rfl PySem.F.plainAttrs_list PySem.F.slot_list_append PySem.F.type_list_append aqV (pv 5) (aqa (aqM (aqa (aqo (aqe (K := K) rfl) (pv 2) (pv 6) (fun _ _ => rfl)) (aqa (pv 8) aqb))) aqb)))))))))
   (aqf (aqr (pv 5))))), ?_⟩
  walk_at "rd"
  refine ⟨by decide, fun l H1 n1 s1 hl => ⟨by omega, by omega, ?_⟩⟩
  rw [Int.toNat_natCast]
  refine bqG (fun i σ H' => Same H H' ∧ ∃ (T : List Rw) (ws : List V) (v6 v7 v8 v9 v10 v11 : Option V), σ = [some (.ref a), some (.ref pn), some (.ref pl), some (.int 3), some (.int (m : Int)), some (.ref l), v6, v7, v8, v9, v10, v11] ∧ H' l = some (.lst ws) ∧ TbV H' T ws ∧ TabOk T ∧ T.length = i) ⟨s1, [], [], none, none, none, none, none, none, rfl, hl, .nil, (show TabOk [] from fun t ht => by cases ht), rfl⟩ ?_ ?_
  rotate_left
  ·rintro σ H2 ⟨s2, T, ws, v6, v7, v8, v9, v10, v11, rfl, hl2, hT, hok, hTl⟩
   walk_at "rd"
   exact k T ws l H2 n1 s2 hl2 hT hok hTl
  rintro i σ H2 hi ⟨s2, T, ws, v6, v7, v8, v9, v10, v11, rfl, hl2, hT, hok, hTl⟩
  have hwl := hT.length
  walk_at "rd"
  obtain ⟨C, hC⟩ : ∃ C : Int → St → Hp → Prop, C = fun c σ H3 => Same H2 H3 ∧ ∃ (cs : List Pc) (e : Bool) (p : Addr) (w9 w10 w11 : Option V), σ = [some (.ref a), some (.ref pn), some (.ref pl), some (.int 3), some (.int (m : Int)), some (.ref l), some (.int (0 + (i : Int))), some (.int c), some (.ref p), w9, w10, w11] ∧ PtAt H3 cs e p ∧ PcsOk cs ∧ LastR cs ∧ cs.length ≤ 5 := ⟨_, rfl⟩
  refine ⟨a, ns, 3 + i, by rw [show (3 : Int) + (0 + (i : Int)) = ((3 + i : Nat) : Int) by omega], s2.seq hS, ?_⟩
  generalize ns.getD (3 + i) 0 = c
  walk_at "rd"
  refine ⟨C c, ⟨⟨by decide, by decide⟩, c / 4, pn, nm, rfl, s2 _ _ hpn, by omega, by omega, hns, fun ps e p H3 h1 h2 h3 s3 h4 => ?_⟩, ?_⟩
  ·rw [hC]
   exact ⟨s3, ps, e, p, _, _, _, rfl, h4, ⟨by omega, h1⟩, h2, h3⟩
  have row : ∀ {H3 : Hp}, Same H2 H3 → (0 : Int) < (ws.length : Int) → ∀ z : Int, ∃ (v : V) (t : Rw), atI ws (z % (ws.length : Int)) = some v ∧ RwAt H3 t v ∧ t ∈ T := fun {H3} s3 h0 z => by
   obtain ⟨j, hj, ej⟩ : ∃ j : Nat, j < ws.length ∧ z % (ws.length : Int) = (j : Int) := by
    have h1 := Int.emod_nonneg z (show (ws.length : Int) ≠ 0 by omega)
    have h2 := Int.emod_lt_of_pos z h0
    exact ⟨(z % (ws.length : Int)).toNat, by omega, by omega⟩
   obtain ⟨w, hw⟩ : ∃ w, ws[j]? = some w := ⟨_, List.getElem?_eq_getElem hj⟩
   obtain ⟨t, ht, hr⟩ := hT.get hw
   exact ⟨w, t, by rw [ej]; exact aqi hw, hr.mono s3.toT, List.mem_of_getElem? ht⟩
  have some_ : ∀ {H3 : Hp} {p5 : Addr}, Same H2 H3 → H3 p5 = some (.lst []) → ∀ R : VK, ((0 : Int) < (ws.length : Int) → R (.bl true) H3) → R (.bl false) H3 → rNeD (.ref l) (.ref p5) H3 R := fun {H3 p5} s3 e5 R r1 r2 => by
   refine ⟨.list (T.map rwD), .list [], .lst (s3 _ _ hl2) (hT.mono s3.toT).isAll, .lst e5 .nil, jqp hok, by decide +kernel, ?_⟩
   rw [fqG, List.isEmpty_map]
   cases T with
   | nil => exact r2
   | cons t T => exact r1 (by rw [hwl, List.length_cons]; omega)
  rw [hC]
  rintro σ H3 ⟨s3, cs, e, p, w9, w10, w11, rfl, hpt, hco, hlr, hcl⟩
  walk_at "rd"
  refine ⟨C c, ⟨by decide, ite2 (fun _ => ⟨by decide, fun p5 H5 n5 s5 e5 => ?_⟩) (fun _ => ?_)⟩, ?_⟩
  ·have s35 := s3.trans s5
   refine some_ s35 e5 _ (fun h0 => ⟨_, rfl, ite2 (fun _ => ⟨⟨by decide, by decide⟩, _, .inl (.of (s35 _ _ hl2)), h0, ?_⟩) (fun z => absurd rfl z)⟩) ⟨_, rfl, ite2 (fun z => by cases z) (fun _ => by rw [hC]; exact ⟨s35, cs, e, p, _, _, _, rfl, hpt.mono s5.toT, hco, hlr, hcl⟩)⟩
   obtain ⟨v, t, hv, ⟨a', p', rfl, ha', hpt'⟩, htT⟩ := row s35 h0 (c / 4)
   obtain ⟨t1, t2, t3, t4⟩ := hok t htT
   refine ⟨_, _, .inl (.of (s35 _ _ hl2)), hv, ?_⟩
   walk_at "rd"
   refine ⟨_, _, .inr (.of ha'), aqi (j := 1) rfl, ?_⟩
   rw [hC]
   exact ⟨s35, t.2.1, t.2.2, p', _, _, _, rfl, hpt', t2, t3, t4⟩
  ·rw [hC]
   exact ⟨s3, cs, e, p, _, _, _, rfl, hpt, hco, hlr, hcl⟩
  clear hpt hco hlr hcl s3 cs e p w9 w10 w11 H3
  rw [hC]
  rintro σ H3 ⟨s3, cs, e, p, w9, w10, w11, rfl, hpt, hco, hlr, hcl⟩
  walk_at "rd"
  refine ⟨C c, ⟨by decide, ite2 (fun _ => ⟨by decide, fun p5 H5 n5 s5 e5 => ?_⟩) (fun _ => ?_)⟩, ?_⟩
  ·have s35 := s3.trans s5
   refine some_ s35 e5 _ (fun h0 => ⟨_, rfl, ite2 (fun _ => ⟨⟨by decide, by decide⟩, _, .inl (.of (s35 _ _ hl2)), h0, ?_⟩) (fun z => absurd rfl z)⟩) ⟨_, rfl, ite2 (fun z => by cases z) (fun _ => by rw [hC]; exact ⟨s35, cs, e, p, _, _, _, rfl, hpt.mono s5.toT, hco, hlr, hcl⟩)⟩
   obtain ⟨v, t, hv, ⟨a', p', rfl, ha', hpt'⟩, htT⟩ := row s35 h0 (c / 4)
   obtain ⟨t1, t2, t3, t4⟩ := hok t htT
   obtain ⟨q', xs, hp', hq', hx⟩ := hpt'
   have hxl := hx.length
   refine ⟨_, _, .inl (.of (s35 _ _ hl2)), hv, ?_⟩
   walk_at "rd"
   refine ⟨_, _, .inr (.of ha'), aqi (j := 1) rfl, p', _, rfl, .of hp', rfl, _, _, rfl, _, _, rfl, rfl, ?_⟩
   walk_at "rd"
   obtain ⟨mm, hmm, em⟩ : ∃ mm : Nat, mm ≤ xs.length ∧ c / 64 % ((xs.length : Int) + 1) = (mm : Int) := by
    have h1 := Int.emod_nonneg (c / 64) (show (xs.length : Int) + 1 ≠ 0 by omega)
    have h2 := Int.emod_lt_of_pos (c / 64) (show 0 < (xs.length : Int) + 1 by omega)
    exact ⟨(c / 64 % ((xs.length : Int) + 1)).toNat, by omega, by omega⟩
   refine ⟨⟨by decide, by decide⟩, _, .inr (.of hq'), by omega, _, .inr (.of hq'), ?_⟩
   rw [em]
   have stay : ∀ y9 y10 y11 : Option V, C c [some (.ref a), some (.ref pn), some (.ref pl), some (.int 3), some (.int (m : Int)), some (.ref l), some (.int (0 + (i : Int))), some (.int c), some (.ref p), y9, y10, y11] H5 := fun y9 y10 y11 => by
    rw [hC]
    exact ⟨s35, cs, e, p, _, _, _, rfl, hpt.mono s5.toT, hco, hlr, hcl⟩
   refine ite2 (fun hlt => ?_) (fun _ => stay _ _ _)
   have hlt' : mm < t.2.1.length := by omega
   obtain ⟨w, hw⟩ : ∃ w, xs[mm]? = some w := ⟨_, List.getElem?_eq_getElem (by omega)⟩
   obtain ⟨d, pd, hd, rfl, hpd⟩ := hx.get hw
   refine ⟨_, _, .inr (.of hq'), aqi hw, ?_⟩
   walk_at "rd"
   refine ⟨_, _, .inr (.of hpd), d.at0, eqo.mpr ⟨_, rfl, ?_⟩⟩
   refine ite2 (fun _ => ?_) (fun _ => stay _ _ _)
   obtain ⟨nn, hnn⟩ : ∃ nn, nm[mm]? = some nn := ⟨_, List.getElem?_eq_getElem (by omega)⟩
   have u5 := s2.trans s35
   refine ⟨_, hq', fun p6 H6 s6 e6 => ⟨_, _, .inl (.of ((u5.trans s6) _ _ hpn)), aqi (by rw [List.getElem?_map, hnn]; rfl), by decide, fun p7 H7 n7 s7 e7 => ⟨by decide, fun p8 H8 n8 s8 e8 => ?_⟩⟩⟩
   rw [nqb] at e6
   refine .inr ⟨_, _, (s7.trans s8) _ _ e6, e8, aqu (by rw [List.length_take]; simp only [List.length_cons, List.length_nil]; omega), fun p9 H9 s9 e9 => ⟨_, (((s6.trans s7).trans s8).trans s9) _ _ hq', fun p10 H10 s10 e10 => ?_⟩⟩
   rw [show ((mm : Int) + 1) = ((mm + 1 : Nat) : Int) by omega, hqh] at e10
   refine .inr ⟨_, _, s10 _ _ e9, e10, aqu (by rw [List.length_append, List.length_take, List.length_drop]; simp only [List.length_cons, List.length_nil]; omega), fun p11 H11 s11 e11 => ⟨by decide, fun p12 H12 n12 s12 e12 => ?_⟩⟩
   have u7 := (s8.trans s9).trans ((s10.trans s11).trans s12)
   have u12 := (s6.trans s7).trans u7
   have hx12 := hx.mono u12.toT
   have d12 : H12 p7 = some (.tup (Pc.gap nn).vals) := u7 _ _ e7
   rw [hC]
   refine ⟨s35.trans u12, t.2.1.take mm ++ [.gap nn] ++ t.2.1.drop (mm + 1), t.2.2, p12, _, _, _, rfl, ⟨p11, _, e12, s12 _ _ e11, PcT.append (hx12.drop (mm + 1)) (PcT.append (.cons d12 .nil) (hx12.take mm))⟩, ⟨?_, fun z hz => ?_⟩, lqb hlt' t3, ?_⟩
   ·rw [List.length_append, List.length_append, List.length_take, List.length_drop, List.length_singleton]; omega
   ·rcases List.mem_append.mp hz with z1 | z1
    ·rcases List.mem_append.mp z1 with z2 | z2
     ·exact t2.2 z (List.mem_of_mem_take z2)
     ·rw [List.mem_singleton.mp z2]; exact ⟨trivial, iq9 trivial (hns nn (List.mem_of_getElem? hnn))⟩
    ·exact t2.2 z (List.mem_of_mem_drop z1)
   ·rw [List.length_append, List.length_append, List.length_take, List.length_drop, List.length_singleton]; omega
  ·rw [hC]
   exact ⟨s3, cs, e, p, _, _, _, rfl, hpt, hco, hlr, hcl⟩
  clear hpt hco hlr hcl s3 cs e p w9 w10 w11 H3
  rw [hC]
  rintro σ H3 ⟨s3, cs, e, p, w9, w10, w11, rfl, hpt, hco, hlr, hcl⟩
  walk_at "rd"
  obtain ⟨nn, hnn⟩ : ∃ nn, lb[i]? = some nn := ⟨_, List.getElem?_eq_getElem (by omega)⟩
  refine ⟨⟨_, .of (s3 _ _ hl2)⟩, _, _, .inl (.of ((s2.trans s3) _ _ hpl)), by rw [Int.zero_add]; exact aqi (by rw [List.getElem?_map, hnn]; rfl), by decide, fun p4 H4 n4 s4 e4 => ?_⟩
  have hl4 := (s3.trans s4) _ _ hl2
  have sT := bqU (ys := ws ++ [.ref p4]) hl4
  refine ⟨ws, hl4, Nat.lt_of_le_of_lt (show ws.length ≤ 16 by omega) (by decide), bqg n1 (s2.trans (s3.trans s4)), T ++ [(nn, cs, e)], ws ++ [.ref p4], _, _, _, _, _, _, ⟨rfl, rfl, rfl, rfl, rfl, rfl⟩, aqq, TbV.append (.cons ⟨p4, p, rfl, sT _ _ e4, (hpt.mono s4.toT).mono sT⟩ .nil) ((hT.mono (s3.trans s4).toT).mono sT), fun t ht => ?_, by rw [List.length_append, List.length_singleton, hTl]⟩
  rcases List.mem_append.mp ht with z | z
  ·exact hok t z
  ·rw [List.mem_singleton.mp z]
   exact ⟨hls nn (List.mem_of_getElem? hnn), hco, hlr, hcl⟩
theorem hqf (g : G w K mg) : FnOk P w K mg base CX0 7 g.cqA g.cqe ["_law_table_here", "_law_way"] (eqD K) := by
 refine g.dqR.ok bq8 (fun vs H Q E h => ?_) (fun cdv A outer s H vs Q E hr h => ?_)
 ·obtain ⟨l, pw, ps, T, ws, r, e, ss, rfl, _⟩ := h; rfl
 ·obtain ⟨l, pw, ps, T, ws, r, e, ss, rfl, hl, hT, hok, hTl, hpw, hps, hss, hsl, k⟩ := h
  refine ⟨_, (aqQ (aqt (i := 2) bq8.nd rfl (Or.inl rfl) (aqm (iq8 g) (hr.mono (by decide)) rfl g.gqV g.eqZ.kp g.gqD .nil pass0 (aqa (pv 0) (aqa (pv 1) aqb))))
   (aqd (bq1 PassesOwn.never rfl (cqp rfl g.dqU (aqa aqc aqb)) (aqz (i := 3) bq8.nd rfl (Or.inl rfl))
   (aqd (aqt (i := 4) bq8.nd rfl (Or.inl rfl) (aqm (oqI g) (hr.mono (by decide)) rfl g.nqv g.kqL.kp g.nqi .nil pass0 (aqa (pv 0) (aqa (pv 1) aqb))))
   (aqf (aqJ (aqj jqa (pv 2) bq0 (nomark _))
    (aqf (aqJ (aqj jqm (pv 4) bq0 (nomark _))
    (aqf (aqr eqh)) aqs)) (aqd (aqJ (PW.pt (dq9 (cq8 (bqC (aql dqP rfl g.bqu aq8 (aqa (pv 4) (aqa (gqc (v := .ty "tuple") rfl g.fqU fqB rfl) aqb))))) (dq9 (aqj eqR (aql (aqk (K := K) rfl) rfl g.aqS PySem.boot_len (aqa (pv 4) aqb)) aqc (nomark _)) (eqa (cq8 (bqC (aql dqP rfl g.bqu aq8 (aqa (aqo (aqe (K := K) rfl) (pv 4) aqc (fun _ _ => rfl)) (aqa (gqc (v := .ty "str") rfl g.oqW nql rfl) aqb)))))))))
    (aqf (aqr eqh)) aqs)
   (aqd (aqJ (PW.pt (dq9 (aqj eqR (aqo (aqe (K := K) rfl) (pv 4) aqc (fun _ _ => rfl)) (aqo (aqe (K := K) rfl) (pv 2) aqc (fun _ _ => rfl)) (nomark _)) (eqa (cq8 (bqC (aqm (hqu g) (hr.mono (by decide)) rfl g.eq7 g.dqJ.kp g.fqh .nil pass0 (aqa (aqo (aqe (K := K) rfl) (pv 4) aqc (fun _ _ => rfl)) (aqa (aqo (aqe (K := K) rfl) (pv 2) aqc (fun _ _ => rfl)) aqb))))))))
    (aqf (aqr eqh)) aqs)
   (aqf (bqX (cqt (K := K) rfl PySem.F.plainAttrs_list PySem.F.slot_list_append PySem.F.type_list_append aqV (aqo (aqe (K := K) rfl) (pv 4) aqc (fun _ _ => rfl)) (aqa (aqM (aqa aqp (aqa aqc aqb))) aqb))))))))))
   (aqf (aqr eqh)))), ?_⟩
  walk_at "rd"
  refine ⟨fun σ H1 => Same H H1 ∧ ∃ d : V, σ = [some (.ref l), some (.ref pw), some d, none, none] ∧ (dueM (fitR r e ss) T = none → d = .non) ∧ ∀ m : Rw, dueM (fitR r e ss) T = some m → ∃ (p l' : Addr) (ys : List V), d = .ref p ∧ H1 p = some (.tup [tV m.1, .ref l']) ∧ H1 l' = some (.lst ys) ∧ BndV H1 l' (boundM m.2.1 ss) ys, ?_, ?_⟩
  ·exact ⟨l, pw, ps, T, ws, r, e, ss, rfl, hl, hT, hok, hTl, hpw, hps, hss, hsl, fun h0 H1 s1 => ⟨s1, .non, rfl, (fun _ => rfl), (fun m hm => by rw [h0] at hm; cases hm)⟩, fun m hm p l' ys H1 s1 h1 h2 h3 => ⟨s1, .ref p, rfl, (fun z => by rw [hm] at z; cases z), (fun m' hm' => by rw [hm] at hm'; cases hm'; exact ⟨p, l', ys, rfl, h1, h2, h3⟩)⟩⟩
  rintro σ H1 ⟨s1, d, rfl, hd0, hd1⟩
  walk_at "rd"
  refine ⟨by decide, by decide, ?_⟩
  refine bqG (fun i σ H' => Same H1 H' ∧ ∃ v3 v4 : Option V, σ = [some (.ref l), some (.ref pw), some d, v3, v4]) ⟨Same.refl _, _, _, rfl⟩ ?_ ?_
  rotate_left
  ·rintro σ H2 ⟨s2, v3, v4, rfl⟩
   walk_at "rd"
   exact k H2 (s1.trans s2)
  rintro i σ H2 hi ⟨s2, v3, v4, rfl⟩
  have u2 := s1.trans s2
  walk_at "rd"
  refine ⟨l, pw, ps, T, ws, r, e, ss, rfl, u2 _ _ hl, hT.mono u2.toT, fun t ht => (hok t ht).2.1, by omega, u2 _ _ hpw, u2 _ _ hps, by omega, fun s hs => by have := (hss s hs).2; omega, fun h0 H3 s3 => ?_, fun b L hF pf lf yf H3 nlf s3 hpf hlf hB => ?_⟩
  ·have hd : dueM (fitR r e ss) T = none := by unfold dueM; rw [h0]
   rw [hd0 hd]
   walk_at "rd"
   exact ⟨s2.trans s3, _, _, rfl, rfl⟩
  have hdm : dueM (fitR r e ss) T = some (mostM mrR b L) := by unfold dueM; rw [hF]
  obtain ⟨pd, ld, yd, rfl, hpd, hld, hBd⟩ := hd1 _ hdm
  have hmT : mostM mrR b L ∈ T := (List.mem_filter.mp (by rw [hF]; exact fqH (mr := mrR) L b)).1
  generalize mostM mrR b L = m at hmT hdm hpf hB hpd hBd
  have u3 := s2.trans s3
  have kp : kindV (.ref pf) H3 = some "tuple" := by simp only [kindV, hpf]
  walk_at "rd"
  refine ⟨_, kp, ite2 (fun z => absurd z (by decide)) (fun _ => ⟨_, .inr (.of hpf), ite2 (fun z => absurd rfl z) (fun _ => ⟨_, _, .inr (.of hpf), aqi (j := 0) rfl, _, rfl, ite2 (fun z => absurd z (by decide)) (fun _ => ⟨_, _, .inr (.of hpf), aqi (j := 0) rfl, _, _, .inr (.of (u3 _ _ hpd)), aqi (j := 0) rfl, eqo.mpr ⟨_, rfl, ?_⟩⟩)⟩)⟩)⟩
  refine ite2 (fun z => by simp at z) (fun _ => ⟨_, _, .inr (.of hpf), aqi (j := 1) rfl, _, _, .inr (.of (u3 _ _ hpd)), aqi (j := 1) rfl, ?_⟩)
  obtain ⟨m1, m2, m3, m4⟩ := hok m hmT
  have hbok := jqH (cs := m.2.1) (ss := ss) (fun s hs => ⟨(hss s hs).1.2, by have := (hss s hs).2; omega⟩) (by omega)
  have hbn := fq2 m.2.1 ss
  have hbsg : ∀ b ∈ boundM m.2.1 ss, ∀ x ∈ b.1, isSg x = true := fun b hb => by
   have hm : b.1 ∈ gapsM m.2.1 := by rw [← hbn]; exact List.mem_map_of_mem hb
   obtain ⟨c, hc, e⟩ := List.mem_map.mp hm
   rw [← e]
   exact (m2.2 c (List.mem_filter.mp hc).1).2.2.2
  have hbl := dq8 m.2.1 ss
  have hyl := hB.length
  refine ⟨lf, ld, boundM m.2.1 ss, yf, yd, rfl, hlf, hB, u3 _ _ hld, hBd.mono u3, fun b hb => ⟨hbsg b hb, hbok b hb⟩, by omega, fun H4 s4 => ⟨_, rfl, ite2 (fun z => by cases z) (fun _ => ⟨_, _, .inr (.of (s4 _ _ hpf)), aqi (j := 1) rfl, ?_⟩)⟩⟩
  walk_at "rd"
  refine ⟨⟨_, .of (s4 _ _ hlf)⟩, by decide, fun p5 H5 n5 s5 e5 => ⟨yf, (s4.trans s5) _ _ hlf, Nat.lt_of_le_of_lt (show yf.length ≤ 12 by omega) (by decide), s2.trans (bqg nlf (s3.trans (s4.trans s5))), _, _, rfl, rfl⟩⟩
theorem cq7 (g : G w K mg) : FnOk P w K mg base CX0 8 g.bqj g.bqa ["_law_table_here", "_law_cells"] (eq6 K) := by
 refine g.bqi.ok aqF (fun vs H Q E h => ?_) (fun cdv A outer s H vs Q E hr h => ?_)
 ·obtain ⟨l, pc, T, ws, is, rfl, _⟩ := h; rfl
 ·obtain ⟨l, pc, T, ws, is, rfl, hl, hT, hok, hTl, hpc, hil, k⟩ := h
  refine ⟨_, (aqd (bq1 PassesOwn.never rfl (lq6 (K := K) rfl rfl g.cqx (aqa (pv 1) aqb)) (dqm (n := 2) (K := K) rfl rfl (aqH (aqz (i := 2) aqF.nd rfl (Or.inl rfl)) (aqH (aqz (i := 3) aqF.nd rfl (Or.inl rfl)) cqY)))
   (aqd (aqt (i := 4) aqF.nd rfl (Or.inl rfl) (aqM (aqa (aqM aqb) (aqa eqh aqb))))
   (aqQ (aqJ (aqj (fqe hr.units) (pv 0) (aqD aqb) (nomark _))
    (aqf (aqt (i := 4) aqF.nd rfl (Or.inl rfl) (aqo (aqe (K := K) rfl) (aqo (aqe (K := K) rfl) (pv 0) (aqn aqR (aqn (aqA (K := K)) (pv 3) (pv 2)) (aql (aqk (K := K) rfl) rfl g.aqS PySem.boot_len (aqa (pv 0) aqb))) (fun _ _ => rfl)) aqc (fun _ _ => rfl)))) aqs)
   (aqd (aqt (i := 5) aqF.nd rfl (Or.inl rfl) (aqm (hqF g) (hr.mono (by decide)) rfl g.fqd g.dqC.kp g.fqb .nil pass0 (aqa (pv 4) (aqa (aqD (aqa (aqn aqy (pv 3) aqc) (aqa (aqn aqy (pv 3) aqc) (aqa (aqn (aqA (K := K)) (aqn aqy (pv 3) aqc) aqc) aqb)))) aqb))))
   (aqQ (aqJ (aqj aqW (aqn aqR (pv 3) aqc) aqc (nomark _))
    (aqf (aqt (i := 5) aqF.nd rfl (Or.inl rfl) (aqn (aqA (K := K)) (pv 5) (aqD (aqa (aqm (cqz g) (hr.mono (by decide)) rfl g.cqv g.bqE.kp g.cqs .nil pass0 (aqa (aqn aqy (pv 3) aqc) aqb)) aqb))))) aqs)
   (aqf (aqJ (cq8 (bqC (aqm (hqf g) (hr.mono (by decide)) rfl g.fqj g.dqR.kp g.fqf .nil pass0 (aqa (pv 0) (aqa (aqM (aqa eqh (aqa (bqQ (gqi (K := K) rfl) rfl g.fqU fqB (aqa (pv 5) aqb)) (aqa (lqW (aqo (aqe (K := K) rfl) (pv 4) aqc (fun _ _ => rfl)) (fqn (aq0 (lqt hr.units) (pv 5) (aqD aqb) (nomark _)))) aqb)))) aqb)))))
    (aqf (aqr eqh)) aqs)))))))
   (aqf (aqr eqh))), ?_⟩
  walk_at "rd"
  have hwl := hT.length
  refine ⟨pc, _, rfl, .of hpc, ?_⟩
  refine kqf (xs := is.map V.int) (fun i σ H' => Same H H' ∧ ∃ v2 v3 v4 v5 : Option V, σ = [some (.ref l), some (.ref pc), v2, v3, v4, v5]) ⟨Same.refl _, _, _, _, _, rfl⟩ (fun i σ H' _ h => .of (h.1 _ _ hpc)) ?_ ?_
  rotate_left
  ·rintro σ H1 ⟨s1, v2, v3, v4, v5, rfl⟩
   walk_at "rd"
   exact k H1 s1
  rintro i v σ H1 T1 hv ⟨s1, v2, v3, v4, v5, rfl⟩ hT1
  obtain ⟨c, _, rfl⟩ := List.mem_map.mp (List.mem_of_getElem? hv)
  have sT := s1.trans (aq5 (o := .tup [.int (i : Int), .int c]) hT1)
  walk_at "rd"
  refine ⟨T1, _, rfl, .of aqq, rfl, _, _, rfl, _, _, rfl, rfl, ?_⟩
  generalize upd H1 T1 (.tup [.int (i : Int), .int c]) = H2 at sT
  walk_at "rd"
  refine ⟨by decide, fun p3 H3 n3 s3 e3 => ⟨by decide, fun p4 H4 n4 s4 e4 => ?_⟩⟩
  have u4 := (sT.trans s3).trans s4
  refine ⟨fun σ H5 => Same H H5 ∧ ∃ (cs : List Pc) (e : Bool) (p : Addr), σ = [some (.ref l), some (.ref pc), some (.int (i : Int)), some (.int c), some (.ref p), v5] ∧ PtAt H5 cs e p ∧ (∀ c ∈ cs, PcOk c) ∧ cs.length ≤ 5, ⟨by decide, fun p5 H5 n5 s5 e5 => ?_⟩, ?_⟩
  ·have u5 := u4.trans s5
   refine ⟨.list (T.map rwD), .list [], .lst (u5 _ _ hl) (hT.mono u5.toT).isAll, .lst e5 .nil, jqp hok, by decide +kernel, _, rfl, ?_⟩
   rw [fqG, List.isEmpty_map]
   refine ite2 (fun hne => ⟨_, .inl (.of (u5 _ _ hl)), ?_⟩) (fun he => ⟨u5, [], true, p4, rfl, ⟨p3, [], s5 _ _ e4, (s4.trans s5) _ _ e3, .nil⟩, (fun c hc => by cases hc), by decide⟩)
   have h0 : 0 < ws.length := by
    rw [hwl]
    cases T with
    | nil => cases hne
    | cons a b => simp
   obtain ⟨j, hj, ej⟩ : ∃ j : Nat, j < ws.length ∧ (c + (i : Int)) % (ws.length : Int) = (j : Int) := by
    have h1 := Int.emod_nonneg (c + (i : Int)) (show (ws.length : Int) ≠ 0 by omega)
    have h2 := Int.emod_lt_of_pos (c + (i : Int)) (show 0 < (ws.length : Int) by omega)
    exact ⟨((c + (i : Int)) % (ws.length : Int)).toNat, by omega, by omega⟩
   obtain ⟨w, hw⟩ : ∃ w, ws[j]? = some w := ⟨_, List.getElem?_eq_getElem hj⟩
   obtain ⟨t, ht, a', p', rfl, ha', hpt⟩ := hT.get hw
   obtain ⟨t1, t2, t3, t4⟩ := hok t (List.mem_of_getElem? ht)
   refine ⟨by omega, _, _, .inl (.of (u5 _ _ hl)), by rw [ej]; exact aqi hw, ?_⟩
   walk_at "rd"
   exact ⟨_, _, .inr (.of (u5 _ _ ha')), aqi (j := 1) rfl, u5, t.2.1, t.2.2, p', rfl, hpt.mono u5.toT, fun c hc => (t2.2 c hc).1, t4⟩
  rintro σ H5 ⟨s5, cs, e, p, rfl, ⟨q, xs, hp, hq, hP⟩, hco, hcl⟩
  walk_at "rd"
  refine ⟨⟨by decide, by decide⟩, ⟨by decide, by decide⟩, ⟨by decide, by decide⟩, by decide, fun p6 H6 n6 s6 e6 => ?_⟩
  refine ⟨cs, xs, p, q, p6, e, [c / 3, c / 5, c / 11 + 1], rfl, s6 _ _ hp, s6 _ _ hq, hP.mono s6.toT, hco, by omega, .of e6, (show 0 < 3 by decide), (show 3 ≤ 100 by decide), fun ss lz H7 s7 hlz hss hsl => ?_⟩
  refine ⟨fun σ H8 => Same H5 H8 ∧ ∃ (ss : List (List Nat)) (lz : Addr), σ = [some (.ref l), some (.ref pc), some (.int (i : Int)), some (.int c), some (.ref p), some (.ref lz)] ∧ H8 lz = some (.lst (ss.map tV)) ∧ (∀ s ∈ ss, StT s) ∧ ss.length ≤ 49, ⟨by decide, ite2 (fun _ => ⟨⟨by decide, by decide⟩, _, rfl, fun x H8 a1 a2 a3 a4 s8 => ⟨by decide, fun p9 H9 n9 s9 e9 => .inl ⟨_, _, (s8.trans s9) _ _ hlz, e9, ?_, fun p10 H10 n10 s10 e10 => ⟨(s6.trans s7).trans ((s8.trans s9).trans s10), ss ++ [x], p10, rfl, by rw [e10, List.map_append]; rfl, fun z hz => ?_, by rw [List.length_append, List.length_singleton]; omega⟩⟩⟩⟩) (fun _ => ⟨s6.trans s7, ss, lz, rfl, hlz, hss, by omega⟩)⟩, ?_⟩
  ·exact aqu (by rw [List.length_map]; simp only [List.length_cons, List.length_nil]; omega)
  ·rcases List.mem_append.mp hz with y | y
   ·exact hss z y
   ·rw [List.mem_singleton.mp y]
    exact ⟨⟨List.length_pos_iff.mp a1, a3⟩, by omega⟩
  clear hlz hss hsl
  rintro σ H8 ⟨s8, ss, lz, rfl, hlz, hss, hsl⟩
  have u8 := s5.trans s8
  walk_at "rd"
  refine ⟨_, .inl (.of hlz), fun tp H9 s9 htp => ⟨_, _, .inr (.of ((s8.trans s9) _ _ hp)), aqi (j := 1) rfl, _, rfl, ?_⟩⟩
  have u9 := u8.trans s9
  have fin : ∀ {H10 : Hp} {b : Bool} {p10 : Addr}, Same H9 H10 → H10 p10 = some (.tup [.bl true, .ref tp, .bl b]) → eqD K [.ref l, .ref p10] H10 (fun x H' => ∃ k, x = .bl k ∧ if k = false then Q (.bl false) H' else Same H H' ∧ ∃ v2 v3 v4 v5 : Option V, some (V.int (i : Int)) = v2 ∧ some (V.int c) = v3 ∧ some (V.ref p) = v4 ∧ some (V.ref lz) = v5) E0 := fun s10 e10 =>
   ⟨l, _, tp, T, ws, true, _, ss, rfl, (u9.trans s10) _ _ hl, hT.mono (u9.trans s10).toT, hok, hTl, e10, s10 _ _ htp, fun s hs => ⟨(hss s hs).1, by have := (hss s hs).2; omega⟩, by omega, fun H11 s11 => ⟨_, rfl, ite2 (fun z => by cases z) (fun _ => ⟨(u9.trans s10).trans s11, _, _, _, _, rfl, rfl, rfl, rfl⟩)⟩⟩
  have shs : SeqAt.shaped (.list (ss.map st)) = true := (layL (n := 0) fun d hd => by
   obtain ⟨s, hs, rfl⟩ := List.mem_map.mp hd
   exact LayAt.st (hss s hs).1.2).shaped (by decide)
  refine ite2 (fun _ => ⟨by decide, fun p10 H10 n10 s10 e10 => fin s10 e10⟩) (fun _ => ⟨by decide, fun p10 H10 n10 s10 e10 => ?_⟩)
  exact ⟨.list (ss.map st), .list [], .lst ((s9.trans s10) _ _ hlz) (hqd _), .lst e10 .nil, shs, by decide, by decide, fun p11 H11 n11 s11 e11 => fin (s10.trans s11) e11⟩
theorem pqw (g : G w K mg) : FnOk P w K mg base CX0 9 g.mqW g.iqB ["_law_script"] (jqw K) := by
 refine g.pqt.ok gqb (fun vs H Q E h => ?_) (fun cdv A outer s H vs Q E hr h => ?_)
 ·obtain ⟨a, ns, rfl, _⟩ := h; rfl
 ·obtain ⟨a, ns, rfl, hS, hn, k⟩ := h
  refine ⟨_, (aqd (aqt (i := 1) gqb.nd rfl (Or.inl rfl) (aqn aqR (aqm (aqP g) (hr.mono (by decide)) rfl g.aqN g.aqI.kp g.aqO .nil pass0 (aqa (pv 0) (aqa aqc aqb))) aqc))
   (aqQ (aqt (i := 2) gqb.nd rfl (Or.inl rfl) (aqm (dqj g) (hr.mono (by decide)) rfl g.cqF g.bqT.kp g.cqL .nil pass0 (aqa (aqn aqy (aqm (aqP g) (hr.mono (by decide)) rfl g.aqN g.aqI.kp g.aqO .nil pass0 (aqa (pv 0) (aqa aqc aqb))) aqc) (aqa aqc aqb))))
   (aqQ (aqt (i := 3) gqb.nd rfl (Or.inl rfl) (aqm (hqs g) (hr.mono (by decide)) rfl g.fqt g.dqQ.kp g.fqp .nil pass0 (aqa (pv 0) (aqa (aqm (dqj g) (hr.mono (by decide)) rfl g.cqF g.bqT.kp g.cqL .nil pass0 (aqa (aqm (aqP g) (hr.mono (by decide)) rfl g.aqN g.aqI.kp g.aqO .nil pass0 (aqa (pv 0) (aqa aqc aqb))) (aqa aqc aqb))) (aqa (pv 2) (aqa aqc (aqa (pv 1) aqb)))))))
   (aqd (aqt (i := 4) gqb.nd rfl (Or.inl rfl) (bqQ (gqU (K := K) rfl) rfl g.jqz jqc (aqa (pv 3) aqb)))
   (aqQ (aqt (i := 5) gqb.nd rfl (Or.inl rfl) (aqn (aqA (K := K)) (aqn (aqA (K := K)) (aqD (aqa (aqm (aqP g) (hr.mono (by decide)) rfl g.aqN g.aqI.kp g.aqO .nil pass0 (aqa (pv 0) (aqa aqc aqb))) aqb)) (bql (fqz (K := K) rfl) (pv 0) (bqe aqc) (bqe (aqn (aqA (K := K)) aqc (pv 1))))) (bql (fqz (K := K) rfl) (pv 0) (bqe aqc) (bqe aqc))))
   (aqQ (aqJ (PW.pt (dq9 (cq8 (bqC (aqm (cq7 g) (hr.mono (by decide)) rfl g.bqW g.bqi.kp g.bqZ .nil pass0 (aqa (pv 3) (aqa (pv 5) aqb))))) (eqa (aqj (fqe hr.units) (pv 3) (pv 4) (nomark _)))))
    (aqf (aqr eqh)) aqs)
   (aqQ (aqJ (aqj iq0 (pv 1) aqc (nomark _))
    (aqd (aqt (i := 6) gqb.nd rfl (Or.inl rfl) (aqm (eqq g) (hr.mono (by decide)) rfl g.dqS g.cqH.kp g.dqT .nil pass0 (aqa (aqn aqy (aqm (aqP g) (hr.mono (by decide)) rfl g.aqN g.aqI.kp g.aqO .nil pass0 (aqa (pv 0) (aqa aqc aqb))) aqc) (aqa (aqm (dqj g) (hr.mono (by decide)) rfl g.cqF g.bqT.kp g.cqL .nil pass0 (aqa (aqm (aqP g) (hr.mono (by decide)) rfl g.aqN g.aqI.kp g.aqO .nil pass0 (aqa (pv 0) (aqa aqc aqb))) (aqa aqc aqb))) aqb))))
   (aqf (bqX (cqt (K := K) rfl PySem.F.plainAttrs_list PySem.F.slot_list_append PySem.F.type_list_append aqV (pv 3) (aqa (aqM (aqa (aqo (aqe (K := K) rfl) (pv 2) (pv 1) (fun _ _ => rfl)) (aqa (pv 6) aqb))) aqb))))) aqs)
   (aqf (aqr (aqm (cq7 g) (hr.mono (by decide)) rfl g.bqW g.bqi.kp g.bqZ .nil pass0 (aqa (pv 3) (aqa (bql (fqz (K := K) rfl) (pv 5) dqM (bqe aqc)) aqb)))))))))))), ?_⟩
  walk_at "rd"
  refine ⟨a, ns, 1, rfl, hS, ?_⟩
  obtain ⟨m, hm, em⟩ : ∃ m : Nat, m ≤ 16 ∧ ns.getD 1 0 % 17 = (m : Int) := ⟨(ns.getD 1 0 % 17).toNat, by omega, by omega⟩
  walk_at "rd"
  rw [em]
  refine ⟨by decide, fun σ H1 => Same H H1 ∧ ∃ (lb : List (List Nat)) (pl : Addr), σ = [some (.ref a), some (.int (m : Int)), some (.ref pl), none, none, none, none] ∧ H1 pl = some (.lst (lb.map tV)) ∧ lb.length = 16 ∧ ∀ n ∈ lb, ∀ x ∈ n, isSg x = true, ⟨a, ns, 1, rfl, hS, ?_⟩, ?_⟩
  ·walk_at "rd"
   exact ⟨⟨by decide, by decide⟩, _, 16, rfl, by decide, fun nm pn H1 h1 h2 h3 s1 h4 => ⟨s1, nm, pn, rfl, h4, h1, fun n hn' => lqE (h2 n hn').2.2⟩⟩
  rintro σ H1 ⟨s1, lb, pl, rfl, hpl, hll, hls⟩
  walk_at "rd"
  refine ⟨fun σ H2 => Same H H2 ∧ ∃ (T : List Rw) (ws : List V) (l : Addr), σ = [some (.ref a), some (.int (m : Int)), some (.ref pl), some (.ref l), none, none, none] ∧ H l = none ∧ H2 pl = some (.lst (lb.map tV)) ∧ H2 l = some (.lst ws) ∧ TbV H2 T ws ∧ TabOk T ∧ T.length = m, ⟨a, ns, 0, rfl, s1.seq hS, _, 6, rfl, by decide, fun nm pn H2 h1 h2 h3 s2 h4 => ⟨a, pn, pl, ns, nm, lb, m, rfl, (s1.trans s2).seq hS, h4, h1, fun n hn' => lqE (h2 n hn').2.2, s2 _ _ hpl, hll, hls, hm, fun T ws l H3 nl s3 hl hT hok hTl => ⟨(s1.trans s2).trans s3, T, ws, l, rfl, bqS (s1.trans s2) nl, (s2.trans s3) _ _ hpl, hl, hT, hok, hTl⟩⟩⟩, ?_⟩
  clear hpl
  rintro σ H2 ⟨s2, T, ws, l, rfl, nl, hpl, hl, hT, hok, hTl⟩
  have hwl := hT.length
  walk_at "rd"
  refine ⟨_, .inl (.of hl), fun lk H3 n3 s3 hlk => ?_⟩
  have u3 := s2.trans s3
  refine ⟨fun σ H4 => Same H3 H4 ∧ ∃ (is : List Int) (pc : Addr), σ = [some (.ref a), some (.int (m : Int)), some (.ref pl), some (.ref l), some (.ref lk), some (.ref pc), none] ∧ H4 pc = some (.lst (is.map V.int)) ∧ is.length ≤ 200 ∧ pc ≠ l, ⟨a, ns, 2, rfl, u3.seq hS, by decide, fun p4 H4 n4 s4 e4 => ⟨_, (u3.trans s4).seq hS, fun p5 H5 n5 s5 e5 => ?_⟩⟩, ?_⟩
  ·rw [hqO] at e5
   have c1 := hqI ns (some 3) (some (3 + (m : Int)))
   have c2 := hqI ns (some 20) (some 60)
   refine .inl ⟨_, _, s5 _ _ e4, e5, aqu (by rw [List.length_map]; simp only [List.length_cons, List.length_nil]; omega), fun p6 H6 n6 s6 e6 => ⟨_, (((u3.trans s4).trans s5).trans s6).seq hS, fun p7 H7 n7 s7 e7 => ?_⟩⟩
   rw [hqO] at e7
   refine .inl ⟨_, _, s7 _ _ e6, e7, aqu (by rw [List.length_append, List.length_map, List.length_map]; simp only [List.length_cons, List.length_nil]; omega), fun p8 H8 n8 s8 e8 => ⟨((s4.trans s5).trans s6).trans (s7.trans s8), [ns.getD 2 0] ++ cutA ns (some 3) (some (3 + (m : Int))) ++ cutA ns (some 20) (some 60), p8, rfl, by rw [e8, List.map_append, List.map_append]; rfl, by rw [List.length_append, List.length_append, List.length_singleton]; omega, fun z => by rw [z, ((((s3.trans s4).trans s5).trans s6).trans s7) _ _ hl] at n8; cases n8⟩⟩
  rintro σ H4 ⟨s4, is, pc, rfl, hpc, hil, hpl2⟩
  have u4 := s3.trans s4
  walk_at "rd"
  refine ⟨fun σ H5 => Same H4 H5 ∧ σ = [some (.ref a), some (.int (m : Int)), some (.ref pl), some (.ref l), some (.ref lk), some (.ref pc), none], ⟨l, pc, T, ws, is, rfl, u4 _ _ hl, hT.mono u4.toT, hok, by omega, hpc, hil, fun H5 s5 => ⟨_, rfl, ite2 (fun z => by cases z) (fun _ => ⟨.list (T.map rwD), .list (T.map rwD), .lst ((u4.trans s5) _ _ hl) (hT.mono (u4.trans s5).toT).isAll, .lst ((s4.trans s5) _ _ hlk) (hT.mono (u4.trans s5).toT).isAll, jqp hok, jqp hok, _, rfl, ?_⟩)⟩⟩, ?_⟩
  ·rw [pqK]
   exact ite2 (fun z => by cases z) (fun _ => ⟨s5, rfl⟩)
  rintro σ H5 ⟨s5, rfl⟩
  have u5 := s2.trans (u4.trans s5)
  have v5 := u4.trans s5
  walk_at "rd"
  refine ⟨fun σ H6 => ∃ (T : List Rw) (ws : List V) (v6 : Option V), σ = [some (.ref a), some (.int (m : Int)), some (.ref pl), some (.ref l), some (.ref lk), some (.ref pc), v6] ∧ H6 l = some (.lst ws) ∧ TbV H6 T ws ∧ TabOk T ∧ T.length ≤ 20 ∧ H6 pc = some (.lst (is.map V.int)), ite2 (fun hlt => ⟨a, ns, 2, rfl, u5.seq hS, ?_⟩) (fun _ => ⟨T, ws, _, rfl, v5 _ _ hl, hT.mono v5.toT, hok, by omega, s5 _ _ hpc⟩), ?_⟩
  ·walk_at "rd"
   refine ⟨⟨by decide, by decide⟩, a, ns, 0, rfl, u5.seq hS, _, 6, rfl, by decide, fun nm pn H6 h1 h2 h3 s6 h4 => ⟨_, pn, nm, rfl, h4, by omega, by omega, fun n hn' => lqE (h2 n hn').2.2, fun ps e p H7 g1 g2 g3 s7 g4 => ?_⟩⟩
   have s57 := s6.trans s7
   obtain ⟨nn, hnn⟩ : ∃ nn, lb[m]? = some nn := ⟨_, List.getElem?_eq_getElem (by omega)⟩
   walk_at "rd"
   refine ⟨⟨_, .of ((v5.trans s57) _ _ hl)⟩, _, _, .inl (.of ((v5.trans s57) _ _ hpl)), aqi (by rw [List.getElem?_map, hnn]; rfl), by decide, fun p8 H8 n8 s8 e8 => ?_⟩
   have w8 := v5.trans (s57.trans s8)
   have hl8 := w8 _ _ hl
   have sT := bqU (ys := ws ++ [.ref p8]) hl8
   refine ⟨ws, hl8, Nat.lt_of_le_of_lt (show ws.length ≤ 16 by omega) (by decide), T ++ [(nn, ps, e)], ws ++ [.ref p8], aqq, TbV.append (.cons ⟨p8, p, rfl, sT _ _ e8, (g4.mono s8.toT).mono sT⟩ .nil) ((hT.mono w8.toT).mono sT), fun t ht => ?_, by rw [List.length_append, List.length_singleton]; omega, by rw [aqx hpl2]; exact (s5.trans (s57.trans s8)) _ _ hpc⟩
   rcases List.mem_append.mp ht with z | z
   ·exact hok t z
   ·rw [List.mem_singleton.mp z]
    exact ⟨hls nn (List.mem_of_getElem? hnn), ⟨Nat.le_trans g3 (by decide), g1⟩, g2, g3⟩
  clear hT hok hTl hwl hl
  rintro σ H6 ⟨T, ws, v6, rfl, hl, hT, hok, hTl, hpc6⟩
  walk_at "rd"
  refine ⟨_, .of hpc6, fun p7 H7 n7 s7 e7 => ?_⟩
  rw [hqO] at e7
  have c7 := hqI is none (some 20)
  exact ⟨l, p7, T, ws, _, rfl, s7 _ _ hl, hT.mono s7.toT, hok, hTl, e7, by omega, fun H8 s8 => k H8⟩
end
theorem aqg {a b : Bool} (h : (a && b) = true) : a = true := by cases a; cases h; rfl
theorem aqh {a b : Bool} (h : (a && b) = true) : b = true := by cases a; cases h; exact h
theorem usl0 {us : List Value} (h : us.length = 0) : us = [] := List.length_eq_zero_iff.mp h
local macro_rules | `(tactic| walk_at "b0") => `(tactic| exact fun _ _ _ _ _ _ us hl => by obtain e := usl0 hl; subst e; rfl)
theorem usl1 {us : List Value} (h : us.length = 1) : ∃ x0, us = [x0] := List.length_eq_one_iff.mp h
local macro_rules | `(tactic| walk_at "b1") => `(tactic| exact fun _ _ _ _ _ _ us hl => by obtain ⟨x0, e⟩ := usl1 hl; subst e; rfl)
theorem usl2 {us : List Value} (h : us.length = 2) : ∃ x0 x1, us = [x0, x1] := by
 cases us with
 | nil => cases h
 | cons x0 l =>
  obtain ⟨x1, rfl⟩ := usl1 (Nat.succ.inj h)
  exact ⟨_, _, rfl⟩
local macro_rules | `(tactic| walk_at "b2") => `(tactic| exact fun _ _ _ _ _ _ us hl => by obtain ⟨x0, x1, e⟩ := usl2 hl; subst e; rfl)
theorem usl3 {us : List Value} (h : us.length = 3) : ∃ x0 x1 x2, us = [x0, x1, x2] := by
 cases us with
 | nil => cases h
 | cons x0 l =>
  obtain ⟨x1, x2, rfl⟩ := usl2 (Nat.succ.inj h)
  exact ⟨_, _, _, rfl⟩
theorem usl4 {us : List Value} (h : us.length = 4) : ∃ x0 x1 x2 x3, us = [x0, x1, x2, x3] := by
 cases us with
 | nil => cases h
 | cons x0 l =>
  obtain ⟨x1, x2, x3, rfl⟩ := usl3 (Nat.succ.inj h)
  exact ⟨_, _, _, _, rfl⟩
theorem usl5 {us : List Value} (h : us.length = 5) : ∃ x0 x1 x2 x3 x4, us = [x0, x1, x2, x3, x4] := by
 cases us with
 | nil => cases h
 | cons x0 l =>
  obtain ⟨x1, x2, x3, x4, rfl⟩ := usl4 (Nat.succ.inj h)
  exact ⟨_, _, _, _, _, rfl⟩
local macro_rules | `(tactic| walk_at "b5") => `(tactic| exact fun _ _ _ _ _ _ us hl => by obtain ⟨x0, x1, x2, x3, x4, e⟩ := usl5 hl; subst e; rfl)
theorem pq9 {l : PySem.W.OpenLaw} {w : World} {K : W.Frag} {h : Heap} {mg : Str → Option Value} {fa : Addr} (X : K.In h) (Gl : h.Ns mainGlobals mg) (hfa : mg "law" = some (.ref fa))
  (a1 : W.nsIn K mainGlobals "made_of" = some (some (.ref f1))) (l1 : K.lookup f1 = some ⟨oc1, od1, .func (W.fnOf "made_of" "made_of" (defArgs cq2) (defBody cq2) (defScope cq2) .none kV1 dc1 pm1 an1 cd1 ct1), sl1⟩)
  (a2 : W.nsIn K mainGlobals "is_dot" = some (some (.ref f2))) (l2 : K.lookup f2 = some ⟨oc2, od2, .func (W.fnOf "is_dot" "is_dot" (defArgs dqZ) (defBody dqZ) (defScope dqZ) .none kV2 dc2 pm2 an2 cd2 ct2), sl2⟩)
  (a3 : W.nsIn K mainGlobals "is_gap" = some (some (.ref f3))) (l3 : K.lookup f3 = some ⟨oc3, od3, .func (W.fnOf "is_gap" "is_gap" (defArgs dq0) (defBody dq0) (defScope dq0) .none kV3 dc3 pm3 an3 cd3 ct3), sl3⟩)
  (a4 : W.nsIn K mainGlobals "name_of" = some (some (.ref f4))) (l4 : K.lookup f4 = some ⟨oc4, od4, .func (W.fnOf "name_of" "name_of" (defArgs cq5) (defBody cq5) (defScope cq5) .none kV4 dc4 pm4 an4 cd4 ct4), sl4⟩)
  (a5 : W.nsIn K mainGlobals "head_of" = some (some (.ref f5))) (l5 : K.lookup f5 = some ⟨oc5, od5, .func (W.fnOf "head_of" "head_of" (defArgs cq1) (defBody cq1) (defScope cq1) .none kV5 dc5 pm5 an5 cd5 ct5), sl5⟩)
  (a6 : W.nsIn K mainGlobals "tail_of" = some (some (.ref f6))) (l6 : K.lookup f6 = some ⟨oc6, od6, .func (W.fnOf "tail_of" "tail_of" (defArgs cq4) (defBody cq4) (defScope cq4) .none kV6 dc6 pm6 an6 cd6 ct6), sl6⟩)
  (a7 : W.nsIn K mainGlobals "has_rest" = some (some (.ref f7))) (l7 : K.lookup f7 = some ⟨oc7, od7, .func (W.fnOf "has_rest" "has_rest" (defArgs cqm) (defBody cqm) (defScope cqm) .none kV7 dc7 pm7 an7 cd7 ct7), sl7⟩)
  (a8 : W.nsIn K mainGlobals "_law_cell_at" = some (some (.ref f8))) (l8 : K.lookup f8 = some ⟨oc8, od8, .func (W.fnOf "_law_cell_at" "_law_cell_at" (defArgs aq2) (defBody aq2) (defScope aq2) .none kV8 dc8 pm8 an8 cd8 ct8), sl8⟩)
  (a9 : W.nsIn K mainGlobals "_law_names" = some (some (.ref f9))) (l9 : K.lookup f9 = some ⟨oc9, od9, .func (W.fnOf "_law_names" "_law_names" (defArgs bqr) (defBody bqr) (defScope bqr) .none kV9 dc9 pm9 an9 cd9 ct9), sl9⟩)
  (a10 : W.nsIn K mainGlobals "_law_signs" = some (some (.ref f10))) (l10 : K.lookup f10 = some ⟨oc10, od10, .func (W.fnOf "_law_signs" "_law_signs" (defArgs bqo) (defBody bqo) (defScope bqo) .none kV10 dc10 pm10 an10 cd10 ct10), sl10⟩)
  (a11 : W.nsIn K mainGlobals "_law_piece_value" = some (some (.ref f11))) (l11 : K.lookup f11 = some ⟨oc11, od11, .func (W.fnOf "_law_piece_value" "_law_piece_value" (defArgs aqK) (defBody aqK) (defScope aqK) .none kV11 dc11 pm11 an11 cd11 ct11), sl11⟩)
  (a12 : W.nsIn K mainGlobals "_law_name_of" = some (some (.ref f12))) (l12 : K.lookup f12 = some ⟨oc12, od12, .func (W.fnOf "_law_name_of" "_law_name_of" (defArgs aq3) (defBody aq3) (defScope aq3) .none kV12 dc12 pm12 an12 cd12 ct12), sl12⟩)
  (a13 : W.nsIn K mainGlobals "_law_alike" = some (some (.ref f13))) (l13 : K.lookup f13 = some ⟨oc13, od13, .func (W.fnOf "_law_alike" "_law_alike" (defArgs bqv) (defBody bqv) (defScope bqv) .none kV13 dc13 pm13 an13 cd13 ct13), sl13⟩)
  (a14 : W.nsIn K mainGlobals "_law_worths" = some (some (.ref f14))) (l14 : K.lookup f14 = some ⟨oc14, od14, .func (W.fnOf "_law_worths" "_law_worths" (defArgs bqd) (defBody bqd) (defScope bqd) .none kV14 dc14 pm14 an14 cd14 ct14), sl14⟩)
  (a15 : W.nsIn K mainGlobals "spread" = some (some (.ref f15))) (l15 : K.lookup f15 = some ⟨oc15, od15, .func (W.fnOf "spread" "spread" (defArgs dq7) (defBody dq7) (defScope dq7) .none kV15 dc15 pm15 an15 cd15 ct15), sl15⟩)
  (a16 : W.nsIn K mainGlobals "fits_part" = some (some (.ref f16))) (l16 : K.lookup f16 = some ⟨oc16, od16, .func (W.fnOf "fits_part" "fits_part" (defArgs bqK) (defBody bqK) (defScope bqK) .none kV16 dc16 pm16 an16 cd16 ct16), sl16⟩)
  (a17 : W.nsIn K mainGlobals "is_number" = some (some (.ref f17))) (l17 : K.lookup f17 = some ⟨oc17, od17, .func (W.fnOf "is_number" "is_number" (defArgs bqD) (defBody bqD) (defScope bqD) .none kV17 dc17 pm17 an17 cd17 ct17), sl17⟩)
  (a18 : W.nsIn K mainGlobals "is_word" = some (some (.ref f18))) (l18 : K.lookup f18 = some ⟨oc18, od18, .func (W.fnOf "is_word" "is_word" (defArgs cq3) (defBody cq3) (defScope cq3) .none kV18 dc18 pm18 an18 cd18 ct18), sl18⟩)
  (a19 : W.nsIn K mainGlobals "bound_value" = some (some (.ref f19))) (l19 : K.lookup f19 = some ⟨oc19, od19, .func (W.fnOf "bound_value" "bound_value" (defArgs aq9) (defBody aq9) (defScope aq9) .none kV19 dc19 pm19 an19 cd19 ct19), sl19⟩)
  (a20 : W.nsIn K mainGlobals "worth_of" = some (some (.ref f20))) (l20 : K.lookup f20 = some ⟨oc20, od20, .func (W.fnOf "worth_of" "worth_of" (defArgs cqo) (defBody cqo) (defScope cqo) .none kV20 dc20 pm20 an20 cd20 ct20), sl20⟩)
  (a21 : W.nsIn K mainGlobals "_law_text" = some (some (.ref f21))) (l21 : K.lookup f21 = some ⟨oc21, od21, .func (W.fnOf "_law_text" "_law_text" (defArgs bqF) (defBody bqF) (defScope bqF) .none kV21 dc21 pm21 an21 cd21 ct21), sl21⟩)
  (a22 : W.nsIn K mainGlobals "_law_bound" = some (some (.ref f22))) (l22 : K.lookup f22 = some ⟨oc22, od22, .func (W.fnOf "_law_bound" "_law_bound" (defArgs bqq) (defBody bqq) (defScope bqq) .none kV22 dc22 pm22 an22 cd22 ct22), sl22⟩)
  (a23 : W.nsIn K mainGlobals "step_fits" = some (some (.ref f23))) (l23 : K.lookup f23 = some ⟨oc23, od23, .func (W.fnOf "step_fits" "step_fits" (defArgs bqH) (defBody bqH) (defScope bqH) .none kV23 dc23 pm23 an23 cd23 ct23), sl23⟩)
  (a24 : W.nsIn K mainGlobals "worth_more" = some (some (.ref f24))) (l24 : K.lookup f24 = some ⟨oc24, od24, .func (W.fnOf "worth_more" "worth_more" (defArgs bqt) (defBody bqt) (defScope bqt) .none kV24 dc24 pm24 an24 cd24 ct24), sl24⟩)
  (a25 : W.nsIn K mainGlobals "_law_step" = some (some (.ref f25))) (l25 : K.lookup f25 = some ⟨oc25, od25, .func (W.fnOf "_law_step" "_law_step" (defArgs bqJ) (defBody bqJ) (defScope bqJ) .none kV25 dc25 pm25 an25 cd25 ct25), sl25⟩)
  (a26 : W.nsIn K mainGlobals "_law_due" = some (some (.ref f26))) (l26 : K.lookup f26 = some ⟨oc26, od26, .func (W.fnOf "_law_due" "_law_due" (defArgs cqn) (defBody cqn) (defScope cqn) .none kV26 dc26 pm26 an26 cd26 ct26), sl26⟩)
  (a27 : W.nsIn K mainGlobals "fits" = some (some (.ref f27))) (l27 : K.lookup f27 = some ⟨oc27, od27, .func (W.fnOf "fits" "fits" (defArgs gqP) (defBody gqP) (defScope gqP) .none kV27 dc27 pm27 an27 cd27 ct27), sl27⟩)
  (a28 : W.nsIn K mainGlobals "worth_most" = some (some (.ref f28))) (l28 : K.lookup f28 = some ⟨oc28, od28, .func (W.fnOf "worth_most" "worth_most" (defArgs bqp) (defBody bqp) (defScope bqp) .none kV28 dc28 pm28 an28 cd28 ct28), sl28⟩)
  (a29 : W.nsIn K mainGlobals "_law_piece" = some (some (.ref f29))) (l29 : K.lookup f29 = some ⟨oc29, od29, .func (W.fnOf "_law_piece" "_law_piece" (defArgs bqy) (defBody bqy) (defScope bqy) .none kV29 dc29 pm29 an29 cd29 ct29), sl29⟩)
  (a30 : W.nsIn K mainGlobals "_law_near_step" = some (some (.ref f30))) (l30 : K.lookup f30 = some ⟨oc30, od30, .func (W.fnOf "_law_near_step" "_law_near_step" (defArgs aqT) (defBody aqT) (defScope aqT) .none kV30 dc30 pm30 an30 cd30 ct30), sl30⟩)
  (a31 : W.nsIn K mainGlobals "bound" = some (some (.ref f31))) (l31 : K.lookup f31 = some ⟨oc31, od31, .func (W.fnOf "bound" "bound" (defArgs eqY) (defBody eqY) (defScope eqY) .none kV31 dc31 pm31 an31 cd31 ct31), sl31⟩)
  (a32 : W.nsIn K mainGlobals "_law_small" = some (some (.ref f32))) (l32 : K.lookup f32 = some ⟨oc32, od32, .func (W.fnOf "_law_small" "_law_small" (defArgs bqn) (defBody bqn) (defScope bqn) .none kV32 dc32 pm32 an32 cd32 ct32), sl32⟩)
  (a33 : W.nsIn K mainGlobals "_law_steps" = some (some (.ref f33))) (l33 : K.lookup f33 = some ⟨oc33, od33, .func (W.fnOf "_law_steps" "_law_steps" (defArgs bqs) (defBody bqs) (defScope bqs) .none kV33 dc33 pm33 an33 cd33 ct33), sl33⟩)
  (a34 : W.nsIn K mainGlobals "lead" = some (some (.ref f34))) (l34 : K.lookup f34 = some ⟨oc34, od34, .func (W.fnOf "lead" "lead" (defArgs gqE) (defBody gqE) (defScope gqE) .none kV34 dc34 pm34 an34 cd34 ct34), sl34⟩)
  (a35 : W.nsIn K mainGlobals "_law_table" = some (some (.ref f35))) (l35 : K.lookup f35 = some ⟨oc35, od35, .func (W.fnOf "_law_table" "_law_table" (defArgs bqw) (defBody bqw) (defScope bqw) .none kV35 dc35 pm35 an35 cd35 ct35), sl35⟩)
  (a36 : W.nsIn K mainGlobals "_law_right" = some (some (.ref f36))) (l36 : K.lookup f36 = some ⟨oc36, od36, .func (W.fnOf "_law_right" "_law_right" (defArgs bqx) (defBody bqx) (defScope bqx) .none kV36 dc36 pm36 an36 cd36 ct36), sl36⟩)
  (a37 : W.nsIn K mainGlobals "_law_all_right" = some (some (.ref f37))) (l37 : K.lookup f37 = some ⟨oc37, od37, .func (W.fnOf "_law_all_right" "_law_all_right" (defArgs aqU) (defBody aqU) (defScope aqU) .none kV37 dc37 pm37 an37 cd37 ct37), sl37⟩)
  (a38 : W.nsIn K mainGlobals "law" = some (some (.ref f38))) (l38 : K.lookup f38 = some ⟨oc38, od38, .func (W.fnOf "law" "law" (defArgs jqY) (defBody jqY) (defScope jqY) .none kV38 dc38 pm38 an38 cd38 ct38), sl38⟩)
  {qa_WORTH_OF_WORDS : Addr} (e_WORTH_OF_WORDS : W.nsIn K mainGlobals "WORTH_OF_WORDS" = some (some (.ref qa_WORTH_OF_WORDS)))
  (yl_WORTH_OF_WORDS : PyProof.Rows.KTD.tabLook PyProof.Rows.KTD.flatLooks (fun a => K.lookup a) qa_WORTH_OF_WORDS bqV = true) (yh_WORTH_OF_WORDS : PyProof.Rows.KTD.hashesOf (fun a => K.lookup a) qa_WORTH_OF_WORDS = bqV.map fun p => hashStr w p.1)
  {aq6 : Tok} (e_SMALL_LETTERS : W.nsIn K mainGlobals "SMALL_LETTERS" = some (some (.str (Str.ofString "abcdefghijklmnopqrstuvwxyz") aq6)))
  {dqA : Tok} (e_FIGURES : W.nsIn K mainGlobals "FIGURES" = some (some (.str (Str.ofString "0123456789") dqA)))
  {eqL : Tok} (e_ROOTED : W.nsIn K mainGlobals "ROOTED" = some (some (.int 0 eqL)))
  {fqL : Tok} (e_STEPS : W.nsIn K mainGlobals "STEPS" = some (some (.int 1 fqL)))
  {iqv : Tok} (e_ENDS : W.nsIn K mainGlobals "ENDS" = some (some (.int 2 iqv)))
  {hq8 : Tok} (e_STAY : W.nsIn K mainGlobals "STAY" = some (some (.str (Str.ofString ".") hq8)))
  {t_UP : Tok} (e_UP : W.nsIn K mainGlobals "UP" = some (some (.str (Str.ofString "..") t_UP)))
  {eqO : Tok} (e_PIECES : W.nsIn K mainGlobals "PIECES" = some (some (.int 0 eqO)))
  {eqx : Tok} (e_CLOSES : W.nsIn K mainGlobals "CLOSES" = some (some (.int 1 eqx)))
  {aq1 : Tok} (e_LONGEST_NUMBER : W.nsIn K mainGlobals "LONGEST_NUMBER" = some (some (.int 60 aq1)))
  {bqf : Tok} (e_LONGEST_WORD : W.nsIn K mainGlobals "LONGEST_WORD" = some (some (.int 60 bqf)))
  (z_all : W.nsIn K mainGlobals "all" = some none)
  (z_len : W.nsIn K mainGlobals "len" = some none)
  (z_range : W.nsIn K mainGlobals "range" = some none)
  (z_int : W.nsIn K mainGlobals "int" = some none)
  (z_isinstance : W.nsIn K mainGlobals "isinstance" = some none)
  (z_bool : W.nsIn K mainGlobals "bool" = some none)
  (z_tuple : W.nsIn K mainGlobals "tuple" = some none)
  (z_list : W.nsIn K mainGlobals "list" = some none)
  (z_enumerate : W.nsIn K mainGlobals "enumerate" = some none)
  (z_min : W.nsIn K mainGlobals "min" = some none)
  (z_zip : W.nsIn K mainGlobals "zip" = some none)
  (z_str : W.nsIn K mainGlobals "str" = some none)
  (kk : ((((((W.keepIn K (.ref f1) && W.keepIn K (.ref f2)) && W.keepIn K (.ref f3)) && (W.keepIn K (.ref f4) && W.keepIn K (.ref f5))) && (((W.keepIn K (.ref f6) && W.keepIn K (.ref f7)) && W.keepIn K (.ref f8)) && (W.keepIn K (.ref f9) && W.keepIn K (.ref f10)))) && ((((W.keepIn K (.ref f11) && W.keepIn K (.ref f12)) && W.keepIn K (.ref f13)) && (W.keepIn K (.ref f14) && W.keepIn K (.ref f15))) && ((W.keepIn K (.ref f16) && W.keepIn K (.ref f17)) && (W.keepIn K (.ref f18) && W.keepIn K (.ref f19))))) && (((((W.keepIn K (.ref f20) && W.keepIn K (.ref f21)) && W.keepIn K (.ref f22)) && (W.keepIn K (.ref f23) && W.keepIn K (.ref f24))) && (((W.keepIn K (.ref f25) && W.keepIn K (.ref f26)) && W.keepIn K (.ref f27)) && (W.keepIn K (.ref f28) && W.keepIn K (.ref f29)))) && ((((W.keepIn K (.ref f30) && W.keepIn K (.ref f31)) && W.keepIn K (.ref f32)) && (W.keepIn K (.ref f33) && W.keepIn K (.ref f34))) && ((W.keepIn K (.ref f35) && W.keepIn K (.ref f36)) && (W.keepIn K (.ref f37) && W.keepIn K (.ref f38)))))) = true)
  (cc : ((((((W.codeIn K cd1 "made_of" && W.codeIn K cd2 "is_dot") && W.codeIn K cd3 "is_gap") && (W.codeIn K cd4 "name_of" && W.codeIn K cd5 "head_of")) && (((W.codeIn K cd6 "tail_of" && W.codeIn K cd7 "has_rest") && W.codeIn K cd8 "_law_cell_at") && (W.codeIn K cd9 "_law_names" && W.codeIn K cd10 "_law_signs"))) && ((((W.codeIn K cd11 "_law_piece_value" && W.codeIn K cd12 "_law_name_of") && W.codeIn K cd13 "_law_alike") && (W.codeIn K cd14 "_law_worths" && W.codeIn K cd15 "spread")) && ((W.codeIn K cd16 "fits_part" && W.codeIn K cd17 "is_number") && (W.codeIn K cd18 "is_word" && W.codeIn K cd19 "bound_value")))) && (((((W.codeIn K cd20 "worth_of" && W.codeIn K cd21 "_law_text") && W.codeIn K cd22 "_law_bound") && (W.codeIn K cd23 "step_fits" && W.codeIn K cd24 "worth_more")) && (((W.codeIn K cd25 "_law_step" && W.codeIn K cd26 "_law_due") && W.codeIn K cd27 "fits") && (W.codeIn K cd28 "worth_most" && W.codeIn K cd29 "_law_piece"))) && ((((W.codeIn K cd30 "_law_near_step" && W.codeIn K cd31 "bound") && W.codeIn K cd32 "_law_small") && (W.codeIn K cd33 "_law_steps" && W.codeIn K cd34 "lead")) && ((W.codeIn K cd35 "_law_table" && W.codeIn K cd36 "_law_right") && (W.codeIn K cd37 "_law_all_right" && W.codeIn K cd38 "law"))))) = true) :
  ∃ fd : FuncData, (∀ (s : Shared) (v : Value), BindsTo s fd ⟨[v], []⟩ [("_law_script", v)]) ∧ ∀ base : Heap, K.In base → base.Ns mainGlobals mg → FnOk l.prog w K mg base CX0 9 fa fd ["_law_script"] (jqw K) := by
 have e := hfa.symm.trans (W.mg_of X Gl a38)
 have e2 : f38 = fa := by cases e; rfl
 subst e2
 have M : ∀ {x : Str} {v : Value}, W.nsIn K mainGlobals x = some (some v) → mg x = some v := fun a => W.mg_of X Gl a
 have F1 := aqE (st := cq2) l1 (aqg (aqg (aqg (aqg (aqg (aqg cc)))))) (aqg (aqg (aqg (aqg (aqg (aqg kk))))))
 have F2 := aqE (st := dqZ) l2 (aqh (aqg (aqg (aqg (aqg (aqg cc)))))) (aqh (aqg (aqg (aqg (aqg (aqg kk))))))
 have F3 := aqE (st := dq0) l3 (aqh (aqg (aqg (aqg (aqg cc))))) (aqh (aqg (aqg (aqg (aqg kk)))))
 have F4 := aqE (st := cq5) l4 (aqg (aqh (aqg (aqg (aqg cc))))) (aqg (aqh (aqg (aqg (aqg kk)))))
 have F5 := aqE (st := cq1) l5 (aqh (aqh (aqg (aqg (aqg cc))))) (aqh (aqh (aqg (aqg (aqg kk)))))
 have F6 := aqE (st := cq4) l6 (aqg (aqg (aqg (aqh (aqg (aqg cc)))))) (aqg (aqg (aqg (aqh (aqg (aqg kk))))))
 have F7 := aqE (st := cqm) l7 (aqh (aqg (aqg (aqh (aqg (aqg cc)))))) (aqh (aqg (aqg (aqh (aqg (aqg kk))))))
 have F8 := aqE (st := aq2) l8 (aqh (aqg (aqh (aqg (aqg cc))))) (aqh (aqg (aqh (aqg (aqg kk)))))
 have F9 := aqE (st := bqr) l9 (aqg (aqh (aqh (aqg (aqg cc))))) (aqg (aqh (aqh (aqg (aqg kk)))))
 have F10 := aqE (st := bqo) l10 (aqh (aqh (aqh (aqg (aqg cc))))) (aqh (aqh (aqh (aqg (aqg kk)))))
 have F11 := aqE (st := aqK) l11 (aqg (aqg (aqg (aqg (aqh (aqg cc)))))) (aqg (aqg (aqg (aqg (aqh (aqg kk))))))
 have F12 := aqE (st := aq3) l12 (aqh (aqg (aqg (aqg (aqh (aqg cc)))))) (aqh (aqg (aqg (aqg (aqh (aqg kk))))))
 have F13 := aqE (st := bqv) l13 (aqh (aqg (aqg (aqh (aqg cc))))) (aqh (aqg (aqg (aqh (aqg kk)))))
 have F14 := aqE (st := bqd) l14 (aqg (aqh (aqg (aqh (aqg cc))))) (aqg (aqh (aqg (aqh (aqg kk)))))
 have F15 := aqE (st := dq7) l15 (aqh (aqh (aqg (aqh (aqg cc))))) (aqh (aqh (aqg (aqh (aqg kk)))))
 have F16 := aqE (st := bqK) l16 (aqg (aqg (aqh (aqh (aqg cc))))) (aqg (aqg (aqh (aqh (aqg kk)))))
 have F17 := aqE (st := bqD) l17 (aqh (aqg (aqh (aqh (aqg cc))))) (aqh (aqg (aqh (aqh (aqg kk)))))
 have F18 := aqE (st := cq3) l18 (aqg (aqh (aqh (aqh (aqg cc))))) (aqg (aqh (aqh (aqh (aqg kk)))))
 have F19 := aqE (st := aq9) l19 (aqh (aqh (aqh (aqh (aqg cc))))) (aqh (aqh (aqh (aqh (aqg kk)))))
 have F20 := aqE (st := cqo) l20 (aqg (aqg (aqg (aqg (aqg (aqh cc)))))) (aqg (aqg (aqg (aqg (aqg (aqh kk))))))
 have F21 := aqE (st := bqF) l21 (aqh (aqg (aqg (aqg (aqg (aqh cc)))))) (aqh (aqg (aqg (aqg (aqg (aqh kk))))))
 have F22 := aqE (st := bqq) l22 (aqh (aqg (aqg (aqg (aqh cc))))) (aqh (aqg (aqg (aqg (aqh kk)))))
 have F23 := aqE (st := bqH) l23 (aqg (aqh (aqg (aqg (aqh cc))))) (aqg (aqh (aqg (aqg (aqh kk)))))
 have F24 := aqE (st := bqt) l24 (aqh (aqh (aqg (aqg (aqh cc))))) (aqh (aqh (aqg (aqg (aqh kk)))))
 have F25 := aqE (st := bqJ) l25 (aqg (aqg (aqg (aqh (aqg (aqh cc)))))) (aqg (aqg (aqg (aqh (aqg (aqh kk))))))
 have F26 := aqE (st := cqn) l26 (aqh (aqg (aqg (aqh (aqg (aqh cc)))))) (aqh (aqg (aqg (aqh (aqg (aqh kk))))))
 have F27 := aqE (st := gqP) l27 (aqh (aqg (aqh (aqg (aqh cc))))) (aqh (aqg (aqh (aqg (aqh kk)))))
 have F28 := aqE (st := bqp) l28 (aqg (aqh (aqh (aqg (aqh cc))))) (aqg (aqh (aqh (aqg (aqh kk)))))
 have F29 := aqE (st := bqy) l29 (aqh (aqh (aqh (aqg (aqh cc))))) (aqh (aqh (aqh (aqg (aqh kk)))))
 have F30 := aqE (st := aqT) l30 (aqg (aqg (aqg (aqg (aqh (aqh cc)))))) (aqg (aqg (aqg (aqg (aqh (aqh kk))))))
 have F31 := aqE (st := eqY) l31 (aqh (aqg (aqg (aqg (aqh (aqh cc)))))) (aqh (aqg (aqg (aqg (aqh (aqh kk))))))
 have F32 := aqE (st := bqn) l32 (aqh (aqg (aqg (aqh (aqh cc))))) (aqh (aqg (aqg (aqh (aqh kk)))))
 have F33 := aqE (st := bqs) l33 (aqg (aqh (aqg (aqh (aqh cc))))) (aqg (aqh (aqg (aqh (aqh kk)))))
 have F34 := aqE (st := gqE) l34 (aqh (aqh (aqg (aqh (aqh cc))))) (aqh (aqh (aqg (aqh (aqh kk)))))
 have F35 := aqE (st := bqw) l35 (aqg (aqg (aqh (aqh (aqh cc))))) (aqg (aqg (aqh (aqh (aqh kk)))))
 have F36 := aqE (st := bqx) l36 (aqh (aqg (aqh (aqh (aqh cc))))) (aqh (aqg (aqh (aqh (aqh kk)))))
 have F37 := aqE (st := aqU) l37 (aqg (aqh (aqh (aqh (aqh cc))))) (aqg (aqh (aqh (aqh (aqh kk)))))
 have F38 := aqE (st := jqY) l38 (aqh (aqh (aqh (aqh (aqh cc))))) (aqh (aqh (aqh (aqh (aqh kk)))))
 let g : G w K mg := {
  eqP := f1, dqY := _, eqp := F1, gqd := M a1,
  fqZ := F1.binds (by walk_at "b2"),
  fqF := f2, eqr := _, hqG := F2, jqg := M a2,
  jqD := F2.binds (by walk_at "b1"),
  fqy := f3, eqt := _, gqZ := F3, jqA := M a3,
  jqv := F3.binds (by walk_at "b1"),
  eqE := f4, dqV := _, fq9 := F4, iqr := M a4,
  iqu := F4.binds (by walk_at "b1"),
  eqC := f5, dq3 := _, dqI := F5, eqJ := M a5,
  eqA := F5.binds (by walk_at "b1"),
  eqz := f6, dqW := _, dqG := F6, eqM := M a6,
  eqs := F6.binds (by walk_at "b1"),
  dq1 := f7, dqc := _, eq0 := F7, gqN := M a7,
  gqG := F7.binds (by walk_at "b1"),
  bqP := f8, bqB := _, aqI := F8, aqN := M a8,
  aqO := F8.binds (by walk_at "b2"),
  cqQ := f9, bq3 := _, bqT := F9, cqF := M a9,
  cqL := F9.binds (by walk_at "b2"),
  cqD := f10, bq7 := _, dqF := F10, fqr := M a10,
  fqk := F10.binds (by walk_at "b0"),
  aq4 := f11, aqX := _, bqA := F11, cqT := M a11,
  cqV := F11.binds (by walk_at "b2"),
  bqO := f12, bqz := _, cqZ := F12, eqb := M a12,
  eqc := F12.binds (by walk_at "b1"),
  cqN := f13, bq9 := _, dqJ := F13, eq7 := M a13,
  fqh := F13.binds (by walk_at "b2"),
  cqc := f14, bqN := _, cqh := F14, dqb := M a14,
  dqo := F14.binds (by walk_at "b1"),
  fqA := f15, eqw := _, hqH := F15, jqx := M a15,
  jqB := F15.binds (by walk_at "b2"),
  dqa := f16, cqX := _, eqj := F16, fq7 := M a16,
  gqo := F16.binds (by walk_at "b2"),
  dqf := f17, cqM := _, eqm := F17, fqT := M a17,
  gqr := F17.binds (by walk_at "b1"),
  eqB := f18, dqX := _, fqN := F18, iqa := M a18,
  iqo := F18.binds (by walk_at "b1"),
  cqf := f19, bqL := _, dqp := F19, eqN := M a19,
  eqI := F19.binds (by walk_at "b2"),
  dq6 := f20, dqr := _, cqk := F20, cq0 := M a20,
  cq9 := F20.binds (by walk_at "b1"),
  dqd := f21, cqB := _, bqI := F21, cqu := M a21,
  cqy := F21.binds (by walk_at "b1"),
  cqW := f22, cqa := _, dqK := F22, fqi := M a22,
  fqa := F22.binds (by walk_at "b2"),
  dqh := f23, cqE := _, eql := F23, gqe := M a23,
  fq6 := F23.binds (by walk_at "b2"),
  cqS := f24, cqg := _, dqL := F24, fqc := M a24,
  fqg := F24.binds (by walk_at "b2"),
  dqk := f25, cqI := _, bqE := F25, cqv := M a25,
  cqs := F25.binds (by walk_at "b1"),
  dq2 := f26, dql := _, eqZ := F26, gqV := M a26,
  gqD := F26.binds (by walk_at "b2"),
  jqj := f27, hqi := _, jqI := F27, kqq := M a27,
  lqh := F27.binds (by walk_at "b2"),
  cqP := f28, cqj := _, dqD := F28, fqs := M a28,
  fql := F28.binds (by walk_at "b1"),
  cqO := f29, bq5 := _, dqB := F29, fqo := M a29,
  fqq := F29.binds (by walk_at "b2"),
  bqk := f30, bqb := _, bqY := F30, dqu := M a30,
  dqz := F30.binds (by walk_at "b2"),
  gq2 := f31, fqx := _, iq5 := F31, lqd := M a31,
  kqU := F31.binds (by walk_at "b2"),
  cqG := f32, cqb := _, cqH := F32, dqS := M a32,
  dqT := F32.binds (by walk_at "b2"),
  cqU := f33, cqd := _, dqC := F33, fqd := M a33,
  fqb := F33.binds (by walk_at "b2"),
  jqJ := f34, hqz := _, kqL := F34, nqv := M a34,
  nqi := F34.binds (by walk_at "b2"),
  cqK := f35, cqi := _, dqQ := F35, fqt := M a35,
  fqp := F35.binds (by walk_at "b5"),
  cqA := f36, cqe := _, dqR := F36, fqj := M a36,
  fqf := F36.binds (by walk_at "b2"),
  bqj := f37, bqa := _, bqi := F37, bqW := M a37,
  bqZ := F37.binds (by walk_at "b2"),
  mqW := f38, iqB := _, pqt := F38, qqE := M a38,
  qqJ := F38.binds (by walk_at "b1"),
  bqh := qa_WORTH_OF_WORDS, dqs := W.mg_of X Gl e_WORTH_OF_WORDS, dqv := fun P h hI => PyProof.Rows.KTD.strTab_of_look P w hI yl_WORTH_OF_WORDS (by decide) yh_WORTH_OF_WORDS,
  aq6 := aq6, dqN := W.mg_of X Gl e_SMALL_LETTERS,
  dqA := dqA, iqz := W.mg_of X Gl e_FIGURES,
  eqL := eqL, jqo := W.mg_of X Gl e_ROOTED,
  fqL := fqL, iqV := W.mg_of X Gl e_STEPS,
  iqv := iqv, nqn := W.mg_of X Gl e_ENDS,
  hq8 := hq8, nqh := W.mg_of X Gl e_STAY,
  t_UP := t_UP, c_UP := W.mg_of X Gl e_UP,
  eqO := eqO, cqR := W.mg_of X Gl e_PIECES,
  eqx := eqx, jqr := W.mg_of X Gl e_CLOSES,
  aq1 := aq1, dqy := W.mg_of X Gl e_LONGEST_NUMBER,
  bqf := bqf, eqg := W.mg_of X Gl e_LONGEST_WORD,
  nq0 := W.mg_none_of X Gl z_all,
  aqS := W.mg_none_of X Gl z_len,
  dqU := W.mg_none_of X Gl z_range,
  mqE := W.mg_none_of X Gl z_int,
  bqu := W.mg_none_of X Gl z_isinstance,
  nqj := W.mg_none_of X Gl z_bool,
  fqU := W.mg_none_of X Gl z_tuple,
  jqz := W.mg_none_of X Gl z_list,
  cqx := W.mg_none_of X Gl z_enumerate,
  pq6 := W.mg_none_of X Gl z_min,
  oqp := W.mg_none_of X Gl z_zip,
  oqW := W.mg_none_of X Gl z_str }
 exact ⟨g.iqB, fun s v => .of_eq rfl, fun base _ _ => pqw g⟩
theorem walk {l : PySem.W.OpenLaw} {q : Program} {loose : List Str} {XP : (Str → Option Value) → Heap → Prop} {YP : World → Heap → Prop} {d : DefRec} {K : Params → W.Frag} (hn : l.most = some 63) (hdf : d.params.defaults = [])
  (hY : ∀ (w : World) (h : Heap), YP w h → (K w.params).In h)
  (F : ∀ (w : World) (mg : Str → Option Value) (fa : Addr) (h : Heap), (K w.params).In h → h.Ns mainGlobals mg → mg d.name = some (.ref fa) →
   ∃ fd : FuncData, (∀ (s : Shared) (u : Value), BindsTo s fd ⟨[u], []⟩ [("_law_script", u)]) ∧ ∀ base : Heap, (K w.params).In base → base.Ns mainGlobals mg → FnOk l.prog w (K w.params) mg base CX0 9 fa fd ["_law_script"] (jqw (K w.params))) :
  PySem.W.WalkO q loose XP YP l.row.toRowW d [] (fun f vs => PySem.call f vs) :=
 L2.oqR (n := 63) (k := 9) (x := "_law_script") (CX := fun _ => CX0) (sp := fun w => jqw (K w.params)) hn (by decide) hdf ⟨rfl, by decide, by decide⟩ hY F (fun _ _ a ns hl _ hS => ⟨a, ns, rfl, hS, hl, fun _ => rfl⟩) fun _ _ _ _ _ z => z
end Wm
theorem PySem.W.Fast.tw2709805319886165635 : True := trivial
theorem PySem.W.Fast.tw10879476098773688167 : True := trivial
theorem PySem.W.Fast.tw17108402545542543319 : True := trivial
theorem PySem.W.Fast.tw4813861770370525230 : True := trivial
theorem PySem.W.Fast.tw15987330900916048526 : True := trivial
theorem PySem.W.Fast.tw8366574334546804676 : True := trivial
theorem PySem.W.Fast.tw3224901955483294079 : True := trivial
theorem PySem.W.Fast.tw12931774270369003894 : True := trivial
theorem PySem.W.Fast.tw5611818803882382164 : True := trivial
theorem PySem.W.Fast.tw5489263811822746793 : True := trivial
theorem PySem.W.Fast.tw2795654889163374241 : True := trivial
theorem PySem.W.Fast.tw10200160071327171171 : True := trivial
theorem PySem.W.Fast.tw7039130646895765130 : True := trivial
theorem PySem.W.Fast.tw965068646601372374 : True := trivial
theorem PySem.W.Fast.tw6902699053818457986 : True := trivial
theorem PySem.W.Fast.tw16052637029957675417 : True := trivial
theorem PySem.W.Fast.tw2863875471538291102 : True := trivial
theorem PySem.W.Fast.tw1561756154084281645 : True := trivial
theorem PySem.W.Fast.tw2841488199965447221 : True := trivial
theorem PySem.W.Fast.tw15798746159319423239 : True := trivial
theorem PySem.W.Fast.tw10318228799311216329 : True := trivial
theorem PySem.W.Fast.tw16729661273325006931 : True := trivial
theorem PySem.W.Fast.tw5000124317840353352 : True := trivial
theorem PySem.W.Fast.tw3890792648597458997 : True := trivial
theorem PySem.W.Fast.tw14206502733887799457 : True := trivial
theorem PySem.W.Fast.tw10284167056919946900 : True := trivial
theorem PySem.W.Fast.tw10823632375837657018 : True := trivial
theorem PySem.W.Fast.tw18251820321814281170 : True := trivial
theorem PySem.W.Fast.tw7339939561524192734 : True := trivial
theorem PySem.W.Fast.tw12121791721558641483 : True := trivial
theorem PySem.W.Fast.tw12114471367890112902 : True := trivial
theorem PySem.W.Fast.tw11021938876109039859 : True := trivial
theorem PySem.W.Fast.tw5039627812743431348 : True := trivial
theorem PySem.W.Fast.tw18365875805281277985 : True := trivial
theorem PySem.W.Fast.tw1433592377266206183 : True := trivial
theorem PySem.W.Fast.tw60396648919767549 : True := trivial
theorem PySem.W.Fast.tw10626046447334094831 : True := trivial
theorem PySem.W.Fast.tw9002262171749025193 : True := trivial
theorem PySem.W.Fast.tw8569703588892139882 : True := trivial
theorem PySem.W.Fast.tw4161699770157965346 : True := trivial
theorem PySem.W.Fast.tw17549265569002233812 : True := trivial
theorem PySem.W.Fast.tw1891724424982209975 : True := trivial
theorem PySem.W.Fast.tw1333915655168824377 : True := trivial
theorem PySem.W.Fast.tw205596528121535752 : True := trivial
theorem PySem.W.Fast.tw17061710515481379360 : True := trivial
theorem PySem.W.Fast.tw8588891919138747258 : True := trivial
theorem PySem.W.Fast.tw17877406647215347295 : True := trivial
theorem PySem.W.Fast.tw7736553965443339442 : True := trivial
theorem PySem.W.Fast.tw12943599448569175295 : True := trivial
theorem PySem.W.Fast.tw14554769196772055206 : True := trivial
theorem PySem.W.Fast.tw15505907008341067641 : True := trivial
theorem PySem.W.Fast.tw6241967960513855970 : True := trivial
theorem PySem.W.Fast.tw10474577884052526355 : True := trivial
theorem PySem.W.Fast.tw9762218513232742433 : True := trivial
theorem PySem.W.Fast.tw5035088589415982328 : True := trivial
theorem PySem.W.Fast.tw10046430869206040281 : True := trivial
theorem PySem.W.Fast.tw8504483068032480715 : True := trivial
theorem PySem.W.Fast.tw6274096142916832722 : True := trivial
theorem PySem.W.Fast.tw13055388946100721375 : True := trivial
theorem PySem.W.Fast.tw12355150958188109267 : True := trivial
theorem PySem.W.Fast.tw8204904895274062469 : True := trivial
theorem PySem.W.Fast.tw1137869334437578655 : True := trivial
theorem PySem.W.Fast.tw12499280984997081844 : True := trivial
theorem PySem.W.Fast.tw8859479090051460305 : True := trivial
theorem PySem.W.Fast.tw11019155652794359324 : True := trivial
theorem PySem.W.Fast.tw4264868994973793997 : True := trivial
theorem PySem.W.Fast.tw4141760035963469485 : True := trivial
theorem PySem.W.Fast.tw9006178931121434364 : True := trivial
theorem PySem.W.Fast.tw7538139885216861428 : True := trivial
theorem PySem.W.Fast.tw7632942729782495968 : True := trivial
theorem PySem.W.Fast.tw10036252048411113552 : True := trivial
theorem PySem.W.Fast.tw7950492481832115019 : True := trivial
theorem PySem.W.Fast.tw5704423824214238422 : True := trivial
theorem PySem.W.Fast.tw3530847466409497604 : True := trivial
theorem PySem.W.Fast.tw11939577390119167960 : True := trivial
theorem PySem.W.Fast.tw17511496026270750227 : True := trivial
theorem PySem.W.Fast.tw17109760281021977647 : True := trivial
theorem PySem.W.Fast.tw13438731602397544020 : True := trivial
theorem PySem.W.Fast.tw17208770107109337918 : True := trivial
theorem PySem.W.Fast.tw2635086289730854886 : True := trivial
theorem PySem.W.Fast.tw424764360598365321 : True := trivial
theorem PySem.W.Fast.tw4316462901376535622 : True := trivial
theorem PySem.W.Fast.tw118522232247576659 : True := trivial
theorem PySem.W.Fast.tw12383077160813352216 : True := trivial
theorem PySem.W.Fast.tw10648058268728826863 : True := trivial
open PySem PySem.W PyProof.Rows
set_option maxRecDepth 100000 in
set_option maxHeartbeats 0 in
theorem PySem.Challenge.cw_waymark_k62_led_by_a_table_holds : PySem.Challenge.rw_waymark_k62_led_by_a_table.Holds := by
 w_on; o_law; k_head; (case hw => w_witness2)
 k_fill
 refine Wm.walk (l := PySem.Challenge.rw_waymark_k62_led_by_a_table) rfl rfl (fun w h Y => PySem.W.kIn_of Y) ?F
 case F =>
  intro w mg fa h KX G hmg
  refine' Wm.pq9 KX G hmg ?a1 ?l1 ?a2 ?l2 ?a3 ?l3 ?a4 ?l4 ?a5 ?l5 ?a6 ?l6 ?a7 ?l7 ?a8 ?l8 ?a9 ?l9 ?a10 ?l10 ?a11 ?l11 ?a12 ?l12 ?a13 ?l13 ?a14 ?l14 ?a15 ?l15 ?a16 ?l16 ?a17 ?l17 ?a18 ?l18 ?a19 ?l19 ?a20 ?l20 ?a21 ?l21 ?a22 ?l22 ?a23 ?l23 ?a24 ?l24 ?a25 ?l25 ?a26 ?l26 ?a27 ?l27 ?a28 ?l28 ?a29 ?l29 ?a30 ?l30 ?a31 ?l31 ?a32 ?l32 ?a33 ?l33 ?a34 ?l34 ?a35 ?l35 ?a36 ?l36 ?a37 ?l37 ?a38 ?l38 ?e_WORTH_OF_WORDS ?yl_WORTH_OF_WORDS ?yh_WORTH_OF_WORDS ?e_SMALL_LETTERS ?e_FIGURES ?e_ROOTED ?e_STEPS ?e_ENDS ?e_STAY ?e_UP ?e_PIECES ?e_CLOSES ?e_LONGEST_NUMBER ?e_LONGEST_WORD ?z_all ?z_len ?z_range ?z_int ?z_isinstance ?z_bool ?z_tuple ?z_list ?z_enumerate ?z_min ?z_zip ?z_str ?kk ?cc
  (case a1 | l1 | a2 | l2 | a3 | l3 | a4 | l4 | a5 | l5 | a6 | l6 | a7 | l7 | a8 | l8 | a9 | l9 | a10 | l10 | a11 | l11 | a12 | l12 | a13 | l13 | a14 | l14 | a15 | l15 | a16 | l16 | a17 | l17 | a18 | l18 | a19 | l19 | a20 | l20 | a21 | l21 | a22 | l22 | a23 | l23 | a24 | l24 | a25 | l25 | a26 | l26 | a27 | l27 | a28 | l28 | a29 | l29 | a30 | l30 | a31 | l31 | a32 | l32 | a33 | l33 | a34 | l34 | a35 | l35 | a36 | l36 | a37 | l37 | a38 | l38 | e_WORTH_OF_WORDS => k_is)
  (case yl_WORTH_OF_WORDS | yh_WORTH_OF_WORDS => first | k_is | with_unfolding_all kernel_rfl | with_unfolding_all rfl)
  (case e_SMALL_LETTERS | e_FIGURES | e_ROOTED | e_STEPS | e_ENDS | e_STAY | e_UP | e_PIECES | e_CLOSES | e_LONGEST_NUMBER | e_LONGEST_WORD | z_all | z_len | z_range | z_int | z_isinstance | z_bool | z_tuple | z_list | z_enumerate | z_min | z_zip | z_str => k_is)
  (case kk | cc => first | k_is | with_unfolding_all kernel_rfl | with_unfolding_all rfl)
