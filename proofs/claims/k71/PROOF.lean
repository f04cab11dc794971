import PyProof.Rows.All
import Wide.All
import OpenK.AllK
import Wide.FinOn
import Lean
import PyProof.EqAt
import PyProof.EqKinds
import PyProof.TupleCall
import PySem.Challenge.RW_waymark_k71_none_where_none_fits
set_option Elab.async false
set_option linter.all false
set_option maxRecDepth 100000
namespace L2
open PySem PySem.Spec PyProof.Rows
abbrev Key := Sum Int Str
def keyIs : Key → Value → Bool
 | .inl k, v => Value.isInt k v
 | .inr x, v => Value.isStrOf x v
def keyH (w : World) : Key → Int
 | .inl k => hashInt k
 | .inr x => hashStr w x
theorem aqR : ∀ {k : Key} {v : Value}, keyIs k v = true → (∃ i t, k = Sum.inl i ∧ v = Value.int i t) ∨ (∃ x t, k = Sum.inr x ∧ v = Value.str x t)
 | .inl i, v, h => by
  obtain ⟨t, e⟩ := Value.isInt_shape (k := i) (v := v) h
  exact .inl ⟨i, t, rfl, e⟩
 | .inr x, v, h => by
  obtain ⟨t, e⟩ := Value.isStrOf_shape (x := x) (v := v) h
  exact .inr ⟨x, t, rfl, e⟩
theorem mqG (a b : Int) : decide ((Sum.inl a : Key) = Sum.inl b) = (a == b) := by
 by_cases e : a = b
 ·subst e; simp
 ·have h : ¬ (Sum.inl a : Key) = Sum.inl b := fun q => e (Sum.inl.inj q)
  rw [decide_eq_false h]
  exact (beq_eq_false_iff_ne.mpr e).symm
theorem nqq (a b : Str) : decide ((Sum.inr a : Key) = Sum.inr b) = decide (a = b) := by
 by_cases e : a = b
 ·subst e; simp
 ·have h : ¬ (Sum.inr a : Key) = Sum.inr b := fun q => e (Sum.inr.inj q)
  rw [decide_eq_false h, decide_eq_false e]
theorem mqD (a : Int) (b : Str) : decide ((Sum.inl a : Key) = Sum.inr b) = false := decide_eq_false (fun q => nomatch q)
theorem nqK (a : Str) (b : Int) : decide ((Sum.inr a : Key) = Sum.inl b) = false := decide_eq_false (fun q => nomatch q)
def mixKind (prog : Program) (w : World) : PySem.KeyKind prog w Key where
 is := keyIs
 hash := keyH w
 inj := fun v a b ha hb => by
  rcases aqR ha with ⟨i, t, rfl, rfl⟩ | ⟨x, t, rfl, rfl⟩
  ·rcases aqR hb with ⟨j, u, rfl, e⟩ | ⟨y, u, rfl, e⟩
   ·injection e with e1 _; rw [e1]
   ·exact nomatch e
  ·rcases aqR hb with ⟨j, u, rfl, e⟩ | ⟨y, u, rfl, e⟩
   ·exact nomatch e
   ·injection e with e1 _; rw [e1]
 byValue := fun k v h => by
  rcases aqR h with ⟨i, t, rfl, rfl⟩ | ⟨x, t, rfl, rfl⟩ <;> rfl
 pyHash := fun hv h => by
  rcases aqR hv with ⟨i, t, rfl, rfl⟩ | ⟨x, t, rfl, rfl⟩
  ·exact wpAny_pyHash_int h
  ·exact wpAny_pyHash_str h
 eqBool := fun hu hv h => by
  rcases aqR hu with ⟨i, t, rfl, rfl⟩ | ⟨x, t, rfl, rfl⟩
  ·rcases aqR hv with ⟨j, u, rfl, rfl⟩ | ⟨y, u, rfl, rfl⟩
   ·rw [mqG] at h; exact wpAny_eqBool_int h
   ·rw [mqD] at h; exact SeqAt.EqAt.int_str i t y u _ _ _ _ h
  ·rcases aqR hv with ⟨j, u, rfl, rfl⟩ | ⟨y, u, rfl, rfl⟩
   ·rw [nqK] at h; exact SeqAt.EqAt.str_int x t j u _ _ _ _ h
   ·rw [nqq] at h; exact wpAny_eqBool_str h
 «strs» := fun k x t v h => by
  rcases aqR h with ⟨i, u, rfl, e⟩ | ⟨y, u, rfl, e⟩
  ·exact nomatch e
  ·injection e with e1 _
   subst e1
   cases v <;> rfl
inductive V where
 | non | bl (b : Bool) | int (i : Int) | str (x : Str) | byt (b : Array UInt8) | flt (b : UInt64) | ref (a : Addr) | ty (n : String)
 deriving DecidableEq
def RelV : V → Value → Prop
 | .non, u => u = Value.none
 | .bl b, u => u = Value.bool b
 | .int i, u => ∃ t, u = Value.int i t
 | .str x, u => ∃ t, u = Value.str x t
 | .byt b, u => ∃ t, u = Value.bytes b t
 | .flt b, u => ∃ t, u = Value.float b t
 | .ref a, u => u = Value.ref a
 | .ty n, u => u = Value.type n
abbrev Vals : List V → List Value → Prop := Paired RelV
theorem Vals.length {xs : List V} {us : List Value} (r : Vals xs us) : xs.length = us.length := Paired.length r
theorem Vals.get : ∀ {xs : List V} {us : List Value} {i : Nat} {x : V}, Vals xs us → xs[i]? = some x → ∃ u, us[i]? = some u ∧ RelV x u
 | _, _, _, _, .nil, e => by simp at e
 | _, _, 0, _, .cons r _, e => by simp at e; subst e; exact ⟨_, rfl, r⟩
 | _, _, i + 1, x, .cons _ t, e => by
  obtain ⟨u, h1, h2⟩ := Vals.get (i := i) (x := x) t (by simpa using e)
  exact ⟨u, by simpa using h1, h2⟩
theorem Vals.append : ∀ {xs ys : List V} {us ws : List Value}, Vals xs us → Vals ys ws → Vals (xs ++ ys) (us ++ ws)
 | _, _, _, _, .nil, s => s
 | _, _, _, _, .cons r t, s => .cons r (Vals.append t s)
theorem Vals.take : ∀ {xs : List V} {us : List Value} (n : Nat), Vals xs us → Vals (xs.take n) (us.take n)
 | _, _, 0, _ => .nil
 | _, _, _ + 1, .nil => .nil
 | _, _, n + 1, .cons r t => .cons r (Vals.take n t)
theorem Vals.drop : ∀ {xs : List V} {us : List Value} (n : Nat), Vals xs us → Vals (xs.drop n) (us.drop n)
 | _, _, 0, r => r
 | _, _, _ + 1, .nil => .nil
 | _, _, n + 1, .cons _ t => Vals.drop n t
def RelO : Option V → Option Value → Prop
 | some v, some u => RelV v u
 | none, none => True
 | _, _ => False
def KV {κ : Type} : List (κ × V) → List (κ × Value) → Prop := Paired fun (p : κ × V) (q : κ × Value) => p.1 = q.1 ∧ RelV p.2 q.2
def kV : Key → V
 | .inl i => .int i
 | .inr x => .str x
inductive HO where
 | lst (xs : List V)
 | tup (xs : List V)
 | dK (kvs : List (Key × V)) | dT (kvs : List (List Key × V))
 | set (S : Int → Bool) (n : Nat)
 | ins (C dx : Addr) (fs : List (Str × V))
 | own (x : Addr)
 | xd (fs : List (Str × V))
 | met (f x : Addr)
 | rng (lo hi : Int)
 | frz (o : Obj) (u : HO)
 | tbl (ps : Array Value)
 | ext (φ : Heap → Prop)
abbrev Hp := Addr → Option HO
def upd (H : Hp) (a : Addr) (o : HO) : Hp := fun b => if b = a then some o else H b
theorem aqq {H : Hp} {a : Addr} {o : HO} : upd H a o a = some o := by unfold upd; rw [if_pos rfl]
theorem aqu {H : Hp} {a b : Addr} {o : HO} (h : b ≠ a) : upd H a o b = H b := by unfold upd; rw [if_neg h]
theorem aqo {H : Hp} {a b : Addr} {o : HO} (h : H a = some o) (h' : H b = none) : a ≠ b := by
 intro e; subst e; rw [h] at h'; cases h'
section
variable (P : Program) (w : World)
def ObjOk (H : Hp) (h : Heap) (a : Addr) : HO → Prop
 | .lst xs => xs.length ≤ sizeLine ∧ ∃ (its : List Value) (n : Nat), Vals xs its ∧ h.get? a = some { cls := .type "list", data := .seq its.toArray n }
 | .tup xs => xs.length ≤ sizeLine ∧ ∃ its : List Value, Vals xs its ∧ IsTup h a its.toArray
 | .dK kvs => kvs.length ≤ sizeLine ∧ (a == sysModules) = false ∧ ∃ vs, KV kvs vs ∧ h.DictOf (mixKind P w) a vs
 | .dT kvs => kvs.length ≤ sizeLine ∧ (a == sysModules) = false ∧ ∃ xs : List (List Key × Addr × Value),
   Paired (fun (p : List Key × V) (q : List Key × Addr × Value) => p.1 = q.1 ∧ H q.2.1 = some (.tup (p.1.map kV)) ∧ RelV p.2 q.2.2) kvs xs ∧
   ∃ o es ep, h.get? a = some o ∧ o.ExactDict ∧ o.data = .dict es ep ∧ es.toList = xs.map (entryOfKey (tupleKind (mixKind P w))) ∧ (xs.map (·.1)).Nodup
 | .set S n => h.SetOf (intKind P w) a S n
 | .ins C dx fs => H dx = some (.own a) ∧ fs.length ≤ 1000 ∧ dx ≠ a ∧ h.get? a = some (PySem.W.instObj C dx) ∧
   ∃ mA, h.Ns1 dx mA ∧ (∀ f, RelO (fs.lookup f) (mA f)) ∧ PySem.Within mA (fs.map (·.1))
 | .own _ => ∃ o, h.get? a = some o
 | .xd fs => ∃ mA, h.Ns1 a mA ∧ ∀ f, RelO (fs.lookup f) (mA f)
 | .rng lo hi => ∃ t u v, h.get? a = some { cls := .type "range", data := .fields #[.int lo t, .int hi u, .int 1 v] }
 | .frz o u => h.get? a = some o ∧ ObjOk H h a u
 | .tbl ps => h.get? a = some { cls := .none, data := .fields ps }
 | .met f x => h.get? a = some (PySem.W.methodObj (.ref f) (.ref x))
 | .ext φ => φ h ∧ (∃ o, h.get? a = some o) ∧ ∀ h1 h2 : Heap, φ h1 → (∀ o, h1.get? a = some o → h2.get? a = some o) → φ h2
def HOk (H : Hp) (h : Heap) : Prop := ∀ a o, H a = some o → ObjOk P w H h a o
end
section
variable {P : Program} {w : World} {H H' : Hp} {h h' : Heap} {a : Addr} {o : HO}
theorem ObjOk.lt (x : ObjOk P w H h a o) : a < h.objs.size := by
 cases o with
 | lst xs => obtain ⟨_, _, _, _, e⟩ := x; exact Heap.lt_size e
 | tup xs => obtain ⟨_, _, _, p⟩ := x; exact p.lt
 | dK kvs => obtain ⟨_, _, _, _, o, _, _, e, _⟩ := x; exact Heap.lt_size e
 | dT kvs => obtain ⟨_, _, _, _, o, _, _, e, _⟩ := x; exact Heap.lt_size e
 | set S n => obtain ⟨o, _, _, _, e, _⟩ := x; exact Heap.lt_size e
 | ins C dx fs => obtain ⟨_, _, _, e, _⟩ := x; exact Heap.lt_size e
 | own y => obtain ⟨_, e⟩ := x; exact Heap.lt_size e
 | xd fs => obtain ⟨_, ⟨_, _, _, e, _⟩, _⟩ := x; exact Heap.lt_size e
 | rng lo hi => obtain ⟨_, _, _, e⟩ := x; exact Heap.lt_size e
 | frz ob u => obtain ⟨e, _⟩ := x; exact Heap.lt_size e
 | tbl ps => exact Heap.lt_size (show h.get? a = some _ from x)
 | met f y => exact Heap.lt_size (show h.get? a = some _ from x)
 | ext φ => obtain ⟨_, ⟨_, e⟩, _⟩ := x; exact Heap.lt_size e
theorem Paired.mapP {α β : Type} {F G : α → β → Prop} : ∀ {l₁ : List α} {l₂ : List β}, Paired F l₁ l₂ → (∀ a b, F a b → G a b) → Paired G l₁ l₂
 | _, _, .nil, _ => .nil
 | _, _, .cons r t, f => .cons (f _ _ r) (Paired.mapP t f)
theorem ObjOk.stay (x : ObjOk P w H h a o) (k : ∀ b u, (b = a ∨ H b = some (.own a)) → h.get? b = some u → h'.get? b = some u)
  (ho : ∀ b, H b = some (.own a) → H' b = some (.own a)) (ht : ∀ b xs, H b = some (.tup xs) → H' b = some (.tup xs)) : ObjOk P w H' h' a o := by
 induction o with
 | lst xs => obtain ⟨z, its, n, r, e⟩ := x; exact ⟨z, its, n, r, k _ _ (.inl rfl) e⟩
 | tup xs => obtain ⟨z, its, r, ob, e, c⟩ := x; exact ⟨z, its, r, ob, k _ _ (.inl rfl) e, c⟩
 | dK kvs => obtain ⟨z, y, vs, r, ob, es, ep, e, c⟩ := x; exact ⟨z, y, vs, r, ob, es, ep, k _ _ (.inl rfl) e, c⟩
 | dT kvs =>
  obtain ⟨z, y, xs, r, ob, es, ep, e, c⟩ := x
  exact ⟨z, y, xs, Paired.mapP r fun p q z => ⟨z.1, ht _ _ z.2.1, z.2.2⟩, ob, es, ep, k _ _ (.inl rfl) e, c⟩
 | set S n => obtain ⟨ob, es, ep, t, e, c⟩ := x; exact ⟨ob, es, ep, t, k _ _ (.inl rfl) e, c⟩
 | ins C dx fs =>
  obtain ⟨d, z, ne, e, mA, ⟨od, es, ep, e2, c⟩, r⟩ := x
  exact ⟨ho _ d, z, ne, k _ _ (.inl rfl) e, mA, ⟨od, es, ep, k _ _ (.inr d) e2, c⟩, r⟩
 | own y => obtain ⟨ob, e⟩ := x; exact ⟨ob, k _ _ (.inl rfl) e⟩
 | xd fs => obtain ⟨mA, ⟨od, es, ep, e, c⟩, r⟩ := x; exact ⟨mA, ⟨od, es, ep, k _ _ (.inl rfl) e, c⟩, r⟩
 | rng lo hi => obtain ⟨t, u, v, e⟩ := x; exact ⟨t, u, v, k _ _ (.inl rfl) e⟩
 | frz ob u ih => obtain ⟨e, q⟩ := x; exact ⟨k _ _ (.inl rfl) e, ih q⟩
 | tbl ps =>
  have e : h.get? a = some { cls := .none, data := .fields ps } := x
  show h'.get? a = some { cls := .none, data := .fields ps }
  exact k a _ (.inl rfl) e
 | met f y =>
  have e : h.get? a = some (PySem.W.methodObj (.ref f) (.ref y)) := x
  show h'.get? a = some (PySem.W.methodObj (.ref f) (.ref y))
  exact k a _ (.inl rfl) e
 | ext φ => obtain ⟨p, ⟨o, e⟩, st⟩ := x; exact ⟨st _ _ p fun o q => k _ _ (.inl rfl) q, ⟨o, k _ _ (.inl rfl) e⟩, st⟩
theorem HOk.lt (x : HOk P w H h) (e : H a = some o) : a < h.objs.size := (x a o e).lt
theorem HOk.fresh (x : HOk P w H h) (e : h.objs.size ≤ a) : H a = none := by
 cases q : H a with
 | none => rfl
 | some u => exact absurd (Nat.lt_of_lt_of_le (x.lt q) e) (Nat.lt_irrefl _)
theorem HOk.kept (x : HOk P w H h) (k : ∀ b u, h.get? b = some u → h'.get? b = some u) : HOk P w H h' := fun a o e =>
 (x a o e).stay (fun b u _ q => k b u q) (fun _ q => q) fun _ _ q => q
theorem HOk.laid (x : HOk P w H h) (k : ∀ b u, h.get? b = some u → h'.get? b = some u) (hp : h.objs.size ≤ a) (new : ObjOk P w (upd H a o) h' a o) : HOk P w (upd H a o) h' := fun b u e => by
 have hn := x.fresh hp
 by_cases hb : b = a
 ·subst hb; rw [aqq] at e; cases e; exact new
 ·rw [aqu hb] at e
  exact (x b u e).stay (fun c v _ q => k c v q) (fun c q => by rw [aqu (aqo q hn)]; exact q) fun c xs q => by rw [aqu (aqo q hn)]; exact q
end
def Rd (H : Hp) (a : Addr) (u : HO) : Prop := H a = some u ∨ ∃ o, H a = some (.frz o u)
theorem Rd.ok {P : Program} {w : World} {H : Hp} {h : Heap} {a : Addr} {u : HO} (r : Rd H a u) (x : HOk P w H h) : ObjOk P w H h a u := by
 rcases r with r | ⟨o, r⟩
 ·exact x a u r
 ·obtain ⟨_, q⟩ := x a _ r
  exact q
def Mut : Option HO → Prop
 | some (.lst _) => True
 | some (.dK _) => True
 | some (.dT _) => True
 | some (.set _ _) => True
 | some (.ins _ _ _) => True
 | some (.ext _) => True
 | _ => False
section
variable {P : Program} {w : World} {H : Hp} {h h' : Heap} {x e : Addr} {o' : HO}
theorem HOk.write (ok : HOk P w H h) (mu : Mut (H x)) (he : e = x ∨ H e = some (.own x)) (k : ∀ b u, b ≠ e → h.get? b = some u → h'.get? b = some u) (heo : ∃ u, h'.get? e = some u)
  (new : ObjOk P w (upd H x o') h' x o') : HOk P w (upd H x o') h' := fun b u q => by
 have nown : ∀ c y, H c = some (.own y) → c ≠ x := fun c y r z => by subst z; rw [r] at mu; exact mu
 have ntup : ∀ c xs, H c = some (.tup xs) → c ≠ x := fun c xs r z => by subst z; rw [r] at mu; exact mu
 by_cases hb : b = x
 ·subst hb; rw [aqq] at q; cases q; exact new
 ·rw [aqu hb] at q
  by_cases hbe : b = e
  ·have q' : H b = some (.own x) := by
    rcases he with z | z
    ·exact absurd (hbe.trans z) hb
    ·rw [hbe]; exact z
   rw [q] at q'; cases q'
   obtain ⟨v, hv⟩ := heo
   exact ⟨v, by rw [hbe]; exact hv⟩
  ·refine (ok b u q).stay (fun c v hc r => k c v ?_ r) (fun c r => by rw [aqu (nown c b r)]; exact r) fun c xs r => by rw [aqu (ntup c xs r)]; exact r
   rcases hc with rfl | hc
   ·exact hbe
   ·rintro rfl
    rcases he with z | z
    ·exact nown c b hc z
    ·rw [hc] at z; cases z; exact hb rfl
end
structure Un (fs ex : List Addr) (H H' : Hp) (h h' : Heap) : Prop where
 keep : ∀ b o, h.get? b = some o → H b = none → b ∉ fs → b ∉ ex → h'.get? b = some o
 slot : ∀ b o, h.get? b = some o → H b = none → b ∈ fs → b ∉ ex → ∃ sl, h'.get? b = some { o with slots := sl }
 free : ∀ b o, h.get? b = some o → H b = none → b ∉ ex → H' b = none
 there : ∀ b o, h.get? b = some o → b ∉ ex → ∃ o', h'.get? b = some o'
 tups : ∀ b xs, H b = some (.tup xs) → H' b = some (.tup xs)
 frzs : ∀ b o u, H b = some (.frz o u) → H' b = some (.frz o u)
 tbls : ∀ b ps, H b = some (.tbl ps) → ∃ more, H' b = some (.tbl (ps ++ more))
section
variable {fs fs' ex ex' : List Addr} {H H1 H2 : Hp} {h h1 h2 h' : Heap} {a x e : Addr} {o : HO}
theorem Un.any (u : Un fs ex H H1 h h1) {b : Addr} {ob : Obj} (q : h.get? b = some ob) (n : H b = none) (hx : b ∉ ex) : ∃ sl, h1.get? b = some { ob with slots := sl } := by
 by_cases hb : b ∈ fs
 ·exact u.slot b ob q n hb hx
 ·exact ⟨ob.slots, u.keep b ob q n hb hx⟩
theorem Un.kept (k : ∀ b u, h.get? b = some u → h'.get? b = some u) : Un fs ex H H h h' :=
 ⟨fun b ob q _ _ _ => k b ob q, fun b ob q _ _ _ => ⟨ob.slots, k b ob q⟩, fun _ _ _ n _ => n, fun b ob q _ => ⟨ob, k b ob q⟩, fun _ _ q => q, fun _ _ _ q => q, fun _ ps q => ⟨#[], by rw [q]; simp⟩⟩
theorem Un.refl : Un fs ex H H h h := Un.kept fun _ _ q => q
theorem Un.laid (k : ∀ b u, h.get? b = some u → h'.get? b = some u) (hp : h.objs.size ≤ a) (hn : H a = none) : Un fs ex H (upd H a o) h h' where
 keep := fun b u q _ _ _ => k b u q
 slot := fun b u q _ _ _ => ⟨u.slots, k b u q⟩
 free := fun b u q n _ => by rw [aqu (Nat.ne_of_lt (Nat.lt_of_lt_of_le (Heap.lt_size q) hp))]; exact n
 there := fun b u q _ => ⟨u, k b u q⟩
 tups := fun b xs q => by rw [aqu (aqo q hn)]; exact q
 frzs := fun b u xs q => by rw [aqu (aqo q hn)]; exact q
 tbls := fun b ps q => ⟨#[], by rw [aqu (aqo q hn), q]; simp⟩
theorem Un.write (mu : Mut (H x)) (he : e = x ∨ H e = some (.own x)) (k : ∀ b u, b ≠ e → h.get? b = some u → h'.get? b = some u) (heo : ∃ u, h'.get? e = some u) : Un fs ex H (upd H x o) h h' := by
 have hx : ∀ b, H b = none → b ≠ x := fun b n z => by subst z; rw [n] at mu; exact mu
 have hb : ∀ b, H b = none → b ≠ e := fun b n z => by
  subst z
  rcases he with r | r
  ·exact hx b n r
  ·rw [n] at r; cases r
 have hm : ∀ b u, H b = some u → ¬ Mut (some u) → b ≠ x := fun b u q nm z => by subst z; rw [q] at mu; exact nm mu
 refine ⟨fun b u q n _ _ => k b u (hb b n) q, fun b u q n _ _ => ⟨u.slots, k b u (hb b n) q⟩, fun b u q n _ => by rw [aqu (hx b n)]; exact n, fun b u q _ => ?_,
  fun b xs q => by rw [aqu (hm b _ q fun z => z)]; exact q, fun b u xs q => by rw [aqu (hm b _ q fun z => z)]; exact q, fun b ps q => ⟨#[], by rw [aqu (hm b _ q fun z => z), q]; simp⟩⟩
 by_cases hbe : b = e
 ·subst hbe; exact heo
 ·exact ⟨u, k b u hbe q⟩
end
def trk (h : Heap) (H : Hp) : List Addr := (List.range h.objs.size).filter fun a => (H a).isSome
def hidT (h : Heap) (H : Hp) : Heap := PySem.W.hideAll h (trk h H)
theorem jq6 (h : Heap) (H : Hp) : (hidT h H).objs.size = h.objs.size := PySem.W.hideAll_size _ _
theorem kqq {h : Heap} {H : Hp} {b : Addr} {o : Obj} (e : h.get? b = some o) (n : H b = none) : (hidT h H).get? b = some o :=
 PySem.W.hideAll_get _ e fun hm => by
  have q : (H b).isSome = true := (List.mem_filter.mp hm).2
  rw [n] at q; simp at q
theorem lq6 {h : Heap} {H : Hp} {b : Addr} {o : Obj} (e : (hidT h H).get? b = some o) : h.get? b = some o ∧ H b = none := by
 have e' : h.get? b = some o := PySem.W.of_hideAll (trk h H) e
 refine ⟨e', ?_⟩
 cases q : H b with
 | none => rfl
 | some x =>
  have hm : b ∈ trk h H := List.mem_filter.mpr ⟨List.mem_range.mpr (Heap.lt_size e'), by simp [q]⟩
  have z : (hidT h H).get? b = none := PySem.W.hideAll_none (trk h H) hm
  rw [z] at e; cases e
def allNews (g h : Heap) (L : Addr) : List (Addr × Obj) := (List.range h.objs.size).filterMap fun a => if a = L ∨ (g.get? a).isSome = true then none else (h.get? a).map fun o => (a, o)
def rest (g h : Heap) (L d : Addr) : List (Addr × Obj) := (allNews g h L).filter fun p => decide (p.1 ≠ d)
structure Mod (K : PySem.W.Frag) (mg : Str → Option Value) (base : Heap) : Prop where
 kin : K.In base
 glob : base.Ns mainGlobals mg
 blt : ∃ mb, base.Ns builtinsNs mb ∧ ∀ x : Str, x ≠ "__name__" → mb x = bootBuiltins x
 nolimit : base.NoLimit
structure Cx where
 prog : Program
 w : World
 K : PySem.W.Frag
 mg : Str → Option Value
 base : Heap
 A : Around
 N : List Str
 s₀ : Shared
 H₀ : Hp
 env : Env
 outer : List Env
 stack : List Env
 ex : List Addr
 fn : Str → Bool
 calm : Bool
 pn : List (Addr × Obj)
 xe : Value → Shared → Prop
def frs (l : List Env) : List Addr := l.filterMap (·.frame)
abbrev Cx.fs (X : Cx) : List Addr := frs X.outer
def Vis (sc : Scope) (x : Str) : Prop := sc.names.lookup x = some .local ∨ sc.names.lookup x = some .cell ∨ sc.names.lookup x = some .free
def Loc (sc : Scope) (x : Str) : Prop := sc.names.lookup x = some .local ∨ sc.names.lookup x = some .cell
def Look (env : Env) (h : Heap) (m : Str → Option Value) (x : Str) (u : Value) : Prop :=
 (env.kindOf x = some .local ∧ m x = some u) ∨ ((env.kindOf x = some .cell ∨ env.kindOf x = some .free) ∧ ∃ c, env.cells.lookup x = some c ∧ h.IsCell c (some u))
structure Cx.Ok (X : Cx) : Prop where
 mod : Mod X.K X.mg X.base
 kind : X.env.scope.kind = .function
 glob : X.env.globals = mainGlobals
 blt : X.env.builtins = builtinsNs
 above : X.s₀.heap.objs.size ≤ X.env.locals
 inj : ∀ x y c, X.env.cells.lookup x = some c → X.env.cells.lookup y = some c → x = y
 has : ∀ x, (X.env.kindOf x = some .cell ∨ X.env.kindOf x = some .free) → ∃ c, X.env.cells.lookup x = some c
 cab : ∀ x c, X.fn x = true → X.env.cells.lookup x = some c → X.s₀.heap.objs.size ≤ c
 hd : X.calm = true → X.A.handled = none
 frames : X.A.frames = some X.stack
 stk : X.stack = X.outer ∨ (X.stack = X.env :: X.outer ∧ X.env.frame = some X.env.locals)
 exf : ∀ b ∈ X.ex, b ≠ X.env.locals ∧ ∀ x c, X.env.cells.lookup x = some c → c ≠ b
 bs : ∀ b o, X.base.get? b = some o → X.s₀.heap.get? b = some o ∧ X.H₀ b = none
 bsz : X.base.objs.size ≤ X.s₀.heap.objs.size
 noex : ∀ b o, X.base.get? b = some o → b ∉ X.ex
 exfs : ∀ b ∈ X.ex, b ∉ X.fs
 funs : X.s₀.heap.FunFrames X.base X.outer
 frf : ∀ b ∈ X.fs, X.H₀ b = none
structure Inv (X : Cx) (pins : List (Addr × Obj)) (σ : List (Option V)) (H : Hp) (s : Shared) : Prop where
 ok : X.Ok
 os : s.os = X.s₀.os
 bare : AllBare s.gens
 base : Un X.fs X.ex X.H₀ H X.s₀.heap s.heap
 loc : ∃ m, s.heap.Ns X.env.locals m ∧ ∀ (i : Nat) (x : Str) (v : V), X.N[i]? = some x → σ[i]? = some (some v) → Vis X.env.scope x → ∃ u, RelV v u ∧ Look X.env s.heap m x u
 cell : ∀ x c, X.env.cells.lookup x = some c → ∃ v, s.heap.IsCell c v
 free : H X.env.locals = none
 freeC : ∀ x c, X.env.cells.lookup x = some c → H c = none
 pin : ∀ p ∈ X.pn ++ pins, s.heap.get? p.1 = some p.2 ∧ H p.1 = none ∧ p.1 ≠ X.env.locals ∧ p.1 ∉ X.fs ∧ ∀ v, p.2.data ≠ .cell v
 hok : HOk X.prog X.w H s.heap
 len : σ.length = X.N.length
section
variable {X : Cx} {pins : List (Addr × Obj)} {σ : List (Option V)} {H H' : Hp} {s : Shared} {h' : Heap}
theorem Cx.Ok.nofr (ok : X.Ok) {b : Addr} {o : Obj} (e : X.base.get? b = some o) : b ∉ X.fs := fun hb => by
 have := (ok.funs.mem hb).1
 rw [e] at this; cases this
theorem Inv.bs (I : Inv X pins σ H s) : ∀ b o, X.base.get? b = some o → s.heap.get? b = some o ∧ H b = none := fun b o e =>
 ⟨I.base.keep b o (I.ok.bs b o e).1 (I.ok.bs b o e).2 (I.ok.nofr e) (I.ok.noex b o e), I.base.free b o (I.ok.bs b o e).1 (I.ok.bs b o e).2 (I.ok.noex b o e)⟩
theorem Inv.bk (I : Inv X pins σ H s) : ∀ b o, X.base.get? b = some o → s.heap.get? b = some o := fun b o e => (I.bs b o e).1
theorem Inv.mod (I : Inv X pins σ H s) : Mod X.K X.mg X.base := I.ok.mod
theorem Inv.kIn (I : Inv X pins σ H s) : X.K.In s.heap := I.ok.mod.kin.keeps I.bk
theorem Inv.lt (I : Inv X pins σ H s) : X.env.locals < s.heap.objs.size := let ⟨_, hn, _⟩ := I.loc; hn.lt
theorem Inv.sz (I : Inv X pins σ H s) : X.s₀.heap.objs.size ≤ s.heap.objs.size := Nat.le_trans I.ok.above (Nat.le_of_lt I.lt)
theorem Inv.nofs (I : Inv X pins σ H s) {a : Addr} (h : s.heap.objs.size ≤ a) : a ∉ X.fs := fun hb => by
 obtain ⟨_, o, ho, _⟩ := I.ok.funs.mem hb
 exact absurd (Nat.lt_of_lt_of_le (Heap.lt_size ho) (Nat.le_trans I.sz h)) (Nat.lt_irrefl _)
theorem Inv.cne (I : Inv X pins σ H s) : ∀ x c, X.env.cells.lookup x = some c → c ≠ X.env.locals := fun x c e z => by
 obtain ⟨v, o, ho, hd⟩ := I.cell x c e
 obtain ⟨m, ⟨o', es, ep, ho', hd', _⟩, _⟩ := I.loc
 rw [z, ho'] at ho; cases ho; rw [hd'] at hd; cases hd
theorem Inv.funs (I : Inv X pins σ H s) : s.heap.FunFrames X.base X.outer := by
 have all : ∀ (l : List Env), (∀ b ∈ frs l, b ∈ X.fs) → X.s₀.heap.FunFrames X.base l → s.heap.FunFrames X.base l := by
  intro l
  induction l with
  | nil => intro _ _; trivial
  | cons env r ih =>
   intro hs hl
   obtain ⟨hk, ⟨L, o, hf, hn, ho, hd⟩, hr⟩ := hl
   have hL : L ∈ X.fs := hs L (by unfold frs; rw [List.filterMap_cons, hf]; exact List.mem_cons_self)
   obtain ⟨sl, e⟩ := I.base.slot L o ho (I.ok.frf L hL) hL fun z => I.ok.exfs L z hL
   exact ⟨hk, ⟨L, _, hf, hn, e, hd⟩, ih (fun b hb => hs b (by unfold frs; rw [List.filterMap_cons, hf]; exact List.mem_cons_of_mem _ hb)) hr⟩
 exact all X.outer (fun _ hb => hb) I.ok.funs
theorem Inv.stack (I : Inv X pins σ H s) : s.heap.FunFrames X.base X.stack := by
 rcases I.ok.stk with e | ⟨e, hf⟩
 ·rw [e]; exact I.funs
 ·rw [e]
  obtain ⟨m, hn, _⟩ := I.loc
  refine .cons (by rw [I.ok.kind]; decide) hf hn ?_ I.funs
  exact Heap.get?_none_of_le (Nat.le_trans I.ok.bsz I.ok.above)
theorem Inv.stkSub (I : Inv X pins σ H s) : ∀ b ∈ frs X.stack, b ∈ X.env.locals :: X.fs := fun b hb => by
 rcases I.ok.stk with e | ⟨e, hf⟩
 ·rw [e] at hb; exact List.mem_cons_of_mem _ hb
 ·rw [e] at hb
  unfold frs at hb
  rw [List.filterMap_cons, hf] at hb
  exact hb
theorem Inv.stkFree (I : Inv X pins σ H s) : ∀ b ∈ frs X.stack, H b = none := fun b hb => by
 rcases List.mem_cons.mp (I.stkSub b hb) with e | hb
 ·rw [e]; exact I.free
 ·obtain ⟨_, o, ho, _⟩ := I.ok.funs.mem hb
  exact I.base.free b o ho (I.ok.frf b hb) fun z => I.ok.exfs b z hb
theorem Inv.step {g' : Array GenState} {t' : Nat} {d' : Drawn} {ch : List Addr} (I : Inv X pins σ H s)
  (hch : ∀ b ∈ ch, (b ∈ X.ex ∨ X.s₀.heap.objs.size ≤ b) ∧ b ≠ X.env.locals ∧ (∀ x c, X.env.cells.lookup x = some c → c ≠ b) ∧ ∀ p ∈ X.pn ++ pins, p.1 ≠ b)
  (keep : ∀ b o, b ≠ X.env.locals → b ∉ X.fs → b ∉ ch → s.heap.get? b = some o → H b = none → h'.get? b = some o)
  (slot : ∀ b o, b ≠ X.env.locals → b ∈ X.fs → b ∉ ch → s.heap.get? b = some o → H b = none → ∃ sl, h'.get? b = some { o with slots := sl }) (free : ∀ b o, b ∉ ch → s.heap.get? b = some o → H b = none → H' b = none)
  (there : ∀ b o, b ∉ ch → s.heap.get? b = some o → ∃ o', h'.get? b = some o')
  (tups : ∀ b xs, H b = some (.tup xs) → H' b = some (.tup xs)) (frzs : ∀ b o u, H b = some (.frz o u) → H' b = some (.frz o u)) (tbls : ∀ b ps, H b = some (.tbl ps) → ∃ more, H' b = some (.tbl (ps ++ more)))
  (ns : ∀ m, s.heap.Ns X.env.locals m → h'.Ns X.env.locals m) (hok : HOk X.prog X.w H' h') (hg : AllBare g') :
  Inv X pins σ H' { s with heap := h', gens := g', drawn := d', toks := t' } := by
 have neL : ∀ b o, X.s₀.heap.get? b = some o → b ≠ X.env.locals := fun b o e => Nat.ne_of_lt (Nat.lt_of_lt_of_le (Heap.lt_size e) I.ok.above)
 have neC : ∀ b o, X.s₀.heap.get? b = some o → b ∉ X.ex → b ∉ ch := fun b o e hx hb => by
  rcases (hch b hb).1 with z | z
  ·exact hx z
  ·exact absurd (Nat.lt_of_lt_of_le (Heap.lt_size e) z) (Nat.lt_irrefl _)
 have cellK : ∀ x c, X.env.cells.lookup x = some c → ∀ v, s.heap.IsCell c v → h'.IsCell c v := fun x c e v ⟨o, ho, hd⟩ => by
  have nch : c ∉ ch := fun z => (hch c z).2.2.1 x c e rfl
  by_cases hc : c ∈ X.fs
  ·obtain ⟨sl, q⟩ := slot c o (I.cne x c e) hc nch ho (I.freeC x c e)
   exact ⟨_, q, hd⟩
  ·exact ⟨o, keep c o (I.cne x c e) hc nch ho (I.freeC x c e), hd⟩
 refine ⟨I.ok, I.os, hg, ⟨fun b o e n hb hx => ?_, fun b o e n hb hx => ?_, fun b o e n hx => ?_, fun b o e hx => ?_, fun b xs e => tups b xs (I.base.tups b xs e), fun b o xs e => frzs b o xs (I.base.frzs b o xs e), fun b ps e => ?_⟩, ?_, fun x c e => ?_, ?_, fun x c e => ?_, fun p hp => ?_, hok, I.len⟩
 ·exact keep b o (neL b o e) hb (neC b o e hx) (I.base.keep b o e n hb hx) (I.base.free b o e n hx)
 ·obtain ⟨sl, e1⟩ := I.base.slot b o e n hb hx
  obtain ⟨sl', e2⟩ := slot b _ (neL b o e) hb (neC b o e hx) e1 (I.base.free b o e n hx)
  exact ⟨sl', e2⟩
 ·obtain ⟨o', e1⟩ := I.base.there b o e hx
  exact free b o' (neC b o e hx) e1 (I.base.free b o e n hx)
 ·obtain ⟨o', e1⟩ := I.base.there b o e hx
  exact there b o' (neC b o e hx) e1
 ·obtain ⟨m1, e1⟩ := I.base.tbls b ps e
  obtain ⟨m2, e2⟩ := tbls b _ e1
  exact ⟨m1 ++ m2, by rw [e2, Array.append_assoc]⟩
 ·obtain ⟨m, hn, hl⟩ := I.loc
  refine ⟨m, ns m hn, fun i x v e1 e2 e3 => ?_⟩
  obtain ⟨u, r, l⟩ := hl i x v e1 e2 e3
  refine ⟨u, r, ?_⟩
  rcases l with l | ⟨k, c, e, z⟩
  ·exact .inl l
  ·exact .inr ⟨k, c, e, cellK x c e _ z⟩
 ·obtain ⟨v, z⟩ := I.cell x c e
  exact ⟨v, cellK x c e v z⟩
 ·obtain ⟨m, ⟨o, _, _, ho, _⟩, _⟩ := I.loc
  exact free _ o (fun z => (hch _ z).2.1 rfl) ho I.free
 ·obtain ⟨v, o, ho, hd⟩ := I.cell x c e
  exact free c o (fun z => (hch c z).2.2.1 x c e rfl) ho (I.freeC x c e)
 ·obtain ⟨e, n, ne, nf, d⟩ := I.pin p hp
  have nch : p.1 ∉ ch := fun z => (hch p.1 z).2.2.2 p hp rfl
  exact ⟨keep p.1 p.2 ne nf nch e n, free p.1 p.2 nch e n, ne, nf, d⟩
theorem Inv.un {t' : Nat} (I : Inv X pins σ H s) (u : Un X.fs [] H H' s.heap h') (hok : HOk X.prog X.w H' h') : Inv X pins σ H' { s with heap := h', toks := t' } := by
 obtain ⟨m, ⟨o, es, ep, ho, r⟩, _⟩ := id I.loc
 obtain ⟨sl, hL⟩ := u.any ho I.free (by simp)
 exact I.step (g' := s.gens) (d' := s.drawn) (ch := []) (fun _ z => nomatch z) (fun b o _ hb _ e n => u.keep b o e n hb (by simp)) (fun b o _ hb _ e n => u.slot b o e n hb (by simp)) (fun b o _ e n => u.free b o e n (by simp)) (fun b o _ e => u.there b o e (by simp)) u.tups u.frzs u.tbls (fun m' hm => by
  obtain ⟨o', es', ep', ho', r'⟩ := hm
  rw [ho] at ho'; cases ho'
  exact ⟨_, es', ep', hL, r'⟩) hok I.bare
theorem Inv.call {g' : Array GenState} {t' : Nat} {d' : Drawn} {ch : List Addr} (I : Inv X pins σ H s) (u : Un (frs X.stack) ch H H' s.heap h') (hok : HOk X.prog X.w H' h') (hg : AllBare g')
  (hch : ∀ b ∈ ch, (b ∈ X.ex ∨ X.s₀.heap.objs.size ≤ b) ∧ b ≠ X.env.locals ∧ (∀ x c, X.env.cells.lookup x = some c → c ≠ b) ∧ ∀ p ∈ X.pn ++ pins, p.1 ≠ b) :
  Inv X pins σ H' { s with heap := h', gens := g', drawn := d', toks := t' } := by
 obtain ⟨m, ⟨o, es, ep, ho, r⟩, _⟩ := id I.loc
 obtain ⟨sl, hL⟩ := u.any ho I.free fun z => (hch _ z).2.1 rfl
 exact I.step (ch := ch) hch (fun b o hL hb hc e n => u.keep b o e n (fun z => (List.mem_cons.mp (I.stkSub b z)).elim hL hb) hc) (fun b o _ _ hc e n => u.any e n hc) (fun b o hc e n => u.free b o e n hc) (fun b o hc e => u.there b o e hc) u.tups u.frzs u.tbls (fun m' hm => by
  obtain ⟨o', es', ep', ho', r'⟩ := hm
  rw [ho] at ho'; cases ho'
  exact ⟨_, es', ep', hL, r'⟩) hok hg
theorem Inv.turned {t' : Nat} {it : Addr} (I : Inv X pins σ H s) (k : ∀ b o, b ≠ it → s.heap.get? b = some o → h'.get? b = some o) (hn : H it = none) (hL : it ≠ X.env.locals)
  (h1 : it ∈ X.ex ∨ X.s₀.heap.objs.size ≤ it) (h2 : ∀ x c, X.env.cells.lookup x = some c → c ≠ it) (h3 : ∀ p ∈ X.pn ++ pins, p.1 ≠ it) : Inv X pins σ H { s with heap := h', toks := t' } := by
 have nit : ∀ b u, H b = some u → b ≠ it := fun b u e z => by rw [z, hn] at e; cases e
 refine I.step (g' := s.gens) (d' := s.drawn) (ch := [it]) (fun b hb => ?_) (fun b o _ _ hc e _ => k b o (fun z => hc (by simp [z])) e) (fun b o _ _ hc e _ => ⟨o.slots, k b o (fun z => hc (by simp [z])) e⟩) (fun _ _ _ _ n => n)
  (fun b o hc e => ⟨o, k b o (fun z => hc (by simp [z])) e⟩) (fun _ _ e => e) (fun _ _ _ e => e) (fun b ps e => ⟨#[], by rw [e]; simp⟩) (fun m hm => ?_) (fun b u e => ?_) I.bare
 ·have e : b = it := by simpa using hb
  subst e
  exact ⟨h1, hL, h2, h3⟩
 ·obtain ⟨o, es, ep, ho, r⟩ := hm
  exact ⟨o, es, ep, k _ o (Ne.symm hL) ho, r⟩
 ·refine (I.hok b u e).stay (fun c v hc q => k c v ?_ q) (fun _ q => q) fun _ _ q => q
  rcases hc with z | z
  ·rw [z]; exact nit b u e
  ·exact nit c _ z
theorem Inv.tok (I : Inv X pins σ H s) (t : Nat) : Inv X pins σ H { s with toks := t } := I.un (h' := s.heap) (t' := t) Un.refl I.hok
theorem Inv.kept {t' : Nat} (I : Inv X pins σ H s) (k : ∀ b u, s.heap.get? b = some u → h'.get? b = some u) : Inv X pins σ H { s with heap := h', toks := t' } := I.un (Un.kept k) (I.hok.kept k)
theorem Inv.laid {a : Addr} {o : HO} {t' : Nat} (I : Inv X pins σ H s) (k : ∀ b u, s.heap.get? b = some u → h'.get? b = some u) (hp : s.heap.objs.size ≤ a) (new : ObjOk X.prog X.w (upd H a o) h' a o) :
  Inv X pins σ (upd H a o) { s with heap := h', toks := t' } := I.un (Un.laid k hp (I.hok.fresh hp)) (I.hok.laid k hp new)
theorem Inv.write {x e : Addr} {o : HO} {t' : Nat} (I : Inv X pins σ H s) (mu : Mut (H x)) (he : e = x ∨ H e = some (.own x)) (k : ∀ b u, b ≠ e → s.heap.get? b = some u → h'.get? b = some u) (heo : ∃ u, h'.get? e = some u)
  (new : ObjOk X.prog X.w (upd H x o) h' x o) : Inv X pins σ (upd H x o) { s with heap := h', toks := t' } := I.un (Un.write mu he k heo) (I.hok.write mu he k heo new)
theorem Inv.pins_of {pins' : List (Addr × Obj)} (I : Inv X pins σ H s) (h : ∀ p ∈ pins', s.heap.get? p.1 = some p.2 ∧ H p.1 = none ∧ p.1 ≠ X.env.locals ∧ p.1 ∉ X.fs ∧ ∀ v, p.2.data ≠ .cell v) : Inv X pins' σ H s :=
 ⟨I.ok, I.os, I.bare, I.base, I.loc, I.cell, I.free, I.freeC, fun p hp => (List.mem_append.mp hp).elim (fun z => I.pin p (List.mem_append_left _ z)) (h p), I.hok, I.len⟩
theorem iqi {N : List Str} (hN : N.Nodup) {i j : Nat} {x : Str} (a : N[i]? = some x) (b : N[j]? = some x) : i = j := by
 obtain ⟨h1, e1⟩ := List.getElem?_eq_some_iff.mp a
 obtain ⟨h2, e2⟩ := List.getElem?_eq_some_iff.mp b
 exact (List.getElem_inj hN).mp (e1.trans e2.symm)
theorem fqr {M : Model} {A : Around} {E : Value → Shared → Prop} {i : Nat} {x : Str} {v : V} {u : Value} {Q : Unit → Shared → Prop} (I : Inv X pins σ H s) (hN : X.N.Nodup) (hi : X.N[i]? = some x) (hx : Loc X.env.scope x) (r : RelV v u)
  (h : ∀ s', Inv X pins (σ.set i (some v)) H s' → (∃ a, Heap.SameBut a s.heap s'.heap ∧ (a = X.env.locals ∨ X.env.cells.lookup x = some a)) → Q () s') (hf : X.fn x = true ∨ X.env.scope.names.lookup x = some .local := by first | exact .inl rfl | exact .inr rfl | assumption) : wpAny M A (storeName X.env x u) Q E s := by
 obtain ⟨m, hn, hl⟩ := id I.loc
 have hcls : (X.env.scope.kind == .class || (X.env.scope.kind == .module && X.env.locals != X.env.globals)) = false := by rw [I.ok.kind]; rfl
 have hiσ : i < σ.length := by rw [I.len]; exact (List.getElem?_eq_some_iff.mp hi).1
 have cne := I.cne
 have tracked : ∀ {a : Addr} {h' : Heap}, (∃ o, s.heap.get? a = some o ∧ H a = none) → Heap.SameBut a s.heap h' → HOk X.prog X.w H h' := fun {a h'} ha hs b ob e => by
  obtain ⟨_, _, hfree⟩ := ha
  refine (I.hok b ob e).stay (fun c w' hc q => (hs.2 c ?_).trans q) (fun _ q => q) fun _ _ q => q
  rintro rfl
  rcases hc with rfl | hc
  ·rw [hfree] at e; cases e
  ·rw [hfree] at hc; cases hc
 rcases hx with hk | hk
 ·refine wpAny_storeName_local hk hn (fun h' hn' hs => ?_) hcls
  obtain ⟨oL, _, _, hoL, _⟩ := id hn
  refine h _ ⟨I.ok, I.os, I.bare, ⟨fun b o e n hb hx => ?_, fun b o e n hb hx => ?_, I.base.free, fun b o e hx => ?_, I.base.tups, I.base.frzs, I.base.tbls⟩, ⟨_, hn', fun j y v' e1 e2 e3 => ?_⟩, fun y c e => ?_, I.free, I.freeC, fun p hp => ?_, tracked ⟨oL, hoL, I.free⟩ hs, by simpa using I.len⟩ ⟨_, hs, .inl rfl⟩
  ·exact (hs.2 b (Nat.ne_of_lt (Nat.lt_of_lt_of_le (Heap.lt_size e) I.ok.above))).trans (I.base.keep b o e n hb hx)
  ·obtain ⟨sl, e1⟩ := I.base.slot b o e n hb hx
   exact ⟨sl, (hs.2 b (Nat.ne_of_lt (Nat.lt_of_lt_of_le (Heap.lt_size e) I.ok.above))).trans e1⟩
  ·obtain ⟨o', e1⟩ := I.base.there b o e hx
   exact ⟨o', (hs.2 b (Nat.ne_of_lt (Nat.lt_of_lt_of_le (Heap.lt_size e) I.ok.above))).trans e1⟩
  ·by_cases hj : j = i
   ·subst hj
    rw [hi] at e1; cases e1
    rw [List.getElem?_set_self hiσ] at e2
    cases e2
    exact ⟨u, r, .inl ⟨hk, by simp⟩⟩
   ·rw [List.getElem?_set_ne (Ne.symm hj)] at e2
    obtain ⟨u', r', q⟩ := hl j y v' e1 e2 e3
    refine ⟨u', r', ?_⟩
    rcases q with ⟨k, e⟩ | ⟨k, c, e, z⟩
    ·refine .inl ⟨k, ?_⟩
     have : y ≠ x := fun e => hj (iqi hN e1 (e ▸ hi))
     simp [this, e]
    ·exact .inr ⟨k, c, e, z.sameBut hs (cne y c e)⟩
  ·obtain ⟨w', z⟩ := I.cell y c e
   exact ⟨w', z.sameBut hs (cne y c e)⟩
  ·obtain ⟨e, n, ne, nf, d⟩ := I.pin p hp
   exact ⟨(hs.2 p.1 ne).trans e, n, ne, nf, d⟩
 ·have hfn : X.fn x = true := by
   rcases hf with z | z
   ·exact z
   ·rw [z] at hk; cases hk
  obtain ⟨c, hc⟩ := I.ok.has x (.inl hk)
  obtain ⟨w', z⟩ := I.cell x c hc
  refine wpAny_storeName_cell I.ok.kind hk hc z (fun h' hc' hs => ?_)
  obtain ⟨oc, hoc, hocd⟩ := id z
  refine h { s with heap := h' } ⟨I.ok, I.os, I.bare, ⟨fun b o e n hb hx => ?_, fun b o e n hb hx => ?_, I.base.free, fun b o e hx => ?_, I.base.tups, I.base.frzs, I.base.tbls⟩, ⟨m, hn.sameBut hs (Ne.symm (cne x c hc)), fun j y v' e1 e2 e3 => ?_⟩, fun y c' e => ?_, I.free, I.freeC, fun p hp => ?_, tracked ⟨oc, hoc, I.freeC x c hc⟩ hs, by simpa using I.len⟩ ⟨c, hs, .inr hc⟩
  ·exact (hs.2 b (Nat.ne_of_lt (Nat.lt_of_lt_of_le (Heap.lt_size e) (I.ok.cab x c hfn hc)))).trans (I.base.keep b o e n hb hx)
  ·obtain ⟨sl, e1⟩ := I.base.slot b o e n hb hx
   exact ⟨sl, (hs.2 b (Nat.ne_of_lt (Nat.lt_of_lt_of_le (Heap.lt_size e) (I.ok.cab x c hfn hc)))).trans e1⟩
  ·obtain ⟨o', e1⟩ := I.base.there b o e hx
   exact ⟨o', (hs.2 b (Nat.ne_of_lt (Nat.lt_of_lt_of_le (Heap.lt_size e) (I.ok.cab x c hfn hc)))).trans e1⟩
  ·by_cases hj : j = i
   ·subst hj
    rw [hi] at e1; cases e1
    rw [List.getElem?_set_self hiσ] at e2
    cases e2
    exact ⟨u, r, .inr ⟨.inl hk, c, hc, hc'⟩⟩
   ·rw [List.getElem?_set_ne (Ne.symm hj)] at e2
    obtain ⟨u', r', q⟩ := hl j y v' e1 e2 e3
    refine ⟨u', r', ?_⟩
    rcases q with q | ⟨k, c', e, z'⟩
    ·exact .inl q
    ·refine .inr ⟨k, c', e, z'.sameBut hs ?_⟩
     rintro rfl
     exact hj (iqi hN e1 (I.ok.inj _ _ _ e hc ▸ hi))
  ·by_cases hcc : c' = c
   ·subst hcc; exact ⟨_, hc'⟩
   ·obtain ⟨w2, z2⟩ := I.cell y c' e
    exact ⟨w2, z2.sameBut hs hcc⟩
  ·obtain ⟨e, n, ne, nf, d⟩ := I.pin p hp
   refine ⟨(hs.2 p.1 ?_).trans e, n, ne, nf, d⟩
   intro q
   rw [q, hoc] at e
   have q' : oc = p.2 := Option.some.inj e
   exact d w' (by rw [← q']; exact hocd)
theorem iqn {M : Model} {A : Around} {E : Value → Shared → Prop} {i : Nat} {x : Str} {v : V} {u : Value} {Q : Unit → Shared → Prop} (I : Inv X pins σ H s) (hN : X.N.Nodup) (hi : X.N[i]? = some x) (hx : Loc X.env.scope x) (r : RelV v u)
  (h : ∀ s', Inv X pins (σ.set i (some v)) H s' → Q () s') (hf : X.fn x = true ∨ X.env.scope.names.lookup x = some .local := by first | exact .inl rfl | exact .inr rfl | assumption) : wpAny M A (storeName X.env x u) Q E s :=
 fqr I hN hi hx r (fun s' I' _ => h s' I') hf
end
abbrev XK := Value → Option Addr → Hp → Prop
abbrev St := List (Option V)
abbrev VK := V → Hp → Prop
abbrev TE := St → Hp → VK → Prop
abbrev TT := St → Hp → (Bool → Hp → Prop) → Prop
abbrev TA := St → Hp → (List V → Hp → Prop) → Prop
structure Ends where
 nx : St → Hp → Prop
 rt : VK
 bk : St → Hp → Prop := fun _ _ => False
 ct : St → Hp → Prop := fun _ _ => False
abbrev TS := Ends → St → Hp → Prop
def EP (X : Cx) (pins : List (Addr × Obj)) (σ : St) (Q : VK) (u : Value) (s' : Shared) : Prop := ∃ v H', Inv X pins σ H' s' ∧ RelV v u ∧ Q v H'
def TP (X : Cx) (pins : List (Addr × Obj)) (σ : St) (Q : Bool → Hp → Prop) (b : Bool) (s' : Shared) : Prop := ∃ H', Inv X pins σ H' s' ∧ Q b H'
def AP (X : Cx) (pins : List (Addr × Obj)) (σ : St) (Q : List V → Hp → Prop) (us : List Value) (s' : Shared) : Prop := ∃ vs H', Inv X pins σ H' s' ∧ Vals vs us ∧ Q vs H'
def SP (X : Cx) (pins : List (Addr × Obj)) (D : Ends) (f : Flow) (s' : Shared) : Prop :=
 match f with
 | .next => ∃ σ' H', Inv X pins σ' H' s' ∧ D.nx σ' H'
 | .brk => ∃ σ' H', Inv X pins σ' H' s' ∧ D.bk σ' H'
 | .cont => ∃ σ' H', Inv X pins σ' H' s' ∧ D.ct σ' H'
 | .ret u => ∃ v σ' H', Inv X pins σ' H' s' ∧ RelV v u ∧ D.rt v H'
def PE (X : Cx) (e : Expr) (t : TE) : Prop :=
 ∀ (pins : List (Addr × Obj)) (s : Shared) (σ : St) (H : Hp) (Q : VK), Inv X pins σ H s → t σ H Q → wpAny (model X.prog X.w) X.A (eval e X.env) (EP X pins σ Q) X.xe s
def PT (X : Cx) (e : Expr) (t : TT) : Prop :=
 ∀ (pins : List (Addr × Obj)) (s : Shared) (σ : St) (H : Hp) (Q : Bool → Hp → Prop), Inv X pins σ H s → t σ H Q → wpAny (model X.prog X.w) X.A (isTrue e X.env (eval e X.env)) (TP X pins σ Q) X.xe s
def PW (X : Cx) (e : Expr) (t : TT) : Prop :=
 ∀ (whole : Sem Value) (pins : List (Addr × Obj)) (s : Shared) (σ : St) (H : Hp) (Q : Bool → Hp → Prop), Inv X pins σ H s → t σ H Q → wpAny (model X.prog X.w) X.A (isTrue e X.env whole) (TP X pins σ Q) X.xe s
theorem PW.pt {X : Cx} {e : Expr} {t : TT} (h : PW X e t) : PT X e t := h _
def PA (X : Cx) (es : List Expr) (t : TA) : Prop :=
 ∀ (pos : Pos) (pins : List (Addr × Obj)) (s : Shared) (σ : St) (H : Hp) (Q : List V → Hp → Prop), Inv X pins σ H s → t σ H Q → wpAny (model X.prog X.w) X.A (spliced (backTo pos (starEach es X.env))) (AP X pins σ Q) X.xe s
def PS (X : Cx) (st : Stmt) (t : TS) : Prop :=
 ∀ (pins : List (Addr × Obj)) (s : Shared) (σ : St) (H : Hp) (D : Ends), Inv X pins σ H s → t D σ H → wpAny (model X.prog X.w) X.A (exec st X.env) (SP X pins D) X.xe s
def PSs (X : Cx) (st : List Stmt) (t : TS) : Prop :=
 ∀ (pins : List (Addr × Obj)) (s : Shared) (σ : St) (H : Hp) (D : Ends), Inv X pins σ H s → t D σ H → wpAny (model X.prog X.w) X.A (execs st X.env) (SP X pins D) X.xe s
theorem thn {α : Type} {t : Sem α} {Q Q' : α → Shared → Prop} {M : Model} {A : Around} {E : Value → Shared → Prop} {s : Shared} (h : wpAny M A t Q E s) (hQ : ∀ a s, Q a s → Q' a s) : wpAny M A t Q' E s := wpAny_mono h hQ fun _ _ x => x
section
variable {X : Cx}
theorem bin {a b : Expr} {ta tb : TE} (ha : PE X a ta) (hb : PE X b tb) {pins : List (Addr × Obj)} {s : Shared} {σ : St} {H : Hp} {R : V → V → Hp → Prop} (I : Inv X pins σ H s) (h : ta σ H fun x H1 => tb σ H1 fun y H2 => R x y H2)
  {α : Type} {Q : α → Shared → Prop} {f : Value → Value → Sem α}
  (hf : ∀ v u s2 x y H2, Inv X pins σ H2 s2 → RelV x v → RelV y u → R x y H2 → wpAny (model X.prog X.w) X.A (f v u) Q X.xe s2) :
  wpAny (model X.prog X.w) X.A (eval a X.env) (fun v s₁ => wpAny (model X.prog X.w) X.A (eval b X.env) (fun u s₂ => wpAny (model X.prog X.w) X.A (f v u) Q X.xe s₂) X.xe s₁) X.xe s := by
 refine thn (ha pins s σ H _ I h) fun v s1 W' => ?_
 obtain ⟨x, H1, I1, r1, q1⟩ := W'
 refine thn (hb pins s1 σ H1 _ I1 q1) fun u s2 W' => ?_
 obtain ⟨y, H2, I2, r2, q2⟩ := W'
 exact hf v u s2 x y H2 I2 r1 r2 q2
def tVar (i : Nat) : TE := fun σ H Q => ∃ v, σ[i]? = some (some v) ∧ Q v H
def tC (v : V) : TE := fun _ H Q => Q v H
theorem mq2 {i : Nat} {x : Str} {pos : Pos} (hN : X.N[i]? = some x) (hv : Vis X.env.scope x) (hd : (x == ("__debug__" : Str)) = false := by decide) (hcd : (x == ("__classdict__" : Str)) = false := by decide) : PE X (.Name x pos) (tVar i) := by
 intro pins s σ H Q I h
 obtain ⟨v, e, h⟩ := h
 obtain ⟨m, hn, hl⟩ := I.loc
 obtain ⟨u, r, l⟩ := hl i x v hN e hv
 have fin : EP X pins σ Q u s := ⟨v, H, I, r, h⟩
 rcases l with ⟨hk, hm⟩ | ⟨hk, c, hc, hcell⟩
 ·exact wpAny_Name (wpAny_loadName_local I.ok.kind hk hn hm fin) hd
 ·rcases hk with hk | hk
  ·exact wpAny_Name (wpAny_loadName_cell I.ok.kind hk hc hcell fin) hd
  ·exact wpAny_Name (wpAny_loadName_free I.ok.kind hk hc hcell fin hcd) hd
theorem aqb {i j pos} : PE X (.Constant (.int i) j pos) (tC (.int i)) := fun _ _ _ H _ I h => wpAny_Constant_int ⟨.int i, H, I.tok _, ⟨_, rfl⟩, h⟩
theorem dqS {b j pos} : PE X (.Constant (.bool b) j pos) (tC (.bl b)) := fun _ _ _ H _ I h => Constant_bool ⟨.bl b, H, I, rfl, h⟩
theorem dq9 {j pos} : PE X (.Constant .none j pos) (tC .non) := fun _ _ _ H _ I h => Constant_none ⟨.non, H, I, rfl, h⟩
theorem aqm {x j pos} : PE X (.Constant (.str x) j pos) (tC (.str x)) := fun _ _ _ H _ I h => Calls.Constant_str ⟨.str x, H, I.tok _, ⟨_, rfl⟩, h⟩
def Gl (X : Cx) (x : Str) : Prop := X.env.kindOf x = some .globalImplicit
theorem jqr {E : Value → Shared → Prop} {pins : List (Addr × Obj)} {s : Shared} {σ : St} {H : Hp} {x : Str} {u : Value} {pos : Pos} {Q : Value → Shared → Prop} (I : Inv X pins σ H s) (hg : Gl X x) (hm : X.mg x = some u) (h : Q u s)
  (hd : (x == ("__debug__" : Str)) = false := by decide) : wpAny (model X.prog X.w) X.A (eval (.Name x pos) X.env) Q E s :=
 Calls.Name_function_global I.ok.kind hg (Calls.loadGlobal_global (by rw [I.ok.glob]; exact I.mod.glob.keeps I.bk) hm h) hd
theorem fqH {E : Value → Shared → Prop} {pins : List (Addr × Obj)} {s : Shared} {σ : St} {H : Hp} {x : Str} {u : Value} {pos : Pos} {Q : Value → Shared → Prop} (I : Inv X pins σ H s) (hg : Gl X x) (hm : X.mg x = none) (hv : bootBuiltins x = some u) (h : Q u s)
  (hn : x ≠ "__name__" := by decide) (hd : (x == ("__debug__" : Str)) = false := by decide) : wpAny (model X.prog X.w) X.A (eval (.Name x pos) X.env) Q E s := by
 obtain ⟨mb, h1, h2⟩ := I.mod.blt
 exact Calls.Name_function_global I.ok.kind hg (Calls.loadGlobal_builtin (by rw [I.ok.glob]; exact I.mod.glob.keeps I.bk) hm (by rw [I.ok.blt]; exact h1.keeps I.bk) ((h2 x hn).trans hv) h) hd
theorem bqy {x : Str} {v : V} {u : Value} {pos : Pos} (hg : Gl X x) (hm : X.mg x = some u) (r : RelV v u) (hd : (x == ("__debug__" : Str)) = false := by decide) : PE X (.Name x pos) (tC v) :=
 fun _ _ _ H _ I h => jqr I hg hm ⟨v, H, I, r, h⟩ hd
variable {a b : Expr} {ta tb : TE} {pos : Pos}
def PC (X : Cx) (op : CmpOp) (a b : Expr) (t : TE) : Prop :=
 ∀ (pins : List (Addr × Obj)) (s : Shared) (σ : St) (H : Hp) (Q : VK), Inv X pins σ H s → t σ H Q →
  wpAny (model X.prog X.w) X.A (eval a X.env) (fun v s₁ => wpAny (model X.prog X.w) X.A (eval b X.env) (fun u s₂ => wpAny (model X.prog X.w) X.A (compareOp op v u) (EP X pins σ Q) X.xe s₂) X.xe s₁) X.xe s
def tB (t : TE) : TT := fun σ H Q => t σ H fun x H1 => ∃ c, x = .bl c ∧ Q c H1
theorem oqf {op : CmpOp} {t : TE} (h : PC X op a b t) (h1 : behindInMarks op b = false := by first | exact nobehind _ (by decide) (by decide) | rfl) : PT X (.Compare a [op] [b] pos) (tB t) := by
 intro pins s σ H Q I hw
 refine wpAny_isTrue_Compare1 (thn (h pins s σ H _ I hw) fun v s1 h1 => thn h1 fun u s2 h2 => thn h2 fun c s3 W' => ?_) h1
 obtain ⟨x, H1, I1, r1, q1⟩ := W'
 obtain ⟨d, rfl, q⟩ := q1
 cases r1
 exact wpAny_truthy_bool ⟨H1, I1, q⟩
theorem dqU {e : Expr} {t : TE} (h : PE X e t) (he : ∀ whole, isTrue e X.env whole = (do let v ← whole; standAt e.pos; holding [v] (truthy v)) := by intro _; rfl) : PT X e (tB t) := by
 intro pins s σ H Q I hw
 refine isTrue_plain (thn (h pins s σ H _ I hw) fun v s1 W' => ?_) (he _)
 obtain ⟨x, H1, I1, r1, q1⟩ := W'
 obtain ⟨d, rfl, q⟩ := q1
 cases r1
 exact wpAny_truthy_bool ⟨H1, I1, q⟩
variable {tA tB' : TT} {rest : List Expr}
def tAnd (t u : TT) : TT := fun σ H Q => t σ H fun c H1 => if c = true then u σ H1 Q else Q false H1
def tOr (t u : TT) : TT := fun σ H Q => t σ H fun c H1 => if c = true then Q true H1 else u σ H1 Q
def tNot (t : TT) : TT := fun σ H Q => t σ H fun c H1 => Q (!c) H1
theorem eqK (ha : PT X a tA) : PW X (.BoolOp .And [a] pos) tA := by
 intro wh pins s σ H Q I h
 refine isTrue_and (thn (ha pins s σ H Q I h) fun c s1 e => ?_)
 cases c with
 | true => exact isTrue_and_nil e
 | false => exact e
theorem fql (ha : PT X a tA) : PW X (.BoolOp .Or [a] pos) tA := by
 intro wh pins s σ H Q I h
 refine isTrue_or (thn (ha pins s σ H Q I h) fun c s1 e => ?_)
 cases c with
 | false => exact isTrue_or_nil e
 | true => exact e
theorem fqt (ha : PT X a tA) (hb : PW X (.BoolOp .And (b :: rest) pos) tB') : PW X (.BoolOp .And (a :: b :: rest) pos) (tAnd tA tB') := by
 intro wh pins s σ H Q I h
 refine isTrue_and (thn (ha pins s σ H _ I h) fun c s1 W' => ?_)
 obtain ⟨H1, I1, q1⟩ := W'
 cases c with
 | true => exact hb wh pins s1 σ H1 Q I1 q1
 | false => exact ⟨H1, I1, q1⟩
theorem gq3 (ha : PT X a tA) (hb : PW X (.BoolOp .Or (b :: rest) pos) tB') : PW X (.BoolOp .Or (a :: b :: rest) pos) (tOr tA tB') := by
 intro wh pins s σ H Q I h
 refine isTrue_or (thn (ha pins s σ H _ I h) fun c s1 W' => ?_)
 obtain ⟨H1, I1, q1⟩ := W'
 cases c with
 | true => exact ⟨H1, I1, q1⟩
 | false => exact hb wh pins s1 σ H1 Q I1 q1
theorem gqL (ha : PT X a tA) : PT X (.UnaryOp .Not a pos) (tNot tA) := by
 intro pins s σ H Q I h
 exact isTrue_not (ha pins s σ H (fun c H1 => Q (!c) H1) I h)
def tAndV (ta tb : TE) : TE := fun σ H Q => ta σ H fun x H1 => ∃ c, x = .bl c ∧ if c = true then tb σ H1 Q else Q (.bl false) H1
def tOrV (ta tb : TE) : TE := fun σ H Q => ta σ H fun x H1 => ∃ c, x = .bl c ∧ if c = true then Q (.bl true) H1 else tb σ H1 Q
def tNotV (ta : TE) : TE := fun σ H Q => ta σ H fun x H1 => ∃ c, x = .bl c ∧ Q (.bl (!c)) H1
theorem bq8 {op} {t : TE} (h : PE X a t) : PE X (.BoolOp op [a] pos) t := fun pins s σ H Q I hw => BoolOp_one (h pins s σ H Q I hw)
theorem dqT (ha : PE X a ta) (hb : PE X (.BoolOp .And (b :: rest) pos) tb) : PE X (.BoolOp .And (a :: b :: rest) pos) (tAndV ta tb) := by
 intro pins s σ H Q I h
 refine BoolOp_and (thn (ha pins s σ H _ I h) fun v s1 W' => ?_)
 obtain ⟨x, H1, I1, r1, q1⟩ := W'
 obtain ⟨c, rfl, q1⟩ := q1
 cases r1
 refine wpAny_truthy_bool ?_
 cases c with
 | true => exact hb pins s1 σ H1 Q I1 q1
 | false => exact ⟨.bl false, H1, I1, rfl, q1⟩
theorem hqF (ha : PE X a ta) (hb : PE X (.BoolOp .Or (b :: rest) pos) tb) : PE X (.BoolOp .Or (a :: b :: rest) pos) (tOrV ta tb) := by
 intro pins s σ H Q I h
 refine BoolOp_or (thn (ha pins s σ H _ I h) fun v s1 W' => ?_)
 obtain ⟨x, H1, I1, r1, q1⟩ := W'
 obtain ⟨c, rfl, q1⟩ := q1
 cases r1
 refine wpAny_truthy_bool ?_
 cases c with
 | false => exact hb pins s1 σ H1 Q I1 q1
 | true => exact ⟨.bl true, H1, I1, rfl, q1⟩
def tIf (t : TT) (ta tb : TE) : TE := fun σ H Q => t σ H fun c H1 => if c = true then ta σ H1 Q else tb σ H1 Q
theorem dqz {c : Expr} (hc : PT X c tA) (ha : PE X a ta) (hb : PE X b tb) : PE X (.IfExp c a b pos) (tIf tA ta tb) := by
 intro pins s σ H Q I h
 refine wpAny_IfExp (thn (hc pins s σ H _ I h) fun d s1 W' => ?_)
 obtain ⟨H1, I1, q1⟩ := W'
 cases d with
 | true => exact ha pins s1 σ H1 Q I1 q1
 | false => exact hb pins s1 σ H1 Q I1 q1
end
def SqL (K : PySem.W.Frag) (H : Hp) (a : Addr) (xs : List V) : Prop :=
 Rd H a (.lst xs) ∨
  ∃ (o : Obj) (its : Array Value) (n : Nat), K.lookup a = some o ∧ o.cls = .type "list" ∧ o.dict = none ∧ o.data = .seq its n ∧ its.size ≤ sizeLine ∧ Vals xs its.toList
def SqT (K : PySem.W.Frag) (H : Hp) (a : Addr) (xs : List V) : Prop :=
 Rd H a (.tup xs) ∨
  ∃ (o : Obj) (its : Array Value) (n : Nat), K.lookup a = some o ∧ o.cls = .type "tuple" ∧ o.data = .seq its n ∧ its.size ≤ sizeLine ∧ Vals xs its.toList
def absV : Value → Option V
 | .none => some .non
 | .bool b => some (.bl b)
 | .int i _ => some (.int i)
 | .str x _ => some (.str x)
 | .bytes b _ => some (.byt b)
 | .float b _ => some (.flt b)
 | .ref a => some (.ref a)
 | .type n => some (.ty n)
 | _ => none
theorem RelV.abs {x : V} {u : Value} (r : RelV x u) : absV u = some x := by
 cases x with
 | non => cases r; rfl
 | bl _ => cases r; rfl
 | int _ => obtain ⟨t, rfl⟩ := r; rfl
 | str _ => obtain ⟨t, rfl⟩ := r; rfl
 | byt _ => obtain ⟨t, rfl⟩ := r; rfl
 | flt _ => obtain ⟨t, rfl⟩ := r; rfl
 | ref _ => cases r; rfl
 | ty _ => cases r; rfl
theorem RelV.inj {x y : V} {u : Value} (r : RelV x u) (q : RelV y u) : x = y := Option.some.inj (r.abs.symm.trans q.abs)
theorem Vals.inj : ∀ {xs ys : List V} {us : List Value}, Vals xs us → Vals ys us → xs = ys
 | _, _, _, .nil, .nil => rfl
 | _, _, _, .cons r t, .cons r' t' => by rw [r.inj r', Vals.inj t t']
section
variable {X : Cx} {pins : List (Addr × Obj)} {σ : St} {H : Hp} {s : Shared} {a : Addr} {xs ys : List V}
theorem SqL.of {K : PySem.W.Frag} (h : H a = some (.lst xs)) : SqL K H a xs := .inl (.inl h)
theorem SqT.of {K : PySem.W.Frag} (h : H a = some (.tup xs)) : SqT K H a xs := .inl (.inl h)
theorem Inv.list (I : Inv X pins σ H s) (h : SqL X.K H a xs) : ∃ its : List Value, Vals xs its ∧ PlainL s.heap a its.toArray ∧ xs.length ≤ sizeLine := by
 rcases h with h | ⟨o, its, n, hk, hc, hd, hs, hz, r⟩
 ·obtain ⟨z, its, n, r, e⟩ := h.ok I.hok
  exact ⟨its, r, ⟨_, n, e, rfl, rfl, rfl⟩, z⟩
 ·refine ⟨its.toList, r, ⟨o, n, I.kIn a o hk, hc, hd, by simpa using hs⟩, ?_⟩
  have e := r.length
  simp only [Array.length_toList] at e
  omega
theorem Inv.tuple (I : Inv X pins σ H s) (h : SqT X.K H a xs) : ∃ its : List Value, Vals xs its ∧ IsTup s.heap a its.toArray ∧ xs.length ≤ sizeLine := by
 rcases h with h | ⟨o, its, n, hk, hc, hs, hz, r⟩
 ·obtain ⟨z, its, r, p⟩ := h.ok I.hok
  exact ⟨its, r, p, z⟩
 ·refine ⟨its.toList, r, ⟨o, I.kIn a o hk, hc, n, by simpa using hs⟩, ?_⟩
  have e := r.length
  simp only [Array.length_toList] at e
  omega
theorem Inv.list_inj (I : Inv X pins σ H s) (h : SqL X.K H a xs) (h' : SqL X.K H a ys) : xs = ys := by
 obtain ⟨its, r, ⟨o, n, e, _, _, d⟩, _⟩ := I.list h
 obtain ⟨its', r', ⟨o', n', e', _, _, d'⟩, _⟩ := I.list h'
 rw [e] at e'; cases e'
 rw [d] at d'
 injection d' with d1 _
 have : its = its' := by simpa using congrArg Array.toList d1
 subst this
 exact r.inj r'
theorem Inv.tuple_inj (I : Inv X pins σ H s) (h : SqT X.K H a xs) (h' : SqT X.K H a ys) : xs = ys := by
 obtain ⟨its, r, ⟨o, e, _, n, d⟩, _⟩ := I.tuple h
 obtain ⟨its', r', ⟨o', e', _, n', d'⟩, _⟩ := I.tuple h'
 rw [e] at e'; cases e'
 rw [d] at d'
 injection d' with d1 _
 have : its = its' := by simpa using congrArg Array.toList d1
 subst this
 exact r.inj r'
end
abbrev Cx.wish (X : Cx) (E : Value → Shared → Prop) : Cx := { X with xe := E }
abbrev Cx.nox (X : Cx) : Cx := X.wish fun _ _ => False
theorem Cx.Ok.wish {X : Cx} (ok : X.Ok) (E : Value → Shared → Prop) : (X.wish E).Ok :=
 ⟨ok.mod, ok.kind, ok.glob, ok.blt, ok.above, ok.inj, ok.has, ok.cab, ok.hd, ok.frames, ok.stk, ok.exf, ok.bs, ok.bsz, ok.noex, ok.exfs, ok.funs, ok.frf⟩
theorem Cx.Ok.unwish {X : Cx} {E : Value → Shared → Prop} (ok : (X.wish E).Ok) : X.Ok :=
 ⟨ok.mod, ok.kind, ok.glob, ok.blt, ok.above, ok.inj, ok.has, ok.cab, ok.hd, ok.frames, ok.stk, ok.exf, ok.bs, ok.bsz, ok.noex, ok.exfs, ok.funs, ok.frf⟩
section
variable {X : Cx} {pins : List (Addr × Obj)} {σ : St} {H : Hp} {s : Shared} {E : Value → Shared → Prop}
theorem Inv.wish (I : Inv X pins σ H s) (E : Value → Shared → Prop) : Inv (X.wish E) pins σ H s := ⟨I.ok.wish E, I.os, I.bare, I.base, I.loc, I.cell, I.free, I.freeC, I.pin, I.hok, I.len⟩
theorem Inv.unwish (I : Inv (X.wish E) pins σ H s) : Inv X pins σ H s := ⟨I.ok.unwish, I.os, I.bare, I.base, I.loc, I.cell, I.free, I.freeC, I.pin, I.hok, I.len⟩
theorem SP.unwish {D : Ends} {f : Flow} {s' : Shared} (h : SP (X.wish E) pins D f s') : SP X pins D f s' := by
 cases f with
 | next => obtain ⟨σ', H', I, q⟩ := h; exact ⟨σ', H', I.unwish, q⟩
 | brk => obtain ⟨σ', H', I, q⟩ := h; exact ⟨σ', H', I.unwish, q⟩
 | cont => obtain ⟨σ', H', I, q⟩ := h; exact ⟨σ', H', I.unwish, q⟩
 | ret u => obtain ⟨v, σ', H', I, r, q⟩ := h; exact ⟨v, σ', H', I.unwish, r, q⟩
theorem PSs.nox {st : List Stmt} {t : TS} (h : PSs X.nox st t) : PSs X st t := fun pins s σ H D I hw =>
 wpAny_mono (h pins s σ H D (I.wish _) hw) (fun _ _ q => q.unwish) fun _ _ z => False.elim z
end
section
variable {X : Cx} {st : Stmt} {rest : List Stmt} {t u : TS} {e : Expr} {te : TE} {pos : Pos}
def tNext : TS := fun D σ H => D.nx σ H
def tSeq (t u : TS) : TS := fun D σ H => t { D with nx := u D } σ H
theorem aqw : PSs X [] tNext := fun _ _ σ H _ I h => wpAny_execs_nil ⟨σ, H, I, h⟩
theorem aqe (h1 : PS X st t) (h2 : PSs X rest u) : PSs X (st :: rest) (tSeq t u) := by
 intro pins s σ H D I h
 refine wpAny_execs_cons (thn (h1 pins s σ H { D with nx := u D } I h) fun f s1 q => ?_)
 cases f with
 | next =>
  obtain ⟨σ', H', I', q⟩ := q
  exact h2 pins s1 σ' H' D I' q
 | ret v => exact q
 | brk => exact q
 | cont => exact q
theorem aqf (h1 : PS X st t) : PSs X [st] t := by
 intro pins s σ H D I h
 refine wpAny_execs_cons (thn (h1 pins s σ H D I h) fun f s1 q => ?_)
 cases f with
 | next => exact wpAny_execs_nil q
 | ret v => exact q
 | brk => exact q
 | cont => exact q
def tBreak : TS := fun D σ H => D.bk σ H
theorem Inv.quiet {pins : List (Addr × Obj)} {σ : St} {H : Hp} {s : Shared} (I : Inv X pins σ H s) : interactive X.env = false := by simp [interactive, I.ok.kind]
def tDrop (te : TE) : TS := fun D σ H => te σ H fun _ H1 => D.nx σ H1
theorem fqs (he : PE X e te) (hs : swapsWith e none pos.line X.env = pure false := by rfl) : PS X (.Expr e pos) (tDrop te) := by
 intro pins s σ H D I h
 exact wpAny_Expr_any (thn (he pins s σ H _ I h) fun v s1 ⟨x, H1, I1, r1, q1⟩ => ⟨σ, H1, I1, q1⟩) I.quiet hs
def tRet (te : TE) : TS := fun D σ H => te σ H D.rt
theorem aqp (he : PE X e te) : PS X (.Return (some e) pos) (tRet te) := by
 intro pins s σ H D I h
 exact wpAny_Return_some (thn (he pins s σ H _ I h) fun v s1 ⟨x, H1, I1, r1, q1⟩ => ⟨x, σ, H1, I1, r1, q1⟩)
def tIfS (c : TT) (t u : TS) : TS := fun D σ H => c σ H fun b H1 => if b = true then t D σ H1 else u D σ H1
theorem aqO {c : Expr} {a b : List Stmt} {tc : TT} (hc : PT X c tc) (ha : PSs X a t) (hb : PSs X b u) : PS X (.If c a b pos) (tIfS tc t u) := by
 intro pins s σ H D I h
 refine wpAny_If (thn (hc pins s σ H _ I h) fun d s1 W' => ?_)
 obtain ⟨H1, I1, q1⟩ := W'
 cases d with
 | true => exact ha pins s1 σ H1 D I1 q1
 | false => exact hb pins s1 σ H1 D I1 q1
def tNever : TS := fun _ _ _ => False
end
abbrev TG := V → St → Hp → (St → Hp → Prop) → Prop
abbrev TGs := List V → St → Hp → (St → Hp → Prop) → Prop
def PG (X : Cx) (target : Expr) (t : TG) : Prop :=
 ∀ (pins : List (Addr × Obj)) (s : Shared) (σ : St) (H : Hp) (v : V) (u : Value) (Q : St → Hp → Prop), Inv X pins σ H s → RelV v u → t v σ H Q →
  wpAny (model X.prog X.w) X.A (assign target X.env u) (fun _ s' => ∃ σ' H', Inv X pins σ' H' s' ∧ Q σ' H') X.xe s
def PGs (X : Cx) (ts : List Expr) (t : TGs) : Prop :=
 ∀ (pins : List (Addr × Obj)) (s : Shared) (σ : St) (H : Hp) (vs : List V) (us : List Value) (Q : St → Hp → Prop), Inv X pins σ H s → Vals vs us → t vs σ H Q →
  wpAny (model X.prog X.w) X.A (assignInOrder ((assignEach ts X.env).map (·.2)) us) (fun _ s' => ∃ σ' H', Inv X pins σ' H' s' ∧ Q σ' H') X.xe s
abbrev TSet := V → V → V → Hp → (Hp → Prop) → Prop
section
variable {X : Cx} {pos : Pos}
def gName (i : Nat) : TG := fun v σ H Q => Q (σ.set i (some v)) H
theorem bql {i : Nat} {x : Str} (hN : X.N.Nodup) (hi : X.N[i]? = some x) (hx : Loc X.env.scope x) (hf : X.fn x = true ∨ X.env.scope.names.lookup x = some .local := by first | exact .inl rfl | exact .inr rfl | assumption) : PG X (.Name x pos) (gName i) := by
 intro pins s σ H v u Q I r h
 exact wpAny_assign_Name (iqn I hN hi hx r (fun s' I' => ⟨_, H, I', h⟩) hf)
def gNil : TGs := fun vs σ H Q => vs = [] ∧ Q σ H
def gCons (t : TG) (u : TGs) : TGs := fun vs σ H Q => ∃ v r, vs = v :: r ∧ t v σ H fun σ' H' => u r σ' H' Q
theorem hqW : PGs X [] gNil := by
 intro pins s σ H vs us Q I r h
 obtain ⟨e, h⟩ := h
 subst e
 cases r
 exact assignInOrder_nil ⟨σ, H, I, h⟩
theorem dqM {e : Expr} {es : List Expr} {t : TG} {u : TGs} (h1 : PG X e t) (h2 : PGs X es u)
  (hs : (assignEach (e :: es) X.env).map (·.2) = assign e X.env :: (assignEach es X.env).map (·.2) := by rfl) : PGs X (e :: es) (gCons t u) := by
 intro pins s σ H vs us Q I r h
 obtain ⟨v, vr, e1, h⟩ := h
 subst e1
 cases r with
 | cons r rr =>
  rw [hs]
  refine assignInOrder_cons (thn (h1 pins s σ H _ _ _ I r h) fun _ s1 W' => ?_)
  obtain ⟨σ1, H1, I1, q1⟩ := W'
  exact h2 pins s1 σ1 H1 _ _ Q I1 rr q1
def gTup (K : PySem.W.Frag) (n : Nat) (t : TGs) : TG := fun v σ H Q => ∃ a xs, v = .ref a ∧ SqT K H a xs ∧ xs.length = n ∧ t xs σ H Q
theorem lqe {es : List Expr} {k : Nat} {t : TGs} {n : Nat} (hc : X.calm = true) (h : PGs X es t)
  (hn : (assignEach es X.env).length = n := by rfl) (hst : (assignEach es X.env).findIdx? (·.1) = none := by rfl) : PG X (.Tuple es k pos) (gTup X.K n t) := by
 intro pins s σ H v u Q I r hw
 obtain ⟨a, xs, e1, hq, hl, hw⟩ := hw
 subst e1
 cases r
 obtain ⟨its, rv, ht, hz⟩ := I.tuple hq
 refine assign_Tuple_tuple (I.ok.hd hc) ht (by simp [hn, ← hl, rv.length]) hst fun h' hx => ?_
 have I1 : Inv X pins σ H { s with heap := h' } := I.kept (t' := s.toks) fun b o e => hx b o (Nat.ne_of_lt (Heap.lt_size e)) e
 exact h pins _ σ H xs _ Q I1 (by simpa using rv) hw
def gSub (to ti : TE) (t : TSet) : TG := fun v σ H Q => to σ H fun o H1 => ti σ H1 fun i H2 => t o i v H2 fun H3 => Q σ H3
def tAsg (te : TE) (g : TG) : TS := fun D σ H => te σ H fun x H1 => g x σ H1 D.nx
theorem aqx {i : Nat} {x : Str} {e : Expr} {te : TE} {pos' : Pos} (hN : X.N.Nodup) (hi : X.N[i]? = some x) (hx : Loc X.env.scope x) (he : PE X e te) (hs : swapsWith e (some (.Name x pos')) pos.line X.env = pure false := by rfl) (hf : X.fn x = true ∨ X.env.scope.names.lookup x = some .local := by first | exact .inl rfl | exact .inr rfl | assumption) :
  PS X (.Assign [.Name x pos'] e pos) (tAsg te (gName i)) := by
 intro pins s σ H D I h
 refine wpAny_Assign_Name (thn (he pins s σ H _ I h) fun v s1 W' => ?_) hs
 obtain ⟨y, H1, I1, r1, q1⟩ := W'
 exact iqn I1 hN hi hx r1 (fun s2 I2 => ⟨_, H1, I2, q1⟩) hf
def tPar (i j : Nat) (ta : TA) : TS := fun D σ H => ta σ H fun vs H1 => ∃ v w, vs = [v, w] ∧ D.nx ((σ.set i (some v)).set j (some w)) H1
end
section
variable {X : Cx} {pos : Pos}
def tWhile (c : TT) (tb : TS) : TS := fun D σ H => ∃ W : Nat → St → Hp → Prop, (∃ m, W m σ H) ∧ ∀ m σ H, W m σ H →
 c σ H fun b H1 => if b = true then ∃ N : St → Hp → Prop, (∀ σ' H', N σ' H' → ∃ m', m' < m ∧ W m' σ' H') ∧ tb { D with nx := N, ct := N, bk := D.nx } σ H1 else D.nx σ H1
theorem kq3 {c : Expr} {body : List Stmt} {tc : TT} {tb : TS} (hp : PassesOwn (model X.prog X.w) X.A X.env X.xe) (hc : PT X c tc) (hb : PSs X body tb) : PS X (.While c body [] pos) (tWhile tc tb) := by
 intro pins s σ H D I h
 obtain ⟨W, ⟨m0, w0⟩, turn⟩ := h
 refine wpAny_While (codeAny_whileLoop (fun n s' => ∃ σ' H', Inv X pins σ' H' s' ∧ W n σ' H') ?_ m0 ⟨σ, H, I, w0⟩)
 rintro n s1 ⟨σ1, H1, I1, w1⟩
 refine wpAny_passesOwn hp (thn (hc pins s1 σ1 H1 _ I1 (turn n σ1 H1 w1)) fun b s2 W' => ?_)
 obtain ⟨H2, I2, q2⟩ := W'
 cases b with
 | true =>
  obtain ⟨N, hN, q2⟩ := q2
  rw [if_pos rfl]
  refine wpAny_passesOwn hp (thn (hb pins s2 σ1 H2 _ I2 q2) fun f s3 q3 => ?_)
  cases f with
  | next =>
   obtain ⟨σ3, H3, I3, n3⟩ := q3
   obtain ⟨m', hm, w3⟩ := hN σ3 H3 n3
   exact ⟨m', hm, σ3, H3, I3, w3⟩
  | cont =>
   obtain ⟨σ3, H3, I3, n3⟩ := q3
   obtain ⟨m', hm, w3⟩ := hN σ3 H3 n3
   exact ⟨m', hm, σ3, H3, I3, w3⟩
  | brk => exact q3
  | ret v => exact q3
 | false =>
  rw [if_neg Bool.false_ne_true]
  exact wpAny_execs_nil ⟨σ1, H2, I2, q2⟩
end
structure It where
 go : Nat → Hp → Prop
 yld : Nat → Hp → V → Hp → Prop
 stop : Nat → Hp → Prop
def FpOk (X : Cx) (pins : List (Addr × Obj)) (H : Hp) (b : Addr) : Prop :=
 H b = none ∧ b ≠ X.env.locals ∧ b ∉ X.fs ∧ (b ∈ X.ex ∨ X.s₀.heap.objs.size ≤ b) ∧ (∀ x c, X.env.cells.lookup x = some c → c ≠ b) ∧ ∀ p ∈ X.pn ++ pins, p.1 ≠ b
theorem Inv.fpOk {X : Cx} {pins : List (Addr × Obj)} {σ : St} {H H' : Hp} {s : Shared} {b : Addr} (I : Inv X pins σ H s) (hb : s.heap.objs.size ≤ b) (hn : H' b = none) : FpOk X pins H' b := by
 refine ⟨hn, Nat.ne_of_gt (Nat.lt_of_lt_of_le I.lt hb), I.nofs hb, .inr (Nat.le_trans I.sz hb), fun x c e z => ?_, fun p hp z => ?_⟩
 ·obtain ⟨v, q⟩ := I.cell x c e
  exact absurd (Nat.lt_of_lt_of_le q.lt (by rw [z]; exact hb)) (Nat.lt_irrefl _)
 ·exact absurd (Nat.lt_of_lt_of_le (Heap.lt_size (I.pin p hp).1) (by rw [z]; exact hb)) (Nat.lt_irrefl _)
structure Turn (P : Program) (w : World) (K : PySem.W.Frag) (tg : Expr) (J : It) (fp : List Addr) (it : Addr) (tn : Nat → Heap → Prop) : Prop where
 mem : it ∈ fp
 obj : ∀ i h, tn i h → ∀ b ∈ fp, ∃ o, h.get? b = some o ∧ ∀ v, o.data ≠ .cell v
 keep : ∀ i h h', tn i h → (∀ b ∈ fp, ∀ o, h.get? b = some o → h'.get? b = some o) → tn i h'
 item : ∀ (X : Cx), X.prog = P → X.w = w → X.K = K → X.calm = true → ∀ (i : Nat) (pins : List (Addr × Obj)) (s : Shared) (σ : St) (H : Hp) (E : Value → Shared → Prop), Inv X pins σ H s → (∀ b ∈ fp, FpOk X pins H b) → tn i s.heap → J.go i H →
  wpAny (model P w) X.A (pyNext (.ref it)) (fun r s1 => ∃ u, r = some u ∧
   wpAny (model P w) X.A (letOwnedTupleGo tg (.ref it) u) (fun _ s2 => ∃ x H', Inv X pins σ H' s2 ∧ RelV x u ∧ J.yld i H x H' ∧ tn (i + 1) s2.heap ∧ ∀ b ∈ fp, H' b = none) E s1) E s
 done : ∀ (X : Cx), X.prog = P → X.w = w → X.K = K → X.calm = true → ∀ (i : Nat) (pins : List (Addr × Obj)) (s : Shared) (σ : St) (H : Hp) (E : Value → Shared → Prop), Inv X pins σ H s → (∀ b ∈ fp, FpOk X pins H b) → tn i s.heap → J.stop i H →
  wpAny (model P w) X.A (pyNext (.ref it)) (fun r s1 => r = none ∧ Inv X pins σ H s1) E s
 self : ∀ (A : Around) (i : Nat) (s : Shared) (Q : Value → Shared → Prop) (E : Value → Shared → Prop), tn i s.heap → Q (.ref it) s → wpAny (model P w) A (pyIter (.ref it)) Q E s
abbrev TI := St → Hp → (It → Hp → Prop) → Prop
def PIE (X : Cx) (pins : List (Addr × Obj)) (σ : St) (tg : Expr) (R : It → Hp → Prop) (itv : Value) (s2 : Shared) : Prop :=
 ∃ (it : Addr) (fp : List Addr) (tn : Nat → Heap → Prop) (J : It) (H' : Hp), itv = .ref it ∧ Inv X pins σ H' s2 ∧ Turn X.prog X.w X.K tg J fp it tn ∧ tn 0 s2.heap ∧ (∀ b ∈ fp, FpOk X pins H' b) ∧ R J H'
def PI (X : Cx) (tg iter : Expr) (wi : TI) : Prop :=
 ∀ (pins : List (Addr × Obj)) (s : Shared) (σ : St) (H : Hp) (R : It → Hp → Prop), Inv X pins σ H s → wi σ H R →
  wpAny (model X.prog X.w) X.A (eval iter X.env) (fun v s1 => wpAny (model X.prog X.w) X.A (pyIter v) (PIE X pins σ tg R) X.xe s1) X.xe s
theorem jqZ {M : Model} {A : Around} {E : Value → Shared → Prop} {s : Shared} {tg : Expr} {it : Addr} {u : Value} {o : Obj} {n : String} {vs : Array Value} {Q : Unit → Shared → Prop} (ho : s.heap.get? it = some o) (hc : o.cls = .type n) (hd : o.data = .fields vs)
  (hn : ["enumerate", "zip", "dict_itemiterator", "dict_reverseitemiterator", "odict_iterator", "itertools.zip_longest", "itertools.pairwise"].contains n = false) (hQ : Q () s) : wpAny M A (letOwnedTupleGo tg (.ref it) u) Q E s := by
 unfold letOwnedTupleGo
 cases tg <;> first
  | exact wpAny_pure hQ
  | (cases u <;> first
    | exact wpAny_pure hQ
    | (refine wpAny_bind (wpAny_load ho ?_)
       rw [hc, hd]
       show wpAny M A (if (["enumerate", "zip", "dict_itemiterator", "dict_reverseitemiterator", "odict_iterator", "itertools.zip_longest", "itertools.pairwise"].contains n && vs[0]? == some (rawInt _)) = true then _ else _) Q E s
       rw [if_neg (by intro h; rw [hn, Bool.false_and] at h; cases h)]
       exact wpAny_pure hQ))
def Itl (K : PySem.W.Frag) (a : Addr) : It :=
 ⟨fun i H => ∃ xs x, SqL K H a xs ∧ xs[i]? = some x, fun i H x H' => H' = H ∧ ∀ xs, SqL K H a xs → xs[i]? = some x, fun i H => ∃ xs, SqL K H a xs ∧ xs.length ≤ i⟩
def Itt (K : PySem.W.Frag) (a : Addr) : It :=
 ⟨fun i H => ∃ xs x, SqT K H a xs ∧ xs[i]? = some x, fun i H x H' => H' = H ∧ ∀ xs, SqT K H a xs → xs[i]? = some x, fun i H => ∃ xs, SqT K H a xs ∧ xs.length ≤ i⟩
def Itr (lo : Int) (n : Nat) : It := ⟨fun i _ => i < n, fun i H x H' => H' = H ∧ x = .int (lo + i), fun i _ => n ≤ i⟩
theorem jqJ {P : Program} {w : World} {K : PySem.W.Frag} {tg : Expr} (a it : Addr) : Turn P w K tg (Itl K a) [it] it (fun i h => h.IsListIter it a i) where
 mem := by simp
 obj := fun i h st b hb => by
  have e : b = it := by simpa using hb
  subst e
  obtain ⟨o, e, c, d⟩ := st
  exact ⟨o, e, fun v z => by rw [d] at z; cases z⟩
 keep := fun i h h' st k => st.at fun o e => k it (by simp) o e
 item := by
  intro X hP hw hK hc i pins s σ H E I hf st hg
  subst hP hw hK
  obtain ⟨xs, x, hq, hx⟩ := hg
  obtain ⟨its, rv, p, hz⟩ := I.list hq
  obtain ⟨u, hu, ru⟩ := rv.get hx
  obtain ⟨f0, f1, f2, f3, f4, f5⟩ := hf it (by simp)
  refine wpAny_pyNext_list_item st p.isList (x := u) (by simpa using hu) fun h' st' sb => ?_
  have I1 : Inv X pins σ H { s with heap := h' } := I.turned (t' := s.toks) (fun b o hb e => (sb.2 b hb).trans e) f0 f1 f3 f4 f5
  obtain ⟨o, e, c, d⟩ := id st'
  exact ⟨u, rfl, jqZ (s := { s with heap := h' }) e c d (by decide) ⟨x, H, I1, ru, ⟨rfl, fun ys hy => by rw [I.list_inj hy hq]; exact hx⟩, st', fun b hb => (hf b hb).1⟩⟩
 done := by
  intro X hP hw hK hc i pins s σ H E I hf st hg
  subst hP hw hK
  obtain ⟨xs, hq, hx⟩ := hg
  obtain ⟨its, rv, p, hz⟩ := I.list hq
  obtain ⟨f0, f1, f2, f3, f4, f5⟩ := hf it (by simp)
  have hl := rv.length
  exact wpAny_pyNext_list_end (I.ok.hd hc) st p.isList (by simp; omega) fun h' eb => ⟨rfl, I.turned (t' := s.toks) (fun b o hb e => eb b o hb e) f0 f1 f3 f4 f5⟩
 self := fun _ _ _ _ _ st h => wpAny_pyIter_listiter st h
theorem iqC {P : Program} {w : World} {K : PySem.W.Frag} {tg : Expr} (a it : Addr) : Turn P w K tg (Itt K a) [it] it (fun i h => h.IsTupleIter it a i) where
 mem := by simp
 obj := fun i h st b hb => by
  have e : b = it := by simpa using hb
  subst e
  obtain ⟨o, e, c, d⟩ := st
  exact ⟨o, e, fun v z => by rw [d] at z; cases z⟩
 keep := fun i h h' st k => st.at fun o e => k it (by simp) o e
 item := by
  intro X hP hw hK hc i pins s σ H E I hf st hg
  subst hP hw hK
  obtain ⟨xs, x, hq, hx⟩ := hg
  obtain ⟨its, rv, p, hz⟩ := I.tuple hq
  obtain ⟨u, hu, ru⟩ := rv.get hx
  obtain ⟨f0, f1, f2, f3, f4, f5⟩ := hf it (by simp)
  refine wpAny_pyNext_tuple_item st (show s.heap.IsTuple a its.toArray from p) (x := u) (by simpa using hu) fun h' st' sb => ?_
  have I1 : Inv X pins σ H { s with heap := h' } := I.turned (t' := s.toks) (fun b o hb e => (sb.2 b hb).trans e) f0 f1 f3 f4 f5
  obtain ⟨o, e, c, d⟩ := id st'
  exact ⟨u, rfl, jqZ (s := { s with heap := h' }) e c d (by decide) ⟨x, H, I1, ru, ⟨rfl, fun ys hy => by rw [I.tuple_inj hy hq]; exact hx⟩, st', fun b hb => (hf b hb).1⟩⟩
 done := by
  intro X hP hw hK hc i pins s σ H E I hf st hg
  subst hP hw hK
  obtain ⟨xs, hq, hx⟩ := hg
  obtain ⟨its, rv, p, hz⟩ := I.tuple hq
  obtain ⟨f0, f1, f2, f3, f4, f5⟩ := hf it (by simp)
  have hl := rv.length
  exact wpAny_pyNext_tuple_end (I.ok.hd hc) st (show s.heap.IsTuple a its.toArray from p) (by simp; omega) fun h' eb => ⟨rfl, I.turned (t' := s.toks) (fun b o hb e => eb b o hb e) f0 f1 f3 f4 f5⟩
 self := fun _ _ _ _ _ st h => wpAny_pyIter_tupleiter st h
theorem iqL {P : Program} {w : World} {K : PySem.W.Frag} {tg : Expr} (it : Addr) (lo : Int) (n : Nat) : Turn P w K tg (Itr lo n) [it] it (fun i h => IsRangeIter h it (lo + (i : Nat) * 1) ((n : Int) - (i : Nat)) 1) where
 mem := by simp
 obj := fun i h st b hb => by
  have e : b = it := by simpa using hb
  subst e
  exact ⟨_, st, fun v z => by
   have z' : Data.fields _ = Data.cell v := z
   cases z'⟩
 keep := fun i h h' st k => k it (by simp) _ st
 item := by
  intro X hP hw hK hc i pins s σ H E I hf st hg
  subst hP hw hK
  obtain ⟨f0, f1, f2, f3, f4, f5⟩ := hf it (by simp)
  have W := Walks.range (prog := X.prog) (w := X.w) (I.ok.hd hc) it lo 1 n
  refine W.item i s _ _ hg st fun v h' tk hv st' kk => ?_
  obtain ⟨t, rfl⟩ := hv
  have I1 : Inv X pins σ H { s with heap := h', toks := tk } := I.turned (fun b o hb e => kk b o (by simpa using hb) e) f0 f1 f3 f4 f5
  refine ⟨_, rfl, jqZ (s := { s with heap := h', toks := tk }) (n := "range_iterator") st' rfl rfl (by decide) ⟨.int (lo + i), H, I1, ⟨t, ?_⟩, ⟨rfl, rfl⟩, st', fun b hb => (hf b hb).1⟩⟩
  rw [Int.mul_one]
 done := by
  intro X hP hw hK hc i pins s σ H E I hf st hg
  subst hP hw hK
  obtain ⟨f0, f1, f2, f3, f4, f5⟩ := hf it (by simp)
  exact wpAny_pyNext_range_end (I.ok.hd hc) st (by have : n ≤ i := hg; omega) fun h' eb => ⟨rfl, I.turned (t' := s.toks) (fun b o hb e => eb b o hb e) f0 f1 f3 f4 f5⟩
 self := fun _ _ _ _ _ st h => wpAny_pyIter_rangeiter st h
section
variable {X : Cx} {tg : Expr}
def iList (K : PySem.W.Frag) (tl : TE) : TI := fun σ H R => tl σ H fun x H1 => ∃ a, x = .ref a ∧ (∃ xs, SqL K H1 a xs) ∧ R (Itl K a) H1
def iTup (K : PySem.W.Frag) (tl : TE) : TI := fun σ H R => tl σ H fun x H1 => ∃ a, x = .ref a ∧ (∃ xs, SqT K H1 a xs) ∧ R (Itt K a) H1
theorem mqe {l : Expr} {tl : TE} (hl : PE X l tl) : PI X tg l (iList X.K tl) := by
 intro pins s σ H R I h
 refine thn (hl pins s σ H _ I h) fun v s1 W' => ?_
 obtain ⟨x, H1, I1, r1, q1⟩ := W'
 obtain ⟨a, e, ⟨xs, hq⟩, q⟩ := q1
 subst e
 cases r1
 obtain ⟨its, rv, p, hz⟩ := I1.list hq
 refine wpAny_pyIter_list p.isList ?_
 refine ⟨s1.heap.objs.size, [s1.heap.objs.size], _, _, H1, rfl, I1.kept (t' := s1.toks) fun b o e => Heap.get?_push_of_some _ e, jqJ a _, ⟨_, Heap.get?_push_size _ rfl, rfl, rfl⟩, fun b hb => ?_, q⟩
 have e : b = s1.heap.objs.size := by simpa using hb
 subst e
 exact I1.fpOk (Nat.le_refl _) (I1.hok.fresh (Nat.le_refl _))
theorem nqz {l : Expr} {tl : TE} (hl : PE X l tl) : PI X tg l (iTup X.K tl) := by
 intro pins s σ H R I h
 refine thn (hl pins s σ H _ I h) fun v s1 W' => ?_
 obtain ⟨x, H1, I1, r1, q1⟩ := W'
 obtain ⟨a, e, ⟨xs, hq⟩, q⟩ := q1
 subst e
 cases r1
 obtain ⟨its, rv, p, hz⟩ := I1.tuple hq
 refine wpAny_pyIter_tuple (show s1.heap.IsTuple a its.toArray from p) ?_
 refine ⟨s1.heap.objs.size, [s1.heap.objs.size], _, _, H1, rfl, I1.kept (t' := s1.toks) fun b o e => Heap.get?_push_of_some _ e, iqC a _, ⟨_, Heap.get?_push_size _ rfl, rfl, rfl⟩, fun b hb => ?_, q⟩
 have e : b = s1.heap.objs.size := by simpa using hb
 subst e
 exact I1.fpOk (Nat.le_refl _) (I1.hok.fresh (Nat.le_refl _))
theorem kq1 {pins : List (Addr × Obj)} {σ : St} {H : Hp} {s : Shared} {R : It → Hp → Prop} {E : Value → Shared → Prop} {lo hi : Int} {t u v : Tok} {tk : Nat} (I : Inv X pins σ H s) (h1 : -(2 ^ 62) ≤ lo) (h2 : lo < 2 ^ 62) (h3 : -(2 ^ 62) ≤ hi) (h4 : hi < 2 ^ 62)
  (q : R (Itr lo (hi - lo).toNat) H) : wpAny (model X.prog X.w) X.A (pyIter (.ref s.heap.objs.size)) (PIE X pins σ tg R) E { s with heap := s.heap.push { cls := .type "range", data := .fields #[.int lo t, .int hi u, .int 1 v] }, toks := tk } := by
 refine wpAny_pyIter_range (IsRange.new ..) (small_one h1 h2 h3 h4) ?_
 have I1 : Inv X pins σ H { s with heap := s.heap.push { cls := .type "range", data := .fields #[.int lo t, .int hi u, .int 1 v] }, toks := tk } := I.kept fun b o e => Heap.get?_push_of_some _ e
 refine ⟨(s.heap.push { cls := .type "range", data := .fields #[.int lo t, .int hi u, .int 1 v] }).objs.size, [(s.heap.push { cls := .type "range", data := .fields #[.int lo t, .int hi u, .int 1 v] }).objs.size], _, _, H, rfl,
  I1.kept (t' := tk) fun b o e => Heap.get?_push_of_some _ e, iqL _ lo (hi - lo).toNat, ?_, fun b hb => ?_, q⟩
 ·have e1 : lo + ((0 : Nat) : Int) * 1 = lo := by simp
  have e2 : (((hi - lo).toNat : Nat) : Int) - ((0 : Nat) : Int) = Builtin.Range.rangeSize lo hi 1 := by rw [rangeSize_one]; split <;> omega
  show IsRangeIter _ _ (lo + ((0 : Nat) : Int) * 1) ((((hi - lo).toNat : Nat) : Int) - ((0 : Nat) : Int)) 1
  rw [e1, e2]
  exact Heap.get?_push_size _ rfl
 ·have e : b = (s.heap.push { cls := .type "range", data := .fields #[.int lo t, .int hi u, .int 1 v] }).objs.size := by simpa using hb
  subst e
  exact I1.fpOk (Nat.le_refl _) (I1.hok.fresh (Nat.le_refl _))
def iRng1 (ta : TA) : TI := fun σ H R => ta σ H fun vs H1 => ∃ j : Int, vs = [.int j] ∧ -(2 ^ 62) ≤ j ∧ j < 2 ^ 62 ∧ R (Itr 0 j.toNat) H1
theorem bqL {a : Expr} {ta : TA} {p pos : Pos} (hg : Gl X "range") (hm : X.mg "range" = none) (ha : PA X [a] ta) (hs : starEach [a] X.env = [(false, eval a X.env)] := by rfl) : PI X tg (.Call (.Name "range" p) [a] [] pos) (iRng1 ta) := by
 intro pins s σ H R I h
 refine Call_ (fqH I hg hm boot_range (PyProof.Rows.callWith_type1 (thn (ha pos pins s σ H _ I h) fun us s1 W' => ?_) hs rfl))
 obtain ⟨vs, H1, I1, r1, q1⟩ := W'
 obtain ⟨j, e, q1, q2, q⟩ := q1
 subst e
 cases r1 with
 | cons r rr =>
  cases rr
  obtain ⟨t, rfl⟩ := r
  exact call_range_1 (kq1 I1 (by omega) (by omega) q1 q2 (by simpa using q))
def tFor (wi : TI) (g : TG) (tb : TS) : TS := fun D σ H => wi σ H fun J H1 => ∃ W : Nat → Nat → St → Hp → Prop, (∃ m, W 0 m σ H1) ∧ ∀ i m σ H, W i m σ H →
 (J.stop i H ∧ D.nx σ H) ∨ (J.go i H ∧ ∃ N : St → Hp → Prop, (∀ σ' H', N σ' H' → ∃ m', m' < m ∧ W (i + 1) m' σ' H') ∧ ∀ x H', J.yld i H x H' → g x σ H' fun σ2 H2 => tb { D with nx := N, ct := N, bk := D.nx } σ2 H2)
def pinsAt (fp : List Addr) (h : Heap) : List (Addr × Obj) := fp.filterMap fun b => (h.get? b).map fun o => (b, o)
theorem bq4 {fp : List Addr} {h : Heap} {b : Addr} {o : Obj} (hb : b ∈ fp) (e : h.get? b = some o) : (b, o) ∈ pinsAt fp h := List.mem_filterMap.mpr ⟨b, hb, by rw [e]; rfl⟩
theorem jqB {fp : List Addr} {h : Heap} {p : Addr × Obj} (hp : p ∈ pinsAt fp h) : p.1 ∈ fp ∧ h.get? p.1 = some p.2 := by
 obtain ⟨b, hb, e⟩ := List.mem_filterMap.mp hp
 cases q : h.get? b with
 | none => rw [q] at e; cases e
 | some o =>
  rw [q] at e
  have e' : (b, o) = p := Option.some.inj e
  subst e'
  exact ⟨hb, q⟩
theorem Inv.pinned {pins : List (Addr × Obj)} {σ : St} {H : Hp} {s : Shared} {fp : List Addr} (I : Inv X pins σ H s) (hf : ∀ b ∈ fp, FpOk X pins H b) (ho : ∀ b ∈ fp, ∃ o, s.heap.get? b = some o ∧ ∀ v, o.data ≠ .cell v) : Inv X (pins ++ pinsAt fp s.heap) σ H s :=
 I.pins_of fun p hp => (List.mem_append.mp hp).elim (fun z => I.pin p (List.mem_append_right _ z)) fun z => by
  obtain ⟨hb, e⟩ := jqB z
  obtain ⟨f0, f1, f2, _⟩ := hf p.1 hb
  obtain ⟨o, e', d⟩ := ho p.1 hb
  rw [e] at e'; cases e'
  exact ⟨e, f0, f1, f2, d⟩
theorem Inv.unpinned {pins pl : List (Addr × Obj)} {σ : St} {H : Hp} {s : Shared} (I : Inv X (pins ++ pl) σ H s) : Inv X pins σ H s := I.pins_of fun p hp => I.pin p (List.mem_append_right _ (List.mem_append_left _ hp))
theorem eqo {iter : Expr} {body : List Stmt} {wi : TI} {g : TG} {tb : TS} {pos : Pos} (hp : PassesOwn (model X.prog X.w) X.A X.env X.xe) (hc : X.calm = true) (hi : PI X tg iter wi) (hg : PG X tg g) (hb : PSs X body tb)
  (hs : ∀ x, foldedSetIterable iter X.env x = pure x := by intro _; rfl) : PS X (.For tg iter body [] pos) (tFor wi g tb) := by
 intro pins s σ H D I h
 refine wpAny_For (thn (hi pins s σ H _ I h) fun v s1 h1 => thn h1 fun itv s2 h2 => ?_) hs
 obtain ⟨it, fp, tn, J, H2, e, I2, T, st2, f2, W, ⟨m0, w0⟩, turn⟩ := h2
 subst e
 have stat : ∀ {H' : Hp}, (∀ b ∈ fp, H' b = none) → ∀ b ∈ fp, FpOk X pins H' b := fun hn b hb => ⟨hn b hb, (f2 b hb).2⟩
 refine codeAny_forLoop_any (fun n s' => ∃ i σ' H', Inv X pins σ' H' s' ∧ tn i s'.heap ∧ (∀ b ∈ fp, H' b = none) ∧ W i n σ' H') ?_ m0 ⟨0, σ, H2, I2, st2, fun b hb => (f2 b hb).1, w0⟩
 rintro n s3 ⟨i, σ3, H3, I3, st3, fr3, w3⟩
 rcases turn i n σ3 H3 w3 with ⟨stop, qn⟩ | ⟨go, N, hN, step⟩
 ·refine wpAny_passesOwn hp (thn (T.done X rfl rfl rfl hc i pins s3 σ3 H3 X.xe I3 (stat fr3) st3 stop) fun r s4 W' => ?_)
  obtain ⟨hr, I4⟩ := W'
  subst hr
  exact wpAny_execs_nil ⟨σ3, H3, I4, qn⟩
 ·refine wpAny_passesOwn hp (thn (T.item X rfl rfl rfl hc i pins s3 σ3 H3 X.xe I3 (stat fr3) st3 go) fun r s4 W' => ?_)
  obtain ⟨u, hr, h4⟩ := W'
  subst hr
  refine wpAny_passesOwn hp (thn h4 fun _ s5 W' => ?_)
  obtain ⟨x, H5, I5, r5, y5, st5, fr5⟩ := W'
  have I5' := I5.pinned (stat fr5) (T.obj _ _ st5)
  refine wpAny_passesOwn hp (thn (hg _ s5 σ3 H5 x u _ I5' r5 (step x H5 y5)) fun _ s6 W' => ?_)
  obtain ⟨σ6, H6, I6, q6⟩ := W'
  refine wpAny_passesOwn hp (thn (hb _ s6 σ6 H6 _ I6 q6) fun f s7 q7 => ?_)
  have again : ∀ {σ7 : St} {H7 : Hp}, Inv X (pins ++ pinsAt fp s5.heap) σ7 H7 s7 → N σ7 H7 → ∃ m, m < n ∧ ∃ i σ' H', Inv X pins σ' H' s7 ∧ tn i s7.heap ∧ (∀ b ∈ fp, H' b = none) ∧ W i m σ' H' := fun {σ7 H7} I7 n7 => by
   obtain ⟨m', hm, w7⟩ := hN σ7 H7 n7
   refine ⟨m', hm, i + 1, σ7, H7, I7.unpinned, T.keep _ _ _ st5 fun b hb o e => (I7.pin (b, o) (List.mem_append_right _ (List.mem_append_right _ (bq4 hb e)))).1, fun b hb => ?_, w7⟩
   obtain ⟨o, e, d⟩ := T.obj _ _ st5 b hb
   exact (I7.pin (b, o) (List.mem_append_right _ (List.mem_append_right _ (bq4 hb e)))).2.1
  cases f with
  | next => obtain ⟨σ7, H7, I7, n7⟩ := q7; exact again I7 n7
  | cont => obtain ⟨σ7, H7, I7, n7⟩ := q7; exact again I7 n7
  | brk => obtain ⟨σ7, H7, I7, q7⟩ := q7; exact ⟨σ7, H7, I7.unpinned, q7⟩
  | ret v => obtain ⟨x7, σ7, H7, I7, r7, q7⟩ := q7; exact ⟨x7, σ7, H7, I7.unpinned, r7, q7⟩
end
theorem kqQ {K : PySem.W.Frag} {a : Addr} {xs : List V} {g : TG} {tb : TS} {D : Ends} {σ : St} {H : Hp} (Pv : Nat → St → Hp → Prop) (h0 : Pv 0 σ H) (hl : ∀ i σ H, i ≤ xs.length → Pv i σ H → SqL K H a xs)
  (hs : ∀ i x σ H, xs[i]? = some x → Pv i σ H → g x σ H fun σ2 H2 => tb { D with nx := Pv (i + 1), ct := Pv (i + 1), bk := D.nx } σ2 H2) (hd : ∀ σ H, Pv xs.length σ H → D.nx σ H) :
  ∃ W : Nat → Nat → St → Hp → Prop, (∃ m, W 0 m σ H) ∧ ∀ i m σ H, W i m σ H →
   ((Itl K a).stop i H ∧ D.nx σ H) ∨ ((Itl K a).go i H ∧ ∃ N : St → Hp → Prop, (∀ σ' H', N σ' H' → ∃ m', m' < m ∧ W (i + 1) m' σ' H') ∧ ∀ x H', (Itl K a).yld i H x H' → g x σ H' fun σ2 H2 => tb { D with nx := N, ct := N, bk := D.nx } σ2 H2) := by
 refine ⟨fun i m σ H => m = xs.length - i ∧ i ≤ xs.length ∧ Pv i σ H, ⟨xs.length, by simp, Nat.zero_le _, h0⟩, ?_⟩
 rintro i m σ H ⟨rfl, hi, p⟩
 have q := hl i σ H hi p
 by_cases hlt : i < xs.length
 ·refine .inr ⟨⟨xs, xs[i], q, by simp [hlt]⟩, Pv (i + 1), fun σ' H' p' => ⟨xs.length - (i + 1), by omega, rfl, hlt, p'⟩, fun x H' y => ?_⟩
  obtain ⟨e, y⟩ := y
  subst e
  exact hs i x σ _ (y xs q) p
 ·have e : i = xs.length := by omega
  subst e
  exact .inl ⟨⟨xs, q, Nat.le_refl _⟩, hd σ H p⟩
theorem jqA {lo : Int} {n : Nat} {g : TG} {tb : TS} {D : Ends} {σ : St} {H : Hp} (Pv : Nat → St → Hp → Prop) (h0 : Pv 0 σ H)
  (hs : ∀ i σ H, i < n → Pv i σ H → g (.int (lo + i)) σ H fun σ2 H2 => tb { D with nx := Pv (i + 1), ct := Pv (i + 1), bk := D.nx } σ2 H2) (hd : ∀ σ H, Pv n σ H → D.nx σ H) :
  ∃ W : Nat → Nat → St → Hp → Prop, (∃ m, W 0 m σ H) ∧ ∀ i m σ H, W i m σ H →
   ((Itr lo n).stop i H ∧ D.nx σ H) ∨ ((Itr lo n).go i H ∧ ∃ N : St → Hp → Prop, (∀ σ' H', N σ' H' → ∃ m', m' < m ∧ W (i + 1) m' σ' H') ∧ ∀ x H', (Itr lo n).yld i H x H' → g x σ H' fun σ2 H2 => tb { D with nx := N, ct := N, bk := D.nx } σ2 H2) := by
 refine ⟨fun i m σ H => m = n - i ∧ i ≤ n ∧ Pv i σ H, ⟨n, by simp, Nat.zero_le _, h0⟩, ?_⟩
 rintro i m σ H ⟨rfl, hi, p⟩
 by_cases hlt : i < n
 ·refine .inr ⟨hlt, Pv (i + 1), fun σ' H' p' => ⟨n - (i + 1), by omega, rfl, hlt, p'⟩, fun x H' y => ?_⟩
  obtain ⟨e, y⟩ := y
  subst e y
  exact hs i σ _ hlt p
 ·have e : i = n := by omega
  subst e
  exact .inl ⟨Nat.le_refl _, hd σ H p⟩
abbrev R2 := V → V → Hp → VK → Prop
def OpR (X : Cx) (f : Value → Value → Sem Value) (r : R2) : Prop :=
 ∀ (pins : List (Addr × Obj)) (s : Shared) (σ : St) (H : Hp) (x y : V) (v u : Value) (Q : VK), Inv X pins σ H s → RelV x v → RelV y u → r x y H Q →
  wpAny (model X.prog X.w) X.A (f v u) (EP X pins σ Q) X.xe s
def UnR (X : Cx) (f : Value → Sem Value) (r : V → Hp → VK → Prop) : Prop :=
 ∀ (pins : List (Addr × Obj)) (s : Shared) (σ : St) (H : Hp) (x : V) (v : Value) (Q : VK), Inv X pins σ H s → RelV x v → r x H Q →
  wpAny (model X.prog X.w) X.A (f v) (EP X pins σ Q) X.xe s
def CallR (X : Cx) (f : Value) (r : List V → Hp → VK → Prop) : Prop :=
 ∀ (pins : List (Addr × Obj)) (s : Shared) (σ : St) (H : Hp) (xs : List V) (us : List Value) (Q : VK), Inv X pins σ H s → Vals xs us → r xs H Q →
  wpAny (model X.prog X.w) X.A (call f us) (EP X pins σ Q) X.xe s
def tOp (r : R2) (ta tb : TE) : TE := fun σ H Q => ta σ H fun x H1 => tb σ H1 fun y H2 => r x y H2 Q
def tUn (r : V → Hp → VK → Prop) (ta : TE) : TE := fun σ H Q => ta σ H fun x H1 => r x H1 Q
def rI (C : Int → Int → Prop) (g : Int → Int → V) : R2 := fun x y H Q => ∃ i j, x = .int i ∧ y = .int j ∧ C i j ∧ Q (g i j) H
def rI0 (g : Int → Int → V) : R2 := fun x y H Q => ∃ i j, x = .int i ∧ y = .int j ∧ Q (g i j) H
def rU (g : Int → V) : V → Hp → VK → Prop := fun x H Q => ∃ i, x = .int i ∧ Q (g i) H
section
variable {X : Cx} {a b c : Expr} {ta tb tc : TE} {pos : Pos}
theorem binT (ha : PE X a ta) (hb : PE X b tb) {pins : List (Addr × Obj)} {s : Shared} {σ : St} {H : Hp} {R : V → V → Hp → Prop} (I : Inv X pins σ H s)
  (h : ta σ H fun x H1 => tb σ H1 fun y H2 => R x y H2) {Q : Value → Shared → Prop} {f : Value → Value → Sem Value}
  (hf : ∀ v u s2 x y H2, Inv X pins σ H2 s2 → RelV x v → RelV y u → R x y H2 → wpAny (model X.prog X.w) X.A (f v u) Q X.xe s2) :
  wpAny (model X.prog X.w) X.A (eval a X.env) (fun v s₁ => wpAny (model X.prog X.w) X.A (eval b X.env) (fun u s₂ => wpAny (model X.prog X.w) X.A (f v u) Q X.xe s₂) X.xe s₁) X.xe s := by
 refine thn (ha pins s σ H _ I h) fun v s1 W' => ?_
 obtain ⟨x, H1, I1, r1, q1⟩ := W'
 refine thn (hb pins s1 σ H1 _ I1 q1) fun u s2 W' => ?_
 obtain ⟨y, H2, I2, r2, q2⟩ := W'
 exact hf v u s2 x y H2 I2 r1 r2 q2
theorem aqs {op : Operator} {r : R2} (ho : OpR X (binaryOp op) r) (ha : PE X a ta) (hb : PE X b tb) : PE X (.BinOp a op b pos) (tOp r ta tb) := by
 intro pins s σ H Q I h
 exact wpAny_BinOp (binT ha hb I h fun v u s2 x y H2 I2 rx ry q => ho pins s2 σ H2 x y v u Q I2 rx ry q)
theorem kq2 {op : UnaryOp} {r : V → Hp → VK → Prop} (ho : UnR X (unaryOp op) r) (ha : PE X a ta) : PE X (.UnaryOp op a pos) (tUn r ta) := by
 intro pins s σ H Q I h
 exact UnaryOp_ (thn (ha pins s σ H _ I h) fun v s1 ⟨x, H1, I1, r1, q1⟩ => ho pins s1 σ H1 x v Q I1 r1 q1)
theorem opI {f : Value → Value → Sem Value} {C : Int → Int → Prop} {g : Int → Int → Int}
  (rule : ∀ (i j : Int) (t u : Tok) (s : Shared) (Q : Value → Shared → Prop) (E : Value → Shared → Prop), C i j → Q (.int (g i j) s.toks) { s with toks := s.toks + 1 } → wpAny (model X.prog X.w) X.A (f (.int i t) (.int j u)) Q E s) :
  OpR X f (rI C fun i j => .int (g i j)) := by
 intro pins s σ H x y v u Q I rx ry h
 obtain ⟨i, j, rfl, rfl, hc, q⟩ := h
 obtain ⟨t, rfl⟩ := rx
 obtain ⟨t', rfl⟩ := ry
 exact rule i j t t' s _ _ hc ⟨.int (g i j), H, I.tok _, ⟨_, rfl⟩, q⟩
theorem opI0 {f : Value → Value → Sem Value} {g : Int → Int → Int}
  (rule : ∀ (i j : Int) (t u : Tok) (s : Shared) (Q : Value → Shared → Prop) (E : Value → Shared → Prop), Q (.int (g i j) s.toks) { s with toks := s.toks + 1 } → wpAny (model X.prog X.w) X.A (f (.int i t) (.int j u)) Q E s) :
  OpR X f (rI0 fun i j => .int (g i j)) := by
 intro pins s σ H x y v u Q I rx ry h
 obtain ⟨i, j, rfl, rfl, q⟩ := h
 obtain ⟨t, rfl⟩ := rx
 obtain ⟨t', rfl⟩ := ry
 exact rule i j t t' s _ _ ⟨.int (g i j), H, I.tok _, ⟨_, rfl⟩, q⟩
theorem opB0 {f : Value → Value → Sem Value} {g : Int → Int → Bool}
  (rule : ∀ (i j : Int) (t u : Tok) (s : Shared) (Q : Value → Shared → Prop) (E : Value → Shared → Prop), Q (.bool (g i j)) s → wpAny (model X.prog X.w) X.A (f (.int i t) (.int j u)) Q E s) :
  OpR X f (rI0 fun i j => .bl (g i j)) := by
 intro pins s σ H x y v u Q I rx ry h
 obtain ⟨i, j, rfl, rfl, q⟩ := h
 obtain ⟨t, rfl⟩ := rx
 obtain ⟨t', rfl⟩ := ry
 exact rule i j t t' s _ _ ⟨.bl (g i j), H, I, rfl, q⟩
def CDiv (i j : Int) : Prop := 0 < j ∧ j < 1073741824
def CPow (i j : Int) : Prop := 0 ≤ j ∧ j ≤ 1000000 ∧ i.natAbs < 2 ^ 64
def CMul (i j : Int) : Prop := (-(2 ^ 64) < i ∧ i < 2 ^ 64) ∨ (-(2 ^ 64) < j ∧ j < 2 ^ 64)
theorem CMul.ok {i j : Int} (h : CMul i j) : IntMulOk i j := by
 rcases h with ⟨h1, h2⟩ | ⟨h1, h2⟩
 ·exact .of_left (intBits_le_64 h1 h2)
 ·exact .of_right (intBits_le_64 h1 h2)
theorem nqS : OpR X (binaryOp .Add) (rI0 fun i j => .int (i + j)) := opI0 fun _ _ _ _ _ _ _ q => add_int q
theorem hq9 : OpR X (binaryOp .Sub) (rI0 fun i j => .int (i - j)) := opI0 fun _ _ _ _ _ _ _ q => sub_int q
theorem mqR : OpR X (binaryOp .Mult) (rI CMul fun i j => .int (i * j)) := opI fun _ _ _ _ _ _ _ hc q => mul_int q hc.ok
theorem aqQ : OpR X (binaryOp .FloorDiv) (rI CDiv fun i j => .int (i / j)) := opI fun i j _ _ _ _ _ hc q => by
 have h1 : (0 : Int) < j := hc.1
 have h2 : j < 1073741824 := hc.2
 exact floordiv_int (by omega) (by rw [Int.fdiv_eq_ediv_of_nonneg i (by omega)]; exact q) (.inl (PyProof.noPylong_small (by omega)))
theorem aqN : OpR X (binaryOp .Mod) (rI (fun _ j => 0 < j) fun i j => .int (i % j)) := opI fun i j _ _ _ _ _ hc q => by
 have h1 : (0 : Int) < j := hc
 exact mod_int' (by omega) (by rw [Int.fmod_eq_emod_of_nonneg i (by omega)]; exact q)
theorem mqE : OpR X (binaryOp .Pow) (rI CPow fun i j => .int (i ^ j.toNat)) := opI fun _ _ _ _ _ _ _ hc q => pow_int_small hc.1 hc.2.1 hc.2.2 q
theorem unI {f : Value → Sem Value} {g : Int → Int}
  (rule : ∀ (i : Int) (t : Tok) (s : Shared) (Q : Value → Shared → Prop) (E : Value → Shared → Prop), Q (.int (g i) s.toks) { s with toks := s.toks + 1 } → wpAny (model X.prog X.w) X.A (f (.int i t)) Q E s) :
  UnR X f (rU fun i => .int (g i)) := by
 intro pins s σ H x v Q I rx h
 obtain ⟨i, rfl, q⟩ := h
 obtain ⟨t, rfl⟩ := rx
 exact rule i t s _ _ ⟨.int (g i), H, I.tok _, ⟨_, rfl⟩, q⟩
theorem hq7 : UnR X (unaryOp .USub) (rU fun i => .int (-i)) := unI fun _ _ _ _ _ q => neg_int q
end
def scal : V → V → Bool
 | .non, .non => true | .non, .int _ => true | .int _, .non => true | .non, .bl _ => true | .bl _, .non => true | .non, .str _ => true | .str _, .non => true
 | .int _, .int _ => true | .bl _, .bl _ => true | .str _, .str _ => true | .byt _, .byt _ => true
 | .int _, .str _ => true | .str _, .int _ => true | .bl _, .str _ => true | .str _, .bl _ => true
 | _, _ => false
def rEq : R2 := fun x y H Q => scal x y = true ∧ Q (.bl (decide (x = y))) H
def rNe : R2 := fun x y H Q => scal x y = true ∧ Q (.bl (!decide (x = y))) H
theorem jqg {i j : Int} : decide (V.int i = V.int j) = (i == j) := by
 rw [Bool.eq_iff_iff]
 simp
theorem lqb {i j : Bool} : decide (V.bl i = V.bl j) = (i == j) := by
 rw [Bool.eq_iff_iff]
 simp
theorem jqC {i j : Str} : decide (V.str i = V.str j) = (i == j) := by
 rw [Bool.eq_iff_iff]
 simp
theorem iq9 {i j : Array UInt8} : decide (V.byt i = V.byt j) = (i.toList == j.toList) := by
 rw [Bool.eq_iff_iff]
 cases i
 cases j
 simp
section
variable {X : Cx} {a b c : Expr} {ta tb tc : TE} {pos : Pos}
theorem aqC {pins : List (Addr × Obj)} {σ : St} {H : Hp} {s : Shared} {Q : VK} {k k' : Bool} (I : Inv X pins σ H s) (q : Q (.bl k) H) (e : k = k') : EP X pins σ Q (.bool k') s := by
 subst e
 exact ⟨.bl k, H, I, rfl, q⟩
theorem aqF : OpR X (compareOp .Eq) rEq := by
 intro pins s σ H x y v u Q I rx ry h
 obtain ⟨hs, q⟩ := h
 cases x with
 | non =>
  cases rx
  cases y with
  | non => cases ry; exact PySem.EqNone.eq_none_none (aqC I q (by simp))
  | bl j => cases ry; exact PySem.EqNone.eq_none_bool (aqC I q (by simp))
  | int j => obtain ⟨t', rfl⟩ := ry; exact PySem.EqNone.eq_none_int (aqC I q (by simp))
  | str j => obtain ⟨t', rfl⟩ := ry; exact PySem.EqNone.eq_none_str (aqC I q (by simp))
  | _ => exact absurd (show false = true from hs) Bool.false_ne_true
 | bl i =>
  cases rx
  cases y with
  | non => cases ry; exact PySem.EqNone.eq_bool_none (aqC I q (by simp))
  | bl j => cases ry; exact eq_bool (aqC I q lqb)
  | str j => obtain ⟨t', rfl⟩ := ry; exact PySem.EqMixed.eq_bool_str (aqC I q (by simp))
  | _ => exact absurd (show false = true from hs) Bool.false_ne_true
 | int i =>
  obtain ⟨t, rfl⟩ := rx
  cases y with
  | non => cases ry; exact PySem.EqNone.eq_int_none (aqC I q (by simp))
  | int j => obtain ⟨t', rfl⟩ := ry; exact eq_int (aqC I q jqg)
  | str j => obtain ⟨t', rfl⟩ := ry; exact PySem.EqMixed.eq_int_str (aqC I q (by simp))
  | _ => exact absurd (show false = true from hs) Bool.false_ne_true
 | str i =>
  obtain ⟨t, rfl⟩ := rx
  cases y with
  | non => cases ry; exact PySem.EqNone.eq_str_none (aqC I q (by simp))
  | bl j => cases ry; exact PySem.EqMixed.eq_str_bool (aqC I q (by simp))
  | int j => obtain ⟨t', rfl⟩ := ry; exact PySem.EqMixed.eq_str_int (aqC I q (by simp))
  | str j => obtain ⟨t', rfl⟩ := ry; exact eq_str (aqC I q jqC)
  | _ => exact absurd (show false = true from hs) Bool.false_ne_true
 | byt i =>
  obtain ⟨t, rfl⟩ := rx
  cases y with
  | byt j => obtain ⟨t', rfl⟩ := ry; exact PySem.W.eq_bytes (aqC I q iq9)
  | _ => exact absurd (show false = true from hs) Bool.false_ne_true
 | _ => cases y <;> exact absurd (show false = true from hs) Bool.false_ne_true
theorem gqr : OpR X (compareOp .NotEq) rNe := by
 intro pins s σ H x y v u Q I rx ry h
 obtain ⟨hs, q⟩ := h
 cases x with
 | non =>
  cases rx
  cases y with
  | non => cases ry; exact PySem.EqNone.ne_none_none (aqC I q (by simp))
  | bl j => cases ry; exact PySem.EqNone.ne_none_bool (aqC I q (by simp))
  | int j => obtain ⟨t', rfl⟩ := ry; exact PySem.EqNone.ne_none_int (aqC I q (by simp))
  | str j => obtain ⟨t', rfl⟩ := ry; exact PySem.EqNone.ne_none_str (aqC I q (by simp))
  | _ => exact absurd (show false = true from hs) Bool.false_ne_true
 | bl i =>
  cases rx
  cases y with
  | non => cases ry; exact PySem.EqNone.ne_bool_none (aqC I q (by simp))
  | bl j => cases ry; exact ne_bool (aqC I q (congrArg not lqb))
  | str j => obtain ⟨t', rfl⟩ := ry; exact PySem.EqMixed.ne_bool_str (aqC I q (by simp))
  | _ => exact absurd (show false = true from hs) Bool.false_ne_true
 | int i =>
  obtain ⟨t, rfl⟩ := rx
  cases y with
  | non => cases ry; exact PySem.EqNone.ne_int_none (aqC I q (by simp))
  | int j => obtain ⟨t', rfl⟩ := ry; exact ne_int (aqC I q (congrArg not jqg))
  | str j => obtain ⟨t', rfl⟩ := ry; exact PySem.EqMixed.ne_int_str (aqC I q (by simp))
  | _ => exact absurd (show false = true from hs) Bool.false_ne_true
 | str i =>
  obtain ⟨t, rfl⟩ := rx
  cases y with
  | non => cases ry; exact PySem.EqNone.ne_str_none (aqC I q (by simp))
  | bl j => cases ry; exact PySem.EqMixed.ne_str_bool (aqC I q (by simp))
  | int j => obtain ⟨t', rfl⟩ := ry; exact PySem.EqMixed.ne_str_int (aqC I q (by simp))
  | str j => obtain ⟨t', rfl⟩ := ry; exact ne_str (aqC I q (congrArg not jqC))
  | _ => exact absurd (show false = true from hs) Bool.false_ne_true
 | byt i =>
  obtain ⟨t, rfl⟩ := rx
  cases y with
  | byt j => obtain ⟨t', rfl⟩ := ry; exact PySem.W.ne_bytes (aqC I q (congrArg not iq9))
  | _ => exact absurd (show false = true from hs) Bool.false_ne_true
 | _ => cases y <;> exact absurd (show false = true from hs) Bool.false_ne_true
theorem iq6 : OpR X (compareOp .Lt) (rI0 fun i j => .bl (decide (i < j))) := opB0 fun _ _ _ _ _ _ _ q => lt_int q
theorem iqD : OpR X (compareOp .LtE) (rI0 fun i j => .bl (decide (i ≤ j))) := opB0 fun _ _ _ _ _ _ _ q => le_int q
theorem hqJ : OpR X (compareOp .Gt) (rI0 fun i j => .bl (decide (j < i))) := opB0 fun _ _ _ _ _ _ _ q => gt_int q
theorem nq3 : OpR X (compareOp .GtE) (rI0 fun i j => .bl (decide (j ≤ i))) := opB0 fun _ _ _ _ _ _ _ q => ge_int q
theorem jqD : OpR X (compareOp .In) (fun x y H Q => ∃ i j, x = .str i ∧ y = .str j ∧ Q (.bl (!(Builtin.Str.occurrences j i 0 j.length 1).isEmpty)) H) := by
 intro pins s σ H x y v u Q I rx ry h
 obtain ⟨i, j, rfl, rfl, q⟩ := h
 obtain ⟨t, rfl⟩ := rx
 obtain ⟨t', rfl⟩ := ry
 exact in_str (aqC I q rfl)
theorem mqB : OpR X (compareOp .Is) (fun x y H Q => y = .non ∧ Q (.bl (decide (x = .non))) H) := by
 intro pins s σ H x y v u Q I rx ry h
 obtain ⟨rfl, q⟩ := h
 cases ry
 refine is_none_gen (aqC I q ?_)
 cases x <;> first
  | (cases rx; rfl)
  | (obtain ⟨t, rfl⟩ := rx; rfl)
theorem gq8 : OpR X (compareOp .NotIn) (fun x y H Q => ∃ i j, x = .str i ∧ y = .str j ∧ Q (.bl (!(!(Builtin.Str.occurrences j i 0 j.length 1).isEmpty))) H) := by
 intro pins s σ H x y v u Q I rx ry h
 obtain ⟨i, j, rfl, rfl, q⟩ := h
 obtain ⟨t, rfl⟩ := rx
 obtain ⟨t', rfl⟩ := ry
 exact notIn_str (aqC I q rfl)
theorem nomark (b : Expr) {op : CmpOp} (h : op ≠ .In := by decide) (h2 : op ≠ .NotIn := by decide) : behindInMarks op b = false := by
 have e1 : (op == CmpOp.In) = false := by cases op <;> first | rfl | exact absurd rfl h
 have e2 : (op == CmpOp.NotIn) = false := by cases op <;> first | rfl | exact absurd rfl h2
 cases b <;> simp [behindInMarks, e1, e2]
theorem aqz {op : CmpOp} {r : R2} (ho : OpR X (compareOp op) r) (ha : PE X a ta) (hb : PE X b tb) (hm : behindInMarks op b = false) : PE X (.Compare a [op] [b] pos) (tOp r ta tb) := by
 intro pins s σ H Q I h
 exact wpAny_Compare1 (binT ha hb I h fun v u s2 x y H2 I2 rx ry q => ho pins s2 σ H2 x y v u Q I2 rx ry q) hm
def tTest (t : TE) : TT := fun σ H Q => t σ H fun x H' => ∃ k, x = .bl k ∧ Q k H'
theorem aqk {op : CmpOp} {r : R2} (ho : OpR X (compareOp op) r) (ha : PE X a ta) (hb : PE X b tb) (hm : behindInMarks op b = false) : PT X (.Compare a [op] [b] pos) (tTest (tOp r ta tb)) := by
 intro pins s σ H Q I h
 refine wpAny_isTrue_Compare1 (thn (ha pins s σ H _ I h) fun v s1 ⟨x, H1, I1, r1, q1⟩ => thn (hb pins s1 σ H1 _ I1 q1) fun u s2 ⟨y, H2, I2, r2, q2⟩ =>
  thn (ho pins s2 σ H2 x y v u _ I2 r1 r2 q2) fun c s3 ⟨z, H3, I3, r3, k, e, q3⟩ => ?_) hm
 subst e
 cases r3
 exact wpAny_truthy_bool ⟨H3, I3, q3⟩
def tChain (r r' : R2) (ta tb tc : TE) : TE := fun σ H Q => ta σ H fun x H1 => tb σ H1 fun y H2 => r x y H2 fun z H3 => ∃ k, z = .bl k ∧
 (if k = true then tc σ H3 fun w' H4 => r' y w' H4 Q else Q (.bl false) H3)
theorem kqG {op op' : CmpOp} {r r' : R2} (ho : OpR X (compareOp op) r) (ho' : OpR X (compareOp op') r') (ha : PE X a ta) (hb : PE X b tb) (hc : PE X c tc)
  (hm : lastMarks [op, op'] [b, c] = false := by with_unfolding_all rfl) : PE X (.Compare a [op, op'] [b, c] pos) (tChain r r' ta tb tc) := by
 intro pins s σ H Q I h
 refine Compare_chain (thn (ha pins s σ H _ I h) fun v s1 ⟨x, H1, I1, r1, q1⟩ => chain_link (thn (hb pins s1 σ H1 _ I1 q1) fun u s2 ⟨y, H2, I2, r2, q2⟩ =>
  thn (ho pins s2 σ H2 x y v u _ I2 r1 r2 q2) fun d s3 ⟨z, H3, I3, r3, k, e, q3⟩ => ?_)) hm
 subst e
 cases r3
 refine wpAny_truthy_bool ?_
 cases k with
 | false => exact ite_ff ⟨.bl false, H3, I3, rfl, q3⟩
 | true => exact ite_tt (chain_last (thn (hc pins s3 σ H3 _ I3 q3) fun w' s4 ⟨z', H4, I4, r4, q4⟩ => ho' pins s4 σ H4 y z' u w' Q I4 r2 r4 q4))
theorem kqf {op op' : CmpOp} {r r' : R2} (ho : OpR X (compareOp op) r) (ho' : OpR X (compareOp op') r') (ha : PE X a ta) (hb : PE X b tb) (hc : PE X c tc)
  (hm : lastMarks [op, op'] [b, c] = false := by with_unfolding_all rfl) : PT X (.Compare a [op, op'] [b, c] pos) (tTest (tChain r r' ta tb tc)) := by
 intro pins s σ H Q I h
 refine isTrue_chain (thn (ha pins s σ H _ I h) fun v s1 ⟨x, H1, I1, r1, q1⟩ => test_link (thn (hb pins s1 σ H1 _ I1 q1) fun u s2 ⟨y, H2, I2, r2, q2⟩ =>
  thn (ho pins s2 σ H2 x y v u _ I2 r1 r2 q2) fun d s3 ⟨z, H3, I3, r3, k, e, q3⟩ => ?_)) hm
 subst e
 cases r3
 refine wpAny_truthy_bool ?_
 cases k with
 | false =>
  obtain ⟨k', e', q'⟩ := q3
  cases e'
  exact ite_ff ⟨H3, I3, q'⟩
 | true =>
  refine ite_tt (test_last (thn (hc pins s3 σ H3 _ I3 q3) fun w' s4 ⟨z', H4, I4, r4, q4⟩ => thn (ho' pins s4 σ H4 y z' u w' _ I4 r2 r4 q4) fun d' s5 W' => ?_))
  obtain ⟨z2, H5, I5, r5, k2, e2, q5⟩ := W'
  subst e2
  cases r5
  exact wpAny_truthy_bool ⟨H5, I5, q5⟩
theorem line63 : (sizeLine : Nat) < 2 ^ 63 := by rw [sizeLine_eq]; decide
theorem iqA : OpR X (binaryOp .Add) (fun x y H Q => ∃ i j, x = .str i ∧ y = .str j ∧ i.length + j.length ≤ sizeLine ∧ Q (.str (i ++ j)) H) := by
 intro pins s σ H x y v u Q I rx ry h
 obtain ⟨i, j, rfl, rfl, hz, q⟩ := h
 obtain ⟨t, rfl⟩ := rx
 obtain ⟨t', rfl⟩ := ry
 exact add_str (fun t' tk => ⟨.str (i ++ j), H, I.tok _, ⟨_, rfl⟩, q⟩) hz
theorem vals1 {x : V} {us : List Value} (r : Vals [x] us) : ∃ u, us = [u] ∧ RelV x u := by
 cases r with
 | cons r1 r2 => cases r2; exact ⟨_, rfl, r1⟩
theorem vals2 {x y : V} {us : List Value} (r : Vals [x, y] us) : ∃ u w', us = [u, w'] ∧ RelV x u ∧ RelV y w' := by
 cases r with
 | cons r1 r2 =>
  cases r2 with
  | cons r3 r4 => cases r4; exact ⟨_, _, rfl, r1, r3⟩
theorem jqm (hc : X.calm = true) : CallR X (.builtin "max") (fun xs H Q => ∃ i j, xs = [.int i, .int j] ∧ Q (.int (if j > i then j else i)) H) := by
 intro pins s σ H xs us Q I r h
 obtain ⟨i, j, rfl, q⟩ := h
 obtain ⟨u, w', rfl, ⟨t, rfl⟩, ⟨t', rfl⟩⟩ := vals2 r
 refine max_two_ints (I.ok.hd hc) fun h' tk k => ⟨_, H, I.kept k, ?_, q⟩
 by_cases hj : j > i
 ·rw [if_pos hj, if_pos hj]; exact ⟨_, rfl⟩
 ·rw [if_neg hj, if_neg hj]; exact ⟨_, rfl⟩
theorem gqV : CallR X (.type "int") (fun xs H Q => (∃ i, xs = [.int i] ∧ Q (.int i) H) ∨ ∃ k, xs = [.bl k] ∧ Q (.int (if k then 1 else 0)) H) := by
 intro pins s σ H xs us Q I r h
 rcases h with ⟨i, rfl, q⟩ | ⟨k, rfl, q⟩
 ·obtain ⟨u, rfl, t, rfl⟩ := vals1 r
  exact call_int_int ⟨.int i, H, I, ⟨_, rfl⟩, q⟩
 ·obtain ⟨u, rfl, r1⟩ := vals1 r
  cases r1
  exact call_int_bool ⟨.int (if k then 1 else 0), H, I.tok _, ⟨_, rfl⟩, q⟩
end
structure ObjM (h : Heap) (x dx C : Addr) (mA : Str → Option Value) : Prop where
 obj : h.get? x = some (PySem.W.instObj C dx)
 ns : h.Ns1 dx mA
 ne : dx ≠ x
section
variable {prog : Program} {w : World} {A : Around} {E : Value → Shared → Prop} {s : Shared} {K : PySem.W.Frag} {x dx C f : Addr} {mA : Str → Option Value} {name : Str} {v : Value}
end
def putF (f : Str) (v : V) : List (Str × V) → List (Str × V)
 | [] => [(f, v)]
 | (g, x) :: r => if g = f then (g, v) :: r else (g, x) :: putF f v r
section
variable {P : Program} {w : World} {H H' : Hp} {h h' : Heap} {a C dx : Addr} {fs fs' : List (Str × V)}
end
structure Cls (K : PySem.W.Frag) (C : Addr) : Prop where
 pg : PySem.W.plainGet K C Str.empty = true
 hd : PySem.W.hasDictIn K C = true
 po : PySem.W.plainOver K C = true
 sa : PySem.W.findIn K (.ref C) "__setattr__" = some (some (.builtin "object.__setattr__"))
def NoAttr (K : PySem.W.Frag) (C : Addr) (f : Str) : Prop := PySem.W.findIn K (.ref C) f = some none
structure Con (K : PySem.W.Frag) (C : Addr) (f : Str) (v : V) (u : Value) : Prop where
 at_ : PySem.W.findIn K (.ref C) f = some (some u)
 rel : RelV v u
 get : PySem.W.specialIn K u "__get__" = some none
 cp : PySem.W.copiedNames.contains f = false
structure Meth (K : PySem.W.Frag) (C : Addr) (m : Str) (f : Addr) : Prop where
 at_ : PySem.W.findIn K (.ref C) m = some (some (.ref f))
 fn : PySem.W.isFn K (.ref f) = true
 kp : PySem.W.keepIn K (.ref f) = true
section
variable {X : Cx} {pins : List (Addr × Obj)} {σ : St} {H : Hp} {s : Shared} {a C dx : Addr} {fs : List (Str × V)} {f : Str} {v : V} {A : Around} {E : Value → Shared → Prop}
end
def tFld (K : PySem.W.Frag) (ta : TE) (f : Str) : TE := fun σ H Q => ta σ H fun x H1 => ∃ a C dx fs v, x = .ref a ∧ H1 a = some (.ins C dx fs) ∧ Cls K C ∧ NoAttr K C f ∧ fs.lookup f = some v ∧ Q v H1
def sFld (K : PySem.W.Frag) (ta tv : TE) (f : Str) : TS := fun D σ H => tv σ H fun y H1 => ta σ H1 fun x H2 => ∃ a C dx fs, x = .ref a ∧ H2 a = some (.ins C dx fs) ∧ Cls K C ∧ NoAttr K C f ∧ fs.length < 1000 ∧
 D.nx σ (upd H2 a (.ins C dx (putF f y fs)))
section
variable {X : Cx} {o e value : Expr} {f : Str} {pos pos' tpos : Pos} {ta tv : TE}
end
section
variable {X : Cx} {pins : List (Addr × Obj)} {σ : St} {H : Hp} {s : Shared} {A : Around} {E : Value → Shared → Prop} {Q : Value → Shared → Prop} {c : Value} {b : Bool}
inductive TyOf (K : PySem.W.Frag) (H : Hp) : V → Value → Prop where
 | non : TyOf K H .non (.type "NoneType")
 | bl (x : Bool) : TyOf K H (.bl x) (.type "bool")
 | int (i : Int) : TyOf K H (.int i) (.type "int")
 | str (x : Str) : TyOf K H (.str x) (.type "str")
 | flt (x : UInt64) : TyOf K H (.flt x) (.type "float")
 | lst {a : Addr} {xs : List V} (e : H a = some (.lst xs)) : TyOf K H (.ref a) (.type "list")
 | frz {a : Addr} {o : Obj} {xs : List V} (e : H a = some (.frz o (.lst xs))) : TyOf K H (.ref a) (.type "list")
 | tup {a : Addr} {xs : List V} (e : H a = some (.tup xs)) : TyOf K H (.ref a) (.type "tuple")
 | dK {a : Addr} {kvs : List (Key × V)} (e : H a = some (.dK kvs)) : TyOf K H (.ref a) (.type "dict")
 | dT {a : Addr} {kvs : List (List Key × V)} (e : H a = some (.dT kvs)) : TyOf K H (.ref a) (.type "dict")
 | ins {a C dx : Addr} {fs : List (Str × V)} (e : H a = some (.ins C dx fs)) (cl : Cls K C) (ha : PySem.W.findIn K (.ref C) "__class__" = some (some (.builtin "object.__class__")))
   (hn : PySem.W.specialIn K (.builtin "object.__class__") "__get__" = some (some (.builtin "getset_descriptor.__get__"))) (htk : PySem.W.takesIn K (.builtin "object.__class__") = some true)
   (hm : PySem.W.mroIn K C (.type "object") = some true) : TyOf K H (.ref a) (.ref C)
end
structure Room (k : Nat) (A : Around) : Prop where
 hd : A.handled = none
 dp : A.depth + 3 * k + 5 < recursionLimit
 un : A.units + 16 * k + 200 < cLine
theorem Room.mono {j k : Nat} {A : Around} (r : Room k A) (h : j ≤ k) : Room j A := ⟨r.hd, by have := r.dp; omega, by have := r.un; omega⟩
theorem Room.deeper {k : Nat} {A : Around} (r : Room (k + 1) A) (env : Env) : Room k (A.deeper env) :=
 ⟨r.hd, by have := r.dp; show A.depth + 1 + 3 * k + 5 < _; omega, by have := r.un; show A.units + 3 + 16 * k + 200 < _; omega⟩
theorem Room.depth {k : Nat} {A : Around} (r : Room k A) : A.depth < recursionLimit := by have := r.dp; omega
theorem Room.units {k : Nat} {A : Around} (r : Room k A) : A.units + 64 < cLine := by have := r.un; omega
def tNil : TA := fun _ H Q => Q [] H
def tCons (ta : TE) (tr : TA) : TA := fun σ H Q => ta σ H fun x H1 => tr σ H1 fun xs H2 => Q (x :: xs) H2
section
variable {X : Cx} {e : Expr} {es : List Expr} {te : TE} {t : TA} {pos : Pos}
theorem aqc : PA X [] tNil := fun _ _ _ _ H Q I h => Calls.spliced_nil ⟨[], H, I, .nil, h⟩
theorem aqa (ha : PE X e te) (hr : PA X es t) (hs : starEach (e :: es) X.env = (false, eval e X.env) :: starEach es X.env := by rfl) : PA X (e :: es) (tCons te t) := by
 intro pos pins s σ H Q I h
 rw [hs]
 show wpAny _ _ (spliced ((false, eval e X.env) :: backTo pos (starEach es X.env))) _ _ s
 refine Calls.spliced_cons (thn (ha pins s σ H _ I h) fun u s1 W' => ?_)
 obtain ⟨x, H1, I1, r1, q1⟩ := W'
 exact thn (hr pos pins s1 σ H1 _ I1 q1) fun us s2 ⟨xs, H2, I2, r2, q2⟩ => ⟨x :: xs, H2, I2, .cons r1 r2, q2⟩
def tTup (t : TA) : TE := fun σ H Q => t σ H fun xs H1 => xs.length ≤ sizeLine ∧ ∀ p, H1 p = none → Q (.ref p) (upd H1 p (.tup xs))
def tLst (t : TA) : TE := fun σ H Q => t σ H fun xs H1 => xs.length ≤ sizeLine ∧ ∀ p, H1 p = none → Q (.ref p) (upd H1 p (.lst xs))
end
abbrev Sp := List V → Hp → VK → XK → Prop
abbrev CXT := List Env → Hp → Shared → XK → Value → Shared → Prop
structure Env0 (P : Program) (w : World) (K : PySem.W.Frag) (mg : Str → Option Value) (base : Heap) (A : Around) (outer : List Env) (s : Shared) (H : Hp) : Prop where
 frames : A.frames = some outer
 mod : Mod K mg base
 bs : ∀ b o, base.get? b = some o → s.heap.get? b = some o ∧ H b = none
 bsz : base.objs.size ≤ s.heap.objs.size
 funs : s.heap.FunFrames base outer
 frf : ∀ b ∈ frs outer, H b = none
 hok : HOk P w H s.heap
 bare : AllBare s.gens
def CE (outer : List Env) (P : Program) (w : World) (H : Hp) (s : Shared) (Q : VK) (u : Value) (s' : Shared) : Prop :=
 ∃ v H', s'.os = s.os ∧ AllBare s'.gens ∧ Un (frs outer) [] H H' s.heap s'.heap ∧ HOk P w H' s'.heap ∧ RelV v u ∧ Q v H'
def CR (CX : CXT) (outer : List Env) (P : Program) (w : World) (H : Hp) (s : Shared) (Q : VK) (E : XK) (r : Result) (s' : Shared) : Prop :=
 match r with
 | .ok (.ret u) => CE outer P w H s Q u s'
 | .ok _ => False
 | .error e => CX outer H s E e s'
structure FnOk (P : Program) (w : World) (K : PySem.W.Frag) (mg : Str → Option Value) (base : Heap) (CX : CXT) (k : Nat) (f : Addr) (fd : FuncData) (ps : List Str) (sp : Sp) : Prop where
 len : ∀ vs H Q E, sp vs H Q E → vs.length = ps.length
 run : ∀ (A : Around) (outer : List Env) (s : Shared) (H : Hp) (args : Args) (us : List Value) (vs : List V) (Q : VK) (E : XK), Room k A → Env0 P w K mg base A outer s H → BindsTo s fd args (ps.zip us) → Vals vs us → sp vs H Q E →
  codeAny (model P w) A (.call (.ref f) args) (CR CX outer P w H s Q E) s
section
variable {X : Cx} {pins : List (Addr × Obj)} {σ : St} {H : Hp} {s s' : Shared}
theorem Inv.env0 (I : Inv X pins σ H s) : Env0 X.prog X.w X.K X.mg X.base X.A X.stack s H :=
 ⟨I.ok.frames, I.ok.mod, I.bs, Nat.le_trans I.ok.bsz I.sz, I.stack, I.stkFree, I.hok, I.bare⟩
theorem Inv.after {Q : VK} {u : Value} (I : Inv X pins σ H s) (h : CE X.stack X.prog X.w H s Q u s') : EP X pins σ Q u s' := by
 obtain ⟨v, H', os, bare, un, hok, r, q⟩ := h
 obtain ⟨hh, g, d, t, os'⟩ := s'
 obtain rfl : os' = s.os := os
 exact ⟨v, H', I.call (h' := hh) (g' := g) (d' := d) (t' := t) (ch := []) un hok bare (fun b z => absurd z (by simp)), r, q⟩
end
def tCall (sp : Sp) (dvs : List V) (E : XK) (t : TA) : TE := fun σ H Q => t σ H fun vs H1 => sp (vs ++ dvs) H1 Q E
def tMeth (C : Addr) (m : Str) (sp : Sp) (dvs : List V) (E : XK) (ta : TE) (t : TA) : TE := fun σ H Q => ta σ H fun x H1 => ∃ a dx fs, x = .ref a ∧ H1 a = some (.ins C dx fs) ∧ fs.lookup m = none ∧
 t σ H1 fun vs H2 => sp (x :: (vs ++ dvs)) H2 Q E
def tMake (C : Addr) (sp : Sp) (dvs : List V) (E : XK) (t : TA) : TE := fun σ H Q => t σ H fun vs H1 => ∀ x dx, H1 x = none → H1 dx = none → dx ≠ x →
 sp (.ref x :: (vs ++ dvs)) (upd (upd H1 dx (.own x)) x (.ins C dx [])) (fun v H2 => v = .non ∧ Q (.ref x) H2) E
def Binds (K : PySem.W.Frag) (fd : FuncData) (ps : List Str) (ds : List Value) : Prop :=
 ∀ (s : Shared) (us : List Value), K.In s.heap → (us ++ ds).length = ps.length → BindsTo s fd ⟨us, []⟩ (ps.zip (us ++ ds))
theorem Binds.all {K : PySem.W.Frag} {fd : FuncData} {ps : List Str} (h : ∀ us : List Value, us.length = ps.length → bindArgs fd ⟨us, []⟩ = pure (ps.zip us)) : Binds K fd ps [] := fun s us _ hl => by
 rw [List.append_nil] at hl ⊢
 exact .of_eq (h us hl)
def Passes (CX : CXT) (X : Cx) (E : XK) : Prop := ∀ (pins : List (Addr × Obj)) (σ : St) (H : Hp) (s : Shared) (e : Value) (s' : Shared), Inv X pins σ H s → CX X.stack H s E e s' → X.xe e s'
section
variable {X : Cx} {CX : CXT} {k : Nat} {f C : Addr} {fd : FuncData} {ps : List Str} {sp : Sp} {dvs : List V} {ds : List Value} {E : XK} {x m : Str} {p pos apos : Pos} {e o : Expr} {es : List Expr} {ta : TE} {t : TA}
theorem mq1 {pins : List (Addr × Obj)} {σ : St} {H : Hp} {s : Shared} {Q : VK} {us : List Value} {vs : List V} (F : FnOk X.prog X.w X.K X.mg X.base CX k f fd ps sp) (hr : Room k X.A) (hb : Binds X.K fd ps ds) (hd : Vals dvs ds) (hx : Passes CX X E)
  (I : Inv X pins σ H s) (r : Vals vs us) (h : sp (vs ++ dvs) H Q E) : wpAny (model X.prog X.w) X.A (call (.ref f) us) (EP X pins σ Q) X.xe s := by
 have r2 : Vals (vs ++ dvs) (us ++ ds) := r.append hd
 have hl : (us ++ ds).length = ps.length := by rw [← r2.length]; exact F.len _ _ _ _ h
 refine wpAny_call (codeAny_mono (F.run X.A X.stack s H ⟨us, []⟩ (us ++ ds) (vs ++ dvs) Q E hr I.env0 (hb s us I.kIn hl) r2 h) fun r s' hq => ?_)
 cases r with
 | error e => exact hx pins σ H s e s' I hq
 | ok fl =>
  cases fl with
  | ret u => exact I.after hq
  | next => exact False.elim hq
  | brk => exact False.elim hq
  | cont => exact False.elim hq
theorem aql (F : FnOk X.prog X.w X.K X.mg X.base CX k f fd ps sp) (hr : Room k X.A) (hg : Gl X x) (hm : X.mg x = some (.ref f)) (hk : PySem.W.keepIn X.K (.ref f) = true) (hb : Binds X.K fd ps ds) (hd : Vals dvs ds) (hx : Passes CX X E)
  (ha : PA X (e :: es) t) (hdb : (x == ("__debug__" : Str)) = false := by decide) (he : starEach (e :: es) X.env = (false, eval e X.env) :: starEach es X.env := by rfl) (hpl : (backTo pos (starEach es X.env)).any (·.1) = false := by rfl) :
  PE X (.Call (.Name x p) (e :: es) [] pos) (tCall sp dvs E t) := by
 intro pins s σ H Q I h
 refine wpAny_Call_Name_kw (jqr I hg hm ?_ hdb)
 refine PySem.W.callWith_K (h₀ := X.base) I.ok.mod.kin hk (thn (ha pos pins s σ H _ I h) fun us s1 ⟨vs, H1, I1, r, q⟩ => ⟨I1.kIn, ?_⟩) he hpl
 exact mq1 F hr hb hd hx I1 r q
structure Mk (K : PySem.W.Frag) (C f : Addr) : Prop where
 makes : PySem.W.makesIn K C = true
 init : PySem.W.findIn K (.ref C) "__init__" = some (some (.ref f))
 fn : PySem.W.isFn K (.ref f) = true
 kp : PySem.W.keepIn K (.ref C) = true
end
section
variable {X : Cx} {CX : CXT} {k : Nat} {f C : Addr} {fd : FuncData} {ps ks : List Str} {sp : Sp} {E : XK} {x m : Str} {p pos apos kpos : Pos} {e o : Expr} {es : List Expr} {kws : List Keyword} {te ta : TE} {t tk : TA} {nm : Option Str}
structure KBinds (K : PySem.W.Frag) (fd : FuncData) (ps ks : List Str) (g : List Value → List Value → List Value) (gV : List V → List V → List V) : Prop where
 to : ∀ (s : Shared) (us ws : List Value), K.In s.heap → (g us ws).length = ps.length → BindsTo s fd ⟨us, ks.zip ws⟩ (ps.zip (g us ws))
 rel : ∀ {vs : List V} {us : List Value} {zs : List V} {ws : List Value}, Vals vs us → Vals zs ws → Vals (gV vs zs) (g us ws)
variable {g : List Value → List Value → List Value} {gV : List V → List V → List V}
end
structure FnScope (N P : List Str) (sc : Scope) : Prop where
 kind : sc.kind = .function
 co : sc.isCoroutine = false
 gen : sc.isGenerator = false
 nd : N.Nodup
 pre : N.take P.length = P
 par : ∀ x ∈ P, sc.names.lookup x = some .local ∨ sc.names.lookup x = some .cell
 nofree : ∀ y ∈ sc.names, y.2 ≠ .free
theorem gq6 {kindOf : Str → Option NameKind} {x : Str} : ∀ {binds : List (Str × Value)} {m : Str → Option Value}, (∀ v, (x, v) ∉ binds) → bindL kindOf binds m x = m x
 | [], _, _ => rfl
 | (n, v) :: r, m, h => by
  unfold bindL
  rw [gq6 fun w hw => h w (List.mem_cons_of_mem _ hw)]
  split
  ·have : x ≠ n := by rintro rfl; exact h v List.mem_cons_self
   simp [this]
  ·rfl
theorem hqc {kindOf : Str → Option NameKind} {x : Str} : ∀ {binds : List (Str × Value)} {m : Str → Option Value}, (∀ v, (x, v) ∉ binds) → bindC kindOf binds m x = m x
 | [], _, _ => rfl
 | (n, v) :: r, m, h => by
  unfold bindC
  rw [hqc fun w hw => h w (List.mem_cons_of_mem _ hw)]
  split
  ·rfl
  ·have : x ≠ n := by rintro rfl; exact h v List.mem_cons_self
   simp [this]
theorem hqv {kindOf : Str → Option NameKind} {x : Str} {v : Value} : ∀ {P : List Str} {vs : List Value} {i : Nat} {m : Str → Option Value}, P.Nodup → P[i]? = some x → vs[i]? = some v → kindOf x = some .local →
  bindL kindOf (P.zip vs) m x = some v
 | [], _, _, _, _, h, _, _ => by simp at h
 | _ :: _, [], _, _, _, _, h, _ => by simp at h
 | p :: P, w :: vs, 0, m, nd, h1, h2, hk => by
  simp at h1 h2; subst h1; subst h2
  show bindL kindOf ((p, w) :: P.zip vs) m p = _
  unfold bindL
  rw [gq6 fun v hv => (List.nodup_cons.mp nd).1 (List.of_mem_zip hv).1, if_pos hk]
  simp
 | p :: P, w :: vs, i + 1, m, nd, h1, h2, hk => by
  show bindL kindOf ((p, w) :: P.zip vs) m x = _
  unfold bindL
  exact hqv (i := i) (List.nodup_cons.mp nd).2 (by simpa using h1) (by simpa using h2) hk
theorem gqS {kindOf : Str → Option NameKind} {x : Str} {v : Value} : ∀ {P : List Str} {vs : List Value} {i : Nat} {m : Str → Option Value}, P.Nodup → P[i]? = some x → vs[i]? = some v → kindOf x ≠ some .local →
  bindC kindOf (P.zip vs) m x = some v
 | [], _, _, _, _, h, _, _ => by simp at h
 | _ :: _, [], _, _, _, _, h, _ => by simp at h
 | p :: P, w :: vs, 0, m, nd, h1, h2, hk => by
  simp at h1 h2; subst h1; subst h2
  show bindC kindOf ((p, w) :: P.zip vs) m p = _
  unfold bindC
  rw [hqc fun v hv => (List.nodup_cons.mp nd).1 (List.of_mem_zip hv).1, if_neg hk]
  simp
 | p :: P, w :: vs, i + 1, m, nd, h1, h2, hk => by
  show bindC kindOf ((p, w) :: P.zip vs) m x = _
  unfold bindC
  exact gqS (i := i) (List.nodup_cons.mp nd).2 (by simpa using h1) (by simpa using h2) hk
def start (N : List Str) (vs : List V) : St := vs.map some ++ List.replicate (N.length - vs.length) none
def cxOf (CX : CXT) (P : Program) (w : World) (K : PySem.W.Frag) (mg : Str → Option Value) (base : Heap) (N : List Str) (qual : Str) (scope : Scope) (f : Addr) (cd : Value) (A : Around) (outer : List Env) (s : Shared) (H : Hp) (E : XK) : Cx where
 prog := P
 w := w
 K := K
 mg := mg
 base := base
 A := A.deeper (envOfC qual scope s.heap.objs.size f cd)
 N := N
 s₀ := s
 H₀ := H
 env := envOfC qual scope s.heap.objs.size f cd
 outer := outer
 stack := envOfC qual scope s.heap.objs.size f cd :: outer
 ex := []
 calm := true
 fn := fun _ => true
 pn := []
 xe := fun e s' => wpAny (model P w) (A.deeper (envOfC qual scope s.heap.objs.size f cd)) (leaving (envOfC qual scope s.heap.objs.size f cd) e) (fun _ s'' => CX outer H s E e s'') (fun e' s'' => CX outer H s E e' s'') s'
theorem iqj {sc : Scope} {n : Nat} {x : Str} (h : sc.names.lookup x = some .cell) : ∃ c, (cellsFrom n sc.names []).lookup x = some c := by
 have q := PySem.W.cellsFrom_some sc.names n [] (.inl h)
 exact Option.isSome_iff_exists.mp q
theorem jqM {CX : CXT} {P : Program} {w : World} {K : PySem.W.Frag} {mg : Str → Option Value} {base : Heap} {N ps : List Str} {qual : Str} {scope : Scope} {f : Addr} {cd : Value} {A : Around} {outer : List Env} {s s1 : Shared} {H : Hp} {E : XK} {us : List Value} {vs : List V}
  (S : FnScope N ps scope) (hd : A.handled = none) (e0 : Env0 P w K mg base A outer s H) (hl : vs.length = ps.length) (r : Vals vs us)
  (x : InCallC s s.heap.objs.size (bindL (envOfC qual scope s.heap.objs.size f cd).kindOf (ps.zip us) fun _ => none) (cellsFrom (s.heap.objs.size + 1) scope.names []) (bindC (envOfC qual scope s.heap.objs.size f cd).kindOf (ps.zip us) fun _ => none) s1) :
  Inv (cxOf CX P w K mg base N qual scope f cd A outer s H E) [] (start N vs) H s1 := by
 have hpl : ps.length ≤ N.length := by have := congrArg List.length S.pre; rw [List.length_take] at this; omega
 obtain ⟨h1, tk, rfl, hk⟩ := x.done
 have noA : ∀ b : Addr, b ∉ (cxOf CX P w K mg base N qual scope f cd A outer s H E).ex := fun b z => absurd (show b ∈ ([] : List Addr) from z) (by simp)
 refine ⟨⟨e0.mod, S.kind, rfl, rfl, Nat.le_refl _, fun y z c h1 h2 => ?_, fun y hy => ?_, fun y c _ h => ?_, fun _ => hd, Around.frames_deeper e0.frames, .inr ⟨rfl, rfl⟩, fun b z => absurd z (noA b), e0.bs, e0.bsz, fun b _ _ => noA b, fun b z => absurd z (noA b), e0.funs, e0.frf⟩,
  rfl, e0.bare, Un.kept hk, ⟨_, x.toInCall.ns, fun i y v h1 h2 h3 => ?_⟩, fun y c h => ⟨_, x.cell y c h⟩, e0.hok.fresh (Nat.le_refl _), fun y c h => ?_, fun p hp => absurd (show p ∈ ([] : List (Addr × Obj)) from hp) (by simp), e0.hok.kept hk, ?_⟩
 ·exact name_of_addr x.apart (PySem.mem_of_lookup h1) (PySem.mem_of_lookup h2)
 ·have hy : scope.names.lookup y = some .cell ∨ scope.names.lookup y = some .free := hy
  rcases hy with hy | hy
  ·exact iqj hy
  ·exact absurd rfl (S.nofree _ (PySem.mem_of_lookup hy))
 ·exact Nat.le_of_lt (x.above y c (PySem.mem_of_lookup h))
 ·have hi : i < vs.length := by
   unfold start at h2
   by_cases hi : i < vs.length
   ·exact hi
   ·rw [List.getElem?_append_right (by simpa using hi)] at h2
    rw [List.getElem?_replicate] at h2
    split at h2 <;> cases h2
  have ha : vs[i]? = some v := by
   unfold start at h2
   rw [List.getElem?_append_left (by simpa using hi), List.getElem?_map] at h2
   cases e : vs[i]? with
   | none => rw [e] at h2; cases h2
   | some a => rw [e] at h2; cases h2; rfl
  obtain ⟨u, hu, rv⟩ := r.get ha
  have hp : ps[i]? = some y := by
   rw [← S.pre, List.getElem?_take_of_lt (by omega)]; exact h1
  have ndP : ps.Nodup := by rw [← S.pre]; exact S.nd.sublist (List.take_sublist _ _)
  refine ⟨u, rv, ?_⟩
  rcases S.par y (List.mem_of_getElem? hp) with k | k
  ·exact .inl ⟨k, hqv ndP hp hu k⟩
  ·obtain ⟨c, e⟩ := iqj (n := s.heap.objs.size + 1) k
   refine .inr ⟨.inl k, c, e, ?_⟩
   have q := x.cell y c e
   rw [gqS ndP hp hu (by show scope.names.lookup y ≠ _; rw [k]; decide)] at q
   exact q
 ·exact e0.hok.fresh (Nat.le_of_lt (x.above y c (PySem.mem_of_lookup h)))
 ·unfold start
  show _ = N.length
  rw [List.length_append, List.length_map, List.length_replicate]
  omega
theorem nq1 {CX : CXT} {P : Program} {w : World} {K : PySem.W.Frag} {mg : Str → Option Value} {base : Heap} {k : Nat} {f : Addr} {name qual : Str} {params : Arguments} {body : List Stmt} {scope : Scope} {dV kV doc pm cdv ct oc : Value} {an od : Option Addr}
  {osl : Array (Option Value)} {N ps : List Str} {sp : Sp} (lk : K.lookup f = some ⟨oc, od, .func (PySem.W.fnOf name qual params body scope dV kV doc pm an cdv ct), osl⟩) (hcd : PySem.W.codeIn K cdv qual = true) (S : FnScope N ps scope)
  (len : ∀ vs H Q E, sp vs H Q E → vs.length = ps.length)
  (hbody : ∀ (A : Around) (outer : List Env) (s : Shared) (H : Hp) (vs : List V) (Q : VK) (E : XK), Room k (A.deeper (envOfC qual scope s.heap.objs.size f cdv)) → sp vs H Q E →
   ∃ t, PSs (cxOf CX P w K mg base N qual scope f cdv A outer s H E) body t ∧ t { nx := fun _ H' => Q .non H', rt := Q } (start N vs) H) :
  FnOk P w K mg base CX (k + 1) f (PySem.W.fnOf name qual params body scope dV kV doc pm an cdv ct) ps sp := by
 refine ⟨len, fun A outer s H args us vs Q E hr e0 hb r hsp => ?_⟩
 have hl := len _ _ _ _ hsp
 have KX : K.In s.heap := e0.mod.kin.keeps fun b o e => (e0.bs b o e).1
 have lim : s.heap.NoLimit := e0.mod.nolimit.keeps fun b o e => (e0.bs b o e).1
 have hkind : ∀ y ∈ ps.zip us, scope.names.lookup y.1 = some .local ∨ (scope.names.lookup y.1 = some .cell ∧ ((cellsFrom (s.heap.objs.size + 1) scope.names []).lookup y.1).isSome = true) := fun ⟨n, v⟩ hy => by
  rcases S.par n (List.of_mem_zip hy).1 with q | q
  ·exact .inl q
  ·exact .inr ⟨q, PySem.W.cellsFrom_some _ _ _ (.inl q)⟩
 refine codeAny_call_function hr.depth (KX _ _ lk) rfl S.co S.gen rfl (PySem.W.codeRec_of KX hcd) (hb _ _ _ _ ?_)
 refine wpAny_newFunctionEnv_cells S.kind hkind fun env he s1 x => ?_
 subst he
 refine ⟨lim.keeps x.toInCall.keep, codeAny_func ?_⟩
 obtain ⟨t, ht, hq⟩ := hbody A outer s H vs Q E (hr.deeper _) hsp
 have I : Inv (cxOf CX P w K mg base N qual scope f cdv A outer s H E) [] (start N vs) H s1 := jqM S hr.hd e0 hl r x
 refine wpAny_mono (ht [] s1 (start N vs) H _ I hq) (fun fl s' hs => ?_) fun e s' hs => hs
 have fin : ∀ {σ' : St} {H' : Hp} {v : V} {u : Value}, Inv (cxOf CX P w K mg base N qual scope f cdv A outer s H E) [] σ' H' s' → RelV v u → Q v H' → CE outer P w H s Q u s' :=
  fun {σ' H' v u} J rv q => ⟨v, H', J.os, J.bare, J.base, J.hok, rv, q⟩
 cases fl with
 | ret u =>
  obtain ⟨v, σ', H', J, rv, q⟩ := hs
  exact fin J rv q
 | next =>
  obtain ⟨σ', H', J, q⟩ := hs
  exact fin (v := V.non) (u := Value.none) J rfl q
 | brk =>
  obtain ⟨_, _, _, q⟩ := hs
  exact False.elim q
 | cont =>
  obtain ⟨_, _, _, q⟩ := hs
  exact False.elim q
section
variable {X : Cx} {x : Str} {p pos : Pos} {e : Expr} {es : List Expr} {t : TA} {id T : String} {r : List V → Hp → VK → Prop}
def tCB (r : List V → Hp → VK → Prop) (t : TA) : TE := fun σ H Q => t σ H fun vs H1 => r vs H1 Q
theorem aqv (hc : CallR X (.builtin id) r) (hg : Gl X x) (hm : X.mg x = none) (hv : bootBuiltins x = some (.builtin id)) (ha : PA X (e :: es) t) (hn : x ≠ "__name__" := by decide) (hdb : (x == ("__debug__" : Str)) = false := by decide)
  (he : starEach (e :: es) X.env = (false, eval e X.env) :: starEach es X.env := by rfl) (hpl : (backTo pos (starEach es X.env)).any (·.1) = false := by rfl) : PE X (.Call (.Name x p) (e :: es) [] pos) (tCB r t) := by
 intro pins s σ H Q I h
 refine wpAny_Call_Name_kw (fqH I hg hm hv ?_ hn hdb)
 exact PyProof.Rows.callWith_builtin1 (thn (ha pos pins s σ H _ I h) fun us s1 ⟨vs, H1, I1, r1, q1⟩ => hc pins s1 σ H1 vs us Q I1 r1 q1) he hpl
theorem cqb (hc : CallR X (.type T) r) (hg : Gl X x) (hm : X.mg x = none) (hv : bootBuiltins x = some (.type T)) (ha : PA X (e :: es) t) (hn : x ≠ "__name__" := by decide) (hdb : (x == ("__debug__" : Str)) = false := by decide)
  (he : starEach (e :: es) X.env = (false, eval e X.env) :: starEach es X.env := by rfl) (hpl : (backTo pos (starEach es X.env)).any (·.1) = false := by rfl) : PE X (.Call (.Name x p) (e :: es) [] pos) (tCB r t) := by
 intro pins s σ H Q I h
 refine wpAny_Call_Name_kw (fqH I hg hm hv ?_ hn hdb)
 exact PyProof.Rows.callWith_type1 (thn (ha pos pins s σ H _ I h) fun us s1 ⟨vs, H1, I1, r1, q1⟩ => hc pins s1 σ H1 vs us Q I1 r1 q1) he hpl
end
end L2
namespace HT
open PySem PyProof.Rows
section
open PySem.SeqAt
open PySem.AutoSeq1 (wpAny_loadPart')
open PySem.MeetsSeq PySem.MeetsSeq2 PySem.MeetsSeq3
end
section
variable {prog : Program} {w : World} {A : Around} {E : Value → Shared → Prop} {s : Shared}
theorem cat_tup {t b : Addr} {vs ws : List Value} {Q : Value → Shared → Prop} (ht : IsTup s.heap t vs.toArray) (hb : IsTup s.heap b ws.toArray) (hv : vs ≠ [])
  (h1 : ws = [] → Q (.ref t) s) (h2 : ws ≠ [] → Q (.ref s.heap.objs.size) { s with heap := s.heap.push { cls := .type "tuple", data := .seq (vs ++ ws).toArray } })
  (hsz : vs.length + ws.length ≤ sizeLine) : wpAny (model prog w) A (binaryOp .Add (.ref t) (.ref b)) Q E s := by
 obtain ⟨⟨cls, dd, data, sl⟩, ho, hc, n, hd⟩ := id ht
 obtain ⟨⟨cls2, dd2, data2, sl2⟩, ho2, hc2, n2, hd2⟩ := id hb
 simp only at hc hd hc2 hd2
 subst hc hd hc2 hd2
 have e : vs.toArray ++ ws.toArray = (vs ++ ws).toArray := by simp
 by_cases hw : ws = []
 ·exact concat_meets ⟨_, ho, rfl⟩ ⟨_, ho2, rfl⟩ noFill_tuple_add seq_tuple_add PySem.F.slot_tuple_add PySem.F.entry_tuple_add (PySem.F.args_tuple_add_2 _ _)
   (tuple_addW1 t b vs.toArray ws.toArray n n2 dd dd2 sl sl2 (by simpa using hv) (by simp [hw])) ⟨ho, ho2, h1 hw⟩
 ·refine concat_meets ⟨_, ho, rfl⟩ ⟨_, ho2, rfl⟩ noFill_tuple_add seq_tuple_add PySem.F.slot_tuple_add PySem.F.entry_tuple_add (PySem.F.args_tuple_add_2 _ _)
   (tuple_addW2 t b vs.toArray ws.toArray n n2 dd dd2 sl sl2 (by simpa using hv) (by simpa using hw) (by rw [List.size_toArray, List.size_toArray]; exact hsz)) ⟨ho, ho2, ?_⟩
  rw [e]
  exact h2 hw
def sIx (n d : Nat) : Option Int → Nat
 | none => d
 | some v => if v < 0 then (v + (n : Int)).toNat else min v.toNat n
theorem sIx_none (n d : Nat) : sIx n d none = d := rfl
theorem sIx_nat (n d k : Nat) : sIx n d (some (k : Int)) = min k n := by
 show (if (k : Int) < 0 then ((k : Int) + (n : Int)).toNat else min (k : Int).toNat n) = min k n
 rw [if_neg (by omega), Int.toNat_natCast]
theorem mqA (n d : Nat) (hd : d ≤ n) (o : Option Int) : sIx n d o ≤ n := by
 cases o with
 | none => exact hd
 | some v =>
  show (if v < 0 then (v + (n : Int)).toNat else min v.toNat n) ≤ n
  by_cases hv : v < 0
  ·rw [if_pos hv]; omega
  ·rw [if_neg hv]; exact Nat.min_le_right _ _
theorem jqS (v : Int) (n d : Nat) : (if v < 0 then max (v + (n : Int)) 0 else min v (n : Int)) = ((sIx n d (some v) : Nat) : Int) := by
 show (if v < 0 then max (v + (n : Int)) 0 else min v (n : Int)) = (((if v < 0 then (v + (n : Int)).toNat else min v.toNat n) : Nat) : Int)
 by_cases hv : v < 0
 ·simp only [if_pos hv]; omega
 ·simp only [if_neg hv]; omega
theorem iqZ (lo hi : Option Int) (n : Nat) : Builtin.Slice.sliceAdjust lo hi 1 (n : Int) = (((sIx n 0 lo : Nat) : Int), ((sIx n n hi : Nat) : Int)) := by
 have h1 : ¬ ((1 : Int) < 0) := by omega
 unfold Builtin.Slice.sliceAdjust
 simp only [h1, if_false]
 refine Prod.ext ?_ ?_
 ·cases lo with
  | none => rfl
  | some v => exact jqS v n 0
 ·cases hi with
  | none => rfl
  | some v => exact jqS v n n
theorem iqX (i j : Nat) : Builtin.Slice.slicePlaces (i : Int) (j : Int) 1 = j - i := by
 unfold Builtin.Slice.slicePlaces
 have h1 : (1 : Int) > 0 := by omega
 simp only [h1, if_true, Int.ediv_one]
 split <;> omega
theorem fq1 {v : Value} {o : Option Int} {Q : Option Int → Shared → Prop} (p : IsPart v o) (h : Q o s) : wpAny (model prog w) A (Builtin.Slice.slicePartIndex v) Q E s := by
 cases p with
 | none => exact slicePart_none h
 | int i t => exact slicePart_int h
theorem dqa {sl : Addr} {vl vu : Value} {lo hi : Option Int} {n : Nat} {Q : Int × Int × Nat → Shared → Prop} (hs : s.heap.IsSliceOf sl vl vu .none) (pl : IsPart vl lo) (pu : IsPart vu hi)
  (h : Q (((sIx n 0 lo : Nat) : Int), 1, sIx n n hi - sIx n 0 lo) s) : wpAny (model prog w) A (Builtin.Slice.sliceApplied (.ref sl) (pure (n : Int))) Q E s := by
 obtain ⟨os, hos, hcs, hds⟩ := id hs
 unfold Builtin.Slice.sliceApplied Builtin.Slice.sliceFields
 refine wpAny_bind (wpAny_bind (wpAny_field hos hds (x := vl) rfl (wpAny_bind (wpAny_field hos hds (x := vu) rfl (wpAny_bind (wpAny_field hos hds (x := .none) rfl (wpAny_pure ?_)))))))
 refine wpAny_bind (slicePart_none ?_)
 show wpAny _ _ (if ((1 : Int) == 0) = true then _ else _) _ _ s
 rw [if_neg (by decide)]
 refine wpAny_bind (fq1 pl (wpAny_bind (fq1 pu (wpAny_bind (wpAny_pure ?_)))))
 show wpAny _ _ (match Builtin.Slice.sliceAdjust lo hi 1 (n : Int) with | (lo, hi) => pure (lo, (1 : Int), Builtin.Slice.slicePlaces lo hi 1)) _ _ s
 rw [iqZ lo hi n]
 show wpAny _ _ (pure (((sIx n 0 lo : Nat) : Int), (1 : Int), Builtin.Slice.slicePlaces ((sIx n 0 lo : Nat) : Int) ((sIx n n hi : Nat) : Int) 1)) _ _ s
 rw [iqX]
 exact wpAny_pure h
theorem kqH (xs : Array Value) (i k : Nat) : ((List.range k).filterMap fun (m : Nat) => xs[((i : Int) + (m : Int) * 1).toNat]?).toArray = ((xs.toList.drop i).take k).toArray := by
 have e : (fun (m : Nat) => xs[((i : Int) + (m : Int) * 1).toNat]?) = fun m => xs[i + m]? := by
  funext m
  have : ((i : Int) + (m : Int) * 1).toNat = i + m := by omega
  rw [this]
 rw [e]
 have := pick_run xs i k
 rw [List.filterMap_map] at this
 have e2 : ((fun x => xs[x]?) ∘ fun x => i + x) = fun m => xs[i + m]? := rfl
 rw [e2] at this
 rw [this]
theorem getItem_tuple_cut {t sl : Addr} {items : Array Value} {vl vu : Value} {lo hi : Option Int} {Q : Value → Shared → Prop} (ht : IsTup s.heap t items) (hs : s.heap.IsSliceOf sl vl vu .none) (pl : IsPart vl lo) (pu : IsPart vu hi)
  (hw : ¬ (sIx items.size 0 lo = 0 ∧ sIx items.size items.size hi = items.size))
  (h : Q (.ref s.heap.objs.size) { s with heap := s.heap.push { cls := .type "tuple", data := .seq ((items.toList.drop (sIx items.size 0 lo)).take (sIx items.size items.size hi - sIx items.size 0 lo)).toArray } })
  (hsz : items.size ≤ sizeLine) : wpAny (model prog w) A (getItem (.ref t) (.ref sl)) Q E s := by
 have htake : sizeOk (.seq ((items.toList.drop (sIx items.size 0 lo)).take (sIx items.size items.size hi - sIx items.size 0 lo)).toArray) := by
  show ((items.toList.drop (sIx items.size 0 lo)).take (sIx items.size items.size hi - sIx items.size 0 lo)).toArray.size ≤ sizeLine
  rw [List.size_toArray, List.length_take, List.length_drop, Array.length_toList]
  omega
 have hj : sIx items.size items.size hi ≤ items.size := mqA _ _ (Nat.le_refl _) hi
 obtain ⟨os, hos, hcs, hds⟩ := id hs
 have hTs : s.TypeIs (.ref sl) "slice" := ⟨os, hos, hcs⟩
 unfold getItem
 try with_reducible refine wpAny_holding ?_
 first | refine wpAny_bind (wpAny_pure ?_) | skip
 refine wpAny_bind (wpAny_sequenceKey ht.typeIs (by decide) ?_)
 refine wpAny_bind (wpAny_callSpecial?_slot (name := Str.ofString "__getitem__") ht.typeIs PyProof.Rows.slot_tuple_getitem
  (wpAny_call_entry PyProof.Rows.slot_tuple_getitem ht.typeIs entry_tuple_getitem ?_ (args_tuple_getitem _ _)))
 show wpAny _ _ (Builtin.Tuple.tupleItemsOf (.ref t) >>= _) _ _ s
 refine wpAny_bind (tupleItemsOf_ ht ?_)
 refine wpAny_bind (wpAny_typeOf hTs ?_)
 rw [if_pos (by decide)]
 refine wpAny_bind (dqa hs pl pu ?_)
 have hno : ¬ ((((sIx items.size 0 lo : Nat) : Int) == 0 && (1 : Int) == 1 && (sIx items.size items.size hi - sIx items.size 0 lo) == items.size) = true) := by
  intro q
  rw [Bool.and_eq_true, Bool.and_eq_true] at q
  have q1 : ((sIx items.size 0 lo : Nat) : Int) = 0 := eq_of_beq q.1.1
  have q2 : sIx items.size items.size hi - sIx items.size 0 lo = items.size := eq_of_beq q.2
  exact hw ⟨by omega, by omega⟩
 show wpAny _ _ (if (((sIx items.size 0 lo : Nat) : Int) == 0 && (1 : Int) == 1 && (sIx items.size items.size hi - sIx items.size 0 lo) == items.size) = true then _ else _) _ _ s
 rw [if_neg hno, kqH]
 first
  | exact wpAny_bind (m := Builtin.Tuple.tupleExact _) (wpAny_newObj_type (wpAny_pure ⟨_, rfl, wpAny_pure h⟩) htake)
  | exact wpAny_bind (m := Builtin.Tuple.tupleExact _) (wpAny_newObj_type (wpAny_bind (wpAny_pure (wpAny_pure ⟨_, rfl, wpAny_pure h⟩))) htake)
  | exact wpAny_bind (wpAny_bind (m := Builtin.Tuple.tupleExact _) (wpAny_newObj_type (wpAny_pure (wpAny_pure ⟨_, rfl, wpAny_pure h⟩)) htake))
  | exact wpAny_bind (wpAny_bind (m := Builtin.Tuple.tupleExact _) (wpAny_newObj_type (wpAny_pure ⟨_, rfl, wpAny_pure h⟩) htake))
end
end HT
namespace L2
open PySem PySem.Spec PyProof.Rows
abbrev TO := St → Hp → (Option Int → Hp → Prop) → Prop
def PO (X : Cx) (e : Option Expr) (t : TO) : Prop :=
 ∀ (pins : List (Addr × Obj)) (s : Shared) (σ : St) (H : Hp) (Q : Option Int → Hp → Prop), Inv X pins σ H s → t σ H Q →
  wpAny (model X.prog X.w) X.A (evalPart e X.env) (fun u s' => ∃ o H', Inv X pins σ H' s' ∧ IsPart u o ∧ Q o H') X.xe s
def tNoPart : TO := fun _ H Q => Q none H
def tPart (t : TE) : TO := fun σ H Q => t σ H fun x H1 => ∃ i, x = .int i ∧ Q (some i) H1
section
variable {X : Cx} {e : Expr} {te : TE} {lo hi : Option Expr} {tl th : TO} {pos p2 : Pos}
theorem dqY : PO X none tNoPart := by
 intro pins s σ H Q I h
 rw [evalPart_none]
 exact wpAny_pure ⟨none, H, I, .none, h⟩
theorem dq3 (h : PE X e te) : PO X (some e) (tPart te) := by
 intro pins s σ H Q I hw
 rw [evalPart_some]
 refine thn (h pins s σ H _ I hw) fun u s1 W' => ?_
 obtain ⟨x, H1, I1, r1, q1⟩ := W'
 obtain ⟨i, rfl, q⟩ := q1
 obtain ⟨t, rfl⟩ := r1
 exact ⟨some i, H1, I1, .int i t, q⟩
def SlR (X : Cx) (r : V → Option Int → Option Int → Hp → VK → Prop) : Prop :=
 ∀ (pins : List (Addr × Obj)) (s : Shared) (σ : St) (H : Hp) (x : V) (v vl vu : Value) (lo hi : Option Int) (sl : Addr) (Q : VK), Inv X pins σ H s → RelV x v → s.heap.IsSliceOf sl vl vu .none → IsPart vl lo → IsPart vu hi → r x lo hi H Q →
  ∃ T id, typeLookup (.type T) "__getitem__" = pure (some (.builtin id)) ∧ s.TypeIs v T ∧ wpAny (model X.prog X.w) X.A (getItem v (.ref sl)) (EP X pins σ Q) X.xe s
theorem SlR.or {r r' : V → Option Int → Option Int → Hp → VK → Prop} (h : SlR X r) (h' : SlR X r') : SlR X (fun x lo hi H Q => r x lo hi H Q ∨ r' x lo hi H Q) := by
 intro pins s σ H x v vl vu lo hi sl Q I rx hs pl pu q
 rcases q with q | q
 ·exact h pins s σ H x v vl vu lo hi sl Q I rx hs pl pu q
 ·exact h' pins s σ H x v vl vu lo hi sl Q I rx hs pl pu q
def tSl (r : V → Option Int → Option Int → Hp → VK → Prop) (te : TE) (tl th : TO) : TE := fun σ H Q => te σ H fun x H1 => tl σ H1 fun l H2 => th σ H2 fun u H3 => r x l u H3 Q
theorem cq1 {r : V → Option Int → Option Int → Hp → VK → Prop} (hr : SlR X r) (he : PE X e te) (hl : PO X lo tl) (hu : PO X hi th) : PE X (.Subscript e (.Slice lo hi none p2) pos) (tSl r te tl th) := by
 intro pins s σ H Q I h
 refine Subscript_ (thn (he pins s σ H _ I h) fun v s1 W' => ?_)
 obtain ⟨x, H1, I1, r1, q1⟩ := W'
 refine wpAny_Slice (thn (hl pins s1 σ H1 _ I1 q1) fun vl s2 ⟨l, H2, I2, pl, q2⟩ => thn (hu pins s2 σ H2 _ I2 q2) fun vu s3 W' => ?_)
 obtain ⟨u, H3, I3, pu, q3⟩ := W'
 rw [evalPart_none]
 refine wpAny_pure ?_
 have I4 : Inv X pins σ H3 { s3 with heap := s3.heap.push { cls := .type "slice", data := .fields #[vl, vu, .none] } } := I3.kept (t' := s3.toks) fun b ob q => Heap.get?_push_of_some _ q
 obtain ⟨T, id, hT, ht, hg⟩ := hr pins { s3 with heap := s3.heap.push { cls := .type "slice", data := .fields #[vl, vu, .none] } } σ H3 x v vl vu l u s3.heap.objs.size Q I4 r1 (Heap.IsSliceOf.new ..) pl pu q3
 show wpAny (model X.prog X.w) X.A (subscriptTail e (.Slice lo hi none p2) v (.ref s3.heap.objs.size)) (EP X pins σ Q) X.xe { s3 with heap := s3.heap.push { cls := .type "slice", data := .fields #[vl, vu, .none] } }
 exact tail_any (ops := [.ref s3.heap.objs.size, v]) ht hT hg (by with_unfolding_all rfl)
def cutV (xs : List V) (lo hi : Option Int) : List V := (xs.drop (HT.sIx xs.length 0 lo)).take (HT.sIx xs.length xs.length hi - HT.sIx xs.length 0 lo)
theorem fqm (xs : List V) (lo hi : Option Int) : (cutV xs lo hi).length ≤ xs.length := by
 unfold cutV
 rw [List.length_take, List.length_drop]
 omega
def rSlT (K : PySem.W.Frag) : V → Option Int → Option Int → Hp → VK → Prop := fun x lo hi H Q => ∃ a xs, x = .ref a ∧ SqT K H a xs ∧
 ¬ (HT.sIx xs.length 0 lo = 0 ∧ HT.sIx xs.length xs.length hi = xs.length) ∧ ∀ p, H p = none → Q (.ref p) (upd H p (.tup (cutV xs lo hi)))
theorem mq6 : SlR X (rSlT X.K) := by
 intro pins s σ H x v vl vu lo hi sl Q I rx hs pl pu h
 obtain ⟨a, xs, rfl, hx, hw, q⟩ := h
 cases rx
 obtain ⟨its, r, ht, hz⟩ := I.tuple hx
 have hlen : its.toArray.size = xs.length := by rw [List.size_toArray]; exact r.length.symm
 refine ⟨"tuple", _, PyProof.Rows.slot_tuple_getitem.lookup, ht.typeIs, ?_⟩
 refine HT.getItem_tuple_cut ht hs pl pu (by rw [hlen]; exact hw) ?_ (by rw [hlen]; exact hz)
 rw [hlen]
 refine ⟨.ref s.heap.objs.size, _, I.laid (t' := s.toks) (o := .tup (cutV xs lo hi)) (fun b ob q => Heap.get?_push_of_some _ q) (Nat.le_refl _) ?_, rfl, q _ (I.hok.fresh (Nat.le_refl _))⟩
 exact ⟨Nat.le_trans (fqm xs lo hi) hz, _, (r.drop (HT.sIx xs.length 0 lo)).take (HT.sIx xs.length xs.length hi - HT.sIx xs.length 0 lo), IsTup.new _ _⟩
def rCatT (K : PySem.W.Frag) : R2 := fun x y H Q => ∃ a b xs ys, x = .ref a ∧ y = .ref b ∧ SqT K H a xs ∧ SqT K H b ys ∧ xs ≠ [] ∧ xs.length + ys.length ≤ sizeLine ∧
 (ys = [] → Q (.ref a) H) ∧ (ys ≠ [] → ∀ p, H p = none → Q (.ref p) (upd H p (.tup (xs ++ ys))))
theorem Vals.nil_iff {xs : List V} {us : List Value} (r : Vals xs us) : us = [] ↔ xs = [] := by
 cases r with
 | nil => simp
 | cons _ _ => simp
theorem lql : OpR X (binaryOp .Add) (rCatT X.K) := by
 intro pins s σ H x y v u Q I rx ry h
 obtain ⟨a, b, xs, ys, rfl, rfl, ha, hb, hx, hz, q1, q2⟩ := h
 cases rx
 cases ry
 obtain ⟨its, r1, p1, _⟩ := I.tuple ha
 obtain ⟨its2, r2, p2, _⟩ := I.tuple hb
 refine HT.cat_tup p1 p2 (fun z => hx (r1.nil_iff.mp z)) (fun z => ⟨.ref a, H, I, rfl, q1 (r2.nil_iff.mp z)⟩) (fun z => ?_) (by rw [← r1.length, ← r2.length]; exact hz)
 refine ⟨.ref s.heap.objs.size, _, I.laid (t' := s.toks) (o := .tup (xs ++ ys)) (fun b ob q => Heap.get?_push_of_some _ q) (Nat.le_refl _) ?_, rfl, q2 (fun w => z (r2.nil_iff.mpr w)) _ (I.hok.fresh (Nat.le_refl _))⟩
 exact ⟨by rw [List.length_append]; exact hz, _, r1.append r2, IsTup.new _ _⟩
end
def ixN (n : Nat) (i : Int) : Option Nat := if 0 ≤ i then (if i < n then some i.toNat else none) else if -(n : Int) ≤ i then some (i + n).toNat else none
def atI {α : Type} (xs : List α) (i : Int) : Option α := (ixN xs.length i).bind fun j => xs[j]?
theorem mqb {n : Nat} {i : Int} {j : Nat} (h : ixN n i = some j) : seqIndex? i n = some j ∧ j < n ∧ -(n : Int) ≤ i ∧ i < n := by
 unfold ixN at h
 by_cases h0 : 0 ≤ i
 ·rw [if_pos h0] at h
  by_cases h1 : i < n
  ·rw [if_pos h1] at h
   have e : i.toNat = j := Option.some.inj h
   exact ⟨by rw [seqIndex_of h0 h1, e], by omega, by omega, h1⟩
  ·rw [if_neg h1] at h; cases h
 ·rw [if_neg h0] at h
  by_cases h1 : -(n : Int) ≤ i
  ·rw [if_pos h1] at h
   have e : (i + n).toNat = j := Option.some.inj h
   exact ⟨by rw [seqIndex_neg (by omega) h1, e], by omega, h1, by omega⟩
  ·rw [if_neg h1] at h; cases h
theorem hqD {α : Type} {xs : List α} {i : Int} {v : α} (h : atI xs i = some v) : ∃ j, seqIndex? i xs.length = some j ∧ xs[j]? = some v ∧ j < xs.length ∧ -(xs.length : Int) ≤ i ∧ i < xs.length := by
 unfold atI at h
 cases e : ixN xs.length i with
 | none => rw [e] at h; cases h
 | some j =>
  rw [e] at h
  obtain ⟨h1, h2, h3, h4⟩ := mqb e
  exact ⟨j, h1, h, h2, h3, h4⟩
theorem aqh {α : Type} {xs : List α} {j : Nat} {v : α} (h : xs[j]? = some v) : atI xs (j : Int) = some v := by
 have hj : j < xs.length := (List.getElem?_eq_some_iff.mp h).1
 have e : ixN xs.length (j : Int) = some j := by
  unfold ixN
  rw [if_pos (by omega), if_pos (by omega)]; simp
 unfold atI; rw [e]; exact h
def PlainIx (b : Expr) : Prop := ∀ o i, subscripted b false o i = operate [o, i] (getItem o i)
def IxR (X : Cx) (r : R2) : Prop :=
 ∀ (value slice : Expr) (pins : List (Addr × Obj)) (s : Shared) (σ : St) (H : Hp) (x y : V) (v u : Value) (Q : VK), Inv X pins σ H s → RelV x v → RelV y u → r x y H Q →
  subscripted slice false v u = operate [v, u] (getItem v u) → wpAny (model X.prog X.w) X.A (subscriptTail value slice v u) (EP X pins σ Q) X.xe s
def MtR (X : Cx) (id : String) (r : V → List V → Hp → VK → Prop) : Prop :=
 ∀ (pins : List (Addr × Obj)) (s : Shared) (σ : St) (H : Hp) (x : V) (xs : List V) (v : Value) (us : List Value) (Q : VK), Inv X pins σ H s → RelV x v → Vals xs us → r x xs H Q →
  wpAny (model X.prog X.w) X.A (call (.builtin id) (v :: us)) (EP X pins σ Q) X.xe s
section
variable {X : Cx} {a b : Expr} {ta tb : TE} {pos : Pos}
theorem IxR.or {r r' : R2} (h : IxR X r) (h' : IxR X r') : IxR X (fun x y H Q => r x y H Q ∨ r' x y H Q) := by
 intro value slice pins s σ H x y v u Q I rx ry q hs
 rcases q with q | q
 ·exact h value slice pins s σ H x y v u Q I rx ry q hs
 ·exact h' value slice pins s σ H x y v u Q I rx ry q hs
theorem aqn {r : R2} (hr : IxR X r) (ha : PE X a ta) (hb : PE X b tb) (hs : PlainIx b) : PE X (.Subscript a b pos) (tOp r ta tb) := by
 intro pins s σ H Q I h
 exact Subscript_ (binT ha hb I h fun v u s2 x y H2 I2 rx ry q => hr a b pins s2 σ H2 x y v u Q I2 rx ry q (hs _ _))
def rIxL (K : PySem.W.Frag) : R2 := fun x y H Q => ∃ p xs i v, x = .ref p ∧ y = .int i ∧ SqL K H p xs ∧ atI xs i = some v ∧ Q v H
def rIxT (K : PySem.W.Frag) : R2 := fun x y H Q => ∃ p xs i v, x = .ref p ∧ y = .int i ∧ SqT K H p xs ∧ atI xs i = some v ∧ Q v H
def rIxS : R2 := fun x y H Q => ∃ z i c, x = .str z ∧ y = .int i ∧ z.length ≤ sizeLine ∧ atI z.cps.toList i = some c ∧ Q (.str ⟨#[c]⟩) H
theorem lq7 : IxR X (rIxL X.K) := by
 intro value slice pins s σ H x y v u Q I rx ry h hs
 obtain ⟨p, xs, i, z, rfl, rfl, hq, he, q⟩ := h
 cases rx
 obtain ⟨t, rfl⟩ := ry
 obtain ⟨its, r, pl, hz⟩ := I.list hq
 obtain ⟨j, h1, h2, h3, h4, h5⟩ := hqD he
 obtain ⟨w, ew, rw'⟩ := r.get h2
 have hl := r.length
 have hn := line63
 have fin : EP X pins σ Q w s := ⟨z, H, I, rw', q⟩
 by_cases h0 : 0 ≤ i
 ·have hj : i.toNat = j := by
   rw [seqIndex_of h0 h5] at h1
   exact Option.some.inj h1
  exact item_listR pl.isList h0 (by omega) (by rw [hj]; simpa using ew) fin hs
 ·have hj : (i + (its.toArray.size : Int)).toNat = j := by
   rw [seqIndex_neg (by omega) h4] at h1
   rw [List.size_toArray, ← hl]
   exact Option.some.inj h1
  exact subscriptTail_builtinR (x := w) pl.isList.typeIs slot_list_getitem.lookup
   (wpAny_getItem_list_neg (Q := fun r s' => r = w ∧ EP X pins σ Q r s') pl.isList (by omega) (by rw [List.size_toArray] <;> omega) (by omega) (by rw [hj]; simpa using ew) ⟨rfl, fin⟩) hs
theorem nqy : IxR X (rIxT X.K) := by
 intro value slice pins s σ H x y v u Q I rx ry h hs
 obtain ⟨p, xs, i, z, rfl, rfl, hq, he, q⟩ := h
 cases rx
 obtain ⟨t, rfl⟩ := ry
 obtain ⟨its, r, pl, hz⟩ := I.tuple hq
 obtain ⟨j, h1, h2, h3, h4, h5⟩ := hqD he
 obtain ⟨w, ew, rw'⟩ := r.get h2
 have hl := r.length
 have hn := line63
 have fin : EP X pins σ Q w s := ⟨z, H, I, rw', q⟩
 exact subscriptTail_builtinR (x := w) pl.typeIs slot_tuple_getitem.lookup
  (getItem_tuple (j := j) (Q := fun r s' => r = w ∧ EP X pins σ Q r s') pl (by omega) (by omega) (by rw [List.size_toArray, ← hl]; exact h1) (by simpa using ew) ⟨rfl, fin⟩) hs
theorem nqn : IxR X rIxS := by
 intro value slice pins s σ H x y v u Q I rx ry h hs
 obtain ⟨z, i, c, rfl, rfl, hz, he, q⟩ := h
 obtain ⟨t, rfl⟩ := rx
 obtain ⟨t', rfl⟩ := ry
 obtain ⟨j, h1, h2, h3, h4, h5⟩ := hqD he
 have hl : z.cps.toList.length = z.length := by simp [Str.length]
 rw [hl] at h1 h4 h5
 have hn := line63
 exact tail_any (typeIs_str s z t) slot_str_getitem.lookup (getItem_str (c := c) (by
  have e1 : decide (i < -(2 ^ 63 : Int)) = false := decide_eq_false (by omega)
  have e2 : decide (i ≥ 2 ^ 63) = false := decide_eq_false (by omega)
  rw [e1, e2, Bool.or_false]) (by rw [h1]; simpa using h2) ⟨.str ⟨#[c]⟩, H, I.tok _, ⟨_, rfl⟩, q⟩) hs
def rIx (K : PySem.W.Frag) : R2 := fun x y H Q => rIxL K x y H Q ∨ rIxT K x y H Q ∨ rIxS x y H Q
theorem nqF : IxR X (rIx X.K) := lq7.or (nqy.or nqn)
def rSetL : V → V → V → Hp → (Hp → Prop) → Prop := fun o i v H Q => ∃ p xs k j, o = .ref p ∧ i = .int k ∧ H p = some (.lst xs) ∧ ixN xs.length k = some j ∧ Q (upd H p (.lst (xs.set j v)))
theorem hqj (lo hi : Option Int) (n : Nat) : (sliceBounds lo hi none n).1 = ((HT.sIx n 0 lo : Nat) : Int) ∧ (sliceBounds lo hi none n).2.1 = ((HT.sIx n n hi : Nat) : Int) ∧ (sliceBounds lo hi none n).2.2 = 1 := by
 refine ⟨?_, ?_, rfl⟩
 ·cases lo with
  | none => simp [sliceBounds, HT.sIx]
  | some i =>
   simp only [sliceBounds, HT.sIx, Option.getD_none, show (1 : Int) > 0 by decide, if_true]
   by_cases h : i < 0
   ·simp only [h, if_true] <;> omega
   ·simp only [h, if_false] <;> omega
 ·cases hi with
  | none => simp [sliceBounds, HT.sIx]
  | some i =>
   simp only [sliceBounds, HT.sIx, Option.getD_none, show (1 : Int) > 0 by decide, if_true]
   by_cases h : i < 0
   ·simp only [h, if_true] <;> omega
   ·simp only [h, if_false] <;> omega
theorem gqu (its : List Value) (lo hi : Option Int) : slicePick its.toArray lo hi none = ((its.drop (HT.sIx its.length 0 lo)).take (HT.sIx its.length its.length hi - HT.sIx its.length 0 lo)).toArray := by
 obtain ⟨h1, h2, h3⟩ := hqj lo hi its.toArray.size
 unfold slicePick
 rw [h1, h2, h3]
 simp only [sliceRange_one, pick_run, List.size_toArray] <;> rfl
def rSlL (K : PySem.W.Frag) : V → Option Int → Option Int → Hp → VK → Prop := fun x lo hi H Q => ∃ a xs, x = .ref a ∧ SqL K H a xs ∧ ∀ p, H p = none → Q (.ref p) (upd H p (.lst (cutV xs lo hi)))
theorem jqj : SlR X (rSlL X.K) := by
 intro pins s σ H x v vl vu lo hi sl Q I rx hs pl pu h
 obtain ⟨a, xs, rfl, hx, q⟩ := h
 cases rx
 obtain ⟨its, r, ht, hz⟩ := I.list hx
 have hlen := r.length
 refine ⟨"list", _, slot_list_getitem.lookup, ht.isList.typeIs, ?_⟩
 refine wpAny_getItem_list_slice ht.isList hs pl pu .none (by simp) ?_ (by rw [List.size_toArray] <;> omega)
 rw [gqu, ← hlen]
 refine ⟨.ref s.heap.objs.size, _, I.laid (t' := s.toks) (o := .lst (cutV xs lo hi)) (fun b ob q => Heap.get?_push_of_some _ q) (Nat.le_refl _) ?_, rfl, q _ (I.hok.fresh (Nat.le_refl _))⟩
 exact ⟨Nat.le_trans (fqm xs lo hi) hz, _, 0, (r.drop (HT.sIx xs.length 0 lo)).take (HT.sIx xs.length xs.length hi - HT.sIx xs.length 0 lo), Heap.get?_push_size _ rfl⟩
def flatV : V → Bool
 | .non => true
 | .bl _ => true
 | .int _ => true
 | .str _ => true
 | _ => false
def eqV : V → V → Bool
 | .non, .non => true
 | .bl a, .bl b => a == b
 | .bl a, .int b => (if a then 1 else 0) == b
 | .int a, .bl b => a == (if b then 1 else 0)
 | .int a, .int b => a == b
 | .str a, .str b => a == b
 | _, _ => false
theorem mqO {A : Around} {s : Shared} {y x : V} {u v : Value} (ry : RelV y u) (rx : RelV x v) (fy : flatV y = true) (fx : flatV x = true) : SeqAt.EqAt A s u v (eqV y x) := by
 cases y with
 | non =>
  cases ry
  cases x with
  | non => cases rx; exact SeqAt.EqAt.same _
  | bl b => cases rx; exact SeqAt.EqAt.none_bool b
  | int b => obtain ⟨t, rfl⟩ := rx; exact SeqAt.EqAt.none_int b t
  | str b => obtain ⟨t, rfl⟩ := rx; exact SeqAt.EqAt.none_str b t
  | _ => exact absurd (show false = true from fx) Bool.false_ne_true
 | bl a =>
  cases ry
  cases x with
  | non => cases rx; exact SeqAt.EqAt.bool_none a
  | bl b => cases rx; exact SeqAt.EqAt.bool_bool a b
  | int b => obtain ⟨t, rfl⟩ := rx; exact SeqAt.EqAt.bool_int a b t
  | str b => obtain ⟨t, rfl⟩ := rx; exact SeqAt.EqAt.bool_str a b t
  | _ => exact absurd (show false = true from fx) Bool.false_ne_true
 | int a =>
  obtain ⟨t', rfl⟩ := ry
  cases x with
  | non => cases rx; exact SeqAt.EqAt.int_none a t'
  | bl b => cases rx; exact SeqAt.EqAt.int_bool a t' b
  | int b => obtain ⟨t, rfl⟩ := rx; exact SeqAt.EqAt.int_int a t' b t
  | str b => obtain ⟨t, rfl⟩ := rx; exact SeqAt.EqAt.int_str a t' b t
  | _ => exact absurd (show false = true from fx) Bool.false_ne_true
 | str a =>
  obtain ⟨t', rfl⟩ := ry
  cases x with
  | non => cases rx; exact SeqAt.EqAt.str_none a t'
  | bl b => cases rx; exact SeqAt.EqAt.str_bool a t' b
  | int b => obtain ⟨t, rfl⟩ := rx; exact SeqAt.EqAt.str_int a t' b t
  | str b => obtain ⟨t, rfl⟩ := rx; exact SeqAt.EqAt.str_str a t' b t
  | _ => exact absurd (show false = true from fx) Bool.false_ne_true
 | _ => exact absurd (show false = true from fy) Bool.false_ne_true
def eqU (x : V) (u : Value) : Bool := match u with
 | .none => eqV .non x
 | .bool b => eqV (.bl b) x
 | .int i _ => eqV (.int i) x
 | .str z _ => eqV (.str z) x
 | _ => false
theorem lqc {x y : V} {u : Value} (r : RelV y u) (f : flatV y = true) : eqU x u = eqV y x := by
 cases y with
 | non => cases r; rfl
 | bl b => cases r; rfl
 | int i => obtain ⟨t, rfl⟩ := r; rfl
 | str z => obtain ⟨t, rfl⟩ := r; rfl
 | _ => exact absurd (show false = true from f) Bool.false_ne_true
theorem hqy {x : V} : ∀ {xs : List V} {us : List Value}, Vals xs us → xs.all flatV = true → us.any (eqU x) = xs.any fun y => eqV y x
 | _, _, .nil, _ => rfl
 | y :: xs, u :: us, .cons r t, f => by
  rw [List.all_cons, Bool.and_eq_true] at f
  rw [List.any_cons, List.any_cons, lqc r f.1, hqy t f.2]
theorem gqk {A : Around} {s : Shared} {x : V} {v : Value} (rx : RelV x v) (fx : flatV x = true) : ∀ {xs : List V} {us : List Value}, Vals xs us → xs.all flatV = true → ∀ u ∈ us, SeqAt.EqAt A s u v (eqU x u)
 | _, _, .nil, _ => fun u hu => by cases hu
 | y :: xs, u :: us, .cons r t, f => fun u' hu => by
  rw [List.all_cons, Bool.and_eq_true] at f
  rcases List.mem_cons.mp hu with rfl | hu
  ·rw [lqc r f.1]; exact mqO r rx f.1 fx
  ·exact gqk rx fx t f.2 u' hu
def inV (x : V) (xs : List V) : Bool := xs.any fun y => eqV y x
def rIn (K : PySem.W.Frag) (neg : Bool) : R2 := fun x y H Q => ∃ p xs, y = .ref p ∧ (SqL K H p xs ∨ SqT K H p xs) ∧ flatV x = true ∧ xs.all flatV = true ∧ Q (.bl (if neg then !inV x xs else inV x xs)) H
theorem jqE : OpR X (compareOp .In) (rIn X.K false) := by
 intro pins s σ H x y v u Q I rx ry h
 obtain ⟨p, xs, rfl, hq, fx, fs, q⟩ := h
 cases ry
 rcases hq with hq | hq
 ·obtain ⟨its, r, pl, hz⟩ := I.list hq
  refine SeqAt.in_listAt (eqU x) pl.isList (fun w hw => gqk rx fx r fs w (by simpa using hw)) ⟨.bl _, H, I, rfl, ?_⟩
  rw [show its.toArray.any (eqU x) = its.any (eqU x) by simp, hqy r fs]
  exact q
 ·obtain ⟨its, r, pl, hz⟩ := I.tuple hq
  refine SeqAt.in_tupleAt (eqU x) pl (fun w hw => gqk rx fx r fs w (by simpa using hw)) ⟨.bl _, H, I, rfl, ?_⟩
  rw [show its.toArray.any (eqU x) = its.any (eqU x) by simp, hqy r fs]
  exact q
theorem gqY : CallR X (.builtin "len") (fun xs H Q => ∃ p ys, xs = [.ref p] ∧ (SqL X.K H p ys ∨ SqT X.K H p ys) ∧ Q (.int ys.length) H) := by
 intro pins s σ H xs us Q I r h
 obtain ⟨p, ys, rfl, hq, q⟩ := h
 obtain ⟨u, rfl, rx⟩ := vals1 r
 cases rx
 have hn := line63
 rcases hq with hq | hq
 ·obtain ⟨its, r', pl, hz⟩ := I.list hq
  have hlen := r'.length
  exact Calls.call_len_list pl.isList (by simp only [List.size_toArray] <;> omega) ⟨.int ys.length, H, I.tok _, ⟨s.toks + 1, by rw [List.size_toArray, hlen]⟩, q⟩
 ·obtain ⟨its, r', pl, hz⟩ := I.tuple hq
  have hlen := r'.length
  exact len_tuple pl (by simp only [List.size_toArray] <;> omega) ⟨.int ys.length, H, I.tok _, ⟨s.toks + 1, by rw [List.size_toArray, hlen]⟩, q⟩
theorem hqf : CallR X (.builtin "len") (fun xs H Q => ∃ z, xs = [.str z] ∧ z.length ≤ sizeLine ∧ Q (.int z.length) H) := by
 intro pins s σ H xs us Q I r h
 obtain ⟨z, rfl, hz, q⟩ := h
 obtain ⟨u, rfl, t, rfl⟩ := vals1 r
 have hn := line63
 exact len_str (by omega) ⟨.int z.length, H, I.tok _, ⟨_, rfl⟩, q⟩
theorem hqp : CallR X (.type "list") (fun xs H Q => ∃ p ys, xs = [.ref p] ∧ (SqL X.K H p ys ∨ SqT X.K H p ys) ∧ ∀ l, H l = none → Q (.ref l) (upd H l (.lst ys))) := by
 intro pins s σ H xs us Q I r h
 obtain ⟨p, ys, rfl, hq, q⟩ := h
 obtain ⟨u, rfl, rx⟩ := vals1 r
 cases rx
 have fin : ∀ (its : List Value), Vals ys its → ys.length ≤ sizeLine → ∀ (h' : Heap) (c' : Nat), (∀ b o', s.heap.get? b = some o' → h'.get? b = some o') →
   h'.get? s.heap.objs.size = some { cls := .type "list", dict := none, data := .seq its.toArray c', slots := #[] } → EP X pins σ Q (.ref s.heap.objs.size) { s with heap := h' } := fun its r' hz h' c' kp e =>
  ⟨.ref s.heap.objs.size, _, I.laid (t' := s.toks) kp (Nat.le_refl _) (show ObjOk X.prog X.w _ h' _ (.lst ys) from ⟨hz, its, c', r', e⟩), rfl, q _ (I.hok.fresh (Nat.le_refl _))⟩
 rcases hq with hq | hq
 ·obtain ⟨its, r', pl, hz⟩ := I.list hq
  have hlen := r'.length
  obtain ⟨o, ho, hc, n, hd⟩ := pl.isList
  exact call_list_seq p (.inl rfl) ho hc hd (fun h' c' kp e => fin its r' hz h' c' kp e) (by simp only [List.size_toArray] <;> omega)
 ·obtain ⟨its, r', pl, hz⟩ := I.tuple hq
  have hlen := r'.length
  obtain ⟨o, ho, hc, n, hd⟩ := pl
  exact call_list_seq p (.inr rfl) ho hc hd (fun h' c' kp e => fin its r' hz h' c' kp e) (by simp only [List.size_toArray] <;> omega)
theorem eqn : CallR X (.type "tuple") (fun xs H Q => ∃ p ys, xs = [.ref p] ∧ ((SqL X.K H p ys ∧ ∀ l, H l = none → Q (.ref l) (upd H l (.tup ys))) ∨ (SqT X.K H p ys ∧ Q (.ref p) H))) := by
 intro pins s σ H xs us Q I r h
 obtain ⟨p, ys, rfl, h⟩ := h
 obtain ⟨u, rfl, rx⟩ := vals1 r
 cases rx
 rcases h with ⟨hq, q⟩ | ⟨hq, q⟩
 ·obtain ⟨its, r', pl, hz⟩ := I.list hq
  have hlen := r'.length
  refine call_tuple_list pl.isList (fun h' kp => ?_) (by simp only [List.size_toArray] <;> omega)
  have I1 : Inv X pins σ H { s with heap := h' } := I.kept (t' := s.toks) kp
  have I2 : Inv X pins σ (upd H h'.objs.size (.tup ys)) { s with heap := h'.push { cls := .type "tuple", data := .seq its.toArray } } :=
   I1.laid (t' := s.toks) (fun b o e => Heap.get?_push_of_some _ e) (Nat.le_refl _) (show ObjOk X.prog X.w _ _ _ (.tup ys) from ⟨hz, its, r', IsTup.new _ _⟩)
  exact ⟨.ref h'.objs.size, _, I2, rfl, q _ (I1.hok.fresh (Nat.le_refl _))⟩
 ·obtain ⟨its, r', pl, hz⟩ := I.tuple hq
  exact call_tuple_same pl ⟨.ref p, H, I, rfl, q⟩
def tyV (K : PySem.W.Frag) (T : String) (x : V) (H : Hp) : Prop := match x with
 | .str _ => T = "str"
 | .int _ => T = "int"
 | .ref p => (T = "list" ∧ ∃ xs, SqL K H p xs) ∨ (T = "tuple" ∧ ∃ o, K.lookup p = some o ∧ o.cls = .type "tuple" ∧ o.dict = none) ∨
   (T = "dict" ∧ ((∃ kvs, H p = some (.dK kvs)) ∨ ∃ kvs, H p = some (.dT kvs))) ∨ (T = "set" ∧ ∃ S n, H p = some (.set S n))
 | _ => False
theorem nql {pins : List (Addr × Obj)} {σ : St} {H : Hp} {s : Shared} {T : String} {x : V} {v : Value} (I : Inv X pins σ H s) (r : RelV x v) (ty : tyV X.K T x H) :
  s.TypeIs v T ∧ ∀ a, v = .ref a → ∃ ob, s.heap.get? a = some ob ∧ ob.dict = none := by
 cases x with
 | str z =>
  obtain ⟨t, rfl⟩ := r
  cases (show T = "str" from ty)
  exact ⟨typeIs_str s z t, fun _ e => nomatch e⟩
 | int i =>
  obtain ⟨t, rfl⟩ := r
  cases (show T = "int" from ty)
  exact ⟨typeIs_int s i t, fun _ e => nomatch e⟩
 | ref p =>
  cases r
  rcases ty with ⟨rfl, xs, hq⟩ | ⟨rfl, o, hk, hc, hd⟩ | ⟨rfl, hk⟩ | ⟨rfl, S, n, hk⟩
  ·obtain ⟨its, _, pl, _⟩ := I.list hq
   refine ⟨pl.isList.typeIs, fun a e => ?_⟩
   cases e
   obtain ⟨o, n, e, c, hd, _⟩ := pl
   exact ⟨o, e, hd⟩
  ·refine ⟨⟨o, I.kIn p o hk, hc⟩, fun a e => ?_⟩
   cases e
   exact ⟨o, I.kIn _ o hk, hd⟩
  ·have z : ∃ o, s.heap.get? p = some o ∧ o.ExactDict := by
    rcases hk with ⟨kvs, hk⟩ | ⟨kvs, hk⟩
    ·obtain ⟨_, _, _, _, o, _, _, e, ex, _⟩ := I.hok p _ hk
     exact ⟨o, e, ex⟩
    ·obtain ⟨_, _, _, _, o, _, _, e, ex, _⟩ := I.hok p _ hk
     exact ⟨o, e, ex⟩
   obtain ⟨o, e, ex⟩ := z
   refine ⟨⟨o, e, ex.1⟩, fun a e2 => ?_⟩
   cases e2
   exact ⟨o, e, ex.2.1⟩
  ·obtain ⟨o, _, _, _, e, ex, _⟩ := I.hok p _ hk
   refine ⟨⟨o, e, ex.1⟩, fun a e2 => ?_⟩
   cases e2
   exact ⟨o, e, ex.2.1⟩
 | _ => exact False.elim ty
def tBM0 (K : PySem.W.Frag) (T : String) (r : V → List V → Hp → VK → Prop) (to : TE) : TE := fun σ H Q => to σ H fun x H1 => tyV K T x H1 ∧ r x [] H1 Q
def tBM (K : PySem.W.Frag) (T : String) (r : V → List V → Hp → VK → Prop) (to : TE) (t : TA) : TE := fun σ H Q => to σ H fun x H1 => tyV K T x H1 ∧ t σ H1 fun xs H2 => r x xs H2 Q
variable {o e : Expr} {es : List Expr} {to : TE} {t : TA} {name : Str} {apos cpos : Pos} {T id : String} {r : V → List V → Hp → VK → Prop}
theorem oqe (pa : PlainAttrs T) (slot : Slot T name id) (hty : typeOf (.builtin id) = pure (.type "method_descriptor")) (hm : MtR X id r) (ho : PE X o to) (ha : PA X (e :: es) t)
  (hbase : attributeBase o name X.env (eval o X.env) = eval o X.env := by rfl)
  (hfew : ((backTo cpos (starEach (e :: es) X.env)).all (fun x => !x.1) && (backToKw cpos (keywordEach [] X.env)).all (fun x => x.1.isSome)
   && decide ((e :: es).length + ([] : List Keyword).length + (if ([] : List Keyword).isEmpty then 0 else 1) < 30)) = true := by rfl)
  (hline : (apos.endLine == cpos.line) = true := by rfl) (hs : starEach (e :: es) X.env = (false, eval e X.env) :: starEach es X.env := by rfl) (hplain : (backTo cpos (starEach es X.env)).any (·.1) = false := by rfl) :
  PE X (.Call (.Attribute o name apos) (e :: es) [] cpos) (tBM X.K T r to t) := by
 intro pins s σ H Q I h
 refine wpAny_Call_method_late hbase hfew hline rfl (thn (ho pins s σ H _ I h) fun v s1 W' => ?_)
 obtain ⟨x, H1, I1, r1, ty, q1⟩ := W'
 obtain ⟨h1, h2⟩ := nql I1 r1 ty
 refine ⟨T, id, pa, slot, hty, h1, h2, ?_⟩
 have hA := ha cpos pins s1 σ H1 _ I1 q1
 rw [hs] at hA ⊢
 refine Calls.callWith_builtin (by show (false || (backTo cpos (starEach es X.env)).any (·.1)) = false; rw [hplain] <;> rfl) (Calls.evalArgs_plain ?_)
 exact thn hA fun us s2 ⟨vs, H2, I2, r2, q2⟩ => hm pins s2 σ H2 x vs v us Q I2 r1 r2 q2
end
def MtM (X : Cx) (id : String) (r : V → List V → Hp → VK → Prop) : Prop :=
 ∀ (pins : List (Addr × Obj)) (s : Shared) (σ : St) (H : Hp) (x : V) (xs : List V) (v : Value) (us : List Value) (Q : VK), Inv X pins σ H s → RelV x v → Vals xs us → r x xs H Q →
  wpAny (model X.prog X.w) X.A (call (.builtin id) (v :: us)) (EP X pins σ Q) X.xe s
theorem Vals.one : ∀ {x : V} {us : List Value}, Vals [x] us → ∃ u, us = [u] ∧ RelV x u
 | _, _, .cons r .nil => ⟨_, rfl, r⟩
theorem Vals.rep {xs : List V} {us : List Value} (h : Vals xs us) : ∀ k : Nat, Vals (List.replicate k xs).flatten (List.replicate k us).flatten
 | 0 => .nil
 | k + 1 => by
  rw [List.replicate_succ, List.replicate_succ, List.flatten_cons, List.flatten_cons]
  exact Vals.append h (Vals.rep h k)
theorem fqi (its : List Value) : ∀ (k : Nat) (acc : List Value),
  List.foldl (fun x1 x2 => x1 ++ x2) acc.toArray (List.replicate k its.toArray) = (acc ++ (List.replicate k its).flatten).toArray
 | 0, acc => by simp
 | k + 1, acc => by
  have e : acc.toArray ++ its.toArray = (acc ++ its).toArray := by simp
  have e2 : (acc ++ its) ++ (List.replicate k its).flatten = acc ++ (List.replicate (k + 1) its).flatten := by
   rw [List.replicate_succ, List.flatten_cons, List.append_assoc]
  rw [← e2, ← fqi its k (acc ++ its), ← e, List.replicate_succ, List.foldl_cons]
section
variable {X : Cx} {pins : List (Addr × Obj)} {σ : St} {H : Hp} {s : Shared} {l b : Addr} {xs ys zs : List V}
theorem Inv.lset {its its' : List Value} {n : Nat} {f : Array Value → Array Value} {t' : Nat} (I : Inv X pins σ H s) (hH : H l = some (.lst xs))
  (e : s.heap.get? l = some { cls := .type "list", data := .seq its.toArray n }) (hf : f its.toArray = its'.toArray) (hv : Vals ys its') (hz : ys.length ≤ sizeLine) :
  Inv X pins σ (upd H l (.lst ys)) { s with heap := s.heap.update l (Obj.mapSeq f), toks := t' } := by
 have q := PySem.IsL.update e f
 rw [hf] at q
 refine I.write (x := l) (e := l) (by rw [hH]; exact trivial) (.inl rfl) (fun b' u hb hu => (Heap.get?_update_other s.heap (Obj.mapSeq f) (Ne.symm hb)).trans hu) ⟨_, q⟩ ?_
 exact ⟨hz, its', _, hv, q⟩
theorem Inv.lnew {its : List Value} {t' : Nat} (I : Inv X pins σ H s) (hv : Vals ys its) (hz : ys.length ≤ sizeLine) :
  Inv X pins σ (upd H s.heap.objs.size (.lst ys)) { s with heap := s.heap.push { cls := .type "list", data := .seq its.toArray }, toks := t' } :=
 I.laid (fun _ _ q => Heap.get?_push_of_some _ q) (Nat.le_refl _) ⟨hz, its, 0, hv, Heap.get?_push_size _ rfl⟩
theorem Inv.fresh (I : Inv X pins σ H s) : H s.heap.objs.size = none := I.hok.fresh (Nat.le_refl _)
theorem Inv.lstM (I : Inv X pins σ H s) (hH : H l = some (.lst xs)) : xs.length ≤ sizeLine ∧ ∃ (its : List Value) (n : Nat), Vals xs its ∧ xs.length = its.length ∧ s.heap.get? l = some { cls := .type "list", data := .seq its.toArray n } := by
 obtain ⟨z, its, n, r, e⟩ := I.hok l _ hH
 exact ⟨z, its, n, r, r.length, e⟩
theorem notLongL {n : Nat} (h : n ≤ sizeLine) : Builtin.List.listTooLong n = false := by
 unfold Builtin.List.listTooLong
 exact decide_eq_false (by omega)
end
section
variable {X : Cx}
def rAppend : V → List V → Hp → VK → Prop := fun x vs H Q => ∃ l xs y, x = .ref l ∧ vs = [y] ∧ H l = some (.lst xs) ∧ xs.length < sizeLine ∧ Q .non (upd H l (.lst (xs ++ [y])))
theorem cqc : MtM X "list.append" rAppend := by
 intro pins s σ H x vs v us Q I rx rv h
 obtain ⟨l, xs, y, rfl, rfl, hH, hz, q⟩ := h
 cases rx
 obtain ⟨u, rfl, ru⟩ := rv.one
 obtain ⟨z, its, n, r, hl, e⟩ := I.lstM hH
 refine call_meets F.slot_list_append ⟨_, e, rfl⟩ F.entry_list_append (F.args_list_append_2 _ _) (PySem.list_append l its.toArray n u (by rw [List.size_toArray]; omega)) ⟨e, ?_⟩
 refine ⟨.non, _, I.lset (its' := its ++ [u]) hH e (by simp) (r.append (.cons ru .nil)) ?_, rfl, q⟩
 rw [List.length_append, List.length_singleton]
 omega
def rExtend : V → List V → Hp → VK → Prop := fun x vs H Q => ∃ l b xs zs, x = .ref l ∧ vs = [.ref b] ∧ H l = some (.lst xs) ∧ H b = some (.lst zs) ∧ xs.length + zs.length ≤ sizeLine ∧ Q .non (upd H l (.lst (xs ++ zs)))
theorem mqN : MtM X "list.extend" rExtend := by
 intro pins s σ H x vs v us Q I rx rv h
 obtain ⟨l, b, xs, zs, rfl, rfl, hH, hB, hz, q⟩ := h
 cases rx
 obtain ⟨u, rfl, ru⟩ := rv.one
 cases ru
 obtain ⟨z, its, n, r, hl, e⟩ := I.lstM hH
 obtain ⟨z2, its2, n2, r2, hl2, e2⟩ := I.lstM hB
 have hsz : its.toArray.size + its2.toArray.size ≤ sizeLine := by rw [List.size_toArray, List.size_toArray]; omega
 have hlong : ¬ (!its.toArray.isEmpty && Builtin.List.listTooLong (its.toArray.size + its2.toArray.size)) = true := by
  rw [notLongL hsz, Bool.and_false]
  exact Bool.false_ne_true
 refine call_meets F.slot_list_extend ⟨_, e, rfl⟩ F.entry_list_extend (F.args_list_extend_2 _ _)
  (AutoSeq1.list_extend_list_list_0 l its.toArray n b its2.toArray n2 hlong (by rw [List.size_toArray]; omega) (by omega)) ⟨e, e2, ?_⟩
 refine ⟨.non, _, I.lset (its' := its ++ its2) hH e (by simp) (r.append r2) ?_, rfl, q⟩
 rw [List.length_append]
 omega
def rPop : V → List V → Hp → VK → Prop := fun x vs H Q => ∃ l xs y, x = .ref l ∧ vs = [] ∧ H l = some (.lst xs) ∧ xs[xs.length - 1]? = some y ∧ Q y (upd H l (.lst xs.dropLast))
def rPopAt : V → List V → Hp → VK → Prop := fun x vs H Q => ∃ l xs i k y, x = .ref l ∧ vs = [.int i] ∧ H l = some (.lst xs) ∧ -(2 ^ 63) ≤ i ∧ i < 2 ^ 63 ∧ seqIndex? i xs.length = some k ∧ xs[k]? = some y ∧ Q y (upd H l (.lst (xs.eraseIdx k)))
def rReverse : V → List V → Hp → VK → Prop := fun x vs H Q => ∃ l xs, x = .ref l ∧ vs = [] ∧ H l = some (.lst xs) ∧ Q .non (upd H l (.lst xs.reverse))
def rCat : R2 := fun x y H Q => ∃ l b xs zs, x = .ref l ∧ y = .ref b ∧ H l = some (.lst xs) ∧ H b = some (.lst zs) ∧ xs.length + zs.length ≤ sizeLine ∧ ∀ p, H p = none → Q (.ref p) (upd H p (.lst (xs ++ zs)))
theorem mqZ : OpR X (binaryOp .Add) rCat := by
 intro pins s σ H x y v u Q I rx ry h
 obtain ⟨l, b, xs, zs, rfl, rfl, hH, hB, hz, q⟩ := h
 cases rx
 cases ry
 obtain ⟨z, its, n, r, hl, e⟩ := I.lstM hH
 obtain ⟨z2, its2, n2, r2, hl2, e2⟩ := I.lstM hB
 refine PySem.P.add_list e e2 ?_ (by rw [List.size_toArray, List.size_toArray]; omega)
 have ea : its.toArray ++ its2.toArray = (its ++ its2).toArray := by simp
 rw [ea]
 exact ⟨.ref _, _, I.lnew (t' := s.toks) (r.append r2) (by rw [List.length_append]; omega), rfl, q _ I.fresh⟩
theorem jqK {α : Type} (xs : List α) (k : Nat) : (List.replicate k xs).flatten.length = k * xs.length := by
 induction k with
 | zero => simp
 | succ k ih => rw [List.replicate_succ, List.flatten_cons, List.length_append, ih, Nat.succ_mul, Nat.add_comm]
end
section
variable {prog : Program} {w : World} {A : Around} {E : Value → Shared → Prop} {s : Shared}
set_option maxRecDepth 100000 in
end
section
variable {X : Cx}
end
end L2
namespace Att
open PySem PySem.W PySem.Calls PyProof.Rows
theorem fqo {P : Params} {h : Heap} : ∀ (ns : List Int) (vs : List Value), WellAll P h vs (ns.map WData.int) → IntsAre vs ns := by
 intro ns
 induction ns with
 | nil =>
  intro vs w
  rw [List.map_nil] at w
  cases w
  exact .nil
 | cons n ns ih =>
  intro vs w
  rw [List.map_cons] at w
  cases w with
  | cons a b =>
   cases a
   exact .cons _ _ (ih _ b)
theorem iq5 {l : OpenLaw} {n : Nat} (hn : l.most = some n) {P : Params} {h : Heap} {args : List WData} {vals : List Value}
  (hpre : l.row.toRowW.claim.pre args = true) (hwl : WellAll P h vals args) :
  ∃ a vs ns, vals = [Value.ref a] ∧ args = [WData.list (ns.map WData.int)] ∧ h.get? a = some { cls := .type "list", data := .seq vs.toArray } ∧ IntsAre vs ns ∧ ns.length ≤ n := by
 have hsh : WShape.hasAll [] args [.list .int] = true := (pre_splitW hpre).1
 have hc : l.pre.holds [] { args := args } = true := (pre_splitW hpre).2
 obtain ⟨d, r, rfl, h1, h2⟩ := hasAllW_cons hsh
 obtain rfl := hasAllW_nil h2
 obtain ⟨xs, rfl, h3⟩ := hasW_list h1
 obtain ⟨ns, rfl⟩ := items_int h3
 have hlen : ns.length ≤ n := by
  unfold OpenLaw.pre at hc
  have h4 : (WTm.not (.lt (.lit (.int (n : Int))) (.len (.arg 0)))).holds [] { args := [.list (ns.map .int)] } = true := by
   have h4 := (holds_andW hc).1
   rw [hn] at h4
   exact h4
  have h5 := condW_of h4 (w_not (w_lt w_lit (w_len_list (w_arg rfl))))
  rw [List.length_map] at h5
  refine Nat.le_of_not_lt fun q => ?_
  have q' : (n : Int) < ((ns.length : Nat) : Int) := by omega
  first
   | (rw [decide_eq_true q'] at h5; exact absurd h5 (by decide))
   | (simp at h5; omega)
 cases hwl with
 | cons w1 w2 =>
  cases w2
  cases w1 with
  | list ho hall => exact ⟨_, _, ns, rfl, rfl, ho, fqo ns _ hall, hlen⟩
theorem jqY (l : OpenLaw) (args : List WData) : l.row.toRowW.claim.post args (.bool true) args = true :=
 postW_of (r := l.row.toRowW) (X := (true == true))
  (show WShape.has [] (.bool true) .bool = true by first | rfl | decide | simp [WShape.has, WShape.arms, WShape.armsAll])
  (show (WTm.eq .res (.lit (.bool true))).value [] { args := args, res := some (.bool true), after := args } = some (.bool (true == true)) from w_eq_bool (w_res rfl) w_lit) rfl
theorem attach_call {l : OpenLaw} {n : Nat} {q : Program} {loose : List Str} {XP : (Str → Option Value) → Heap → Prop} {YP : World → Heap → Prop} {d : DefRec}
  (hn : l.most = some n) (hdf : d.params.defaults = [])
  (call : ∀ (w : World) (s₀ s₁ : Shared) (mg mb : Str → Option Value) (fa : Addr) (o : Obj) (pm cd doc : Value) (a : Addr) (vs : List Value) (ns : List Int),
   Ground q loose [] XP w s₀ mg mb s₁.heap → YP w s₁.heap →
   s₁.heap.get? fa = some o → o.data = .func (docDef d.name d.params d.body d.scope pm cd doc) → s₁.heap.CodeRec cd d.name → mg d.name = some (.ref fa) →
   s₁.heap.get? a = some { cls := .type "list", data := .seq vs.toArray } → IntsAre vs ns → ns.length ≤ n → s₁.gens = #[] →
   codeAny (model l.prog w) callerA (.call (.ref fa) ⟨[.ref a], []⟩) (fun r s' => r = .ok (.ret (.bool true)) ∧ OldK s₁.heap s'.heap ∧ s'.os = s₁.os ∧ AllBare s'.gens) s₁) :
  WalkO q loose XP YP l.row.toRowW d [] (fun f vs => PySem.call f vs) := by
 intro w s₀ s₁ mg mb G Y fa o pm cd doc dV kV ho hd hcd hD hmg hg args vals as hpre hlay hrd hwl hlo
 obtain rfl : dV = .none := Dflts.none hD hdf
 obtain rfl : kV = .none := Dflts.noKw hD
 obtain ⟨a, vs, ns, rfl, rfl, hobj, hints, hlen⟩ := iq5 hn hpre hwl
 refine enter_call (codeAny_mono (call w s₀ s₁ mg mb fa o pm cd doc a vs ns G Y ho (fd_plain hd) hcd hmg hobj hints hlen hg) fun r s' hq => ?_)
 obtain ⟨rfl, h2, h3, h4⟩ := hq
 exact ⟨.inl ⟨.bool true, .bool true, [], rfl, fun _ => rfl, .bool true, jqY l _, fun _ => ⟨List.Pairwise.nil, fun _ hm => (nomatch hm)⟩⟩, h2, h3, h4⟩
section
variable {prog : Program} {w : World} {A : Around} {E : Value → Shared → Prop} {s : Shared} {K : Frag}
def ledger (h : Heap) (L d : Addr) : List (Addr × Obj) := (List.range h.objs.size).filterMap fun a => if a = L ∨ a = d then none else (h.get? a).map fun o => (a, o)
end
end Att
namespace L2
open PySem PySem.Spec PyProof.Rows
theorem hqm : ∀ {vs : List Value} {ns : List Int}, IntsAre vs ns → Vals (ns.map V.int) vs
 | _, _, .nil => .nil
 | _, _, .cons n t h => .cons ⟨t, rfl⟩ (hqm h)
def Only (H : Hp) : Prop := ∀ b, H b = none ∨ ∃ o xs, H b = some (.frz o (.lst xs))
theorem kqg {P : Program} {w : World} {K : PySem.W.Frag} {mg mb : Str → Option Value} {CX : CXT} {k : Nat} {fa a : Addr} {fd : FuncData} {x : Str} {sp : Sp} {s₁ : Shared} {vs : List Value} {ns : List Int}
  (KX : K.In s₁.heap) (hns : s₁.heap.Ns mainGlobals mg) (hb : s₁.heap.Ns builtinsNs mb) (hbb : ∀ x : Str, x ≠ "__name__" → mb x = bootBuiltins x) (hlim : s₁.heap.NoLimit) (hg : s₁.gens = #[])
  (ha : s₁.heap.get? a = some { cls := .type "list", data := .seq vs.toArray }) (hi : IntsAre vs ns) (hl : ns.length ≤ sizeLine) (hr : Room k callerA)
  (F : ∀ base : Heap, K.In base → base.Ns mainGlobals mg → FnOk P w K mg base CX k fa fd [x] sp) (hbind : ∀ (s : Shared) (u : Value), BindsTo s fd ⟨[u], []⟩ [(x, u)])
  (hsp : ∀ H : Hp, Only H → SqL K H a (ns.map V.int) → sp [.ref a] H (fun v _ => v = .bl true) fun _ _ _ => False)
  (hCX : ∀ H e s', CX [] H s₁ (fun _ _ _ => False) e s' → False) :
  codeAny (model P w) callerA (.call (.ref fa) ⟨[.ref a], []⟩) (fun r s' => r = .ok (.ret (.bool true)) ∧ OldK s₁.heap s'.heap ∧ s'.os = s₁.os ∧ AllBare s'.gens) s₁ := by
 have rv := hqm hi
 have lenV := hi.length
 have core : ∀ H : Hp, Only H → SqL K H a (ns.map V.int) → HOk P w H s₁.heap → (∀ b, H b ≠ none → b = a) → (H a ≠ none → K.lookup a = none) →
   codeAny (model P w) callerA (.call (.ref fa) ⟨[.ref a], []⟩) (fun r s' => r = .ok (.ret (.bool true)) ∧ OldK s₁.heap s'.heap ∧ s'.os = s₁.os ∧ AllBare s'.gens) s₁ := by
  intro H hO hS hok hA hK
  have base_of : ∀ {b : Addr} {o : Obj}, s₁.heap.get? b = some o → H b = none → (hidT s₁.heap H).get? b = some o := fun e n => kqq e n
  have noA : ∀ {b : Addr} {o : Obj} {es : Array DictEntry} {ep : Nat}, s₁.heap.get? b = some o → o.data = .dict es ep → H b = none := fun {b o es ep} e d => by
   cases q : H b with
   | none => rfl
   | some u =>
    have e' : b = a := hA b (by rw [q]; simp)
    subst e'
    rw [ha] at e; cases e
    have d' : Data.seq vs.toArray _ = Data.dict es ep := d
    cases d'
  have nsK : ∀ {b : Addr} {m : Str → Option Value}, s₁.heap.Ns b m → (hidT s₁.heap H).Ns b m := fun {b m} ⟨o, es, ep, e, d, r⟩ => ⟨o, es, ep, base_of e (noA e d), d, r⟩
  have hKb : K.In (hidT s₁.heap H) := fun b o e => base_of (KX b o e) (by
   cases q : H b with
   | none => rfl
   | some u =>
    have e' : b = a := hA b (by rw [q]; simp)
    subst e'
    rw [hK (by rw [q]; simp)] at e; cases e)
  have hM : Mod K mg (hidT s₁.heap H) := ⟨hKb, nsK hns, ⟨mb, nsK hb, hbb⟩, let ⟨mc, h1, h2⟩ := hlim; ⟨mc, nsK h1, h2⟩⟩
  have e0 : Env0 P w K mg (hidT s₁.heap H) callerA [] s₁ H := ⟨rfl, hM, fun b o e => lq6 e, Nat.le_of_eq (jq6 _ _), trivial, fun b hb => absurd (show b ∈ ([] : List Addr) from hb) (by simp), hok, .of_eq hg⟩
  refine codeAny_mono ((F _ hKb (nsK hns)).run callerA [] s₁ H ⟨[.ref a], []⟩ [.ref a] [.ref a] _ _ hr e0 (hbind s₁ (.ref a)) (.cons rfl .nil) (hsp H hO hS)) fun r s' h => ?_
  cases r with
  | error e => exact (hCX H e s' h).elim
  | ok fl =>
   cases fl with
   | next => exact False.elim h
   | brk => exact False.elim h
   | cont => exact False.elim h
   | ret u =>
    obtain ⟨v, H', os, bare, un, hok', r', q⟩ := h
    have q' : v = .bl true := q
    subst q'
    obtain rfl : u = Value.bool true := r'
    refine ⟨rfl, OldK.of_keep fun b o e => ?_, os, bare⟩
    cases q : H b with
    | none => exact un.keep b o e q (by intro z; exact absurd (show b ∈ ([] : List Addr) from z) (by simp)) (by simp)
    | some u =>
     rcases hO b with z | ⟨ob, xs, z⟩
     ·rw [q] at z; cases z
     ·have z2 := un.frzs b ob _ z
      obtain ⟨e1, _⟩ := hok b _ z
      obtain ⟨e2, _⟩ := hok' b _ z2
      rw [e] at e1; cases e1
      exact e2
 cases hk : K.lookup a with
 | some o =>
  have e := KX a o hk
  rw [ha] at e
  cases e
  refine core (fun _ => none) (fun _ => .inl rfl) (.inr ⟨_, vs.toArray, _, hk, rfl, rfl, rfl, by rw [List.size_toArray, lenV]; exact hl, by simpa using rv⟩) (fun b u z => by have z' : (none : Option HO) = some u := z; cases z') (fun b z => absurd rfl z) fun z => absurd rfl z
 | none =>
  refine core (fun b => if b = a then some (.frz { cls := .type "list", data := .seq vs.toArray } (.lst (ns.map V.int))) else none) (fun b => ?_) (.inl (.inr ⟨{ cls := .type "list", data := .seq vs.toArray }, if_pos rfl⟩)) (fun b u z => ?_) (fun b z => ?_) fun _ => hk
  ·by_cases hb : b = a
   ·exact .inr ⟨_, _, if_pos hb⟩
   ·exact .inl (if_neg hb)
  ·by_cases hb : b = a
   ·have z' := (if_pos hb).symm.trans z
    cases z'
    subst hb
    exact ⟨ha, by rw [List.length_map]; exact hl, vs, _, rv, ha⟩
   ·have z' := (if_neg hb).symm.trans z
    cases z'
  ·by_cases hb : b = a
   ·exact hb
   ·exact absurd (if_neg hb) z
abbrev KOf {K : PySem.W.Frag} {h : Heap} (_ : K.In h) : PySem.W.Frag := K
theorem lqG {l : PySem.W.OpenLaw} {n k : Nat} {q : Program} {loose : List Str} {XP : (Str → Option Value) → Heap → Prop} {YP : World → Heap → Prop} {d : DefRec} {K : Params → PySem.W.Frag} {CX : World → CXT} {sp : World → Sp} {x : Str}
  (hn : l.most = some n) (hn2 : n ≤ sizeLine) (hdf : d.params.defaults = []) (hr : Room k callerA)
  (hY : ∀ (w : World) (h : Heap), YP w h → (K w.params).In h)
  (F : ∀ (w : World) (mg : Str → Option Value) (fa : Addr) (h : Heap), (K w.params).In h → h.Ns mainGlobals mg → mg d.name = some (.ref fa) →
   ∃ fd : FuncData, (∀ (s : Shared) (u : Value), BindsTo s fd ⟨[u], []⟩ [(x, u)]) ∧
    ∀ base : Heap, (K w.params).In base → base.Ns mainGlobals mg → FnOk l.prog w (K w.params) mg base (CX w) k fa fd [x] (sp w))
  (hsp : ∀ (w : World) (H : Hp) (a : Addr) (ns : List Int), ns.length ≤ n → Only H → SqL (K w.params) H a (ns.map V.int) → sp w [.ref a] H (fun v _ => v = .bl true) fun _ _ _ => False)
  (hCX : ∀ (w : World) (H : Hp) (s : Shared) (e : Value) (s' : Shared), CX w [] H s (fun _ _ _ => False) e s' → False) :
  PySem.W.WalkO q loose XP YP l.row.toRowW d [] (fun f vs => PySem.call f vs) := by
 refine Att.attach_call hn hdf fun w s₀ s₁ mg mb fa o pm cd doc a vs ns G Y ho hd hcd hmg hobj hints hlen hg => ?_
 have KX := hY w _ Y
 obtain ⟨fd, hb, hF⟩ := F w mg fa _ KX G.T.g hmg
 exact kqg KX G.T.g G.T.b G.T.builtins G.T.nolimit hg hobj hints (Nat.le_trans hlen hn2) hr hF hb (fun H hO hS => hsp w H a ns hlen hO hS) fun H e s' => hCX w H s₁ e s'
def defArgs (s : Stmt) : Arguments := match s with
 | .FunctionDef _ a _ _ _ _ _ _ _ _ => a
 | _ => { posonlyargs := [], args := [], vararg := none, kwonlyargs := [], kw_defaults := [], kwarg := none, defaults := [] }
def defBody (s : Stmt) : List Stmt := match s with
 | .FunctionDef _ _ b _ _ _ _ _ _ _ => b
 | _ => []
def defScope (s : Stmt) : Scope := match s with
 | .FunctionDef _ _ _ _ _ _ sc _ _ _ => sc
 | _ => { kind := .function, names := [], isGenerator := false, isCoroutine := false }
abbrev CX0 : CXT := fun _ _ _ _ _ _ => False
abbrev E0 : XK := fun _ _ _ => False
theorem pass0 {X : Cx} : Passes CX0 X E0 := fun _ _ _ _ _ _ _ h => h.elim
structure Fun (K : PySem.W.Frag) (x qual : Str) (st : Stmt) (f : Addr) (fd : FuncData) : Prop where
 ex : ∃ (oc : Value) (od : Option Addr) (kV doc pm : Value) (an : Option Addr) (cdv ct : Value) (osl : Array (Option Value)),
  fd = PySem.W.fnOf x qual (defArgs st) (defBody st) (defScope st) .none kV doc pm an cdv ct ∧ K.lookup f = some ⟨oc, od, .func fd, osl⟩ ∧ PySem.W.codeIn K cdv qual = true
 kp : PySem.W.keepIn K (.ref f) = true
section
variable {P : Program} {w : World} {K : PySem.W.Frag} {mg : Str → Option Value} {base : Heap}
theorem Fun.ok {x qual : Str} {st : Stmt} {f : Addr} {fd : FuncData} {N ps : List Str} {k : Nat} {sp : Sp} (F : Fun K x qual st f fd) (S : FnScope N ps (defScope st)) (len : ∀ vs H Q E, sp vs H Q E → vs.length = ps.length)
  (hbody : ∀ (cdv : Value) (A : Around) (outer : List Env) (s : Shared) (H : Hp) (vs : List V) (Q : VK) (E : XK), Room k (A.deeper (envOfC qual (defScope st) s.heap.objs.size f cdv)) → sp vs H Q E →
   ∃ t, PSs (cxOf CX0 P w K mg base N qual (defScope st) f cdv A outer s H E).nox (defBody st) t ∧ t { nx := fun _ H' => Q .non H', rt := Q } (start N vs) H) : FnOk P w K mg base CX0 (k + 1) f fd ps sp := by
 obtain ⟨oc, od, kV, doc, pm, an, cdv, ct, osl, rfl, lk, hcd⟩ := F.ex
 refine nq1 lk hcd S len fun A outer s H vs Q E hr hsp => ?_
 obtain ⟨t, h, q⟩ := hbody cdv A outer s H vs Q E hr hsp
 exact ⟨t, h.nox, q⟩
theorem Fun.binds {x qual : Str} {st : Stmt} {f : Addr} {fd : FuncData} {ps : List Str} (F : Fun K x qual st f fd)
  (h : ∀ (kV doc pm : Value) (an : Option Addr) (cdv ct : Value) (us : List Value), us.length = ps.length → bindArgs (PySem.W.fnOf x qual (defArgs st) (defBody st) (defScope st) .none kV doc pm an cdv ct) ⟨us, []⟩ = pure (ps.zip us)) : Binds K fd ps [] := by
 obtain ⟨oc, od, kV, doc, pm, an, cdv, ct, osl, rfl, lk, hcd⟩ := F.ex
 exact .all (h kV doc pm an cdv ct)
theorem aqD {x qual : Str} {st : Stmt} {f : Addr} {oc : Value} {od an : Option Addr} {osl : Array (Option Value)} {kV doc pm cdv ct : Value} (l : K.lookup f = some ⟨oc, od, .func (PySem.W.fnOf x qual (defArgs st) (defBody st) (defScope st) .none kV doc pm an cdv ct), osl⟩)
  (c : PySem.W.codeIn K cdv qual = true) (k : PySem.W.keepIn K (.ref f) = true) : Fun K x qual st f (PySem.W.fnOf x qual (defArgs st) (defBody st) (defScope st) .none kV doc pm an cdv ct) := ⟨⟨oc, od, kV, doc, pm, an, cdv, ct, osl, rfl, l, c⟩, k⟩
end
section
variable {X : Cx}
theorem pv (i : Nat) {x : Str} {pos : Pos} (hN : X.N[i]? = some x := by rfl) (hv : Vis X.env.scope x := by first | exact Or.inl rfl | exact Or.inr (Or.inl rfl) | exact Or.inr (Or.inr rfl)) (hd : (x == ("__debug__" : Str)) = false := by decide)
  (hcd : (x == ("__classdict__" : Str)) = false := by decide) : PE X (.Name x pos) (tVar i) := mq2 hN hv hd hcd
end
theorem ite2 {c A B : Prop} [Decidable c] (h1 : c → A) (h2 : ¬ c → B) : if c then A else B := by
 by_cases h : c
 ·rw [if_pos h]
  exact h1 h
 ·rw [if_neg h]
  exact h2 h
def Same (H H' : Hp) : Prop := ∀ b o, H b = some o → H' b = some o
theorem Same.refl (H : Hp) : Same H H := fun _ _ h => h
theorem Same.trans {H H1 H2 : Hp} (a : Same H H1) (b : Same H1 H2) : Same H H2 := fun c o h => b c o (a c o h)
theorem Same.seq {K : PySem.W.Frag} {H H' : Hp} {a : Addr} {xs : List V} (e : Same H H') (h : SqL K H a xs) : SqL K H' a xs := by
 rcases h with (h | ⟨o, h⟩) | h
 ·exact .inl (.inl (e _ _ h))
 ·exact .inl (.inr ⟨o, e _ _ h⟩)
 ·exact .inr h
end L2
set_option maxHeartbeats 4000000
namespace L2
open PySem PySem.Spec PyProof.Rows
def Its (z : Str) : It := ⟨fun i _ => i < z.length, fun i H x H' => H' = H ∧ ∃ c, z.cps.toList[i]? = some c ∧ x = .str ⟨#[c]⟩, fun i _ => z.length ≤ i⟩
theorem jql {z : Str} {i : Nat} (h : i < z.length) : ∃ c, z.cps[i]? = some c ∧ z.cps.toList[i]? = some c := by
 have h' : i < z.cps.size := h
 exact ⟨z.cps[i], by simp [h'], by simp [h']⟩
theorem iqx {z : Str} {i : Nat} (h : z.length ≤ i) : z.cps[i]? = none := by
 have h' : z.cps.size ≤ i := h
 simp [h']
theorem jqN {P : Program} {w : World} {K : PySem.W.Frag} {tg : Expr} (it : Addr) (z : Str) (t : Tok) : Turn P w K tg (Its z) [it] it (fun i h => h.IsStrIter it "str_ascii_iterator" z t i) where
 mem := by simp
 obj := fun i h st b hb => by
  have e : b = it := by simpa using hb
  subst e
  obtain ⟨o, e, c, d⟩ := st
  exact ⟨o, e, fun v z => by rw [d] at z; cases z⟩
 keep := fun i h h' st k => by
  obtain ⟨o, e, r⟩ := st
  exact ⟨o, k it (by simp) o e, r⟩
 item := by
  intro X hP hw hK hc i pins s σ H E I hf st hg
  subst hP hw hK
  obtain ⟨c, h1, h2⟩ := jql (z := z) (i := i) hg
  obtain ⟨f0, f1, f2, f3, f4, f5⟩ := hf it (by simp)
  refine wpAny_pyNext_ascii_item st h1 fun h' st' sb => ?_
  have I1 : Inv X pins σ H { s with heap := h', toks := s.toks + 1 } := I.turned (t' := s.toks + 1) (fun b o hb e => (sb.2 b hb).trans e) f0 f1 f3 f4 f5
  obtain ⟨o, e, cl, d⟩ := id st'
  exact ⟨_, rfl, jqZ (s := { s with heap := h', toks := s.toks + 1 }) e cl d (by decide) ⟨.str ⟨#[c]⟩, H, I1, ⟨_, rfl⟩, ⟨rfl, c, h2, rfl⟩, st', fun b hb => (hf b hb).1⟩⟩
 done := by
  intro X hP hw hK hc i pins s σ H E I hf st hg
  subst hP hw hK
  obtain ⟨f0, f1, f2, f3, f4, f5⟩ := hf it (by simp)
  exact wpAny_pyNext_ascii_end (I.ok.hd hc) st (iqx hg) fun h' eb => ⟨rfl, I.turned (t' := s.toks) (fun b o hb e => eb b o hb e) f0 f1 f3 f4 f5⟩
 self := fun _ _ _ _ _ st h => wpAny_pyIter_striter_ascii st h
theorem jqX {P : Program} {w : World} {K : PySem.W.Frag} {tg : Expr} (it : Addr) (z : Str) (t : Tok) : Turn P w K tg (Its z) [it] it (fun i h => h.IsStrIter it "str_iterator" z t i) where
 mem := by simp
 obj := fun i h st b hb => by
  have e : b = it := by simpa using hb
  subst e
  obtain ⟨o, e, c, d⟩ := st
  exact ⟨o, e, fun v z => by rw [d] at z; cases z⟩
 keep := fun i h h' st k => by
  obtain ⟨o, e, r⟩ := st
  exact ⟨o, k it (by simp) o e, r⟩
 item := by
  intro X hP hw hK hc i pins s σ H E I hf st hg
  subst hP hw hK
  obtain ⟨c, h1, h2⟩ := jql (z := z) (i := i) hg
  obtain ⟨f0, f1, f2, f3, f4, f5⟩ := hf it (by simp)
  refine wpAny_pyNext_wide_item st h1 fun h' st' sb => ?_
  have I1 : Inv X pins σ H { s with heap := h', toks := s.toks + 1 } := I.turned (t' := s.toks + 1) (fun b o hb e => (sb.2 b hb).trans e) f0 f1 f3 f4 f5
  obtain ⟨o, e, cl, d⟩ := id st'
  exact ⟨_, rfl, jqZ (s := { s with heap := h', toks := s.toks + 1 }) e cl d (by decide) ⟨.str ⟨#[c]⟩, H, I1, ⟨_, rfl⟩, ⟨rfl, c, h2, rfl⟩, st', fun b hb => (hf b hb).1⟩⟩
 done := by
  intro X hP hw hK hc i pins s σ H E I hf st hg
  subst hP hw hK
  obtain ⟨f0, f1, f2, f3, f4, f5⟩ := hf it (by simp)
  exact wpAny_pyNext_wide_end (I.ok.hd hc) st (iqx hg) fun h' eb => ⟨rfl, I.turned (t' := s.toks) (fun b o hb e => eb b o hb e) f0 f1 f3 f4 f5⟩
 self := fun _ _ _ _ _ st h => wpAny_pyIter_striter_wide st h
section
variable {X : Cx} {tg : Expr}
def iStr (tl : TE) : TI := fun σ H R => tl σ H fun x H1 => ∃ z, x = .str z ∧ R (Its z) H1
theorem fqZ {l : Expr} {tl : TE} (hl : PE X l tl) : PI X tg l (iStr tl) := by
 intro pins s σ H R I h
 refine thn (hl pins s σ H _ I h) fun v s1 W' => ?_
 obtain ⟨x, H1, I1, r1, q1⟩ := W'
 obtain ⟨z, rfl, q⟩ := q1
 obtain ⟨t, rfl⟩ := r1
 have fp : ∀ b ∈ [s1.heap.objs.size], FpOk X pins H1 b := fun b hb => by
  have e : b = s1.heap.objs.size := by simpa using hb
  subst e
  exact I1.fpOk (Nat.le_refl _) (I1.hok.fresh (Nat.le_refl _))
 cases ha : z.cps.all (· < 128)
 ·refine wpAny_pyIter_wide ha ?_
  exact ⟨s1.heap.objs.size, [s1.heap.objs.size], _, _, H1, rfl, I1.kept (t' := s1.toks) fun b o e => Heap.get?_push_of_some _ e, jqX _ z t, ⟨_, Heap.get?_push_size _ rfl, rfl, rfl⟩, fp, q⟩
 ·refine wpAny_pyIter_ascii ha ?_
  exact ⟨s1.heap.objs.size, [s1.heap.objs.size], _, _, H1, rfl, I1.kept (t' := s1.toks) fun b o e => Heap.get?_push_of_some _ e, jqN _ z t, ⟨_, Heap.get?_push_size _ rfl, rfl, rfl⟩, fp, q⟩
end
section
variable {X : Cx}
def rSlS : V → Option Int → Option Int → Hp → VK → Prop := fun x lo hi H Q => ∃ z, x = .str z ∧ z.length ≤ sizeLine ∧ Q (.str (Txt.slice z lo hi)) H
theorem nqN : SlR X rSlS := by
 intro pins s σ H x v vl vu lo hi sl Q I rx hs pl pu h
 obtain ⟨z, rfl, hz, q⟩ := h
 obtain ⟨t, rfl⟩ := rx
 refine ⟨"str", _, F.slot_str_getitem.lookup, typeIs_str _ _ _, ?_⟩
 obtain ⟨o, ho, hc, hd⟩ := hs
 cases pl with
 | none =>
  cases pu with
  | none => exact wpAny_getItem_str_slice (l := none) (u := none) (st := none) ⟨o, ho, hc, hd⟩ rfl (post_val_or_str ⟨Nat.le_trans (Txt.slice_le z none none) hz, fun t' k => ⟨.str (Txt.slice z none none), H, I.tok k, ⟨t', rfl⟩, q⟩⟩)
  | int j uj => exact wpAny_getItem_str_slice (l := none) (u := some (j, uj)) (st := none) ⟨o, ho, hc, hd⟩ rfl (post_val_or_str ⟨Nat.le_trans (Txt.slice_le z none (some j)) hz, fun t' k => ⟨.str (Txt.slice z none (some j)), H, I.tok k, ⟨t', rfl⟩, q⟩⟩)
 | int i ui =>
  cases pu with
  | none => exact wpAny_getItem_str_slice (l := some (i, ui)) (u := none) (st := none) ⟨o, ho, hc, hd⟩ rfl (post_val_or_str ⟨Nat.le_trans (Txt.slice_le z (some i) none) hz, fun t' k => ⟨.str (Txt.slice z (some i) none), H, I.tok k, ⟨t', rfl⟩, q⟩⟩)
  | int j uj => exact wpAny_getItem_str_slice (l := some (i, ui)) (u := some (j, uj)) (st := none) ⟨o, ho, hc, hd⟩ rfl (post_val_or_str ⟨Nat.le_trans (Txt.slice_le z (some i) (some j)) hz, fun t' k => ⟨.str (Txt.slice z (some i) (some j)), H, I.tok k, ⟨t', rfl⟩, q⟩⟩)
def rSl (K : PySem.W.Frag) : V → Option Int → Option Int → Hp → VK → Prop := fun x lo hi H Q => rSlL K x lo hi H Q ∨ rSlS x lo hi H Q
theorem mqP : SlR X (rSl X.K) := jqj.or nqN
def rIndex : V → List V → Hp → VK → Prop := fun x vs H Q => match x, vs with
 | .str z, [.str y] => ∃ i r, Builtin.Str.occurrences z y 0 z.length 1 = i :: r ∧ Q (.int (i : Nat)) H
 | _, _ => False
theorem kqN {z y : Str} {H : Hp} {Q : VK} : (rIndex (.str z) [.str y] H Q) = (∃ i r, Builtin.Str.occurrences z y 0 z.length 1 = i :: r ∧ Q (.int (i : Nat)) H) := rfl
def rUpper : V → List V → Hp → VK → Prop := fun x vs H Q => match x, vs with
 | .str z, [] => (∀ c ∈ z.cps.toList, c < 128) ∧ z.length ≤ 1000000 ∧ Q (.str ⟨z.cps.map up1⟩) H
 | _, _ => False
theorem nqx {z : Str} {H : Hp} {Q : VK} : (rUpper (.str z) [] H Q) = ((∀ c ∈ z.cps.toList, c < 128) ∧ z.length ≤ 1000000 ∧ Q (.str ⟨z.cps.map up1⟩) H) := rfl
def rLower : V → List V → Hp → VK → Prop := fun x vs H Q => match x, vs with
 | .str z, [] => (∀ c ∈ z.cps.toList, c < 128) ∧ z.length ≤ 1000000 ∧ Q (.str ⟨z.cps.map lo1⟩) H
 | _, _ => False
theorem nqr {z : Str} {H : Hp} {Q : VK} : (rLower (.str z) [] H Q) = ((∀ c ∈ z.cps.toList, c < 128) ∧ z.length ≤ 1000000 ∧ Q (.str ⟨z.cps.map lo1⟩) H) := rfl
def rAlnum : V → List V → Hp → VK → Prop := fun x vs H Q => match x, vs with
 | .str z, [] => Q (.bl (Txt.isalnum z)) H
 | _, _ => False
theorem mq7 {z : Str} {H : Hp} {Q : VK} : (rAlnum (.str z) [] H Q) = (Q (.bl (Txt.isalnum z)) H) := rfl
def rJoin (K : PySem.W.Frag) : V → List V → Hp → VK → Prop := fun x vs H Q => ∃ z p ys, x = .str z ∧ vs = [.ref p] ∧ SqL K H p (ys.map V.str) ∧ (ys.map (·.length)).sum + ys.length * z.length ≤ 16777216 ∧ Q (.str (Txt.join z ys)) H
def rCatD : R2 := fun x y H Q => ∃ a b xs ys, x = .ref a ∧ y = .ref b ∧ H a = some (.tup xs) ∧ H b = some (.tup ys) ∧ xs.length + ys.length ≤ sizeLine ∧ ∀ p H', Same H H' → H' p = some (.tup (xs ++ ys)) → Q (.ref p) H'
theorem lqW : OpR X (binaryOp .Add) rCatD := by
 intro pins s σ H x y v u Q I rx ry h
 obtain ⟨a, b, xs, ys, rfl, rfl, ha, hb, hz, q⟩ := h
 by_cases hx : xs = []
 ·subst hx
  cases rx
  cases ry
  obtain ⟨its, r1, p1, _⟩ := I.tuple (SqT.of ha)
  obtain ⟨its2, r2, p2, _⟩ := I.tuple (SqT.of hb)
  cases r1
  obtain ⟨⟨cls, dd, data, sl⟩, ho, hc, n, hd⟩ := id p1
  obtain ⟨⟨cls2, dd2, data2, sl2⟩, ho2, hc2, n2, hd2⟩ := id p2
  simp only at hc hd hc2 hd2
  subst hc hd hc2 hd2
  exact concat_meets ⟨_, ho, rfl⟩ ⟨_, ho2, rfl⟩ noFill_tuple_add seq_tuple_add PySem.F.slot_tuple_add PySem.F.entry_tuple_add (PySem.F.args_tuple_add_2 _ _)
   (tuple_addW0 a b ([] : List Value).toArray its2.toArray n n2 dd dd2 sl sl2 rfl) ⟨ho, ho2, ⟨.ref b, H, I, rfl, q b H (Same.refl _) hb⟩⟩
 ·refine lql pins s σ H _ _ v u Q I rx ry ⟨a, b, xs, ys, rfl, rfl, SqT.of ha, SqT.of hb, hx, hz, fun e => q a H (Same.refl _) (by rw [e, List.append_nil]; exact ha), fun _ p hp => q p _ (fun b o e => by rw [aqu (aqo e hp)]; exact e) aqq⟩
def rAddU (K : PySem.W.Frag) : R2 := fun x y H Q => match x, y with
 | .int i, .int j => Q (.int (i + j)) H
 | .str i, .str j => i.length + j.length ≤ sizeLine ∧ Q (.str (i ++ j)) H
 | .ref a, .ref b => (∃ xs zs, H a = some (.lst xs) ∧ H b = some (.lst zs) ∧ xs.length + zs.length ≤ sizeLine ∧ ∀ p, H p = none → Q (.ref p) (upd H p (.lst (xs ++ zs)))) ∨
   (∃ xs ys, H a = some (.tup xs) ∧ H b = some (.tup ys) ∧ xs.length + ys.length ≤ sizeLine ∧ ∀ p H', Same H H' → H' p = some (.tup (xs ++ ys)) → Q (.ref p) H')
 | _, _ => False
theorem jqH : OpR X (binaryOp .Add) (rAddU X.K) := by
 intro pins s σ H x y v u Q I rx ry h
 cases x with
 | int i =>
  cases y with
  | int j => exact nqS pins s σ H _ _ v u Q I rx ry ⟨i, j, rfl, rfl, h⟩
  | _ => exact h.elim
 | str i =>
  cases y with
  | str j => exact iqA pins s σ H _ _ v u Q I rx ry ⟨i, j, rfl, rfl, h.1, h.2⟩
  | _ => exact h.elim
 | ref a =>
  cases y with
  | ref b =>
   rcases h with ⟨xs, zs, h1, h2, h3, h4⟩ | ⟨xs, ys, h1, h2, h3, h4⟩
   ·exact mqZ pins s σ H _ _ v u Q I rx ry ⟨a, b, xs, zs, rfl, rfl, h1, h2, h3, h4⟩
   ·exact lqW pins s σ H _ _ v u Q I rx ry ⟨a, b, xs, ys, rfl, rfl, h1, h2, h3, h4⟩
  | _ => exact h.elim
 | _ => exact h.elim
theorem mqW {K : PySem.W.Frag} {i j : Int} {H : Hp} {Q : VK} : (rAddU K (.int i) (.int j) H Q) = (Q (.int (i + j)) H) := rfl
theorem jqz {K : PySem.W.Frag} {i j : Str} {H : Hp} {Q : VK} : (rAddU K (.str i) (.str j) H Q) = (i.length + j.length ≤ sizeLine ∧ Q (.str (i ++ j)) H) := rfl
end
section
variable {X : Cx}
def rMulU : R2 := fun x y H Q => match x, y with
 | .int i, .int j => CMul i j ∧ Q (.int (i * j)) H
 | .str z, .int k => MulOk z k ∧ Q (.str (Txt.mul z k)) H
 | _, _ => False
theorem cqZ : OpR X (binaryOp .Mult) rMulU := by
 intro pins s σ H x y v u Q I rx ry h
 cases x with
 | int i =>
  cases y with
  | int j => exact mqR pins s σ H _ _ v u Q I rx ry ⟨i, j, rfl, rfl, h.1, h.2⟩
  | _ => exact h.elim
 | str z =>
  cases y with
  | int k =>
   obtain ⟨t, rfl⟩ := rx
   obtain ⟨t', rfl⟩ := ry
   exact SB.mul h.1 fun t' k' => ⟨.str (Txt.mul z k), H, I.tok k', ⟨t', rfl⟩, h.2⟩
  | _ => exact h.elim
 | _ => exact h.elim
theorem mqM {i j : Int} {H : Hp} {Q : VK} : (rMulU (.int i) (.int j) H Q) = (CMul i j ∧ Q (.int (i * j)) H) := rfl
theorem lqd {z : Str} {k : Int} {H : Hp} {Q : VK} : (rMulU (.str z) (.int k) H Q) = (MulOk z k ∧ Q (.str (Txt.mul z k)) H) := rfl
def rLenU (K : PySem.W.Frag) : List V → Hp → VK → Prop := fun xs H Q => match xs with
 | [.str z] => z.length ≤ sizeLine ∧ Q (.int z.length) H
 | [.ref p] => ∃ ys, (SqL K H p ys ∨ SqT K H p ys) ∧ Q (.int ys.length) H
 | _ => False
theorem jqw : CallR X (.builtin "len") (rLenU X.K) := by
 intro pins s σ H xs us Q I r h
 unfold rLenU at h
 split at h
 ·exact hqf pins s σ H _ us Q I r ⟨_, rfl, h.1, h.2⟩
 ·obtain ⟨ys, h1, h2⟩ := h
  exact gqY pins s σ H _ us Q I r ⟨_, ys, rfl, h1, h2⟩
 ·exact h.elim
theorem mqL {K : PySem.W.Frag} {z : Str} {H : Hp} {Q : VK} : (rLenU K [.str z] H Q) = (z.length ≤ sizeLine ∧ Q (.int z.length) H) := rfl
theorem mq4 {K : PySem.W.Frag} {p : Addr} {H : Hp} {Q : VK} : (rLenU K [.ref p] H Q) = (∃ ys, (SqL K H p ys ∨ SqT K H p ys) ∧ Q (.int ys.length) H) := rfl
def rOrdU : List V → Hp → VK → Prop := fun xs H Q => match xs with
 | [.str z] => z.length = 1 ∧ Q (.int (z.cps.getD 0 0 : Nat)) H
 | _ => False
theorem nqJ {c : Nat} {H : Hp} {Q : VK} : rOrdU [.str ⟨#[c]⟩] H Q ↔ Q (.int (c : Nat)) H := ⟨fun h => h.2, fun h => ⟨rfl, h⟩⟩
theorem lqa : bootBuiltins "int" = some (.type "int") := by decide +kernel
theorem gqw : bootBuiltins "tuple" = some (.type "tuple") := by decide +kernel
theorem jqi : bootBuiltins "list" = some (.type "list") := by decide +kernel
def rIntU : List V → Hp → VK → Prop := fun xs H Q => match xs with
 | [.int i] => Q (.int i) H
 | [.bl k] => Q (.int (if k then 1 else 0)) H
 | _ => False
theorem hqd : CallR X (.type "int") rIntU := by
 intro pins s σ H xs us Q I r h
 unfold rIntU at h
 split at h
 ·exact gqV pins s σ H _ us Q I r (.inl ⟨_, rfl, h⟩)
 ·exact gqV pins s σ H _ us Q I r (.inr ⟨_, rfl, h⟩)
 ·exact h.elim
theorem nqk {k : Bool} {H : Hp} {Q : VK} : (rIntU [.bl k] H Q) = (Q (.int (if k then 1 else 0)) H) := rfl
def rInU : R2 := fun x y H Q => match x, y with
 | .str i, .str j => Q (.bl (!(Builtin.Str.occurrences j i 0 j.length 1).isEmpty)) H
 | _, _ => False
theorem nqt : OpR X (compareOp .In) rInU := by
 intro pins s σ H x y v u Q I rx ry h
 cases x with
 | str i =>
  cases y with
  | str j => exact jqD pins s σ H _ _ v u Q I rx ry ⟨i, j, rfl, rfl, h⟩
  | _ => exact h.elim
 | _ => exact h.elim
def rNotInU : R2 := fun x y H Q => match x, y with
 | .str i, .str j => Q (.bl (!(!(Builtin.Str.occurrences j i 0 j.length 1).isEmpty))) H
 | _, _ => False
theorem eqx : OpR X (compareOp .NotIn) rNotInU := by
 intro pins s σ H x y v u Q I rx ry h
 cases x with
 | str i =>
  cases y with
  | str j => exact gq8 pins s σ H _ _ v u Q I rx ry ⟨i, j, rfl, rfl, h⟩
  | _ => exact h.elim
 | _ => exact h.elim
theorem nqv {c : Nat} {j : Str} {H : Hp} {Q : VK} : rInU (.str ⟨#[c]⟩) (.str j) H Q ↔ Q (.bl (decide (c ∈ j.cps.toList))) H := by
 show Q (.bl (!(Builtin.Str.occurrences j ⟨#[c]⟩ 0 j.length 1).isEmpty)) H ↔ _
 rw [StrLaws.found_one]
theorem jqQ {c : Nat} {j : Str} {H : Hp} {Q : VK} : rNotInU (.str ⟨#[c]⟩) (.str j) H Q ↔ Q (.bl (!decide (c ∈ j.cps.toList))) H := by
 show Q (.bl (!(!(Builtin.Str.occurrences j ⟨#[c]⟩ 0 j.length 1).isEmpty))) H ↔ _
 rw [StrLaws.found_one]
def rIsN (neg : Bool) : R2 := fun x y H Q => y = .non ∧ Q (.bl (if neg then !decide (x = .non) else decide (x = .non))) H
theorem gqH : OpR X (compareOp .Is) (rIsN false) := fun pins s σ H x y v u Q I rx ry h => mqB pins s σ H x y v u Q I rx ry h
theorem nqW {x : V} {H : Hp} {Q : VK} : rIsN false x .non H Q ↔ Q (.bl (decide (x = .non))) H := ⟨fun h => h.2, fun h => ⟨rfl, h⟩⟩
theorem oqc {x : V} {H : Hp} {Q : VK} : rIsN true x .non H Q ↔ Q (.bl (!decide (x = .non))) H := ⟨fun h => h.2, fun h => ⟨rfl, h⟩⟩
def kindV (x : V) (H : Hp) : Option String := match x with
 | .non => some "NoneType"
 | .bl _ => some "bool"
 | .int _ => some "int"
 | .str _ => some "str"
 | .ref a => match H a with
  | some (.lst _) => some "list"
  | some (.tup _) => some "tuple"
  | _ => none
 | _ => none
def subT (a b : String) : Bool := a == b || (a == "bool" && b == "int")
def rIsiU : List V → Hp → VK → Prop := fun vs H Q => match vs with
 | [x, .ty T] => ∃ k, kindV x H = some k ∧ T ∈ ["bool", "int", "str", "list", "tuple"] ∧ Q (.bl (subT k T)) H
 | _ => False
end
section
variable {σ : St} {H : Hp} {Q : VK} {D : Ends} {K : PySem.W.Frag} {ta tb te : TE} {tt tu : TT} {t u : TS} {aa ab : TA} {v x y : V} {r r' : R2}
theorem mqz {i : Nat} : (tVar i σ H Q) = (∃ v, σ[i]? = some (some v) ∧ Q v H) := rfl
theorem rd_C : (tC v σ H Q) = (Q v H) := rfl
theorem nqm : (tSeq t u D σ H) = (t { D with nx := u D } σ H) := rfl
theorem mqK {g : TG} : (tAsg te g D σ H) = (te σ H fun x H1 => g x σ H1 D.nx) := rfl
theorem lqs {i : Nat} {R : St → Hp → Prop} : (gName i v σ H R) = (R (σ.set i (some v)) H) := rfl
theorem nqQ : (tIfS tt t u D σ H) = (tt σ H fun b H1 => if b = true then t D σ H1 else u D σ H1) := rfl
theorem lq9 : (tNext D σ H) = (D.nx σ H) := rfl
theorem mqH : (tBreak D σ H) = (D.bk σ H) := rfl
theorem nqp : (tRet te D σ H) = (te σ H D.rt) := rfl
theorem lqJ : (tDrop te D σ H) = (te σ H fun _ H1 => D.nx σ H1) := rfl
theorem nq0 : (tOp r ta tb σ H Q) = (ta σ H fun x H1 => tb σ H1 fun y H2 => r x y H2 Q) := rfl
theorem mqh {R : Bool → Hp → Prop} : (tTest te σ H R) = (te σ H fun x H' => ∃ k, x = .bl k ∧ R k H') := rfl
theorem rd_B {R : Bool → Hp → Prop} : (tB te σ H R) = (te σ H fun x H' => ∃ k, x = .bl k ∧ R k H') := rfl
theorem nqH {R : Bool → Hp → Prop} : (tAnd tt tu σ H R) = (tt σ H fun c H1 => if c = true then tu σ H1 R else R false H1) := rfl
theorem oqb {R : Bool → Hp → Prop} : (tOr tt tu σ H R) = (tt σ H fun c H1 => if c = true then R true H1 else tu σ H1 R) := rfl
theorem nqB {R : Bool → Hp → Prop} : (tNot tt σ H R) = (tt σ H fun c H1 => R (!c) H1) := rfl
theorem lqB : (tAndV ta tb σ H Q) = (ta σ H fun x H1 => ∃ c, x = .bl c ∧ if c = true then tb σ H1 Q else Q (.bl false) H1) := rfl
theorem nqG : (tOrV ta tb σ H Q) = (ta σ H fun x H1 => ∃ c, x = .bl c ∧ if c = true then Q (.bl true) H1 else tb σ H1 Q) := rfl
theorem lqV : (tNotV ta σ H Q) = (ta σ H fun x H1 => ∃ c, x = .bl c ∧ Q (.bl (!c)) H1) := rfl
theorem nq5 : (tIf tt ta tb σ H Q) = (tt σ H fun c H1 => if c = true then ta σ H1 Q else tb σ H1 Q) := rfl
theorem kqD {tc : TE} : (tChain r r' ta tb tc σ H Q) = (ta σ H fun x H1 => tb σ H1 fun y H2 => r x y H2 fun z H3 => ∃ k, z = .bl k ∧ (if k = true then tc σ H3 fun w' H4 => r' y w' H4 Q else Q (.bl false) H3)) := rfl
theorem mqF {R : List V → Hp → Prop} : (tNil σ H R) = (R [] H) := rfl
theorem lqv {R : List V → Hp → Prop} : (tCons te aa σ H R) = (te σ H fun x H1 => aa σ H1 fun xs H2 => R (x :: xs) H2) := rfl
theorem mq9 : (tLst aa σ H Q) = (aa σ H fun xs H1 => xs.length ≤ sizeLine ∧ ∀ p, H1 p = none → Q (.ref p) (upd H1 p (.lst xs))) := rfl
theorem nqE : (tTup aa σ H Q) = (aa σ H fun xs H1 => xs.length ≤ sizeLine ∧ ∀ p, H1 p = none → Q (.ref p) (upd H1 p (.tup xs))) := rfl
theorem lq0 {sp : Sp} {dvs : List V} {E : XK} : (tCall sp dvs E aa σ H Q) = (aa σ H fun vs H1 => sp (vs ++ dvs) H1 Q E) := rfl
theorem nq9 {c : List V → Hp → VK → Prop} : (tCB c aa σ H Q) = (aa σ H fun vs H1 => c vs H1 Q) := rfl
theorem nq6 {T : String} {m : V → List V → Hp → VK → Prop} : (tBM K T m te aa σ H Q) = (te σ H fun x H1 => tyV K T x H1 ∧ aa σ H1 fun xs H2 => m x xs H2 Q) := rfl
theorem mqT {T : String} {m : V → List V → Hp → VK → Prop} : (tBM0 K T m te σ H Q) = (te σ H fun x H1 => tyV K T x H1 ∧ m x [] H1 Q) := rfl
theorem nq8 {m : V → Option Int → Option Int → Hp → VK → Prop} {tl th : TO} : (tSl m te tl th σ H Q) = (te σ H fun x H1 => tl σ H1 fun l H2 => th σ H2 fun u H3 => m x l u H3 Q) := rfl
theorem jqP {R : Option Int → Hp → Prop} : (tNoPart σ H R) = (R none H) := rfl
theorem lqj {R : Option Int → Hp → Prop} : (tPart te σ H R) = (te σ H fun x H1 => ∃ i, x = .int i ∧ R (some i) H1) := rfl
theorem kqF {z : Str} : tyV K "str" (.str z) H ↔ True := ⟨fun _ => trivial, fun _ => rfl⟩
theorem rd_I {C : Int → Int → Prop} {g : Int → Int → V} {i j : Int} : rI C g (.int i) (.int j) H Q ↔ C i j ∧ Q (g i j) H :=
 ⟨fun ⟨_, _, h1, h2, h3⟩ => by cases h1; cases h2; exact h3, fun h => ⟨i, j, rfl, rfl, h⟩⟩
theorem nqX {g : Int → Int → V} {i j : Int} : rI0 g (.int i) (.int j) H Q ↔ Q (g i j) H :=
 ⟨fun ⟨_, _, h1, h2, h3⟩ => by cases h1; cases h2; exact h3, fun h => ⟨i, j, rfl, rfl, h⟩⟩
theorem lqD {i j : Int} : rEq (.int i) (.int j) H Q ↔ Q (.bl (decide (i = j))) H := by
 unfold rEq scal; simp only [true_and, V.int.injEq]
theorem aqt {i j : Str} : rEq (.str i) (.str j) H Q ↔ Q (.bl (decide (i = j))) H := by
 unfold rEq scal; simp only [true_and, V.str.injEq]
theorem hqB {i j : Bool} : rEq (.bl i) (.bl j) H Q ↔ Q (.bl (decide (i = j))) H := by
 unfold rEq scal; simp only [true_and, V.bl.injEq]
theorem lqn {i j : Int} : rNe (.int i) (.int j) H Q ↔ Q (.bl (!decide (i = j))) H := by
 unfold rNe scal; simp only [true_and, V.int.injEq]
theorem gqx {i j : Str} : rNe (.str i) (.str j) H Q ↔ Q (.bl (!decide (i = j))) H := by
 unfold rNe scal; simp only [true_and, V.str.injEq]
theorem hqE {i j : Bool} : rNe (.bl i) (.bl j) H Q ↔ Q (.bl (!decide (i = j))) H := by
 unfold rNe scal; simp only [true_and, V.bl.injEq]
theorem lqy : rNe .non .non H Q ↔ Q (.bl false) H := ⟨fun h => h.2, fun h => ⟨rfl, h⟩⟩
theorem lqZ {i : Str} : rNe (.str i) .non H Q ↔ Q (.bl true) H := ⟨fun h => h.2, fun h => ⟨rfl, h⟩⟩
theorem kqc {i : Str} : rNe .non (.str i) H Q ↔ Q (.bl true) H := ⟨fun h => h.2, fun h => ⟨rfl, h⟩⟩
theorem mql : rEq .non .non H Q ↔ Q (.bl true) H := ⟨fun h => h.2, fun h => ⟨rfl, h⟩⟩
theorem lqA {i : Str} : rEq (.str i) .non H Q ↔ Q (.bl false) H := ⟨fun h => h.2, fun h => ⟨rfl, h⟩⟩
theorem kqE {i : Str} : rEq .non (.str i) H Q ↔ Q (.bl false) H := ⟨fun h => h.2, fun h => ⟨rfl, h⟩⟩
theorem mqV {z : Str} {i : Int} : rIx K (.str z) (.int i) H Q ↔ ∃ c, z.length ≤ sizeLine ∧ atI z.cps.toList i = some c ∧ Q (.str ⟨#[c]⟩) H := by
 constructor
 ·rintro (⟨p, xs, j, v, h, _⟩ | ⟨p, xs, j, v, h, _⟩ | ⟨z', j, c, h1, h2, h3, h4, h5⟩)
  ·cases h
  ·cases h
  ·cases h1; cases h2; exact ⟨c, h3, h4, h5⟩
 ·rintro ⟨c, h3, h4, h5⟩
  exact .inr (.inr ⟨z, i, c, rfl, rfl, h3, h4, h5⟩)
theorem hqr {z : Str} {lo hi : Option Int} : rSl K (.str z) lo hi H Q ↔ z.length ≤ sizeLine ∧ Q (.str (Txt.slice z lo hi)) H := by
 constructor
 ·rintro (⟨a, xs, h, _⟩ | ⟨z', h1, h2, h3⟩)
  ·cases h
  ·cases h1; exact ⟨h2, h3⟩
 ·rintro ⟨h2, h3⟩
  exact .inr ⟨z, rfl, h2, h3⟩
end
section
variable {σ : St} {H : Hp} {Q : VK} {K : PySem.W.Frag}
theorem nqs {a : Addr} {lo hi : Option Int} : rSl K (.ref a) lo hi H Q ↔ ∃ xs, SqL K H a xs ∧ ∀ p, H p = none → Q (.ref p) (upd H p (.lst (cutV xs lo hi))) := by
 constructor
 ·rintro (⟨a', xs, h, h2⟩ | ⟨z', h1, _⟩)
  ·cases h; exact ⟨xs, h2⟩
  ·cases h1
 ·rintro ⟨xs, h2⟩
  exact .inl ⟨a, xs, rfl, h2⟩
theorem mq5 {p : Addr} {i : Int} : rIx K (.ref p) (.int i) H Q ↔ ∃ xs v, (SqL K H p xs ∨ SqT K H p xs) ∧ atI xs i = some v ∧ Q v H := by
 constructor
 ·rintro (⟨p', xs, j, v, h, h2, h3, h4⟩ | ⟨p', xs, j, v, h, h2, h3, h4⟩ | ⟨z', j, c, h1, _⟩)
  ·cases h; cases h2; exact ⟨xs, v, .inl h3, h4⟩
  ·cases h; cases h2; exact ⟨xs, v, .inr h3, h4⟩
  ·cases h1
 ·rintro ⟨xs, v, h | h, h2⟩
  ·exact .inl ⟨p, xs, i, v, rfl, rfl, h, h2⟩
  ·exact .inr (.inl ⟨p, xs, i, v, rfl, rfl, h, h2⟩)
theorem mqS {a b : Addr} : rAddU K (.ref a) (.ref b) H Q ↔ (∃ xs zs, H a = some (.lst xs) ∧ H b = some (.lst zs) ∧ xs.length + zs.length ≤ sizeLine ∧ ∀ p, H p = none → Q (.ref p) (upd H p (.lst (xs ++ zs)))) ∨
   (∃ xs ys, H a = some (.tup xs) ∧ H b = some (.tup ys) ∧ xs.length + ys.length ≤ sizeLine ∧ ∀ p H', Same H H' → H' p = some (.tup (xs ++ ys)) → Q (.ref p) H') := Iff.rfl
theorem cx_K {CX : CXT} {P : Program} {w : World} {mg : Str → Option Value} {base : Heap} {N : List Str} {qual : Str} {scope : Scope} {f : Addr} {cd : Value} {A : Around} {outer : List Env} {s : Shared} {E : XK} :
  (cxOf CX P w K mg base N qual scope f cd A outer s H E).K = K := rfl
end
def LoopI (J : It) (g : TG) (tb : TS) (D : Ends) (σ : St) (H : Hp) : Prop := ∃ W : Nat → Nat → St → Hp → Prop, (∃ m, W 0 m σ H) ∧ ∀ i m σ H, W i m σ H →
 (J.stop i H ∧ D.nx σ H) ∨ (J.go i H ∧ ∃ N : St → Hp → Prop, (∀ σ' H', N σ' H' → ∃ m', m' < m ∧ W (i + 1) m' σ' H') ∧ ∀ x H', J.yld i H x H' → g x σ H' fun σ2 H2 => tb { D with nx := N, ct := N, bk := D.nx } σ2 H2)
section
variable {σ : St} {H : Hp} {D : Ends} {K : PySem.W.Frag} {te : TE} {g : TG} {tb : TS} {aa : TA}
theorem mqg : (tFor (iStr te) g tb D σ H) = (te σ H fun x H1 => ∃ z, x = .str z ∧ LoopI (Its z) g tb D σ H1) := rfl
theorem lqO : (tFor (iList K te) g tb D σ H) = (te σ H fun x H1 => ∃ a, x = .ref a ∧ (∃ xs, SqL K H1 a xs) ∧ LoopI (Itl K a) g tb D σ H1) := rfl
theorem mqn : (tFor (iRng1 aa) g tb D σ H) = (aa σ H fun vs H1 => ∃ j : Int, vs = [.int j] ∧ -(2 ^ 62) ≤ j ∧ j < 2 ^ 62 ∧ LoopI (Itr 0 j.toNat) g tb D σ H1) := rfl
theorem fqv {a : Addr} {xs : List V} (Pv : Nat → St → Hp → Prop) (h0 : Pv 0 σ H) (hl : ∀ i σ H, i ≤ xs.length → Pv i σ H → SqL K H a xs)
  (hs : ∀ i x σ H, xs[i]? = some x → Pv i σ H → g x σ H fun σ2 H2 => tb { D with nx := Pv (i + 1), ct := Pv (i + 1), bk := D.nx } σ2 H2) (hd : ∀ σ H, Pv xs.length σ H → D.nx σ H) : LoopI (Itl K a) g tb D σ H := kqQ Pv h0 hl hs hd
theorem bq2 {lo : Int} {n : Nat} (Pv : Nat → St → Hp → Prop) (h0 : Pv 0 σ H)
  (hs : ∀ i σ H, i < n → Pv i σ H → g (.int (lo + i)) σ H fun σ2 H2 => tb { D with nx := Pv (i + 1), ct := Pv (i + 1), bk := D.nx } σ2 H2) (hd : ∀ σ H, Pv n σ H → D.nx σ H) : LoopI (Itr lo n) g tb D σ H := jqA Pv h0 hs hd
end
section
variable {prog : Program} {w : World} {A : Around} {R : Result → Shared → Prop} {s : Shared}
theorem eqR {elt target iter : Expr} {ifs : List Expr} {scope : Scope} {pos : Pos} {it acc : Value} {env : Env} (I : Nat → Shared → Prop)
  (turn : ∀ n s, I n s → wpAny (model prog w) A (pyNext it) (fun r s₁ => match r with
   | none => R (.ok .next) s₁
   | some v => wpAny (model prog w) A (letOwnedTupleGo target it v) (fun _ s₁' => wpAny (model prog w) A (assign target env v) (fun _ s₂ =>
     wpAny (model prog w) A (forIn ifs true fun c r => if r = true then do let ok ← isTrue c env (eval c env); pure (ForInStep.yield ok) else pure (ForInStep.yield r)) (fun ok s₃ =>
      if ok = true then wpAny (model prog w) A (eval elt env) (fun x s₄ =>
       wpAny (model prog w) A (call (.builtin "list.append") [acc, x]) (fun _ s₅ => ∃ m, m < n ∧ I m s₅) (fun _ _ => False) s₄) (fun _ _ => False) s₃
      else ∃ m, m < n ∧ I m s₃) (fun _ _ => False) s₂) (fun _ _ => False) s₁') (fun _ _ => False) s₁) (fun _ _ => False) s)
  (n : Nat) (h : I n s) : codeAny (model prog w) A (.compLoop (.ListComp elt [⟨target, iter, ifs, 0⟩] scope pos) 0 it acc env) R s := by
 refine codeAny_loop rfl I (fun n s hI => ?_) n h
 show wpAny _ A ((compTurn (.ListComp elt [⟨target, iter, ifs, 0⟩] scope pos) 0 it acc env).onRaise (fun x => do noteFrame x env; theTreesLotGoes x)) _ _ s
 refine wpAny_noted ?_
 rw [compTurn_list]
 refine wpAny_bind (wpAny_standAt (wpAny_bind (wpAny_mono (turn n s hI) (fun r s₁ h₁ => ?_) fun _ _ h' => h'.elim)))
 cases r with
 | none => exact wpAny_pure h₁
 | some v =>
  refine wpAny_bind (wpAny_mono h₁ (fun _ s₁' h₁' => wpAny_bind (wpAny_mono h₁' (fun _ s₂ h₂ => wpAny_bind (wpAny_mono h₂ (fun ok s₃ h₃ => ?_) fun _ _ h' => h'.elim)) fun _ _ h' => h'.elim)) fun _ _ h' => h'.elim)
  cases ok with
  | false => exact wpAny_pure ⟨rfl, h₃⟩
  | true =>
   exact wpAny_bind (wpAny_bind (wpAny_mono h₃ (fun x s₄ h₄ => wpAny_bind (wpAny_mono h₄ (fun _ s₅ h₅ => wpAny_pure (wpAny_pure ⟨rfl, h₅⟩)) fun _ _ h' => h'.elim)) fun _ _ h' => h'.elim))
end
def compCx (X : Cx) (N' : List Str) (scope : Scope) (cl : List (Str × Addr)) (s : Shared) (H : Hp) (fp : List Addr) : Cx :=
 { X with N := N', s₀ := s, H₀ := H, env := compEnvC scope cl s.heap.objs.size X.env, outer := X.stack, stack := X.stack, ex := fp, fn := fun _ => false, pn := [], xe := fun _ _ => False }
inductive Frees (X : Cx) (rs : Scope) (cl : List (Str × Addr)) : List Str → List Nat → Prop where
 | nil : Frees X rs cl [] []
 | cons {y : Str} {i : Nat} {fx : List Str} {fr : List Nat} (h1 : X.N[i]? = some y) (h2 : X.env.kindOf y = some .cell) (h3 : rs.names.lookup y = some .cell) (h4 : cl.lookup y = X.env.cells.lookup y) (r : Frees X rs cl fx fr) : Frees X rs cl (y :: fx) (i :: fr)
def frV (σ : St) (fr : List Nat) : St := fr.map fun i => (σ[i]?).getD none
theorem Frees.len {X : Cx} {rs : Scope} {cl : List (Str × Addr)} {fx : List Str} {fr : List Nat} (F : Frees X rs cl fx fr) : fr.length = fx.length := by
 induction F with
 | nil => rfl
 | cons _ _ _ _ _ ih => simp [ih]
theorem Frees.at {X : Cx} {rs : Scope} {cl : List (Str × Addr)} {σ : St} : ∀ {fx : List Str} {fr : List Nat}, Frees X rs cl fx fr → ∀ (j : Nat) (y : Str) (v : V), fx[j]? = some y → (frV σ fr)[j]? = some (some v) →
  ∃ i : Nat, X.N[i]? = some y ∧ σ[i]? = some (some v) ∧ X.env.kindOf y = some .cell ∧ rs.names.lookup y = some .cell ∧ cl.lookup y = X.env.cells.lookup y
 | _, _, .nil, j, y, v, h, _ => by simp at h
 | _, _, .cons (y := z) (i := i) h1 h2 h3 h4 r, 0, y, v, h, hv => by
  simp only [List.getElem?_cons_zero, Option.some.injEq] at h
  subst h
  simp only [frV, List.map_cons, List.getElem?_cons_zero, Option.some.injEq] at hv
  refine ⟨i, h1, ?_, h2, h3, h4⟩
  cases e : σ[i]? with
  | none => rw [e] at hv; cases hv
  | some o => rw [e] at hv; exact congrArg some hv
 | _, _, .cons h1 h2 h3 h4 r, j + 1, y, v, h, hv => by
  simp only [List.getElem?_cons_succ] at h
  simp only [frV, List.map_cons, List.getElem?_cons_succ] at hv
  exact r.at j y v h hv
theorem Frees.mem {X : Cx} {rs : Scope} {cl : List (Str × Addr)} : ∀ {fx : List Str} {fr : List Nat}, Frees X rs cl fx fr → ∀ y ∈ fx, X.env.kindOf y = some .cell ∧ cl.lookup y = X.env.cells.lookup y
 | _, _, .nil, y, h => by simp at h
 | _, _, .cons h1 h2 h3 h4 r, y, h => by
  rcases List.mem_cons.mp h with rfl | h
  ·exact ⟨h2, h4⟩
  ·exact r.mem y h
section
variable {X : Cx} {pins : List (Addr × Obj)} {σ : St} {H1 : Hp} {s3 : Shared} {x : Str} {fx : List Str} {fr : List Nat} {scope : Scope} {cl : List (Str × Addr)} {fp : List Addr}
theorem lqK (I : Inv X pins σ H1 s3) (hkind : scope.kind = .function) (hcl : ∀ y c, cl.lookup y = some c → X.env.cells.lookup y = some c)
  (F : Frees X (relabel scope X.env) cl fx fr) (hfx : ((relabel scope X.env).names.all fun p => if (p.2 == .cell || p.2 == .free) then fx.contains p.1 else true) = true)
  (ffp : ∀ b ∈ fp, FpOk X pins H1 b) (flt : ∀ b ∈ fp, b < s3.heap.objs.size) : (compCx X (x :: fx) scope cl s3 H1 fp).Ok where
 mod := I.ok.mod
 kind := hkind
 glob := I.ok.glob
 blt := I.ok.blt
 above := Nat.le_refl _
 inj := fun y z c h1 h2 => I.ok.inj y z c (hcl y c h1) (hcl z c h2)
 has := fun y h => by
  have h : (relabel scope X.env).names.lookup y = some .cell ∨ (relabel scope X.env).names.lookup y = some .free := h
  have key : y ∈ fx := by
   rcases h with h | h
   ·have q := List.all_eq_true.mp hfx _ (PySem.mem_of_lookup h)
    simpa using q
   ·have q := List.all_eq_true.mp hfx _ (PySem.mem_of_lookup h)
    simpa using q
  obtain ⟨k1, k2⟩ := F.mem y key
  obtain ⟨c, e⟩ := I.ok.has y (.inl k1)
  exact ⟨c, k2.trans e⟩
 cab := fun y c h => by cases (show false = true from h)
 hd := I.ok.hd
 frames := I.ok.frames
 stk := .inl rfl
 exf := fun b hb => ⟨Nat.ne_of_lt (flt b hb), fun y c e => (ffp b hb).2.2.2.2.1 y c (hcl y c e)⟩
 bs := I.bs
 bsz := Nat.le_trans I.ok.bsz I.sz
 noex := fun b o e hb => by
  rcases (ffp b hb).2.2.2.1 with z | z
  ·exact I.ok.noex b o e z
  ·exact absurd (Nat.lt_of_lt_of_le (Heap.lt_size (I.ok.bs b o e).1) z) (Nat.lt_irrefl _)
 exfs := fun b hb z => by
  rcases List.mem_cons.mp (I.stkSub b z) with q | q
  ·exact (ffp b hb).2.1 q
  ·exact (ffp b hb).2.2.1 q
 funs := I.stack
 frf := I.stkFree
theorem iqQ (I : Inv X pins σ H1 s3) (hkind : scope.kind = .function) (hcl : ∀ y c, cl.lookup y = some c → X.env.cells.lookup y = some c)
  (F : Frees X (relabel scope X.env) cl fx fr) (hfx : ((relabel scope X.env).names.all fun p => if (p.2 == .cell || p.2 == .free) then fx.contains p.1 else true) = true)
  (ffp : ∀ b ∈ fp, FpOk X pins H1 b) (flt : ∀ b ∈ fp, b < s3.heap.objs.size) {h1 : Heap} {t : Nat} {m : Str → Option Value} (hn : h1.Ns s3.heap.objs.size m)
  (keep : ∀ b u, s3.heap.get? b = some u → h1.get? b = some u) : Inv (compCx X (x :: fx) scope cl s3 H1 fp) [] (none :: frV σ fr) H1 { s3 with heap := h1, toks := t } := by
 refine ⟨lqK I hkind hcl F hfx ffp flt, rfl, I.bare, Un.kept keep, ⟨m, hn, fun i y v e1 e2 e3 => ?_⟩, fun y c e => ?_, I.hok.fresh (Nat.le_refl _), fun y c e => I.freeC y c (hcl y c e), fun p hp => absurd (show p ∈ ([] : List (Addr × Obj)) from hp) (by simp), I.hok.kept keep, ?_⟩
 ·cases i with
  | zero => simp at e2
  | succ j =>
   obtain ⟨i0, k1, k2, k3, k4, k5⟩ := F.at (σ := σ) j y v (by simpa [compCx] using e1) (by simpa using e2)
   obtain ⟨m0, hn0, hl0⟩ := I.loc
   obtain ⟨u, r, l⟩ := hl0 i0 y v k1 k2 (.inr (.inl k3))
   refine ⟨u, r, ?_⟩
   rcases l with ⟨z, _⟩ | ⟨_, c, e, o, ho, hd⟩
   ·rw [k3] at z; cases z
   ·exact .inr ⟨.inl k4, c, k5.trans e, o, keep c o ho, hd⟩
 ·obtain ⟨v, o, ho, hd⟩ := I.cell y c (hcl y c e)
  exact ⟨v, o, keep c o ho, hd⟩
 ·show (none :: frV σ fr).length = (x :: fx).length
  simp [frV, F.len]
theorem eqf {N' : List Str} {pins' : List (Addr × Obj)} {σ' : St} {H2 : Hp} {s' : Shared} {h' : Heap} (I : Inv X pins σ H1 s3) (J : Inv (compCx X N' scope cl s3 H1 fp) pins' σ' H2 s') (ffp : ∀ b ∈ fp, FpOk X pins H1 b)
  (sb : Heap.SameBut s3.heap.objs.size s'.heap h') : Inv X pins σ H2 { s' with heap := h' } := by
 have k : ∀ b u, b ≠ s3.heap.objs.size → s'.heap.get? b = some u → h'.get? b = some u := fun b u hb e => sb.extBut b u hb e
 have lt : ∀ b u, s3.heap.get? b = some u → b ≠ s3.heap.objs.size := fun b u e => Nat.ne_of_lt (Heap.lt_size e)
 have u : Un (frs X.stack) fp H1 H2 s3.heap s'.heap := J.base
 have u' : Un (frs X.stack) fp H1 H2 s3.heap h' :=
  ⟨fun b o q n hb hx => k b o (lt b o q) (u.keep b o q n hb hx), fun b o q n hb hx => by
    obtain ⟨sl, e⟩ := u.slot b o q n hb hx
    exact ⟨sl, k b _ (lt b o q) e⟩, u.free, fun b o q hx => by
    obtain ⟨o', e⟩ := u.there b o q hx
    exact ⟨o', k b _ (lt b o q) e⟩, u.tups, u.frzs, u.tbls⟩
 have nC : H2 s3.heap.objs.size = none := J.free
 have hok : HOk X.prog X.w H2 h' := fun b uo e => by
  refine (J.hok b uo e).stay (fun c v hc q => k c v ?_ q) (fun _ q => q) fun _ _ q => q
  rintro rfl
  rcases hc with z | z
  ·rw [← z, nC] at e; cases e
  ·rw [nC] at z; cases z
 have os : s'.os = s3.os := J.os
 have bare := J.bare
 obtain ⟨hh, g, d, t, os'⟩ := s'
 obtain rfl : os' = s3.os := os
 have fin := I.call (h' := h') (g' := g) (d' := d) (t' := t) (ch := fp) u' hok bare fun b hb => by
  obtain ⟨f0, f1, f2, f3, f4, f5⟩ := ffp b hb
  exact ⟨f3, f1, f4, f5⟩
 exact fin
end
def PF (X : Cx) (ifs : List Expr) (t : TT) : Prop :=
 ∀ (pins : List (Addr × Obj)) (s : Shared) (σ : St) (H : Hp) (Q : Bool → Hp → Prop), Inv X pins σ H s → t σ H Q →
  wpAny (model X.prog X.w) X.A (forIn ifs true fun c r => if r = true then do let ok ← isTrue c X.env (eval c X.env); pure (ForInStep.yield ok) else pure (ForInStep.yield r)) (TP X pins σ Q) X.xe s
def tYes : TT := fun _ H Q => Q true H
theorem hqn {X : Cx} : PF X [] tYes := fun _ _ _ H _ I h => wpAny_tests_nil ⟨H, I, h⟩
theorem fqA {X : Cx} {c : Expr} {t : TT} (h : PT X c t) : PF X [c] t := fun pins s σ H Q I q => wpAny_tests_one (h pins s σ H Q I q)
def CompI (J : It) (p : Addr) (fv : St) (tt : TT) (te : TE) (Q : VK) (H1 : Hp) : Prop :=
 ∃ W : Nat → Nat → List V → Hp → Prop, (∃ m, W 0 m [] (upd H1 p (.lst []))) ∧ ∀ i m ys H2, W i m ys H2 → H2 p = some (.lst ys) ∧
  ((J.stop i H2 ∧ Q (.ref p) H2) ∨ (J.go i H2 ∧ ys.length < sizeLine ∧ ∀ x H3, J.yld i H2 x H3 → tt (some x :: fv) H3 fun b H4 =>
   if b = true then te (some x :: fv) H4 fun y H5 => H5 p = some (.lst ys) ∧ ∃ m', m' < m ∧ W (i + 1) m' (ys ++ [y]) (upd H5 p (.lst (ys ++ [y])))
   else ∃ m', m' < m ∧ W (i + 1) m' ys H4))
def tComp (wi : TI) (fr : List Nat) (tt : TT) (te : TE) : TE := fun σ H Q => wi σ H fun J H1 => ∀ p, H1 p = none → CompI J p (frV σ fr) tt te Q H1
section
variable {X : Cx} {elt iter : Expr} {x : Str} {px pos : Pos} {ifs : List Expr} {scope : Scope} {cl : List (Str × Addr)} {fx : List Str} {fr : List Nat} {wi : TI} {tt : TT} {te : TE}
theorem fq5 {pins : List (Addr × Obj)} {σ : St} {H3 : Hp} {s3 : Shared} {it p : Addr} {fp : List Addr} {tn : Nat → Heap → Prop} {J : It} {Q : VK} {W : Nat → Nat → List V → Hp → Prop} {m0 t : Nat} {h₁ : Heap} {m : Str → Option Value} {RR : Result → Shared → Prop}
  (hc : X.calm = true) (hkind : scope.kind = .function) (hx : scope.names.lookup x = some .local) (hnd : (x :: fx).Nodup)
  (hcl : ∀ y c, cl.lookup y = some c → X.env.cells.lookup y = some c) (F : Frees X (relabel scope X.env) cl fx fr)
  (hfx : ((relabel scope X.env).names.all fun p => if (p.2 == .cell || p.2 == .free) then fx.contains p.1 else true) = true)
  (ht : ∀ s H fp, PF (compCx X (x :: fx) scope cl s H fp) ifs tt) (he : ∀ s H fp, PE (compCx X (x :: fx) scope cl s H fp) elt te)
  (I3 : Inv X pins σ H3 s3) (T : Turn X.prog X.w X.K (.Name x px) J fp it tn) (st3 : tn 0 s3.heap) (ffp : ∀ b ∈ fp, FpOk X pins H3 b) (flt3 : ∀ b ∈ fp, b < s3.heap.objs.size)
  (w0 : W 0 m0 [] H3) (turn : ∀ i m ys H2, W i m ys H2 → H2 p = some (.lst ys) ∧
   ((J.stop i H2 ∧ Q (.ref p) H2) ∨ (J.go i H2 ∧ ys.length < sizeLine ∧ ∀ x H3, J.yld i H2 x H3 → tt (some x :: frV σ fr) H3 fun b H4 =>
    if b = true then te (some x :: frV σ fr) H4 fun y H5 => H5 p = some (.lst ys) ∧ ∃ m', m' < m ∧ W (i + 1) m' (ys ++ [y]) (upd H5 p (.lst (ys ++ [y])))
    else ∃ m', m' < m ∧ W (i + 1) m' ys H4)))
  (hns : h₁.Ns s3.heap.objs.size m) (keep1 : ∀ b u, s3.heap.get? b = some u → h₁.get? b = some u)
  (fin : ∀ s6 H5 o, Inv (compCx X (x :: fx) scope cl s3 H3 fp) [] (o :: frV σ fr) H5 s6 → Q (.ref p) H5 → RR (.ok .next) s6) :
  codeAny (model X.prog X.w) X.A (.compStart (.ListComp elt [⟨.Name x px, iter, ifs, 0⟩] scope pos) 0 (.ref it) (.ref p) (compEnvC scope cl s3.heap.objs.size X.env))
   RR { s3 with heap := h₁, toks := t } := by
 have I4 := iqQ (x := x) (t := t) I3 hkind hcl F hfx ffp flt3 hns keep1
 have st4 : tn 0 h₁ := T.keep _ _ _ st3 fun b hb o e => keep1 b o e
 have fp0 : ∀ b ∈ fp, H3 b = none := fun b hb => (ffp b hb).1
 have hcal : (compCx X (x :: fx) scope cl s3 H3 fp).calm = true := hc
 have stat : ∀ {H' : Hp}, (∀ b ∈ fp, H' b = none) → ∀ b ∈ fp, FpOk (compCx X (x :: fx) scope cl s3 H3 fp) [] H' b := fun {H'} hn b hb => by
  obtain ⟨f0, f1, f2, f3, f4, f5⟩ := ffp b hb
  exact ⟨hn b hb, Nat.ne_of_lt (flt3 b hb), I4.ok.exfs b hb, .inl hb, fun y c e => f4 y c (hcl y c e), fun q hq => absurd (show q ∈ ([] : List (Addr × Obj)) from hq) (by simp)⟩
 have hxl : (relabel scope X.env).names.lookup x = some .local := lookup_relabel_local hx
 have pg : PG (compCx X (x :: fx) scope cl s3 H3 fp) (.Name x px) (gName 0) := bql (i := 0) hnd rfl (.inl hxl) (.inr hxl)
 have loop : codeAny (model X.prog X.w) X.A (.compLoop (.ListComp elt [⟨.Name x px, iter, ifs, 0⟩] scope pos) 0 (.ref it) (.ref p) (compEnvC scope cl s3.heap.objs.size X.env))
    RR { s3 with heap := h₁, toks := t } := by
  refine eqR (fun n s' => ∃ i ys H' o, Inv (compCx X (x :: fx) scope cl s3 H3 fp) [] (o :: frV σ fr) H' s' ∧ tn i s'.heap ∧ (∀ b ∈ fp, H' b = none) ∧ W i n ys H') ?_ m0 ⟨0, [], _, none, I4, st4, fp0, w0⟩
  rintro n s5 ⟨i, ys, H5, o, I5, st5, fr5, w5⟩
  obtain ⟨hp5, alt⟩ := turn i n ys H5 w5
  rcases alt with ⟨stop, qn⟩ | ⟨go, hlen, step⟩
  ·refine thn (T.done (compCx X (x :: fx) scope cl s3 H3 fp) rfl rfl rfl hcal i [] s5 (o :: frV σ fr) H5 _ I5 (stat fr5) st5 stop) fun r s6 W' => ?_
   obtain ⟨hr, I6⟩ := W'
   subst hr
   exact fin s6 H5 o I6 qn
  ·refine thn (T.item (compCx X (x :: fx) scope cl s3 H3 fp) rfl rfl rfl hcal i [] s5 (o :: frV σ fr) H5 _ I5 (stat fr5) st5 go) fun r s6 W' => ?_
   obtain ⟨u, hr, h6⟩ := W'
   subst hr
   refine thn h6 fun _ s7 W' => ?_
   obtain ⟨y7, H7, I7, r7, yl7, st7, fr7⟩ := W'
   have I7' := I7.pinned (stat fr7) (T.obj _ _ st7)
   have back : ∀ {σ' : St} {H' : Hp} {s' : Shared}, Inv (compCx X (x :: fx) scope cl s3 H3 fp) ([] ++ pinsAt fp s7.heap) σ' H' s' → tn (i + 1) s'.heap ∧ ∀ b ∈ fp, H' b = none := fun {σ' H' s'} I' => by
    refine ⟨T.keep _ _ _ st7 fun b hb o e => (I'.pin (b, o) (List.mem_append_right _ (List.mem_append_right _ (bq4 hb e)))).1, fun b hb => ?_⟩
    obtain ⟨o, e, d⟩ := T.obj _ _ st7 b hb
    exact (I'.pin (b, o) (List.mem_append_right _ (List.mem_append_right _ (bq4 hb e)))).2.1
   refine thn (pg _ s7 _ H7 y7 u (fun σ' H' => σ' = some y7 :: frV σ fr ∧ H' = H7) I7' r7 ⟨rfl, rfl⟩) fun _ s8 W' => ?_
   obtain ⟨σ8, H8, I8, e8, e8'⟩ := W'
   subst e8 e8'
   refine thn (ht s3 H3 fp _ s8 _ _ _ I8 (step y7 _ yl7)) fun b s9 W' => ?_
   obtain ⟨H9, I9, q9⟩ := W'
   cases b with
   | false =>
    rw [if_neg Bool.false_ne_true] at q9 ⊢
    obtain ⟨m', hm, w9⟩ := q9
    exact ⟨m', hm, i + 1, ys, H9, some y7, I9.unpinned, (back I9).1, (back I9).2, w9⟩
   | true =>
    rw [if_pos rfl] at q9 ⊢
    refine thn (he s3 H3 fp _ s9 _ H9 _ I9 q9) fun u10 s10 W' => ?_
    obtain ⟨y10, H10, I10, r10, hp10, m', hm, w10⟩ := W'
    refine thn (cqc _ s10 _ H10 (.ref p) [y10] (.ref p) [u10] (fun _ H' => H' = upd H10 p (.lst (ys ++ [y10]))) I10 rfl (.cons r10 .nil) ⟨p, ys, y10, rfl, rfl, hp10, hlen, rfl⟩) fun _ s11 W' => ?_
    obtain ⟨_, H11, I11, _, e11⟩ := W'
    subst e11
    exact ⟨m', hm, i + 1, ys ++ [y10], _, some y7, I11.unpinned, (back I11).1, (back I11).2, w10⟩
 exact codeAny_compStart_list loop (T.self _ 0 _ _ _ st4 loop)
theorem cq5 (hc : X.calm = true) (hclos : closureFor scope X.env = pure cl) (hcell : ∀ y ∈ scope.names, y.2 ≠ .cell) (hkind : scope.kind = .function)
  (hnames : ∀ y ∈ scope.names, y.2 = .local → scope.names.lookup y.1 = some .local) (hx : scope.names.lookup x = some .local) (hnd : (x :: fx).Nodup)
  (hk : (cl.all fun q => fx.contains q.1) = true) (F : Frees X (relabel scope X.env) cl fx fr)
  (hfx : ((relabel scope X.env).names.all fun p => if (p.2 == .cell || p.2 == .free) then fx.contains p.1 else true) = true)
  (hi : PI X (.Name x px) iter wi) (ht : ∀ s H fp, PF (compCx X (x :: fx) scope cl s H fp) ifs tt) (he : ∀ s H fp, PE (compCx X (x :: fx) scope cl s H fp) elt te)
  (hs : ∀ x, foldedSetIterable iter X.env x = pure x := by intro _; rfl) :
  PE X (.ListComp elt [⟨.Name x px, iter, ifs, 0⟩] scope pos) (tComp wi fr tt te) := by
 intro pins s σ H Q I h
 have hcl : ∀ y c, cl.lookup y = some c → X.env.cells.lookup y = some c := fun y c e => by
  have q := List.all_eq_true.mp hk _ (PySem.mem_of_lookup e)
  rw [← (F.mem y (by simpa using q)).2]
  exact e
 rw [eval_ListComp]
 refine wpAny_comprehension_free (use := none) rfl hs hclos hkind hnames ?_
 refine thn (hi pins s σ H _ I h) fun v s1 h1 => thn h1 fun itv s2 h2 => ?_
 obtain ⟨it, fp, tn, J, H2, e, I2, T, st2, f2, q2⟩ := h2
 subst e
 have hp0 : H2 s2.heap.objs.size = none := I2.hok.fresh (Nat.le_refl _)
 obtain ⟨W, ⟨m0, w0⟩, turn⟩ := q2 _ hp0
 have flt : ∀ b ∈ fp, b < s2.heap.objs.size := fun b hb => by
  obtain ⟨o, e, _⟩ := T.obj _ _ st2 b hb
  exact Heap.lt_size e
 refine wpAny_newObj_type (wpAny_newFunctionEnv hcell (by intro y hy; simp at hy) (fun h₁ hns₁ hsb₁ => ?_) hkind)
 dsimp only at hns₁ hsb₁ ⊢
 have hlay : ∀ b u, s2.heap.get? b = some u → (s2.heap.push { cls := .type "list", dict := none, data := .seq ([] : List Value).toArray }).get? b = some u := fun b u e => Heap.get?_push_of_some _ e
 have hnew : (s2.heap.push { cls := .type "list", dict := none, data := .seq ([] : List Value).toArray }).get? s2.heap.objs.size = some { cls := .type "list", dict := none, data := .seq ([] : List Value).toArray } := Heap.get?_push_size _ rfl
 have hsz : (s2.heap.push { cls := .type "list", dict := none, data := .seq ([] : List Value).toArray }).objs.size = s2.heap.objs.size + 1 := Heap.size_push _ _
 generalize hHH : s2.heap.push { cls := .type "list", dict := none, data := .seq ([] : List Value).toArray } = HH at hns₁ hsb₁ hlay hnew hsz ⊢
 have I3 : Inv X pins σ (upd H2 s2.heap.objs.size (.lst [])) { s2 with heap := HH, toks := s2.toks } :=
  I2.laid (t' := s2.toks) (o := .lst []) hlay (Nat.le_refl _) ⟨Nat.zero_le _, [], 0, .nil, hnew⟩
 have ffp : ∀ b ∈ fp, FpOk X pins (upd H2 s2.heap.objs.size (.lst [])) b := fun b hb => by
  obtain ⟨f0, fr'⟩ := f2 b hb
  exact ⟨by rw [aqu (Nat.ne_of_lt (flt b hb))]; exact f0, fr'⟩
 have keep1 : ∀ b u, HH.get? b = some u → h₁.get? b = some u := fun b u e => hsb₁.extBut b u (Nat.ne_of_lt (Heap.lt_size e)) (Heap.get?_push_of_some _ e)
 exact fq5 (s3 := { s2 with heap := HH, toks := s2.toks }) hc hkind hx hnd hcl F hfx ht he I3 T (T.keep _ _ _ st2 fun b hb o e => hlay b o e) ffp (fun b hb => by show b < HH.objs.size; rw [hsz]; exact Nat.lt_succ_of_lt (flt b hb)) w0 turn hns₁ keep1 fun s6 H5 o I6 qn => by
  obtain ⟨m, hn6, _⟩ := id I6.loc
  exact ⟨m, hn6, fun h' sb => ⟨.ref _, H5, eqf I3 I6 ffp sb, rfl, qn⟩⟩
theorem lqC {i : Nat} {y : Str} {py spos : Pos} (hN : X.N.Nodup) (hiN : X.N[i]? = some y) (hy : X.env.scope.names.lookup y = some .local)
  (hc : X.calm = true) (hclos : closureFor scope X.env = pure cl) (hcell : ∀ y ∈ scope.names, y.2 ≠ .cell) (hkind : scope.kind = .function)
  (hnames : ∀ y ∈ scope.names, y.2 = .local → scope.names.lookup y.1 = some .local) (hx : scope.names.lookup x = some .local) (hnd : (x :: fx).Nodup)
  (hk : (cl.all fun q => fx.contains q.1) = true) (F : Frees X (relabel scope X.env) cl fx fr)
  (hfx : ((relabel scope X.env).names.all fun p => if (p.2 == .cell || p.2 == .free) then fx.contains p.1 else true) = true)
  (hi : PI X (.Name x px) iter wi) (ht : ∀ s H fp, PF (compCx X (x :: fx) scope cl s H fp) ifs tt) (he : ∀ s H fp, PE (compCx X (x :: fx) scope cl s H fp) elt te)
  (hs : ∀ x, foldedSetIterable iter X.env x = pure x := by intro _; rfl) (hsw : swapsWith (.ListComp elt [⟨.Name x px, iter, ifs, 0⟩] scope pos) (some (.Name y py)) spos.line X.env = pure true := by rfl) :
  PS X (.Assign [.Name y py] (.ListComp elt [⟨.Name x px, iter, ifs, 0⟩] scope pos) spos) (tAsg (tComp wi fr tt te) (gName i)) := by
 intro pins s σ H D I h
 have hcl : ∀ y c, cl.lookup y = some c → X.env.cells.lookup y = some c := fun y c e => by
  have q := List.all_eq_true.mp hk _ (PySem.mem_of_lookup e)
  rw [← (F.mem y (by simpa using q)).2]
  exact e
 rw [exec_Assign_Name_used _ _ _ _ hsw]
 refine wpAny_bind (wpAny_standAt (wpAny_bind ?_))
 show wpAny _ X.A (do let _ ← comprehension (.ListComp elt [⟨.Name x px, iter, ifs, 0⟩] scope pos) scope X.env _ (newList []) false (eval iter X.env) (some (assign (.Name y py) X.env))) _ _ s
 refine wpAny_bind (wpAny_mono (wpAny_comprehension_free (use := some (assign (.Name y py) X.env)) (Q := fun _ s' => SP X pins D .next s') rfl hs hclos hkind hnames ?_) (fun _ s' hq => wpAny_pure (wpAny_pure hq)) fun _ _ e => e)
 refine thn (hi pins s σ H _ I h) fun v s1 h1 => thn h1 fun itv s2 h2 => ?_
 obtain ⟨it, fp, tn, J, H2, e, I2, T, st2, f2, q2⟩ := h2
 subst e
 have hp0 : H2 s2.heap.objs.size = none := I2.hok.fresh (Nat.le_refl _)
 obtain ⟨W, ⟨m0, w0⟩, turn⟩ := q2 _ hp0
 have flt : ∀ b ∈ fp, b < s2.heap.objs.size := fun b hb => by
  obtain ⟨o, e, _⟩ := T.obj _ _ st2 b hb
  exact Heap.lt_size e
 refine wpAny_newObj_type (wpAny_newFunctionEnv hcell (by intro y hy; simp at hy) (fun h₁ hns₁ hsb₁ => ?_) hkind)
 dsimp only at hns₁ hsb₁ ⊢
 have hlay : ∀ b u, s2.heap.get? b = some u → (s2.heap.push { cls := .type "list", dict := none, data := .seq ([] : List Value).toArray }).get? b = some u := fun b u e => Heap.get?_push_of_some _ e
 have hnew : (s2.heap.push { cls := .type "list", dict := none, data := .seq ([] : List Value).toArray }).get? s2.heap.objs.size = some { cls := .type "list", dict := none, data := .seq ([] : List Value).toArray } := Heap.get?_push_size _ rfl
 have hsz : (s2.heap.push { cls := .type "list", dict := none, data := .seq ([] : List Value).toArray }).objs.size = s2.heap.objs.size + 1 := Heap.size_push _ _
 generalize hHH : s2.heap.push { cls := .type "list", dict := none, data := .seq ([] : List Value).toArray } = HH at hns₁ hsb₁ hlay hnew hsz ⊢
 have I3 : Inv X pins σ (upd H2 s2.heap.objs.size (.lst [])) { s2 with heap := HH, toks := s2.toks } :=
  I2.laid (t' := s2.toks) (o := .lst []) hlay (Nat.le_refl _) ⟨Nat.zero_le _, [], 0, .nil, hnew⟩
 have ffp : ∀ b ∈ fp, FpOk X pins (upd H2 s2.heap.objs.size (.lst [])) b := fun b hb => by
  obtain ⟨f0, fr'⟩ := f2 b hb
  exact ⟨by rw [aqu (Nat.ne_of_lt (flt b hb))]; exact f0, fr'⟩
 have keep1 : ∀ b u, HH.get? b = some u → h₁.get? b = some u := fun b u e => hsb₁.extBut b u (Nat.ne_of_lt (Heap.lt_size e)) (Heap.get?_push_of_some _ e)
 exact fq5 (Q := fun x H1 => gName i x σ H1 D.nx) (s3 := { s2 with heap := HH, toks := s2.toks }) hc hkind hx hnd hcl F hfx ht he I3 T (T.keep _ _ _ st2 fun b hb o e => hlay b o e) ffp (fun b hb => by show b < HH.objs.size; rw [hsz]; exact Nat.lt_succ_of_lt (flt b hb)) w0 turn hns₁ keep1 fun s6 H5 o I6 qn => by
  have nC : H5 HH.objs.size = none := I6.free
  have I7 : Inv X pins σ H5 s6 := eqf (h' := s6.heap) I3 I6 ffp ⟨rfl, fun _ _ => rfl⟩
  obtain ⟨f0, f1, f2, f3, f4, f5⟩ := I3.fpOk (H' := H5) (b := HH.objs.size) (Nat.le_refl _) nC
  obtain ⟨m, hn6, _⟩ := id I6.loc
  show wpAny _ X.A (assign (.Name y py) X.env (.ref _)) _ _ s6
  refine wpAny_assign_Name (fqr I7 hN hiN (.inl hy) (v := .ref _) rfl (fun s8 I8 sbx => ?_) (.inr hy))
  obtain ⟨a, sb, ha⟩ := sbx
  have hne : HH.objs.size ≠ a := by
   rcases ha with rfl | ha
   ·exact f1
   ·exact fun z => f4 y a ha z.symm
  refine ⟨m, hn6.sameBut sb hne, fun h' sb' => ?_⟩
  exact ⟨_, H5, I8.turned (t' := s8.toks) (it := HH.objs.size) (fun b o hb e => sb'.extBut b o hb e) f0 f1 f3 f4 f5, qn⟩
end
section
variable {p : Addr} {fv : St} {te : TE} {Q : VK} {H1 : Hp}
theorem iqg {z : Str} (hz : z.length ≤ sizeLine) (hp : H1 p = none) (f : Nat → V)
  (he : ∀ c, c ∈ z.cps.toList → ∀ (H' : Hp) (R : VK), (∀ H'', Same H' H'' → R (f c) H'') → te (some (.str ⟨#[c]⟩) :: fv) H' R)
  (hQ : ∀ H', Same H1 H' → H' p = some (.lst (z.cps.toList.map f)) → Q (.ref p) H') : CompI (Its z) p fv tYes te Q H1 := by
 have hl : z.cps.toList.length = z.length := by simp [Str.length]
 refine ⟨fun i m ys H2 => m = z.length - i ∧ i ≤ z.length ∧ ys = (z.cps.toList.take i).map f ∧ H2 p = some (.lst ys) ∧ Same H1 H2, ⟨z.length, by simp, Nat.zero_le _, by simp, aqq, fun b o e => by rw [aqu (aqo e hp)]; exact e⟩, ?_⟩
 rintro i m ys H2 ⟨rfl, hi, rfl, hp2, sm⟩
 refine ⟨hp2, ?_⟩
 by_cases hlt : i < z.length
 ·refine .inr ⟨hlt, ?_, fun x H3 y => ?_⟩
  ·rw [List.length_map, List.length_take]; omega
  ·obtain ⟨rfl, c, hc, rfl⟩ := y
   unfold tYes
   dsimp only
   rw [if_pos rfl]
   refine he c (List.mem_of_getElem? hc) _ _ fun H5 s5 => ⟨s5 _ _ hp2, z.length - (i + 1), by omega, rfl, hlt, ?_, aqq, fun b o e => ?_⟩
   ·rw [List.take_add_one, hc, List.map_append]; rfl
   ·rw [aqu (aqo e hp)]; exact s5 _ _ (sm _ _ e)
 ·have e : i = z.length := by omega
  subst e
  refine .inl ⟨Nat.le_refl _, hQ H2 sm ?_⟩
  rw [hp2, ← hl, List.take_length]
theorem dqA {z : Str} {tt : TT} (hz : z.length ≤ sizeLine) (hp : H1 p = none) (g : Nat → Bool) (f : Nat → V)
  (ht : ∀ c, c ∈ z.cps.toList → ∀ (H' : Hp) (R : Bool → Hp → Prop), (∀ H'', Same H' H'' → R (g c) H'') → tt (some (.str ⟨#[c]⟩) :: fv) H' R)
  (he : ∀ c, c ∈ z.cps.toList → ∀ (H' : Hp) (R : VK), (∀ H'', Same H' H'' → R (f c) H'') → te (some (.str ⟨#[c]⟩) :: fv) H' R)
  (hQ : ∀ H', Same H1 H' → H' p = some (.lst ((z.cps.toList.filter g).map f)) → Q (.ref p) H') : CompI (Its z) p fv tt te Q H1 := by
 have hl : z.cps.toList.length = z.length := by simp [Str.length]
 refine ⟨fun i m ys H2 => m = z.length - i ∧ i ≤ z.length ∧ ys = ((z.cps.toList.take i).filter g).map f ∧ H2 p = some (.lst ys) ∧ Same H1 H2, ⟨z.length, by simp, Nat.zero_le _, by simp, aqq, fun b o e => by rw [aqu (aqo e hp)]; exact e⟩, ?_⟩
 rintro i m ys H2 ⟨rfl, hi, rfl, hp2, sm⟩
 refine ⟨hp2, ?_⟩
 by_cases hlt : i < z.length
 ·refine .inr ⟨hlt, ?_, fun x H3 y => ?_⟩
  ·rw [List.length_map]
   have := List.length_filter_le g (z.cps.toList.take i)
   rw [List.length_take] at this
   omega
  ·obtain ⟨rfl, c, hc, rfl⟩ := y
   have et : z.cps.toList.take (i + 1) = z.cps.toList.take i ++ [c] := by rw [List.take_add_one, hc]; rfl
   refine ht c (List.mem_of_getElem? hc) _ _ fun H4 s4 => ?_
   cases hg : g c with
   | false =>
    rw [if_neg Bool.false_ne_true]
    refine ⟨z.length - (i + 1), by omega, rfl, hlt, ?_, s4 _ _ hp2, sm.trans s4⟩
    rw [et, List.filter_append, List.filter_cons, hg]
    simp
   | true =>
    rw [if_pos rfl]
    refine he c (List.mem_of_getElem? hc) _ _ fun H5 s5 => ⟨s5 _ _ (s4 _ _ hp2), z.length - (i + 1), by omega, rfl, hlt, ?_, aqq, fun b o e => ?_⟩
    ·rw [et, List.filter_append, List.filter_cons, hg]
     simp
    ·rw [aqu (aqo e hp)]; exact s5 _ _ (s4 _ _ (sm _ _ e))
 ·have e : i = z.length := by omega
  subst e
  refine .inl ⟨Nat.le_refl _, hQ H2 sm ?_⟩
  rw [hp2, ← hl, List.take_length]
end
section
variable {σ : St} {H : Hp} {Q : VK} {K : PySem.W.Frag} {tl te : TE} {tt : TT} {fr : List Nat}
theorem lqt : frV σ [] = [] := rfl
theorem kqO {i : Nat} {r : List Nat} : frV σ (i :: r) = (σ[i]?).getD none :: frV σ r := rfl
theorem mqC {z : Str} {p : Addr} : rJoin K (.str z) [.ref p] H Q ↔ ∃ ys : List Str, SqL K H p (ys.map V.str) ∧ (ys.map (·.length)).sum + ys.length * z.length ≤ 16777216 ∧ Q (.str (Txt.join z ys)) H := by
 constructor
 ·rintro ⟨z', p', ys, h1, h2, h3⟩
  cases h1; cases h2
  exact ⟨ys, h3⟩
 ·rintro ⟨ys, h⟩
  exact ⟨z, p, ys, rfl, rfl, h⟩
theorem kqK : (tComp (iStr tl) fr tt te σ H Q) = (tl σ H fun x H1 => ∃ z, x = .str z ∧ ∀ p, H1 p = none → CompI (Its z) p (frV σ fr) tt te Q H1) := rfl
theorem kqt : (tComp (iList K tl) fr tt te σ H Q) = (tl σ H fun x H1 => ∃ a, x = .ref a ∧ (∃ xs, SqL K H1 a xs) ∧ ∀ p, H1 p = none → CompI (Itl K a) p (frV σ fr) tt te Q H1) := rfl
end
section
variable {X : Cx} {K : PySem.W.Frag}
theorem fqn (h : X.K = K) : OpR X (binaryOp .Add) (rAddU K) := by subst h; exact jqH
theorem aqd (h : X.K = K) : IxR X (rIx K) := by subst h; exact nqF
theorem fqq (h : X.K = K) : SlR X (rSl K) := by subst h; exact mqP
theorem aqr (h : X.K = K) : CallR X (.builtin "len") (rLenU K) := by subst h; exact jqw
theorem eq4 {tg l : Expr} {tl : TE} (h : X.K = K) (hl : PE X l tl) : PI X tg l (iList K tl) := by subst h; exact mqe hl
variable {o e : Expr} {es : List Expr} {to : TE} {t : TA} {name : Str} {apos cpos : Pos} {T id : String} {r : V → List V → Hp → VK → Prop}
theorem cqy (h : X.K = K) (pa : PlainAttrs T) (slot : Slot T name id) (hty : typeOf (.builtin id) = pure (.type "method_descriptor")) (hm : MtR X id r) (ho : PE X o to) (ha : PA X (e :: es) t)
  (hbase : attributeBase o name X.env (eval o X.env) = eval o X.env := by rfl)
  (hfew : ((backTo cpos (starEach (e :: es) X.env)).all (fun x => !x.1) && (backToKw cpos (keywordEach [] X.env)).all (fun x => x.1.isSome)
   && decide ((e :: es).length + ([] : List Keyword).length + (if ([] : List Keyword).isEmpty then 0 else 1) < 30)) = true := by rfl)
  (hline : (apos.endLine == cpos.line) = true := by rfl) (hs : starEach (e :: es) X.env = (false, eval e X.env) :: starEach es X.env := by rfl) (hplain : (backTo cpos (starEach es X.env)).any (·.1) = false := by rfl) :
  PE X (.Call (.Attribute o name apos) (e :: es) [] cpos) (tBM K T r to t) := by
 subst h; exact oqe pa slot hty hm ho ha hbase hfew hline hs hplain
end
structure FunD (K : PySem.W.Frag) (x qual : Str) (st : Stmt) (f : Addr) (fd : FuncData) (T : Addr) : Prop where
 ex : ∃ (oc : Value) (od : Option Addr) (kV doc pm : Value) (an : Option Addr) (cdv ct : Value) (osl : Array (Option Value)),
  fd = PySem.W.fnOf x qual (defArgs st) (defBody st) (defScope st) (.ref T) kV doc pm an cdv ct ∧ K.lookup f = some ⟨oc, od, .func fd, osl⟩ ∧ PySem.W.codeIn K cdv qual = true
 kp : PySem.W.keepIn K (.ref f) = true
section
variable {P : Program} {w : World} {K : PySem.W.Frag} {mg : Str → Option Value} {base : Heap}
end
theorem mqk {c : TT} {tb : TS} {D : Ends} {σ : St} {H : Hp} (W : Nat → St → Hp → Prop) (m0 : Nat) (h0 : W m0 σ H)
  (hs : ∀ m σ H, W m σ H → c σ H fun b H1 => if b = true then ∃ N : St → Hp → Prop, (∀ σ' H', N σ' H' → ∃ m', m' < m ∧ W m' σ' H') ∧ tb { D with nx := N, ct := N, bk := D.nx } σ H1 else D.nx σ H1) : tWhile c tb D σ H := ⟨W, ⟨m0, h0⟩, hs⟩
section
variable {σ : St} {H : Hp} {Q : VK}
theorem oqd {r : V → Hp → VK → Prop} {ta : TE} : (tUn r ta σ H Q) = (ta σ H fun x H1 => r x H1 Q) := rfl
theorem rd_U {g : Int → V} {i : Int} : rU g (.int i) H Q ↔ Q (g i) H := ⟨fun ⟨_, h1, h2⟩ => by cases h1; exact h2, fun h => ⟨i, rfl, h⟩⟩
theorem nqM {l : Addr} {y : V} : rAppend (.ref l) [y] H Q ↔ ∃ xs, H l = some (.lst xs) ∧ xs.length < sizeLine ∧ Q .non (upd H l (.lst (xs ++ [y]))) := by
 constructor
 ·rintro ⟨l', xs, y', h1, h2, h3⟩
  cases h1; cases h2
  exact ⟨xs, h3⟩
 ·rintro ⟨xs, h⟩
  exact ⟨l, xs, y, rfl, rfl, h⟩
theorem mqf {K : PySem.W.Frag} {p : Addr} : tyV K "list" (.ref p) H ↔ ∃ xs, SqL K H p xs := by
 constructor
 ·rintro (⟨_, h⟩ | ⟨h, _⟩ | ⟨h, _⟩ | ⟨h, _⟩)
  ·exact h
  ·exact absurd h (by decide)
  ·exact absurd h (by decide)
  ·exact absurd h (by decide)
 ·intro h; exact .inl ⟨rfl, h⟩
end
mutual
inductive Is (H : Hp) : PyData → V → Prop
 | non : Is H .none .non
 | bl (b : Bool) : Is H (.bool b) (.bl b)
 | int (i : Int) : Is H (.int i) (.int i)
 | str (x : Str) : Is H (.str x) (.str x)
 | lst {p : Addr} {xs : List V} {ds : List PyData} : H p = some (.lst xs) → IsAll H ds xs → Is H (.list ds) (.ref p)
 | tup {p : Addr} {xs : List V} {ds : List PyData} : H p = some (.tup xs) → IsAll H ds xs → Is H (.tuple ds) (.ref p)
inductive IsAll (H : Hp) : List PyData → List V → Prop
 | nil : IsAll H [] []
 | cons {d : PyData} {x : V} {ds : List PyData} {xs : List V} : Is H d x → IsAll H ds xs → IsAll H (d :: ds) (x :: xs)
end
mutual
theorem Is.mono {H H' : Hp} (sm : Same H H') : ∀ {d : PyData} {x : V}, Is H d x → Is H' d x
 | _, _, .non => .non
 | _, _, .bl b => .bl b
 | _, _, .int i => .int i
 | _, _, .str x => .str x
 | _, _, .lst h r => .lst (sm _ _ h) (IsAll.mono sm r)
 | _, _, .tup h r => .tup (sm _ _ h) (IsAll.mono sm r)
theorem IsAll.mono {H H' : Hp} (sm : Same H H') : ∀ {ds : List PyData} {xs : List V}, IsAll H ds xs → IsAll H' ds xs
 | _, _, .nil => .nil
 | _, _, .cons h r => .cons (Is.mono sm h) (IsAll.mono sm r)
end
theorem IsAll.strs {H : Hp} : ∀ (l : List Str), IsAll H (l.map PyData.str) (l.map V.str)
 | [] => .nil
 | x :: r => .cons (.str x) (IsAll.strs r)
section
variable {X : Cx} {pins : List (Addr × Obj)} {σ : St} {H : Hp} {s : Shared}
mutual
theorem Is.reads (I : Inv X pins σ H s) : ∀ {d : PyData} {x : V} {v : Value}, Is H d x → RelV x v → ∃ as, Reads s.heap v d as
 | _, _, _, .non, r => by cases r; exact ⟨_, .none⟩
 | _, _, _, .bl b, r => by cases r; exact ⟨_, .bool b⟩
 | _, _, _, .int i, r => by obtain ⟨t, rfl⟩ := r; exact ⟨_, .int i t⟩
 | _, _, _, .str x, r => by obtain ⟨t, rfl⟩ := r; exact ⟨_, .str x t⟩
 | _, _, _, .lst h q, r => by
  cases r
  obtain ⟨its, vs, ⟨o, n, e, c, _, dt⟩, _⟩ := I.list (SqL.of h)
  obtain ⟨as, ra⟩ := IsAll.reads I q vs
  exact ⟨_, .list e c dt (by simpa using ra)⟩
 | _, _, _, .tup h q, r => by
  cases r
  obtain ⟨its, vs, ⟨o, e, c, n, dt⟩, _⟩ := I.tuple (SqT.of h)
  obtain ⟨as, ra⟩ := IsAll.reads I q vs
  exact ⟨_, .tuple e c dt (by simpa using ra)⟩
theorem IsAll.reads (I : Inv X pins σ H s) : ∀ {ds : List PyData} {xs : List V} {vs : List Value}, IsAll H ds xs → Vals xs vs → ∃ as, ReadsAll s.heap vs ds as
 | _, _, _, .nil, r => by cases r; exact ⟨_, .nil⟩
 | _, _, _, .cons q t, r => by
  cases r with
  | cons r1 r2 =>
   obtain ⟨as, h1⟩ := Is.reads I q r1
   obtain ⟨bs, h2⟩ := IsAll.reads I t r2
   exact ⟨_, .cons h1 h2⟩
end
def rEqD : R2 := fun x y H Q => ∃ d e, Is H d x ∧ Is H e y ∧ SeqAt.shaped d = true ∧ SeqAt.shaped e = true ∧ Q (.bl (PyData.eqv d e)) H
def rNeD : R2 := fun x y H Q => ∃ d e, Is H d x ∧ Is H e y ∧ SeqAt.shaped d = true ∧ SeqAt.shaped e = true ∧ Q (.bl (!PyData.eqv d e)) H
theorem fq3 (hu : X.A.units + 64 < cLine) : OpR X (compareOp .Eq) rEqD := by
 intro pins s σ H x y v u Q I rx ry h
 obtain ⟨d, e, hx, hy, sx, sy, q⟩ := h
 obtain ⟨as, ra⟩ := hx.reads I rx
 obtain ⟨bs, rb⟩ := hy.reads I ry
 exact eq_dataH ra rb sx sy hu ⟨.bl _, H, I, rfl, q⟩
theorem iqc (hu : X.A.units + 64 < cLine) : OpR X (compareOp .NotEq) rNeD := by
 intro pins s σ H x y v u Q I rx ry h
 obtain ⟨d, e, hx, hy, sx, sy, q⟩ := h
 obtain ⟨as, ra⟩ := hx.reads I rx
 obtain ⟨bs, rb⟩ := hy.reads I ry
 exact ne_dataH ra rb sx sy hu ⟨.bl _, H, I, rfl, q⟩
end
mutual
inductive IsT (H : Hp) : PyData → V → Prop
 | non : IsT H .none .non
 | bl (b : Bool) : IsT H (.bool b) (.bl b)
 | int (i : Int) : IsT H (.int i) (.int i)
 | str (x : Str) : IsT H (.str x) (.str x)
 | tup {p : Addr} {xs : List V} {ds : List PyData} : H p = some (.tup xs) → IsTAll H ds xs → IsT H (.tuple ds) (.ref p)
inductive IsTAll (H : Hp) : List PyData → List V → Prop
 | nil : IsTAll H [] []
 | cons {d : PyData} {x : V} {ds : List PyData} {xs : List V} : IsT H d x → IsTAll H ds xs → IsTAll H (d :: ds) (x :: xs)
end
def SameT (H H' : Hp) : Prop := ∀ b xs, H b = some (.tup xs) → H' b = some (.tup xs)
theorem Same.toT {H H' : Hp} (h : Same H H') : SameT H H' := fun b xs e => h b _ e
theorem SameT.trans {H H' H'' : Hp} (h : SameT H H') (h' : SameT H' H'') : SameT H H'' := fun b xs e => h' b xs (h b xs e)
mutual
theorem IsT.mono {H H' : Hp} (sm : SameT H H') : ∀ {d : PyData} {x : V}, IsT H d x → IsT H' d x
 | _, _, .non => .non
 | _, _, .bl b => .bl b
 | _, _, .int i => .int i
 | _, _, .str x => .str x
 | _, _, .tup h r => .tup (sm _ _ h) (IsTAll.mono sm r)
theorem IsTAll.mono {H H' : Hp} (sm : SameT H H') : ∀ {ds : List PyData} {xs : List V}, IsTAll H ds xs → IsTAll H' ds xs
 | _, _, .nil => .nil
 | _, _, .cons h r => .cons (IsT.mono sm h) (IsTAll.mono sm r)
end
mutual
theorem IsT.is {H : Hp} : ∀ {d : PyData} {x : V}, IsT H d x → Is H d x
 | _, _, .non => .non
 | _, _, .bl b => .bl b
 | _, _, .int i => .int i
 | _, _, .str x => .str x
 | _, _, .tup h r => .tup h (IsTAll.is r)
theorem IsTAll.is {H : Hp} : ∀ {ds : List PyData} {xs : List V}, IsTAll H ds xs → IsAll H ds xs
 | _, _, .nil => .nil
 | _, _, .cons h r => .cons (IsT.is h) (IsTAll.is r)
end
section
variable {p : Addr} {fv : St} {te : TE} {Q : VK} {H1 : Hp}
inductive All2 (R : V → V → Hp → Prop) (H : Hp) : List V → List V → Prop
 | nil : All2 R H [] []
 | cons {x y : V} {xs ys : List V} : R x y H → All2 R H xs ys → All2 R H (x :: xs) (y :: ys)
end
section
variable {X : Cx}
def rAllB (K : PySem.W.Frag) : List V → Hp → VK → Prop := fun vs H Q => ∃ (p : Addr) (bs : List Bool), vs = [.ref p] ∧ SqL K H p (bs.map V.bl) ∧ Q (.bl (bs.all id)) H
def rAnyB (K : PySem.W.Frag) : List V → Hp → VK → Prop := fun vs H Q => ∃ (p : Addr) (bs : List Bool), vs = [.ref p] ∧ SqL K H p (bs.map V.bl) ∧ Q (.bl (bs.any id)) H
theorem kqV {bs : List Bool} : ∀ {us : List Value}, Vals (bs.map V.bl) us → ∀ (i : Nat) (v : Value), us[i]? = some v → ∃ b, bs[i]? = some b ∧ v = .bool b := by
 induction bs with
 | nil => intro us r i v h; rw [List.map_nil] at r; cases r; simp at h
 | cons b bs ih =>
  intro us r i v h
  rw [List.map_cons] at r
  cases r with
  | cons r1 r2 =>
   cases i with
   | zero => simp at h; subst h; exact ⟨b, rfl, r1⟩
   | succ i =>
    obtain ⟨c, h1, h2⟩ := ih r2 i v (by simpa using h)
    exact ⟨c, by simpa using h1, h2⟩
theorem jqU (hc : X.calm = true) : CallR X (.builtin "all") (rAllB X.K) := by
 intro pins s σ H xs us Q I r h
 obtain ⟨p, bs, rfl, hq, q⟩ := h
 obtain ⟨u, rfl, ru⟩ := vals1 r
 cases ru
 obtain ⟨its, vs, pl, hl⟩ := I.list hq
 have hI := pl.isList
 have hlt : p < s.heap.objs.size := by obtain ⟨_, e, _⟩ := hI; exact Heap.lt_size e
 refine call_all_walk (wpAny_pyIter_list hI ?_)
 refine ⟨s.heap.objs.size, [s.heap.objs.size, p], [s.heap.objs.size], its.toArray.size, _, _, fun i => (bs[i]?).getD true, rfl, Walks.list (A := X.A.in1) (I.ok.hd hc) _ p (Nat.ne_of_lt hlt) its.toArray,
  ⟨⟨_, Heap.get?_push_size _ rfl, rfl, rfl⟩, hI.push _⟩, fun i v s' Q' E' hP hQ => ?_, fun h' tk hk => ?_⟩
 ·obtain ⟨b, e, rfl⟩ := kqV vs i v (by simpa using hP)
  simp only [e, Option.getD_some] at hQ
  exact wpAny_truthy_bool hQ
 ·have hbl := vs.length
  rw [List.length_map] at hbl
  have e : ((List.range its.toArray.size).all fun i => (bs[i]?).getD true) = bs.all id := by
   rw [List.size_toArray, ← hbl]; exact PyProof.Rows.LSm.range_all bs
  exact ⟨.bl _, H, I.kept (t' := tk) (PyProof.Rows.LSm.kept_iter hk), rfl, by rw [e]; exact q⟩
variable {K : PySem.W.Frag}
theorem iq4 (h : X.K = K) (hc : X.calm = true) : CallR X (.builtin "all") (rAllB K) := by subst h; exact jqU hc
def rListU (K : PySem.W.Frag) : List V → Hp → VK → Prop := fun xs H Q => ∃ p ys, xs = [.ref p] ∧ (SqL K H p ys ∨ SqT K H p ys) ∧ ∀ l, H l = none → Q (.ref l) (upd H l (.lst ys))
def rTupleU (K : PySem.W.Frag) : List V → Hp → VK → Prop := fun xs H Q => ∃ p ys, xs = [.ref p] ∧ ((SqL K H p ys ∧ ∀ l, H l = none → Q (.ref l) (upd H l (.tup ys))) ∨ (SqT K H p ys ∧ Q (.ref p) H))
theorem lqr {tg l : Expr} {tl : TE} (h : X.K = K) (hl : PE X l tl) : PI X tg l (iTup K tl) := by subst h; exact nqz hl
end
section
variable {H : Hp} {Q : VK} {K : PySem.W.Frag}
theorem lq2 {x : V} {T : String} : (rIsiU [x, .ty T] H Q) = (∃ k, kindV x H = some k ∧ T ∈ ["bool", "int", "str", "list", "tuple"] ∧ Q (.bl (subT k T)) H) := rfl
theorem kqS : kindV .non H = some "NoneType" := rfl
theorem lqx {b : Bool} : kindV (.bl b) H = some "bool" := rfl
theorem kq5 {i : Int} : kindV (.int i) H = some "int" := rfl
theorem kqn {x : Str} : kindV (.str x) H = some "str" := rfl
theorem jqp : ("bool" ∈ ["bool", "int", "str", "list", "tuple"]) = True := by simp
theorem kqp : ("int" ∈ ["bool", "int", "str", "list", "tuple"]) = True := by simp
theorem kqB : ("str" ∈ ["bool", "int", "str", "list", "tuple"]) = True := by simp
theorem jqR : ("list" ∈ ["bool", "int", "str", "list", "tuple"]) = True := by simp
theorem iqK : ("tuple" ∈ ["bool", "int", "str", "list", "tuple"]) = True := by simp
theorem eqG : subT "NoneType" "bool" = false := by decide
theorem eqZ : subT "NoneType" "int" = false := by decide
theorem eqX : subT "NoneType" "str" = false := by decide
theorem eqD : subT "NoneType" "list" = false := by decide
theorem eqk : subT "NoneType" "tuple" = false := by decide
theorem gqD : subT "bool" "bool" = true := by decide
theorem gqU : subT "bool" "int" = true := by decide
theorem gq4 : subT "bool" "str" = false := by decide
theorem gqz : subT "bool" "list" = false := by decide
theorem fqV : subT "bool" "tuple" = false := by decide
theorem gqT : subT "int" "bool" = false := by decide
theorem hqx : subT "int" "int" = true := by decide
theorem hqX : subT "int" "str" = false := by decide
theorem gqX : subT "int" "list" = false := by decide
theorem gql : subT "int" "tuple" = false := by decide
theorem gqR : subT "str" "bool" = false := by decide
theorem hqK : subT "str" "int" = false := by decide
theorem hqR : subT "str" "str" = true := by decide
theorem hql : subT "str" "list" = false := by decide
theorem gqB : subT "str" "tuple" = false := by decide
theorem gqI : subT "list" "bool" = false := by decide
theorem gqM : subT "list" "int" = false := by decide
theorem hqa : subT "list" "str" = false := by decide
theorem gqE : subT "list" "list" = true := by decide
theorem fqU : subT "list" "tuple" = false := by decide
theorem fqS : subT "tuple" "bool" = false := by decide
theorem gqq : subT "tuple" "int" = false := by decide
theorem gqG : subT "tuple" "str" = false := by decide
theorem fqR : subT "tuple" "list" = false := by decide
theorem fqd : subT "tuple" "tuple" = true := by decide
theorem lqS {n : Nat} {t : TGs} {v : V} {σ : St} {R : St → Hp → Prop} : (gTup K n t v σ H R) = (∃ a xs, v = .ref a ∧ SqT K H a xs ∧ xs.length = n ∧ t xs σ H R) := rfl
theorem kq8 {t : TG} {u : TGs} {vs : List V} {σ : St} {R : St → Hp → Prop} : (gCons t u vs σ H R) = (∃ v r, vs = v :: r ∧ t v σ H fun σ' H' => u r σ' H' R) := rfl
theorem lq4 {vs : List V} {σ : St} {R : St → Hp → Prop} : (gNil vs σ H R) = (vs = [] ∧ R σ H) := rfl
theorem lqz {to ti : TE} {t : TSet} {v : V} {σ : St} {R : St → Hp → Prop} : (gSub to ti t v σ H R) = (to σ H fun o H1 => ti σ H1 fun i H2 => t o i v H2 fun H3 => R σ H3) := rfl
theorem mqs {p : Addr} {k : Int} {v : V} {R : Hp → Prop} : rSetL (.ref p) (.int k) v H R ↔ ∃ xs j, H p = some (.lst xs) ∧ ixN xs.length k = some j ∧ R (upd H p (.lst (xs.set j v))) := by
 constructor
 ·rintro ⟨p', xs, k', j, h1, h2, h3⟩; cases h1; cases h2; exact ⟨xs, j, h3⟩
 ·rintro ⟨xs, j, h⟩; exact ⟨p, xs, k, j, rfl, rfl, h⟩
end
section
variable {X : Cx} {K : PySem.W.Frag}
theorem iq2 {es : List Expr} {k : Nat} {t : TGs} {n : Nat} {pos : Pos} (h : X.K = K) (hc : X.calm = true) (hg : PGs X es t)
  (hn : (assignEach es X.env).length = n := by rfl) (hst : (assignEach es X.env).findIdx? (·.1) = none := by rfl) : PG X (.Tuple es k pos) (gTup K n t) := by
 subst h; exact lqe hc hg hn hst
end
def SameBut (p : Addr) (H H' : Hp) : Prop := ∀ b o, b ≠ p → H b = some o → H' b = some o
theorem SameBut.trans {p : Addr} {H H' H'' : Hp} (h : SameBut p H H') (h' : SameBut p H' H'') : SameBut p H H'' := fun b o n e => h' b o n (h b o n e)
theorem Same.but {p : Addr} {H H' : Hp} (h : Same H H') : SameBut p H H' := fun b o _ e => h b o e
theorem cqQ {p : Addr} {H : Hp} {o : HO} : SameBut p H (upd H p o) := fun b u n e => by rw [aqu n]; exact e
theorem SameBut.same {p : Addr} {H H' : Hp} (h : SameBut p H H') (hp : H p = none) : Same H H' := fun b o e => h b o (aqo e hp) e
section
variable {p : Addr} {fv : St} {te : TE} {Q : VK} {H1 : Hp} {K : PySem.W.Frag}
theorem Same.tup {H H' : Hp} {a : Addr} {xs : List V} (e : Same H H') (h : SqT K H a xs) : SqT K H' a xs := by
 rcases h with (h | ⟨o, h⟩) | h
 ·exact .inl (.inl (e _ _ h))
 ·exact .inl (.inr ⟨o, e _ _ h⟩)
 ·exact .inr h
variable {σ : St} {H : Hp} {tl : TE} {tt : TT} {fr : List Nat} {g : TG} {tb : TS} {D : Ends}
theorem kqX : (tComp (iTup K tl) fr tt te σ H Q) = (tl σ H fun x H1 => ∃ a, x = .ref a ∧ (∃ xs, SqT K H1 a xs) ∧ ∀ p, H1 p = none → CompI (Itt K a) p (frV σ fr) tt te Q H1) := rfl
theorem lqI : (tFor (iTup K te) g tb D σ H) = (te σ H fun x H1 => ∃ a, x = .ref a ∧ (∃ xs, SqT K H1 a xs) ∧ LoopI (Itt K a) g tb D σ H1) := rfl
theorem jqx {a : Addr} : rAllB K [.ref a] H Q ↔ ∃ bs : List Bool, SqL K H a (bs.map V.bl) ∧ Q (.bl (bs.all id)) H := by
 constructor
 ·rintro ⟨p, bs, h1, h2⟩; cases h1; exact ⟨bs, h2⟩
 ·rintro ⟨bs, h⟩; exact ⟨a, bs, rfl, h⟩
theorem lqq {a : Addr} : rAnyB K [.ref a] H Q ↔ ∃ bs : List Bool, SqL K H a (bs.map V.bl) ∧ Q (.bl (bs.any id)) H := by
 constructor
 ·rintro ⟨p, bs, h1, h2⟩; cases h1; exact ⟨bs, h2⟩
 ·rintro ⟨bs, h⟩; exact ⟨a, bs, rfl, h⟩
theorem nqT {a : Addr} : rListU K [.ref a] H Q ↔ ∃ ys, (SqL K H a ys ∨ SqT K H a ys) ∧ ∀ l, H l = none → Q (.ref l) (upd H l (.lst ys)) := by
 constructor
 ·rintro ⟨p, bs, h1, h2⟩; cases h1; exact ⟨bs, h2⟩
 ·rintro ⟨bs, h⟩; exact ⟨a, bs, rfl, h⟩
theorem nqL {a : Addr} : rTupleU K [.ref a] H Q ↔ ∃ ys, (SqL K H a ys ∧ ∀ l, H l = none → Q (.ref l) (upd H l (.tup ys))) ∨ (SqT K H a ys ∧ Q (.ref a) H) := by
 constructor
 ·rintro ⟨p, bs, h1, h2⟩; cases h1; exact ⟨bs, h2⟩
 ·rintro ⟨bs, h⟩; exact ⟨a, bs, rfl, h⟩
theorem lqH {a : Addr} {lo hi : Option Int} : rSlT K (.ref a) lo hi H Q ↔ ∃ xs, SqT K H a xs ∧ ¬ (HT.sIx xs.length 0 lo = 0 ∧ HT.sIx xs.length xs.length hi = xs.length) ∧ ∀ p, H p = none → Q (.ref p) (upd H p (.tup (cutV xs lo hi))) := by
 constructor
 ·rintro ⟨p, bs, h1, h2⟩; cases h1; exact ⟨bs, h2⟩
 ·rintro ⟨bs, h⟩; exact ⟨a, bs, rfl, h⟩
end
def tCut (t u : TS) : TS := fun D σ H => ∃ P : St → Hp → Prop, t { D with nx := P } σ H ∧ ∀ σ' H', P σ' H' → u D σ' H'
section
variable {X : Cx} {st : Stmt} {rest : List Stmt} {t u : TS}
theorem bqn (h1 : PS X st t) (h2 : PSs X rest u) : PSs X (st :: rest) (tCut t u) := by
 intro pins s σ H D I h
 obtain ⟨P, h, hu⟩ := h
 refine wpAny_execs_cons (thn (h1 pins s σ H { D with nx := P } I h) fun f s1 q => ?_)
 cases f with
 | next =>
  obtain ⟨σ', H', I', q⟩ := q
  exact h2 pins s1 σ' H' D I' (hu _ _ q)
 | ret v => exact q
 | brk => exact q
 | cont => exact q
def Later (u : TS) (D : Ends) (σ : St) (H : Hp) : Prop := u D σ H
theorem kql {D : Ends} {x : Option V} {σ : St} {H : Hp} : (Later u D (x :: σ) H) = (u D (x :: σ) H) := rfl
theorem nqf {D : Ends} {σ : St} {H : Hp} : (tCut t u D σ H) = (∃ P : St → Hp → Prop, t { D with nx := P } σ H ∧ ∀ σ' H', P σ' H' → Later u D σ' H') := rfl
end
theorem bqt {H : Hp} {p : Addr} {o : HO} (hp : H p = none) : Same H (upd H p o) := fun b u e => by rw [aqu (aqo e hp)]; exact e
def tTupS (t : TA) : TE := fun σ H Q => t σ H fun xs H1 => xs.length ≤ sizeLine ∧ ∀ p H', H1 p = none → Same H1 H' → H' p = some (.tup xs) → Q (.ref p) H'
def tLstS (t : TA) : TE := fun σ H Q => t σ H fun xs H1 => xs.length ≤ sizeLine ∧ ∀ p H', H1 p = none → Same H1 H' → H' p = some (.lst xs) → Q (.ref p) H'
section
variable {X : Cx} {es : List Expr} {t : TA} {pos : Pos} {K : PySem.W.Frag}
theorem aqy {x1} (h : PA X es t) : PE X (.Tuple es x1 pos) (tTupS t) := by
 intro pins s σ H Q I hq
 refine wpAny_Tuple_spliced (thn (h pos pins s σ H _ I hq) fun us s1 ⟨xs, H1, I1, r, z, q⟩ => ⟨by rw [← r.length]; exact z, ?_⟩)
 have hf : H1 s1.heap.objs.size = none := I1.hok.fresh (Nat.le_refl _)
 refine ⟨.ref s1.heap.objs.size, upd H1 s1.heap.objs.size (.tup xs), I1.laid (t' := s1.toks) (fun b u e => Heap.get?_push_of_some _ e) (Nat.le_refl _) ?_, rfl, q _ _ hf (bqt hf) aqq⟩
 exact ⟨z, us, r, ⟨_, Heap.get?_push_size _ rfl, rfl, _, rfl⟩⟩
theorem aqG (h : PA X es t) : PE X (.List es pos) (tLstS t) := by
 intro pins s σ H Q I hq
 refine wpAny_List_spliced (thn (h pos pins s σ H _ I hq) fun us s1 ⟨xs, H1, I1, r, z, q⟩ => ⟨by rw [← r.length]; exact z, ?_⟩)
 have hf : H1 s1.heap.objs.size = none := I1.hok.fresh (Nat.le_refl _)
 refine ⟨.ref s1.heap.objs.size, upd H1 s1.heap.objs.size (.lst xs), I1.laid (t' := s1.toks) (fun b u e => Heap.get?_push_of_some _ e) (Nat.le_refl _) ?_, rfl, q _ _ hf (bqt hf) aqq⟩
 exact ⟨z, us, 0, r, Heap.get?_push_size _ rfl⟩
def rAddS (K : PySem.W.Frag) : R2 := fun x y H Q => match x, y with
 | .int i, .int j => Q (.int (i + j)) H
 | .str i, .str j => i.length + j.length ≤ sizeLine ∧ Q (.str (i ++ j)) H
 | .ref a, .ref b => (∃ xs zs, H a = some (.lst xs) ∧ H b = some (.lst zs) ∧ xs.length + zs.length ≤ sizeLine ∧ ∀ p H', H p = none → Same H H' → H' p = some (.lst (xs ++ zs)) → Q (.ref p) H') ∨
   (∃ xs ys, H a = some (.tup xs) ∧ H b = some (.tup ys) ∧ xs.length + ys.length ≤ sizeLine ∧ ∀ p H', Same H H' → H' p = some (.tup (xs ++ ys)) → Q (.ref p) H')
 | _, _ => False
theorem aqH : OpR X (binaryOp .Add) (rAddS K) := by
 intro pins s σ H x y v u Q I rx ry h
 refine jqH pins s σ H x y v u Q I rx ry ?_
 cases x with
 | int i =>
  cases y with
  | int j => exact h
  | _ => exact h.elim
 | str i =>
  cases y with
  | str j => exact h
  | _ => exact h.elim
 | ref a =>
  cases y with
  | ref b =>
   rcases h with ⟨xs, zs, h1, h2, h3, h4⟩ | h
   ·exact .inl ⟨xs, zs, h1, h2, h3, fun p hp => h4 p _ hp (bqt hp) aqq⟩
   ·exact .inr h
  | _ => exact h.elim
 | _ => exact h.elim
def rListS (K : PySem.W.Frag) : List V → Hp → VK → Prop := fun xs H Q => ∃ p ys, xs = [.ref p] ∧ (SqL K H p ys ∨ SqT K H p ys) ∧ ∀ l H', H l = none → Same H H' → H' l = some (.lst ys) → Q (.ref l) H'
def rTupleS (K : PySem.W.Frag) : List V → Hp → VK → Prop := fun xs H Q => ∃ p ys, xs = [.ref p] ∧ (SqL K H p ys ∨ H p = some (.tup ys)) ∧ ∀ l H', Same H H' → H' l = some (.tup ys) → Q (.ref l) H'
theorem gqd (h : X.K = K) : CallR X (.type "list") (rListS K) := by
 subst h
 intro pins s σ H xs us Q I r h
 obtain ⟨p, ys, h1, h2, h3⟩ := h
 exact hqp pins s σ H xs us Q I r ⟨p, ys, h1, h2, fun l hl => h3 l _ hl (bqt hl) aqq⟩
theorem dq4 (h : X.K = K) : CallR X (.type "tuple") (rTupleS K) := by
 subst h
 intro pins s σ H xs us Q I r h
 obtain ⟨p, ys, h1, h2, h3⟩ := h
 rcases h2 with h2 | h2
 ·exact eqn pins s σ H xs us Q I r ⟨p, ys, h1, .inl ⟨h2, fun l hl => h3 l _ (bqt hl) aqq⟩⟩
 ·exact eqn pins s σ H xs us Q I r ⟨p, ys, h1, .inr ⟨SqT.of h2, h3 p H (Same.refl _) h2⟩⟩
def rSlS2 (K : PySem.W.Frag) : V → Option Int → Option Int → Hp → VK → Prop := fun x lo hi H Q => ∃ a xs, x = .ref a ∧ SqT K H a xs ∧
 ¬ (HT.sIx xs.length 0 lo = 0 ∧ HT.sIx xs.length xs.length hi = xs.length) ∧ ∀ p H', H p = none → Same H H' → H' p = some (.tup (cutV xs lo hi)) → Q (.ref p) H'
end
section
variable {σ : St} {H : Hp} {Q : VK} {K : PySem.W.Frag} {aa : TA}
theorem mqt : (tTupS aa σ H Q) = (aa σ H fun xs H1 => xs.length ≤ sizeLine ∧ ∀ p H', H1 p = none → Same H1 H' → H' p = some (.tup xs) → Q (.ref p) H') := rfl
theorem mqu : (tLstS aa σ H Q) = (aa σ H fun xs H1 => xs.length ≤ sizeLine ∧ ∀ p H', H1 p = none → Same H1 H' → H' p = some (.lst xs) → Q (.ref p) H') := rfl
theorem jq0 {i j : Int} : (rAddS K (.int i) (.int j) H Q) = (Q (.int (i + j)) H) := rfl
theorem jqd {i j : Str} : (rAddS K (.str i) (.str j) H Q) = (i.length + j.length ≤ sizeLine ∧ Q (.str (i ++ j)) H) := rfl
theorem lqT {a : Addr} : rListS K [.ref a] H Q ↔ ∃ ys, (SqL K H a ys ∨ SqT K H a ys) ∧ ∀ l H', H l = none → Same H H' → H' l = some (.lst ys) → Q (.ref l) H' := by
 constructor
 ·rintro ⟨p, bs, h1, h2⟩; cases h1; exact ⟨bs, h2⟩
 ·rintro ⟨bs, h⟩; exact ⟨a, bs, rfl, h⟩
theorem lqo {a : Addr} : rTupleS K [.ref a] H Q ↔ ∃ ys, (SqL K H a ys ∨ H a = some (.tup ys)) ∧ ∀ l H', Same H H' → H' l = some (.tup ys) → Q (.ref l) H' := by
 constructor
 ·rintro ⟨p, bs, h1, h2⟩; cases h1; exact ⟨bs, h2⟩
 ·rintro ⟨bs, h⟩; exact ⟨a, bs, rfl, h⟩
theorem lqF {a : Addr} {lo hi : Option Int} : rSlS2 K (.ref a) lo hi H Q ↔ ∃ xs, SqT K H a xs ∧ ¬ (HT.sIx xs.length 0 lo = 0 ∧ HT.sIx xs.length xs.length hi = xs.length) ∧ ∀ p H', H p = none → Same H H' → H' p = some (.tup (cutV xs lo hi)) → Q (.ref p) H' := by
 constructor
 ·rintro ⟨p, bs, h1, h2⟩; cases h1; exact ⟨bs, h2⟩
 ·rintro ⟨bs, h⟩; exact ⟨a, bs, rfl, h⟩
end
def rSlLS (K : PySem.W.Frag) : V → Option Int → Option Int → Hp → VK → Prop := fun x lo hi H Q => ∃ a xs, x = .ref a ∧ SqL K H a xs ∧ ∀ p H', H p = none → Same H H' → H' p = some (.lst (cutV xs lo hi)) → Q (.ref p) H'
theorem kqW {X : Cx} {K : PySem.W.Frag} (h : X.K = K) : SlR X (rSlLS K) := by
 subst h
 intro pins s σ H x v vl vu lo hi sl Q I rx hs pl pu h
 obtain ⟨a, xs, h1, h2, h3⟩ := h
 exact jqj pins s σ H x v vl vu lo hi sl Q I rx hs pl pu ⟨a, xs, h1, h2, fun p hp => h3 p _ hp (bqt hp) aqq⟩
theorem kqe {K : PySem.W.Frag} {H : Hp} {Q : VK} {a : Addr} {lo hi : Option Int} : rSlLS K (.ref a) lo hi H Q ↔ ∃ xs, SqL K H a xs ∧ ∀ p H', H p = none → Same H H' → H' p = some (.lst (cutV xs lo hi)) → Q (.ref p) H' := by
 constructor
 ·rintro ⟨p, bs, h1, h2⟩; cases h1; exact ⟨bs, h2⟩
 ·rintro ⟨bs, h⟩; exact ⟨a, bs, rfl, h⟩
def rIsB (neg : Bool) : R2 := fun x y H Q => match x, y with
 | .bl b, .bl c => Q (.bl (if neg then !decide (b = c) else decide (b = c))) H
 | _, _ => False
theorem nqV {b c : Bool} {H : Hp} {Q : VK} : (rIsB false (.bl b) (.bl c) H Q) = (Q (.bl (decide (b = c))) H) := rfl
end L2
namespace Wm
open PySem L2
def isSg (c : Nat) : Bool := decide (32 ≤ c) && decide (c ≤ 126) && !decide (c = 37)
def SG : List Nat := (List.range 127).filter isSg
def hexd (n : Nat) : Nat := if n < 10 then 48 + n else 87 + n
def fig (a : Nat) : Option Nat := if 48 ≤ a ∧ a ≤ 57 then some (a - 48) else if 97 ≤ a ∧ a ≤ 102 then some (a - 87) else if 65 ≤ a ∧ a ≤ 70 then some (a - 55) else none
abbrev one (c : Nat) : V := .str ⟨#[c]⟩
theorem nqw {c : Nat} : c ∈ SG ↔ isSg c = true := by
 unfold SG
 rw [List.mem_filter, List.mem_range]
 constructor
 ·exact fun h => h.2
 ·intro h
  refine ⟨?_, h⟩
  simp only [isSg, Bool.and_eq_true, decide_eq_true_eq] at h
  omega
theorem mqv {c : Nat} (h : isSg c = true) : 32 ≤ c ∧ c ≤ 126 ∧ c ≠ 37 := by
 simp only [isSg, Bool.and_eq_true, decide_eq_true_eq, Bool.not_eq_true', decide_eq_false_iff_not] at h
 omega
theorem gqZ (l : List Nat) (a : Nat) : ∀ k, ((List.range k).map fun j => a + j).filterMap (fun i => l[i]?) = (l.drop a).take k
 | 0 => by simp
 | k + 1 => by
  rw [List.range_succ, List.map_append, List.filterMap_append, gqZ l a k, List.take_add_one, List.getElem?_drop]
  simp only [List.map_cons, List.map_nil]
  cases e : l[a + k]? with
  | none => simp [e]
  | some c => simp [e]
def clipI (n : Nat) (v : Int) : Nat := (max 0 (min (if v < 0 then v + n else v) n)).toNat
theorem kqh (a b : Nat) : sliceRange (a : Int) (b : Int) 1 = (List.range (b - a)).map fun j => a + j := by
 unfold sliceRange
 have h1 : (1 : Int) > 0 := by decide
 simp only [h1, if_true, Int.one_mul, Int.ediv_one]
 have e : (if (a : Int) < (b : Int) then (b : Int) - (a : Int) + 1 - 1 else 0).toNat = b - a := by split <;> omega
 rw [e]
 apply List.map_congr_left
 intro j _
 omega
theorem hqG (lo hi : Option Int) (n : Nat) : Builtin.Str.strSliceIndices lo hi 1 n = (List.range ((hi.elim n (clipI n)) - (lo.elim 0 (clipI n)))).map fun j => (lo.elim 0 (clipI n)) + j := by
 unfold Builtin.Str.strSliceIndices
 have h1 : (1 : Int) > 0 := by decide
 simp only [h1, if_true]
 rw [← kqh]
 congr 1
 ·cases lo with
  | none => rfl
  | some v => simp only [Option.elim_some, clipI]; omega
 ·cases hi with
  | none => rfl
  | some v => simp only [Option.elim_some, clipI]; omega
theorem hqe (l : List Nat) (lo hi : Option Int) : Txt.slice (⟨l.toArray⟩ : Str) lo hi = ⟨((l.drop (lo.elim 0 (clipI l.length))).take ((hi.elim l.length (clipI l.length)) - (lo.elim 0 (clipI l.length)))).toArray⟩ := by
 have hl : (⟨l.toArray⟩ : Str).length = l.length := by simp [Str.length]
 have hb : hi.elim l.length (clipI l.length) ≤ l.length := by
  cases hi with
  | none => exact Nat.le_refl _
  | some v => simp only [Option.elim_some, clipI]; omega
 have hb' : lo.elim 0 (clipI l.length) ≤ l.length := by
  cases lo with
  | none => exact Nat.zero_le _
  | some v => simp only [Option.elim_some, clipI]; omega
 have ef : (fun i : Nat => (⟨l.toArray⟩ : Str).cps[i]?) = fun i => l[i]? := by funext i; simp
 unfold Txt.slice
 rw [hl, hqG, ef]
 split
 ·rename_i h
  simp only [List.length_map, List.length_range, beq_self_eq_true, Bool.true_and, beq_iff_eq] at h
  have e1 : lo.elim 0 (clipI l.length) = 0 := by omega
  have e2 : hi.elim l.length (clipI l.length) = l.length := by omega
  rw [e1, e2]
  simp
 ·rw [gqZ l (lo.elim 0 (clipI l.length)) ((hi.elim l.length (clipI l.length)) - (lo.elim 0 (clipI l.length)))]
theorem iqb (n k : Nat) : clipI n (k : Int) = min k n := by unfold clipI; split <;> omega
theorem gqc (l : List Nat) (k : Nat) : Txt.slice (⟨l.toArray⟩ : Str) (some (k : Int)) none = ⟨(l.drop k).toArray⟩ := by
 rw [hqe]
 simp only [Option.elim_some, Option.elim_none, iqb]
 by_cases h : k ≤ l.length
 ·rw [Nat.min_eq_left h, List.take_of_length_le (by simp)]
 ·rw [Nat.min_eq_right (by omega), List.drop_eq_nil_of_le (Nat.le_refl _), List.drop_eq_nil_of_le (by omega)]
  simp
theorem eq6 (l : List Nat) (k : Nat) : Txt.slice (⟨l.toArray⟩ : Str) none (some (k : Int)) = ⟨(l.take k).toArray⟩ := by
 rw [hqe]
 simp only [Option.elim_some, Option.elim_none, iqb, List.drop_zero, Nat.sub_zero]
 by_cases h : k ≤ l.length
 ·rw [Nat.min_eq_left h]
 ·rw [Nat.min_eq_right (by omega), List.take_length, List.take_of_length_le (by omega)]
theorem nqI : Str.ofString "" = ⟨([] : List Nat).toArray⟩ := by decide +kernel
theorem hq0 (l m : List Nat) : ((⟨l.toArray⟩ : Str) ++ (⟨m.toArray⟩ : Str)) = ⟨(l ++ m).toArray⟩ := by
 show Str.mk (l.toArray ++ m.toArray) = _
 simp
theorem cqt {l m : List Nat} : ((⟨l.toArray⟩ : Str) = ⟨m.toArray⟩) ↔ l = m := by
 constructor
 ·intro h; injection h with h; injection h
 ·rintro rfl; rfl
theorem bqT (l : List Nat) : (⟨l.toArray⟩ : Str).length = l.length := by simp [Str.length]
theorem kqT : Str.ofString "~" = ⟨[126].toArray⟩ := by decide +kernel
theorem mqm (l : List Nat) : Txt.slice (⟨l.toArray⟩ : Str) (some 1) none = ⟨(l.drop 1).toArray⟩ := gqc l 1
theorem jqv (l : List Nat) (m k : Int) (h0 : 0 < k) (h : k ≤ l.length) : ∃ a, a ∈ l ∧ atI l (m % k) = some a := by
 have h1 := Int.emod_nonneg m (show k ≠ 0 by omega)
 have h2 := Int.emod_lt_of_pos m h0
 have h3 : (m % k).toNat < l.length := by omega
 refine ⟨l[(m % k).toNat], List.getElem_mem _, ?_⟩
 have := aqh (xs := l) (j := (m % k).toNat) (v := l[(m % k).toNat]) (by simp [h3])
 rw [Int.toNat_of_nonneg h1] at this
 exact this
def isPl (c : Nat) : Bool := decide (48 ≤ c ∧ c ≤ 57) || decide (65 ≤ c ∧ c ≤ 90) || decide (97 ≤ c ∧ c ≤ 122) || decide (c = 45) || decide (c = 46) || decide (c = 95)
def wr1 (c : Nat) : List Nat := if isPl c then [c] else [126, hexd (c / 16), hexd (c % 16)]
def wr (l : List Nat) : List Nat := l.flatMap wr1
def sgO (a b : Nat) : Option Nat := match fig a, fig b with
 | some h, some l => if isSg (h * 16 + l) then some (h * 16 + l) else none
 | _, _ => none
theorem mqp {ns : List Int} {k : Nat} (h : k < ns.length) : atI (ns.map V.int) (k : Int) = some (.int (ns.getD k 0)) := by
 refine aqh ?_
 rw [List.getElem?_map, List.getElem?_eq_getElem h, List.getD_eq_getElem?_getD, List.getElem?_eq_getElem h]
 rfl
theorem aqj {n : Nat} (h : n ≤ 100000) : n ≤ sizeLine := Nat.le_trans h (by decide)
theorem mqi (f : Nat → Nat) (l : List Nat) : (l.toArray).map f = (l.map f).toArray := by simp
theorem lq1 (l : List Nat) : (⟨l.toArray⟩ : Str).cps.toList = l := rfl
theorem mqx (xs : List V) (m k : Int) (h0 : 0 < k) (h : k ≤ xs.length) : ∃ a, a ∈ xs ∧ atI xs (m % k) = some a := by
 have h1 := Int.emod_nonneg m (show k ≠ 0 by omega)
 have h2 := Int.emod_lt_of_pos m h0
 have h3 : (m % k).toNat < xs.length := by omega
 refine ⟨xs[(m % k).toNat], List.getElem_mem _, ?_⟩
 have := aqh (xs := xs) (j := (m % k).toNat) (v := xs[(m % k).toNat]) (by simp [h3])
 rw [Int.toNat_of_nonneg h1] at this
 exact this
def hit (a b c : Nat) : Bool := decide ([hexd (c / 16), hexd (c % 16)] = [PyProof.Rows.lo1 a, PyProof.Rows.lo1 b])
mutual
def smallD : PyData → Bool
 | .str x => decide (x.length ≤ 100000)
 | .list xs => decide (xs.length ≤ 100000) && smallAll xs
 | .tuple xs => decide (xs.length ≤ 100000) && smallAll xs
 | .dict _ => false
 | .none => true
 | .bool _ => true
 | .int _ => true
def smallAll : List PyData → Bool
 | [] => true
 | d :: ds => smallD d && smallAll ds
end
def isLet (c : Nat) : Bool := decide (65 ≤ c ∧ c ≤ 90) || decide (97 ≤ c ∧ c ≤ 122)
def isAln (c : Nat) : Bool := isLet c || decide (48 ≤ c ∧ c ≤ 57)
def tx : PyData → Bool
 | .str x => x.cps.toList.all isSg
 | _ => false
abbrev st (l : List Nat) : PyData := .str ⟨l.toArray⟩
def oD : Option (List Nat) → PyData
 | none => .none
 | some l => st l
def otV : Option (List Nat) → V
 | none => .non
 | some l => .str ⟨l.toArray⟩
def iD : Option Int → PyData
 | none => .none
 | some i => .int i
def qD : Option (List (List Nat × Option (List Nat))) → PyData
 | none => .none
 | some ps => .tuple (ps.map fun p => .tuple [st p.1, oD p.2])
structure Ad where
 scheme : List Nat
 house : Option (List Nat)
 door : Option Int
 rooted : Bool
 steps : List (List Nat)
 ends : Bool
 quest : Option (List (List Nat × Option (List Nat)))
 mark : Option (List Nat)
def Ad.way (x : Ad) : PyData := .tuple [.bool x.rooted, .tuple (x.steps.map st), .bool x.ends]
def Ad.data (x : Ad) : PyData := .tuple [st x.scheme, oD x.house, iD x.door, x.way, qD x.quest, oD x.mark]
def Tx (n : Nat) (l : List Nat) : Prop := l.length ≤ n ∧ ∀ c ∈ l, isSg c = true
structure Ad.Ok (x : Ad) : Prop where
 sch : x.scheme.length ≤ 8 ∧ (∀ c ∈ x.scheme, isAln c = true) ∧ ∀ c ∈ x.scheme.take 1, isLet c = true
 hou : ∀ l, x.house = some l → 0 < l.length ∧ Tx 60 l
 doo : ∀ i, x.door = some i → (0 ≤ i ∧ i ≤ 65535) ∧ x.house ≠ none
 stp : x.steps.length ≤ 50 ∧ ∀ l ∈ x.steps, 0 < l.length ∧ Tx 60 l
 roo : x.scheme ≠ [] ∨ x.house ≠ none → x.rooted = true
 end_ : x.steps = [] → x.ends = x.rooted
 que : ∀ ps, x.quest = some ps → ps.length ≤ 20 ∧ ∀ p ∈ ps, (0 < p.1.length ∧ Tx 6 p.1) ∧ ∀ v, p.2 = some v → Tx 6 v
 mar : ∀ l, x.mark = some l → Tx 60 l
theorem nqC {l : List Nat} : ((⟨l.toArray⟩ : Str) = ⟨#[]⟩) ↔ l = [] := cqt (m := [])
def Bad (f : PyData → Bool) (H : Hp) (v : V) : Prop := ∃ d, Is H d v ∧ smallD d = true ∧ f d = false
def Bads (f : PyData → Bool) (H : Hp) (vs : List V) : Prop := ∀ v ∈ vs, Bad f H v
theorem Bads.cons {f : PyData → Bool} {H : Hp} {v : V} {vs : List V} (h : Bad f H v) (r : Bads f H vs) : Bads f H (v :: vs) := fun w hw => by
 rcases List.mem_cons.mp hw with rfl | hw
 ·exact h
 ·exact r w hw
theorem jqL {q : Addr} {H H' : Hp} {o : HO} (hq : H q = none) (sm : Same H H') : Same H (upd H' q o) := fun b u e => by
 rw [aqu (aqo e hq)]; exact sm _ _ e
def dg (i : Int) : List Nat := (Str.ofString (toString i)).cps.toList
def Hd (p : Nat → Bool) (r : List Nat) : Prop := ∀ c r', r = c :: r' → p c = true
theorem Hd.cons {p : Nat → Bool} {c : Nat} {r : List Nat} (h : p c = true) : Hd p (c :: r) := fun d r' e => by injection e with e; exact e ▸ h
def tlT (sep : Nat) : List (List Nat) → List Nat
 | [] => []
 | s :: r => sep :: (s ++ tlT sep r)
def joinT (sep : Nat) : List (List Nat) → List Nat
 | [] => []
 | s :: r => s ++ tlT sep r
def oT (sep : Nat) : Option (List Nat) → List Nat
 | none => []
 | some l => sep :: wr l
def pairT (p : List Nat × Option (List Nat)) : List Nat := wr p.1 ++ oT 61 p.2
def queT : Option (List (List Nat × Option (List Nat))) → List Nat
 | none => []
 | some ps => 63 :: joinT 38 (ps.map pairT)
def wayT (r : Bool) (ss : List (List Nat)) (e : Bool) : List Nat := (if r then [47] else []) ++ (joinT 47 (ss.map wr) ++ (if e && !ss.isEmpty then [47] else []))
def dooT : Option Int → List Nat
 | none => []
 | some i => 58 :: dg i
def houT : Option (List Nat) → List Nat
 | none => []
 | some l => 47 :: 47 :: wr l
def schT (s : List Nat) : List Nat := if s = [] then [] else s ++ [58]
def Ad.wayT (x : Ad) : List Nat := Wm.wayT x.rooted x.steps x.ends
def Ad.shw (x : Ad) : List Nat := schT x.scheme ++ (houT x.house ++ (dooT x.door ++ (x.wayT ++ (queT x.quest ++ oT 35 x.mark))))
def PairOk (p : List Nat × Option (List Nat)) : Prop := (0 < p.1.length ∧ ∀ c ∈ p.1, isSg c = true) ∧ ∀ v, p.2 = some v → ∀ c ∈ v, isSg c = true
def StepOk (s : List Nat) : Prop := 0 < s.length ∧ ∀ c ∈ s, isSg c = true
structure Ad.Wf (x : Ad) : Prop where
 sch : x.scheme.length ≤ 8 ∧ (∀ c ∈ x.scheme, isAln c = true) ∧ ∀ c ∈ x.scheme.take 1, isLet c = true
 hou : ∀ l, x.house = some l → (0 < l.length ∧ l.length ≤ 60) ∧ ∀ c ∈ l, isSg c = true
 doo : ∀ i, x.door = some i → (0 ≤ i ∧ i ≤ 65535) ∧ x.house ≠ none
 stp : ∀ s ∈ x.steps, StepOk s
 roo : x.scheme ≠ [] ∨ x.house ≠ none → x.rooted = true
 end_ : x.steps = [] → x.ends = x.rooted
 que : ∀ ps, x.quest = some ps → ∀ p ∈ ps, PairOk p
 mar : ∀ l, x.mark = some l → ∀ c ∈ l, isSg c = true
def Ad.mid (x : Ad) : List Nat := houT x.house ++ (dooT x.door ++ x.wayT)
def Ad.pre (x : Ad) : List Nat := schT x.scheme ++ x.mid
theorem gqb {α : Type} {f : α → PyData} (hf : ∀ a b, PyData.eqv (f a) (f b) = true ↔ a = b) : ∀ (l m : List α), PyData.eqvAll (l.map f) (m.map f) = true ↔ l = m
 | [], [] => by simp [PyData.eqvAll]
 | [], b :: m => by simp [PyData.eqvAll]
 | a :: l, [] => by simp [PyData.eqvAll]
 | a :: l, b :: m => by
  simp only [List.map_cons, PyData.eqvAll, Bool.and_eq_true, List.cons.injEq]
  rw [hf a b, gqb hf l m]
def LayAt (n : Nat) (d : PyData) : Prop := d.canLay0 = true ∧ d.depth ≤ n
theorem LayAt.shaped {n : Nat} {d : PyData} (h : LayAt n d) (hn : n ≤ 64) : SeqAt.shaped d = true := by
 unfold SeqAt.shaped; rw [h.1, decide_eq_true (Nat.le_trans h.2 hn)]; rfl
theorem layAll {n : Nat} : ∀ {ds : List PyData}, (∀ d ∈ ds, LayAt n d) → PyData.canLayAll0 ds = true ∧ PyData.depthAll ds ≤ n
 | [], _ => ⟨rfl, Nat.zero_le _⟩
 | d :: ds, h => by
  obtain ⟨h1, h2⟩ := layAll (ds := ds) fun e he => h e (List.mem_cons_of_mem _ he)
  have := h d (List.mem_cons_self ..)
  simp only [PyData.canLayAll0, PyData.depthAll, this.1, h1, Bool.and_self, true_and]
  exact Nat.max_le.mpr ⟨this.2, h2⟩
theorem LayAt.tup {n : Nat} {ds : List PyData} (h : ∀ d ∈ ds, LayAt n d) : LayAt (n + 1) (.tuple ds) := by
 obtain ⟨h1, h2⟩ := layAll h
 exact ⟨by simp only [PyData.canLay0, h1], by simp only [PyData.depth]; omega⟩
theorem LayAt.st {l : List Nat} (h : ∀ c ∈ l, isSg c = true) : LayAt 0 (st l) := by
 refine ⟨?_, Nat.le_refl _⟩
 simp only [PyData.canLay0, PyData.strOk, List.all_toArray, List.all_eq_true, decide_eq_true_eq]
 intro c hc
 have := mqv (h c hc)
 omega
end Wm
namespace Wm
structure Ad.Sz (x : Ad) : Prop where
 stp : ∀ s ∈ x.steps, s.length ≤ 2000
 que : ∀ ps, x.quest = some ps → ps.length ≤ 2000 ∧ ∀ p ∈ ps, p.1.length ≤ 2000 ∧ ∀ v, p.2 = some v → v.length ≤ 2000
 mar : ∀ l, x.mark = some l → l.length ≤ 2000
 num : x.steps.length ≤ 2000
 all : x.shw.length ≤ 90000
end Wm
namespace Wm
open PySem L2
end Wm
namespace L2
open PySem
end L2
namespace Wm
open PySem L2
abbrev Stp := List Nat
def sUp : Stp := [46, 46]
def sStay : Stp := [46]
def isDot (s : Stp) : Bool := decide (s = sUp) || decide (s = sStay)
theorem cqO {s : Stp} : isDot s = false ↔ s ≠ sUp ∧ s ≠ sStay := by simp [isDot]
def fwd (r : Bool) (q : Nat × List Stp) (s : Stp) : Nat × List Stp :=
 if s = sUp then (match q.2 with | [] => (if r then q.1 else q.1 + 1, []) | _ :: t => (q.1, t))
 else if s = sStay then q else (q.1, s :: q.2)
def goneS (r : Bool) (ss : List Stp) : List Stp := List.replicate (ss.foldl (fwd r) (0, [])).1 sUp ++ (ss.foldl (fwd r) (0, [])).2.reverse
def lastDot (ss : List Stp) : Bool := match ss.getLast? with | some s => isDot s | none => false
def goneW (r : Bool) (ss : List Stp) (e : Bool) : Bool × List Stp × Bool :=
 if ss = [] then (r, [], e) else if goneS r ss = [] then (r, if r then [] else [sStay], true) else (r, goneS r ss, e || lastDot ss)
def stk (q : Nat × List Stp) : List Stp := List.replicate q.1 sUp ++ q.2.reverse
end Wm
namespace L2
open PySem PySem.Spec PyProof.Rows HT
section
variable {prog : Program} {w : World} {A : Around} {E : Value → Shared → Prop} {s : Shared}
theorem dq8 {t sl : Addr} {items : Array Value} {vl vu : Value} {lo hi : Option Int} {Q : Value → Shared → Prop} (ht : IsTup s.heap t items) (hs : s.heap.IsSliceOf sl vl vu .none) (pl : IsPart vl lo) (pu : IsPart vu hi)
  (hw : sIx items.size 0 lo = 0 ∧ sIx items.size items.size hi = items.size) (h : Q (.ref t) s) : wpAny (model prog w) A (getItem (.ref t) (.ref sl)) Q E s := by
 obtain ⟨os, hos, hcs, hds⟩ := id hs
 have hTs : s.TypeIs (.ref sl) "slice" := ⟨os, hos, hcs⟩
 unfold getItem
 try with_reducible refine wpAny_holding ?_
 first | refine wpAny_bind (wpAny_pure ?_) | skip
 refine wpAny_bind (wpAny_sequenceKey ht.typeIs (by decide) ?_)
 refine wpAny_bind (wpAny_callSpecial?_slot (name := Str.ofString "__getitem__") ht.typeIs PyProof.Rows.slot_tuple_getitem
  (wpAny_call_entry PyProof.Rows.slot_tuple_getitem ht.typeIs entry_tuple_getitem ?_ (args_tuple_getitem _ _)))
 show wpAny _ _ (Builtin.Tuple.tupleItemsOf (.ref t) >>= _) _ _ s
 refine wpAny_bind (tupleItemsOf_ ht ?_)
 refine wpAny_bind (wpAny_typeOf hTs ?_)
 rw [if_pos (by decide)]
 refine wpAny_bind (dqa hs pl pu ?_)
 show wpAny _ _ (if (((sIx items.size 0 lo : Nat) : Int) == 0 && (1 : Int) == 1 && (sIx items.size items.size hi - sIx items.size 0 lo) == items.size) = true then _ else _) _ _ s
 rw [if_pos (by rw [hw.1, hw.2]; simp)]
 refine wpAny_bind ?_
 show wpAny _ _ (typeOf (.ref t) >>= _) _ _ s
 refine wpAny_bind (wpAny_typeOf ht.typeIs (wpAny_pure ?_))
 rw [if_pos (by decide)]
 exact wpAny_bind (wpAny_rule (wpAny_pure ⟨_, rfl, wpAny_pure h⟩))
end
section
variable {X : Cx} {K : PySem.W.Frag}
def rSlTA : V → Option Int → Option Int → Hp → VK → Prop := fun x lo hi H Q => ∃ a xs, x = .ref a ∧ H a = some (.tup xs) ∧ ∀ p H', Same H H' → H' p = some (.tup (cutV xs lo hi)) → Q (.ref p) H'
theorem iqM {xs : List V} {lo hi : Option Int} (h : sIx xs.length 0 lo = 0 ∧ sIx xs.length xs.length hi = xs.length) : cutV xs lo hi = xs := by
 unfold cutV
 rw [h.1, h.2, List.drop_zero, Nat.sub_zero, List.take_length]
theorem mqq : SlR X rSlTA := by
 intro pins s σ H x v vl vu lo hi sl Q I rx hs pl pu h
 obtain ⟨a, xs, rfl, hx, q⟩ := h
 by_cases hw : sIx xs.length 0 lo = 0 ∧ sIx xs.length xs.length hi = xs.length
 ·cases rx
  obtain ⟨its, r, ht, hz⟩ := I.tuple (SqT.of hx)
  have hlen : its.toArray.size = xs.length := by rw [List.size_toArray]; exact r.length.symm
  refine ⟨"tuple", _, PyProof.Rows.slot_tuple_getitem.lookup, ht.typeIs, ?_⟩
  exact dq8 ht hs pl pu (by rw [hlen]; exact hw) ⟨.ref a, H, I, rfl, q a H (Same.refl _) (by rw [iqM hw]; exact hx)⟩
 ·exact mq6 pins s σ H _ v vl vu lo hi sl Q I rx hs pl pu ⟨a, xs, rfl, SqT.of hx, hw, fun p hp => q p _ (bqt hp) aqq⟩
theorem kqv {a : Addr} {lo hi : Option Int} {H : Hp} {Q : VK} : rSlTA (.ref a) lo hi H Q ↔ ∃ xs, H a = some (.tup xs) ∧ ∀ p H', Same H H' → H' p = some (.tup (cutV xs lo hi)) → Q (.ref p) H' := by
 constructor
 ·rintro ⟨p, bs, h1, h2⟩; cases h1; exact ⟨bs, h2⟩
 ·rintro ⟨bs, h⟩; exact ⟨a, bs, rfl, h⟩
end
mutual
inductive IsK (K : PySem.W.Frag) (H : Hp) : PyData → V → Prop
 | non : IsK K H .none .non
 | bl (b : Bool) : IsK K H (.bool b) (.bl b)
 | int (i : Int) : IsK K H (.int i) (.int i)
 | str (x : Str) : IsK K H (.str x) (.str x)
 | tup {p : Addr} {xs : List V} {ds : List PyData} : SqT K H p xs → IsKAll K H ds xs → IsK K H (.tuple ds) (.ref p)
inductive IsKAll (K : PySem.W.Frag) (H : Hp) : List PyData → List V → Prop
 | nil : IsKAll K H [] []
 | cons {d : PyData} {x : V} {ds : List PyData} {xs : List V} : IsK K H d x → IsKAll K H ds xs → IsKAll K H (d :: ds) (x :: xs)
end
section
variable {K : PySem.W.Frag} {H H' : Hp}
mutual
theorem IsK.mono (sm : Same H H') : ∀ {d : PyData} {x : V}, IsK K H d x → IsK K H' d x
 | _, _, .non => .non
 | _, _, .bl b => .bl b
 | _, _, .int i => .int i
 | _, _, .str x => .str x
 | _, _, .tup h r => .tup (sm.tup h) (IsKAll.mono sm r)
theorem IsKAll.mono (sm : Same H H') : ∀ {ds : List PyData} {xs : List V}, IsKAll K H ds xs → IsKAll K H' ds xs
 | _, _, .nil => .nil
 | _, _, .cons h r => .cons (IsK.mono sm h) (IsKAll.mono sm r)
end
mutual
theorem IsT.k : ∀ {d : PyData} {x : V}, IsT H d x → IsK K H d x
 | _, _, .non => .non
 | _, _, .bl b => .bl b
 | _, _, .int i => .int i
 | _, _, .str x => .str x
 | _, _, .tup h r => .tup (SqT.of h) (IsTAll.k r)
theorem IsTAll.k : ∀ {ds : List PyData} {xs : List V}, IsTAll H ds xs → IsKAll K H ds xs
 | _, _, .nil => .nil
 | _, _, .cons h r => .cons (IsT.k h) (IsTAll.k r)
end
end
section
variable {X : Cx} {pins : List (Addr × Obj)} {σ : St} {H : Hp} {s : Shared}
mutual
theorem IsK.reads (I : Inv X pins σ H s) : ∀ {d : PyData} {x : V} {v : Value}, IsK X.K H d x → RelV x v → ∃ as, Reads s.heap v d as
 | _, _, _, .non, r => by cases r; exact ⟨_, .none⟩
 | _, _, _, .bl b, r => by cases r; exact ⟨_, .bool b⟩
 | _, _, _, .int i, r => by obtain ⟨t, rfl⟩ := r; exact ⟨_, .int i t⟩
 | _, _, _, .str x, r => by obtain ⟨t, rfl⟩ := r; exact ⟨_, .str x t⟩
 | _, _, _, .tup h q, r => by
  cases r
  obtain ⟨its, vs, ⟨o, e, c, n, dt⟩, _⟩ := I.tuple h
  obtain ⟨as, ra⟩ := IsKAll.reads I q vs
  exact ⟨_, .tuple e c dt (by simpa using ra)⟩
theorem IsKAll.reads (I : Inv X pins σ H s) : ∀ {ds : List PyData} {xs : List V} {vs : List Value}, IsKAll X.K H ds xs → Vals xs vs → ∃ as, ReadsAll s.heap vs ds as
 | _, _, _, .nil, r => by cases r; exact ⟨_, .nil⟩
 | _, _, _, .cons q t, r => by
  cases r with
  | cons r1 r2 =>
   obtain ⟨as, h1⟩ := IsK.reads I q r1
   obtain ⟨bs, h2⟩ := IsKAll.reads I t r2
   exact ⟨_, .cons h1 h2⟩
end
variable {K : PySem.W.Frag}
def rSlX (K : PySem.W.Frag) : V → Option Int → Option Int → Hp → VK → Prop := fun x lo hi H Q => ∃ a xs, x = .ref a ∧ SqT K H a xs ∧ ∀ p H', Same H H' → SqT K H' p (cutV xs lo hi) → Q (.ref p) H'
theorem lqX {a : Addr} {lo hi : Option Int} {H : Hp} {Q : VK} : rSlX K (.ref a) lo hi H Q ↔ ∃ xs, SqT K H a xs ∧ ∀ p H', Same H H' → SqT K H' p (cutV xs lo hi) → Q (.ref p) H' := by
 constructor
 ·rintro ⟨p, bs, h1, h2⟩; cases h1; exact ⟨bs, h2⟩
 ·rintro ⟨bs, h⟩; exact ⟨a, bs, rfl, h⟩
def rCatX (K : PySem.W.Frag) : R2 := fun x y H Q => ∃ a b xs ys, x = .ref a ∧ y = .ref b ∧ SqT K H a xs ∧ SqT K H b ys ∧ xs.length + ys.length ≤ sizeLine ∧ ∀ p H', Same H H' → SqT K H' p (xs ++ ys) → Q (.ref p) H'
theorem kq0 {a b : Addr} {H : Hp} {Q : VK} : rCatX K (.ref a) (.ref b) H Q ↔ ∃ xs ys, SqT K H a xs ∧ SqT K H b ys ∧ xs.length + ys.length ≤ sizeLine ∧ ∀ p H', Same H H' → SqT K H' p (xs ++ ys) → Q (.ref p) H' := by
 constructor
 ·rintro ⟨p, p', xs, ys, h1, h2, h3⟩; cases h1; cases h2; exact ⟨xs, ys, h3⟩
 ·rintro ⟨xs, ys, h⟩; exact ⟨a, b, xs, ys, rfl, rfl, h⟩
def KindK (K : PySem.W.Frag) (H : Hp) (x : V) (k : String) : Prop := kindV x H = some k ∨ ∃ a xs, x = .ref a ∧ SqT K H a xs ∧ k = "tuple"
theorem KindK.tup {K : PySem.W.Frag} {H : Hp} {a : Addr} {xs : List V} (h : SqT K H a xs) : KindK K H (.ref a) "tuple" := .inr ⟨a, xs, rfl, h, rfl⟩
def rIsiX (K : PySem.W.Frag) : List V → Hp → VK → Prop := fun vs H Q => match vs with
 | [x, .ty T] => ∃ k, KindK K H x k ∧ T ∈ ["bool", "int", "str", "list", "tuple"] ∧ Q (.bl (subT k T)) H
 | _ => False
theorem kqY {x : V} {T : String} {H : Hp} {Q : VK} : (rIsiX K [x, .ty T] H Q) = (∃ k, KindK K H x k ∧ T ∈ ["bool", "int", "str", "list", "tuple"] ∧ Q (.bl (subT k T)) H) := rfl
end
end L2
namespace Wm
open PySem L2
section
variable {K : PySem.W.Frag} {H : Hp}
end
end Wm
namespace L2
open PySem PySem.Spec PyProof.Rows
def pickV {α : Type} (xs : List α) (lo hi st : Option Int) : List α :=
 (sliceRange (sliceBounds lo hi st xs.length).1 (sliceBounds lo hi st xs.length).2.1 (sliceBounds lo hi st xs.length).2.2).filterMap fun i => xs[i]?
section
variable {X : Cx}
def tSl3 (K : PySem.W.Frag) (te : TE) (tl th ts : TO) : TE := fun σ H Q => te σ H fun x H1 => tl σ H1 fun l H2 => th σ H2 fun u H3 => ts σ H3 fun k H4 =>
 ∃ a xs, x = .ref a ∧ SqL K H4 a xs ∧ k ≠ some 0 ∧ (pickV xs l u k).length ≤ sizeLine ∧ ∀ p, H4 p = none → Q (.ref p) (upd H4 p (.lst (pickV xs l u k)))
end
theorem mqJ {K : PySem.W.Frag} {te : TE} {tl th ts : TO} {σ : St} {H : Hp} {Q : VK} : tSl3 K te tl th ts σ H Q ↔ te σ H fun x H1 => tl σ H1 fun l H2 => th σ H2 fun u H3 => ts σ H3 fun k H4 =>
 ∃ a xs, x = .ref a ∧ SqL K H4 a xs ∧ k ≠ some 0 ∧ (pickV xs l u k).length ≤ sizeLine ∧ ∀ p, H4 p = none → Q (.ref p) (upd H4 p (.lst (pickV xs l u k))) := Iff.rfl
end L2
namespace Wm
open PySem L2
abbrev Way := Bool × List Stp × Bool
def Ad.w (x : Ad) : Way := (x.rooted, x.steps, x.ends)
def Ad.withWay (x : Ad) (w : Way) : Ad := { x with rooted := w.1, steps := w.2.1, ends := w.2.2 }
def goneV (w : Way) : Way := goneW w.1 w.2.1 w.2.2
def Ad.gone (x : Ad) : Ad := x.withWay (goneV x.w)
theorem nqo {l : Addr} {H : Hp} {Q : VK} : rReverse (.ref l) [] H Q ↔ ∃ xs, H l = some (.lst xs) ∧ Q .non (upd H l (.lst xs.reverse)) :=
 ⟨fun ⟨_, xs, e, _, h, q⟩ => by cases e; exact ⟨xs, h, q⟩, fun ⟨xs, h, q⟩ => ⟨l, xs, rfl, rfl, h, q⟩⟩
abbrev sV (l : List Nat) : V := .str ⟨l.toArray⟩
theorem cqk (ds : List PyData) : PyData.eqv (.list ds) (.list []) = ds.isEmpty := by
 cases ds <;> simp [PyData.eqv, PyData.eqvAll]
theorem hq5 {α : Type} {l : List α} {s : α} (g : α → V) (h : l.getLast? = some s) : atI (l.map g) (-1) = some (g s) := by
 obtain ⟨pre, rfl⟩ := List.getLast?_eq_some_iff.mp h
 have e : ixN ((pre ++ [s]).map g).length (-1) = some pre.length := by
  unfold ixN
  simp
  try omega
 unfold atI
 rw [e]
 simp
end Wm
namespace L2
open PySem
theorem iqy {X : Cx} {K : PySem.W.Frag} (h : X.K = K) : OpR X (compareOp .In) (rIn K false) := by subst h; exact jqE
theorem nqd {l : Addr} {H : Hp} {Q : VK} : rPop (.ref l) [] H Q ↔ ∃ xs y, H l = some (.lst xs) ∧ xs[xs.length - 1]? = some y ∧ Q y (upd H l (.lst xs.dropLast)) :=
 ⟨fun ⟨_, xs, y, h1, _, h3, h4, h5⟩ => by cases h1; exact ⟨xs, y, h3, h4, h5⟩, fun ⟨xs, y, h3, h4, h5⟩ => ⟨_, xs, y, rfl, rfl, h3, h4, h5⟩⟩
theorem kqM {D : Ends} {σ : St} {H : Hp} : (tNever D σ H) = (False) := rfl
end L2
namespace Wm
open PySem L2
structure Ad.Tiny (x : Ad) : Prop where
 stp : ∀ s ∈ x.steps, s.length ≤ 9
 que : ∀ ps, x.quest = some ps → ps.length ≤ 3 ∧ ∀ p ∈ ps, p.1.length ≤ 5 ∧ ∀ v, p.2 = some v → v.length ≤ 6
 mar : ∀ l, x.mark = some l → l.length ≤ 7
 hou : ∀ l, x.house = some l → l.length ≤ 13
end Wm
namespace Wm
end Wm
namespace Wm
open PySem L2
end Wm
namespace L2
open PySem
end L2
namespace Wm
open PySem L2
section
variable {H : Hp}
end
theorem Ad.Wf.local {x : Ad} (h : x.Wf) : ({ x with scheme := [], house := none, door := none } : Ad).Wf :=
 ⟨⟨Nat.zero_le _, (fun c hc => by cases hc), (fun c hc => by cases hc)⟩, (fun l e => by cases e), (fun l e => by cases e), h.stp, (fun z => z.elim (fun y => absurd rfl y) (fun y => absurd rfl y)), h.end_, h.que, h.mar⟩
def Goods (n : Nat) (H : Hp) (vs : List V) : Prop := ∀ v ∈ vs, ∃ x : Ad, x.Wf ∧ x.steps.length ≤ n ∧ IsT H x.data v
theorem Goods.cons {n : Nat} {H : Hp} {v : V} {vs : List V} {x : Ad} (h1 : x.Wf) (h2 : x.steps.length ≤ n) (h3 : IsT H x.data v) (h : Goods n H vs) : Goods n H (v :: vs) := fun u hu => by
 rcases List.mem_cons.mp hu with rfl | hu
 ·exact ⟨x, h1, h2, h3⟩
 ·exact h u hu
end Wm
namespace L2
open PySem PySem.Spec PyProof.Rows
theorem nqY {b c : Bool} {H : Hp} {Q : VK} : (rIsB true (.bl b) (.bl c) H Q) = (Q (.bl (!decide (b = c))) H) := rfl
end L2
namespace Wm
open PySem L2
structure GoodAd (n : Nat) (x : Ad) : Prop where
 wf : x.Wf
 ti : x.Tiny
 sc : x.scheme ≠ []
 ln : x.steps.length ≤ n
end Wm
namespace L2
open PySem PySem.Spec PyProof.Rows
section
variable {prog : Program} {w : World} {A : Around} {E : Value → Shared → Prop} {s : Shared}
end
def Itv (K : PySem.W.Frag) (a : Addr) (n : Nat) : It :=
 ⟨fun i H => ∃ xs x, SqT K H a xs ∧ xs.length = n ∧ i < n ∧ xs[n - 1 - i]? = some x, fun i H x H' => H' = H ∧ ∀ xs, SqT K H a xs → xs.length = n → xs[n - 1 - i]? = some x, fun i _ => n ≤ i⟩
section
variable {X : Cx} {tg : Expr} {K : PySem.W.Frag}
def iRev (K : PySem.W.Frag) (ta : TA) : TI := fun σ H R => ta σ H fun vs H1 => ∃ a xs, vs = [.ref a] ∧ SqT K H1 a xs ∧ R (Itv K a xs.length) H1
variable {σ : St} {H : Hp} {D : Ends} {g : TG} {tb : TS} {aa : TA}
theorem lqN : (tFor (iRev K aa) g tb D σ H) = (aa σ H fun vs H1 => ∃ a xs, vs = [.ref a] ∧ SqT K H1 a xs ∧ LoopI (Itv K a xs.length) g tb D σ H1) := rfl
end
theorem hqg : fillsNumberSlot (.type "tuple") "mul" = pure false := PySem.fillsNumberSlot_seq (id := "tuple.__mul__") (r := some (.builtin "tuple.__rmul__")) F.slot_tuple_mul.lookup (by decide +kernel) F.slot_tuple_rmul.lookup (by decide +kernel)
theorem hqi : seqRepeat? (.type "tuple") = pure (some (.builtin "tuple.__mul__")) := by
 unfold seqRepeat?
 rw [PySem.seqSlot_of (T := "tuple") (name := "__mul__") (id := "tuple.__mul__") F.slot_tuple_mul.lookup (by decide +kernel), PySem.seqSlot_of (T := "tuple") (name := "__rmul__") (id := "tuple.__rmul__") F.slot_tuple_rmul.lookup (by decide +kernel)]
 rfl
theorem jqq (a : Int) (t : Tok) (l : Addr) (items : Array Value) (n : Nat) (dd : Option Addr) (sl : Array (Option Value)) :
  Meets (Builtin.«int.__rmul__» ⟨[.int a t, .ref l], []⟩) (fun _ R s => s.heap.get? l = some { cls := .type "tuple", dict := dd, data := .seq items n, slots := sl } ∧ R (.ok (.ret Value.notImplemented)) s) :=
 .of_wp fun prog w A R s h => by
  obtain ⟨hp, g, d, tk, os⟩ := s; obtain ⟨hl, h⟩ := h
  wp_walk; exact ⟨_, rfl, h⟩
theorem nqA (l : Addr) (items : Array Value) (n : Nat) (dd : Option Addr) (sl : Array (Option Value)) (x : Int) (u : Tok) (h0 : items.isEmpty = false) (h1 : ¬ (decide (x < -(2 ^ 63)) || decide (x ≥ 2 ^ 63)) = true) (h2 : 2 ≤ x) (h3 : ¬ ((items.size : Int) * x > (2 ^ 63 - 1) / 8)) (h4 : (items.size : Int) * x ≤ sizeLine) :
  Meets (Builtin.«tuple.__mul__» ⟨[.ref l, .int x u], []⟩) (fun _ R s => s.heap.get? l = some { cls := .type "tuple", dict := dd, data := .seq items n, slots := sl } ∧
   R (.ok (.ret (Value.ref s.heap.objs.size))) { s with heap := s.heap.push { cls := Value.type "tuple", data := Data.seq (List.foldl (fun x1 x2 => x1 ++ x2) #[] (List.replicate x.toNat items)) }, toks := s.toks }) :=
 .of_wp fun prog w A R s h => by
  obtain ⟨hp, g, d, tk, os⟩ := s; obtain ⟨hl, h⟩ := h
  unfold Builtin.«tuple.__mul__»
  wp_walk
  have hx1 : ¬ (items.isEmpty || x == 1) = true := by rw [h0, Bool.false_or]; intro z; have := eq_of_beq z; omega
  have hx2 : ¬ (decide (x ≤ 0) || items.isEmpty) = true := by rw [h0, Bool.or_false, decide_eq_true_eq]; omega
  have hx3 : ¬ Builtin.Tuple.tupleTooMany ((items.size : Int) * x) = true := by unfold Builtin.Tuple.tupleTooMany; rw [decide_eq_true_eq]; omega
  rw [if_neg h1]
  wp_walk
  rw [if_neg hx1]
  try dsimp only
  rw [if_neg hx2]
  try dsimp only
  rw [if_neg h3]
  try dsimp only
  rw [if_neg hx3]
  refine wpAny_bind (m := Builtin.Tuple.tupleExact _) (wpAny_newObj_type (wpAny_pure ⟨_, rfl, h⟩) ?_)
  show (List.foldl (fun x1 x2 => x1 ++ x2) #[] (List.replicate x.toNat items)).size ≤ sizeLine
  have e : List.foldl (fun x1 x2 => x1 ++ x2) #[] (List.replicate x.toNat items.toList.toArray) = (List.replicate x.toNat items.toList).flatten.toArray := by
   have := fqi items.toList x.toNat []
   rw [List.nil_append] at this
   exact this
  rw [show items.toList.toArray = items by simp] at e
  rw [e, List.size_toArray, jqK, Array.length_toList]
  have : (items.size : Int) * x = ((x.toNat * items.size : Nat) : Int) := by rw [Int.natCast_mul, Int.toNat_of_nonneg (by omega), Int.mul_comm]
  omega
section
variable {X : Cx}
def rRepT : R2 := fun x y H Q => ∃ a k xs, x = .ref a ∧ y = .int k ∧ H a = some (.tup xs) ∧ 2 ≤ k ∧ k < 1000 ∧ xs.length * k.toNat ≤ sizeLine ∧ ∀ p H', Same H H' → H' p = some (.tup (List.replicate k.toNat xs).flatten) → Q (.ref p) H'
theorem jq9 (l : Addr) (items : Array Value) (n : Nat) (dd : Option Addr) (sl : Array (Option Value)) (x : Int) (u : Tok) (h0 : items.isEmpty = true) (h1 : ¬ (decide (x < -(2 ^ 63)) || decide (x ≥ 2 ^ 63)) = true) :
  Meets (Builtin.«tuple.__mul__» ⟨[.ref l, .int x u], []⟩) (fun _ R s => s.heap.get? l = some { cls := .type "tuple", dict := dd, data := .seq items n, slots := sl } ∧ R (.ok (.ret (Value.ref l))) s) :=
 .of_wp fun prog w A R s h => by
  obtain ⟨hp, g, d, tk, os⟩ := s; obtain ⟨hl, h⟩ := h
  unfold Builtin.«tuple.__mul__»
  have hx1 : (items.isEmpty || x == 1) = true := by rw [h0, Bool.true_or]
  wp_walk
  rw [if_neg h1]
  wp_walk
  exact ⟨_, rfl, h⟩
theorem lqm : OpR X (binaryOp .Mult) rRepT := by
 intro pins s σ H x y v u Q I rx ry h
 obtain ⟨a, k, xs, rfl, rfl, hH, h1, h2, hz, q⟩ := h
 cases rx
 obtain ⟨t, rfl⟩ := ry
 obtain ⟨its, r, p, hl⟩ := I.tuple (SqT.of hH)
 obtain ⟨⟨cls, dd, data, sl⟩, ho, hc, n, hd⟩ := id p
 simp only at hc hd
 subst hc hd
 have hlen := r.length
 have hb : ¬ (decide (k < -(2 ^ 63)) || decide (k ≥ 2 ^ 63)) = true := by
  rw [Bool.or_eq_true, decide_eq_true_eq, decide_eq_true_eq]; omega
 have hprod : ((its.toArray.size : Nat) : Int) * k ≤ sizeLine := by
  rw [List.size_toArray, ← hlen]
  have : (xs.length : Int) * k = ((xs.length * k.toNat : Nat) : Int) := by rw [Int.natCast_mul, Int.toNat_of_nonneg (by omega)]
  omega
 refine wpAny_binaryOp_repeat_ref (T := "tuple") (U := "int") (by decide) p.typeIs (fun s' => typeIs_int s' k t) hqg F.fills_int_mul F.slot_int_rmul hqi F.slot_int_index.lookup
  (call_meets F.slot_int_rmul (typeIs_int s k t) F.entry_int_rmul (F.args_int_rmul_2 _ _) (jqq k t a its.toArray n dd sl) ⟨ho, rfl, p.typeIs, ?_⟩)
 by_cases he : its = []
 ·subst he
  have hx0 : xs = [] := r.nil_iff.mp rfl
  subst hx0
  exact call_meets F.slot_tuple_mul p.typeIs F.entry_tuple_mul (F.args_tuple_mul_2 _ _) (jq9 a _ n dd sl k t rfl hb) ⟨ho, .ref a, H, I, rfl, q a H (Same.refl _) (by rw [hH]; congr 2; exact (List.flatten_eq_nil_iff.mpr fun l hl => (List.mem_replicate.mp hl).2).symm)⟩
 ·have h0 : its.toArray.isEmpty = false := by simpa using he
  have hcap : ¬ (((its.toArray.size : Nat) : Int) * k > (2 ^ 63 - 1) / 8) := by
   have : (sizeLine : Int) ≤ (2 ^ 63 - 1) / 8 := by decide
   omega
  refine call_meets F.slot_tuple_mul p.typeIs F.entry_tuple_mul (F.args_tuple_mul_2 _ _) (nqA a _ n dd sl k t h0 hb h1 hcap hprod) ⟨ho, ?_⟩
  have e : List.foldl (fun x1 x2 => x1 ++ x2) #[] (List.replicate k.toNat its.toArray) = (List.replicate k.toNat its).flatten.toArray := by
   have := fqi its k.toNat []
   rw [List.nil_append] at this
   exact this
  rw [e]
  have hf : H s.heap.objs.size = none := I.hok.fresh (Nat.le_refl _)
  refine ⟨.ref s.heap.objs.size, _, I.laid (t' := s.toks) (o := .tup (List.replicate k.toNat xs).flatten) (fun b ob q => Heap.get?_push_of_some _ q) (Nat.le_refl _) ?_, rfl, q _ _ (bqt hf) aqq⟩
  exact ⟨by rw [jqK, Nat.mul_comm]; exact hz, _, r.rep k.toNat, IsTup.new _ _⟩
theorem kqA {a : Addr} {k : Int} {H : Hp} {Q : VK} : rRepT (.ref a) (.int k) H Q ↔ ∃ xs, H a = some (.tup xs) ∧ 2 ≤ k ∧ k < 1000 ∧ xs.length * k.toNat ≤ sizeLine ∧ ∀ p H', Same H H' → H' p = some (.tup (List.replicate k.toNat xs).flatten) → Q (.ref p) H' := by
 constructor
 ·rintro ⟨a', k', xs, h1, h2, h⟩; cases h1; cases h2; exact ⟨xs, h⟩
 ·rintro ⟨xs, h⟩; exact ⟨a, k, xs, rfl, rfl, h⟩
def rRepS : R2 := fun x y H Q => ∃ l k xs, x = .ref l ∧ y = .int k ∧ H l = some (.lst xs) ∧ 0 ≤ k ∧ k < 1000000 ∧ xs.length * k.toNat ≤ sizeLine ∧ ∀ p H', H p = none → Same H H' → H' p = some (.lst (List.replicate k.toNat xs).flatten) → Q (.ref p) H'
theorem kqi {a : Addr} {k : Int} {H : Hp} {Q : VK} : rRepS (.ref a) (.int k) H Q ↔ ∃ xs, H a = some (.lst xs) ∧ 0 ≤ k ∧ k < 1000000 ∧ xs.length * k.toNat ≤ sizeLine ∧ ∀ p H', H p = none → Same H H' → H' p = some (.lst (List.replicate k.toNat xs).flatten) → Q (.ref p) H' := by
 constructor
 ·rintro ⟨a', k', xs, h1, h2, h⟩; cases h1; cases h2; exact ⟨xs, h⟩
 ·rintro ⟨xs, h⟩; exact ⟨a, k, xs, rfl, rfl, h⟩
end
theorem nqD (l : Addr) (items : Array Value) (n : Nat) (dd : Option Addr) (sl : Array (Option Value)) (u : Tok) :
  Meets (Builtin.«tuple.__mul__» ⟨[.ref l, .int 1 u], []⟩) (fun _ R s => s.heap.get? l = some { cls := .type "tuple", dict := dd, data := .seq items n, slots := sl } ∧ R (.ok (.ret (Value.ref l))) s) :=
 .of_wp fun prog w A R s h => by
  obtain ⟨hp, g, d, tk, os⟩ := s; obtain ⟨hl, h⟩ := h
  unfold Builtin.«tuple.__mul__»
  have hx1 : (items.isEmpty || ((1 : Int) == 1)) = true := by simp
  have h1 : ¬ (decide ((1 : Int) < -(2 ^ 63)) || decide ((1 : Int) ≥ 2 ^ 63)) = true := by decide
  wp_walk
  first | rw [if_neg h1] | skip
  wp_walk
  first | rw [if_pos hx1] | skip
  wp_walk
  exact ⟨_, rfl, h⟩
theorem lq5 (l : Addr) (items : Array Value) (n : Nat) (dd : Option Addr) (sl : Array (Option Value)) (u : Tok) (h0 : items.isEmpty = false) :
  Meets (Builtin.«tuple.__mul__» ⟨[.ref l, .int 0 u], []⟩) (fun _ R s => s.heap.get? l = some { cls := .type "tuple", dict := dd, data := .seq items n, slots := sl } ∧
   R (.ok (.ret (Value.ref s.heap.objs.size))) { s with heap := s.heap.push { cls := Value.type "tuple", data := Data.seq #[] }, toks := s.toks }) :=
 .of_wp fun prog w A R s h => by
  obtain ⟨hp, g, d, tk, os⟩ := s; obtain ⟨hl, h⟩ := h
  unfold Builtin.«tuple.__mul__»
  have h1 : ¬ (decide ((0 : Int) < -(2 ^ 63)) || decide ((0 : Int) ≥ 2 ^ 63)) = true := by decide
  have hx1 : ¬ (items.isEmpty || ((0 : Int) == 1)) = true := by rw [h0]; decide
  have hx2 : (decide ((0 : Int) ≤ 0) || items.isEmpty) = true := by simp
  wp_walk
  first | rw [if_neg h1] | skip
  wp_walk
  first | rw [if_neg hx1] | skip
  try dsimp only
  first | rw [if_pos hx2] | skip
  exact ⟨_, rfl, h⟩
section
variable {X : Cx}
def rRepN : R2 := fun x y H Q => ∃ a k xs, x = .ref a ∧ y = .int k ∧ H a = some (.tup xs) ∧ 0 ≤ k ∧ k < 1000 ∧ xs.length * k.toNat ≤ sizeLine ∧ ∀ p H', Same H H' → H' p = some (.tup (List.replicate k.toNat xs).flatten) → Q (.ref p) H'
theorem lq3 : OpR X (binaryOp .Mult) rRepN := by
 intro pins s σ H x y v u Q I rx ry h
 obtain ⟨a, k, xs, rfl, rfl, hH, h1, h2, hz, q⟩ := h
 by_cases hk : 2 ≤ k
 ·exact lqm pins s σ H _ _ v u Q I rx ry ⟨a, k, xs, rfl, rfl, hH, hk, h2, hz, q⟩
 cases rx
 obtain ⟨t, rfl⟩ := ry
 obtain ⟨its, r, p, hl⟩ := I.tuple (SqT.of hH)
 obtain ⟨⟨cls, dd, data, sl⟩, ho, hc, n, hd⟩ := id p
 simp only at hc hd
 subst hc hd
 refine wpAny_binaryOp_repeat_ref (T := "tuple") (U := "int") (by decide) p.typeIs (fun s' => typeIs_int s' k t) hqg F.fills_int_mul F.slot_int_rmul hqi F.slot_int_index.lookup
  (call_meets F.slot_int_rmul (typeIs_int s k t) F.entry_int_rmul (F.args_int_rmul_2 _ _) (jqq k t a its.toArray n dd sl) ⟨ho, rfl, p.typeIs, ?_⟩)
 have h01 : k = 0 ∨ k = 1 := by omega
 rcases h01 with rfl | rfl
 ·by_cases he : its = []
  ·subst he
   have hx0 : xs = [] := r.nil_iff.mp rfl
   subst hx0
   exact call_meets F.slot_tuple_mul p.typeIs F.entry_tuple_mul (F.args_tuple_mul_2 _ _) (jq9 a _ n dd sl 0 t rfl (by decide)) ⟨ho, .ref a, H, I, rfl, q a H (Same.refl _) hH⟩
  ·have h0 : its.toArray.isEmpty = false := by simpa using he
   refine call_meets F.slot_tuple_mul p.typeIs F.entry_tuple_mul (F.args_tuple_mul_2 _ _) (lq5 a _ n dd sl t h0) ⟨ho, ?_⟩
   have hf : H s.heap.objs.size = none := I.hok.fresh (Nat.le_refl _)
   refine ⟨.ref s.heap.objs.size, _, I.laid (t' := s.toks) (o := .tup []) (fun b ob q => Heap.get?_push_of_some _ q) (Nat.le_refl _) ?_, rfl, q _ _ (bqt hf) aqq⟩
   exact ⟨Nat.zero_le _, [], .nil, IsTup.new _ _⟩
 ·exact call_meets F.slot_tuple_mul p.typeIs F.entry_tuple_mul (F.args_tuple_mul_2 _ _) (nqD a _ n dd sl t) ⟨ho, .ref a, H, I, rfl, q a H (Same.refl _) (by rw [hH]; simp)⟩
theorem kqL {a : Addr} {k : Int} {H : Hp} {Q : VK} : rRepN (.ref a) (.int k) H Q ↔ ∃ xs, H a = some (.tup xs) ∧ 0 ≤ k ∧ k < 1000 ∧ xs.length * k.toNat ≤ sizeLine ∧ ∀ p H', Same H H' → H' p = some (.tup (List.replicate k.toNat xs).flatten) → Q (.ref p) H' := by
 constructor
 ·rintro ⟨a', k', xs, h1, h2, h⟩; cases h1; cases h2; exact ⟨xs, h⟩
 ·rintro ⟨xs, h⟩; exact ⟨a, k, xs, rfl, rfl, h⟩
end
section
variable {X : Cx}
def intsV (lo : Int) (n : Nat) : List V := (List.range n).map fun k => .int (lo + (k : Nat))
def tLR (ta : TA) : TE := fun σ H Q => ta σ H fun vs H1 => ∃ j : Int, vs = [.int j] ∧ 0 ≤ j ∧ j ≤ 1000000 ∧ ∀ p, H1 p = none → Q (.ref p) (upd H1 p (.lst (intsV 0 j.toNat)))
end
theorem oqa {ta : TA} {σ : St} {H : Hp} {Q : VK} : (tLR ta σ H Q) = (ta σ H fun vs H1 => ∃ j : Int, vs = [.int j] ∧ 0 ≤ j ∧ j ≤ 1000000 ∧ ∀ p, H1 p = none → Q (.ref p) (upd H1 p (.lst (intsV 0 j.toNat)))) := rfl
end L2
namespace L2
open PySem
section
variable {p : Addr} {fv : St} {tt : TT} {te : TE} {Q : VK} {H1 : Hp} {K : PySem.W.Frag}
end
end L2
namespace L2
open PySem PySem.Spec PyProof.Rows
section
variable {X : Cx} {pins : List (Addr × Obj)} {σ : St} {H1 : Hp} {s3 : Shared} {x x2 : Str} {fx : List Str} {fr : List Nat} {scope : Scope} {cl : List (Str × Addr)} {fp : List Addr}
theorem kq9 (I : Inv X pins σ H1 s3) (hkind : scope.kind = .function) (hcl : ∀ y c, cl.lookup y = some c → X.env.cells.lookup y = some c)
  (F : Frees X (relabel scope X.env) cl fx fr) (hfx : ((relabel scope X.env).names.all fun p => if (p.2 == .cell || p.2 == .free) then fx.contains p.1 else true) = true)
  (ffp : ∀ b ∈ fp, FpOk X pins H1 b) (flt : ∀ b ∈ fp, b < s3.heap.objs.size) : (compCx X (x :: x2 :: fx) scope cl s3 H1 fp).Ok where
 mod := I.ok.mod
 kind := hkind
 glob := I.ok.glob
 blt := I.ok.blt
 above := Nat.le_refl _
 inj := fun y z c h1 h2 => I.ok.inj y z c (hcl y c h1) (hcl z c h2)
 has := fun y h => by
  have h : (relabel scope X.env).names.lookup y = some .cell ∨ (relabel scope X.env).names.lookup y = some .free := h
  have key : y ∈ fx := by
   rcases h with h | h
   ·have q := List.all_eq_true.mp hfx _ (PySem.mem_of_lookup h)
    simpa using q
   ·have q := List.all_eq_true.mp hfx _ (PySem.mem_of_lookup h)
    simpa using q
  obtain ⟨k1, k2⟩ := F.mem y key
  obtain ⟨c, e⟩ := I.ok.has y (.inl k1)
  exact ⟨c, k2.trans e⟩
 cab := fun y c h => by cases (show false = true from h)
 hd := I.ok.hd
 frames := I.ok.frames
 stk := .inl rfl
 exf := fun b hb => ⟨Nat.ne_of_lt (flt b hb), fun y c e => (ffp b hb).2.2.2.2.1 y c (hcl y c e)⟩
 bs := I.bs
 bsz := Nat.le_trans I.ok.bsz I.sz
 noex := fun b o e hb => by
  rcases (ffp b hb).2.2.2.1 with z | z
  ·exact I.ok.noex b o e z
  ·exact absurd (Nat.lt_of_lt_of_le (Heap.lt_size (I.ok.bs b o e).1) z) (Nat.lt_irrefl _)
 exfs := fun b hb z => by
  rcases List.mem_cons.mp (I.stkSub b z) with q | q
  ·exact (ffp b hb).2.1 q
  ·exact (ffp b hb).2.2.1 q
 funs := I.stack
 frf := I.stkFree
theorem hqQ (I : Inv X pins σ H1 s3) (hkind : scope.kind = .function) (hcl : ∀ y c, cl.lookup y = some c → X.env.cells.lookup y = some c)
  (F : Frees X (relabel scope X.env) cl fx fr) (hfx : ((relabel scope X.env).names.all fun p => if (p.2 == .cell || p.2 == .free) then fx.contains p.1 else true) = true)
  (ffp : ∀ b ∈ fp, FpOk X pins H1 b) (flt : ∀ b ∈ fp, b < s3.heap.objs.size) {h1 : Heap} {t : Nat} {m : Str → Option Value} (hn : h1.Ns s3.heap.objs.size m)
  (keep : ∀ b u, s3.heap.get? b = some u → h1.get? b = some u) : Inv (compCx X (x :: x2 :: fx) scope cl s3 H1 fp) [] (none :: none :: frV σ fr) H1 { s3 with heap := h1, toks := t } := by
 refine ⟨kq9 I hkind hcl F hfx ffp flt, rfl, I.bare, Un.kept keep, ⟨m, hn, fun i y v e1 e2 e3 => ?_⟩, fun y c e => ?_, I.hok.fresh (Nat.le_refl _), fun y c e => I.freeC y c (hcl y c e), fun p hp => absurd (show p ∈ ([] : List (Addr × Obj)) from hp) (by simp), I.hok.kept keep, ?_⟩
 ·cases i with
  | zero => simp at e2
  | succ j =>
   cases j with
   | zero => simp at e2
   | succ j =>
    obtain ⟨i0, k1, k2, k3, k4, k5⟩ := F.at (σ := σ) j y v (by simpa [compCx] using e1) (by simpa using e2)
    obtain ⟨m0, hn0, hl0⟩ := I.loc
    obtain ⟨u, r, l⟩ := hl0 i0 y v k1 k2 (.inr (.inl k3))
    refine ⟨u, r, ?_⟩
    rcases l with ⟨z, _⟩ | ⟨_, c, e, o, ho, hd⟩
    ·rw [k3] at z; cases z
    ·exact .inr ⟨.inl k4, c, k5.trans e, o, keep c o ho, hd⟩
 ·obtain ⟨v, o, ho, hd⟩ := I.cell y c (hcl y c e)
  exact ⟨v, o, keep c o ho, hd⟩
 ·show (none :: none :: frV σ fr).length = (x :: x2 :: fx).length
  simp [frV, F.len]
end
def CompI2 (K : PySem.W.Frag) (J : It) (p : Addr) (fv : St) (tt : TT) (te : TE) (Q : VK) (H1 : Hp) : Prop :=
 ∃ W : Nat → Nat → List V → Hp → Prop, (∃ m, W 0 m [] (upd H1 p (.lst []))) ∧ ∀ i m ys H2, W i m ys H2 → H2 p = some (.lst ys) ∧
  ((J.stop i H2 ∧ Q (.ref p) H2) ∨ (J.go i H2 ∧ ys.length < sizeLine ∧ ∀ z H3, J.yld i H2 z H3 → ∃ a x y, z = .ref a ∧ SqT K H3 a [x, y] ∧ tt (some x :: some y :: fv) H3 fun b H4 =>
   if b = true then te (some x :: some y :: fv) H4 fun y H5 => H5 p = some (.lst ys) ∧ ∃ m', m' < m ∧ W (i + 1) m' (ys ++ [y]) (upd H5 p (.lst (ys ++ [y])))
   else ∃ m', m' < m ∧ W (i + 1) m' ys H4))
def tComp2 (K : PySem.W.Frag) (wi : TI) (fr : List Nat) (tt : TT) (te : TE) : TE := fun σ H Q => wi σ H fun J H1 => ∀ p, H1 p = none → CompI2 K J p (frV σ fr) tt te Q H1
section
variable {X : Cx} {elt iter : Expr} {x x2 : Str} {px px2 ptx pos : Pos} {kx : Nat} {ifs : List Expr} {scope : Scope} {cl : List (Str × Addr)} {fx : List Str} {fr : List Nat} {wi : TI} {tt : TT} {te : TE}
theorem fqK {pins : List (Addr × Obj)} {σ : St} {H3 : Hp} {s3 : Shared} {it p : Addr} {fp : List Addr} {tn : Nat → Heap → Prop} {J : It} {Q : VK} {W : Nat → Nat → List V → Hp → Prop} {m0 t : Nat} {h₁ : Heap} {m : Str → Option Value} {RR : Result → Shared → Prop}
  (hc : X.calm = true) (hkind : scope.kind = .function) (hx : scope.names.lookup x = some .local) (hx2 : scope.names.lookup x2 = some .local) (hnd : (x :: x2 :: fx).Nodup)
  (hcl : ∀ y c, cl.lookup y = some c → X.env.cells.lookup y = some c) (F : Frees X (relabel scope X.env) cl fx fr)
  (hfx : ((relabel scope X.env).names.all fun p => if (p.2 == .cell || p.2 == .free) then fx.contains p.1 else true) = true)
  (ht : ∀ s H fp, PF (compCx X (x :: x2 :: fx) scope cl s H fp) ifs tt) (he : ∀ s H fp, PE (compCx X (x :: x2 :: fx) scope cl s H fp) elt te)
  (I3 : Inv X pins σ H3 s3) (T : Turn X.prog X.w X.K (.Tuple [.Name x px, .Name x2 px2] kx ptx) J fp it tn) (st3 : tn 0 s3.heap) (ffp : ∀ b ∈ fp, FpOk X pins H3 b) (flt3 : ∀ b ∈ fp, b < s3.heap.objs.size)
  (w0 : W 0 m0 [] H3) (turn : ∀ i m ys H2, W i m ys H2 → H2 p = some (.lst ys) ∧
   ((J.stop i H2 ∧ Q (.ref p) H2) ∨ (J.go i H2 ∧ ys.length < sizeLine ∧ ∀ z H3, J.yld i H2 z H3 → ∃ a x y, z = .ref a ∧ SqT X.K H3 a [x, y] ∧ tt (some x :: some y :: frV σ fr) H3 fun b H4 =>
    if b = true then te (some x :: some y :: frV σ fr) H4 fun y H5 => H5 p = some (.lst ys) ∧ ∃ m', m' < m ∧ W (i + 1) m' (ys ++ [y]) (upd H5 p (.lst (ys ++ [y])))
    else ∃ m', m' < m ∧ W (i + 1) m' ys H4)))
  (hns : h₁.Ns s3.heap.objs.size m) (keep1 : ∀ b u, s3.heap.get? b = some u → h₁.get? b = some u)
  (fin : ∀ s6 H5 o o2, Inv (compCx X (x :: x2 :: fx) scope cl s3 H3 fp) [] (o :: o2 :: frV σ fr) H5 s6 → Q (.ref p) H5 → RR (.ok .next) s6) :
  codeAny (model X.prog X.w) X.A (.compStart (.ListComp elt [⟨.Tuple [.Name x px, .Name x2 px2] kx ptx, iter, ifs, 0⟩] scope pos) 0 (.ref it) (.ref p) (compEnvC scope cl s3.heap.objs.size X.env))
   RR { s3 with heap := h₁, toks := t } := by
 have I4 := hqQ (x := x) (x2 := x2) (t := t) I3 hkind hcl F hfx ffp flt3 hns keep1
 have st4 : tn 0 h₁ := T.keep _ _ _ st3 fun b hb o e => keep1 b o e
 have fp0 : ∀ b ∈ fp, H3 b = none := fun b hb => (ffp b hb).1
 have hcal : (compCx X (x :: x2 :: fx) scope cl s3 H3 fp).calm = true := hc
 have stat : ∀ {H' : Hp}, (∀ b ∈ fp, H' b = none) → ∀ b ∈ fp, FpOk (compCx X (x :: x2 :: fx) scope cl s3 H3 fp) [] H' b := fun {H'} hn b hb => by
  obtain ⟨f0, f1, f2, f3, f4, f5⟩ := ffp b hb
  exact ⟨hn b hb, Nat.ne_of_lt (flt3 b hb), I4.ok.exfs b hb, .inl hb, fun y c e => f4 y c (hcl y c e), fun q hq => absurd (show q ∈ ([] : List (Addr × Obj)) from hq) (by simp)⟩
 have hxl : (relabel scope X.env).names.lookup x = some .local := lookup_relabel_local hx
 have hxl2 : (relabel scope X.env).names.lookup x2 = some .local := lookup_relabel_local hx2
 have pg : PG (compCx X (x :: x2 :: fx) scope cl s3 H3 fp) (.Tuple [.Name x px, .Name x2 px2] kx ptx) (gTup X.K 2 (gCons (gName 0) (gCons (gName 1) gNil))) := lqe hcal (dqM (bql (i := 0) hnd rfl (.inl hxl) (.inr hxl)) (dqM (bql (i := 1) hnd rfl (.inl hxl2) (.inr hxl2)) hqW))
 have loop : codeAny (model X.prog X.w) X.A (.compLoop (.ListComp elt [⟨.Tuple [.Name x px, .Name x2 px2] kx ptx, iter, ifs, 0⟩] scope pos) 0 (.ref it) (.ref p) (compEnvC scope cl s3.heap.objs.size X.env))
    RR { s3 with heap := h₁, toks := t } := by
  refine eqR (fun n s' => ∃ i ys H' o o2, Inv (compCx X (x :: x2 :: fx) scope cl s3 H3 fp) [] (o :: o2 :: frV σ fr) H' s' ∧ tn i s'.heap ∧ (∀ b ∈ fp, H' b = none) ∧ W i n ys H') ?_ m0 ⟨0, [], _, none, none, I4, st4, fp0, w0⟩
  rintro n s5 ⟨i, ys, H5, o, o2, I5, st5, fr5, w5⟩
  obtain ⟨hp5, alt⟩ := turn i n ys H5 w5
  rcases alt with ⟨stop, qn⟩ | ⟨go, hlen, step⟩
  ·refine thn (T.done (compCx X (x :: x2 :: fx) scope cl s3 H3 fp) rfl rfl rfl hcal i [] s5 (o :: o2 :: frV σ fr) H5 _ I5 (stat fr5) st5 stop) fun r s6 W' => ?_
   obtain ⟨hr, I6⟩ := W'
   subst hr
   exact fin s6 H5 o o2 I6 qn
  ·refine thn (T.item (compCx X (x :: x2 :: fx) scope cl s3 H3 fp) rfl rfl rfl hcal i [] s5 (o :: o2 :: frV σ fr) H5 _ I5 (stat fr5) st5 go) fun r s6 W' => ?_
   obtain ⟨u, hr, h6⟩ := W'
   subst hr
   refine thn h6 fun _ s7 W' => ?_
   obtain ⟨y7, H7, I7, r7, yl7, st7, fr7⟩ := W'
   have I7' := I7.pinned (stat fr7) (T.obj _ _ st7)
   have back : ∀ {σ' : St} {H' : Hp} {s' : Shared}, Inv (compCx X (x :: x2 :: fx) scope cl s3 H3 fp) ([] ++ pinsAt fp s7.heap) σ' H' s' → tn (i + 1) s'.heap ∧ ∀ b ∈ fp, H' b = none := fun {σ' H' s'} I' => by
    refine ⟨T.keep _ _ _ st7 fun b hb o e => (I'.pin (b, o) (List.mem_append_right _ (List.mem_append_right _ (bq4 hb e)))).1, fun b hb => ?_⟩
    obtain ⟨o, e, d⟩ := T.obj _ _ st7 b hb
    exact (I'.pin (b, o) (List.mem_append_right _ (List.mem_append_right _ (bq4 hb e)))).2.1
   obtain ⟨a7, z1, z2, e7, q7, step7⟩ := step y7 _ yl7
   subst e7
   refine thn (pg _ s7 _ H7 (.ref a7) u (fun σ' H' => σ' = some z1 :: some z2 :: frV σ fr ∧ H' = H7) I7' r7 ⟨a7, [z1, z2], rfl, q7, rfl, z1, [z2], rfl, z2, [], rfl, rfl, rfl, rfl⟩) fun _ s8 W' => ?_
   obtain ⟨σ8, H8, I8, e8, e8'⟩ := W'
   subst e8 e8'
   refine thn (ht s3 H3 fp _ s8 _ _ _ I8 step7) fun b s9 W' => ?_
   obtain ⟨H9, I9, q9⟩ := W'
   cases b with
   | false =>
    rw [if_neg Bool.false_ne_true] at q9 ⊢
    obtain ⟨m', hm, w9⟩ := q9
    exact ⟨m', hm, i + 1, ys, H9, some z1, some z2, I9.unpinned, (back I9).1, (back I9).2, w9⟩
   | true =>
    rw [if_pos rfl] at q9 ⊢
    refine thn (he s3 H3 fp _ s9 _ H9 _ I9 q9) fun u10 s10 W' => ?_
    obtain ⟨y10, H10, I10, r10, hp10, m', hm, w10⟩ := W'
    refine thn (cqc _ s10 _ H10 (.ref p) [y10] (.ref p) [u10] (fun _ H' => H' = upd H10 p (.lst (ys ++ [y10]))) I10 rfl (.cons r10 .nil) ⟨p, ys, y10, rfl, rfl, hp10, hlen, rfl⟩) fun _ s11 W' => ?_
    obtain ⟨_, H11, I11, _, e11⟩ := W'
    subst e11
    exact ⟨m', hm, i + 1, ys ++ [y10], _, some z1, some z2, I11.unpinned, (back I11).1, (back I11).2, w10⟩
 exact codeAny_compStart_list loop (T.self _ 0 _ _ _ st4 loop)
theorem nqU (hc : X.calm = true) (hclos : closureFor scope X.env = pure cl) (hcell : ∀ y ∈ scope.names, y.2 ≠ .cell) (hkind : scope.kind = .function)
  (hnames : ∀ y ∈ scope.names, y.2 = .local → scope.names.lookup y.1 = some .local) (hx : scope.names.lookup x = some .local) (hx2 : scope.names.lookup x2 = some .local) (hnd : (x :: x2 :: fx).Nodup)
  (hk : (cl.all fun q => fx.contains q.1) = true) (F : Frees X (relabel scope X.env) cl fx fr)
  (hfx : ((relabel scope X.env).names.all fun p => if (p.2 == .cell || p.2 == .free) then fx.contains p.1 else true) = true)
  (hi : PI X (.Tuple [.Name x px, .Name x2 px2] kx ptx) iter wi) (ht : ∀ s H fp, PF (compCx X (x :: x2 :: fx) scope cl s H fp) ifs tt) (he : ∀ s H fp, PE (compCx X (x :: x2 :: fx) scope cl s H fp) elt te)
  (hs : ∀ x, foldedSetIterable iter X.env x = pure x := by intro _; rfl) :
  PE X (.ListComp elt [⟨.Tuple [.Name x px, .Name x2 px2] kx ptx, iter, ifs, 0⟩] scope pos) (tComp2 X.K wi fr tt te) := by
 intro pins s σ H Q I h
 have hcl : ∀ y c, cl.lookup y = some c → X.env.cells.lookup y = some c := fun y c e => by
  have q := List.all_eq_true.mp hk _ (PySem.mem_of_lookup e)
  rw [← (F.mem y (by simpa using q)).2]
  exact e
 rw [eval_ListComp]
 refine wpAny_comprehension_free (use := none) rfl hs hclos hkind hnames ?_
 refine thn (hi pins s σ H _ I h) fun v s1 h1 => thn h1 fun itv s2 h2 => ?_
 obtain ⟨it, fp, tn, J, H2, e, I2, T, st2, f2, q2⟩ := h2
 subst e
 have hp0 : H2 s2.heap.objs.size = none := I2.hok.fresh (Nat.le_refl _)
 obtain ⟨W, ⟨m0, w0⟩, turn⟩ := q2 _ hp0
 have flt : ∀ b ∈ fp, b < s2.heap.objs.size := fun b hb => by
  obtain ⟨o, e, _⟩ := T.obj _ _ st2 b hb
  exact Heap.lt_size e
 refine wpAny_newObj_type (wpAny_newFunctionEnv hcell (by intro y hy; simp at hy) (fun h₁ hns₁ hsb₁ => ?_) hkind)
 dsimp only at hns₁ hsb₁ ⊢
 have hlay : ∀ b u, s2.heap.get? b = some u → (s2.heap.push { cls := .type "list", dict := none, data := .seq ([] : List Value).toArray }).get? b = some u := fun b u e => Heap.get?_push_of_some _ e
 have hnew : (s2.heap.push { cls := .type "list", dict := none, data := .seq ([] : List Value).toArray }).get? s2.heap.objs.size = some { cls := .type "list", dict := none, data := .seq ([] : List Value).toArray } := Heap.get?_push_size _ rfl
 have hsz : (s2.heap.push { cls := .type "list", dict := none, data := .seq ([] : List Value).toArray }).objs.size = s2.heap.objs.size + 1 := Heap.size_push _ _
 generalize hHH : s2.heap.push { cls := .type "list", dict := none, data := .seq ([] : List Value).toArray } = HH at hns₁ hsb₁ hlay hnew hsz ⊢
 have I3 : Inv X pins σ (upd H2 s2.heap.objs.size (.lst [])) { s2 with heap := HH, toks := s2.toks } :=
  I2.laid (t' := s2.toks) (o := .lst []) hlay (Nat.le_refl _) ⟨Nat.zero_le _, [], 0, .nil, hnew⟩
 have ffp : ∀ b ∈ fp, FpOk X pins (upd H2 s2.heap.objs.size (.lst [])) b := fun b hb => by
  obtain ⟨f0, fr'⟩ := f2 b hb
  exact ⟨by rw [aqu (Nat.ne_of_lt (flt b hb))]; exact f0, fr'⟩
 have keep1 : ∀ b u, HH.get? b = some u → h₁.get? b = some u := fun b u e => hsb₁.extBut b u (Nat.ne_of_lt (Heap.lt_size e)) (Heap.get?_push_of_some _ e)
 exact fqK (s3 := { s2 with heap := HH, toks := s2.toks }) hc hkind hx hx2 hnd hcl F hfx ht he I3 T (T.keep _ _ _ st2 fun b hb o e => hlay b o e) ffp (fun b hb => by show b < HH.objs.size; rw [hsz]; exact Nat.lt_succ_of_lt (flt b hb)) w0 turn hns₁ keep1 fun s6 H5 o o2 I6 qn => by
  obtain ⟨m, hn6, _⟩ := id I6.loc
  exact ⟨m, hn6, fun h' sb => ⟨.ref _, H5, eqf I3 I6 ffp sb, rfl, qn⟩⟩
theorem iqa {K : PySem.W.Frag} {i : Nat} {y : Str} {py spos : Pos} (hN : X.N.Nodup) (hiN : X.N[i]? = some y) (hy : X.env.scope.names.lookup y = some .local)
  (h : X.K = K) (hc : X.calm = true) (hclos : closureFor scope X.env = pure cl) (hcell : ∀ y ∈ scope.names, y.2 ≠ .cell) (hkind : scope.kind = .function)
  (hnames : ∀ y ∈ scope.names, y.2 = .local → scope.names.lookup y.1 = some .local) (hx : scope.names.lookup x = some .local) (hx2 : scope.names.lookup x2 = some .local) (hnd : (x :: x2 :: fx).Nodup)
  (hk : (cl.all fun q => fx.contains q.1) = true) (F : Frees X (relabel scope X.env) cl fx fr)
  (hfx : ((relabel scope X.env).names.all fun p => if (p.2 == .cell || p.2 == .free) then fx.contains p.1 else true) = true)
  (hi : PI X (.Tuple [.Name x px, .Name x2 px2] kx ptx) iter wi) (ht : ∀ s H fp, PF (compCx X (x :: x2 :: fx) scope cl s H fp) ifs tt) (he : ∀ s H fp, PE (compCx X (x :: x2 :: fx) scope cl s H fp) elt te)
  (hs : ∀ x, foldedSetIterable iter X.env x = pure x := by intro _; rfl) (hsw : swapsWith (.ListComp elt [⟨.Tuple [.Name x px, .Name x2 px2] kx ptx, iter, ifs, 0⟩] scope pos) (some (.Name y py)) spos.line X.env = pure true := by rfl) :
  PS X (.Assign [.Name y py] (.ListComp elt [⟨.Tuple [.Name x px, .Name x2 px2] kx ptx, iter, ifs, 0⟩] scope pos) spos) (tAsg (tComp2 K wi fr tt te) (gName i)) := by
 subst h
 intro pins s σ H D I h
 have hcl : ∀ y c, cl.lookup y = some c → X.env.cells.lookup y = some c := fun y c e => by
  have q := List.all_eq_true.mp hk _ (PySem.mem_of_lookup e)
  rw [← (F.mem y (by simpa using q)).2]
  exact e
 rw [exec_Assign_Name_used _ _ _ _ hsw]
 refine wpAny_bind (wpAny_standAt (wpAny_bind ?_))
 show wpAny _ X.A (do let _ ← comprehension (.ListComp elt [⟨.Tuple [.Name x px, .Name x2 px2] kx ptx, iter, ifs, 0⟩] scope pos) scope X.env _ (newList []) false (eval iter X.env) (some (assign (.Name y py) X.env))) _ _ s
 refine wpAny_bind (wpAny_mono (wpAny_comprehension_free (use := some (assign (.Name y py) X.env)) (Q := fun _ s' => SP X pins D .next s') rfl hs hclos hkind hnames ?_) (fun _ s' hq => wpAny_pure (wpAny_pure hq)) fun _ _ e => e)
 refine thn (hi pins s σ H _ I h) fun v s1 h1 => thn h1 fun itv s2 h2 => ?_
 obtain ⟨it, fp, tn, J, H2, e, I2, T, st2, f2, q2⟩ := h2
 subst e
 have hp0 : H2 s2.heap.objs.size = none := I2.hok.fresh (Nat.le_refl _)
 obtain ⟨W, ⟨m0, w0⟩, turn⟩ := q2 _ hp0
 have flt : ∀ b ∈ fp, b < s2.heap.objs.size := fun b hb => by
  obtain ⟨o, e, _⟩ := T.obj _ _ st2 b hb
  exact Heap.lt_size e
 refine wpAny_newObj_type (wpAny_newFunctionEnv hcell (by intro y hy; simp at hy) (fun h₁ hns₁ hsb₁ => ?_) hkind)
 dsimp only at hns₁ hsb₁ ⊢
 have hlay : ∀ b u, s2.heap.get? b = some u → (s2.heap.push { cls := .type "list", dict := none, data := .seq ([] : List Value).toArray }).get? b = some u := fun b u e => Heap.get?_push_of_some _ e
 have hnew : (s2.heap.push { cls := .type "list", dict := none, data := .seq ([] : List Value).toArray }).get? s2.heap.objs.size = some { cls := .type "list", dict := none, data := .seq ([] : List Value).toArray } := Heap.get?_push_size _ rfl
 have hsz : (s2.heap.push { cls := .type "list", dict := none, data := .seq ([] : List Value).toArray }).objs.size = s2.heap.objs.size + 1 := Heap.size_push _ _
 generalize hHH : s2.heap.push { cls := .type "list", dict := none, data := .seq ([] : List Value).toArray } = HH at hns₁ hsb₁ hlay hnew hsz ⊢
 have I3 : Inv X pins σ (upd H2 s2.heap.objs.size (.lst [])) { s2 with heap := HH, toks := s2.toks } :=
  I2.laid (t' := s2.toks) (o := .lst []) hlay (Nat.le_refl _) ⟨Nat.zero_le _, [], 0, .nil, hnew⟩
 have ffp : ∀ b ∈ fp, FpOk X pins (upd H2 s2.heap.objs.size (.lst [])) b := fun b hb => by
  obtain ⟨f0, fr'⟩ := f2 b hb
  exact ⟨by rw [aqu (Nat.ne_of_lt (flt b hb))]; exact f0, fr'⟩
 have keep1 : ∀ b u, HH.get? b = some u → h₁.get? b = some u := fun b u e => hsb₁.extBut b u (Nat.ne_of_lt (Heap.lt_size e)) (Heap.get?_push_of_some _ e)
 exact fqK (Q := fun x H1 => gName i x σ H1 D.nx) (s3 := { s2 with heap := HH, toks := s2.toks }) hc hkind hx hx2 hnd hcl F hfx ht he I3 T (T.keep _ _ _ st2 fun b hb o e => hlay b o e) ffp (fun b hb => by show b < HH.objs.size; rw [hsz]; exact Nat.lt_succ_of_lt (flt b hb)) w0 turn hns₁ keep1 fun s6 H5 o o2 I6 qn => by
  have nC : H5 HH.objs.size = none := I6.free
  have I7 : Inv X pins σ H5 s6 := eqf (h' := s6.heap) I3 I6 ffp ⟨rfl, fun _ _ => rfl⟩
  obtain ⟨f0, f1, f2, f3, f4, f5⟩ := I3.fpOk (H' := H5) (b := HH.objs.size) (Nat.le_refl _) nC
  obtain ⟨m, hn6, _⟩ := id I6.loc
  show wpAny _ X.A (assign (.Name y py) X.env (.ref _)) _ _ s6
  refine wpAny_assign_Name (fqr I7 hN hiN (.inl hy) (v := .ref _) rfl (fun s8 I8 sbx => ?_) (.inr hy))
  obtain ⟨a, sb, ha⟩ := sbx
  have hne : HH.objs.size ≠ a := by
   rcases ha with rfl | ha
   ·exact f1
   ·exact fun z => f4 y a ha z.symm
  refine ⟨m, hn6.sameBut sb hne, fun h' sb' => ?_⟩
  exact ⟨_, H5, I8.turned (t' := s8.toks) (it := HH.objs.size) (fun b o hb e => sb'.extBut b o hb e) f0 f1 f3 f4 f5, qn⟩
end
section
variable {p : Addr} {fv : St} {te : TE} {Q : VK} {H1 : Hp} {K : PySem.W.Frag}
theorem iq3 {tl : TE} {tt : TT} {fr : List Nat} {σ : St} {H : Hp} : (tComp2 K (iTup K tl) fr tt te σ H Q) = (tl σ H fun x H1 => ∃ a, x = .ref a ∧ (∃ xs, SqT K H1 a xs) ∧ ∀ p, H1 p = none → CompI2 K (Itt K a) p (frV σ fr) tt te Q H1) := rfl
end
section
variable {X : Cx}
def rFind : V → List V → Hp → VK → Prop := fun x vs H Q => match x, vs with
 | .str z, [.str y] => Q (.int (Txt.find z y)) H
 | _, _ => False
theorem mqj {z y : Str} {H : Hp} {Q : VK} : (rFind (.str z) [.str y] H Q) = (Q (.int (Txt.find z y)) H) := rfl
end
end L2
namespace Wm
open PySem L2
end Wm
namespace Wm
end Wm
namespace L2
open PySem
theorem mqU {l : Addr} {H : Hp} {Q : VK} {i : Int} : rPopAt (.ref l) [.int i] H Q ↔ ∃ xs k y, H l = some (.lst xs) ∧ -(2 ^ 63) ≤ i ∧ i < 2 ^ 63 ∧ seqIndex? i xs.length = some k ∧ xs[k]? = some y ∧ Q y (upd H l (.lst (xs.eraseIdx k))) :=
 ⟨fun ⟨_, xs, _, k, y, h1, h2, h⟩ => by cases h1; cases h2; exact ⟨xs, k, y, h⟩, fun ⟨xs, k, y, h⟩ => ⟨_, xs, _, k, y, rfl, rfl, h⟩⟩
end L2
namespace L2
open PySem PySem.Spec PySem.W PyProof.Rows
def tRaise (E : XK) (C : Addr) : TS := fun _ _ H => E (.ref C) none H
theorem kqz {E : XK} {C : Addr} {D : Ends} {σ : St} {H : Hp} : (tRaise E C D σ H) = (E (.ref C) none H) := rfl
structure Flown (P : Program) (w : World) (base : Heap) (outer : List Env) (H : Hp) (s : Shared) (a t C : Addr) (B : Heap) (H' : Hp) (s' : Shared) : Prop where
 os : s'.os = s.os
 bare : AllBare s'.gens
 st : base.StaysIn B
 fly : Heap.FlyingW B outer a (.ref C) (.ref t) s'.heap
 hok : HOk P w H' B
 un : Un (frs outer) [] H H' s.heap s'.heap
 kb : ∀ b o, s.heap.get? b = some o → H b = none → b ∉ frs outer → B.get? b = some o
 thB : ∀ b o, s.heap.get? b = some o → b ∉ frs outer → ∃ o', B.get? b = some o'
section
variable {P : Program} {w : World} {K : Frag} {mg : Str → Option Value} {base : Heap} {N : List Str} {qual : Str} {scope : Scope} {f : Addr} {cd : Value} {A : Around} {outer : List Env} {s : Shared} {H : Hp} {E : XK}
end
def exO (a C : Addr) : HO := .ext fun h => ∃ o, h.get? a = some o ∧ o.cls = .ref C
section
variable {X : Cx} {pins : List (Addr × Obj)} {σ : St} {H H1 H2 : Hp} {s s1 s2 : Shared}
end
structure Catch (K : Frag) (W : Addr) : Prop where
 ty : typeIn K (.ref W) = some (.type "type")
 ex : subIn K (.ref W) (.type "BaseException") = some true
 cl : (clsIn K W).isSome = true
def tTry (K : Frag) (sp : Sp) (t : TA) (W : Addr) (i : Nat) (tb : TS) : TS := fun D σ H => t σ H fun vs H1 => sp vs H1 (fun _ H2 => D.nx σ H2) fun cls _ H2 =>
 ∃ C, cls = .ref C ∧ subIn K (.ref C) (.ref W) = some true ∧ ∀ a, H2 a = none → tb { nx := fun σ' H' => D.nx (σ'.set i none) H', rt := D.rt } (σ.set i (some (.ref a))) (upd H2 a (exO a C))
end L2
namespace L2
open PySem PySem.Spec PySem.W PySem.Calls PyProof.Rows PySem.Builtin PySem.Builtin.ObjectAttr PySem.Builtin.Getset_descriptor
structure ExLook (K : Frag) (C : Addr) : Prop where
 ga : findIn K (.ref C) "__getattribute__" = some (some (.builtin "BaseException.__getattribute__"))
 cl : findIn K (.ref C) "__class__" = some (some (.builtin "object.__class__"))
 na : findIn K (.ref C) "__getattr__" = some none
 mo : mroIn K C (.type "object") = some true
 mb : mroIn K C (.type "BaseException") = some true
 is : (clsIn K C).isSome = true
section
variable {prog : Program} {w : World} {A : Around} {E : Value → Shared → Prop} {hh : Heap} {g : Array GenState} {dr : Drawn} {t : Nat} {os : OsState} {K : Frag} {a C : Addr} {o : Obj}
end
inductive KitAns (K : Frag) (H : Hp) (C : Addr) : V → Bool → Prop
 | cls {W : Addr} {b : Bool} : kitOne K (.ref C) (.ref W) = some b → KitAns K H C (.ref W) b
 | ty {T : String} {b : Bool} : kitOne K (.ref C) (.type T) = some b → KitAns K H C (.ty T) b
 | tup {p : Addr} {cs : List Addr} {b : Bool} : H p = some (.tup (cs.map V.ref)) → kitAny K (.ref C) (cs.map Value.ref) = some b → KitAns K H C (.ref p) b
def rIsE (K : Frag) : List V → Hp → VK → Prop := fun vs H Q => ∃ a c C b, vs = [.ref a, c] ∧ H a = some (exO a C) ∧ ExLook K C ∧ KitAns K H C c b ∧ Q (.bl b) H
end L2
namespace L2
open PySem PySem.W
theorem nqh {K : Frag} {a : Addr} {c : V} {H : Hp} {Q : VK} : rIsE K [.ref a, c] H Q ↔ ∃ C b, H a = some (exO a C) ∧ ExLook K C ∧ KitAns K H C c b ∧ Q (.bl b) H :=
 ⟨fun ⟨_, _, C, b, e, h⟩ => by cases e; exact ⟨C, b, h⟩, fun ⟨C, b, h⟩ => ⟨a, c, C, b, rfl, h⟩⟩
theorem nqR {K : Frag} {sp : Sp} {t : TA} {W : Addr} {i : Nat} {tb : TS} {D : Ends} {σ : St} {H : Hp} : tTry K sp t W i tb D σ H ↔ t σ H fun vs H1 => sp vs H1 (fun _ H2 => D.nx σ H2) fun cls _ H2 =>
 ∃ C, cls = .ref C ∧ subIn K (.ref C) (.ref W) = some true ∧ ∀ a, H2 a = none → tb { nx := fun σ' H' => D.nx (σ'.set i none) H', rt := D.rt } (σ.set i (some (.ref a))) (upd H2 a (exO a C)) := Iff.rfl
end L2
namespace L2
open PySem PySem.Spec PyProof.Rows
section
variable {X : Cx}
def rStarts : V → List V → Hp → VK → Prop := fun x vs H Q => ∃ z y, ∃ i : Nat, x = .str z ∧ vs = [.str y, .int (i : Int)] ∧ Q (.bl (decide (i + y.length ≤ z.length) && Builtin.Str.subAt z y i)) H
end
section
variable {X : Cx}
def rPart : V → List V → Hp → VK → Prop := fun x vs H Q => ∃ z y, x = .str z ∧ vs = [.str y] ∧ (y.length == 0) = false ∧ z.length ≤ sizeLine ∧
 ∀ p, H p = none → Q (.ref p) (upd H p (.tup [.str (Txt.partition z y).1, .str (Txt.partition z y).2.1, .str (Txt.partition z y).2.2]))
end
section
variable {X : Cx}
def rIntS : List V → Hp → VK → Prop := fun xs H Q => ∃ z n, xs = [.str z] ∧ z.length ≤ 640 ∧ PySem.intText? z = some n ∧ Q (.int n) H
theorem lqk {z : Str} {H : Hp} {Q : VK} : rIntS [.str z] H Q ↔ ∃ n, z.length ≤ 640 ∧ PySem.intText? z = some n ∧ Q (.int n) H :=
 ⟨fun ⟨_, n, e, h⟩ => by cases e; exact ⟨n, h⟩, fun ⟨n, h⟩ => ⟨z, n, rfl, h⟩⟩
theorem mqQ {z y : Str} {i : Nat} {H : Hp} {Q : VK} : rStarts (.str z) [.str y, .int (i : Int)] H Q ↔ Q (.bl (decide (i + y.length ≤ z.length) && Builtin.Str.subAt z y i)) H :=
 ⟨fun ⟨_, _, j, e1, e2, h⟩ => by
  cases e1
  injection e2 with e2 e3
  cases e2
  injection e3 with e3
  injection e3 with e3
  obtain rfl : i = j := by omega
  exact h, fun h => ⟨z, y, i, rfl, rfl, h⟩⟩
theorem nqc {z y : Str} {H : Hp} {Q : VK} : rPart (.str z) [.str y] H Q ↔ (y.length == 0) = false ∧ z.length ≤ sizeLine ∧ ∀ p, H p = none → Q (.ref p) (upd H p (.tup [.str (Txt.partition z y).1, .str (Txt.partition z y).2.1, .str (Txt.partition z y).2.2])) :=
 ⟨fun ⟨_, _, e1, e2, h⟩ => by cases e1; cases e2; exact h, fun h => ⟨z, y, rfl, rfl, h⟩⟩
theorem nqP {K : PySem.W.Frag} {ta : TE} {f : Str} {σ : St} {H : Hp} {Q : VK} : (tFld K ta f σ H Q) = (ta σ H fun x H1 => ∃ a C dx fs v, x = .ref a ∧ H1 a = some (.ins C dx fs) ∧ Cls K C ∧ NoAttr K C f ∧ fs.lookup f = some v ∧ Q v H1) := rfl
theorem lq8 {K : PySem.W.Frag} {ta tv : TE} {f : Str} {D : Ends} {σ : St} {H : Hp} : (sFld K ta tv f D σ H) = (tv σ H fun y H1 => ta σ H1 fun x H2 => ∃ a C dx fs, x = .ref a ∧ H2 a = some (.ins C dx fs) ∧ Cls K C ∧ NoAttr K C f ∧ fs.length < 1000 ∧ D.nx σ (upd H2 a (.ins C dx (putF f y fs)))) := rfl
theorem lqL {C : Addr} {m : Str} {sp : Sp} {dvs : List V} {E : XK} {ta : TE} {t : TA} {σ : St} {H : Hp} {Q : VK} : (tMeth C m sp dvs E ta t σ H Q) = (ta σ H fun x H1 => ∃ a dx fs, x = .ref a ∧ H1 a = some (.ins C dx fs) ∧ fs.lookup m = none ∧ t σ H1 fun vs H2 => sp (x :: (vs ++ dvs)) H2 Q E) := rfl
theorem mqd {C : Addr} {sp : Sp} {dvs : List V} {E : XK} {t : TA} {σ : St} {H : Hp} {Q : VK} : (tMake C sp dvs E t σ H Q) = (t σ H fun vs H1 => ∀ x dx, H1 x = none → H1 dx = none → dx ≠ x → sp (.ref x :: (vs ++ dvs)) (upd (upd H1 dx (.own x)) x (.ins C dx [])) (fun v H2 => v = .non ∧ Q (.ref x) H2) E) := rfl
end
end L2
namespace Wm
open PySem L2
def ahead (t : List Nat) : List Nat := t.takeWhile fun c => decide (c ≠ 58)
inductive WrT (fr : List Nat) : List Nat → List Nat → Prop
 | nil : WrT fr [] []
 | self {c : Nat} {s w : List Nat} : (isPl c = true ∨ c ∈ fr) → c ≠ 126 → WrT fr s w → WrT fr (c :: s) (c :: w)
 | pair {c a b : Nat} {s w : List Nat} : sgO a b = some c → WrT fr s w → WrT fr (c :: s) (126 :: a :: b :: w)
section
variable {K : PySem.W.Frag} {H : Hp} {C p : Addr} {t : List Nat} {i : Nat}
end
def frS : List Nat := (Str.ofString "!$'()*,;@&=+").cps.toList
def frQ : List Nat := (Str.ofString "!$'()*,;@+/?:").cps.toList
def ValW (o : Option (List Nat)) (w : List Nat) : Prop := match o with
 | none => w = []
 | some s => ∃ v, w = 61 :: v ∧ WrT frQ s v
inductive TlW : List (List Nat) → Bool → List Nat → Prop
 | stop : TlW [] false []
 | ends : TlW [] true [47]
 | more {s w : List Nat} {ss : List (List Nat)} {e : Bool} {v : List Nat} : WrT frS s w → s ≠ [] → TlW ss e v → TlW (s :: ss) e (47 :: (w ++ v))
inductive StpW : List (List Nat) → Bool → List Nat → Prop
 | none {e : Bool} : StpW [] e []
 | some {s w : List Nat} {ss : List (List Nat)} {e : Bool} {v : List Nat} : WrT frS s w → s ≠ [] → TlW ss e v → StpW (s :: ss) e (w ++ v)
inductive PrsW : List (List Nat × Option (List Nat)) → List Nat → Prop
 | nil : PrsW [] []
 | cons {n w v : List Nat} {o : Option (List Nat)} {ps : List (List Nat × Option (List Nat))} {r : List Nat} : WrT frQ n w → n ≠ [] → ValW o v → PrsW ps r → PrsW ((n, o) :: ps) (38 :: (w ++ (v ++ r)))
def fgS : List Nat := (Str.ofString "0123456789").cps.toList
theorem mq8 {c : Nat} : c ∈ fgS ↔ 48 ≤ c ∧ c ≤ 57 := by
 rw [show fgS = [48, 49, 50, 51, 52, 53, 54, 55, 56, 57] by decide +kernel]
 simp only [List.mem_cons, List.not_mem_nil, or_false]
 omega
end Wm
namespace L2
open PySem
end L2
namespace Wm
open PySem L2
def GoodsT (n : Nat) (H : Hp) (vs : List V) : Prop := ∀ v ∈ vs, ∃ x : Ad, (x.Wf ∧ x.Tiny ∧ x.steps.length ≤ n) ∧ IsT H x.data v
theorem GoodsT.cons {n : Nat} {H : Hp} {v : V} {vs : List V} {x : Ad} (h1 : x.Wf ∧ x.Tiny ∧ x.steps.length ≤ n) (h3 : IsT H x.data v) (h : GoodsT n H vs) : GoodsT n H (v :: vs) := fun u hu => by
 rcases List.mem_cons.mp hu with rfl | hu
 ·exact ⟨x, h1, h3⟩
 ·exact h u hu
theorem Ad.Tiny.local {x : Ad} (h : x.Tiny) : ({ x with scheme := [], house := none, door := none } : Ad).Tiny := ⟨h.stp, h.que, h.mar, fun l e => by cases e⟩
end Wm
namespace L2
open PySem PySem.Spec PyProof.Rows
section
variable {X : Cx} {pins : List (Addr × Obj)} {σ : St} {H : Hp} {s : Shared} {h' : Heap}
theorem Inv.walked {t' : Nat} {wr : List Addr} {T : Addr} {o : HO} (I : Inv X pins σ H s) (hf : ∀ b ∈ wr, FpOk X pins H b) (k : ∀ b u, b ∉ wr → s.heap.get? b = some u → h'.get? b = some u) (hT : s.heap.objs.size ≤ T)
  (new : ObjOk X.prog X.w (upd H T o) h' T o) : Inv X pins σ (upd H T o) { s with heap := h', toks := t' } := by
 have hn : H T = none := I.hok.fresh hT
 have nw : ∀ b u, H b = some u → b ∉ wr := fun b u e z => by rw [(hf b z).1] at e; cases e
 refine I.step (g' := s.gens) (d' := s.drawn) (ch := wr) (fun b hb => ?_) (fun b u _ _ hc e _ => k b u hc e) (fun b u _ _ hc e _ => ⟨u.slots, k b u hc e⟩) (fun b u _ q n => ?_)
  (fun b u hc e => ⟨u, k b u hc e⟩) (fun b xs q => ?_) (fun b u xs q => ?_) (fun b ps q => ?_) (fun m hm => ?_) (fun b u e => ?_) I.bare
 ·obtain ⟨f0, f1, f2, f3, f4, f5⟩ := hf b hb
  exact ⟨f3, f1, f4, f5⟩
 ·rw [aqu (Nat.ne_of_lt (Nat.lt_of_lt_of_le (Heap.lt_size q) hT))]; exact n
 ·rw [aqu (aqo q hn)]; exact q
 ·rw [aqu (aqo q hn)]; exact q
 ·exact ⟨#[], by rw [aqu (aqo q hn), q]; simp⟩
 ·obtain ⟨u, es, ep, ho, r⟩ := hm
  refine ⟨u, es, ep, k _ u (fun z => ?_) ho, r⟩
  exact (hf _ z).2.1 rfl
 ·by_cases hb : b = T
  ·subst hb; rw [aqq] at e; cases e; exact new
  ·rw [aqu hb] at e
   refine (I.hok b u e).stay (fun c v hc q => k c v ?_ q) (fun c q => by rw [aqu (aqo q hn)]; exact q) fun c xs q => by rw [aqu (aqo q hn)]; exact q
   rcases hc with z | z
   ·rw [z]; exact nw b u e
   ·exact nw c _ z
theorem Inv.turnedL {t' : Nat} {wr : List Addr} (I : Inv X pins σ H s) (hf : ∀ b ∈ wr, FpOk X pins H b) (k : ∀ b u, b ∉ wr → s.heap.get? b = some u → h'.get? b = some u) : Inv X pins σ H { s with heap := h', toks := t' } := by
 have nw : ∀ b u, H b = some u → b ∉ wr := fun b u e z => by rw [(hf b z).1] at e; cases e
 refine I.step (g' := s.gens) (d' := s.drawn) (ch := wr) (fun b hb => ?_) (fun b u _ _ hc e _ => k b u hc e) (fun b u _ _ hc e _ => ⟨u.slots, k b u hc e⟩) (fun _ _ _ _ n => n)
  (fun b u hc e => ⟨u, k b u hc e⟩) (fun _ _ e => e) (fun _ _ _ e => e) (fun b ps e => ⟨#[], by rw [e]; simp⟩) (fun m hm => ?_) (fun b u e => ?_) I.bare
 ·obtain ⟨f0, f1, f2, f3, f4, f5⟩ := hf b hb
  exact ⟨f3, f1, f4, f5⟩
 ·obtain ⟨u, es, ep, ho, r⟩ := hm
  refine ⟨u, es, ep, k _ u (fun z => ?_) ho, r⟩
  exact (hf _ z).2.1 rfl
 ·refine (I.hok b u e).stay (fun c v hc q => k c v ?_ q) (fun _ q => q) fun _ _ q => q
  rcases hc with z | z
  ·rw [z]; exact nw b u e
  ·exact nw c _ z
end
def ItW (n : Nat) (ok : Hp → Prop) (pt : Nat → Hp → List V → Prop) : It :=
 ⟨fun i H => i < n ∧ ok H, fun i H x H' => ∃ T xs, x = .ref T ∧ H T = none ∧ H' = upd H T (.tup xs) ∧ pt i H xs, fun i H => i = n ∧ ok H⟩
theorem hqk {P : Program} {w : World} {K : PySem.W.Frag} {elts : List Expr} {k : Nat} {pos : Pos} {I : Addr} {fp wr fq : List Addr} {n : Nat} {α : Type} {Pt : α → Nat → Array Value → Prop} {Sn : α → Nat → Heap → Prop} {Mid : α → Nat → Addr → Heap → Prop} {tn : Nat → Heap → Prop} {ok : Hp → Prop} {pt : Nat → Hp → List V → Prop}
  (hI : I ∈ fq) (hq : ∀ b ∈ wr, b ∈ fq) (hW : ∀ (A : Around) (a : α), A.handled = none → WalksT P w A I fp wr n (Pt a) (Sn a) (Mid a))
  (hself : ∀ (A : Around) (i : Nat) (s : Shared) (Q : Value → Shared → Prop) (E : Value → Shared → Prop), tn i s.heap → Q (.ref I) s → wpAny (model P w) A (pyIter (.ref I)) Q E s)
  (hobj : ∀ i h, tn i h → ∀ b ∈ fq, ∃ o, h.get? b = some o ∧ ∀ v, o.data ≠ .cell v)
  (hkeep : ∀ i h h', tn i h → (∀ b ∈ fq, ∀ o, h.get? b = some o → h'.get? b = some o) → tn i h')
  (hin : ∀ (X : Cx), X.prog = P → X.w = w → X.K = K → ∀ (i : Nat) (pins : List (Addr × Obj)) (s : Shared) (σ : St) (H : Hp), Inv X pins σ H s → (∀ b ∈ fq, FpOk X pins H b) → tn i s.heap → ok H → ∃ a, Sn a i s.heap ∧ ∀ vals, Pt a i vals → ∃ xs, xs.length ≤ sizeLine ∧ Vals xs vals.toList ∧ pt i H xs)
  (hout : ∀ a i h, Sn a i h → tn i h) :
  Turn P w K (.Tuple elts k pos) (ItW n ok pt) fq I tn where
 mem := hI
 obj := hobj
 keep := hkeep
 item := by
  intro X hP hw hK hc i pins s σ H E J hf st hg
  obtain ⟨hi, hok⟩ := hg
  have hfw : ∀ b ∈ wr, FpOk X pins H b := fun b hb => hf b (hq b hb)
  obtain ⟨a, hst, hv⟩ := hin X hP hw hK i pins s σ H J hf st hok
  obtain ⟨hW1, hW2, hW3, hW4, hW5, hW6, hW7⟩ := hW X.A a (J.ok.hd hc)
  refine hW3 i s _ E hi hst fun T vals h1 tk hPt hT hTup hmid hk => ?_
  refine ⟨.ref T, rfl, ?_⟩
  refine hW4 elts k pos i T _ _ E hmid fun h2 st2 hk2 => ?_
  obtain ⟨xs, hxl, hvs, hpt⟩ := hv vals hPt
  have hTw : T ∉ wr := hW5 i T h1 hmid
  have hTn : H T = none := J.hok.fresh hT
  have hk3 : ∀ b u, b ∉ wr → s.heap.get? b = some u → h2.get? b = some u := fun b u hb e => hk2 b u hb (hk b u hb e)
  obtain ⟨o, ho, hcl, m, hd⟩ := hTup
  have hT2 : IsTup h2 T vals.toList.toArray := by
   refine ⟨o, hk2 T o hTw ho, hcl, m, ?_⟩
   rw [hd]
  refine ⟨.ref T, upd H T (.tup xs), J.walked (t' := tk) hfw hk3 hT ⟨hxl, vals.toList, hvs, hT2⟩, rfl, ⟨T, xs, rfl, hTn, rfl, hpt⟩, hout a _ _ st2, fun b hb => ?_⟩
  have : b ≠ T := fun z => by
   obtain ⟨o, e, _⟩ := hobj i _ st b hb
   exact absurd (Heap.lt_size e) (by rw [z]; exact Nat.not_lt.mpr hT)
  rw [aqu this]
  exact (hf b hb).1
 done := by
  intro X hP hw hK hc i pins s σ H E J hf st hg
  obtain ⟨hi, hok⟩ := hg
  subst hi
  have hfw : ∀ b ∈ wr, FpOk X pins H b := fun b hb => hf b (hq b hb)
  obtain ⟨a, hst, _⟩ := hin X hP hw hK i pins s σ H J hf st hok
  obtain ⟨hW1, hW2, hW3, hW4, hW5, hW6, hW7⟩ := hW X.A a (J.ok.hd hc)
  exact hW6 s _ E hst fun h1 tk hk => ⟨rfl, J.turnedL hfw hk⟩
 self := hself
section
variable {σ : St} {H : Hp} {D : Ends} {g : TG} {tb : TS}
end
section
variable {prog : Program} {w : World} {A : Around} {E : Value → Shared → Prop} {s : Shared}
theorem jq3 {it a : Addr} {i : Nat} {its : Array Value} {x : Value} {Q : Value → Shared → Prop} (hi : s.heap.IsTupleIter it a i) (ha : s.heap.IsTuple a its) (hx : its[i]? = some x)
  (q : ∀ h', h'.IsTupleIter it a (i + 1) → Heap.SameBut it s.heap h' → Q x { s with heap := h' }) : wpAny (model prog w) A (Builtin.SmallTypes.nextOf (.ref it)) Q E s := by
 obtain ⟨u, hu, hcu, hdu⟩ := id hi
 obtain ⟨v, hv, _, m, hdv⟩ := ha
 unfold Builtin.SmallTypes.nextOf
 refine wpAny_bind (wpAny_callSpecial?_slot (name := Str.ofString "__next__") hi.typeIs F.slot_tuple_iterator_next (wpAny_call_entry F.slot_tuple_iterator_next hi.typeIs F.entry_tuple_iterator_next ?_ (F.args_tuple_iterator_next_1 _)))
 show wpAny _ _ (field (.ref it) 0 >>= _) _ _ _
 refine wpAny_bind (wpAny_field hu hdu (x := .ref a) rfl ?_)
 show wpAny _ _ (if (Value.ref a == Value.none) = true then _ else _) _ _ _
 rw [if_neg (by exact Bool.false_ne_true)]
 show wpAny _ _ (field (.ref it) 1 >>= _) _ _ _
 refine wpAny_bind (wpAny_field hu hdu (x := .int i 0) rfl ?_)
 show wpAny _ _ (seqItems? (.ref a) >>= _) _ _ _
 refine wpAny_bind (wpAny_seqItems hv hdv ?_)
 simp only [Int.toNat_natCast, hx]
 refine wpAny_bind (wpAny_setField hu hdu (by simp) (wpAny_pure ⟨x, rfl, wpAny_pure (q _ ⟨_, Heap.get?_update_self _ hu (Obj.isFreed_of_fields (Obj.data_mapFields hdu _)), (Obj.cls_mapFields ..).trans hcu, ?_⟩ (Heap.SameBut.update ..))⟩))
 rw [Obj.data_mapFields hdu]
 simp [rawInt]
theorem jq4 {it a : Addr} {i : Nat} {its : Array Value} {Q : Value → Shared → Prop} (hh : A.handled = none) (hi : s.heap.IsTupleIter it a i) (ha : s.heap.IsTuple a its) (hx : its[i]? = none)
  (q : ∀ h' e, Heap.ExtBut it s.heap h' → (∃ o, h'.get? e = some o ∧ o.cls = .type "StopIteration") → E (.ref e) { s with heap := h' }) : wpAny (model prog w) A (Builtin.SmallTypes.nextOf (.ref it)) Q E s := by
 obtain ⟨u, hu, hcu, hdu⟩ := id hi
 obtain ⟨v, hv, _, m, hdv⟩ := ha
 unfold Builtin.SmallTypes.nextOf
 refine wpAny_bind (wpAny_callSpecial?_slot (name := Str.ofString "__next__") hi.typeIs F.slot_tuple_iterator_next (wpAny_call_entry F.slot_tuple_iterator_next hi.typeIs F.entry_tuple_iterator_next ?_ (F.args_tuple_iterator_next_1 _)))
 show wpAny _ _ (field (.ref it) 0 >>= _) _ _ _
 refine wpAny_bind (wpAny_field hu hdu (x := .ref a) rfl ?_)
 show wpAny _ _ (if (Value.ref a == Value.none) = true then _ else _) _ _ _
 rw [if_neg (by exact Bool.false_ne_true)]
 show wpAny _ _ (field (.ref it) 1 >>= _) _ _ _
 refine wpAny_bind (wpAny_field hu hdu (x := .int i 0) rfl ?_)
 show wpAny _ _ (seqItems? (.ref a) >>= _) _ _ _
 refine wpAny_bind (wpAny_seqItems hv hdv ?_)
 simp only [Int.toNat_natCast, hx]
 refine wpAny_bind (wpAny_rule (wpAny_bind (wpAny_setField hu hdu (by simp) ?_)))
 show wpAny _ A.in1 (newExc (.type "StopIteration") [] >>= _) _ _ _
 unfold newExc newTuple
 refine wpAny_bind (wpAny_bind (wpAny_newObj_type (wpAny_bind (m := firstArgMember _ _) (wpAny_of_eq (a := Value.none) (by first | rfl | (simp only [firstArgMember]; rfl)) (wpAny_newObj_type ?_ (by size_fits)))) (by size_fits)))
 unfold raiseNew
 refine wpAny_bind (wpAny_handled ?_)
 rw [show A.in1.handled = none from hh]
 exact wpAny_bind (wpAny_pure (wpAny_throw (q _ _ (((Heap.SameBut.update ..).extBut.push _).push _) ⟨_, Heap.get?_push_size _ rfl, rfl⟩)))
theorem hqb (hh : A.handled = none) (it a : Addr) (hne : a ≠ it) (its : Array Value) : Draws prog w A it [it, a] its.size (fun i v => its[i]? = some v) (fun i h => h.IsTupleIter it a i ∧ h.IsTuple a its) where
 live := fun _ _ st => let ⟨o, ho, _⟩ := st.1; ⟨o, ho⟩
 frame := fun _ _ _ st hk => ⟨let ⟨o, ho, r⟩ := st.1; ⟨o, hk it (by simp) o ho, r⟩, let ⟨o, ho, r⟩ := st.2; ⟨o, hk a (by simp) o ho, r⟩⟩
 item := fun i s Q E hi st hQ => jq3 st.1 st.2 (x := its[i]) (by simp [hi]) fun h' hit' hs' => hQ _ h' s.toks (by simp [hi]) ⟨hit', st.2.extBut hs'.extBut hne⟩ hs'
 done := fun s Q E st hE => jq4 hh st.1 st.2 (by simp) hE
end
abbrev titO (t : Addr) : Obj := { cls := .type "tuple_iterator", data := .fields #[.ref t, .int 0 0] }
abbrev enuO (it : Addr) : Obj := { cls := .type "enumerate", data := .fields #[.none, .bool false, .ref it, rawInt 0, .none, .none] }
section
variable {prog : Program} {w : World} {A : Around} {E : Value → Shared → Prop} {s : Shared}
end
def ItE (K : PySem.W.Frag) (a : Addr) (xs : List V) : It := ItW xs.length (fun H => SqT K H a xs) fun i _ ys => ∃ v, xs[i]? = some v ∧ ys = [.int (i : Int), v]
section
variable {X : Cx} {K : PySem.W.Frag} {elts : List Expr} {kk : Nat} {tpos : Pos}
def iEnum (K : PySem.W.Frag) (ta : TA) : TI := fun σ H R => ta σ H fun vs H1 => ∃ a xs, vs = [.ref a] ∧ SqT K H1 a xs ∧ R (ItE K a xs) H1
variable {σ : St} {H : Hp} {D : Ends} {g : TG} {tb : TS} {aa : TA}
theorem lqU : (tFor (iEnum K aa) g tb D σ H) = (aa σ H fun vs H1 => ∃ a xs, vs = [.ref a] ∧ SqT K H1 a xs ∧ LoopI (ItE K a xs) g tb D σ H1) := rfl
end
structure Zap (z TI TO i1 i2 l1 l2 : Addr) : Prop where
 a1 : TI ≠ z ∧ TO ≠ z ∧ i1 ≠ z ∧ i2 ≠ z ∧ l1 ≠ z ∧ l2 ≠ z
 a2 : TI ≠ TO ∧ TI ≠ i1 ∧ TI ≠ i2 ∧ TO ≠ i1 ∧ TO ≠ i2 ∧ i1 ≠ i2
 a3 : l1 ≠ TO ∧ l2 ≠ TO ∧ l1 ≠ i2 ∧ l2 ≠ i1
section
variable {prog : Program} {w : World} {A : Around} {E : Value → Shared → Prop} {s : Shared}
variable {z TI TO i1 i2 l1 l2 : Addr} {n1 n2 k : Nat} {P1 P2 : Nat → Value → Prop} {S1 S2 : Nat → Heap → Prop}
theorem still {it l b : Addr} {n i : Nat} {P : Nat → Value → Prop} {S : Nat → Heap → Prop} {h h' : Heap} (D : Draws prog w A it [it, l] n P S) (st : S i h) (e : Heap.ExtBut b h h') (h1 : it ≠ b) (h2 : l ≠ b) : S i h' :=
 D.frame i h h' st fun c hc o q => e c o (by rcases List.mem_cons.mp hc with rfl | hc; exact h1; rw [List.mem_singleton.mp hc]; exact h2) q
theorem kqd (hh : A.handled = none) (d1 : ∀ A : Around, A.handled = none → Draws prog w A i1 [i1, l1] n1 P1 S1) (d2 : ∀ A : Around, A.handled = none → Draws prog w A i2 [i2, l2] n2 P2 S2) (ap : Zap z TI TO i1 i2 l1 l2) {a b : Value} {Q : Value → Shared → Prop}
  (hz : IsZip s.heap z TI TO .none) (hTI : IsPair s.heap TI (.ref i1) (.ref i2)) (hTO : IsPair s.heap TO a b) (t1 : S1 k s.heap) (t2 : S2 k s.heap) (k1 : k < n1) (k2 : k < n2)
  (q : ∀ x y h' tk, P1 k x → P2 k y → IsZip h' z TI TO (rawInt s.heap.objs.size) → IsPair h' TO x y → S1 (k + 1) h' → S2 (k + 1) h' → IsPair h' s.heap.objs.size x y →
   (∀ c o, c ≠ z → c ≠ TO → c ≠ i1 → c ≠ i2 → s.heap.get? c = some o → h'.get? c = some o) → Q (.ref s.heap.objs.size) { s with heap := h', toks := tk }) :
  wpAny (model prog w) A (Builtin.«zip.__next__» ⟨[.ref z], []⟩) (fun fin s' => ∃ v, fin = .done (.ret v) ∧ Q v s') E s := by
 obtain ⟨⟨p1, p2, p3, p4, p5, p6⟩, ⟨q1, q2, q3, q4, q5, q6⟩, r1, r2, r3, r4⟩ := ap
 show wpAny _ _ (field (.ref z) 2 >>= _) _ _ s
 refine wpAny_bind (wpAny_field (s := s) hz rfl (x := .bool false) rfl ?_)
 show wpAny _ _ (field (.ref z) 3 >>= _) _ _ s
 refine wpAny_bind (wpAny_field (s := s) hz rfl (x := .ref TI) rfl (wpAny_bind (wpAny_seqItems hTI rfl ?_)))
 show wpAny _ _ (Builtin.SmallTypes.ownedTupleIsFree (.ref z) >>= _) _ _ s
 unfold Builtin.SmallTypes.ownedTupleIsFree
 refine wpAny_bind (wpAny_bind (wpAny_field (s := s) hz rfl (x := .none) rfl (wpAny_pure ?_)))
 simp only [if_true]
 refine wpAny_bind (wpAny_rule (wpAny_bind (wpAny_field (s := s) hz rfl (x := .ref TO) rfl (wpAny_bind (wpAny_setField_rec hz (by simp) fun ha za sa => ?_)))))
 replace za : IsZip ha z TI TO .ellipsis := za
 simp only [List.zipIdx_cons, List.zipIdx_nil, List.forIn_cons, List.forIn_nil]
 refine wpAny_bind (wpAny_bind (wpAny_bind (wpAny_onRaise ?_)))
 show wpAny _ _ (Builtin.SmallTypes.nextOf (.ref i1) >>= _) _ _ _
 refine wpAny_bind ((d1 A hh).item k _ _ _ k1 (still (d1 A hh) t1 sa.extBut p3 p5) fun x hb tb px s1b sb => wpAny_pure ?_)
 have ob : IsPair hb TO a b := sb.extBut _ _ q4 (sa.extBut _ _ p2 hTO)
 refine wpAny_bind (wpAny_seqItems ob rfl (wpAny_bind (wpAny_updateSeq_pair ob fun hc oc sc => wpAny_bind (wpAny_letGo (wpAny_pure ?_)))))
 replace oc : IsPair hc TO x b := oc
 refine wpAny_bind (wpAny_bind (wpAny_onRaise ?_))
 show wpAny _ _ (Builtin.SmallTypes.nextOf (.ref i2) >>= _) _ _ _
 have t2c : S2 k hc := still (d2 A hh) (still (d2 A hh) (still (d2 A hh) t2 sa.extBut p4 p6) sb.extBut q6.symm r4) sc.extBut q5.symm r2
 refine wpAny_bind ((d2 A hh).item k _ _ _ k2 t2c fun y hd td py s2d sd => wpAny_pure ?_)
 have od : IsPair hd TO x b := sd.extBut _ _ q5 oc
 refine wpAny_bind (wpAny_seqItems od rfl (wpAny_bind (wpAny_updateSeq_pair od fun he oe se => wpAny_bind (wpAny_letGo (wpAny_pure (wpAny_pure ?_))))))
 replace oe : IsPair he TO x y := oe
 refine wpAny_bind (wpAny_seqItems oe rfl (wpAny_bind (wpAny_newTuple ?_)))
 have ze : IsZip he z TI TO .ellipsis := se.extBut _ _ p2.symm (sd.extBut _ _ p4.symm (sc.extBut _ _ p2.symm (sb.extBut _ _ p3.symm za)))
 have hsz : he.objs.size = s.heap.objs.size := by rw [se.1, sd.1, sc.1, sb.1, sa.1]
 have ke : ∀ c o, c ≠ z → c ≠ TO → c ≠ i1 → c ≠ i2 → s.heap.get? c = some o → he.get? c = some o := fun c o c1 c2 c3 c4 e => se.extBut _ _ c2 (sd.extBut _ _ c4 (sc.extBut _ _ c2 (sb.extBut _ _ c3 (sa.extBut _ _ c1 e))))
 have s1e : S1 (k + 1) he := still (d1 A hh) (still (d1 A hh) (still (d1 A hh) s1b sc.extBut q4.symm r1) sd.extBut q6 r3) se.extBut q4.symm r1
 have s2e : S2 (k + 1) he := still (d2 A hh) s2d se.extBut q5.symm r2
 have zl : z < he.objs.size := Heap.lt_size ze
 show wpAny _ _ (Builtin.SmallTypes.ownedTupleHandOut (.ref z) (.ref he.objs.size) >>= _) _ _ _
 unfold Builtin.SmallTypes.ownedTupleHandOut
 have zf : IsZip (he.push { cls := .type "tuple", data := .seq #[x, y] }) z TI TO .ellipsis := Heap.get?_push_of_some _ ze
 refine wpAny_bind (wpAny_bind (wpAny_setField_rec zf (by simp) fun hf zg sf => ?_))
 replace zg : IsZip hf z TI TO (rawInt he.objs.size) := zg
 refine wpAny_setField_rec zg (by simp) fun hg zh sg => ?_
 replace zh : IsZip hg z TI TO (rawInt he.objs.size) := zh
 have up : ∀ c o, c ≠ z → he.get? c = some o → hg.get? c = some o := fun c o c1 e => sg.extBut _ _ c1 (sf.extBut _ _ c1 (Heap.get?_push_of_some _ e))
 have tg : IsPair hg he.objs.size x y := sg.extBut _ _ (Nat.ne_of_gt zl) (sf.extBut _ _ (Nat.ne_of_gt zl) (Heap.get?_push_size _ rfl))
 rw [hsz] at zh tg
 refine wpAny_pure ⟨_, rfl, ?_⟩
 show Q (.ref he.objs.size) _
 rw [hsz]
 exact q x y hg td px py zh (up _ _ p2 oe) ((d1 A hh).frame _ _ _ s1e fun c hc o e => up c o (by rcases List.mem_cons.mp hc with rfl | hc; exact p3; rw [List.mem_singleton.mp hc]; exact p5) e) ((d2 A hh).frame _ _ _ s2e fun c hc o e => up c o (by rcases List.mem_cons.mp hc with rfl | hc; exact p4; rw [List.mem_singleton.mp hc]; exact p6) e) tg fun c o c1 c2 c3 c4 e => up c o c1 (ke c o c1 c2 c3 c4 e)
theorem kq4 (hh : A.handled = none) (d1 : ∀ A : Around, A.handled = none → Draws prog w A i1 [i1, l1] n1 P1 S1) (d2 : ∀ A : Around, A.handled = none → Draws prog w A i2 [i2, l2] n2 P2 S2) (ap : Zap z TI TO i1 i2 l1 l2) {a b : Value} {Q : Fin → Shared → Prop}
  (hz : IsZip s.heap z TI TO .none) (hTI : IsPair s.heap TI (.ref i1) (.ref i2)) (hTO : IsPair s.heap TO a b) (t1 : S1 k s.heap) (t2 : S2 k s.heap) (hk : k = n1 ∨ (k < n1 ∧ k = n2))
  (q : ∀ h' e tk, (∀ c o, c ≠ z → c ≠ TO → c ≠ i1 → c ≠ i2 → s.heap.get? c = some o → h'.get? c = some o) → (∃ o, h'.get? e = some o ∧ o.cls = .type "StopIteration") → E (.ref e) { s with heap := h', toks := tk }) :
  wpAny (model prog w) A (Builtin.«zip.__next__» ⟨[.ref z], []⟩) Q E s := by
 obtain ⟨⟨p1, p2, p3, p4, p5, p6⟩, ⟨q1, q2, q3, q4, q5, q6⟩, r1, r2, r3, r4⟩ := ap
 show wpAny _ _ (field (.ref z) 2 >>= _) _ _ s
 refine wpAny_bind (wpAny_field (s := s) hz rfl (x := .bool false) rfl ?_)
 show wpAny _ _ (field (.ref z) 3 >>= _) _ _ s
 refine wpAny_bind (wpAny_field (s := s) hz rfl (x := .ref TI) rfl (wpAny_bind (wpAny_seqItems hTI rfl ?_)))
 show wpAny _ _ (Builtin.SmallTypes.ownedTupleIsFree (.ref z) >>= _) _ _ s
 unfold Builtin.SmallTypes.ownedTupleIsFree
 refine wpAny_bind (wpAny_bind (wpAny_field (s := s) hz rfl (x := .none) rfl (wpAny_pure ?_)))
 simp only [if_true]
 refine wpAny_bind (wpAny_rule (wpAny_bind (wpAny_field (s := s) hz rfl (x := .ref TO) rfl (wpAny_bind (wpAny_setField_rec hz (by simp) fun ha za sa => ?_)))))
 replace za : IsZip ha z TI TO .ellipsis := za
 simp only [List.zipIdx_cons, List.zipIdx_nil, List.forIn_cons, List.forIn_nil]
 refine wpAny_bind (wpAny_bind (wpAny_bind (wpAny_onRaise ?_)))
 show wpAny _ _ (Builtin.SmallTypes.nextOf (.ref i1) >>= _) _ _ _
 rcases hk with rfl | ⟨k1, rfl⟩
 ·refine wpAny_bind ((d1 A hh).done _ _ _ (still (d1 A hh) t1 sa.extBut p3 p5) fun hb e sb W' => ?_)
  obtain ⟨oe, ho, hc⟩ := W'
  have zb : IsZip hb z TI TO .ellipsis := sb _ _ p3.symm za
  have ez : e ≠ z := fun y => by subst y; rw [zb] at ho; cases ho; simp at hc
  exact wpAny_setField_rec zb (by simp) fun hd _ sd => q hd e _ (fun c o c1 _ c3 _ y => sd.extBut _ _ c1 (sb _ _ c3 (sa.extBut _ _ c1 y))) ⟨oe, sd.extBut _ _ ez ho, hc⟩
 refine wpAny_bind ((d1 A hh).item _ _ _ _ k1 (still (d1 A hh) t1 sa.extBut p3 p5) fun x hb tb px s1b sb => wpAny_pure ?_)
 have ob : IsPair hb TO a b := sb.extBut _ _ q4 (sa.extBut _ _ p2 hTO)
 refine wpAny_bind (wpAny_seqItems ob rfl (wpAny_bind (wpAny_updateSeq_pair ob fun hc oc sc => wpAny_bind (wpAny_letGo (wpAny_pure ?_)))))
 refine wpAny_bind (wpAny_bind (wpAny_onRaise ?_))
 show wpAny _ _ (Builtin.SmallTypes.nextOf (.ref i2) >>= _) _ _ _
 have t2c := still (d2 A hh) (still (d2 A hh) (still (d2 A hh) t2 sa.extBut p4 p6) sb.extBut q6.symm r4) sc.extBut q5.symm r2
 refine wpAny_bind ((d2 A hh).done _ _ _ t2c fun hd e sd W' => ?_)
 obtain ⟨oe, ho, hce⟩ := W'
 have zd : IsZip hd z TI TO .ellipsis := sd _ _ p4.symm (sc.extBut _ _ p2.symm (sb.extBut _ _ p3.symm za))
 have ez : e ≠ z := fun y => by subst y; rw [zd] at ho; cases ho; simp at hce
 exact wpAny_setField_rec zd (by simp) fun hf _ sf => q hf e _ (fun c o c1 c2 c3 c4 y => sf.extBut _ _ c1 (sd _ _ c4 (sc.extBut _ _ c2 (sb.extBut _ _ c3 (sa.extBut _ _ c1 y))))) ⟨oe, sf.extBut _ _ ez ho, hce⟩
theorem jqf (hh : A.handled = none) (d1 : ∀ A : Around, A.handled = none → Draws prog w A i1 [i1, l1] n1 P1 S1) (d2 : ∀ A : Around, A.handled = none → Draws prog w A i2 [i2, l2] n2 P2 S2) (ap : Zap z TI TO i1 i2 l1 l2) :
  WalksT prog w A z [z, TI, TO, i1, i2, l1, l2] [z, TO, i1, i2] (min n1 n2) (fun i vals => ∃ x y, P1 i x ∧ P2 i y ∧ vals = #[x, y])
   (fun i h => IsZip h z TI TO .none ∧ IsPair h TI (.ref i1) (.ref i2) ∧ (∃ a b, IsPair h TO a b) ∧ S1 i h ∧ S2 i h)
   (fun i T h => IsZip h z TI TO (rawInt T) ∧ IsPair h TI (.ref i1) (.ref i2) ∧ (∃ a b, IsPair h TO a b) ∧ S1 (i + 1) h ∧ S2 (i + 1) h ∧ T ≠ z ∧ T ≠ TO ∧ T ≠ i1 ∧ T ≠ i2) where
 sub := fun c hc => by simp at hc ⊢; rcases hc with rfl | rfl | rfl | rfl <;> simp
 frame := fun i h h' st hk => by
  obtain ⟨hz, hTI, ⟨a, b, hTO⟩, t1, t2⟩ := st
  exact ⟨hk z (by simp) _ hz, hk TI (by simp) _ hTI, ⟨a, b, hk TO (by simp) _ hTO⟩, (d1 A hh).frame _ _ _ t1 fun c hc o e => hk c (by simp at hc ⊢; rcases hc with rfl | rfl <;> simp) o e, (d2 A hh).frame _ _ _ t2 fun c hc o e => hk c (by simp at hc ⊢; rcases hc with rfl | rfl <;> simp) o e⟩
 item := fun i s Q E hi st hQ => by
  obtain ⟨hz, hTI, ⟨a, b, hTO⟩, t1, t2⟩ := st
  have hT : s.TypeIs (.ref z) "zip" := ⟨_, hz, rfl⟩
  have lt : ∀ {c o}, s.heap.get? c = some o → s.heap.objs.size ≠ c := fun e => Nat.ne_of_gt (Heap.lt_size e)
  unfold pyNext
  refine wpAny_bind (wpAny_attempt (wpAny_callSpecial?_slot (name := Str.ofString "__next__") hT F.slot_zip_next (wpAny_call_entry F.slot_zip_next hT F.entry_zip_next ?_ (F.args_zip_next_1 _))))
  refine kqd (A := A.in1) hh d1 d2 ap hz hTI hTO t1 t2 (Nat.lt_of_lt_of_le hi (Nat.min_le_left ..)) (Nat.lt_of_lt_of_le hi (Nat.min_le_right ..)) fun x y h' tk px py z' o' s1 s2 T' hk => wpAny_pure ?_
  obtain ⟨o1, e1⟩ := (d1 A hh).live _ _ t1
  obtain ⟨o2, e2⟩ := (d2 A hh).live _ _ t2
  exact hQ s.heap.objs.size #[x, y] h' tk ⟨x, y, px, py, rfl⟩ (Nat.le_refl _) ⟨_, T', rfl, _, rfl⟩
   ⟨z', hk _ _ ap.a1.1 ap.a2.1 ap.a2.2.1 ap.a2.2.2.1 hTI, ⟨_, _, o'⟩, s1, s2, lt hz, lt hTO, lt e1, lt e2⟩
   fun c o hc e => hk c o (fun y => hc (by simp [y])) (fun y => hc (by simp [y])) (fun y => hc (by simp [y])) (fun y => hc (by simp [y])) e
 go := fun elts k pos i T s Q E hm hQ => by
  obtain ⟨hz, hTI, ⟨a, b, hTO⟩, t1, t2, _⟩ := hm
  obtain ⟨⟨p1, p2, p3, p4, p5, p6⟩, _⟩ := ap
  exact wpAny_letOwnedTupleGo_zip hz fun h' z' s' => hQ h' ⟨z', s'.extBut _ _ p1 hTI, ⟨a, b, s'.extBut _ _ p2 hTO⟩, still (d1 A hh) t1 s'.extBut p3 p5, still (d2 A hh) t2 s'.extBut p4 p6⟩ fun c o hc e => s'.extBut _ _ (fun y => hc (by simp [y])) e
 apart := fun i T h hm hT => by
  obtain ⟨_, _, _, _, _, t1, t2, t3, t4⟩ := hm
  simp only [List.mem_cons, List.not_mem_nil, or_false] at hT
  rcases hT with h | h | h | h
  ·exact t1 h
  ·exact t2 h
  ·exact t3 h
  ·exact t4 h
 done := fun s Q E st hQ => by
  obtain ⟨hz, hTI, ⟨a, b, hTO⟩, t1, t2⟩ := st
  have hT : s.TypeIs (.ref z) "zip" := ⟨_, hz, rfl⟩
  unfold pyNext
  refine wpAny_bind (wpAny_attempt (wpAny_callSpecial?_slot (name := Str.ofString "__next__") hT F.slot_zip_next (wpAny_call_entry F.slot_zip_next hT F.entry_zip_next ?_ (F.args_zip_next_1 _))))
  refine kq4 (A := A.in1) hh d1 d2 ap hz hTI hTO t1 t2 (by omega) fun h' e tk hk W' => ?_
  obtain ⟨o, ho, hc⟩ := W'
  refine wpAny_bind (wpAny_isInstance (T := "StopIteration") (b := true) ⟨o, ho, hc⟩ isSubtype_stop (wpAny_pure (hQ h' tk fun c o hc e => ?_)))
  exact hk c o (fun y => hc (by simp [y])) (fun y => hc (by simp [y])) (fun y => hc (by simp [y])) (fun y => hc (by simp [y])) e
 self := fun i s Q E st hQ => wpAny_pyIter_zip st.1 hQ
end
abbrev zA (h : Heap) (a : Addr) : Heap := h.push (titO a)
abbrev zB (h : Heap) (a b : Addr) : Heap := (zA h a).push (titO b)
abbrev zC (h : Heap) (a b : Addr) : Heap := (zB h a b).push { cls := .type "tuple", data := .seq #[.ref h.objs.size, .ref (zA h a).objs.size] }
abbrev zD (h : Heap) (a b : Addr) : Heap := (zC h a b).push { cls := .type "tuple", data := .seq #[.none, .none] }
abbrev zE (h : Heap) (a b : Addr) : Heap := (zD h a b).push { cls := .type "zip", data := .fields #[.none, .bool false, .bool false, .ref (zB h a b).objs.size, .ref (zC h a b).objs.size] }
theorem lqP (a b : Addr) (xs ys : Array Value) : Meets (Builtin.«zip.__new__» ⟨[.type "zip", .ref a, .ref b], []⟩) (fun _ R s => s.heap.IsTuple a xs ∧ s.heap.IsTuple b ys ∧ R (.ok (.ret (.ref (zD s.heap a b).objs.size))) { s with heap := zE s.heap a b }) :=
 .of_wp fun prog w A R s h => by
  obtain ⟨hp, g, d, tk, os⟩ := s; obtain ⟨ha, hb, h⟩ := h
  have hsub := sub_zip
  have h1 : Heap.IsTuple (Shared.heap ⟨hp, g, d, tk, os⟩) a xs := ha
  have h2 : Heap.IsTuple (Shared.heap ⟨hp.push (titO a), g, d, tk, os⟩) b ys := Heap.IsTuple.push hb _
  wp_walk using wpAny_pyIter_tuple h1, wpAny_pyIter_tuple h2
  exact ⟨_, rfl, h⟩
section
variable {prog : Program} {w : World} {A : Around} {E : Value → Shared → Prop} {s : Shared}
theorem kqJ {a b : Addr} {xs ys : Array Value} {Q : Value → Shared → Prop} (ha : s.heap.IsTuple a xs) (hb : s.heap.IsTuple b ys)
  (h : ∀ h', IsZip h' (s.heap.objs.size + 4) (s.heap.objs.size + 2) (s.heap.objs.size + 3) .none → IsPair h' (s.heap.objs.size + 2) (.ref s.heap.objs.size) (.ref (s.heap.objs.size + 1)) → IsPair h' (s.heap.objs.size + 3) .none .none →
   h'.IsTupleIter s.heap.objs.size a 0 → h'.IsTupleIter (s.heap.objs.size + 1) b 0 → (∀ c o, s.heap.get? c = some o → h'.get? c = some o) → Q (.ref (s.heap.objs.size + 4)) { s with heap := h' }) :
  wpAny (model prog w) A (call (.type "zip") [.ref a, .ref b]) Q E s := by
 refine callType_new F.called_zip (by decide) (F.typeCall_zip_2 _ _) (F.newCall_zip_2 _ _) (fun obj => F.args_object_init_3 obj _ _) F.entry_zip_new (lqP a b xs ys) ⟨ha, hb, ?_⟩
 have y1 : (zA s.heap a).objs.size = s.heap.objs.size + 1 := Heap.size_push ..
 have y2 : (zB s.heap a b).objs.size = s.heap.objs.size + 2 := by rw [Heap.size_push, y1]
 have y3 : (zC s.heap a b).objs.size = s.heap.objs.size + 3 := by rw [Heap.size_push, y2]
 have y4 : (zD s.heap a b).objs.size = s.heap.objs.size + 4 := by rw [Heap.size_push, y3]
 have up : ∀ {h : Heap} {o : Obj} {c : Addr} {u : Obj}, h.get? c = some u → (h.push o).get? c = some u := fun e => Heap.get?_push_of_some _ e
 have e5 : (zE s.heap a b).get? (zD s.heap a b).objs.size = some _ := Heap.get?_push_size _ rfl
 have e4 : (zE s.heap a b).get? (zC s.heap a b).objs.size = some _ := up (Heap.get?_push_size _ rfl)
 have e3 : (zE s.heap a b).get? (zB s.heap a b).objs.size = some _ := up (up (Heap.get?_push_size _ rfl))
 have e2 : (zE s.heap a b).get? (zA s.heap a).objs.size = some _ := up (up (up (Heap.get?_push_size _ rfl)))
 have e1 : (zE s.heap a b).get? s.heap.objs.size = some _ := up (up (up (up (Heap.get?_push_size _ rfl))))
 show _ ∧ _
 rw [y2, y3, y4] at e5
 rw [y1, y2] at e3
 rw [y3] at e4
 rw [y1] at e2
 rw [y4]
 exact ⟨⟨_, e5, rfl⟩, h _ e5 e3 e4 ⟨_, e1, rfl, rfl⟩ ⟨_, e2, rfl, rfl⟩ fun c o x => up (up (up (up (up x))))⟩
end
def ItZ (K : PySem.W.Frag) (a b : Addr) (xs ys : List V) : It := ItW (min xs.length ys.length) (fun H => SqT K H a xs ∧ SqT K H b ys) fun i _ vs => ∃ x y, xs[i]? = some x ∧ ys[i]? = some y ∧ vs = [x, y]
theorem kqm {P : Program} {w : World} {K : PySem.W.Frag} {elts : List Expr} {k : Nat} {pos : Pos} {z TI TO i1 i2 a b : Addr} (xs ys : List V) (ap : Zap z TI TO i1 i2 a b) (h1 : a ≠ i1) (h2 : b ≠ i2) :
  Turn P w K (.Tuple elts k pos) (ItZ K a b xs ys) [z, TO, i1, i2, TI] z (fun i h => IsZip h z TI TO .none ∧ IsPair h TI (.ref i1) (.ref i2) ∧ (∃ u v, IsPair h TO u v) ∧ h.IsTupleIter i1 a i ∧ h.IsTupleIter i2 b i) := by
 refine hqk (fp := [z, TI, TO, i1, i2, a, b]) (wr := [z, TO, i1, i2]) (α := { q : Array Value × Array Value // q.1.size = xs.length ∧ q.2.size = ys.length }) (Pt := fun q i vals => ∃ x y, q.1.1[i]? = some x ∧ q.1.2[i]? = some y ∧ vals = #[x, y])
  (Sn := fun q i h => IsZip h z TI TO .none ∧ IsPair h TI (.ref i1) (.ref i2) ∧ (∃ a b, IsPair h TO a b) ∧ (h.IsTupleIter i1 a i ∧ h.IsTuple a q.1.1) ∧ (h.IsTupleIter i2 b i ∧ h.IsTuple b q.1.2))
  (Mid := fun q i T h => IsZip h z TI TO (rawInt T) ∧ IsPair h TI (.ref i1) (.ref i2) ∧ (∃ a b, IsPair h TO a b) ∧ (h.IsTupleIter i1 a (i + 1) ∧ h.IsTuple a q.1.1) ∧ (h.IsTupleIter i2 b (i + 1) ∧ h.IsTuple b q.1.2) ∧ T ≠ z ∧ T ≠ TO ∧ T ≠ i1 ∧ T ≠ i2)
  (by simp) (fun b hb => by simp at hb ⊢; rcases hb with rfl | rfl | rfl | rfl <;> simp) (fun A q hh => ?_) (fun A i s Q E st q => wpAny_pyIter_zip st.1 q) (fun i h st b hb => ?_) (fun i h h' st kp => ?_) ?_ (fun q i h st => ⟨st.1, st.2.1, st.2.2.1, st.2.2.2.1.1, st.2.2.2.2.1⟩)
 ·have := jqf (prog := P) (w := w) (A := A) hh (fun B hB => hqb (prog := P) (w := w) (A := B) hB i1 a h1 q.1.1) (fun B hB => hqb (prog := P) (w := w) (A := B) hB i2 b h2 q.1.2) ap
  rw [q.2.1, q.2.2] at this
  exact this
 ·obtain ⟨hz, hI, ⟨u, v, hO⟩, ⟨o1, e1, c1, d1⟩, o2, e2, c2, d2⟩ := st
  simp only [List.mem_cons, List.not_mem_nil, or_false] at hb
  rcases hb with rfl | rfl | rfl | rfl | rfl
  ·exact ⟨_, hz, fun v z => by cases z⟩
  ·exact ⟨_, hO, fun v z => by cases z⟩
  ·exact ⟨o1, e1, fun v z => by rw [d1] at z; cases z⟩
  ·exact ⟨o2, e2, fun v z => by rw [d2] at z; cases z⟩
  ·exact ⟨_, hI, fun v z => by cases z⟩
 ·obtain ⟨hz, hI, ⟨u, v, hO⟩, ⟨o1, e1, r1⟩, o2, e2, r2⟩ := st
  exact ⟨kp z (by simp) _ hz, kp TI (by simp) _ hI, ⟨u, v, kp TO (by simp) _ hO⟩, ⟨o1, kp i1 (by simp) _ e1, r1⟩, o2, kp i2 (by simp) _ e2, r2⟩
 ·intro X hP hw hK i pins s σ H J hf st hok
  subst hP hw hK
  obtain ⟨l1, rv1, p1, hz1⟩ := J.tuple hok.1
  obtain ⟨l2, rv2, p2, hz2⟩ := J.tuple hok.2
  refine ⟨⟨(l1.toArray, l2.toArray), by have := rv1.length; simp; omega, by have := rv2.length; simp; omega⟩, ⟨st.1, st.2.1, st.2.2.1, ⟨st.2.2.2.1, p1⟩, st.2.2.2.2, p2⟩, ?_⟩
  rintro vals ⟨x, y, hx, hy, rfl⟩
  have hx' : l1[i]? = some x := by simpa using hx
  have hy' : l2[i]? = some y := by simpa using hy
  have hi : i < xs.length := by have := rv1.length; have := (List.getElem?_eq_some_iff.mp hx').1; omega
  have hj : i < ys.length := by have := rv2.length; have := (List.getElem?_eq_some_iff.mp hy').1; omega
  obtain ⟨u, hu, ru⟩ := rv1.get (List.getElem?_eq_getElem hi)
  obtain ⟨v, hv, rv⟩ := rv2.get (List.getElem?_eq_getElem hj)
  rw [hx'] at hu
  rw [hy'] at hv
  cases hu
  cases hv
  exact ⟨[xs[i], ys[i]], (show 2 ≤ sizeLine by decide), .cons ru (.cons rv .nil), xs[i], ys[i], List.getElem?_eq_getElem hi, List.getElem?_eq_getElem hj, rfl⟩
section
variable {X : Cx} {K : PySem.W.Frag} {elts : List Expr} {kk : Nat} {tpos : Pos}
theorem lqp {n a b : Nat} (ha : a < n) (hb : b < n) : Zap (n + 4) (n + 2) (n + 3) n (n + 1) a b := by
 refine ⟨⟨?_, ?_, ?_, ?_, ?_, ?_⟩, ⟨?_, ?_, ?_, ?_, ?_, ?_⟩, ?_, ?_, ?_, ?_⟩ <;> (show ¬ ((_ : Nat) = _)) <;> omega
def iZip (K : PySem.W.Frag) (ta : TA) : TI := fun σ H R => ta σ H fun vs H1 => ∃ a b xs ys, vs = [.ref a, .ref b] ∧ SqT K H1 a xs ∧ SqT K H1 b ys ∧ R (ItZ K a b xs ys) H1
theorem nqg {a b : Expr} {ta : TA} {p pos : Pos} (h : X.K = K) (hg : Gl X "zip") (hm : X.mg "zip" = none) (ha : PA X [a, b] ta) (hs : starEach [a, b] X.env = [(false, eval a X.env), (false, eval b X.env)] := by rfl) (hs2 : starEach [b] X.env = [(false, eval b X.env)] := by rfl) : PI X (.Tuple elts kk tpos) (.Call (.Name "zip" p) [a, b] [] pos) (iZip K ta) := by
 subst h
 intro pins s σ H R I q
 refine Call_ (fqH I hg hm boot_zip (PyProof.Rows.callWith_type1 (thn (ha pos pins s σ H _ I q) fun us s1 W' => ?_) (by rw [hs, hs2]) (by rw [hs2]; rfl)))
 obtain ⟨vs, H1, I1, r1, q1⟩ := W'
 obtain ⟨a, b, xs, ys, e, hq1, hq2, q⟩ := q1
 subst e
 obtain ⟨u, v, rfl, ru, rv⟩ := vals2 r1
 cases ru
 cases rv
 obtain ⟨l1, rv1, p1, hz1⟩ := I1.tuple hq1
 obtain ⟨l2, rv2, p2, hz2⟩ := I1.tuple hq2
 refine kqJ (show s1.heap.IsTuple a l1.toArray from p1) (show s1.heap.IsTuple b l2.toArray from p2) fun h' he hI hO hi hj hk => ?_
 refine wpAny_pyIter_zip (s := { s1 with heap := h' }) he ?_
 have hal : a < s1.heap.objs.size := by obtain ⟨o, ho, _⟩ := p1; exact Heap.lt_size ho
 have hbl : b < s1.heap.objs.size := by obtain ⟨o, ho, _⟩ := p2; exact Heap.lt_size ho
 have hkept : Inv X pins σ H1 { s1 with heap := h' } := I1.kept (t' := s1.toks) hk
 refine ⟨s1.heap.objs.size + 4, [s1.heap.objs.size + 4, s1.heap.objs.size + 3, s1.heap.objs.size, s1.heap.objs.size + 1, s1.heap.objs.size + 2], _, _, H1, rfl, hkept, kqm xs ys (lqp hal hbl) (Nat.ne_of_lt hal) (Nat.ne_of_lt (Nat.lt_succ_of_lt hbl)), ⟨he, hI, ⟨_, _, hO⟩, hi, hj⟩, fun b hb => ?_, q⟩
 simp only [List.mem_cons, List.not_mem_nil, or_false] at hb
 have hb' : s1.heap.objs.size ≤ b := by
  rcases hb with rfl | rfl | rfl | rfl | rfl
  ·exact Nat.le_add_right _ _
  ·exact Nat.le_add_right _ _
  ·exact Nat.le_refl _
  ·exact Nat.le_add_right _ _
  ·exact Nat.le_add_right _ _
 exact I1.fpOk hb' (I1.hok.fresh hb')
variable {σ : St} {H : Hp} {D : Ends} {g : TG} {tb : TS} {aa : TA}
theorem lqR : (tFor (iZip K aa) g tb D σ H) = (aa σ H fun vs H1 => ∃ a b xs ys, vs = [.ref a, .ref b] ∧ SqT K H1 a xs ∧ SqT K H1 b ys ∧ LoopI (ItZ K a b xs ys) g tb D σ H1) := rfl
variable {p : Addr} {fv : St} {tt : TT} {te : TE} {Q : VK} {H1 : Hp} {fr : List Nat}
theorem jqu : (tComp2 K (iZip K aa) fr tt te σ H Q) = (aa σ H fun vs H1 => ∃ a b xs ys, vs = [.ref a, .ref b] ∧ SqT K H1 a xs ∧ SqT K H1 b ys ∧ ∀ p, H1 p = none → CompI2 K (ItZ K a b xs ys) p (frV σ fr) tt te Q H1) := rfl
theorem kq6 {a b : Addr} {xs ys zs : List V} (hxs : SqT K H1 a xs) (hys : SqT K H1 b ys) (hlen : zs.length ≤ sizeLine) (hp : H1 p = none) (hz : zs.length = min xs.length ys.length)
  (he : ∀ (i : Nat) (x y z : V), xs[i]? = some x → ys[i]? = some y → zs[i]? = some z → ∀ (H' : Hp) (T : VK), Same H1 H' → (∀ H'', Same H' H'' → T z H'') → te (some x :: some y :: fv) H' T)
  (hQ : ∀ H', Same H1 H' → H' p = some (.lst zs) → Q (.ref p) H') : CompI2 K (ItZ K a b xs ys) p fv tYes te Q H1 := by
 refine ⟨fun i m ws H2 => m = zs.length - i ∧ i ≤ zs.length ∧ ws = zs.take i ∧ H2 p = some (.lst ws) ∧ Same H1 H2, ⟨zs.length, by simp, Nat.zero_le _, by simp, aqq, fun b o e => by rw [aqu (aqo e hp)]; exact e⟩, ?_⟩
 rintro i m ws H2 ⟨rfl, hi, rfl, hp2, sm⟩
 refine ⟨hp2, ?_⟩
 have qx := sm.tup hxs
 have qy := sm.tup hys
 by_cases hlt : i < zs.length
 ·refine .inr ⟨⟨by rw [← hz]; exact hlt, qx, qy⟩, by rw [List.length_take]; omega, fun x H3 y => ?_⟩
  obtain ⟨T, vs, rfl, hT, rfl, x, y, hx, hy, rfl⟩ := y
  have s3 : Same H2 (upd H2 T (.tup [x, y])) := fun b o e => by rw [aqu (aqo e hT)]; exact e
  refine ⟨T, x, y, rfl, .inl (.inl aqq), ?_⟩
  unfold tYes
  dsimp only
  rw [if_pos rfl]
  have hzi : zs[i]? = some zs[i] := by simp [hlt]
  refine he i x y _ hx hy hzi _ _ (sm.trans s3) fun H5 s5 => ⟨s5 _ _ (s3 _ _ hp2), zs.length - (i + 1), by omega, rfl, hlt, ?_, aqq, fun b o e => ?_⟩
  ·rw [List.take_add_one, hzi]; rfl
  ·rw [aqu (aqo e hp)]; exact s5 _ _ (s3 _ _ (sm _ _ e))
 ·have e : i = zs.length := by omega
  subst e
  refine .inl ⟨⟨hz, qx, qy⟩, hQ H2 sm ?_⟩
  rw [hp2, List.take_length]
end
section
variable {p : Addr} {fv : St} {tt : TT} {te : TE} {Q : VK} {H1 H : Hp} {fr : List Nat} {aa : TA} {σ : St}
theorem jq1 : (tComp (iRng1 aa) fr tt te σ H Q) = (aa σ H fun vs H1 => ∃ j : Int, vs = [.int j] ∧ -(2 ^ 62) ≤ j ∧ j < 2 ^ 62 ∧ ∀ p, H1 p = none → CompI (Itr 0 j.toNat) p (frV σ fr) tt te Q H1) := rfl
theorem hqz {n : Nat} (J : Nat → List V → Hp → Prop) (hlen : n ≤ sizeLine) (h0 : J 0 [] (upd H1 p (.lst [])))
  (he : ∀ (i : Nat) (ys : List V) (H2 : Hp) (T : VK), i < n → J i ys H2 → H2 p = some (.lst ys) → (∀ y H3, H3 p = some (.lst ys) → J (i + 1) (ys ++ [y]) (upd H3 p (.lst (ys ++ [y]))) → T y H3) → te (some (.int (0 + (i : Int))) :: fv) H2 T)
  (hQ : ∀ ys H2, J n ys H2 → H2 p = some (.lst ys) → Q (.ref p) H2) : CompI (Itr 0 n) p fv tYes te Q H1 := by
 refine ⟨fun i m ys H2 => m = n - i ∧ i ≤ n ∧ ys.length = i ∧ H2 p = some (.lst ys) ∧ J i ys H2, ⟨n, by simp, Nat.zero_le _, rfl, aqq, h0⟩, ?_⟩
 rintro i m ys H2 ⟨rfl, hi, hyl, hp2, hJ⟩
 refine ⟨hp2, ?_⟩
 by_cases hlt : i < n
 ·refine .inr ⟨hlt, by omega, fun x H3 y => ?_⟩
  obtain ⟨rfl, rfl⟩ := y
  unfold tYes
  dsimp only
  rw [if_pos rfl]
  exact he i ys _ _ hlt hJ hp2 fun y H5 hp5 hJ5 => ⟨hp5, n - (i + 1), by omega, rfl, hlt, by rw [List.length_append, hyl]; rfl, aqq, hJ5⟩
 ·have e : i = n := by omega
  subst e
  exact .inl ⟨Nat.le_refl _, hQ ys H2 hJ hp2⟩
end
abbrev litO (t : Addr) : Obj := { cls := .type "list_iterator", data := .fields #[.ref t, .int 0 0] }
section
variable {prog : Program} {w : World} {A : Around} {E : Value → Shared → Prop} {s : Shared}
end
def ItZL (K : PySem.W.Frag) (a b : Addr) (xs ys : List V) : It := ItW (min xs.length ys.length) (fun H => SqL K H a xs ∧ SqL K H b ys) fun i _ vs => ∃ x y, xs[i]? = some x ∧ ys[i]? = some y ∧ vs = [x, y]
section
variable {X : Cx} {K : PySem.W.Frag} {elts : List Expr} {kk : Nat} {tpos : Pos}
def iZipL (K : PySem.W.Frag) (ta : TA) : TI := fun σ H R => ta σ H fun vs H1 => ∃ a b xs ys, vs = [.ref a, .ref b] ∧ SqL K H1 a xs ∧ SqL K H1 b ys ∧ R (ItZL K a b xs ys) H1
variable {σ : St} {H : Hp} {D : Ends} {g : TG} {tb : TS} {aa : TA}
theorem kqP : (tFor (iZipL K aa) g tb D σ H) = (aa σ H fun vs H1 => ∃ a b xs ys, vs = [.ref a, .ref b] ∧ SqL K H1 a xs ∧ SqL K H1 b ys ∧ LoopI (ItZL K a b xs ys) g tb D σ H1) := rfl
variable {p : Addr} {fv : St} {tt : TT} {te : TE} {Q : VK} {H1 : Hp} {fr : List Nat}
theorem iqE : (tComp2 K (iZipL K aa) fr tt te σ H Q) = (aa σ H fun vs H1 => ∃ a b xs ys, vs = [.ref a, .ref b] ∧ SqL K H1 a xs ∧ SqL K H1 b ys ∧ ∀ p, H1 p = none → CompI2 K (ItZL K a b xs ys) p (frV σ fr) tt te Q H1) := rfl
end
section
variable {K : PySem.W.Frag} {p : Addr} {fv : St} {te : TE} {Q : VK} {H1 : Hp}
end
theorem iq1 (t : Addr) (its : Array Value) : Meets (Builtin.«enumerate.__new__» ⟨[.type "enumerate", .ref t], []⟩) (fun _ R s => s.heap.IsList t its ∧
  R (.ok (.ret (.ref (s.heap.push (litO t)).objs.size))) { s with heap := (s.heap.push (litO t)).push (enuO s.heap.objs.size) }) :=
 .of_wp fun prog w A R s h => by
  obtain ⟨hp, g, d, tk, os⟩ := s; obtain ⟨hl, h⟩ := h
  have hsub := sub_enumerate
  wp_walk using wpAny_pyIter_list hl
  refine wpAny_stack_any fun _ => wpAny_pure ?_
  split
  ·rename_i z _ _ _ _ _
   cases (z == Value.type "enumerate") <;> (wp_walk using wpAny_pyIter_list hl) <;> exact ⟨_, rfl, h⟩
  ·wp_walk using wpAny_pyIter_list hl
   exact ⟨_, rfl, h⟩
section
variable {prog : Program} {w : World} {A : Around} {E : Value → Shared → Prop} {s : Shared}
theorem iqN {t : Addr} {its : Array Value} {Q : Value → Shared → Prop} (ht : s.heap.IsList t its)
  (h : ∀ h', IsEnum h' (s.heap.objs.size + 1) s.heap.objs.size 0 .none → h'.IsListIter s.heap.objs.size t 0 → (∀ b o, s.heap.get? b = some o → h'.get? b = some o) → Q (.ref (s.heap.objs.size + 1)) { s with heap := h' }) :
  wpAny (model prog w) A (call (.type "enumerate") [.ref t]) Q E s := by
 refine callType_new F.called_enumerate (by decide) (F.typeCall_enumerate_1 _) (F.newCall_enumerate_1 _) (fun obj => F.args_object_init_2 obj _) F.entry_enumerate_new (iq1 t its) ⟨ht, ?_⟩
 have hz : (s.heap.push (litO t)).objs.size = s.heap.objs.size + 1 := Heap.size_push ..
 show _ ∧ _
 rw [hz]
 have he : IsEnum ((s.heap.push (litO t)).push (enuO s.heap.objs.size)) (s.heap.objs.size + 1) s.heap.objs.size 0 .none := by
  have := Heap.get?_push_size (s.heap.push (litO t)) (o := enuO s.heap.objs.size) rfl
  rw [hz] at this
  exact this
 exact ⟨⟨_, he, rfl⟩, h _ he ⟨_, Heap.get?_push_of_some _ (Heap.get?_push_size _ rfl), rfl, rfl⟩ fun b o x => Heap.get?_push_of_some _ (Heap.get?_push_of_some _ x)⟩
end
def ItEL (K : PySem.W.Frag) (a : Addr) (xs : List V) : It := ItW xs.length (fun H => SqL K H a xs) fun i _ ys => ∃ v, xs[i]? = some v ∧ ys = [.int (i : Int), v]
theorem iqH {P : Program} {w : World} {K : PySem.W.Frag} {elts : List Expr} {k : Nat} {pos : Pos} (a it e : Addr) (xs : List V) (h1 : a ≠ it) (h2 : e ≠ it) (h3 : e ≠ a) :
  Turn P w K (.Tuple elts k pos) (ItEL K a xs) [e, it] e (fun i h => (∃ old, IsEnum h e it i old) ∧ h.IsListIter it a i) := by
 refine hqk (fp := e :: [it, a]) (α := { its : Array Value // its.size = xs.length }) (Pt := fun z i vals => ∃ t x, z.1[i]? = some x ∧ vals = #[.int i t, x])
  (Sn := fun z i h => (∃ old, IsEnum h e it i old) ∧ (h.IsListIter it a i ∧ h.IsList a z.1)) (Mid := fun z i T h => (∃ x, IsEnumOut h e it ((i : Int) + 1) x T) ∧ (h.IsListIter it a (i + 1) ∧ h.IsList a z.1) ∧ T ≠ e ∧ T ≠ it)
  (by simp) (fun _ z => z) (fun A z hh => ?_) (fun A i s Q E st q => ?_) (fun i h st b hb => ?_) (fun i h h' st kp => ?_) ?_ (fun z i h st => ⟨st.1, st.2.1⟩)
 ·have := WalksT.enumerateD (Draws.list (prog := P) (w := w) (A := A.in1) hh it a h1 z.1) e h2 (by simp [h2, h3]) (by simp)
  rw [z.2] at this
  exact this
 ·obtain ⟨⟨old, he⟩, _⟩ := st
  exact wpAny_pyIter_enum he q
 ·obtain ⟨⟨old, he⟩, o, ho, hc, hd⟩ := st
  rcases List.mem_cons.mp hb with rfl | hb
  ·exact ⟨_, he, fun v z => by cases z⟩
  ·rw [List.mem_singleton.mp hb]
   exact ⟨o, ho, fun v z => by rw [hd] at z; cases z⟩
 ·obtain ⟨⟨old, he⟩, o, ho, r⟩ := st
  exact ⟨⟨old, kp e (by simp) _ he⟩, o, kp it (by simp) o ho, r⟩
 ·intro X hP hw hK i pins s σ H J hf st hok
  subst hP hw hK
  obtain ⟨its, rv, p, hz⟩ := J.list hok
  refine ⟨⟨its.toArray, by have := rv.length; simp; omega⟩, ⟨st.1, st.2, p.isList⟩, ?_⟩
  rintro vals ⟨t, x, hx, rfl⟩
  have hx' : its[i]? = some x := by simpa using hx
  have hi : i < xs.length := by have := rv.length; have := (List.getElem?_eq_some_iff.mp hx').1; omega
  obtain ⟨u, hu, ru⟩ := rv.get (List.getElem?_eq_getElem hi)
  rw [hx'] at hu
  cases hu
  exact ⟨[.int (i : Int), xs[i]], (show 2 ≤ sizeLine by decide), .cons ⟨t, rfl⟩ (.cons ru .nil), xs[i], List.getElem?_eq_getElem hi, rfl⟩
section
variable {X : Cx} {K : PySem.W.Frag} {elts : List Expr} {kk : Nat} {tpos : Pos}
def iEnumL (K : PySem.W.Frag) (ta : TA) : TI := fun σ H R => ta σ H fun vs H1 => ∃ a xs, vs = [.ref a] ∧ SqL K H1 a xs ∧ R (ItEL K a xs) H1
theorem kqy {a : Expr} {ta : TA} {p pos : Pos} (h : X.K = K) (hg : Gl X "enumerate") (hm : X.mg "enumerate" = none) (ha : PA X [a] ta) (hs : starEach [a] X.env = [(false, eval a X.env)] := by rfl) : PI X (.Tuple elts kk tpos) (.Call (.Name "enumerate" p) [a] [] pos) (iEnumL K ta) := by
 subst h
 intro pins s σ H R I q
 refine Call_ (fqH I hg hm boot_enumerate (PyProof.Rows.callWith_type1 (thn (ha pos pins s σ H _ I q) fun us s1 W' => ?_) hs rfl))
 obtain ⟨vs, H1, I1, r1, q1⟩ := W'
 obtain ⟨a, xs, e, hq, q⟩ := q1
 subst e
 obtain ⟨u, rfl, ru⟩ := vals1 r1
 cases ru
 obtain ⟨its, rv, pt, hz⟩ := I1.list hq
 refine iqN pt.isList fun h' he hi hk => ?_
 refine wpAny_pyIter_enum (s := { s1 with heap := h' }) he ?_
 have hal : a < s1.heap.objs.size := by obtain ⟨o, _, ho, _⟩ := pt; exact Heap.lt_size ho
 have hkept : Inv X pins σ H1 { s1 with heap := h' } := I1.kept (t' := s1.toks) hk
 refine ⟨s1.heap.objs.size + 1, [s1.heap.objs.size + 1, s1.heap.objs.size], _, _, H1, rfl, hkept, iqH a s1.heap.objs.size (s1.heap.objs.size + 1) xs (Nat.ne_of_lt hal) (Nat.succ_ne_self _) (Nat.ne_of_gt (Nat.lt_succ_of_lt hal)), ⟨⟨_, he⟩, hi⟩, fun b hb => ?_, q⟩
 simp only [List.mem_cons, List.not_mem_nil, or_false] at hb
 have hb' : s1.heap.objs.size ≤ b := by
  rcases hb with rfl | rfl
  ·exact Nat.le_succ _
  ·exact Nat.le_refl _
 exact I1.fpOk hb' (I1.hok.fresh hb')
variable {σ : St} {H : Hp} {D : Ends} {g : TG} {tb : TS} {aa : TA}
theorem kqa : (tFor (iEnumL K aa) g tb D σ H) = (aa σ H fun vs H1 => ∃ a xs, vs = [.ref a] ∧ SqL K H1 a xs ∧ LoopI (ItEL K a xs) g tb D σ H1) := rfl
variable {p : Addr} {fv : St} {tt : TT} {te : TE} {Q : VK} {H1 : Hp} {fr : List Nat}
theorem iqU : (tComp2 K (iEnumL K aa) fr tt te σ H Q) = (aa σ H fun vs H1 => ∃ a xs, vs = [.ref a] ∧ SqL K H1 a xs ∧ ∀ p, H1 p = none → CompI2 K (ItEL K a xs) p (frV σ fr) tt te Q H1) := rfl
theorem hqP {a : Addr} {xs : List V} (J : Nat → List V → Hp → Prop) (hm : ∀ i ws H H', Same H H' → J i ws H → J i ws H') (hlen : xs.length ≤ sizeLine) (h0 : J 0 [] (upd H1 p (.lst []))) (hS : ∀ i ws H2, J i ws H2 → SqL K H2 a xs)
  (he : ∀ (i : Nat) (x : V) (ws : List V) (H2 : Hp) (T : VK), xs[i]? = some x → J i ws H2 → H2 p = some (.lst ws) → (∀ z H3, H3 p = some (.lst ws) → J (i + 1) (ws ++ [z]) (upd H3 p (.lst (ws ++ [z]))) → T z H3) → te (some (.int (i : Int)) :: some x :: fv) H2 T)
  (hQ : ∀ ws H2, J xs.length ws H2 → H2 p = some (.lst ws) → Q (.ref p) H2) : CompI2 K (ItEL K a xs) p fv tYes te Q H1 := by
 refine ⟨fun i m ws H2 => m = xs.length - i ∧ i ≤ xs.length ∧ ws.length = i ∧ H2 p = some (.lst ws) ∧ J i ws H2, ⟨xs.length, by simp, Nat.zero_le _, rfl, aqq, h0⟩, ?_⟩
 rintro i m ws H2 ⟨rfl, hi, hwl, hp2, hJ⟩
 refine ⟨hp2, ?_⟩
 have qx := hS _ _ _ hJ
 by_cases hlt : i < xs.length
 ·refine .inr ⟨⟨hlt, qx⟩, by omega, fun x H3 y => ?_⟩
  obtain ⟨T, vs, rfl, hT, rfl, x, hx, rfl⟩ := y
  have s3 : Same H2 (upd H2 T (.tup [.int (i : Int), x])) := fun b o e => by rw [aqu (aqo e hT)]; exact e
  refine ⟨T, _, x, rfl, .inl (.inl aqq), ?_⟩
  unfold tYes
  dsimp only
  rw [if_pos rfl]
  exact he i x ws _ _ hx (hm _ _ _ _ s3 hJ) (s3 _ _ hp2) fun z H5 hp5 hJ5 => ⟨hp5, xs.length - (i + 1), by omega, rfl, hlt, by rw [List.length_append, hwl]; rfl, aqq, hJ5⟩
 ·have e : i = xs.length := by omega
  subst e
  exact .inl ⟨⟨rfl, qx⟩, hQ ws H2 hJ hp2⟩
theorem iqz : (tComp2 K (iEnum K aa) fr tt te σ H Q) = (aa σ H fun vs H1 => ∃ a xs, vs = [.ref a] ∧ SqT K H1 a xs ∧ ∀ p, H1 p = none → CompI2 K (ItE K a xs) p (frV σ fr) tt te Q H1) := rfl
end
section
variable {X : Cx}
def rStart1 : V → List V → Hp → VK → Prop := fun x vs H Q => ∃ z y : List Nat, x = .str ⟨z.toArray⟩ ∧ vs = [.str ⟨y.toArray⟩] ∧ Q (.bl (decide (z.take y.length = y))) H
def rEnd1 : V → List V → Hp → VK → Prop := fun x vs H Q => ∃ z y : List Nat, x = .str ⟨z.toArray⟩ ∧ vs = [.str ⟨y.toArray⟩] ∧ Q (.bl (decide (z.drop (z.length - y.length) = y))) H
theorem lqh (z y : List Nat) (i : Nat) : Builtin.Str.subAt ⟨z.toArray⟩ ⟨y.toArray⟩ i = decide ((z.drop i).take y.length = y) := by
 unfold Builtin.Str.subAt
 have hl : (⟨y.toArray⟩ : Str).length = y.length := rfl
 rw [hl, Bool.eq_iff_iff, beq_iff_eq, decide_eq_true_eq]
 show (z.toArray.extract i (i + y.length) = y.toArray) ↔ _
 rw [← Array.toList_inj]
 simp
theorem kqr (z y : List Nat) : (decide (0 + (⟨y.toArray⟩ : Str).length ≤ (⟨z.toArray⟩ : Str).length) && Builtin.Str.subAt ⟨z.toArray⟩ ⟨y.toArray⟩ 0) = decide (z.take y.length = y) := by
 rw [lqh, List.drop_zero]
 show (decide (0 + y.length ≤ z.length) && _) = _
 by_cases h : z.take y.length = y
 ·have := congrArg List.length h
  rw [List.length_take] at this
  rw [decide_eq_true h, decide_eq_true (show 0 + y.length ≤ z.length by omega)]
  rfl
 ·rw [decide_eq_false h, Bool.and_false]
theorem mq0 (z y : List Nat) : (decide (0 + (⟨y.toArray⟩ : Str).length ≤ (⟨z.toArray⟩ : Str).length) && Builtin.Str.subAt ⟨z.toArray⟩ ⟨y.toArray⟩ ((⟨z.toArray⟩ : Str).length - (⟨y.toArray⟩ : Str).length)) = decide (z.drop (z.length - y.length) = y) := by
 rw [lqh]
 show (decide (0 + y.length ≤ z.length) && decide ((z.drop (z.length - y.length)).take y.length = y)) = _
 have e : (z.drop (z.length - y.length)).length ≤ y.length → (z.drop (z.length - y.length)).take y.length = z.drop (z.length - y.length) := fun h => List.take_of_length_le h
 rw [e (by rw [List.length_drop]; omega)]
 by_cases h : z.drop (z.length - y.length) = y
 ·have := congrArg List.length h
  rw [List.length_drop] at this
  rw [decide_eq_true h, decide_eq_true (show 0 + y.length ≤ z.length by omega)]
  rfl
 ·rw [decide_eq_false h, Bool.and_false]
theorem eqd : MtR X "str.startswith" rStart1 := by
 intro pins s σ H x vs v us Q I rx rv h
 obtain ⟨z, y, rfl, rfl, q⟩ := h
 obtain ⟨t, rfl⟩ := rx
 obtain ⟨u, rfl, t', rfl⟩ := vals1 rv
 refine call_meets F.slot_str_startswith (typeIs_str _ _ _) F.entry_str_startswith (F.args_str_startswith_2 _ _) (gives_str_startswith _ _ t t').meets ?_
 refine ⟨.bl _, H, I, rfl, ?_⟩
 rw [← kqr] at q
 exact q
theorem gqf : MtR X "str.endswith" rEnd1 := by
 intro pins s σ H x vs v us Q I rx rv h
 obtain ⟨z, y, rfl, rfl, q⟩ := h
 obtain ⟨t, rfl⟩ := rx
 obtain ⟨u, rfl, t', rfl⟩ := vals1 rv
 refine call_meets F.slot_str_endswith (typeIs_str _ _ _) F.entry_str_endswith (F.args_str_endswith_2 _ _) (gives_str_endswith _ _ t t').meets ?_
 refine ⟨.bl _, H, I, rfl, ?_⟩
 rw [← mq0] at q
 exact q
theorem nqu {i j : Nat} {ta : TA} {D : Ends} {σ : St} {H : Hp} : (tPar i j ta D σ H) = (ta σ H fun vs H1 => ∃ v w, vs = [v, w] ∧ D.nx ((σ.set i (some v)).set j (some w)) H1) := rfl
theorem fqN {z y : List Nat} {H : Hp} {Q : VK} : rStart1 (.str ⟨z.toArray⟩) [.str ⟨y.toArray⟩] H Q ↔ Q (.bl (decide (z.take y.length = y))) H :=
 ⟨fun ⟨z', y', e1, e2, h⟩ => by
  injection e1 with e1; injection e1 with e1
  injection e2 with e2; injection e2 with e2; injection e2 with e2
  have h1 : z = z' := by simpa using congrArg Array.toList e1
  have h2 : y = y' := by simpa using congrArg Array.toList e2
  subst h1 h2; exact h, fun h => ⟨z, y, rfl, rfl, h⟩⟩
theorem fqe {z y : List Nat} {H : Hp} {Q : VK} : rEnd1 (.str ⟨z.toArray⟩) [.str ⟨y.toArray⟩] H Q ↔ Q (.bl (decide (z.drop (z.length - y.length) = y))) H :=
 ⟨fun ⟨z', y', e1, e2, h⟩ => by
  injection e1 with e1; injection e1 with e1
  injection e2 with e2; injection e2 with e2; injection e2 with e2
  have h1 : z = z' := by simpa using congrArg Array.toList e1
  have h2 : y = y' := by simpa using congrArg Array.toList e2
  subst h1 h2; exact h, fun h => ⟨z, y, rfl, rfl, h⟩⟩
end
end L2
namespace L2
open PySem
section
variable {p : Addr} {fv : St} {tt : TT} {te : TE} {Q : VK} {H1 : Hp} {K : PySem.W.Frag}
theorem iqJ {a : Addr} {xs : List V} (f : V → Bool) (g : V → V) (hxs : SqL K H1 a xs) (hlen : xs.length ≤ sizeLine) (hp : H1 p = none)
  (ht : ∀ (i : Nat) (x : V), xs[i]? = some x → ∀ (H' : Hp) (R : Bool → Hp → Prop), Same H1 H' → (∀ H'', Same H' H'' → R (f x) H'') → tt (some x :: fv) H' R)
  (he : ∀ (i : Nat) (x : V), xs[i]? = some x → f x = true → ∀ (H' : Hp) (T : VK), Same H1 H' → (∀ H'', Same H' H'' → T (g x) H'') → te (some x :: fv) H' T)
  (hQ : ∀ H', Same H1 H' → H' p = some (.lst ((xs.filter f).map g)) → Q (.ref p) H') : CompI (Itl K a) p fv tt te Q H1 := by
 refine ⟨fun i m ys H2 => m = xs.length - i ∧ i ≤ xs.length ∧ ys = ((xs.take i).filter f).map g ∧ H2 p = some (.lst ys) ∧ Same H1 H2, ⟨xs.length, by simp, Nat.zero_le _, by simp, aqq, fun b o e => by rw [aqu (aqo e hp)]; exact e⟩, ?_⟩
 rintro i m ys H2 ⟨rfl, hi, rfl, hp2, sm⟩
 refine ⟨hp2, ?_⟩
 have q := sm.seq hxs
 by_cases hlt : i < xs.length
 ·refine .inr ⟨⟨xs, xs[i], q, by simp [hlt]⟩, ?_, fun x H3 y => ?_⟩
  ·rw [List.length_map]
   have := List.length_filter_le f (xs.take i)
   rw [List.length_take] at this
   omega
  ·obtain ⟨rfl, y⟩ := y
   have hc := y xs q
   refine ht i x hc _ _ sm fun H4 s4 => ?_
   by_cases hf : f x = true
   ·rw [if_pos hf]
    refine he i x hc hf _ _ (sm.trans s4) fun H5 s5 => ⟨(s4.trans s5) _ _ hp2, xs.length - (i + 1), by omega, rfl, hlt, ?_, aqq, fun b o e => ?_⟩
    ·rw [List.take_add_one, hc]; simp [hf]
    ·rw [aqu (aqo e hp)]; exact (s4.trans s5) _ _ (sm _ _ e)
   ·rw [if_neg hf]
    refine ⟨xs.length - (i + 1), by omega, rfl, hlt, ?_, s4 _ _ hp2, sm.trans s4⟩
    rw [List.take_add_one, hc]; simp [hf]
 ·have e : i = xs.length := by omega
  subst e
  refine .inl ⟨⟨xs, q, Nat.le_refl _⟩, hQ H2 sm ?_⟩
  rw [hp2, List.take_length]
end
end L2
namespace Wm
open PySem L2
inductive Pc
 | step (s : List Nat)
 | part (h n t : List Nat)
 | num (n : List Nat)
 | word (n : List Nat)
 | gap (n : List Nat)
 | rest (n : List Nat)
abbrev tV (l : List Nat) : V := .str ⟨l.toArray⟩
def Pc.kw : Pc → Str
 | .step _ => Str.ofString "step"
 | .part .. => Str.ofString "part"
 | .num _ => Str.ofString "number"
 | .word _ => Str.ofString "word"
 | .gap _ => Str.ofString "gap"
 | .rest _ => Str.ofString "rest"
def Pc.tl : Pc → List V
 | .step s => [tV s]
 | .part h n t => [tV h, tV n, tV t]
 | .num n => [tV n]
 | .word n => [tV n]
 | .gap n => [tV n]
 | .rest n => [tV n]
def Pc.vals (c : Pc) : List V := .str c.kw :: c.tl
def Pc.name : Pc → List Nat
 | .step _ => []
 | .part _ n _ => n
 | .num n => n
 | .word n => n
 | .gap n => n
 | .rest n => n
def Pc.head : Pc → List Nat | .part h _ _ => h | _ => []
def Pc.tail : Pc → List Nat | .part _ _ t => t | _ => []
def Pc.isStep : Pc → Bool | .step _ => true | _ => false
def Pc.isPart : Pc → Bool | .part .. => true | _ => false
def Pc.isNum : Pc → Bool | .num _ => true | _ => false
def Pc.isWord : Pc → Bool | .word _ => true | _ => false
def Pc.isRest : Pc → Bool | .rest _ => true | _ => false
theorem Pc.at0 (c : Pc) : atI c.vals 0 = some (.str c.kw) := aqh (j := 0) rfl
theorem dqX (c : Pc) : decide (c.kw = Str.ofString "step") = c.isStep := by cases c <;> first | exact decide_eq_true rfl | exact decide_eq_false (show ¬ (Str.ofString _ = Str.ofString _) by decide +kernel)
theorem bqe (c : Pc) : decide (c.kw = Str.ofString "part") = c.isPart := by cases c <;> first | exact decide_eq_true rfl | exact decide_eq_false (show ¬ (Str.ofString _ = Str.ofString _) by decide +kernel)
theorem eqQ (c : Pc) : decide (c.kw = Str.ofString "number") = c.isNum := by cases c <;> first | exact decide_eq_true rfl | exact decide_eq_false (show ¬ (Str.ofString _ = Str.ofString _) by decide +kernel)
theorem eqz (c : Pc) : decide (c.kw = Str.ofString "word") = c.isWord := by cases c <;> first | exact decide_eq_true rfl | exact decide_eq_false (show ¬ (Str.ofString _ = Str.ofString _) by decide +kernel)
theorem hqZ (c : Pc) : decide (c.kw = Str.ofString "rest") = c.isRest := by cases c <;> first | exact decide_eq_true rfl | exact decide_eq_false (show ¬ (Str.ofString _ = Str.ofString _) by decide +kernel)
def isFig (c : Nat) : Bool := decide (48 ≤ c ∧ c ≤ 57)
def isSma (c : Nat) : Bool := decide (97 ≤ c ∧ c ≤ 122)
def numB (l : List Nat) : Bool := decide (1 ≤ l.length) && decide (l.length ≤ 60) && l.all isFig && (decide (l = [48]) || !decide (l.head? = some 48))
def wordB (l : List Nat) : Bool := decide (1 ≤ l.length) && decide (l.length ≤ 60) && l.all isSma
def partB (h t s : List Nat) : Bool := decide (s.take h.length = h) && (decide (s.drop (s.length - t.length) = t) && decide (h.length + t.length < s.length))
def fitsM (c : Pc) (s : List Nat) : Bool := !isDot s && match c with
 | .step w => decide (s = w)
 | .part h _ t => partB h t s
 | .num _ => numB s
 | .word _ => wordB s
 | .gap _ => true
 | .rest _ => true
inductive Vl
 | txt (l : List Nat)
 | int (i : Int)
 | lst (ls : List (List Nat))
def VlV (H : Hp) : Vl → V → Prop
 | .txt l, v => v = tV l
 | .int i, v => v = .int i
 | .lst ls, v => ∃ p, v = .ref p ∧ H p = some (.lst (ls.map tV))
inductive PcAll (K : PySem.W.Frag) (H : Hp) : List Pc → List V → Prop
 | nil : PcAll K H [] []
 | cons {c : Pc} {p : Addr} {cs : List Pc} {xs : List V} : SqT K H p c.vals → PcAll K H cs xs → PcAll K H (c :: cs) (.ref p :: xs)
theorem PcAll.mono {K : PySem.W.Frag} {H H' : Hp} (s : Same H H') : ∀ {cs : List Pc} {xs : List V}, PcAll K H cs xs → PcAll K H' cs xs
 | _, _, .nil => .nil
 | _, _, .cons h r => .cons (s.tup h) (PcAll.mono s r)
theorem PcAll.length {K : PySem.W.Frag} {H : Hp} : ∀ {cs : List Pc} {xs : List V}, PcAll K H cs xs → xs.length = cs.length
 | _, _, .nil => rfl
 | _, _, .cons _ r => by simp [PcAll.length r]
theorem PcAll.get {K : PySem.W.Frag} {H : Hp} : ∀ {cs : List Pc} {xs : List V}, PcAll K H cs xs → ∀ {i : Nat} {v : V}, xs[i]? = some v → ∃ c p, cs[i]? = some c ∧ v = .ref p ∧ SqT K H p c.vals
 | _, _, .nil, i, v, e => by simp at e
 | _, _, .cons h r, 0, v, e => by cases e; exact ⟨_, _, rfl, rfl, h⟩
 | _, _, .cons h r, i + 1, v, e => by simp only [List.getElem?_cons_succ] at e ⊢; exact r.get e
theorem PcAll.append {K : PySem.W.Frag} {H : Hp} {ds : List Pc} {ys : List V} (h2 : PcAll K H ds ys) : ∀ {cs : List Pc} {xs : List V}, PcAll K H cs xs → PcAll K H (cs ++ ds) (xs ++ ys)
 | _, _, .nil => h2
 | _, _, .cons h r => .cons h (PcAll.append h2 r)
def hasRest (cs : List Pc) : Bool := match cs.getLast? with
 | some c => c.isRest
 | none => false
def smaL : List Nat := (Str.ofString "abcdefghijklmnopqrstuvwxyz").cps.toList
theorem jq5 : ∀ c, c < 128 → (c ∈ smaL ↔ isSma c = true) := by decide +kernel
theorem iqs : ∀ c ∈ smaL, c < 128 := by decide +kernel
theorem jqh (l : List Nat) : l.all isSma = l.all fun c => decide (c ∈ smaL) := by
 congr 1
 funext c
 by_cases h : c < 128
 ·rw [Bool.eq_iff_iff, decide_eq_true_eq]; exact (jq5 c h).symm
 ·have h1 : ¬ c ∈ smaL := fun z => h (iqs c z)
  rw [decide_eq_false h1]
  unfold isSma
  exact decide_eq_false (by omega)
theorem iq7 (l : List Nat) : (l.all fun c => decide (c ∈ fgS)) = l.all isFig := by
 congr 1
 funext c
 unfold isFig
 exact decide_eq_decide.mpr mq8
theorem PcAll.last {K : PySem.W.Frag} {H : Hp} {cs : List Pc} {xs : List V} {c : Pc} (h : PcAll K H cs xs) (hc : cs.getLast? = some c) : ∃ v, atI xs (-1) = some v ∧ ∃ p, v = .ref p ∧ SqT K H p c.vals := by
 have hl := h.length
 have hn : cs ≠ [] := by rintro rfl; cases hc
 have hp := List.length_pos_iff.mpr hn
 obtain ⟨v, hx⟩ : ∃ v, xs[cs.length - 1]? = some v := ⟨_, List.getElem?_eq_getElem (by omega)⟩
 obtain ⟨d, p, e1, e2, e3⟩ := h.get hx
 rw [List.getLast?_eq_getElem?] at hc
 rw [hc] at e1
 cases e1
 refine ⟨v, ?_, p, e2, e3⟩
 have hg : xs.getLast? = some v := by rw [List.getLast?_eq_getElem?, hl]; exact hx
 have := hq5 (l := xs) (fun v => v) hg
 simpa using this
def spreadM (cs : List Pc) (n : Nat) : Option (List Pc) := if hasRest cs = true ∧ cs.length ≤ n then some (cs ++ (List.replicate (n - cs.length) (cs.drop (cs.length - 1))).flatten) else if n = cs.length then some cs else none
inductive BndV (H : Hp) (l : Addr) : List (List Nat × Vl) → List V → Prop
 | nil : BndV H l [] []
 | cons {n : List Nat} {x : Vl} {p : Addr} {v : V} {bs : List (List Nat × Vl)} {ys : List V} : H p = some (.tup [tV n, v]) → VlV H x v → (∀ q, v = .ref q → q ≠ l) → BndV H l bs ys → BndV H l ((n, x) :: bs) (.ref p :: ys)
theorem gqh (xs : List V) : cutV xs (some (-1)) none = xs.drop (xs.length - 1) := by
 unfold cutV
 rw [HT.sIx_none]
 have e : HT.sIx xs.length 0 (some (-1)) = xs.length - 1 := by
  unfold HT.sIx
  simp only [if_pos (show (-1 : Int) < 0 by decide)]
  omega
 rw [e, List.take_of_length_le (by rw [List.length_drop]; omega)]
theorem PcAll.drop {K : PySem.W.Frag} {H : Hp} : ∀ {cs : List Pc} {xs : List V}, PcAll K H cs xs → ∀ i, PcAll K H (cs.drop i) (xs.drop i)
 | _, _, h, 0 => h
 | _, _, .nil, i + 1 => .nil
 | _, _, .cons _ r, i + 1 => r.drop i
theorem PcAll.reps {K : PySem.W.Frag} {H : Hp} {cs : List Pc} {xs : List V} (h : PcAll K H cs xs) : ∀ m : Nat, PcAll K H (List.replicate m cs).flatten (List.replicate m xs).flatten
 | 0 => .nil
 | m + 1 => by
  rw [List.replicate_succ, List.replicate_succ, List.flatten_cons, List.flatten_cons]
  exact (h.reps m).append h
theorem kqI {α : Type} (xs : List α) (m : Nat) (h : xs.length ≤ 1) : (List.replicate m xs).flatten.length ≤ m := by
 induction m with
 | zero => simp
 | succ m ih =>
  rw [List.replicate_succ, List.flatten_cons, List.length_append]
  omega
theorem nqe (i : Int) : ∃ c, atI smaL (i % 26) = some c ∧ isSma c = true := by
 have h1 := Int.emod_nonneg i (show (26 : Int) ≠ 0 by decide)
 have h2 := Int.emod_lt_of_pos i (show (0 : Int) < 26 by decide)
 have hl : smaL.length = 26 := by decide +kernel
 have h3 : (i % 26).toNat < smaL.length := by omega
 refine ⟨smaL[(i % 26).toNat], ?_, (jq5 _ (iqs _ (List.getElem_mem h3))).mp (List.getElem_mem h3)⟩
 have := aqh (List.getElem?_eq_getElem h3)
 rw [Int.toNat_of_nonneg h1] at this
 exact this
def PcOk : Pc → Prop
 | .step s => 0 < s.length ∧ s.length ≤ 100 ∧ (∀ c ∈ s, isSg c = true) ∧ isDot s = false
 | .part h _ t => h.length ≤ 100 ∧ t.length ≤ 100 ∧ (∀ c ∈ h, isSg c = true) ∧ (∀ c ∈ t, isSg c = true) ∧ h ++ t ≠ []
 | _ => True
theorem kqo (l : List Nat) (d : Nat) (h : d ≠ 46) : isDot (l ++ [d]) = false := by
 refine cqO.mpr ⟨fun z => ?_, fun z => ?_⟩
 ·have : (l ++ [d]).getLast? = sUp.getLast? := by rw [z]
  rw [List.getLast?_append] at this
  exact h (by simpa [sUp] using this)
 ·have : (l ++ [d]).getLast? = sStay.getLast? := by rw [z]
  rw [List.getLast?_append] at this
  exact h (by simpa [sStay] using this)
theorem cqM {H : Hp} : ∀ (ss : List Nat), IsAll H (ss.map fun c => st [c]) (ss.map fun c => V.str ⟨#[c]⟩)
 | [] => .nil
 | c :: ss => .cons (.str _) (cqM ss)
theorem layL {n : Nat} {ds : List PyData} (h : ∀ d ∈ ds, LayAt n d) : LayAt (n + 1) (.list ds) := by
 obtain ⟨h1, h2⟩ := layAll h
 exact ⟨by simp only [PyData.canLay0, h1], by simp only [PyData.depth]; omega⟩
theorem dqR {ss : List Nat} (h : ∀ c ∈ ss, isSg c = true) : SeqAt.shaped (.list (ss.map fun c => st [c])) = true := by
 refine LayAt.shaped (n := 1) (layL (n := 0) fun d hd => ?_) (by decide)
 obtain ⟨c, hc, rfl⟩ := List.mem_map.mp hd
 exact .st fun e he => by rw [List.mem_singleton.mp he]; exact h c hc
theorem iqv (l : List Nat) : (l.filter fun c => !decide (c ∈ fgS)).isEmpty = l.all isFig := by
 rw [← iq7]
 induction l with
 | nil => rfl
 | cons c l ih =>
  rw [List.filter_cons, List.all_cons]
  by_cases h : c ∈ fgS
  ·rw [decide_eq_true h]; simpa using ih
  ·rw [decide_eq_false h]; rfl
theorem iqf (l : List Nat) : (l.filter fun c => !decide (c ∈ smaL)).isEmpty = l.all isSma := by
 rw [jqh]
 induction l with
 | nil => rfl
 | cons c l ih =>
  rw [List.filter_cons, List.all_cons]
  by_cases h : c ∈ smaL
  ·rw [decide_eq_true h]; simpa using ih
  ·rw [decide_eq_false h]; rfl
theorem mqy {l : List Nat} (h : l.all isSma = true) : ∀ c ∈ l, isSg c = true := fun c hc => by
 have := List.all_eq_true.mp h c hc
 simp only [isSma, decide_eq_true_eq] at this
 simp only [isSg, Bool.and_eq_true, decide_eq_true_eq, Bool.not_eq_true', decide_eq_false_iff_not]
 omega
def PatOk (ps : List Pc) : Prop := (∀ c ∈ ps, PcOk c) ∧ ∀ i c, ps[i]? = some c → c.isRest = true → i + 1 = ps.length
def NmAt (X : Int) (a k : Nat) (n : List Nat) : Prop := ∃ d, n[a]? = some d ∧ atI smaL ((X + (k : Int)) % 26) = some d
theorem NmAt.app {X : Int} {a k : Nat} {n m : List Nat} (h : NmAt X a k n) : NmAt X a k (n ++ m) := by
 obtain ⟨d, h1, h2⟩ := h
 exact ⟨d, by rw [List.getElem?_append_left (List.getElem?_eq_some_iff.mp h1).1]; exact h1, h2⟩
theorem mqw : ∀ i, i < 26 → ∀ j, j < 26 → smaL[i]? = smaL[j]? → i = j := by decide +kernel
theorem kqk {X : Int} {a : Nat} {ns : List (List Nat)} (h : ∀ (k : Nat) (n : List Nat), ns[k]? = some n → NmAt X a k n) (hl : ns.length ≤ 26) : ns.Nodup := by
 rw [List.nodup_iff_pairwise_ne, List.pairwise_iff_getElem]
 intro i j hi hj hij e
 obtain ⟨d, h1, h2⟩ := h i _ (List.getElem?_eq_getElem hi)
 obtain ⟨d', h3, h4⟩ := h j _ (List.getElem?_eq_getElem hj)
 rw [e, h3] at h1
 cases h1
 have m1 := Int.emod_nonneg (X + (i : Int)) (show (26 : Int) ≠ 0 by decide)
 have m2 := Int.emod_lt_of_pos (X + (i : Int)) (show (0 : Int) < 26 by decide)
 have m3 := Int.emod_nonneg (X + (j : Int)) (show (26 : Int) ≠ 0 by decide)
 have m4 := Int.emod_lt_of_pos (X + (j : Int)) (show (0 : Int) < 26 by decide)
 have at_get : ∀ {z : Int}, 0 ≤ z → z < 26 → atI smaL z = smaL[z.toNat]? := fun {z} z0 z1 => by
  obtain ⟨n, rfl⟩ := Int.eq_ofNat_of_zero_le z0
  have hl : smaL.length = 26 := by decide +kernel
  have hn : n < smaL.length := by omega
  rw [aqh (List.getElem?_eq_getElem hn), ← List.getElem?_eq_getElem hn]
  rfl
 rw [at_get m1 m2] at h2
 rw [at_get m3 m4] at h4
 have := mqw _ (by omega) _ (by omega) (h2.trans h4.symm)
 omega
inductive PcT (H : Hp) : List Pc → List V → Prop
 | nil : PcT H [] []
 | cons {c : Pc} {p : Addr} {cs : List Pc} {xs : List V} : H p = some (.tup c.vals) → PcT H cs xs → PcT H (c :: cs) (.ref p :: xs)
theorem PcT.mono {H H' : Hp} (s : SameT H H') : ∀ {cs : List Pc} {xs : List V}, PcT H cs xs → PcT H' cs xs
 | _, _, .nil => .nil
 | _, _, .cons h r => .cons (s _ _ h) (PcT.mono s r)
theorem PcT.all {K : PySem.W.Frag} {H : Hp} : ∀ {cs : List Pc} {xs : List V}, PcT H cs xs → PcAll K H cs xs
 | _, _, .nil => .nil
 | _, _, .cons h r => .cons (.of h) (PcT.all r)
theorem PcT.length {H : Hp} : ∀ {cs : List Pc} {xs : List V}, PcT H cs xs → xs.length = cs.length
 | _, _, .nil => rfl
 | _, _, .cons _ r => by simp [PcT.length r]
theorem PcT.append {H : Hp} {ds : List Pc} {ys : List V} (h2 : PcT H ds ys) : ∀ {cs : List Pc} {xs : List V}, PcT H cs xs → PcT H (cs ++ ds) (xs ++ ys)
 | _, _, .nil => h2
 | _, _, .cons h r => .cons h (PcT.append h2 r)
theorem PcT.take {H : Hp} : ∀ {cs : List Pc} {xs : List V} (n : Nat), PcT H cs xs → PcT H (cs.take n) (xs.take n)
 | _, _, 0, _ => .nil
 | _, _, _ + 1, .nil => .nil
 | _, _, n + 1, .cons h r => .cons h (PcT.take n r)
theorem PcT.get {H : Hp} : ∀ {cs : List Pc} {xs : List V}, PcT H cs xs → ∀ {i : Nat} {v : V}, xs[i]? = some v → ∃ c p, cs[i]? = some c ∧ v = .ref p ∧ H p = some (.tup c.vals)
 | _, _, .cons h _, 0, _, e => by cases e; exact ⟨_, _, rfl, rfl, h⟩
 | _, _, .cons _ r, i + 1, _, e => PcT.get r (i := i) (by simpa using e)
 | _, _, .nil, _, _, e => by cases e
def pcD (c : Pc) : PyData := .tuple (.str c.kw :: match c with
 | .step s => [st s]
 | .part h n t => [st h, st n, st t]
 | .num n => [st n]
 | .word n => [st n]
 | .gap n => [st n]
 | .rest n => [st n])
theorem PcT.isT {H : Hp} : ∀ {cs : List Pc} {xs : List V}, PcT H cs xs → IsTAll H (cs.map pcD) xs
 | _, _, .nil => .nil
 | c :: _, _, .cons h r => by
  refine .cons ?_ (PcT.isT r)
  cases c with
  | step s => exact .tup h (.cons (.str _) (.cons (.str _) .nil))
  | part a b d => exact .tup h (.cons (.str _) (.cons (.str _) (.cons (.str _) (.cons (.str _) .nil))))
  | num n => exact .tup h (.cons (.str _) (.cons (.str _) .nil))
  | word n => exact .tup h (.cons (.str _) (.cons (.str _) .nil))
  | gap n => exact .tup h (.cons (.str _) (.cons (.str _) .nil))
  | rest n => exact .tup h (.cons (.str _) (.cons (.str _) .nil))
def PcSg (c : Pc) : Prop := (∀ l, c = .step l → ∀ x ∈ l, isSg x = true) ∧ (∀ h n t, c = .part h n t → (∀ x ∈ h, isSg x = true) ∧ ∀ x ∈ t, isSg x = true) ∧ ∀ x ∈ c.name, isSg x = true
theorem lqY {c : Pc} (h : PcSg c) : LayAt 1 (pcD c) := by
 have kwl : ∀ s : Str, s ∈ [Str.ofString "step", Str.ofString "part", Str.ofString "number", Str.ofString "word", Str.ofString "gap", Str.ofString "rest"] → LayAt 0 (PyData.str s) := fun s hs => by
  have all : ∀ s ∈ [Str.ofString "step", Str.ofString "part", Str.ofString "number", Str.ofString "word", Str.ofString "gap", Str.ofString "rest"], ∀ x ∈ s.cps.toList, isSg x = true := by decide +kernel
  exact LayAt.st (l := s.cps.toList) (all s hs)
 have one : ∀ (k : Str) (l : List Nat), k ∈ [Str.ofString "step", Str.ofString "part", Str.ofString "number", Str.ofString "word", Str.ofString "gap", Str.ofString "rest"] → (∀ x ∈ l, isSg x = true) → LayAt 1 (.tuple [.str k, st l]) := fun k l hk hl => LayAt.tup (n := 0) fun d hd => by
  simp only [List.mem_cons, List.not_mem_nil, or_false] at hd
  rcases hd with rfl | rfl
  ·exact kwl k hk
  ·exact LayAt.st hl
 cases c with
 | step s => exact one _ s (by simp [Pc.kw]) (h.1 s rfl)
 | part a b d =>
  obtain ⟨h1, h2⟩ := h.2.1 a b d rfl
  refine LayAt.tup (n := 0) fun x hx => ?_
  simp only [List.mem_cons, List.not_mem_nil, or_false] at hx
  rcases hx with rfl | rfl | rfl | rfl
  ·exact kwl _ (by simp [Pc.kw])
  ·exact LayAt.st h1
  ·exact LayAt.st h.2.2
  ·exact LayAt.st h2
 | num n => exact one _ n (by simp [Pc.kw]) h.2.2
 | word n => exact one _ n (by simp [Pc.kw]) h.2.2
 | gap n => exact one _ n (by simp [Pc.kw]) h.2.2
 | rest n => exact one _ n (by simp [Pc.kw]) h.2.2
theorem eq1 {cs : List Pc} (h : ∀ c ∈ cs, PcSg c) : LayAt 2 (.list (cs.map pcD)) := layL fun d hd => by
 obtain ⟨c, hc, rfl⟩ := List.mem_map.mp hd
 exact lqY (h c hc)
end Wm
namespace L2
open PySem PySem.Spec PyProof.Rows
section
variable {p : Addr} {fv : St} {tt : TT} {te : TE} {Q : VK} {H H1 : Hp} {K : PySem.W.Frag}
theorem nqi {l b : Addr} : rExtend (.ref l) [.ref b] H Q ↔ ∃ xs zs, H l = some (.lst xs) ∧ H b = some (.lst zs) ∧ xs.length + zs.length ≤ sizeLine ∧ Q .non (upd H l (.lst (xs ++ zs))) := by
 constructor
 ·rintro ⟨l', b', xs, zs, h1, h2, h3⟩
  cases h1; cases h2
  exact ⟨xs, zs, h3⟩
 ·rintro ⟨xs, zs, h⟩
  exact ⟨l, b, xs, zs, rfl, rfl, h⟩
theorem jqo {tl : TE} {fr : List Nat} {σ : St} : (tComp2 K (iList K tl) fr tt te σ H Q) = (tl σ H fun x H1 => ∃ a, x = .ref a ∧ (∃ xs, SqL K H1 a xs) ∧ ∀ p, H1 p = none → CompI2 K (Itl K a) p (frV σ fr) tt te Q H1) := rfl
theorem lqE {a : Addr} {xs : List V} (f : Nat → V × V) (t : Nat → Bool) (g : Nat → V) (hxs : SqL K H1 a xs) (hlen : xs.length ≤ sizeLine) (hp : H1 p = none)
  (hit : ∀ (i : Nat) (x : V) (H' : Hp), xs[i]? = some x → Same H1 H' → ∃ b, x = .ref b ∧ SqT K H' b [(f i).1, (f i).2])
  (ht : ∀ (i : Nat), i < xs.length → ∀ (H' : Hp) (R : Bool → Hp → Prop), Same H1 H' → (∀ H'', Same H' H'' → R (t i) H'') → tt (some (f i).1 :: some (f i).2 :: fv) H' R)
  (he : ∀ (i : Nat), i < xs.length → t i = true → ∀ (H' : Hp) (T : VK), Same H1 H' → (∀ H'', Same H' H'' → T (g i) H'') → te (some (f i).1 :: some (f i).2 :: fv) H' T)
  (hQ : ∀ H', Same H1 H' → H' p = some (.lst (((List.range xs.length).filter t).map g)) → Q (.ref p) H') : CompI2 K (Itl K a) p fv tt te Q H1 := by
 refine ⟨fun i m ys H2 => m = xs.length - i ∧ i ≤ xs.length ∧ ys = ((List.range i).filter t).map g ∧ H2 p = some (.lst ys) ∧ Same H1 H2, ⟨xs.length, by simp, Nat.zero_le _, by simp, aqq, fun b o e => by rw [aqu (aqo e hp)]; exact e⟩, ?_⟩
 rintro i m ys H2 ⟨rfl, hi, rfl, hp2, sm⟩
 refine ⟨hp2, ?_⟩
 have q := sm.seq hxs
 by_cases hlt : i < xs.length
 ·refine .inr ⟨⟨xs, xs[i], q, by simp [hlt]⟩, ?_, fun x H3 y => ?_⟩
  ·rw [List.length_map]
   have := List.length_filter_le t (List.range i)
   rw [List.length_range] at this
   omega
  ·obtain ⟨rfl, y⟩ := y
   have hc := y xs q
   obtain ⟨b, rfl, hb⟩ := hit i x H3 hc sm
   refine ⟨b, _, _, rfl, hb, ?_⟩
   refine ht i hlt _ _ sm fun H4 s4 => ?_
   by_cases hf : t i = true
   ·rw [if_pos hf]
    refine he i hlt hf _ _ (sm.trans s4) fun H5 s5 => ⟨(s4.trans s5) _ _ hp2, xs.length - (i + 1), by omega, rfl, hlt, ?_, aqq, fun b o e => ?_⟩
    ·rw [List.range_succ, List.filter_append, List.map_append]; simp [hf]
    ·rw [aqu (aqo e hp)]; exact (s4.trans s5) _ _ (sm _ _ e)
   ·rw [if_neg hf]
    refine ⟨xs.length - (i + 1), by omega, rfl, hlt, ?_, s4 _ _ hp2, sm.trans s4⟩
    rw [List.range_succ, List.filter_append, List.map_append]; simp [hf]
 ·have e : i = xs.length := by omega
  subst e
  exact .inl ⟨⟨xs, q, Nat.le_refl _⟩, hQ H2 sm hp2⟩
theorem iqV {a : Addr} {xs : List V} (t : Nat → Bool) (g : Nat → V) (hxs : SqT K H1 a xs) (hlen : xs.length ≤ sizeLine) (hp : H1 p = none)
  (ht : ∀ (i : Nat) (x : V), xs[i]? = some x → ∀ (H' : Hp) (R : Bool → Hp → Prop), Same H1 H' → (∀ H'', Same H' H'' → R (t i) H'') → tt (some x :: fv) H' R)
  (he : ∀ (i : Nat) (x : V), xs[i]? = some x → t i = true → ∀ (H' : Hp) (T : VK), Same H1 H' → (∀ H'', Same H' H'' → T (g i) H'') → te (some x :: fv) H' T)
  (hQ : ∀ H', Same H1 H' → H' p = some (.lst (((List.range xs.length).filter t).map g)) → Q (.ref p) H') : CompI (Itt K a) p fv tt te Q H1 := by
 refine ⟨fun i m ys H2 => m = xs.length - i ∧ i ≤ xs.length ∧ ys = ((List.range i).filter t).map g ∧ H2 p = some (.lst ys) ∧ Same H1 H2, ⟨xs.length, by simp, Nat.zero_le _, by simp, aqq, fun b o e => by rw [aqu (aqo e hp)]; exact e⟩, ?_⟩
 rintro i m ys H2 ⟨rfl, hi, rfl, hp2, sm⟩
 refine ⟨hp2, ?_⟩
 have q := sm.tup hxs
 by_cases hlt : i < xs.length
 ·refine .inr ⟨⟨xs, xs[i], q, by simp [hlt]⟩, ?_, fun x H3 y => ?_⟩
  ·rw [List.length_map]
   have := List.length_filter_le t (List.range i)
   rw [List.length_range] at this
   omega
  ·obtain ⟨rfl, y⟩ := y
   have hc := y xs q
   refine ht i x hc _ _ sm fun H4 s4 => ?_
   by_cases hf : t i = true
   ·rw [if_pos hf]
    refine he i x hc hf _ _ (sm.trans s4) fun H5 s5 => ⟨(s4.trans s5) _ _ hp2, xs.length - (i + 1), by omega, rfl, hlt, ?_, aqq, fun b o e => ?_⟩
    ·rw [List.range_succ, List.filter_append, List.map_append]; simp [hf]
    ·rw [aqu (aqo e hp)]; exact (s4.trans s5) _ _ (sm _ _ e)
   ·rw [if_neg hf]
    refine ⟨xs.length - (i + 1), by omega, rfl, hlt, ?_, s4 _ _ hp2, sm.trans s4⟩
    rw [List.range_succ, List.filter_append, List.map_append]; simp [hf]
 ·have e : i = xs.length := by omega
  subst e
  exact .inl ⟨⟨xs, q, Nat.le_refl _⟩, hQ H2 sm hp2⟩
end
end L2
namespace Wm
open PySem L2
inductive VlsV (H : Hp) : List (List Nat × PyData) → List V → Prop
 | nil : VlsV H [] []
 | cons {n : List Nat} {d : PyData} {p : Addr} {v : V} {vs : List (List Nat × PyData)} {xs : List V} : H p = some (.tup [tV n, v]) → Is H d v → VlsV H vs xs → VlsV H ((n, d) :: vs) (.ref p :: xs)
def gapsM (cs : List Pc) : List (List Nat) := (cs.filter fun c => !c.isStep).map Pc.name
def named (vs : List (List Nat × PyData)) (n : List Nat) : List PyData := (vs.filter fun p => decide (p.1 = n)).map (·.2)
end Wm
namespace L2
open PySem
end L2
namespace Wm
open PySem L2
theorem eqI {ns : List (List Nat)} (hn : ns.Nodup) : ∀ {cs : List Pc} (k : Nat), (∀ (i : Nat) (c : Pc), cs[i]? = some c → c.isStep = false → ns[k + i]? = some c.name) → (gapsM cs).Nodup ∧ ∀ n ∈ gapsM cs, ∃ j, k ≤ j ∧ ns[j]? = some n
 | [], _, _ => ⟨List.nodup_nil, fun n h => by cases h⟩
 | c :: cs, k, h => by
  obtain ⟨i1, i2⟩ := eqI hn (cs := cs) (k + 1) fun i d hd hs => by
   have := h (i + 1) d (by simpa using hd) hs
   rw [← this]; congr 1; omega
  have e : gapsM (c :: cs) = (if c.isStep then [] else [c.name]) ++ gapsM cs := by
   unfold gapsM
   rw [List.filter_cons]
   cases c.isStep <;> rfl
  rw [e]
  cases hs : c.isStep with
  | true => exact ⟨i1, fun n hn' => by obtain ⟨j, h1, h2⟩ := i2 n hn'; exact ⟨j, by omega, h2⟩⟩
  | false =>
   have h0 : ns[k]? = some c.name := h 0 c rfl hs
   refine ⟨?_, fun n hn' => ?_⟩
   ·show (c.name :: gapsM cs).Nodup
    rw [List.nodup_cons]
    refine ⟨fun z => ?_, i1⟩
    obtain ⟨j, h1, h2⟩ := i2 _ z
    obtain ⟨a1, a2⟩ := List.getElem?_eq_some_iff.mp h0
    obtain ⟨b1, b2⟩ := List.getElem?_eq_some_iff.mp h2
    rw [List.nodup_iff_pairwise_ne, List.pairwise_iff_getElem] at hn
    exact hn k j a1 b1 (by omega) (a2.trans b2.symm)
   ·rcases List.mem_cons.mp (show n ∈ c.name :: gapsM cs from hn') with rfl | z
    ·exact ⟨k, Nat.le_refl _, h0⟩
    ·obtain ⟨j, h1, h2⟩ := i2 n z; exact ⟨j, by omega, h2⟩
theorem kqx (xs : List V) (i : Nat) : cutV xs none (some (i : Int)) = xs.take i := by
 unfold cutV
 rw [HT.sIx_none, HT.sIx_nat, List.drop_zero, Nat.sub_zero]
 by_cases h : i ≤ xs.length
 ·rw [Nat.min_eq_left h]
 ·rw [Nat.min_eq_right (by omega), List.take_length, List.take_of_length_le (by omega)]
theorem fqz {ns : List (List Nat)} (h : ns.Nodup) {r j : Nat} (hr : r ≤ j) (hj : j < ns.length) : (ns.take r ++ [ns[j]]).Nodup := by
 rw [List.nodup_append]
 refine ⟨h.sublist (List.take_sublist _ _), by simp, fun a ha b hb e => ?_⟩
 rw [List.mem_singleton] at hb
 obtain ⟨i, hi⟩ := List.mem_iff_getElem?.mp ha
 have hil := (List.getElem?_eq_some_iff.mp hi).1
 rw [List.length_take] at hil
 rw [List.getElem?_take, if_pos (by omega)] at hi
 obtain ⟨h1, h2⟩ := List.getElem?_eq_some_iff.mp hi
 rw [List.nodup_iff_pairwise_ne, List.pairwise_iff_getElem] at h
 exact h i j h1 hj (by omega) (by rw [h2, e, hb])
def trS : List Nat := [97, 98, 48, 49]
def trialsM (h t : List Nat) : List (List Nat) := trS.map fun c => h ++ [c] ++ t
def PcTx (c : Pc) : Prop := c.head.length ≤ 40000 ∧ c.tail.length ≤ 40000 ∧ ∀ w, c = .step w → w.length ≤ 40000
def fitT (c : Pc) : List (List Nat) := (match c with | .step w => [w] | c => trialsM c.head c.tail).filter (fitsM c)
def stepBey (c d : Pc) : Option (List Nat) := (fitT c).find? fun s => !fitsM d s
theorem iqm {c : Pc} (h : PcTx c) : ∀ s ∈ fitT c, s.length ≤ 90000 := fun s hs => by
 unfold fitT at hs
 have hs := (List.mem_filter.mp hs).1
 have gen : ∀ a b : List Nat, a.length ≤ 40000 → b.length ≤ 40000 → s ∈ trialsM a b → s.length ≤ 90000 := fun a b ha hb h => by
  obtain ⟨x, _, rfl⟩ := List.mem_map.mp h
  simp only [List.length_append, List.length_singleton]
  omega
 cases c with
 | step w => have := h.2.2 w rfl; rw [List.mem_singleton.mp hs]; omega
 | part a b d => exact gen _ _ h.1 h.2.1 hs
 | num n => exact gen _ _ h.1 h.2.1 hs
 | word n => exact gen _ _ h.1 h.2.1 hs
 | gap n => exact gen _ _ h.1 h.2.1 hs
 | rest n => exact gen _ _ h.1 h.2.1 hs
theorem jqO {α : Type} {p : α → Bool} : ∀ {l : List α} {i : Nat} {s : α}, l[i]? = some s → (∀ z ∈ l.take i, p z = true) → (!p s) = true → l.find? (fun z => !p z) = some s
 | [], _, _, h, _, _ => by cases h
 | a :: l, 0, s, h, _, hs => by
  cases h
  exact List.find?_cons_of_pos hs
 | a :: l, i + 1, s, h, hp, hs => by
  have ha := hp a (by simp)
  rw [List.find?_cons_of_neg (by rw [ha]; decide)]
  exact jqO (i := i) (by simpa using h) (fun z hz => hp z (by simp [hz])) hs
theorem jqe {h t : List Nat} {c : Nat} (hc : c ∈ trS) : h ++ [c] ++ t ∈ trialsM h t := List.mem_map.mpr ⟨c, hc, rfl⟩
theorem bqK {h t : List Nat} {c : Nat} (hc : c ∈ trS) : isDot (h ++ [c] ++ t) = false := by
 have : c ≠ 46 := by intro e; subst e; revert hc; decide
 rw [cqO]
 constructor <;> intro e
 ·have : c ∈ sUp := by rw [← e]; simp
  revert this; unfold sUp; simp; omega
 ·have : c ∈ sStay := by rw [← e]; simp
  revert this; unfold sStay; simp; omega
theorem jqV {c : Pc} {s : List Nat} (oc : PcOk c) (h : s ∈ fitT c) : fitsM c s = true ∧ s ≠ [] ∧ s.length ≤ 300 ∧ ∀ x ∈ s, isSg x = true := by
 obtain ⟨h1, h2⟩ := List.mem_filter.mp h
 have gen : ∀ a b : List Nat, a.length ≤ 100 → b.length ≤ 100 → (∀ x ∈ a, isSg x = true) → (∀ x ∈ b, isSg x = true) → s ∈ trialsM a b → s ≠ [] ∧ s.length ≤ 300 ∧ ∀ x ∈ s, isSg x = true := fun a b ha hb sa sb h => by
  obtain ⟨x, hx, rfl⟩ := List.mem_map.mp h
  refine ⟨by simp, ?_, fun y hy => ?_⟩
  ·simp only [List.length_append, List.length_singleton]
   omega
  ·have all : ∀ z ∈ trS, isSg z = true := by decide
   simp only [List.mem_append, List.mem_singleton] at hy
   rcases hy with (hy | rfl) | hy
   ·exact sa y hy
   ·exact all y hx
   ·exact sb y hy
 have no : ∀ x ∈ ([] : List Nat), isSg x = true := fun x hx => by cases hx
 refine ⟨h2, ?_⟩
 cases c with
 | step w =>
  rw [List.mem_singleton.mp h1]
  exact ⟨List.length_pos_iff.mp oc.1, by have := oc.2.1; omega, oc.2.2.1⟩
 | part a n b => exact gen a b oc.1 oc.2.1 oc.2.2.1 oc.2.2.2.1 h1
 | num n => exact gen [] [] (by decide) (by decide) no no h1
 | word n => exact gen [] [] (by decide) (by decide) no no h1
 | gap n => exact gen [] [] (by decide) (by decide) no no h1
 | rest n => exact gen [] [] (by decide) (by decide) no no h1
theorem bqj {ds ts : List Pc} {n : Nat} (h : spreadM ds n = some ts) : ts.length = n ∧ ∀ i, i < n → (i < ds.length ∧ ts[i]? = ds[i]?) ∨ (ds.length ≤ i ∧ hasRest ds = true ∧ ∃ c, ts[i]? = some c ∧ c.isRest = true ∧ c ∈ ds) := by
 unfold spreadM at h
 by_cases hr : hasRest ds = true ∧ ds.length ≤ n
 ·rw [if_pos hr] at h
  cases h
  have hne : ds ≠ [] := fun e => by subst e; exact absurd hr.1 (by decide)
  obtain ⟨c, hc⟩ : ∃ c, ds.getLast? = some c := ⟨_, List.getLast?_eq_some_getLast hne⟩
  have hcr : c.isRest = true := by
   have := hr.1
   unfold hasRest at this
   rw [hc] at this
   exact this
  have hd : ds.drop (ds.length - 1) = [c] := by
   rw [List.getLast?_eq_getElem?] at hc
   have hl := List.length_pos_iff.mpr hne
   obtain ⟨h1, h2⟩ := List.getElem?_eq_some_iff.mp hc
   rw [List.drop_eq_getElem_cons h1, h2, List.drop_eq_nil_of_le (by omega)]
  rw [hd]
  have hfl : ∀ k : Nat, (List.replicate k [c]).flatten = List.replicate k c := fun k => by
   induction k with
   | zero => rfl
   | succ k ih => rw [List.replicate_succ, List.flatten_cons, ih]; rfl
  rw [hfl]
  refine ⟨by rw [List.length_append, List.length_replicate]; omega, fun i hi => ?_⟩
  by_cases hil : i < ds.length
  ·exact .inl ⟨hil, List.getElem?_append_left hil⟩
  ·refine .inr ⟨by omega, hr.1, c, ?_, hcr, List.mem_of_getLast? hc⟩
   rw [List.getElem?_append_right (by omega), List.getElem?_replicate, if_pos (by omega)]
 ·rw [if_neg hr] at h
  by_cases e : n = ds.length
  ·rw [if_pos e] at h
   cases h
   exact ⟨e.symm, fun i hi => .inl ⟨by omega, rfl⟩⟩
  ·rw [if_neg e] at h
   cases h
theorem jq2 {ds ts : List Pc} {n : Nat} (h : spreadM ds n = some ts) : n = ds.length ∨ (hasRest ds = true ∧ ds.length ≤ n) := by
 unfold spreadM at h
 by_cases hr : hasRest ds = true ∧ ds.length ≤ n
 ·exact .inr hr
 ·rw [if_neg hr] at h
  by_cases e : n = ds.length
  ·exact .inl e
  ·rw [if_neg e] at h; cases h
theorem eqa {cs ms : List Pc} {n : Nat} (ok : ∀ c ∈ cs, PcOk c) (h : spreadM cs n = some ms) : ∀ c ∈ ms, PcOk c := fun c hc => by
 obtain ⟨i, hi⟩ := List.mem_iff_getElem?.mp hc
 obtain ⟨h1, h2⟩ := bqj h
 rcases h2 i (by have := (List.getElem?_eq_some_iff.mp hi).1; omega) with ⟨_, e⟩ | ⟨_, _, c', e, _, hm⟩
 ·exact ok c (List.mem_of_getElem? (e.symm.trans hi))
 ·rw [hi] at e; cases e; exact ok _ hm
end Wm
namespace L2
open PySem
section
variable {p : Addr} {fv : St} {tt : TT} {te : TE} {Q : VK} {H1 : Hp}
theorem hqH {n : Nat} (f : Nat → Bool) (g : Nat → V) (hlen : n ≤ sizeLine) (hp : H1 p = none)
  (ht : ∀ i, i < n → ∀ (H' : Hp) (R : Bool → Hp → Prop), Same H1 H' → (∀ H'', Same H' H'' → R (f i) H'') → tt (some (.int (0 + (i : Int))) :: fv) H' R)
  (he : ∀ i, i < n → f i = true → ∀ (H' : Hp) (T : VK), Same H1 H' → (∀ H'', Same H' H'' → T (g i) H'') → te (some (.int (0 + (i : Int))) :: fv) H' T)
  (hQ : ∀ H', Same H1 H' → H' p = some (.lst (((List.range n).filter f).map g)) → Q (.ref p) H') : CompI (Itr 0 n) p fv tt te Q H1 := by
 refine ⟨fun i m ys H2 => m = n - i ∧ i ≤ n ∧ ys = ((List.range i).filter f).map g ∧ H2 p = some (.lst ys) ∧ Same H1 H2, ⟨n, by simp, Nat.zero_le _, by simp, aqq, fun b o e => by rw [aqu (aqo e hp)]; exact e⟩, ?_⟩
 rintro i m ys H2 ⟨rfl, hi, rfl, hp2, sm⟩
 refine ⟨hp2, ?_⟩
 by_cases hlt : i < n
 ·refine .inr ⟨hlt, ?_, fun x H3 y => ?_⟩
  ·rw [List.length_map]
   have := List.length_filter_le f (List.range i)
   rw [List.length_range] at this
   omega
  ·obtain ⟨rfl, rfl⟩ := y
   refine ht i hlt _ _ sm fun H4 s4 => ?_
   by_cases hf : f i = true
   ·rw [if_pos hf]
    refine he i hlt hf _ _ (sm.trans s4) fun H5 s5 => ⟨(s4.trans s5) _ _ hp2, n - (i + 1), by omega, rfl, hlt, ?_, aqq, fun b o e => ?_⟩
    ·rw [List.range_succ, List.filter_append, List.map_append]; simp [hf]
    ·rw [aqu (aqo e hp)]; exact (s4.trans s5) _ _ (sm _ _ e)
   ·rw [if_neg hf]
    refine ⟨n - (i + 1), by omega, rfl, hlt, ?_, s4 _ _ hp2, sm.trans s4⟩
    rw [List.range_succ, List.filter_append, List.map_append]; simp [hf]
 ·have e : i = n := by omega
  subst e
  exact .inl ⟨Nat.le_refl _, hQ H2 sm hp2⟩
end
end L2
namespace Wm
open PySem L2
theorem fqY {H : Hp} : ∀ l : List Int, IsAll H (l.map PyData.int) (l.map V.int)
 | [] => .nil
 | c :: ss => .cons (.int _) (fqY ss)
theorem hqU (l : List Int) : SeqAt.shaped (.list (l.map PyData.int)) = true := by
 refine LayAt.shaped (n := 1) (layL (n := 0) fun d hd => ?_) (by decide)
 obtain ⟨c, hc, rfl⟩ := List.mem_map.mp hd
 exact ⟨rfl, Nat.le_refl _⟩
theorem hqA {cs : List Pc} {c : Pc} {n : Nat} (hc : cs.getLast? = some c) (hr : c.isRest = true) (hn : cs.length ≤ n) : spreadM cs n = some (cs ++ List.replicate (n - cs.length) c) := by
 have h : hasRest cs = true := by unfold hasRest; rw [hc]; exact hr
 unfold spreadM
 rw [if_pos ⟨h, hn⟩]
 have hd : cs.drop (cs.length - 1) = [c] := by
  rw [List.getLast?_eq_getElem?] at hc
  obtain ⟨h1, h2⟩ := List.getElem?_eq_some_iff.mp hc
  rw [List.drop_eq_getElem_cons h1, h2, List.drop_eq_nil_of_le (by omega)]
 rw [hd]
 have hfl : ∀ k : Nat, (List.replicate k [c]).flatten = List.replicate k c := fun k => by
  induction k with
  | zero => rfl
  | succ k ih => rw [List.replicate_succ, List.flatten_cons, ih]; rfl
 rw [hfl]
theorem hqL {cs : List Pc} {n : Nat} (h : hasRest cs = false ∨ n < cs.length) : spreadM cs n = if cs.length = n then some cs else none := by
 unfold spreadM
 rw [if_neg (fun z => by rcases h with h | h; rw [h] at z; exact absurd z.1 (by decide); omega)]
 by_cases e : n = cs.length
 ·rw [if_pos e, if_pos e.symm]
 ·rw [if_neg e, if_neg (fun z => e z.symm)]
theorem range_all (Z : List Bool) : ((List.range Z.length).filter fun i => !(Z[i]?.getD true)).isEmpty = Z.all id := by
 rw [Bool.eq_iff_iff, List.isEmpty_iff, List.filter_eq_nil_iff, List.all_eq_true]
 constructor
 ·intro h b hb
  obtain ⟨i, hi⟩ := List.mem_iff_getElem?.mp hb
  have := h i (List.mem_range.mpr (List.getElem?_eq_some_iff.mp hi).1)
  rw [hi] at this
  simpa using this
 ·intro h i hi
  have hi := List.mem_range.mp hi
  have := h Z[i] (List.getElem_mem hi)
  rw [List.getElem?_eq_getElem hi]
  simpa using this
def PtAt (H : Hp) (cs : List Pc) (e : Bool) (p : Addr) : Prop := ∃ (q : Addr) (xs : List V), H p = some (.tup [.ref q, .bl e]) ∧ H q = some (.tup xs) ∧ PcT H cs xs
theorem PtAt.mono {H H' : Hp} {cs : List Pc} {e : Bool} {p : Addr} (s : SameT H H') (h : PtAt H cs e p) : PtAt H' cs e p := by
 obtain ⟨q, xs, h1, h2, h3⟩ := h
 exact ⟨q, xs, s _ _ h1, s _ _ h2, h3.mono s⟩
def PcsOk (cs : List Pc) : Prop := cs.length ≤ 90 ∧ ∀ c ∈ cs, PcOk c ∧ PcSg c
theorem dqi {c : Pc} (o : PcOk c) (hn : ∀ x ∈ c.name, isSg x = true) : PcSg c :=
 ⟨fun l h => by subst h; exact o.2.2.1, fun h n t e => by subst e; exact ⟨o.2.2.1, o.2.2.2.1⟩, hn⟩
theorem PcT.pick {H : Hp} {cs : List Pc} {xs : List V} (h : PcT H cs xs) : ∀ il : List Nat, (∀ i ∈ il, i < xs.length) → PcT H (il.map fun i => cs[i]?.getD (.gap [])) (il.map fun i => xs[i]?.getD .non)
 | [], _ => .nil
 | i :: il, hi => by
  have hlt := hi i (List.mem_cons_self ..)
  have hv : xs[i]? = some xs[i] := List.getElem?_eq_getElem hlt
  obtain ⟨c, p, hc, e, hp⟩ := h.get hv
  rw [List.map_cons, List.map_cons, hc, hv, e]
  exact .cons hp (PcT.pick h il fun j hj => hi j (List.mem_cons_of_mem _ hj))
theorem fqh {H H' : Hp} {a : Addr} (s : Same H H') (h : H' a = none) : H a = none := by
 cases e : H a with
 | none => rfl
 | some o => rw [s _ _ e] at h; cases h
theorem iqr {H H' : Hp} {l : Addr} {ys : List V} (s : Same H H') (h : H l = none) : Same H (upd H' l (.lst ys)) := fun b o hb => by
 rw [aqu (fun w => by subst w; rw [h] at hb; cases hb)]; exact s _ _ hb
theorem gq1 {H : Hp} {l : Addr} {ys zs : List V} (h : H l = some (.lst zs)) : SameT H (upd H l (.lst ys)) := fun b o hb => by
 rw [aqu (fun w => by subst w; rw [h] at hb; cases hb)]; exact hb
def alikeM : Pc → Pc → Bool
 | .step v, .step w => decide (v = w)
 | .part h _ t, .part h' _ t' => decide (h = h') && decide (t = t')
 | .num _, .num _ => true
 | .word _, .word _ => true
 | .gap _, .gap _ => true
 | .rest _, .rest _ => true
 | _, _ => false
structure Wid (c d : Pc) : Prop where
 ok : PcOk d
 nr : d.isRest = false
 fits : ∀ s, fitsM c s = true → fitsM d s = true
 grown : alikeM c d = true ∨ stepBey d c ≠ none
def restM (cs : List Pc) : Nat := if hasRest cs = true then cs.length - 1 else cs.length
structure WidAll (cs ds : List Pc) : Prop where
 len : ds.length = restM cs
 wid : ∀ (i : Nat) (c d : Pc), cs[i]? = some c → ds[i]? = some d → Wid c d
end Wm
namespace L2
open PySem PySem.Spec PySem.W PySem.Calls PyProof.Rows
section
variable {prog : Program} {w : World} {A : Around} {R : Result → Shared → Prop} {I S : Addr} {fp wr : List Addr} {P : Nat → Value → Prop} {St : Nat → Heap → Prop} {n : Nat}
abbrev bestO (xs : Array Value) (c : Nat) : Obj := { cls := .type "list", dict := none, data := .seq xs c, slots := #[] }
theorem mqX (W : Walks prog w A.in1 I fp wr n P St) (hSf : S ∉ fp) {k v x : Value} {c : Nat} {s : Shared} (hst : St n s.heap) (hS : s.heap.get? S = some (bestO #[v, x] c))
  (hR : ∀ h' tk, (∀ b o, b ∉ wr → b ≠ S → s.heap.get? b = some o → h'.get? b = some o) → R (.ok (.ret v)) { s with heap := h', toks := tk }) : codeAny (model prog w) A (.builtin "max.loop" ⟨[.ref I, k, .ref S], []⟩) R s := by
 have nw : S ∉ wr := fun h => hSf (W.sub _ h)
 refine codeAny_builtin (PySem.F.entry_max_loop) ?_
 rw [Around.under_plainId PySem.F.plain_max_loop]
 refine wpAny_bind <| wpAny_seqItems hS rfl ?_
 refine wpAny_bind (wpAny_tryCatch (W.done s _ _ hst fun h1 t1 k1 => ?_))
 exact wpAny_bind (wpAny_updateSeq (k1 S _ nw hS) rfl (wpAny_bind (wpAny_letGo (wpAny_pure (hR _ t1 fun b o hw hb e => (Heap.get?_update_other _ _ (Ne.symm hb)).trans (k1 b o hw e))))))
theorem kq7 (W : Walks prog w A.in1 I fp wr n P St) (hSf : S ∉ fp) (hn : 0 < n) (hP : ∀ i v, P i v → ∃ z t, v = .str z t ∧ z.length ≤ sizeLine) {c : Nat} {s : Shared} (hst : St 0 s.heap) (hS : s.heap.get? S = some (bestO #[] c))
  (hR : ∀ z t x tx c' h' tk, P 0 (.str z t) → x = .int z.length tx → St 1 h' → h'.get? S = some (bestO #[.str z t, x] c') → (∀ b o, b ∉ wr → b ≠ S → s.heap.get? b = some o → h'.get? b = some o) → codeAny (model prog w) A (.builtin "max.loop" ⟨[.ref I, .builtin "len", .ref S], []⟩) R { s with heap := h', toks := tk }) :
  codeAny (model prog w) A (.builtin "max.loop" ⟨[.ref I, .builtin "len", .ref S], []⟩) R s := by
 have nw : S ∉ wr := fun h => hSf (W.sub _ h)
 have hname : toString "max" ++ toString ".loop" = ("max.loop" : String) := by decide
 refine codeAny_builtin (PySem.F.entry_max_loop) ?_
 rw [Around.under_plainId PySem.F.plain_max_loop]
 refine wpAny_bind <| wpAny_seqItems hS rfl ?_
 refine wpAny_bind (wpAny_tryCatch (W.item 0 s _ _ hn hst fun v h1 t1 p1 st1 k1 => ?_))
 obtain ⟨z, t, rfl, hz⟩ := hP 0 v p1
 have h63 := line63
 refine wpAny_bind (wpAny_tryCatch (wpAny_holding (len_str (by omega) ?_)))
 refine wpAny_bind (wpAny_updateSeq (k1 S _ nw hS) rfl ?_)
 rw [hname]
 refine wpAny_pure ⟨plainId_quiet PySem.F.plain_max_loop _, hR z t _ _ _ _ _ p1 rfl (W.frame _ _ _ st1 fun b hf o e => ?_) (Heap.get?_update_self _ (k1 S _ nw hS) rfl) fun b o hw hb e => (Heap.get?_update_other _ _ (Ne.symm hb)).trans (k1 b o hw e)⟩
 exact (Heap.get?_update_other _ _ (fun h : S = b => hSf (by rw [h]; exact hf))).trans e
theorem lqM (W : Walks prog w A.in1 I fp wr n P St) (hSf : S ∉ fp) (hn : 1 < n) (hP : ∀ i v, P i v → ∃ z t, v = .str z t ∧ z.length ≤ sizeLine) {c m : Nat} {s : Shared} {v : Value} {tx : Tok} (hst : St 1 s.heap) (hS : s.heap.get? S = some (bestO #[v, .int (m : Int) tx] c))
  (hR : ∀ z t x c' h' tk, P 1 (.str z t) → St 2 h' → h'.get? S = some (bestO #[if m < z.length then .str z t else v, x] c') → (∀ b o, b ∉ wr → b ≠ S → s.heap.get? b = some o → h'.get? b = some o) → codeAny (model prog w) A (.builtin "max.loop" ⟨[.ref I, .builtin "len", .ref S], []⟩) R { s with heap := h', toks := tk }) :
  codeAny (model prog w) A (.builtin "max.loop" ⟨[.ref I, .builtin "len", .ref S], []⟩) R s := by
 have nw : S ∉ wr := fun h => hSf (W.sub _ h)
 have hname : toString "max" ++ toString ".loop" = ("max.loop" : String) := by decide
 refine codeAny_builtin (PySem.F.entry_max_loop) ?_
 rw [Around.under_plainId PySem.F.plain_max_loop]
 refine wpAny_bind <| wpAny_seqItems hS rfl ?_
 refine wpAny_bind (wpAny_tryCatch (W.item 1 s _ _ hn hst fun v1 h1 t1 p1 st1 k1 => ?_))
 obtain ⟨z, t, rfl, hz⟩ := hP 1 v1 p1
 have h63 := line63
 have hS1 := k1 S _ nw hS
 refine wpAny_bind (wpAny_tryCatch (wpAny_holding (len_str (by omega) ?_)))
 refine wpAny_bind (wpAny_tryCatch (wpAny_holding (wpAny_bind (CmpOf.ints_gt (A := A.in1) (P := fun i v => ∃ t, v = .int (if i = 0 then (z.length : Int) else (m : Int)) t) (fun i => if i = 0 then (z.length : Int) else (m : Int)) (fun i v h => h) 0 1 _ _ _ _ _ ⟨_, rfl⟩ ⟨tx, rfl⟩ ?_))))
 refine wpAny_bind (wpAny_holding (wpAny_truthy_bool (wpAny_bind (wpAny_letGo (wpAny_pure ?_)))))
 split
 ·next hc =>
  have hlt : m < z.length := by have := of_decide_eq_true hc; simp at this; omega
  refine wpAny_bind ?_
  refine wpAny_updateSeq hS1 rfl ?_
  refine wpAny_bind <| wpAny_letGo ?_
  rw [hname]
  refine wpAny_pure ⟨plainId_quiet PySem.F.plain_max_loop _, hR z t _ _ _ _ p1 (W.frame _ _ _ st1 fun b hf o e => ?_) (by rw [if_pos hlt]; exact Heap.get?_update_self _ hS1 rfl) fun b o hw hb e => (Heap.get?_update_other _ _ (Ne.symm hb)).trans (k1 b o hw e)⟩
  exact (Heap.get?_update_other _ _ (fun h : S = b => hSf (by rw [h]; exact hf))).trans e
 ·next hc =>
  have hlt : ¬ m < z.length := fun hl => hc (decide_eq_true (by simp; omega))
  refine wpAny_bind <| wpAny_letGo ?_
  rw [hname]
  exact wpAny_pure ⟨plainId_quiet PySem.F.plain_max_loop _, hR z t _ _ _ _ p1 st1 (by rw [if_neg hlt]; exact hS1) fun b o hw hb e => k1 b o hw e⟩
theorem iqI (a b v : Value) : argsOk "max" ⟨[a, b], [(Str.ofString "key", v)]⟩ := by unfold argsOk; kernel_rfl
end
section
variable {A : Around} {prog : Program} {w : World} {s : Shared} {E : Value → Shared → Prop}
theorem hqI {a b : Str} {t u : Tok} {Q : Value → Shared → Prop} (hh : A.handled = none) (ha : a.length ≤ sizeLine) (hb : b.length ≤ sizeLine)
  (h : ∀ h' tk, (∀ c o, s.heap.get? c = some o → h'.get? c = some o) → Q (if a.length < b.length then .str b u else .str a t) { s with heap := h', toks := tk }) :
  wpAny (model prog w) A (call (.builtin "max") [.str a t, .str b u] [(Str.ofString "key", .builtin "len")]) Q E s := by
 have hname : toString "max" ++ toString ".loop" = ("max.loop" : String) := by decide
 refine kmk_tree PySem.F.kind_max PySem.F.plain_max PySem.F.entry_max (iqI _ _ _) ?_
 show wpAny _ A.in1 (Builtin.Builtins.bindParams "max" ["key", "default"] 0 ⟨[], [(Str.ofString "key", .builtin "len")]⟩ >>= _) _ _ s
 refine wpAny_bind (wpAny_of_eq (show Builtin.Builtins.bindParams "max" ["key", "default"] 0 ⟨[], [(Str.ofString "key", .builtin "len")]⟩ = pure [some (.builtin "len"), none] from rfl) ?_)
 show wpAny _ A.in1 (newTuple [.str a t, .str b u] >>= _) _ _ s
 refine wpAny_bind <| wpAny_newObj_type ?_
 have hT : (s.heap.push { cls := .type "tuple", data := .seq #[.str a t, .str b u] }).IsTuple s.heap.objs.size #[.str a t, .str b u] := ⟨_, Heap.get?_push_size _ rfl, rfl, 0, rfl⟩
 refine wpAny_bind (wpAny_pyIter_tuple hT ?_)
 have hsz : (s.heap.push { cls := .type "tuple", data := .seq #[.str a t, .str b u] }).objs.size = s.heap.objs.size + 1 := Heap.size_push ..
 refine wpAny_bind <| wpAny_newObj_type ?_
 rw [hname]
 refine wpAny_pure <| And.intro (plainId_quiet PySem.F.plain_max_loop _) ?_
 have W := Walks.tuple (prog := prog) (w := w) (A := A.in1) hh (s.heap.push { cls := .type "tuple", data := .seq #[.str a t, .str b u] }).objs.size s.heap.objs.size (by rw [hsz]; exact Nat.ne_of_lt (Nat.lt_succ_self _)) #[.str a t, .str b u]
 have hP : ∀ (i : Nat) (v : Value), (#[Value.str a t, .str b u] : Array Value)[i]? = some v → ∃ z t, v = .str z t ∧ z.length ≤ sizeLine := fun i v hv => by
  match i with
  | 0 => cases hv; exact ⟨a, t, rfl, ha⟩
  | 1 => cases hv; exact ⟨b, u, rfl, hb⟩
  | i + 2 => exact absurd hv (by simp)
 have hsz2 : ((s.heap.push { cls := .type "tuple", data := .seq #[.str a t, .str b u] }).push { cls := .type "tuple_iterator", data := .fields #[.ref s.heap.objs.size, .int 0 0] }).objs.size = s.heap.objs.size + 2 := by rw [Heap.size_push, hsz]
 have hSf : ((s.heap.push { cls := .type "tuple", data := .seq #[.str a t, .str b u] }).push { cls := .type "tuple_iterator", data := .fields #[.ref s.heap.objs.size, .int 0 0] }).objs.size ∉ [(s.heap.push { cls := .type "tuple", data := .seq #[.str a t, .str b u] }).objs.size, s.heap.objs.size] := by
  rw [hsz2, hsz]; simp
 refine kq7 W hSf (show 0 < 2 by decide) hP (W.frame _ _ _ ⟨⟨_, Heap.get?_push_size _ rfl, rfl, rfl⟩, hT.push _⟩ fun b _ o e => Heap.get?_push_of_some _ e) (Heap.get?_push_size _ rfl) fun z t0 x tx c1 h1 tk1 p0 hx st1 hS1 k1 => ?_
 cases p0
 subst hx
 refine lqM W hSf (show 1 < 2 by decide) hP st1 hS1 fun z t0 x c2 h2 tk2 p1 st2 hS2 k2 => ?_
 cases p1
 refine mqX W hSf st2 hS2 fun h3 tk3 k3 => ?_
 show Q (if a.length < b.length then .str b u else .str a t) _
 refine h h3 tk3 fun c o e => ?_
 have hc := Heap.lt_size e
 have n1 : c ∉ [(s.heap.push { cls := .type "tuple", data := .seq #[.str a t, .str b u] }).objs.size] := by rw [hsz, List.mem_singleton]; exact Nat.ne_of_lt (Nat.lt_succ_of_lt hc)
 have n2 : c ≠ ((s.heap.push { cls := .type "tuple", data := .seq #[.str a t, .str b u] }).push { cls := .type "tuple_iterator", data := .fields #[.ref s.heap.objs.size, .int 0 0] }).objs.size := by rw [hsz2]; exact Nat.ne_of_lt (Nat.lt_of_lt_of_le hc (Nat.le_add_right _ 2))
 exact k3 c o n1 n2 (k2 c o n1 n2 (k1 c o n1 n2 (Heap.get?_push_of_some _ (Heap.get?_push_of_some _ (Heap.get?_push_of_some _ e)))))
end
section
variable {X : Cx} {p pos kp kpos : Pos} {e e2 : Expr} {t : TA}
def rMaxLen : List V → Hp → VK → Prop := fun vs H Q => ∃ a b : Str, vs = [.str a, .str b] ∧ a.length ≤ sizeLine ∧ b.length ≤ sizeLine ∧ Q (.str (if a.length < b.length then b else a)) H
theorem gq7 (hc : X.calm = true) (hg : Gl X "max") (hm : X.mg "max" = none) (hg2 : Gl X "len") (hm2 : X.mg "len" = none) (hv2 : bootBuiltins "len" = some (.builtin "len")) (hv : bootBuiltins "max" = some (.builtin "max")) (ha : PA X [e, e2] t)
  (he : backTo pos (starEach [e, e2] X.env) = (false, eval e X.env) :: backTo pos (starEach [e2] X.env) := by rfl) (hpl : (backTo pos (starEach [e, e2] X.env)).any (·.1) = false := by rfl) :
  PE X (.Call (.Name "max" p) [e, e2] [⟨some "key", .Name "len" kp, kpos⟩] pos) (tCB rMaxLen t) := by
 intro pins s σ H Q I h
 refine wpAny_Call_Name_kw (fqH I hg hm hv ?_ (by decide) (by decide))
 refine callWith_kw ?_ he hpl
 refine thn (ha pos pins s σ H _ I h) fun us s1 W' => ?_
 obtain ⟨vs, H1, I1, r, a, b, rfl, la, lb, q⟩ := W'
 obtain ⟨u, u2, rfl, ⟨ta, rfl⟩, ⟨tb, rfl⟩⟩ := vals2 r
 show wpAny _ _ (evalAll [(do let v ← eval (.Name "len" kp) X.env; standAt pos; pure v)]) _ _ s1
 refine wpAny_evalAll_cons (wpAny_bind (fqH I1 hg2 hm2 hv2 ?_ (by decide) (by decide)))
 refine wpAny_bind <| wpAny_standAt <| wpAny_pure ?_
 refine wpAny_evalAll_nil ?_
 refine hqI (I1.ok.hd hc) la lb fun h' tk k => ⟨_, H1, I1.kept k, ?_, q⟩
 by_cases hj : a.length < b.length
 ·rw [if_pos hj, if_pos hj]; exact ⟨_, rfl⟩
 ·rw [if_neg hj, if_neg hj]; exact ⟨_, rfl⟩
end
end L2
namespace Wm
open PySem L2
def longM (a b : List Nat) : List Nat := if a.length < b.length then b else a
def bothT (c d : Pc) : List (List Nat) := if c.isStep = true ∨ d.isStep = true then fitT c ++ fitT d else trialsM (longM c.head d.head) (longM c.tail d.tail)
def stepBoth (c d : Pc) : Option (List Nat) := (bothT c d).find? fun s => fitsM c s && fitsM d s
theorem jqa {c d : Pc} (hc : PcTx c) (hd : PcTx d) : ∀ s ∈ bothT c d, s.length ≤ 90000 := fun s hs => by
 unfold bothT at hs
 split at hs
 ·rcases List.mem_append.mp hs with y | y
  ·exact iqm hc s y
  ·exact iqm hd s y
 ·obtain ⟨x, _, rfl⟩ := List.mem_map.mp hs
  have h1 : (longM c.head d.head).length ≤ 40000 := by unfold longM; split; exact hd.1; exact hc.1
  have h2 : (longM c.tail d.tail).length ≤ 40000 := by unfold longM; split; exact hd.2.1; exact hc.2.1
  simp only [List.length_singleton, List.length_append]
  omega
def meetM (cs : List Pc) (e : Bool) (ds : List Pc) (e' : Bool) : Option (List (List Nat)) := if e ≠ e' then none else match spreadM cs (max cs.length ds.length), spreadM ds (max cs.length ds.length) with
 | some ms, some ts => (List.zipWith stepBoth ms ts).mapM id
 | _, _ => none
theorem jqG : ∀ L : List (Option (List Nat)), (inV .non (L.map otV) = true ∧ L.mapM id = none) ∨ (inV .non (L.map otV) = false ∧ ∃ w, L.mapM id = some w ∧ L.map otV = w.map tV)
 | [] => .inr ⟨rfl, [], rfl, rfl⟩
 | none :: L => .inl ⟨rfl, by rw [List.mapM_cons]; rfl⟩
 | some s :: L => by
  have e : inV .non ((some s :: L).map otV) = inV .non (L.map otV) := rfl
  rw [e, List.mapM_cons]
  rcases jqG L with ⟨h1, h2⟩ | ⟨h1, w, h2, h3⟩
  ·exact .inl ⟨h1, by rw [h2]; rfl⟩
  ·exact .inr ⟨h1, s :: w, by rw [h2]; rfl, by rw [List.map_cons, h3]; rfl⟩
theorem cqj (a b : List Nat) : longM a b = a ∨ longM a b = b := by unfold longM; split <;> simp
theorem iqd (a b : List Nat) : a.length ≤ (longM a b).length ∧ b.length ≤ (longM a b).length := by unfold longM; split <;> omega
theorem iq8 {a b s : List Nat} (ha : a <+: s) (hb : b <+: s) : longM a b <+: s ∧ a <+: longM a b ∧ b <+: longM a b := by
 have hl := iqd a b
 have hs : longM a b <+: s := by rcases cqj a b with e | e <;> rw [e] <;> assumption
 exact ⟨hs, List.prefix_of_prefix_length_le ha hs hl.1, List.prefix_of_prefix_length_le hb hs hl.2⟩
theorem jqI {a b s : List Nat} (ha : a <:+ s) (hb : b <:+ s) : longM a b <:+ s ∧ a <:+ longM a b ∧ b <:+ longM a b := by
 have hl := iqd a b
 have hs : longM a b <:+ s := by rcases cqj a b with e | e <;> rw [e] <;> assumption
 exact ⟨hs, List.suffix_of_suffix_length_le ha hs hl.1, List.suffix_of_suffix_length_le hb hs hl.2⟩
theorem cqB {h t s : List Nat} : partB h t s = true ↔ h <+: s ∧ t <:+ s ∧ h.length + t.length < s.length := by
 unfold partB
 simp only [decide_eq_true_eq, Bool.and_eq_true]
 rw [List.prefix_iff_eq_take, List.suffix_iff_eq_drop]
 exact ⟨fun ⟨a, b, c⟩ => ⟨a.symm, b.symm, c⟩, fun ⟨a, b, c⟩ => ⟨a.symm, b.symm, c⟩⟩
def midM : Pc → List Nat
 | .num _ => [49]
 | .word _ => [97]
 | _ => trS
theorem fq2 {c : Pc} {s L T : List Nat} (hc : c.isStep = false) (hf : fitsM c s = true) (h1 : c.head <+: L) (h2 : c.tail <:+ T) (hL : L <+: s) (hT : T <:+ s) (hn : c.isNum = true ∨ c.isWord = true → L.length + T.length < s.length) : ∀ x ∈ midM c, fitsM c (L ++ [x] ++ T) = true := fun x hx => by
 have hsub : midM c ⊆ trS := by cases c <;> (show _ ⊆ trS) <;> first | exact fun _ h => h | (intro y hy; revert hy; simp only [midM, trS, List.mem_singleton]; rintro rfl; decide)
 have hdot := bqK (h := L) (t := T) (hsub hx)
 have hlen : (L ++ [x] ++ T).length = L.length + 1 + T.length := by simp only [List.length_append, List.length_singleton]
 have hmem : ∀ (p : Nat → Bool), s.all p = true → p x = true → (L ++ [x] ++ T).all p = true := fun p hp hx => by
  rw [List.all_eq_true] at hp ⊢
  intro y hy
  simp only [List.mem_append, List.mem_singleton] at hy
  rcases hy with (hy | rfl) | hy
  ·exact hp y (hL.subset hy)
  ·exact hx
  ·exact hp y (hT.subset hy)
 have fin : ∀ b : Bool, b = true → (!isDot (L ++ [x] ++ T) && b) = true := fun b hb => by rw [hdot, hb]; rfl
 have hf2 := (Bool.and_eq_true_iff.mp hf).2
 cases c with
 | step w => cases hc
 | part h n t =>
  refine fin _ (cqB.mpr ⟨?_, ?_, ?_⟩)
  ·rw [List.append_assoc]; exact h1.trans (List.prefix_append ..)
  ·exact List.IsSuffix.trans h2 (List.suffix_append ..)
  ·have := h1.length_le; have := h2.length_le
   rw [hlen]
   show h.length + t.length < _
   have a1 : h.length ≤ L.length := h1.length_le
   have a2 : t.length ≤ T.length := h2.length_le
   omega
 | num n =>
  have hn := hn (.inl rfl)
  have hx : x = 49 := List.mem_singleton.mp hx
  subst hx
  have hf2 : numB s = true := hf2
  unfold numB at hf2
  simp only [Bool.and_eq_true, Bool.or_eq_true, decide_eq_true_eq, Bool.not_eq_true', decide_eq_false_iff_not] at hf2
  refine fin _ (show numB _ = true from ?_)
  unfold numB
  simp only [Bool.and_eq_true, Bool.or_eq_true, decide_eq_true_eq, Bool.not_eq_true', decide_eq_false_iff_not]
  refine ⟨⟨⟨by omega, by omega⟩, hmem _ hf2.1.2 (by decide)⟩, .inr ?_⟩
  cases L with
  | nil => simp
  | cons y L =>
   obtain ⟨u, rfl⟩ := hL
   rcases hf2.2 with z | z
   ·have := congrArg List.length z
    simp only [List.length_cons, List.length_append, List.length_nil] at this hn
    omega
   ·simpa using z
 | word n =>
  have hn := hn (.inr rfl)
  have hx : x = 97 := List.mem_singleton.mp hx
  subst hx
  have hf2 : wordB s = true := hf2
  unfold wordB at hf2
  simp only [Bool.and_eq_true, decide_eq_true_eq] at hf2
  refine fin _ (show wordB _ = true from ?_)
  unfold wordB
  simp only [decide_eq_true_eq, Bool.and_eq_true]
  exact ⟨⟨by omega, by omega⟩, hmem _ hf2.2 (by decide)⟩
 | gap n => exact fin _ rfl
 | rest n => exact fin _ rfl
theorem hqs {c : Pc} {s : List Nat} (hf : fitsM c s = true) : c.head <+: s ∧ c.tail <:+ s := by
 have hf2 := (Bool.and_eq_true_iff.mp hf).2
 cases c with
 | part h n t => have := cqB.mp hf2; exact ⟨this.1, this.2.1⟩
 | _ => exact ⟨List.nil_prefix, List.nil_suffix⟩
theorem PcOk.ends {c : Pc} (o : PcOk c) : c.head.length ≤ 100 ∧ c.tail.length ≤ 100 := by
 cases c with
 | part h n t => exact ⟨o.1, o.2.1⟩
 | _ => exact ⟨Nat.zero_le _, Nat.zero_le _⟩
theorem jq8 {c d : Pc} {s : List Nat} (hc : c.isNum = true ∨ c.isWord = true) (h1 : fitsM c s = true) (h2 : fitsM d s = true) : (longM c.head d.head).length + (longM c.tail d.tail).length < s.length ∧ (longM d.head c.head).length + (longM d.tail c.tail).length < s.length := by
 have e1 : ∀ a : List Nat, (longM [] a).length = a.length := fun a => by cases a <;> rfl
 have e2 : ∀ a : List Nat, (longM a []).length = a.length := fun a => by cases a <;> rfl
 have main : 0 < s.length → c.head = [] → c.tail = [] → (longM c.head d.head).length + (longM c.tail d.tail).length < s.length ∧ (longM d.head c.head).length + (longM d.tail c.tail).length < s.length := fun h0 a b => by
  rw [a, b, e1, e1, e2, e2]
  have : d.head.length + d.tail.length < s.length := by
   cases d with
   | part h n t => exact (cqB.mp (Bool.and_eq_true_iff.mp h2).2).2.2
   | _ => exact h0
  exact ⟨this, this⟩
 cases c with
 | num n =>
  have hf : numB s = true := (Bool.and_eq_true_iff.mp h1).2
  unfold numB at hf
  simp only [Bool.and_eq_true, decide_eq_true_eq] at hf
  exact main hf.1.1.1 rfl rfl
 | word n =>
  have hf : wordB s = true := (Bool.and_eq_true_iff.mp h1).2
  unfold wordB at hf
  simp only [Bool.and_eq_true, decide_eq_true_eq] at hf
  exact main hf.1.1 rfl rfl
 | _ => rcases hc with z | z <;> cases z
theorem kqZ {c d : Pc} {s : List Nat} (h1 : fitsM c s = true) (h2 : fitsM d s = true) : ∃ x, x ∈ midM c ∧ x ∈ midM d ∧ x ∈ trS := by
 have no : ∀ {a b : List Nat}, fitsM (.num a) s = true → fitsM (.word b) s = true → False := fun {a b} h1 h2 => by
  have hf : numB s = true := (Bool.and_eq_true_iff.mp h1).2
  have hg : wordB s = true := (Bool.and_eq_true_iff.mp h2).2
  unfold numB at hf
  unfold wordB at hg
  simp only [Bool.and_eq_true, decide_eq_true_eq, List.all_eq_true] at hf hg
  cases s with
  | nil => exact absurd hf.1.1.1 (by decide)
  | cons y s =>
   have a := hf.1.2 y (List.mem_cons_self ..)
   have b := hg.2 y (List.mem_cons_self ..)
   unfold isFig at a
   unfold isSma at b
   simp only [Bool.and_eq_true, decide_eq_true_eq] at a b
   omega
 cases c with
 | num n => cases d with
  | word m => exact (no h1 h2).elim
  | _ => exact ⟨49, by simp [midM, trS], by simp [midM, trS], by decide⟩
 | word n => cases d with
  | num m => exact (no h2 h1).elim
  | _ => exact ⟨97, by simp [midM, trS], by simp [midM, trS], by decide⟩
 | _ => cases d with
  | num n => exact ⟨49, by simp [midM, trS], by simp [midM, trS], by decide⟩
  | _ => exact ⟨97, by simp [midM, trS], by simp [midM, trS], by decide⟩
theorem jqT {c d : Pc} {s : List Nat} (oc : PcOk c) (od : PcOk d) (h1 : fitsM c s = true) (h2 : fitsM d s = true) : stepBoth c d ≠ none := fun hn => by
 have all := List.find?_eq_none.mp hn
 have one : ∀ z ∈ bothT c d, fitsM c z = true → fitsM d z = true → False := fun z hz a b => all z hz (by rw [a, b]; rfl)
 have stp : ∀ {c : Pc}, c.isStep = true → fitsM c s = true → s ∈ fitT c := fun {c} hc hf => by
  cases c with
  | step w =>
   have e : s = w := of_decide_eq_true (Bool.and_eq_true_iff.mp hf).2
   exact List.mem_filter.mpr ⟨List.mem_singleton.mpr e, hf⟩
  | _ => cases hc
 by_cases hs : c.isStep = true ∨ d.isStep = true
 ·refine one s ?_ h1 h2
  unfold bothT
  rw [if_pos hs]
  rcases hs with z | z
  ·exact List.mem_append_left _ (stp z h1)
  ·exact List.mem_append_right _ (stp z h2)
 ·have hcs : c.isStep = false := by cases e : c.isStep <;> simp_all
  have hds : d.isStep = false := by cases e : d.isStep <;> simp_all
  obtain ⟨x, x1, x2, x3⟩ := kqZ h1 h2
  obtain ⟨a1, a2⟩ := hqs h1
  obtain ⟨b1, b2⟩ := hqs h2
  obtain ⟨p1, p2, p3⟩ := iq8 a1 b1
  obtain ⟨q1, q2, q3⟩ := jqI a2 b2
  have l4 : (longM c.head d.head).length ≤ 100 := by rcases cqj c.head d.head with e | e <;> rw [e]; exact oc.ends.1; exact od.ends.1
  have t4 : (longM c.tail d.tail).length ≤ 100 := by rcases cqj c.tail d.tail with e | e <;> rw [e]; exact oc.ends.2; exact od.ends.2
  refine one (longM c.head d.head ++ [x] ++ longM c.tail d.tail) ?_ (fq2 hcs h1 p2 q2 p1 q1 (fun z => (jq8 z h1 h2).1) x x1) (fq2 hds h2 p3 q3 p1 q1 (fun z => (jq8 z h2 h1).2) x x2)
  unfold bothT
  rw [if_neg hs]
  exact jqe x3
theorem lqQ {c d : Pc} {s : List Nat} (oc : PcOk c) (od : PcOk d) (h : stepBoth c d = some s) : fitsM c s = true ∧ fitsM d s = true ∧ s ≠ [] ∧ s.length ≤ 300 ∧ ∀ x ∈ s, isSg x = true := by
 have hf := List.find?_some h
 have hm := List.mem_of_find?_eq_some h
 rw [Bool.and_eq_true] at hf
 refine ⟨hf.1, hf.2, ?_⟩
 unfold bothT at hm
 split at hm
 ·rcases List.mem_append.mp hm with y | y
  ·exact (jqV oc y).2
  ·exact (jqV od y).2
 ·obtain ⟨y0, hx, rfl⟩ := List.mem_map.mp hm
  have l4 : (longM c.head d.head).length ≤ 100 := by rcases cqj c.head d.head with e | e <;> rw [e]; exact oc.ends.1; exact od.ends.1
  have t4 : (longM c.tail d.tail).length ≤ 100 := by rcases cqj c.tail d.tail with e | e <;> rw [e]; exact oc.ends.2; exact od.ends.2
  have sg : ∀ {c : Pc}, PcOk c → (∀ x ∈ c.head, isSg x = true) ∧ ∀ x ∈ c.tail, isSg x = true := fun {c} o => by
   cases c with
   | part h n t => exact ⟨o.2.2.1, o.2.2.2.1⟩
   | _ => exact ⟨fun x hx => absurd hx List.not_mem_nil, fun x hx => absurd hx List.not_mem_nil⟩
  refine ⟨by simp, by simp only [List.length_append, List.length_singleton]; omega, fun y hy => ?_⟩
  have all : ∀ z ∈ trS, isSg z = true := by decide
  simp only [List.mem_append, List.mem_singleton] at hy
  rcases hy with (hy | rfl) | hy
  ·rcases cqj c.head d.head with e | e <;> rw [e] at hy
   ·exact (sg oc).1 y hy
   ·exact (sg od).1 y hy
  ·exact all y hx
  ·rcases cqj c.tail d.tail with e | e <;> rw [e] at hy
   ·exact (sg oc).2 y hy
   ·exact (sg od).2 y hy
theorem bqA (cs : List Pc) : spreadM cs cs.length = some cs := by
 unfold spreadM
 by_cases h : hasRest cs = true ∧ cs.length ≤ cs.length
 ·rw [if_pos h, Nat.sub_self]; simp
 ·rw [if_neg h, if_pos rfl]
end Wm
namespace HT
open PySem PyProof.Rows
section
open PySem.SeqAt
open PySem.AutoSeq1 (wpAny_loadPart')
open PySem.MeetsSeq PySem.MeetsSeq2 PySem.MeetsSeq3
end
section
variable {prog : Program} {w : World} {A : Around} {E : Value → Shared → Prop} {s : Shared}
end
end HT
namespace L2
open PySem PySem.Spec PyProof.Rows PyProof.V
section
variable {X : Cx} {o i : Expr} {x : Str} {np pos : Pos} {td ty : TE}
def tTab (p : Addr) (D : List (PyData × PyData)) (td ty : TE) : TE := fun σ H Q => td σ H fun x H1 => ty σ H1 fun y H2 => x = .ref p ∧ ∃ (k : Str) (n : Int), y = .str k ∧ lookup (.str k) D = some (.int n) ∧ Q (.int n) H2
theorem mq3 {p : Addr} {D : List (PyData × PyData)} {σ : St} {H : Hp} {Q : VK} : (tTab p D td ty σ H Q) = (td σ H fun x H1 => ty σ H1 fun y H2 => x = .ref p ∧ ∃ (k : Str) (n : Int), y = .str k ∧ lookup (.str k) D = some (.int n) ∧ Q (.int n) H2) := rfl
end
end L2
namespace Wm
open PySem L2
theorem kqs {w s : List Nat} (h : fitsM (.step w) s = true) : s = w := of_decide_eq_true (Bool.and_eq_true_iff.mp h).2
theorem iqw {a n b s : List Nat} (h : fitsM (.part a n b) s = true) : partB a b s = true := (Bool.and_eq_true_iff.mp h).2
def wpM (h t : List Nat) : Pc → Bool
 | .part h' _ t' => (decide (h.take h'.length = h') || decide (h'.take h.length = h)) && (decide (t.drop (t.length - t'.length) = t') || decide (t'.drop (t'.length - t.length) = t))
 | .num _ => (h ++ t).all isFig && (!decide (h.head? = some 48) && decide ((h ++ t).length < 60))
 | .word _ => (h ++ t).all isSma && decide ((h ++ t).length < 60)
 | _ => true
def mayM : Pc → Pc → Bool
 | .step w, d => fitsM d w
 | c, .step w => fitsM c w
 | .part h _ t, d => wpM h t d
 | c, .part h _ t => wpM h t c
 | .num _, .word _ => false
 | .word _, .num _ => false
 | _, _ => true
theorem iqk {a s : List Nat} (h : a <+: s) : s.take a.length = a := by obtain ⟨t, rfl⟩ := h; simp
theorem iqe {a s : List Nat} (h : s.take a.length = a) : a <+: s := ⟨s.drop a.length, by
 conv => lhs; arg 1; rw [← h]
 exact List.take_append_drop _ _⟩
theorem iql {a s : List Nat} (h : a <:+ s) : s.drop (s.length - a.length) = a := by obtain ⟨t, rfl⟩ := h; simp
theorem iqq {a s : List Nat} (h : s.drop (s.length - a.length) = a) : a <:+ s := ⟨s.take (s.length - a.length), by
 conv => lhs; arg 2; rw [← h]
 exact List.take_append_drop _ _⟩
theorem mqr {a b s : List Nat} (ha : a <+: s) (hb : b <+: s) : a <+: b ∨ b <+: a := by
 rcases Nat.le_total a.length b.length with h | h
 ·exact .inl (List.prefix_of_prefix_length_le ha hb h)
 ·exact .inr (List.prefix_of_prefix_length_le hb ha h)
theorem mqc {a b s : List Nat} (ha : a <:+ s) (hb : b <:+ s) : a <:+ b ∨ b <:+ a := by
 rcases Nat.le_total a.length b.length with h | h
 ·exact .inl (List.suffix_of_suffix_length_le ha hb h)
 ·exact .inr (List.suffix_of_suffix_length_le hb ha h)
theorem gqF {h t s : List Nat} (h1 : h <+: s) (h2 : t <:+ s) (h3 : h.length + t.length < s.length) : partB h t s = true := cqB.mpr ⟨h1, h2, h3⟩
theorem lqw {a b c : List Nat} (h : a <+: b) : a <+: b ++ c := h.trans (List.prefix_append _ _)
def Both (c d : Pc) : Prop := ∃ s, fitsM c s = true ∧ fitsM d s = true
theorem Both.symm {c d : Pc} : Both c d → Both d c := fun ⟨s, a, b⟩ => ⟨s, b, a⟩
theorem bqZ {h n t : List Nat} {x : Nat} (hx : x ∈ trS) : fitsM (.part h n t) (h ++ [x] ++ t) = true := by
 show (!isDot (h ++ [x] ++ t) && partB h t (h ++ [x] ++ t)) = true
 rw [bqK hx, gqF (lqw (List.prefix_append _ _)) (List.suffix_append _ _) (by simp)]
 rfl
theorem nq4 {h n t : List Nat} {d : Pc} (od : PcOk d) (o : PcOk (.part h n t)) (hs : d.isStep = false) (hw : wpM h t d = true) : Both (.part h n t) d := by
 cases d with
 | step w => cases hs
 | part h' n' t' =>
  simp only [wpM, Bool.and_eq_true, Bool.or_eq_true, decide_eq_true_eq] at hw
  obtain ⟨a, b⟩ := hw
  have hH : ∃ H, (h <+: H ∧ h' <+: H) ∧ (H = h ∨ H = h') := by
   rcases a with a | a
   ·exact ⟨h, ⟨List.prefix_refl _, iqe a⟩, .inl rfl⟩
   ·exact ⟨h', ⟨iqe a, List.prefix_refl _⟩, .inr rfl⟩
  have hT : ∃ T, (t <:+ T ∧ t' <:+ T) ∧ (T = t ∨ T = t') := by
   rcases b with b | b
   ·exact ⟨t, ⟨List.suffix_refl _, iqq b⟩, .inl rfl⟩
   ·exact ⟨t', ⟨iqq b, List.suffix_refl _⟩, .inr rfl⟩
  obtain ⟨H, ⟨h1, h2⟩, _⟩ := hH
  obtain ⟨T, ⟨t1, t2⟩, _⟩ := hT
  have l1 := h1.length_le
  have l2 := h2.length_le
  have l3 := t1.length_le
  have l4 := t2.length_le
  refine ⟨H ++ [97] ++ T, ?_, ?_⟩
  ·show (!isDot (H ++ [97] ++ T) && partB h t (H ++ [97] ++ T)) = true
   rw [bqK (by decide), gqF ((h1.trans (List.prefix_append _ _)).trans (List.prefix_append _ _)) (t1.trans (List.suffix_append _ _)) (by simp; omega)]
   rfl
  ·show (!isDot (H ++ [97] ++ T) && partB h' t' (H ++ [97] ++ T)) = true
   rw [bqK (by decide), gqF ((h2.trans (List.prefix_append _ _)).trans (List.prefix_append _ _)) (t2.trans (List.suffix_append _ _)) (by simp; omega)]
   rfl
 | num m =>
  simp only [wpM, Bool.and_eq_true, decide_eq_true_eq, Bool.not_eq_true', decide_eq_false_iff_not, List.all_append, List.length_append] at hw
  obtain ⟨⟨a1, a2⟩, b, c⟩ := hw
  refine ⟨h ++ [49] ++ t, bqZ (by decide), ?_⟩
  show (!isDot (h ++ [49] ++ t) && numB (h ++ [49] ++ t)) = true
  have hall : (h ++ [49] ++ t).all isFig = true := by
   rw [List.all_append, List.all_append, a1, a2]; rfl
  have hh : (h ++ [49] ++ t).head? ≠ some 48 := by
   cases h with
   | nil => simp
   | cons x r => simpa using b
  have g1 : 1 ≤ (h ++ [49] ++ t).length := by simp only [List.length_append, List.length_singleton]; omega
  have g2 : (h ++ [49] ++ t).length ≤ 60 := by simp only [List.length_append, List.length_singleton]; omega
  rw [bqK (by decide)]
  unfold numB
  rw [hall, decide_eq_false hh, decide_eq_true g1, decide_eq_true g2]
  simp
 | word m =>
  simp only [wpM, Bool.and_eq_true, decide_eq_true_eq, List.all_append, List.length_append] at hw
  obtain ⟨⟨a1, a2⟩, c⟩ := hw
  refine ⟨h ++ [97] ++ t, bqZ (by decide), ?_⟩
  show (!isDot (h ++ [97] ++ t) && wordB (h ++ [97] ++ t)) = true
  have hall : (h ++ [97] ++ t).all isSma = true := by
   rw [List.all_append, List.all_append, a1, a2]; rfl
  have g1 : 1 ≤ (h ++ [97] ++ t).length := by simp only [List.length_append, List.length_singleton]; omega
  have g2 : (h ++ [97] ++ t).length ≤ 60 := by simp only [List.length_append, List.length_singleton]; omega
  rw [bqK (by decide)]
  unfold wordB
  rw [hall, decide_eq_true g1, decide_eq_true g2]
  rfl
 | gap m => exact ⟨_, bqZ (x := 97) (by decide), by show (!isDot (h ++ [97] ++ t) && true) = true; rw [bqK (by decide)]; rfl⟩
 | rest m => exact ⟨_, bqZ (x := 97) (by decide), by show (!isDot (h ++ [97] ++ t) && true) = true; rw [bqK (by decide)]; rfl⟩
theorem nq7 {h n t : List Nat} {d : Pc} (o : PcOk (.part h n t)) (hb : Both (.part h n t) d) : wpM h t d = true := by
 obtain ⟨s, h1, h2⟩ := hb
 obtain ⟨p1, p2, p3⟩ := cqB.mp (iqw h1)
 have sub : ∀ x ∈ h ++ t, x ∈ s := fun x hx => by
  rcases List.mem_append.mp hx with y | y
  ·exact p1.subset y
  ·exact p2.subset y
 have hn : h ++ t ≠ [] := o.2.2.2.2
 cases d with
 | step w => rfl
 | part h' n' t' =>
  obtain ⟨q1, q2, q3⟩ := cqB.mp (iqw h2)
  simp only [wpM, Bool.and_eq_true, Bool.or_eq_true, decide_eq_true_eq]
  refine ⟨?_, ?_⟩
  ·rcases mqr p1 q1 with z | z
   ·exact .inr (iqk z)
   ·exact .inl (iqk z)
  ·rcases mqc p2 q2 with z | z
   ·exact .inr (iql z)
   ·exact .inl (iql z)
 | num m =>
  have hb : numB s = true := (Bool.and_eq_true_iff.mp h2).2
  unfold numB at hb
  simp only [Bool.and_eq_true, decide_eq_true_eq, Bool.or_eq_true, Bool.not_eq_true', decide_eq_false_iff_not] at hb
  obtain ⟨⟨⟨b1, b2⟩, b3⟩, b4⟩ := hb
  simp only [wpM, Bool.and_eq_true, decide_eq_true_eq, Bool.not_eq_true', decide_eq_false_iff_not]
  refine ⟨List.all_eq_true.mpr fun x hx => List.all_eq_true.mp b3 x (sub x hx), fun z => ?_, by rw [List.length_append]; omega⟩
  cases h with
  | nil => cases z
  | cons x r =>
   cases z
   obtain ⟨u, rfl⟩ := p1
   rcases b4 with b4 | b4
   ·rw [b4] at p3; simp at p3
   ·exact b4 rfl
 | word m =>
  have hb : wordB s = true := (Bool.and_eq_true_iff.mp h2).2
  unfold wordB at hb
  simp only [Bool.and_eq_true, decide_eq_true_eq] at hb
  obtain ⟨⟨b1, b2⟩, b3⟩ := hb
  simp only [wpM, Bool.and_eq_true, decide_eq_true_eq]
  exact ⟨List.all_eq_true.mpr fun x hx => List.all_eq_true.mp b3 x (sub x hx), by rw [List.length_append]; omega⟩
 | gap m => rfl
 | rest m => rfl
theorem iqh {m n s : List Nat} (h1 : fitsM (.num m) s = true) (h2 : fitsM (.word n) s = true) : False := by
 have a : numB s = true := (Bool.and_eq_true_iff.mp h1).2
 have b : wordB s = true := (Bool.and_eq_true_iff.mp h2).2
 unfold numB at a
 unfold wordB at b
 simp only [Bool.and_eq_true, decide_eq_true_eq] at a b
 cases s with
 | nil => simp at b
 | cons x r =>
  have e1 := List.all_eq_true.mp a.1.2 x (List.mem_cons_self ..)
  have e2 := List.all_eq_true.mp b.2 x (List.mem_cons_self ..)
  unfold isFig at e1
  unfold isSma at e2
  rw [decide_eq_true_eq] at e1 e2
  omega
theorem jqy {c d : Pc} (oc : PcOk c) (od : PcOk d) : mayM c d = true ↔ Both c d := by
 have st : ∀ {w : List Nat} {d : Pc}, PcOk (.step w) → (fitsM d w = true ↔ Both (.step w) d) := fun {w d} o =>
  ⟨fun h => ⟨w, by show (!isDot w && decide (w = w)) = true; rw [o.2.2.2, decide_eq_true rfl]; rfl, h⟩, fun ⟨s, a, b⟩ => by rw [← kqs a]; exact b⟩
 have sy : ∀ {c d : Pc}, Both c d ↔ Both d c := ⟨Both.symm, Both.symm⟩
 have wp : ∀ {h n t : List Nat} {d : Pc}, PcOk (.part h n t) → PcOk d → d.isStep = false → (wpM h t d = true ↔ Both (.part h n t) d) := fun o od hs => ⟨fun h => nq4 od o hs h, fun h => nq7 o h⟩
 cases c with
 | step w => exact st oc
 | part h n t =>
  cases d with
  | step w => exact (st (d := .part h n t) od).trans sy
  | _ => exact wp oc od rfl
 | num n =>
  cases d with
  | step w => exact (st (d := .num n) od).trans sy
  | part h m t => exact (wp od oc rfl).trans sy
  | num m => exact ⟨fun _ => ⟨[48], rfl, rfl⟩, fun _ => rfl⟩
  | word m => exact ⟨fun h => (by cases h), fun ⟨s, a, b⟩ => (iqh a b).elim⟩
  | gap m => exact ⟨fun _ => ⟨[48], rfl, rfl⟩, fun _ => rfl⟩
  | rest m => exact ⟨fun _ => ⟨[48], rfl, rfl⟩, fun _ => rfl⟩
 | word n =>
  cases d with
  | step w => exact (st (d := .word n) od).trans sy
  | part h m t => exact (wp od oc rfl).trans sy
  | num m => exact ⟨fun h => (by cases h), fun ⟨s, a, b⟩ => (iqh b a).elim⟩
  | word m => exact ⟨fun _ => ⟨[97], rfl, rfl⟩, fun _ => rfl⟩
  | gap m => exact ⟨fun _ => ⟨[97], rfl, rfl⟩, fun _ => rfl⟩
  | rest m => exact ⟨fun _ => ⟨[97], rfl, rfl⟩, fun _ => rfl⟩
 | gap n =>
  cases d with
  | step w => exact (st (d := .gap n) od).trans sy
  | part h m t => exact (wp od oc rfl).trans sy
  | num m => exact ⟨fun _ => ⟨[48], rfl, rfl⟩, fun _ => rfl⟩
  | word m => exact ⟨fun _ => ⟨[97], rfl, rfl⟩, fun _ => rfl⟩
  | gap m => exact ⟨fun _ => ⟨[97], rfl, rfl⟩, fun _ => rfl⟩
  | rest m => exact ⟨fun _ => ⟨[97], rfl, rfl⟩, fun _ => rfl⟩
 | rest n =>
  cases d with
  | step w => exact (st (d := .rest n) od).trans sy
  | part h m t => exact (wp od oc rfl).trans sy
  | num m => exact ⟨fun _ => ⟨[48], rfl, rfl⟩, fun _ => rfl⟩
  | word m => exact ⟨fun _ => ⟨[97], rfl, rfl⟩, fun _ => rfl⟩
  | gap m => exact ⟨fun _ => ⟨[97], rfl, rfl⟩, fun _ => rfl⟩
  | rest m => exact ⟨fun _ => ⟨[97], rfl, rfl⟩, fun _ => rfl⟩
theorem kqU {c d : Pc} (oc : PcOk c) (od : PcOk d) : (stepBoth c d).isSome = mayM c d := by
 cases h : stepBoth c d with
 | none =>
  cases hm : mayM c d with
  | false => rfl
  | true =>
   obtain ⟨s, a, b⟩ := (jqy oc od).mp hm
   exact absurd h (jqT oc od a b)
 | some s =>
  have := lqQ oc od h
  rw [(jqy oc od).mpr ⟨s, this.1, this.2.1⟩]
  rfl
theorem fqI : ∀ L : List (Option (List Nat)), (L.mapM id).isSome = L.all Option.isSome
 | [] => rfl
 | none :: L => by simp
 | some x :: L => by
  have ih := fqI L
  rw [List.mapM_cons]
  cases h : L.mapM id with
  | none => rw [h] at ih; simp at ih; simp [ih]
  | some w => rw [h] at ih; simp at ih; simp; exact ih
def padM (cs : List Pc) (n : Nat) : List Pc := (spreadM cs n).getD cs
def dueM (cs : List Pc) (e : Bool) (ds : List Pc) (e' : Bool) : Bool :=
 decide (e = e') && (decide ((padM cs ds.length).length = (padM ds (padM cs ds.length).length).length) && (List.zipWith mayM (padM cs ds.length) (padM ds (padM cs ds.length).length)).all id)
theorem mqo : ∀ {ms ts : List Pc}, (∀ c ∈ ms, PcOk c) → (∀ c ∈ ts, PcOk c) → ((List.zipWith stepBoth ms ts).mapM id).isSome = (List.zipWith mayM ms ts).all id := fun {ms ts} om ot => by
 rw [fqI]
 induction ms generalizing ts with
 | nil => simp
 | cons c ms ih =>
  cases ts with
  | nil => simp
  | cons d ts =>
   rw [List.zipWith_cons_cons, List.zipWith_cons_cons, List.all_cons, List.all_cons, ih (fun c hc => om c (List.mem_cons_of_mem _ hc)) (fun c hc => ot c (List.mem_cons_of_mem _ hc)), kqU (om c (List.mem_cons_self ..)) (ot d (List.mem_cons_self ..))]
   rfl
theorem dq7 {ds : List Pc} {n : Nat} (h : n < ds.length) : spreadM ds n = none := by
 cases hs : spreadM ds n with
 | none => rfl
 | some ts => rcases jq2 hs with z | z <;> omega
theorem kqb {cs ds : List Pc} {e e' : Bool} (oc : ∀ c ∈ cs, PcOk c) (od : ∀ c ∈ ds, PcOk c) : (meetM cs e ds e').isSome = dueM cs e ds e' := by
 unfold meetM dueM
 by_cases he : e = e'
 rotate_left
 ·rw [if_pos he, decide_eq_false he]; rfl
 rw [if_neg (fun z => z he), decide_eq_true he, Bool.true_and]
 have fin : ∀ {ms ts : List Pc}, spreadM cs (max cs.length ds.length) = some ms → spreadM ds (max cs.length ds.length) = some ts → padM cs ds.length = ms → padM ds ms.length = ts → (match spreadM cs (max cs.length ds.length), spreadM ds (max cs.length ds.length) with | some ms, some ts => (List.zipWith stepBoth ms ts).mapM id | _, _ => none).isSome = (decide ((padM cs ds.length).length = (padM ds (padM cs ds.length).length).length) && (List.zipWith mayM (padM cs ds.length) (padM ds (padM cs ds.length).length)).all id) := fun {ms ts} h1 h2 h3 h4 => by
  rw [h1, h2, h3, h4]
  have l1 := (bqj h1).1
  have l2 := (bqj h2).1
  rw [decide_eq_true (show ms.length = ts.length by omega), Bool.true_and]
  exact mqo (eqa oc h1) (eqa od h2)
 rcases Nat.lt_trichotomy cs.length ds.length with h | h | h
 ·have hN : max cs.length ds.length = ds.length := by omega
  have hd := bqA ds
  cases hm : spreadM cs ds.length with
  | some ms =>
   have lm := (bqj hm).1
   exact fin (by rw [hN]; exact hm) (by rw [hN]; exact hd) (by unfold padM; rw [hm]; rfl) (by unfold padM; rw [lm, hd]; rfl)
  | none =>
   have p1 : padM cs ds.length = cs := by unfold padM; rw [hm]; rfl
   have p2 : padM ds cs.length = ds := by unfold padM; rw [dq7 h]; rfl
   rw [hN, hm, p1, p2, decide_eq_false (show ¬ cs.length = ds.length by omega)]
   rfl
 ·have hN : max cs.length ds.length = cs.length := by omega
  have p1 : spreadM cs ds.length = some cs := by rw [← h]; exact bqA cs
  have p2 : spreadM ds cs.length = some ds := by rw [h]; exact bqA ds
  exact fin (ms := cs) (ts := ds) (by rw [hN]; exact bqA cs) (by rw [hN]; exact p2) (by unfold padM; rw [p1]; rfl) (by unfold padM; rw [p2]; rfl)
 ·have hN : max cs.length ds.length = cs.length := by omega
  have p1 : padM cs ds.length = cs := by unfold padM; rw [dq7 h]; rfl
  cases ht : spreadM ds cs.length with
  | some ts => exact fin (by rw [hN]; exact bqA cs) (by rw [hN]; exact ht) p1 (by unfold padM; rw [ht]; rfl)
  | none =>
   have p2 : padM ds cs.length = ds := by unfold padM; rw [ht]; rfl
   rw [hN, bqA, ht, p1, p2, decide_eq_false (show ¬ cs.length = ds.length by omega)]
   rfl
theorem lqf (c : Pc) : LayAt 0 (.str c.kw) := by
 cases c with
 | step w => exact ⟨(by show PyData.canLay0 (.str (Str.ofString "step")) = true; decide +kernel), Nat.le_refl _⟩
 | part a n b => exact ⟨(by show PyData.canLay0 (.str (Str.ofString "part")) = true; decide +kernel), Nat.le_refl _⟩
 | num n => exact ⟨(by show PyData.canLay0 (.str (Str.ofString "number")) = true; decide +kernel), Nat.le_refl _⟩
 | word n => exact ⟨(by show PyData.canLay0 (.str (Str.ofString "word")) = true; decide +kernel), Nat.le_refl _⟩
 | gap n => exact ⟨(by show PyData.canLay0 (.str (Str.ofString "gap")) = true; decide +kernel), Nat.le_refl _⟩
 | rest n => exact ⟨(by show PyData.canLay0 (.str (Str.ofString "rest")) = true; decide +kernel), Nat.le_refl _⟩
theorem gqa {ss : List Str} {c d : Pc} (h : ∀ s ∈ ss, s = c.kw ∨ s = d.kw) : SeqAt.shaped (.list (ss.map PyData.str)) = true := by
 refine LayAt.shaped (n := 1) (layL (n := 0) fun e he => ?_) (by decide)
 obtain ⟨s, hs, rfl⟩ := List.mem_map.mp he
 rcases h s hs with rfl | rfl
 ·exact lqf c
 ·exact lqf d
theorem kqw (a b : List Str) : PyData.eqv (.list (a.map PyData.str)) (.list (b.map PyData.str)) = decide (a = b) := by
 rw [Bool.eq_iff_iff, decide_eq_true_eq, PyData.eqv]
 exact gqb (fun x y => by simp [PyData.eqv]) _ _
theorem iqu {a b : Str} {ss : List Str} (h : ss.Perm [a, b]) (hne : a ≠ b) : ss = [a, b] ∨ ss = [b, a] := by
 have hl := h.length_eq
 match ss, hl with
 | [x, y], _ =>
  have hx : x ∈ [a, b] := h.mem_iff.mp (by simp)
  have ha : a ∈ [x, y] := h.mem_iff.mpr (by simp)
  have hb : b ∈ [x, y] := h.mem_iff.mpr (by simp)
  simp only [List.mem_cons, List.not_mem_nil, or_false] at hx ha hb
  rcases hx with rfl | rfl
  ·rcases hb with rfl | rfl
   ·exact absurd rfl hne
   ·exact .inl rfl
  ·rcases ha with rfl | rfl
   ·exact absurd rfl hne
   ·exact .inr rfl
theorem kqC {c d : Pc} (h1 : ¬ c.isStep = true) (h2 : ¬ d.isStep = true) (h3 : ¬ c.isPart = true) (h4 : ¬ d.isPart = true) {ss : List Str} (hp : ss.Perm [c.kw, d.kw]) (hs : PyProof.Rows.sortedS ss = true) :
  decide (ss = [Str.ofString "number", Str.ofString "word"]) = !mayM c d := by
 have no : ∀ {a b : Str}, ss.Perm [a, b] → ¬ (Str.ofString "number" ∈ [a, b] ∧ Str.ofString "word" ∈ [a, b]) → decide (ss = [Str.ofString "number", Str.ofString "word"]) = false := fun {a b} hp hn => decide_eq_false fun z => hn (by
  subst z
  exact ⟨hp.mem_iff.mp (by simp), hp.mem_iff.mp (by simp)⟩)
 have yes : ∀ {a b : Str}, ss.Perm [a, b] → (a = Str.ofString "number" ∧ b = Str.ofString "word" ∨ a = Str.ofString "word" ∧ b = Str.ofString "number") → decide (ss = [Str.ofString "number", Str.ofString "word"]) = true := fun {a b} hp hn => by
  have ne : Str.ofString "number" ≠ Str.ofString "word" := by decide +kernel
  have bad : PyProof.Rows.sortedS [Str.ofString "word", Str.ofString "number"] = false := by decide +kernel
  rcases hn with ⟨rfl, rfl⟩ | ⟨rfl, rfl⟩
  ·rcases iqu hp ne with rfl | rfl
   ·exact decide_eq_true rfl
   ·rw [bad] at hs; cases hs
  ·rcases iqu hp ne.symm with rfl | rfl
   ·rw [bad] at hs; cases hs
   ·exact decide_eq_true rfl
 cases c with
 | step z => exact absurd rfl h1
 | part x y z => exact absurd rfl h3
 | num m =>
  cases d with
  | step z => exact absurd rfl h2
  | part x y z => exact absurd rfl h4
  | num m => exact no (a := Str.ofString "number") (b := Str.ofString "number") hp (by decide +kernel)
  | word m => exact yes (a := Str.ofString "number") (b := Str.ofString "word") hp (.inl ⟨rfl, rfl⟩)
  | gap m => exact no (a := Str.ofString "number") (b := Str.ofString "gap") hp (by decide +kernel)
  | rest m => exact no (a := Str.ofString "number") (b := Str.ofString "rest") hp (by decide +kernel)
 | word m =>
  cases d with
  | step z => exact absurd rfl h2
  | part x y z => exact absurd rfl h4
  | num m => exact yes (a := Str.ofString "word") (b := Str.ofString "number") hp (.inr ⟨rfl, rfl⟩)
  | word m => exact no (a := Str.ofString "word") (b := Str.ofString "word") hp (by decide +kernel)
  | gap m => exact no (a := Str.ofString "word") (b := Str.ofString "gap") hp (by decide +kernel)
  | rest m => exact no (a := Str.ofString "word") (b := Str.ofString "rest") hp (by decide +kernel)
 | gap m =>
  cases d with
  | step z => exact absurd rfl h2
  | part x y z => exact absurd rfl h4
  | num m => exact no (a := Str.ofString "gap") (b := Str.ofString "number") hp (by decide +kernel)
  | word m => exact no (a := Str.ofString "gap") (b := Str.ofString "word") hp (by decide +kernel)
  | gap m => exact no (a := Str.ofString "gap") (b := Str.ofString "gap") hp (by decide +kernel)
  | rest m => exact no (a := Str.ofString "gap") (b := Str.ofString "rest") hp (by decide +kernel)
 | rest m =>
  cases d with
  | step z => exact absurd rfl h2
  | part x y z => exact absurd rfl h4
  | num m => exact no (a := Str.ofString "rest") (b := Str.ofString "number") hp (by decide +kernel)
  | word m => exact no (a := Str.ofString "rest") (b := Str.ofString "word") hp (by decide +kernel)
  | gap m => exact no (a := Str.ofString "rest") (b := Str.ofString "gap") hp (by decide +kernel)
  | rest m => exact no (a := Str.ofString "rest") (b := Str.ofString "rest") hp (by decide +kernel)
theorem jqt {cs : List Pc} {n : Nat} {c : Pc} (h : c ∈ padM cs n) : c ∈ cs := by
 unfold padM at h
 cases hs : spreadM cs n with
 | none => rw [hs] at h; exact h
 | some ts =>
  rw [hs] at h
  obtain ⟨i, hi, rfl⟩ := List.getElem_of_mem (show c ∈ ts from h)
  have g := bqj hs
  rcases g.2 i (by have := g.1; omega) with ⟨z1, z2⟩ | ⟨z1, z2, c', z3, z4, z5⟩
  ·rw [List.getElem?_eq_getElem hi] at z2
   exact List.mem_of_getElem? z2.symm
  ·rw [List.getElem?_eq_getElem hi] at z3
   cases z3
   exact z5
theorem nqj {cs : List Pc} {n : Nat} (h : hasRest cs = false) : padM cs n = cs := by
 unfold padM
 rw [hqL (.inl h)]
 split <;> rfl
theorem jqn {cs : List Pc} {n m : Nat} (h1 : cs.length ≤ m) (h2 : n ≤ m) : (padM cs n).length ≤ m := by
 unfold padM
 cases hs : spreadM cs n with
 | none => exact h1
 | some ts => have := (bqj hs).1; show ts.length ≤ m; omega
theorem kqu {cs : List Pc} {c : Pc} {n : Nat} (hc : cs.getLast? = some c) (hr : c.isRest = true) : padM cs n = cs ++ List.replicate (n - cs.length) c := by
 unfold padM
 by_cases h : cs.length ≤ n
 ·rw [hqA hc hr h]; rfl
 ·rw [dq7 (by omega), show n - cs.length = 0 by omega]; simp
end Wm
namespace L2
open PySem PySem.Spec PyProof.Rows
section
variable {X : Cx}
def rSortS : List V → Hp → VK → Prop := fun vs H Q => ∃ (l : Addr) (ss : List Str), vs = [.ref l] ∧ H l = some (.lst (ss.map V.str)) ∧ ss.length < 64 ∧
 ∀ (p : Addr) (ss' : List Str) (H' : Hp), H p = none → ss'.Perm ss → sortedS ss' = true → Same H H' → H' p = some (.lst (ss'.map V.str)) → Q (.ref p) H'
theorem iqo : ∀ {ss : List Str} {us : List Value}, Vals (ss.map V.str) us → StrsAre us ss
 | [], _, h => by cases h; exact .nil
 | x :: ss, _, h => by
  rw [List.map_cons] at h
  cases h with
  | cons q t => obtain ⟨u, rfl⟩ := q; exact .cons x u (iqo t)
theorem gqP : ∀ {us : List Value} {ss : List Str}, StrsAre us ss → Vals (ss.map V.str) us
 | _, _, .nil => .nil
 | _, _, .cons y t h => .cons ⟨t, rfl⟩ (gqP h)
theorem iqW : CallR X (.builtin "sorted") rSortS := by
 intro pins s σ H xs us Q I r h
 obtain ⟨l, ss, rfl, hl, h64, q⟩ := h
 obtain ⟨u, rfl, rx⟩ := vals1 r
 cases rx
 obtain ⟨hz, its, n, rv, hn, e⟩ := I.lstM hl
 rw [List.length_map] at hn hz
 refine sorted_strs (vs := its) (ss := ss) ⟨_, e, rfl, n, rfl⟩ (iqo rv) (by omega) fun out ss' h1 h2 h3 => ?_
 obtain ⟨c, hc⟩ := sortedAll_at s.heap its out
 have hf : H (s.heap.objs.size + 1) = none := I.hok.fresh (Nat.le_succ _)
 have hlen : ss'.length = ss.length := h2.length_eq
 refine ⟨.ref (s.heap.objs.size + 1), _, I.laid (a := s.heap.objs.size + 1) (t' := s.toks) (o := .lst (ss'.map V.str)) (fun b o hb => sortedAll_old hb) (Nat.le_succ _) (show ObjOk X.prog X.w _ _ _ (.lst (ss'.map V.str)) from ⟨by rw [List.length_map]; omega, out.toList, c, gqP h1, hc⟩), rfl, q _ ss' _ hf h2 h3 (bqt hf) aqq⟩
theorem mqa {l : Addr} {H : Hp} {Q : VK} : rSortS [.ref l] H Q ↔ ∃ ss : List Str, H l = some (.lst (ss.map V.str)) ∧ ss.length < 64 ∧ ∀ (p : Addr) (ss' : List Str) (H' : Hp), H p = none → ss'.Perm ss → sortedS ss' = true → Same H H' → H' p = some (.lst (ss'.map V.str)) → Q (.ref p) H' :=
 ⟨fun ⟨_, ss, e, h⟩ => by cases e; exact ⟨ss, h⟩, fun ⟨ss, h⟩ => ⟨l, ss, rfl, h⟩⟩
end
end L2
namespace Wm
open PySem L2
def PtO (H : Hp) (v : V) : Prop := ∃ (cs : List Pc) (e : Bool) (p : Addr), v = .ref p ∧ PcsOk cs ∧ PtAt H cs e p
theorem PtO.mono {H H' : Hp} {v : V} (s : SameT H H') : PtO H v → PtO H' v := fun ⟨cs, e, p, h1, h2, h4⟩ => ⟨cs, e, p, h1, h2, h4.mono s⟩
def top (i : Nat) : Stmt := PySem.Challenge.pw_waymark_k71_none_where_none_fits.main.body.getD i (.Pass ⟨0, 0, 0, 0⟩)
abbrev cqJ : Stmt := top 3
abbrev dqw : Stmt := top 7
abbrev dqO : Stmt := top 11
abbrev cqL : Stmt := top 12
abbrev cqI : Stmt := top 13
abbrev bq0 : Stmt := top 14
abbrev aqV : Stmt := top 25
abbrev aqU : Stmt := top 32
abbrev bqi : Stmt := top 34
abbrev bqg : Stmt := top 35
abbrev bq3 : Stmt := top 36
abbrev aqJ : Stmt := top 42
abbrev aqI : Stmt := top 44
abbrev dqB : Stmt := top 18
abbrev bqB : Stmt := top 20
abbrev bqD : Stmt := top 21
abbrev cqD : Stmt := top 22
abbrev bqf : Stmt := top 33
abbrev bqE : Stmt := top 37
abbrev bq5 : Stmt := top 45
abbrev bqC : Stmt := top 19
abbrev bqh : Stmt := top 38
abbrev bq6 : Stmt := top 46
abbrev aqM : Stmt := top 26
abbrev aqW : Stmt := top 39
abbrev bq1 : Stmt := top 40
abbrev aqK : Stmt := top 30
abbrev aqB : Stmt := top 41
abbrev aqL : Stmt := top 29
abbrev cqE : Stmt := top 28
abbrev iqG : Stmt := top 47
abbrev dqn : V := .str (Str.ofString "abcdefghijklmnopqrstuvwxyz")
abbrev hqq : V := .str (Str.ofString "0123456789")
abbrev lqg : V := .str (Str.ofString ".")
abbrev k_UP : V := .str (Str.ofString "..")
abbrev eq5 : V := .int 0
abbrev gqs : V := .int 1
abbrev eqY : V := .int 60
abbrev fqT : V := .int 60
abbrev gqi : V := .str (Str.ofString "ab01")
set_option genInjectivity false
set_option genSizeOf false
set_option genSizeOfSpec false
structure G (K : W.Frag) (mg : Str → Option Value) where
 eql : Addr
 dqK : FuncData
 eqt : Fun K "made_of" "made_of" cqJ eql dqK
 fqj : mg "made_of" = some (.ref eql)
 fqf : Binds K dqK ["text", "signs"] []
 eq2 : Addr
 eqc : FuncData
 gqm : Fun K "is_dot" "is_dot" dqw eq2 eqc
 iqt : mg "is_dot" = some (.ref eq2)
 hq4 : Binds K eqc ["step"] []
 eq3 : Addr
 eqh : FuncData
 eqb : Fun K "is_gap" "is_gap" dqO eq3 eqh
 fqb : mg "is_gap" = some (.ref eq3)
 eq9 : Binds K eqh ["piece"] []
 eqm : Addr
 dqJ : FuncData
 cqz : Fun K "head_of" "head_of" cqL eqm dqJ
 dqp : mg "head_of" = some (.ref eqm)
 dqf : Binds K dqJ ["piece"] []
 equ : Addr
 dqP : FuncData
 cqH : Fun K "tail_of" "tail_of" cqI equ dqP
 dql : mg "tail_of" = some (.ref equ)
 dqv : Binds K dqP ["piece"] []
 dqN : Addr
 cqY : FuncData
 eqJ : Fun K "has_rest" "has_rest" bq0 dqN cqY
 fq6 : mg "has_rest" = some (.ref dqN)
 fq8 : Binds K cqY ["pattern"] []
 bqF : Addr
 bqr : FuncData
 bqI : Fun K "texts_around" "texts_around" aqV bqF bqr
 cqv : mg "texts_around" = some (.ref bqF)
 cqw : Binds K bqr ["head", "tail"] []
 bqJ : Addr
 bqk : FuncData
 aqT : Fun K "_law_cell_at" "_law_cell_at" aqU bqJ bqk
 aq5 : mg "_law_cell_at" = some (.ref bqJ)
 aq4 : Binds K bqk ["_law_script", "_law_k"] []
 cql : Addr
 bqU : FuncData
 dqr : Fun K "_law_names" "_law_names" bqi cql bqU
 eqN : mg "_law_names" = some (.ref cql)
 eqO : Binds K bqU ["_law_cell", "_law_many"] []
 cqi : Addr
 bqV : FuncData
 dqe : Fun K "_law_signs" "_law_signs" bqg cqi bqV
 eqP : mg "_law_signs" = some (.ref cqi)
 eqS : Binds K bqV ["_law_cell"] []
 dqQ : Addr
 cqN : FuncData
 cqF : Fun K "_law_run" "_law_run" bq3 dqQ cqN
 dqE : mg "_law_run" = some (.ref dqQ)
 dqC : Binds K cqN ["_law_cell", "_law_signs_here", "_law_many"] []
 bqc : Addr
 aq2 : FuncData
 bqd : Fun K "_law_fits_step" "_law_fits_step" aqJ bqc aq2
 bqN : mg "_law_fits_step" = some (.ref bqc)
 bqR : Binds K aq2 ["_law_piece_here", "_law_step"] []
 aq9 : Addr
 aq1 : FuncData
 bqb : Fun K "_law_with_part" "_law_with_part" aqI aq9 aq1
 bqQ : mg "_law_with_part" = some (.ref aq9)
 bqS : Binds K aq1 ["_law_part", "_law_other"] []
 fqa : Addr
 eqi : FuncData
 eq7 : Fun K "spread" "spread" dqB fqa eqi
 gqt : mg "spread" = some (.ref fqa)
 gqg : Binds K eqi ["pattern", "count"] []
 cqV : Addr
 cqe : FuncData
 dq1 : Fun K "fits_part" "fits_part" bqB cqV cqe
 fqy : mg "fits_part" = some (.ref cqV)
 fqk : Binds K cqe ["part", "step"] []
 cqW : Addr
 cqq : FuncData
 dq0 : Fun K "is_number" "is_number" bqD cqW cqq
 fqw : mg "is_number" = some (.ref cqW)
 fqJ : Binds K cqq ["text"] []
 eqr : Addr
 dqL : FuncData
 fqx : Fun K "is_word" "is_word" cqD eqr dqL
 gq5 : mg "is_word" = some (.ref eqr)
 gqK : Binds K dqL ["text"] []
 cqh : Addr
 bqX : FuncData
 bqM : Fun K "_law_cells" "_law_cells" bqf cqh bqX
 cqo : mg "_law_cells" = some (.ref cqh)
 cqf : Binds K bqX ["_law_script", "_law_start", "_law_many"] []
 cq2 : Addr
 cqn : FuncData
 dq2 : Fun K "_law_text" "_law_text" bqE cq2 cqn
 fqE : mg "_law_text" = some (.ref cq2)
 fqG : Binds K cqn ["_law_cell", "_law_signs_here", "_law_many"] []
 dqF : Addr
 cqR : FuncData
 eqF : Fun K "_law_may" "_law_may" bq5 dqF cqR
 fqW : mg "_law_may" = some (.ref dqF)
 fq9 : Binds K cqR ["_law_one", "_law_other"] []
 cqX : Addr
 cqs : FuncData
 cqa : Fun K "step_fits" "step_fits" bqC cqX cqs
 cqT : mg "step_fits" = some (.ref cqX)
 cqP : Binds K cqs ["piece", "step"] []
 cqm : Addr
 bqY : FuncData
 cqp : Fun K "_law_piece" "_law_piece" bqh cqm bqY
 dqq : mg "_law_piece" = some (.ref cqm)
 dqg : Binds K bqY ["_law_cell", "_law_name", "_law_signs_here"] []
 dqD : Addr
 cq4 : FuncData
 dqI : Fun K "_law_due" "_law_due" bq6 dqD cq4
 eqC : mg "_law_due" = some (.ref dqD)
 eqB : Binds K cq4 ["_law_one", "_law_other"] []
 bqm : Addr
 aq8 : FuncData
 bqu : Fun K "fitting_texts" "fitting_texts" aqM bqm aq8
 bq7 : mg "fitting_texts" = some (.ref bqm)
 cqd : Binds K aq8 ["piece"] []
 bqH : Addr
 bqo : FuncData
 bqG : Fun K "_law_pattern" "_law_pattern" aqW bqH bqo
 cqu : mg "_law_pattern" = some (.ref bqH)
 cqx : Binds K bqo ["_law_cells_here", "_law_names_here", "_law_signs_here"] []
 dqy : Addr
 cq0 : FuncData
 eqM : Fun K "_law_kin" "_law_kin" bq1 dqy cq0
 fq0 : mg "_law_kin" = some (.ref dqy)
 gqe : Binds K cq0 ["_law_piece_here", "_law_cell", "_law_name", "_law_signs_here"] []
 bqa : Addr
 aqZ : FuncData
 bqP : Fun K "texts_for_both" "texts_for_both" aqK bqa aqZ
 dqb : mg "texts_for_both" = some (.ref bqa)
 dqd : Binds K aqZ ["piece", "beside"] []
 aqX : Addr
 aqP : FuncData
 bqv : Fun K "_law_kin_pattern" "_law_kin_pattern" aqB aqX aqP
 cqr : mg "_law_kin_pattern" = some (.ref aqX)
 cqg : Binds K aqP ["_law_pattern_here", "_law_cells_here", "_law_names_here", "_law_signs_here"] []
 bqp : Addr
 aq7 : FuncData
 bq9 : Fun K "step_for_both" "step_for_both" aqL bqp aq7
 dqt : mg "step_for_both" = some (.ref bqp)
 dqj : Binds K aq7 ["piece", "beside"] []
 eqj : Addr
 dqx : FuncData
 eqg : Fun K "meeting" "meeting" cqE eqj dqx
 fqu : mg "meeting" = some (.ref eqj)
 fqF : Binds K dqx ["one", "other"] []
 kqj : Addr
 gqN : FuncData
 nqb : Fun K "law" "law" iqG kqj gqN
 nq2 : mg "law" = some (.ref kqj)
 nqZ : Binds K gqN ["_law_script"] []
 aqY : Tok
 dqh : mg "SMALL_LETTERS" = some (.str (Str.ofString "abcdefghijklmnopqrstuvwxyz") aqY)
 dqs : Tok
 hqh : mg "FIGURES" = some (.str (Str.ofString "0123456789") dqs)
 gqO : Tok
 lqi : mg "STAY" = some (.str (Str.ofString ".") gqO)
 t_UP : Tok
 c_UP : mg "UP" = some (.str (Str.ofString "..") t_UP)
 eqp : Tok
 eqe : mg "PIECES" = some (.int 0 eqp)
 eqw : Tok
 eq8 : mg "CLOSES" = some (.int 1 eqw)
 aqS : Tok
 cq7 : mg "LONGEST_NUMBER" = some (.int 60 aqS)
 aq3 : Tok
 dqV : mg "LONGEST_WORD" = some (.int 60 aq3)
 bqq : Tok
 eqq : mg "TRIED_SIGNS" = some (.str (Str.ofString "ab01") bqq)
 nqa : mg "all" = none
 aq6 : mg "len" = none
 cq6 : mg "range" = none
 lqu : mg "int" = none
 hq6 : mg "sorted" = none
 jq7 : mg "list" = none
 gqp : mg "tuple" = none
 kqR : mg "max" = none
 fqc : mg "enumerate" = none
 nqO : mg "zip" = none
def iqO : Sp := fun vs H Q _ => ∃ x y : Str, vs = [.str x, .str y] ∧ x.length ≤ 100000 ∧ ∀ H', Same H H' → Q (.bl (x.cps.toList.all fun c => decide (c ∈ y.cps.toList))) H'
def jqF : Sp := fun vs H Q _ => ∃ s : Stp, vs = [sV s] ∧ Q (.bl (isDot s)) H
def jqs (K : W.Frag) : Sp := fun vs H Q _ => ∃ (c : Pc) (p : Addr), vs = [.ref p] ∧ SqT K H p c.vals ∧ Q (.bl (!c.isStep)) H
def iq0 (K : W.Frag) : Sp := fun vs H Q _ => ∃ (c : Pc) (p : Addr), vs = [.ref p] ∧ SqT K H p c.vals ∧ Q (tV c.head) H
def iqF (K : W.Frag) : Sp := fun vs H Q _ => ∃ (c : Pc) (p : Addr), vs = [.ref p] ∧ SqT K H p c.vals ∧ Q (tV c.tail) H
def hqM (K : W.Frag) : Sp := fun vs H Q _ => ∃ (cs : List Pc) (xs : List V) (p q : Addr) (e : Bool), vs = [.ref p] ∧ SqT K H p [.ref q, .bl e] ∧ SqT K H q xs ∧ PcAll K H cs xs ∧ cs.length ≤ 1000 ∧ Q (.bl (hasRest cs)) H
def fqP (K : W.Frag) : Sp := fun vs H Q _ => ∃ h t : List Nat, vs = [tV h, tV t] ∧ h.length ≤ 40000 ∧ t.length ≤ 40000 ∧ ∀ (p : Addr) (H' : Hp), Same H H' → H' p = some (.lst ((trialsM h t).map tV)) → Q (.ref p) H'
def fqp (K : W.Frag) : Sp := fun vs H Q _ => ∃ (a : Addr) (ns : List Int) (k : Nat), vs = [.ref a, .int (k : Int)] ∧ SqL K H a (ns.map V.int) ∧ Q (.int (ns.getD k 0)) H
def gqA (K : W.Frag) : Sp := fun vs H Q _ => ∃ (c : Int) (m : Nat), vs = [.int c, .int (m : Int)] ∧ m ≤ 26 ∧ ∀ (ns : List (List Nat)) (p : Addr) (H' : Hp), ns.length = m → (∀ n ∈ ns, 0 < n.length ∧ n.length ≤ 8 ∧ n.all isSma = true) → ns.Nodup → Same H H' → H' p = some (.lst (ns.map tV)) → Q (.ref p) H'
def gqo (K : W.Frag) : Sp := fun vs H Q _ => ∃ c : Int, vs = [.int c] ∧ ∀ (l : List Nat) (H' : Hp), 0 < l.length → l.length ≤ 5 → (∀ c ∈ l, isSg c = true) → Same H H' → Q (tV l) H'
def hqY : Sp := fun vs H Q _ => ∃ (c : Int) (g : List Nat) (m : Nat), vs = [.int c, tV g, .int (m : Int)] ∧ 0 < g.length ∧ g.length ≤ 100 ∧ m ≤ 100 ∧ ∀ l : List Nat, l.length = m → (∀ x ∈ l, x ∈ g) → Q (tV l) H
def eqA (K : W.Frag) : Sp := fun vs H Q _ => ∃ (c : Pc) (p : Addr) (s : List Nat), vs = [.ref p, tV s] ∧ SqT K H p c.vals ∧ PcOk c ∧ 0 < s.length ∧ s.length ≤ 1000 ∧ (∀ c ∈ s, isSg c = true) ∧ ∀ H', Same H H' → Q (.bl (fitsM c s)) H'
def eqH (K : W.Frag) : Sp := fun vs H Q _ => ∃ (h n t : List Nat) (d : Pc) (p p' : Addr), vs = [.ref p, .ref p'] ∧ SqT K H p (Pc.part h n t).vals ∧ SqT K H p' d.vals ∧ PcOk (.part h n t) ∧ PcOk d ∧ d.isStep = false ∧ ∀ H', Same H H' → Q (.bl (wpM h t d)) H'
def jqW (K : W.Frag) : Sp := fun vs H Q _ => ∃ (cs : List Pc) (xs : List V) (p q : Addr) (e : Bool) (n : Nat), vs = [.ref p, .int (n : Int)] ∧ SqT K H p [.ref q, .bl e] ∧ H q = some (.tup xs) ∧ PcAll K H cs xs ∧ cs.length ≤ 100 ∧ n ≤ 500 ∧ (spreadM cs n = none → Q .non H) ∧ ∀ (ds : List Pc) (ys : List V) (r : Addr) (H' : Hp), spreadM cs n = some ds → Same H H' → SqT K H' r ys → PcAll K H' ds ys → Q (.ref r) H'
def hqo (K : W.Frag) : Sp := fun vs H Q _ => ∃ (h n t s : List Nat) (p : Addr), vs = [.ref p, tV s] ∧ SqT K H p (Pc.part h n t).vals ∧ s.length ≤ 100000 ∧ h.length ≤ 100000 ∧ t.length ≤ 100000 ∧ Q (.bl (partB h t s)) H
def gqQ : Sp := fun vs H Q _ => ∃ (l : List Nat), vs = [tV l] ∧ l.length ≤ 100000 ∧ ∀ H', Same H H' → Q (.bl (numB l)) H'
def iqY : Sp := fun vs H Q _ => ∃ (l : List Nat), vs = [tV l] ∧ l.length ≤ 100000 ∧ ∀ H', Same H H' → Q (.bl (wordB l)) H'
def gqv (K : W.Frag) : Sp := fun vs H Q _ => ∃ (a : Addr) (ns : List Int) (s m : Nat), vs = [.ref a, .int (s : Int), .int (m : Int)] ∧ SqL K H a (ns.map V.int) ∧ m ≤ 100 ∧ ∀ (is : List Int) (p : Addr) (H' : Hp), is.length = m → Same H H' → H' p = some (.lst (is.map V.int)) → Q (.ref p) H'
def gq9 : Sp := fun vs H Q _ => ∃ (c : Int) (g : List Nat) (m : Nat), vs = [.int c, tV g, .int (m : Int)] ∧ 0 < g.length ∧ g.length ≤ 100 ∧ 0 < m ∧ m ≤ 100 ∧ ∀ l : List Nat, 0 < l.length → l.length ≤ m + 2 → (46 ∉ g → l.length = m) → (∀ x ∈ l, x ∈ g ∨ (46 ∈ g ∧ x = 45)) → isDot l = false → Q (tV l) H
def hqS (K : W.Frag) : Sp := fun vs H Q _ => ∃ (c d : Pc) (p p' : Addr), vs = [.ref p, .ref p'] ∧ SqT K H p c.vals ∧ SqT K H p' d.vals ∧ PcOk c ∧ PcOk d ∧ ∀ H', Same H H' → Q (.bl (mayM c d)) H'
def hqt (K : W.Frag) : Sp := fun vs H Q _ => ∃ (c : Pc) (s : List Nat) (p : Addr), vs = [.ref p, tV s] ∧ SqT K H p c.vals ∧ s.length ≤ 100000 ∧ c.head.length ≤ 100000 ∧ c.tail.length ≤ 100000 ∧ ∀ H', Same H H' → Q (.bl (fitsM c s)) H'
def gqj (K : W.Frag) : Sp := fun vs H Q _ => ∃ (c : Int) (n g : List Nat), vs = [.int c, tV n, tV g] ∧ 0 < g.length ∧ g.length ≤ 100 ∧ (∀ x ∈ g, isSg x = true) ∧ ∀ (pc : Pc) (p : Addr) (H' : Hp), PcOk pc → pc.isRest = false → (pc.isStep = false → pc.name = n) → Same H H' → H' p = some (.tup pc.vals) → Q (.ref p) H'
def fqg (K : W.Frag) : Sp := fun vs H Q _ => ∃ (cs ds : List Pc) (e e' : Bool) (p p' : Addr), vs = [.ref p, .ref p'] ∧ PcsOk cs ∧ PcsOk ds ∧ PtAt H cs e p ∧ PtAt H ds e' p' ∧ ∀ H', Same H H' → Q (.bl (dueM cs e ds e')) H'
def bqO (K : W.Frag) : Sp := fun vs H Q _ => ∃ (c : Pc) (p : Addr), vs = [.ref p] ∧ SqT K H p c.vals ∧ PcTx c ∧ ∀ (q : Addr) (H' : Hp), Same H H' → H' q = some (.lst ((fitT c).map tV)) → Q (.ref q) H'
def fqM (K : W.Frag) : Sp := fun vs H Q _ => ∃ (pc pn : Addr) (g : List Nat) (ns : List (List Nat)) (is : List Int), vs = [.ref pc, .ref pn, tV g] ∧ H pc = some (.lst (is.map V.int)) ∧ 6 ≤ is.length ∧ H pn = some (.lst (ns.map tV)) ∧ ns.length = 7 ∧ ns.Nodup ∧ (∀ n ∈ ns, ∀ x ∈ n, isSg x = true) ∧ 0 < g.length ∧ g.length ≤ 100 ∧ (∀ x ∈ g, isSg x = true) ∧ ∀ (ps : List Pc) (e : Bool) (p q : Addr) (xs : List V) (H' : Hp), PatOk ps → ps.length ≤ 6 → (gapsM ps).Nodup → (∀ n ∈ gapsM ps, n ∈ ns) → (ps = [] → e = true) → Same H H' → H' q = some (.tup xs) → PcT H' ps xs → H' p = some (.tup [.ref q, .bl e]) → Q (.ref p) H'
def hqT (K : W.Frag) : Sp := fun vs H Q _ => ∃ (c : Pc) (p : Addr) (i : Int) (n g : List Nat), vs = [.ref p, .int i, tV n, tV g] ∧ H p = some (.tup c.vals) ∧ PcOk c ∧ c.isRest = false ∧ 0 < g.length ∧ g.length ≤ 100 ∧ (∀ x ∈ g, isSg x = true) ∧ ∀ (c' : Pc) (p' : Addr) (H' : Hp), PcOk c' → c'.isRest = false → (c'.isStep = false → c'.name = n) → Same H H' → H' p' = some (.tup c'.vals) → Q (.ref p') H'
def eqy (K : W.Frag) : Sp := fun vs H Q _ => ∃ (c d : Pc) (p q : Addr), vs = [.ref p, .ref q] ∧ SqT K H p c.vals ∧ SqT K H q d.vals ∧ PcTx c ∧ PcTx d ∧ ∀ (l : Addr) (H' : Hp), Same H H' → H' l = some (.lst ((bothT c d).map tV)) → Q (.ref l) H'
def dqZ (K : W.Frag) : Sp := fun vs H Q _ => ∃ (cs : List Pc) (e : Bool) (p pc pn : Addr) (g : List Nat) (ns : List (List Nat)) (is : List Int), vs = [.ref p, .ref pc, .ref pn, tV g] ∧ cs.length ≤ 6 ∧ (∀ c ∈ cs, PcOk c ∧ PcSg c) ∧ PtAt H cs e p ∧ H pc = some (.lst (is.map V.int)) ∧ is.length = 7 ∧ H pn = some (.lst (ns.map tV)) ∧ ns.length = 7 ∧ (∀ n ∈ ns, ∀ x ∈ n, isSg x = true) ∧ 0 < g.length ∧ g.length ≤ 100 ∧ (∀ x ∈ g, isSg x = true) ∧
 ∀ (ds : List Pc) (e' : Bool) (p' : Addr) (H' : Hp), ds.length ≤ 7 → (∀ c ∈ ds, PcOk c ∧ PcSg c) → Same H H' → PtAt H' ds e' p' → Q (.ref p') H'
def eq0 (K : W.Frag) : Sp := fun vs H Q _ => ∃ (c d : Pc) (p q : Addr), vs = [.ref p, .ref q] ∧ SqT K H p c.vals ∧ SqT K H q d.vals ∧ PcTx c ∧ PcTx d ∧ ∀ H', Same H H' → Q (otV (stepBoth c d)) H'
def SprV (K : W.Frag) (H : Hp) (o : Option (List Pc)) (v : V) : Prop := (o = none ∧ v = .non) ∨ ∃ (ms : List Pc) (zs : List V) (r : Addr), o = some ms ∧ v = .ref r ∧ SqT K H r zs ∧ PcAll K H ms zs
def fqX (K : W.Frag) : Sp := fun vs H Q _ => ∃ (cs ds : List Pc) (xs ys : List V) (p q p' q' : Addr) (e e' : Bool), vs = [.ref p, .ref p'] ∧ SqT K H p [.ref q, .bl e] ∧ H q = some (.tup xs) ∧ PcAll K H cs xs ∧ SqT K H p' [.ref q', .bl e'] ∧ H q' = some (.tup ys) ∧ PcAll K H ds ys ∧ cs.length ≤ 90 ∧ ds.length ≤ 90 ∧ (∀ c ∈ cs, PcOk c) ∧ (∀ c ∈ ds, PcOk c) ∧
 (meetM cs e ds e' = none → ∀ H', Same H H' → Q .non H') ∧ ∀ (w : List (List Nat)) (r t : Addr) (H' : Hp), meetM cs e ds e' = some w → Same H H' → H' r = some (.tup [.bl true, .ref t, .bl e]) → H' t = some (.tup (w.map tV)) → Q (.ref r) H'
def iqp (K : W.Frag) : Sp := fun vs H Q _ => ∃ (a : Addr) (ns : List Int), vs = [.ref a] ∧ SqL K H a (ns.map V.int) ∧ ns.length ≤ 63 ∧ ∀ H', Q (.bl true) H'
section
variable {H : Hp} {Q : VK} {E : XK} {K : W.Frag}
end
section
variable {P : Program} {w : World} {K : W.Frag} {mg : Str → Option Value} {base : Heap}
seal PE PA PT PS PSs PG PI PF PO PW
local macro_rules | `(tactic| walk_at "rd") => `(tactic| simp only [L2.start, List.map_cons, List.map_nil, List.length_cons, List.length_nil, Nat.reduceAdd, Nat.reduceSub, Nat.zero_add, List.replicate_succ, List.replicate_zero, L2.mqz, L2.rd_C, L2.nqm, L2.nqf, L2.kql, L2.mqK, L2.lqs, L2.nqQ, L2.lq9, L2.mqH, L2.nqp, L2.lqJ, L2.nq0, L2.mqh, L2.rd_B, L2.nqH, L2.oqb, L2.nqB, L2.lqB, L2.nqG, L2.lqV, L2.nq5, L2.kqD, L2.mqF, L2.lqv, L2.mq9, L2.nqE, L2.mqt, L2.mqu, L2.jq0, L2.jqd, L2.lqT, L2.lqo, L2.lqF, L2.kqe, L2.lq0, L2.nq9, L2.nq6, L2.mqT, L2.nq8, L2.jqP, L2.lqj, L2.kqF, L2.rd_I, L2.nqX, L2.lqD, L2.aqt, L2.hqB, L2.lqn, L2.gqx, L2.hqE, L2.lqy, L2.lqZ, L2.kqc, L2.mql, L2.lqA, L2.kqE, L2.mqV, L2.hqr, L2.nqs, L2.mq5, L2.mqS, L2.lq2, L2.kqS, L2.lqx, L2.kq5, L2.kqn, L2.jqp, L2.kqp, L2.kqB, L2.jqR, L2.iqK, L2.eqG, L2.eqZ, L2.eqX, L2.eqD, L2.eqk, L2.gqD, L2.gqU, L2.gq4, L2.gqz, L2.fqV, L2.gqT, L2.hqx, L2.hqX, L2.gqX, L2.gql, L2.gqR, L2.hqK, L2.hqR, L2.hql, L2.gqB, L2.gqI, L2.gqM, L2.hqa, L2.gqE, L2.fqU, L2.fqS, L2.gqq, L2.gqG, L2.fqR, L2.fqd, L2.lqS, L2.lqz, L2.kq8, L2.lq4, L2.mqs, L2.cx_K, L2.mqW, L2.jqz, L2.mqM, L2.lqd, L2.mqL, L2.mq4, L2.nqJ, L2.nqk, L2.nqv, L2.jqQ, L2.nqW, L2.nqV, L2.oqc, L2.kqK, L2.kqt, L2.lqt, L2.kqO, Option.getD_some, L2.mqC, L2.oqd, L2.rd_U, L2.nqM, L2.mqf, L2.kqX, L2.lqI, L2.jqx, L2.lqq, L2.nqT, L2.nqL, L2.lqH, L2.mqg, L2.lqO, L2.mqn, List.getElem?_cons_zero, List.getElem?_cons_succ, List.set_cons_zero, List.set_cons_succ, List.nil_append, List.cons_append, List.append_nil, Option.some.injEq, exists_eq_left, exists_eq_left', true_and, and_true, L2.V.bl.injEq, L2.V.int.injEq, L2.V.str.injEq, L2.V.ref.injEq, List.cons.injEq, reduceCtorEq, false_and, and_false, exists_false, false_or, or_false, decide_eq_true_eq, Bool.not_true, Bool.not_false, ↓reduceIte, if_true, if_false, not_true_eq_false, not_false_eq_true, decide_true, decide_false, Bool.false_eq_true, L2.kqv, L2.lqX, L2.kq0, L2.kqY, L2.mqJ, nqo, L2.nqd, L2.kqM, L2.nqY, L2.lqN, L2.kqA, L2.kqi, L2.kqL, L2.oqa, L2.iq3, L2.mqj, L2.mqU, L2.kqz, L2.nqR, L2.nqh, L2.lqk, L2.mqQ, L2.nqc, L2.nqP, L2.lqL, L2.mqd, L2.lq8, L2.lqU, L2.lqR, L2.jqu, L2.jq1, L2.kqP, L2.iqE, L2.kqa, L2.iqU, L2.iqz, L2.fqN, L2.fqe, L2.nqu, L2.nqi, L2.jqo, L2.mq3, L2.mqa, nqI, kqT, hq0, bqT, lq1, mqm, mqi, List.drop_succ_cons, List.drop_zero, L2.kqN, L2.nqx, L2.nqr, L2.mq7, Bool.not_eq_true', decide_eq_false_iff_not])
theorem iqS : FnScope ["text", "signs"] ["text", "signs"] (defScope cqJ) := ⟨rfl, rfl, rfl, by decide +kernel, rfl, by decide +kernel, by decide +kernel⟩
theorem jqk : FnScope ["step"] ["step"] (defScope dqw) := ⟨rfl, rfl, rfl, by decide +kernel, rfl, by decide +kernel, by decide +kernel⟩
theorem jqc : FnScope ["piece"] ["piece"] (defScope dqO) := ⟨rfl, rfl, rfl, by decide +kernel, rfl, by decide +kernel, by decide +kernel⟩
theorem iqB : FnScope ["piece"] ["piece"] (defScope cqL) := ⟨rfl, rfl, rfl, by decide +kernel, rfl, by decide +kernel, by decide +kernel⟩
theorem iqR : FnScope ["piece"] ["piece"] (defScope cqI) := ⟨rfl, rfl, rfl, by decide +kernel, rfl, by decide +kernel, by decide +kernel⟩
theorem fqQ : FnScope ["pattern", "pieces"] ["pattern"] (defScope bq0) := ⟨rfl, rfl, rfl, by decide +kernel, rfl, by decide +kernel, by decide +kernel⟩
theorem fqB : FnScope ["head", "tail"] ["head", "tail"] (defScope aqV) := ⟨rfl, rfl, rfl, by decide +kernel, rfl, by decide +kernel, by decide +kernel⟩
theorem fqO : FnScope ["_law_script", "_law_k"] ["_law_script", "_law_k"] (defScope aqU) := ⟨rfl, rfl, rfl, by decide +kernel, rfl, by decide +kernel, by decide +kernel⟩
theorem aqA : FnScope ["_law_cell", "_law_many", "_law_letters", "_law_size", "_law_spot", "_law_found", "_law_number", "_law_name", "_law_k", "_law_place"] ["_law_cell", "_law_many"] (defScope bqi) := ⟨rfl, rfl, rfl, by decide +kernel, rfl, by decide +kernel, by decide +kernel⟩
theorem bqw : FnScope ["_law_cell", "_law_some", "_law_found", "_law_k"] ["_law_cell"] (defScope bqg) := ⟨rfl, rfl, rfl, by decide +kernel, rfl, by decide +kernel, by decide +kernel⟩
theorem cqS : FnScope ["_law_cell", "_law_signs_here", "_law_many", "_law_found", "_law_k"] ["_law_cell", "_law_signs_here", "_law_many"] (defScope bq3) := ⟨rfl, rfl, rfl, by decide +kernel, rfl, by decide +kernel, by decide +kernel⟩
theorem eqE : FnScope ["_law_piece_here", "_law_step"] ["_law_piece_here", "_law_step"] (defScope aqJ) := ⟨rfl, rfl, rfl, by decide +kernel, rfl, by decide +kernel, by decide +kernel⟩
theorem aq0 : FnScope ["_law_part", "_law_other", "_law_both", "_law_heads", "_law_figures"] ["_law_part", "_law_other"] (defScope aqI) := ⟨rfl, rfl, rfl, by decide +kernel, rfl, by decide +kernel, by decide +kernel⟩
theorem fqL : FnScope ["pattern", "count", "pieces", "more"] ["pattern", "count"] (defScope dqB) := ⟨rfl, rfl, rfl, by decide +kernel, rfl, by decide +kernel, by decide +kernel⟩
theorem dqo : FnScope ["part", "step", "head", "tail"] ["part", "step"] (defScope bqB) := ⟨rfl, rfl, rfl, by decide +kernel, rfl, by decide +kernel, by decide +kernel⟩
theorem gq2 : FnScope ["text"] ["text"] (defScope bqD) := ⟨rfl, rfl, rfl, by decide +kernel, rfl, by decide +kernel, by decide +kernel⟩
theorem iqP : FnScope ["text"] ["text"] (defScope cqD) := ⟨rfl, rfl, rfl, by decide +kernel, rfl, by decide +kernel, by decide +kernel⟩
theorem gqC : FnScope ["_law_script", "_law_start", "_law_many"] ["_law_script", "_law_start", "_law_many"] (defScope bqf) := ⟨rfl, rfl, rfl, by decide +kernel, rfl, by decide +kernel, by decide +kernel⟩
theorem eqT : FnScope ["_law_cell", "_law_signs_here", "_law_many", "_law_found"] ["_law_cell", "_law_signs_here", "_law_many"] (defScope bqE) := ⟨rfl, rfl, rfl, by decide +kernel, rfl, by decide +kernel, by decide +kernel⟩
theorem hqO : FnScope ["_law_one", "_law_other"] ["_law_one", "_law_other"] (defScope bq5) := ⟨rfl, rfl, rfl, by decide +kernel, rfl, by decide +kernel, by decide +kernel⟩
theorem hqw : FnScope ["piece", "step"] ["piece", "step"] (defScope bqC) := ⟨rfl, rfl, rfl, by decide +kernel, rfl, by decide +kernel, by decide +kernel⟩
theorem bqW : FnScope ["_law_cell", "_law_name", "_law_signs_here", "_law_kind", "_law_more", "_law_head"] ["_law_cell", "_law_name", "_law_signs_here"] (defScope bqh) := ⟨rfl, rfl, rfl, by decide +kernel, rfl, by decide +kernel, by decide +kernel⟩
theorem dqW : FnScope ["_law_one", "_law_other", "_law_pieces", "_law_k"] ["_law_one", "_law_other"] (defScope bq6) := ⟨rfl, rfl, rfl, by decide +kernel, rfl, by decide +kernel, by decide +kernel⟩
theorem cq9 : FnScope ["piece", "texts"] ["piece"] (defScope aqM) := ⟨rfl, rfl, rfl, by decide +kernel, rfl, by decide +kernel, by decide +kernel⟩
theorem bqs : FnScope ["_law_cells_here", "_law_names_here", "_law_signs_here", "_law_head", "_law_pieces", "_law_k"] ["_law_cells_here", "_law_names_here", "_law_signs_here"] (defScope aqW) := ⟨rfl, rfl, rfl, by decide +kernel, rfl, by decide +kernel, by decide +kernel⟩
theorem cq3 : FnScope ["_law_piece_here", "_law_cell", "_law_name", "_law_signs_here", "_law_way", "_law_more", "_law_at"] ["_law_piece_here", "_law_cell", "_law_name", "_law_signs_here"] (defScope bq1) := ⟨rfl, rfl, rfl, by decide +kernel, rfl, by decide +kernel, by decide +kernel⟩
theorem cqA : FnScope ["piece", "beside", "head"] ["piece", "beside"] (defScope aqK) := ⟨rfl, rfl, rfl, by decide +kernel, rfl, by decide +kernel, by decide +kernel⟩
theorem aqE : FnScope ["_law_pattern_here", "_law_cells_here", "_law_names_here", "_law_signs_here", "_law_head", "_law_some", "_law_pieces"] ["_law_pattern_here", "_law_cells_here", "_law_names_here", "_law_signs_here"] (defScope aqB) := ⟨rfl, rfl, rfl, by decide +kernel, rfl, by decide +kernel, by decide +kernel⟩
theorem dqc : FnScope ["piece", "beside", "text"] ["piece", "beside"] (defScope aqL) := ⟨rfl, rfl, rfl, by decide +kernel, rfl, by decide +kernel, by decide +kernel⟩
theorem cqK : FnScope ["one", "other", "count", "mine", "theirs", "steps"] ["one", "other"] (defScope cqE) := ⟨rfl, rfl, rfl, by decide +kernel, rfl, by decide +kernel, by decide +kernel⟩
theorem bqz : FnScope ["_law_script", "_law_names_here", "_law_signs_here", "_law_one", "_law_other", "_law_third", "_law_cell", "_law_text_here", "_law_head", "_law_part", "_law_long", "_law_few", "_law_near", "_law_first", "_law_second"] ["_law_script"] (defScope iqG) := ⟨rfl, rfl, rfl, by decide +kernel, rfl, by decide +kernel, by decide +kernel⟩
theorem fq4 (g : G K mg) : FnOk P w K mg base CX0 1 g.eql g.dqK ["text", "signs"] iqO := by
 refine g.eqt.ok iqS (fun vs H Q E h => ?_) (fun cdv A outer s H vs Q E hr h => ?_)
 ·obtain ⟨x, y, rfl, _⟩ := h; rfl
 ·obtain ⟨x, y, rfl, hx, k⟩ := h
  refine ⟨_, (aqf (aqp (aqv (iq4 (K := K) rfl rfl) rfl g.nqa PyProof.Rows.boot_all (aqa (cq5 (fx := ["signs"]) (fr := [1]) rfl rfl (by decide +kernel) rfl (by decide +kernel) rfl (by decide +kernel) rfl (.cons rfl rfl rfl rfl .nil) rfl (fqZ (pv 0)) (fun _ _ _ => hqn) (fun _ _ _ => (aqz nqt (pv 0) (pv 1) (by with_unfolding_all rfl)))) aqc)))), ?_⟩
  walk_at "rd"
  intro p hp
  refine iqg (z := x) (aqj hx) hp (fun c => .bl (decide (c ∈ y.cps.toList))) (fun c hc H' R hR => ?_) (fun H' sm hp' => ?_)
  ·walk_at "rd"
   exact hR H' (Same.refl _)
  ·refine jqx.mpr ⟨x.cps.toList.map fun c => decide (c ∈ y.cps.toList), SqL.of (by rw [hp', List.map_map]; rfl), ?_⟩
   rw [List.all_map]
   exact k H' sm
theorem kup : k_UP = sV sUp := congrArg V.str (show Str.ofString ".." = ⟨sUp.toArray⟩ by decide +kernel)
theorem kst : lqg = sV sStay := congrArg V.str (show Str.ofString "." = ⟨sStay.toArray⟩ by decide +kernel)
theorem jqb (g : G K mg) : FnOk P w K mg base CX0 1 g.eq2 g.eqc ["step"] jqF := by
 refine g.gqm.ok jqk (fun vs H Q E h => ?_) (fun cdv A outer s H vs Q E hr h => ?_)
 ·obtain ⟨s, rfl, _⟩ := h; rfl
 ·obtain ⟨s, rfl, k⟩ := h
  refine ⟨_, (aqf (aqp (hqF (aqz aqF (pv 0) (bqy (v := lqg) rfl g.lqi ⟨_, rfl⟩) (nomark _)) (bq8 (aqz aqF (pv 0) (bqy (v := k_UP) rfl g.c_UP ⟨_, rfl⟩) (nomark _)))))), ?_⟩
  have d1 : Str.ofString ".." = ⟨sUp.toArray⟩ := by decide +kernel
  have d2 : Str.ofString "." = ⟨sStay.toArray⟩ := by decide +kernel
  walk_at "rd"
  rw [d1, d2]
  simp only [cqt]
  by_cases h2 : s = sStay
  ·rw [if_pos h2]
   rw [show isDot s = true by simp [isDot, h2]] at k
   exact k
  ·rw [if_neg h2]
   rw [show isDot s = decide (s = sUp) by simp [isDot, h2]] at k
   exact k
theorem fqD (g : G K mg) : FnOk P w K mg base CX0 1 g.eq3 g.eqh ["piece"] (jqs K) := by
 refine g.eqb.ok jqc (fun vs H Q E h => ?_) (fun cdv A outer s H vs Q E hr h => ?_)
 ·obtain ⟨c, p, rfl, _⟩ := h; rfl
 ·obtain ⟨c, p, rfl, hp, k⟩ := h
  refine ⟨_, (aqf (aqp (aqz gqr (aqn (aqd (K := K) rfl) (pv 0) aqb (fun _ _ => rfl)) aqm (nomark _)))), ?_⟩
  walk_at "rd"
  refine ⟨_, _, .inr hp, c.at0, ?_⟩
  refine L2.gqx.mpr ?_
  rw [dqX]
  exact k
theorem dqG (g : G K mg) : FnOk P w K mg base CX0 1 g.eqm g.dqJ ["piece"] (iq0 K) := by
 refine g.cqz.ok iqB (fun vs H Q E h => ?_) (fun cdv A outer s H vs Q E hr h => ?_)
 ·obtain ⟨c, p, rfl, _⟩ := h; rfl
 ·obtain ⟨c, p, rfl, hp, k⟩ := h
  refine ⟨_, (aqf (aqp (dqz (aqk aqF (aqn (aqd (K := K) rfl) (pv 0) aqb (fun _ _ => rfl)) aqm (nomark _)) (aqn (aqd (K := K) rfl) (pv 0) aqb (fun _ _ => rfl)) aqm))), ?_⟩
  walk_at "rd"
  refine ⟨_, _, .inr hp, c.at0, ?_⟩
  refine L2.aqt.mpr ⟨_, rfl, ?_⟩
  rw [bqe]
  cases c with
  | part h n t => exact ite2 (fun _ => ⟨_, _, .inr hp, aqh (j := 1) rfl, k⟩) (fun z => absurd rfl z)
  | _ => exact ite2 (fun z => by cases z) (fun _ => k)
theorem dqH (g : G K mg) : FnOk P w K mg base CX0 1 g.equ g.dqP ["piece"] (iqF K) := by
 refine g.cqH.ok iqR (fun vs H Q E h => ?_) (fun cdv A outer s H vs Q E hr h => ?_)
 ·obtain ⟨c, p, rfl, _⟩ := h; rfl
 ·obtain ⟨c, p, rfl, hp, k⟩ := h
  refine ⟨_, (aqf (aqp (dqz (aqk aqF (aqn (aqd (K := K) rfl) (pv 0) aqb (fun _ _ => rfl)) aqm (nomark _)) (aqn (aqd (K := K) rfl) (pv 0) aqb (fun _ _ => rfl)) aqm))), ?_⟩
  walk_at "rd"
  refine ⟨_, _, .inr hp, c.at0, ?_⟩
  refine L2.aqt.mpr ⟨_, rfl, ?_⟩
  rw [bqe]
  cases c with
  | part h n t => exact ite2 (fun _ => ⟨_, _, .inr hp, aqh (j := 3) rfl, k⟩) (fun z => absurd rfl z)
  | _ => exact ite2 (fun z => by cases z) (fun _ => k)
theorem hqN (g : G K mg) : FnOk P w K mg base CX0 1 g.dqN g.cqY ["pattern"] (hqM K) := by
 refine g.eqJ.ok fqQ (fun vs H Q E h => ?_) (fun cdv A outer s H vs Q E hr h => ?_)
 ·obtain ⟨cs, xs, p, q, e, rfl, _⟩ := h; rfl
 ·obtain ⟨cs, xs, p, q, e, rfl, hp, hq, hx, hn, k⟩ := h
  refine ⟨_, (aqe (aqx (i := 1) fqQ.nd rfl (Or.inl rfl) (aqn (aqd (K := K) rfl) (pv 0) (bqy (v := eq5) rfl g.eqe ⟨_, rfl⟩) (fun _ _ => rfl)))
   (aqf (aqp (dqT (aqz hqJ (aqv (aqr (K := K) rfl) rfl g.aq6 PySem.boot_len (aqa (pv 1) aqc)) aqb (nomark _)) (bq8 (aqz aqF (aqn (aqd (K := K) rfl) (aqn (aqd (K := K) rfl) (pv 1) (kq2 hq7 aqb) (fun _ _ => rfl)) aqb (fun _ _ => rfl)) aqm (nomark _))))))), ?_⟩
  walk_at "rd"
  refine ⟨_, _, .inr hp, aqh (j := 0) rfl, ?_⟩
  walk_at "rd"
  refine ⟨xs, .inr hq, ?_⟩
  have hl := hx.length
  by_cases h0 : cs = []
  ·subst h0
   refine ite2 (fun z => ?_) (fun _ => k)
   rw [hl] at z
   simp at z
  obtain ⟨c, hc⟩ : ∃ c, cs.getLast? = some c := ⟨_, List.getLast?_eq_some_getLast h0⟩
  have hr : hasRest cs = c.isRest := by unfold hasRest; rw [hc]
  obtain ⟨v, hv, pc, rfl, hpc⟩ := hx.last hc
  refine ite2 (fun _ => ?_) (fun z => absurd (show (0 : Int) < (xs.length : Int) by rw [hl]; have := List.length_pos_iff.mpr h0; omega) z)
  refine ⟨_, _, .inr hq, hv, ?_⟩
  walk_at "rd"
  refine ⟨_, _, .inr hpc, c.at0, ?_⟩
  refine L2.aqt.mpr ?_
  rw [hqZ, ← hr]
  exact k
theorem dqk (g : G K mg) : FnOk P w K mg base CX0 1 g.bqF g.bqr ["head", "tail"] (fqP K) := by
 refine g.bqI.ok fqB (fun vs H Q E h => ?_) (fun cdv A outer s H vs Q E hr h => ?_)
 ·obtain ⟨a, b, rfl, _⟩ := h; rfl
 ·obtain ⟨hd, tl, rfl, hh, ht, k⟩ := h
  refine ⟨_, (aqf (aqp (cq5 (fx := ["tail", "head"]) (fr := [1, 0]) rfl rfl (by decide +kernel) rfl (by decide +kernel) rfl (by decide +kernel) rfl (.cons rfl rfl rfl rfl (.cons rfl rfl rfl rfl .nil)) rfl (fqZ (bqy (v := gqi) rfl g.eqq ⟨_, rfl⟩)) (fun _ _ _ => hqn) (fun _ _ _ => (aqs (aqH (K := K)) (aqs (aqH (K := K)) (pv 2) (pv 0)) (pv 1)))))), ?_⟩
  walk_at "rd"
  intro p n
  have eT : (Str.ofString "ab01").cps.toList = trS := by decide +kernel
  refine iqg (by decide +kernel) n (fun c => tV (hd ++ [c] ++ tl)) (fun c _ H1 R hR => ?_) (fun H1 s1 hp1 => ?_)
  ·walk_at "rd"
   refine ⟨aqj (by omega), aqj ?_, hR H1 (Same.refl _)⟩
   simp only [List.length_append, List.length_singleton]; omega
  ·refine k p H1 s1 ?_
   rw [hp1, eT]
   unfold trialsM
   rw [List.map_map]
   rfl
theorem bqx (g : G K mg) : FnOk P w K mg base CX0 1 g.bqJ g.bqk ["_law_script", "_law_k"] (fqp K) := by
 refine g.aqT.ok fqO (fun vs H Q E h => ?_) (fun cdv A outer s H vs Q E hr h => ?_)
 ·obtain ⟨a, ns, k, rfl, _⟩ := h; rfl
 ·obtain ⟨a, ns, i, rfl, hS, k⟩ := h
  refine ⟨_, (aqe (aqO (aqk iq6 (pv 1) (aqv (aqr (K := K) rfl) rfl g.aq6 PySem.boot_len (aqa (pv 0) aqc)) (nomark _))
    (aqf (aqp (aqn (aqd (K := K) rfl) (pv 0) (pv 1) (fun _ _ => rfl)))) aqw)
   (aqf (aqp aqb))), ?_⟩
  walk_at "rd"
  refine ⟨ns.map V.int, .inl hS, ite2 (fun h => ?_) (fun h => ?_)⟩
  ·rw [List.length_map] at h
   exact ⟨ns.map V.int, _, .inl hS, mqp (by omega), k⟩
  ·rw [List.length_map] at h
   rw [List.getD_eq_getElem?_getD, List.getElem?_eq_none (by omega)] at k
   exact k
theorem gqn (g : G K mg) : FnOk P w K mg base CX0 1 g.cql g.bqU ["_law_cell", "_law_many"] (gqA K) := by
 refine g.dqr.ok aqA (fun vs H Q E h => ?_) (fun cdv A outer s H vs Q E hr h => ?_)
 ·obtain ⟨c, m, rfl, _⟩ := h; rfl
 ·obtain ⟨c, m, rfl, hm, k⟩ := h
  refine ⟨_, (aqe (aqx (i := 2) aqA.nd rfl (Or.inl rfl) aqm)
   (aqe (aqx (i := 3) aqA.nd rfl (Or.inl rfl) (aqs (aqH (K := K)) aqb (aqs aqN (pv 0) aqb)))
   (aqe (aqx (i := 4) aqA.nd rfl (Or.inl rfl) (aqs aqN (aqs aqQ (pv 0) aqb) (pv 3)))
   (aqe (aqx (i := 5) aqA.nd rfl (Or.inl rfl) (aqG aqc))
   (aqe (eqo PassesOwn.never rfl (bqL rfl g.cq6 (aqa (pv 1) aqc)) (bql (i := 6) aqA.nd rfl (Or.inl rfl))
   (aqe (aqx (i := 7) aqA.nd rfl (Or.inl rfl) aqm)
   (bqn (eqo PassesOwn.never rfl (bqL rfl g.cq6 (aqa (pv 3) aqc)) (bql (i := 8) aqA.nd rfl (Or.inl rfl))
   (aqe (aqx (i := 9) aqA.nd rfl (Or.inl rfl) (aqs (aqH (K := K)) (aqs (aqH (K := K)) (aqs aqQ (pv 0) (aqs (aqH (K := K)) aqb (aqs cqZ (aqs cqZ aqb (pv 8)) (pv 8)))) (aqs cqZ aqb (pv 8))) (aqs cqZ (pv 6) (cqb hqd rfl g.lqu lqa (aqa (aqz aqF (pv 8) (pv 4) (nomark _)) aqc)))))
   (aqf (aqx (i := 7) aqA.nd rfl (Or.inl rfl) (aqs (aqH (K := K)) (pv 7) (aqn (aqd (K := K) rfl) (pv 2) (aqs aqN (pv 9) aqb) (fun _ _ => rfl)))))))
   (aqf (fqs (cqy (K := K) rfl PySem.F.plainAttrs_list PySem.F.slot_list_append PySem.F.type_list_append cqc (pv 5) (aqa (pv 7) aqc)))))))
   (aqf (aqp (pv 5)))))))), ?_⟩
  have eL : Str.ofString "abcdefghijklmnopqrstuvwxyz" = ⟨smaL.toArray⟩ := by unfold smaL; simp
  rw [eL]
  walk_at "rd"
  refine ⟨by decide, ⟨by decide, by decide⟩, by omega, by decide, fun p H1 n1 s1 e1 => ⟨by omega, by omega, ?_⟩⟩
  rw [Int.toNat_natCast]
  obtain ⟨sz, hsz, hs1, hs7⟩ : ∃ sz : Nat, 1 + c % 8 = (sz : Int) ∧ 1 ≤ sz ∧ sz ≤ 8 := ⟨(1 + c % 8).toNat, by omega, by omega, by omega⟩
  rw [hsz]
  obtain ⟨at_, ha, hat⟩ : ∃ a : Nat, c / 8 % (sz : Int) = (a : Int) ∧ a < sz := by
   have h1 := Int.emod_nonneg (c / 8) (show (sz : Int) ≠ 0 by omega)
   have h2 := Int.emod_lt_of_pos (c / 8) (show 0 < (sz : Int) by omega)
   exact ⟨(c / 8 % (sz : Int)).toNat, by omega, by omega⟩
  rw [ha]
  obtain ⟨X, hX⟩ : ∃ X : Int, X = c / (64 + 9 * (at_ : Int) * (at_ : Int)) + 5 * (at_ : Int) := ⟨_, rfl⟩
  refine bq2 (fun i σ H' => ∃ (ns : List (List Nat)) (v6 v7 v8 v9 : Option V), σ = [some (.int c), some (.int (m : Int)), some (tV smaL), some (.int (sz : Int)), some (.int (at_ : Int)), some (.ref p), v6, v7, v8, v9] ∧ ns.length = i ∧ (∀ n ∈ ns, 0 < n.length ∧ n.length ≤ 8 ∧ n.all isSma = true) ∧ (∀ (k : Nat) (n : List Nat), ns[k]? = some n → NmAt X at_ k n) ∧ Same H H' ∧ H' p = some (.lst (ns.map tV))) ⟨[], none, none, none, none, rfl, rfl, by simp, (fun k n h => by cases h), s1, e1⟩ ?_ ?_
  ·rintro i σ H2 hi ⟨ns, v6, v7, v8, v9, rfl, hl, hns, hnm, s2, e2⟩
   walk_at "rd"
   refine ⟨fun σ H3 => H3 = H2 ∧ ∃ (l : List Nat) (v8 v9 : Option V), l.length = sz ∧ NmAt X at_ i l ∧ l.all isSma = true ∧ σ = [some (.int c), some (.int (m : Int)), some (tV smaL), some (.int (sz : Int)), some (.int (at_ : Int)), some (.ref p), some (.int (0 + (i : Int))), some (tV l), v8, v9], ?_, ?_⟩
   ·refine ⟨by omega, by omega, ?_⟩
    rw [Int.toNat_natCast]
    refine bq2 (fun j σ H3 => H3 = H2 ∧ ∃ (l : List Nat) (v8 v9 : Option V), l.length = j ∧ (at_ < j → NmAt X at_ i l) ∧ l.all isSma = true ∧ σ = [some (.int c), some (.int (m : Int)), some (tV smaL), some (.int (sz : Int)), some (.int (at_ : Int)), some (.ref p), some (.int (0 + (i : Int))), some (tV l), v8, v9]) ⟨rfl, [], _, _, rfl, (fun z => absurd z (by omega)), rfl, rfl⟩ ?_ (fun σ H3 ⟨h1, l, v8, v9, h2, h3, h4, h5⟩ => ⟨h1, l, v8, v9, h2, h3 hat, h4, h5⟩)
    rintro j σ H3 hj ⟨rfl, l, v8, v9, hll, hln, hla, rfl⟩
    have hb : 0 < 64 + 9 * (0 + (j : Int)) * (0 + (j : Int)) ∧ 64 + 9 * (0 + (j : Int)) * (0 + (j : Int)) < 1073741824 := by
     have h0 : 0 ≤ (0 + (j : Int)) * (0 + (j : Int)) := Int.mul_nonneg (by omega) (by omega)
     have h1 : (0 + (j : Int)) * (0 + (j : Int)) ≤ 8 * 8 := Int.mul_le_mul (by omega) (by omega) (by omega) (by omega)
     rw [Int.mul_assoc]
     omega
    walk_at "rd"
    have hc1 : CMul (0 + (i : Int)) (if 0 + (j : Int) = (at_ : Int) then 1 else 0) := .inl ⟨by omega, by omega⟩
    have hval : 0 + (j : Int) = (at_ : Int) → (c / (64 + 9 * (0 + (j : Int)) * (0 + (j : Int))) + 5 * (0 + (j : Int)) + (0 + (i : Int)) * if 0 + (j : Int) = (at_ : Int) then 1 else 0) = X + (i : Int) := fun z => by
     rw [if_pos z, Int.mul_one, hX, z]; omega
    obtain ⟨d, hd, hds⟩ := nqe (c / (64 + 9 * (0 + (j : Int)) * (0 + (j : Int))) + 5 * (0 + (j : Int)) + (0 + (i : Int)) * if 0 + (j : Int) = (at_ : Int) then 1 else 0)
    refine ⟨.inl ⟨by decide, by decide⟩, .inr ⟨by omega, by omega⟩, hb, .inl ⟨by decide, by decide⟩, hc1, by decide, d, by decide +kernel, hd, aqj (by omega), l ++ [d], _, _, by rw [List.length_append, List.length_singleton, hll], fun z => ?_, by rw [List.all_append, hla]; simp [hds], rfl, rfl, rfl⟩
    by_cases ej : j = at_
    ·rw [hval (by omega)] at hd
     exact ⟨d, by rw [List.getElem?_append_right (by omega), hll, ej, Nat.sub_self]; rfl, hd⟩
    ·exact (hln (by omega)).app
   rintro σ H3 ⟨rfl, l, v8, v9, hll, hln, hla, rfl⟩
   walk_at "rd"
   refine ⟨⟨_, .of e2⟩, _, e2, by rw [List.length_map]; exact Nat.lt_of_le_of_lt (show ns.length ≤ 26 by omega) (by decide), ns ++ [l], _, _, _, _, ⟨rfl, rfl, rfl, rfl⟩, by rw [List.length_append, List.length_singleton, hl], fun n hn => ?_, fun k n hk => ?_, jqL n1 s2, by rw [aqq, List.map_append]; rfl⟩
   ·rcases List.mem_append.mp hn with z | z
    ·exact hns n z
    ·rw [List.mem_singleton.mp z]; exact ⟨by omega, by omega, hla⟩
   ·by_cases hk2 : k < ns.length
    ·rw [List.getElem?_append_left hk2] at hk
     exact hnm k n hk
    ·rw [List.getElem?_append_right (by omega)] at hk
     have hk3 : k - ns.length = 0 := by
      cases hh : k - ns.length with
      | zero => rfl
      | succ z => rw [hh] at hk; cases hk
     rw [hk3] at hk
     cases hk
     rw [show k = i by omega]
     exact hln
  ·rintro σ H2 ⟨ns, v6, v7, v8, v9, rfl, hl, hns, hnm, s2, e2⟩
   walk_at "rd"
   exact k ns p H2 hl hns (kqk hnm (by omega)) s2 e2
theorem gqy (g : G K mg) : FnOk P w K mg base CX0 1 g.cqi g.bqV ["_law_cell"] (gqo K) := by
 refine g.dqe.ok bqw (fun vs H Q E h => ?_) (fun cdv A outer s H vs Q E hr h => ?_)
 ·obtain ⟨c, rfl, _⟩ := h; rfl
 ·obtain ⟨c, rfl, k⟩ := h
  refine ⟨_, (aqe (aqx (i := 1) bqw.nd rfl (Or.inl rfl) aqm)
   (aqe (aqx (i := 2) bqw.nd rfl (Or.inl rfl) aqm)
   (aqe (eqo PassesOwn.never rfl (bqL rfl g.cq6 (aqa aqb aqc)) (bql (i := 3) bqw.nd rfl (Or.inl rfl))
   (aqf (aqx (i := 2) bqw.nd rfl (Or.inl rfl) (aqs (aqH (K := K)) (pv 2) (aqn (aqd (K := K) rfl) (pv 1) (aqs aqN (aqs aqQ (pv 0) (aqs (aqH (K := K)) (aqs cqZ (pv 3) aqb) aqb)) (aqv (aqr (K := K) rfl) rfl g.aq6 PySem.boot_len (aqa (pv 1) aqc))) (fun _ _ => rfl))))))
   (aqf (aqp (aqn (aqd (K := K) rfl) (aqG (aqa (pv 2) (aqa (aqs (aqH (K := K)) (pv 2) aqm) (aqa aqm (aqa (aqs (aqH (K := K)) aqm (pv 2)) aqc))))) (aqs aqN (aqs aqQ (pv 0) aqb) aqb) (fun _ _ => rfl))))))), ?_⟩
  walk_at "rd"
  refine ⟨by decide, by decide, ?_⟩
  have eS : Str.ofString " !\"#$&'()*+,-./0123456789:;<=>?@ABCDEFGHIJKLMNOPQRSTUVWXYZ[\\]^_`abcdefghijklmnopqrstuvwxyz{|}~" = ⟨SG.toArray⟩ := by decide +kernel
  have eD : Str.ofString "." = ⟨[46].toArray⟩ := by decide +kernel
  have eB : Str.ofString "b7" = ⟨[98, 55].toArray⟩ := by decide +kernel
  have eA : Str.ofString "a1." = ⟨[97, 49, 46].toArray⟩ := by decide +kernel
  have hsl : SG.length = 94 := by decide +kernel
  rw [eS, eD, eB, eA]
  refine bq2 (fun i σ H' => H' = H ∧ ∃ (l : List Nat) (v3 : Option V), σ = [some (.int c), some (.str ⟨SG.toArray⟩), some (tV l), v3] ∧ l.length = i ∧ ∀ x ∈ l, isSg x = true) ⟨rfl, [], none, rfl, rfl, fun x hx => by cases hx⟩ ?_ ?_
  ·rintro i σ H1 hi ⟨rfl, l, v3, rfl, hl, hs⟩
   have hi3 : i < 3 := hi
   obtain ⟨d, hd, hda⟩ := jqv SG (c / ((0 + (i : Int)) * 97 + 1)) (SG.length : Int) (by omega) (by omega)
   walk_at "rd"
   refine ⟨.inr ⟨by decide, by decide⟩, ⟨by omega, by omega⟩, aqj (by omega), by omega, d, aqj (by omega), hda, aqj (by omega), l ++ [d], _, ⟨rfl, rfl⟩, by rw [List.length_append, List.length_singleton, hl], fun x hx => ?_⟩
   rcases List.mem_append.mp hx with z | z
   ·exact hs x z
   ·rw [List.mem_singleton.mp z]; exact nqw.mp hd
  ·rintro σ H1 ⟨rfl, l, v3, rfl, hl, hs⟩
   have hl3 : l.length = 3 := hl
   walk_at "rd"
   refine ⟨aqj (by omega), aqj (by omega), by decide, fun p H2 n2 s2 hp2 => ⟨⟨by decide, by decide⟩, by decide, ?_⟩⟩
   obtain ⟨v, hv, hat⟩ := mqx [V.str ⟨l.toArray⟩, V.str ⟨(l ++ [46]).toArray⟩, V.str ⟨[97, 49, 46].toArray⟩, V.str ⟨([98, 55] ++ l).toArray⟩] (c / 9409) 4 (by decide) (by simp)
   refine ⟨_, _, .inl (.of hp2), hat, ?_⟩
   have sg1 : ∀ x ∈ ([46, 97, 49, 98, 55] : List Nat), isSg x = true := by decide
   simp only [List.mem_cons, List.not_mem_nil, or_false] at hv
   rcases hv with rfl | rfl | rfl | rfl
   ·exact k l H2 (by omega) (by omega) hs s2
   ·refine k (l ++ [46]) H2 (by simp) (by simp; omega) (fun x hx => ?_) s2
    rcases List.mem_append.mp hx with z | z
    ·exact hs x z
    ·exact sg1 x (by rw [List.mem_singleton.mp z]; decide)
   ·exact k [97, 49, 46] H2 (by decide) (by decide) (by decide) s2
   ·refine k ([98, 55] ++ l) H2 (by simp) (by simp; omega) (fun x hx => ?_) s2
    rcases List.mem_append.mp hx with z | z
    ·simp only [List.mem_cons, List.not_mem_nil, or_false] at z
     rcases z with rfl | rfl <;> decide
    ·exact hs x z
theorem dq6 (g : G K mg) : FnOk P w K mg base CX0 1 g.dqQ g.cqN ["_law_cell", "_law_signs_here", "_law_many"] hqY := by
 refine g.cqF.ok cqS (fun vs H Q E h => ?_) (fun cdv A outer s H vs Q E hr h => ?_)
 ·obtain ⟨c, gg, m, rfl, _⟩ := h; rfl
 ·obtain ⟨c, gg, m, rfl, hg0, hg1, hm, k⟩ := h
  refine ⟨_, (aqe (aqx (i := 3) cqS.nd rfl (Or.inl rfl) aqm)
   (aqe (eqo PassesOwn.never rfl (bqL rfl g.cq6 (aqa (pv 2) aqc)) (bql (i := 4) cqS.nd rfl (Or.inl rfl))
   (aqf (aqx (i := 3) cqS.nd rfl (Or.inl rfl) (aqs (fqn (K := K) rfl) (pv 3) (aqn (aqd (K := K) rfl) (pv 1) (aqs aqN (aqs aqQ (pv 0) (aqs (fqn (K := K) rfl) (aqs cqZ (aqs cqZ aqb (pv 4)) (pv 4)) aqb)) (aqv (aqr (K := K) rfl) rfl g.aq6 PySem.boot_len (aqa (pv 1) aqc))) (fun _ _ => rfl))))))
   (aqf (aqp (pv 3))))), ?_⟩
  walk_at "rd"
  refine ⟨by omega, by omega, ?_⟩
  rw [Int.toNat_natCast]
  refine bq2 (fun i σ H' => H' = H ∧ ∃ (l : List Nat) (v4 : Option V), σ = [some (.int c), some (tV gg), some (.int (m : Int)), some (tV l), v4] ∧ l.length = i ∧ ∀ x ∈ l, x ∈ gg) ⟨rfl, [], none, rfl, rfl, fun x hx => by cases hx⟩ ?_ ?_
  ·rintro i σ H1 hi ⟨rfl, l, v4, rfl, hl, hs⟩
   have hb : 0 < 5 * (0 + (i : Int)) * (0 + (i : Int)) + 1 ∧ 5 * (0 + (i : Int)) * (0 + (i : Int)) + 1 < 1073741824 := by
    have h0 : 0 ≤ (0 + (i : Int)) * (0 + (i : Int)) := Int.mul_nonneg (by omega) (by omega)
    have h1 : (0 + (i : Int)) * (0 + (i : Int)) ≤ 100 * 100 := Int.mul_le_mul (by omega) (by omega) (by omega) (by omega)
    rw [Int.mul_assoc]
    omega
   obtain ⟨d, hd, hda⟩ := jqv gg (c / (5 * (0 + (i : Int)) * (0 + (i : Int)) + 1)) (gg.length : Int) (by omega) (by omega)
   walk_at "rd"
   refine ⟨.inl ⟨by decide, by decide⟩, .inr ⟨by omega, by omega⟩, hb, aqj (by omega), by omega, d, aqj (by omega), hda, aqj (by omega), l ++ [d], _, ⟨rfl, rfl⟩, by rw [List.length_append, List.length_singleton, hl], fun x hx => ?_⟩
   rcases List.mem_append.mp hx with z | z
   ·exact hs x z
   ·rw [List.mem_singleton.mp z]; exact hd
  ·rintro σ H1 ⟨rfl, l, v4, rfl, hl, hs⟩
   walk_at "rd"
   exact k l hl hs
theorem cqG (g : G K mg) : FnOk P w K mg base CX0 1 g.bqc g.aq2 ["_law_piece_here", "_law_step"] (eqA K) := by
 refine g.bqd.ok eqE (fun vs H Q E h => ?_) (fun cdv A outer s H vs Q E hr h => ?_)
 ·obtain ⟨c, p, s, rfl, _⟩ := h; rfl
 ·obtain ⟨c, p, s, rfl, hp, hok, h0, hl, hs, k⟩ := h
  refine ⟨_, (aqe (aqO (PW.pt (gq3 (aqk aqF (pv 1) aqm (nomark _)) (fql (aqk aqF (pv 1) aqm (nomark _)))))
    (aqf (aqp dqS)) aqw)
   (aqe (aqO (aqk aqF (aqn (aqd (K := K) rfl) (pv 0) aqb (fun _ _ => rfl)) aqm (nomark _))
    (aqf (aqp (aqz aqF (pv 1) (aqn (aqd (K := K) rfl) (pv 0) aqb (fun _ _ => rfl)) (nomark _)))) aqw)
   (aqe (aqO (aqk aqF (aqn (aqd (K := K) rfl) (pv 0) aqb (fun _ _ => rfl)) aqm (nomark _))
    (aqe (aqO (aqk iqD (aqv (aqr (K := K) rfl) rfl g.aq6 PySem.boot_len (aqa (pv 1) aqc)) (aqs (aqH (K := K)) (aqv (aqr (K := K) rfl) rfl g.aq6 PySem.boot_len (aqa (aqn (aqd (K := K) rfl) (pv 0) aqb (fun _ _ => rfl)) aqc)) (aqv (aqr (K := K) rfl) rfl g.aq6 PySem.boot_len (aqa (aqn (aqd (K := K) rfl) (pv 0) aqb (fun _ _ => rfl)) aqc))) (nomark _))
    (aqf (aqp dqS)) aqw)
   (aqf (aqp (dqT (cqy (K := K) rfl PySem.F.plainAttrs_str PySem.F.slot_str_startswith PySem.F.type_str_startswith eqd (pv 1) (aqa (aqn (aqd (K := K) rfl) (pv 0) aqb (fun _ _ => rfl)) aqc)) (bq8 (cqy (K := K) rfl PySem.F.plainAttrs_str PySem.F.slot_str_endswith PySem.F.type_str_endswith gqf (pv 1) (aqa (aqn (aqd (K := K) rfl) (pv 0) aqb (fun _ _ => rfl)) aqc))))))) aqw)
   (aqe (aqO (aqk aqF (aqn (aqd (K := K) rfl) (pv 0) aqb (fun _ _ => rfl)) aqm (nomark _))
    (aqe (aqO (PW.pt (gq3 (aqk (iqc hr.units) (cq5 (fx := []) (fr := []) rfl rfl (by decide +kernel) rfl (by decide +kernel) rfl (by decide +kernel) rfl .nil rfl (fqZ (pv 1)) (fun _ _ _ => (fqA (aqk eqx (pv 0) aqm (by with_unfolding_all rfl)))) (fun _ _ _ => (pv 0))) (aqG aqc) (nomark _)) (fql (aqk hqJ (aqv (aqr (K := K) rfl) rfl g.aq6 PySem.boot_len (aqa (pv 1) aqc)) aqb (nomark _)))))
    (aqf (aqp dqS)) aqw)
   (aqf (aqp (hqF (aqz aqF (pv 1) aqm (nomark _)) (bq8 (aqz gqr (aqn (aqd (K := K) rfl) (pv 1) aqb (fun _ _ => rfl)) aqm (nomark _))))))) aqw)
   (aqe (aqO (aqk aqF (aqn (aqd (K := K) rfl) (pv 0) aqb (fun _ _ => rfl)) aqm (nomark _))
    (aqf (aqp (dqT (aqz iqD (aqv (aqr (K := K) rfl) rfl g.aq6 PySem.boot_len (aqa (pv 1) aqc)) aqb (nomark _)) (bq8 (aqz (fq3 hr.units) (cq5 (fx := []) (fr := []) rfl rfl (by decide +kernel) rfl (by decide +kernel) rfl (by decide +kernel) rfl .nil rfl (fqZ (pv 1)) (fun _ _ _ => (fqA (aqk eqx (pv 0) aqm (by with_unfolding_all rfl)))) (fun _ _ _ => (pv 0))) (aqG aqc) (nomark _)))))) aqw)
   (aqf (aqp dqS))))))), ?_⟩
  have eF : Str.ofString "0123456789" = ⟨fgS.toArray⟩ := by unfold fgS; simp
  have eS : Str.ofString "abcdefghijklmnopqrstuvwxyz" = ⟨smaL.toArray⟩ := by unfold smaL; simp
  have e0 : Str.ofString "0" = ⟨[48].toArray⟩ := by decide +kernel
  have e1 : Str.ofString "." = ⟨sStay.toArray⟩ := by decide +kernel
  have e2 : Str.ofString ".." = ⟨sUp.toArray⟩ := by decide +kernel
  rw [eF, eS, e0, e1, e2]
  walk_at "rd"
  have dot : isDot s = true → Q (.bl false) H := fun hd => by
   have e : fitsM c s = false := by unfold fitsM; rw [hd]; rfl
   rw [e] at k
   exact k H (Same.refl _)
  refine ite2 (fun h1 => dot (by unfold isDot; rw [decide_eq_true (cqt.mp h1)]; simp)) (fun h1 => ite2 (fun h2 => dot (by unfold isDot; rw [decide_eq_true (cqt.mp h2)]; rfl)) (fun h2 => ?_))
  have hd : isDot s = false := cqO.mpr ⟨fun z => h2 (cqt.mpr z), fun z => h1 (cqt.mpr z)⟩
  refine ⟨_, _, .inr hp, c.at0, ?_⟩
  refine L2.aqt.mpr ⟨_, rfl, ?_⟩
  rw [dqX]
  cases c with
  | step w =>
   refine ite2 (fun _ => ⟨_, _, .inr hp, aqh (j := 1) rfl, ?_⟩) (fun z => absurd rfl z)
   refine L2.aqt.mpr ?_
   have e : fitsM (.step w) s = decide ((⟨s.toArray⟩ : Str) = ⟨w.toArray⟩) := by
    unfold fitsM; rw [hd]
    show decide (s = w) = _
    exact decide_eq_decide.mpr cqt.symm
   rw [← e]
   exact k H (Same.refl _)
  | part h n t =>
   refine ite2 (fun z => by cases z) (fun _ => ⟨_, _, .inr hp, Pc.at0 _, ?_⟩)
   refine L2.aqt.mpr ⟨_, rfl, ?_⟩
   rw [bqe]
   refine ite2 (fun _ => ?_) (fun z => absurd rfl z)
   have e : fitsM (.part h n t) s = partB h t s := by unfold fitsM; rw [hd]; rfl
   rw [e] at k
   have hh := hok.1
   have ht := hok.2.1
   refine ⟨aqj (by omega), _, _, .inr hp, aqh (j := 1) rfl, ?_⟩
   walk_at "rd"
   refine ⟨aqj (by omega), _, _, .inr hp, aqh (j := 3) rfl, ?_⟩
   walk_at "rd"
   refine ⟨aqj (by omega), ?_⟩
   have kp : partB h t s = (decide (s.take h.length = h) && (decide (s.drop (s.length - t.length) = t) && decide (h.length + t.length < s.length))) := rfl
   rw [kp] at k
   have k' := k H (Same.refl _)
   refine ite2 (fun hle => ?_) (fun hle => ?_)
   ·rw [decide_eq_false (show ¬ h.length + t.length < s.length by omega), Bool.and_false, Bool.and_false] at k'
    exact k'
   rw [decide_eq_true (show h.length + t.length < s.length by omega), Bool.and_true] at k'
   refine ⟨_, _, .inr hp, aqh (j := 1) rfl, ?_⟩
   show rStart1 (tV s) [tV h] H _
   rw [L2.fqN]
   refine ⟨_, rfl, ite2 (fun ha => ?_) (fun ha => ?_)⟩
   ·refine ⟨_, _, .inr hp, aqh (j := 3) rfl, ?_⟩
    show rEnd1 (tV s) [tV t] H _
    rw [L2.fqe]
    rw [ha, Bool.true_and] at k'
    exact k'
   ·rw [(Bool.not_eq_true _).mp ha] at k'
    exact k'
  | num n =>
   refine ite2 (fun z => by cases z) (fun _ => ⟨_, _, .inr hp, Pc.at0 _, ?_⟩)
   refine L2.aqt.mpr ⟨_, rfl, ?_⟩
   rw [bqe]
   refine ite2 (fun z => by cases z) (fun _ => ⟨_, _, .inr hp, Pc.at0 _, ?_⟩)
   refine L2.aqt.mpr ⟨_, rfl, ?_⟩
   rw [eqQ]
   refine ite2 (fun _ => ?_) (fun z => absurd rfl z)
   have e : fitsM (.num n) s = numB s := by unfold fitsM; rw [hd]; rfl
   rw [e] at k
   intro p1 hp1
   refine dqA (z := ⟨s.toArray⟩) (aqj (by show s.length ≤ 100000; omega)) hp1 (fun c => !decide (c ∈ fgS)) (fun c => V.str ⟨#[c]⟩) (fun c hc H' R hR => ?_) (fun c hc H' R hR => ?_) (fun H1 s1 e1 => ?_)
   ·walk_at "rd"
    exact hR H' (Same.refl _)
   ·walk_at "rd"
    exact hR H' (Same.refl _)
   refine ⟨by decide, fun p2 H2 n2 s2 e2 => ?_⟩
   have hf : ∀ c ∈ s.filter (fun c => !decide (c ∈ fgS)), isSg c = true := fun c hc => hs c (List.mem_filter.mp hc).1
   refine ⟨.list ((s.filter fun c => !decide (c ∈ fgS)).map fun c => st [c]), .list [], .lst (s2 _ _ e1) (cqM _), .lst e2 .nil, dqR hf, by decide, _, rfl, ?_⟩
   have em : ((s.filter fun c => !decide (c ∈ fgS)).map fun c => st [c]).isEmpty = s.all isFig := by
    rw [← iqv]; cases s.filter (fun c => !decide (c ∈ fgS)) <;> rfl
   rw [cqk, em]
   have k' := k H2 (s1.trans s2)
   refine ite2 (fun h1 => ?_) (fun h1 => ?_)
   ·have : numB s = false := by unfold numB; rw [show s.all isFig = false by simpa using h1]; simp
    rw [this] at k'
    exact k'
   have hall : s.all isFig = true := by simpa using h1
   refine ⟨aqj (by omega), ite2 (fun h2 => ?_) (fun h2 => ?_)⟩
   ·have : numB s = false := by unfold numB; rw [decide_eq_false (show ¬ s.length ≤ 60 by omega)]; simp
    rw [this] at k'
    exact k'
   have en : numB s = (decide (s = [48]) || !decide (s.head? = some 48)) := by
    unfold numB
    rw [decide_eq_true (show 1 ≤ s.length by omega), decide_eq_true (show s.length ≤ 60 by omega), hall]
    rfl
   rw [en] at k'
   have e48 : ∀ l : List Nat, ((⟨l.toArray⟩ : Str) = ⟨#[48]⟩) ↔ l = [48] := fun l => by
    rw [show (⟨#[48]⟩ : Str) = ⟨[48].toArray⟩ from rfl, cqt]
   refine ite2 (fun h3 => ?_) (fun h3 => ?_)
   ·rw [decide_eq_true ((e48 s).mp h3)] at k'
    exact k'
   ·rw [decide_eq_false (fun z => h3 ((e48 s).mpr z))] at k'
    cases s with
    | nil => simp at h0
    | cons c r =>
     refine ⟨c, aqj (by simp at hl ⊢; omega), aqh (j := 0) rfl, ?_⟩
     have e5 : decide ((⟨#[c]⟩ : Str) = ⟨#[48]⟩) = decide ((c :: r).head? = some 48) := decide_eq_decide.mpr (by
      rw [show (⟨#[c]⟩ : Str) = ⟨[c].toArray⟩ from rfl, e48]; simp)
     rw [e5]
     exact k'
  | word n =>
   refine ite2 (fun z => by cases z) (fun _ => ⟨_, _, .inr hp, Pc.at0 _, ?_⟩)
   refine L2.aqt.mpr ⟨_, rfl, ?_⟩
   rw [bqe]
   refine ite2 (fun z => by cases z) (fun _ => ⟨_, _, .inr hp, Pc.at0 _, ?_⟩)
   refine L2.aqt.mpr ⟨_, rfl, ?_⟩
   rw [eqQ]
   refine ite2 (fun z => by cases z) (fun _ => ⟨_, _, .inr hp, Pc.at0 _, ?_⟩)
   refine L2.aqt.mpr ⟨_, rfl, ?_⟩
   rw [eqz]
   refine ite2 (fun _ => ?_) (fun z => absurd rfl z)
   have e : fitsM (.word n) s = wordB s := by unfold fitsM; rw [hd]; rfl
   rw [e] at k
   refine ⟨aqj (by omega), ite2 (fun h2 => ?_) (fun h2 => ?_)⟩
   ·intro p1 hp1
    refine dqA (z := ⟨s.toArray⟩) (aqj (by show s.length ≤ 100000; omega)) hp1 (fun c => !decide (c ∈ smaL)) (fun c => V.str ⟨#[c]⟩) (fun c hc H' R hR => ?_) (fun c hc H' R hR => ?_) (fun H2 s2 e2 => ?_)
    ·walk_at "rd"
     exact hR H' (Same.refl _)
    ·walk_at "rd"
     exact hR H' (Same.refl _)
    refine ⟨by decide, fun p3 H3 n3 s3 e3 => ?_⟩
    have hf : ∀ c ∈ s.filter (fun c => !decide (c ∈ smaL)), isSg c = true := fun c hc => hs c (List.mem_filter.mp hc).1
    refine ⟨.list ((s.filter fun c => !decide (c ∈ smaL)).map fun c => st [c]), .list [], .lst (s3 _ _ e2) (cqM _), .lst e3 .nil, dqR hf, by decide, ?_⟩
    have em : ((s.filter fun c => !decide (c ∈ smaL)).map fun c => st [c]).isEmpty = s.all isSma := by
     rw [← iqf]; cases s.filter (fun c => !decide (c ∈ smaL)) <;> rfl
    rw [cqk, em]
    have k' := k H3 (s2.trans s3)
    have : wordB s = s.all isSma := by unfold wordB; rw [decide_eq_true (show 1 ≤ s.length by omega), decide_eq_true (show s.length ≤ 60 by omega)]; rfl
    rw [this] at k'
    exact k'
   ·have : wordB s = false := by unfold wordB; rw [decide_eq_false (show ¬ s.length ≤ 60 by omega)]; simp
    rw [this] at k
    exact k H (Same.refl _)
  | gap n =>
   refine ite2 (fun z => by cases z) (fun _ => ⟨_, _, .inr hp, Pc.at0 _, ?_⟩)
   refine L2.aqt.mpr ⟨_, rfl, ?_⟩
   rw [bqe]
   refine ite2 (fun z => by cases z) (fun _ => ⟨_, _, .inr hp, Pc.at0 _, ?_⟩)
   refine L2.aqt.mpr ⟨_, rfl, ?_⟩
   rw [eqQ]
   refine ite2 (fun z => by cases z) (fun _ => ⟨_, _, .inr hp, Pc.at0 _, ?_⟩)
   refine L2.aqt.mpr ⟨_, rfl, ?_⟩
   rw [eqz]
   have e : fitsM (.gap n) s = true := by unfold fitsM; rw [hd]; rfl
   rw [e] at k
   exact ite2 (fun z => by cases z) (fun _ => k H (Same.refl _))
  | rest n =>
   refine ite2 (fun z => by cases z) (fun _ => ⟨_, _, .inr hp, Pc.at0 _, ?_⟩)
   refine L2.aqt.mpr ⟨_, rfl, ?_⟩
   rw [bqe]
   refine ite2 (fun z => by cases z) (fun _ => ⟨_, _, .inr hp, Pc.at0 _, ?_⟩)
   refine L2.aqt.mpr ⟨_, rfl, ?_⟩
   rw [eqQ]
   refine ite2 (fun z => by cases z) (fun _ => ⟨_, _, .inr hp, Pc.at0 _, ?_⟩)
   refine L2.aqt.mpr ⟨_, rfl, ?_⟩
   rw [eqz]
   have e : fitsM (.rest n) s = true := by unfold fitsM; rw [hd]; rfl
   rw [e] at k
   exact ite2 (fun z => by cases z) (fun _ => k H (Same.refl _))
theorem cqC (g : G K mg) : FnOk P w K mg base CX0 1 g.aq9 g.aq1 ["_law_part", "_law_other"] (eqH K) := by
 refine g.bqb.ok aq0 (fun vs H Q E h => ?_) (fun cdv A outer s H vs Q E hr h => ?_)
 ·obtain ⟨h1, n, t, d, p, p', rfl, _⟩ := h; rfl
 ·obtain ⟨h1, n, t, d, p, p', rfl, hp, hp', oc, od, hst, k⟩ := h
  refine ⟨_, (aqe (aqx (i := 2) aq0.nd rfl (Or.inl rfl) (aqs (aqH (K := K)) (aqn (aqd (K := K) rfl) (pv 0) aqb (fun _ _ => rfl)) (aqn (aqd (K := K) rfl) (pv 0) aqb (fun _ _ => rfl))))
   (aqe (aqO (aqk aqF (aqn (aqd (K := K) rfl) (pv 1) aqb (fun _ _ => rfl)) aqm (nomark _))
    (aqe (aqx (i := 3) aq0.nd rfl (Or.inl rfl) (hqF (cqy (K := K) rfl PySem.F.plainAttrs_str PySem.F.slot_str_startswith PySem.F.type_str_startswith eqd (aqn (aqd (K := K) rfl) (pv 0) aqb (fun _ _ => rfl)) (aqa (aqn (aqd (K := K) rfl) (pv 1) aqb (fun _ _ => rfl)) aqc)) (bq8 (cqy (K := K) rfl PySem.F.plainAttrs_str PySem.F.slot_str_startswith PySem.F.type_str_startswith eqd (aqn (aqd (K := K) rfl) (pv 1) aqb (fun _ _ => rfl)) (aqa (aqn (aqd (K := K) rfl) (pv 0) aqb (fun _ _ => rfl)) aqc)))))
   (aqf (aqp (dqT (pv 3) (bq8 (hqF (cqy (K := K) rfl PySem.F.plainAttrs_str PySem.F.slot_str_endswith PySem.F.type_str_endswith gqf (aqn (aqd (K := K) rfl) (pv 0) aqb (fun _ _ => rfl)) (aqa (aqn (aqd (K := K) rfl) (pv 1) aqb (fun _ _ => rfl)) aqc)) (bq8 (cqy (K := K) rfl PySem.F.plainAttrs_str PySem.F.slot_str_endswith PySem.F.type_str_endswith gqf (aqn (aqd (K := K) rfl) (pv 1) aqb (fun _ _ => rfl)) (aqa (aqn (aqd (K := K) rfl) (pv 0) aqb (fun _ _ => rfl)) aqc))))))))) aqw)
   (aqe (aqO (aqk aqF (aqn (aqd (K := K) rfl) (pv 1) aqb (fun _ _ => rfl)) aqm (nomark _))
    (aqe (aqx (i := 4) aq0.nd rfl (Or.inl rfl) (aqz (fq3 hr.units) (cq5 (fx := []) (fr := []) rfl rfl (by decide +kernel) rfl (by decide +kernel) rfl (by decide +kernel) rfl .nil rfl (fqZ (pv 2)) (fun _ _ _ => (fqA (aqk eqx (pv 0) aqm (by with_unfolding_all rfl)))) (fun _ _ _ => (pv 0))) (aqG aqc) (nomark _)))
   (aqf (aqp (dqT (pv 4) (dqT (aqz gqr (cq1 (fqq (K := K) rfl) (aqn (aqd (K := K) rfl) (pv 0) aqb (fun _ _ => rfl)) dqY (dq3 aqb)) aqm (nomark _)) (bq8 (aqz iq6 (aqv (aqr (K := K) rfl) rfl g.aq6 PySem.boot_len (aqa (pv 2) aqc)) aqb (nomark _)))))))) aqw)
   (aqe (aqO (aqk aqF (aqn (aqd (K := K) rfl) (pv 1) aqb (fun _ _ => rfl)) aqm (nomark _))
    (aqf (aqp (dqT (aqz (fq3 hr.units) (cq5 (fx := []) (fr := []) rfl rfl (by decide +kernel) rfl (by decide +kernel) rfl (by decide +kernel) rfl .nil rfl (fqZ (pv 2)) (fun _ _ _ => (fqA (aqk eqx (pv 0) aqm (by with_unfolding_all rfl)))) (fun _ _ _ => (pv 0))) (aqG aqc) (nomark _)) (bq8 (aqz iq6 (aqv (aqr (K := K) rfl) rfl g.aq6 PySem.boot_len (aqa (pv 2) aqc)) aqb (nomark _)))))) aqw)
   (aqf (aqp dqS)))))), ?_⟩
  walk_at "rd"
  obtain ⟨o1, o2, o3, o4, o5⟩ := oc
  have kH := k H (Same.refl _)
  refine ⟨_, _, .inr hp, aqh (j := 1) rfl, _, _, .inr hp, aqh (j := 3) rfl, jqd.mpr ⟨aqj (by rw [bqT, bqT]; omega), ?_⟩⟩
  rw [hq0]
  refine ⟨_, _, .inr hp', d.at0, aqt.mpr ⟨_, rfl, ?_⟩⟩
  rw [bqe]
  refine ite2 (fun h2 => ?_) (fun h2 => ⟨_, _, .inr hp', d.at0, aqt.mpr ⟨_, rfl, ?_⟩⟩)
  ·cases d with
   | part h' n' t' =>
    have ek : wpM h1 t (.part h' n' t') = ((decide (h1.take h'.length = h') || decide (h'.take h1.length = h1)) && (decide (t.drop (t.length - t'.length) = t') || decide (t'.drop (t'.length - t.length) = t))) := rfl
    rw [ek] at kH
    have fin : ∀ b : Bool, Q (V.bl (b && (decide (t.drop (t.length - t'.length) = t') || decide (t'.drop (t'.length - t.length) = t)))) H → b = true → ∃ xs v, (SqL K H p xs ∨ SqT K H p xs) ∧ atI xs 3 = some v ∧ tyV K "str" v H ∧ ∃ xs v_1, (SqL K H p' xs ∨ SqT K H p' xs) ∧ atI xs 3 = some v_1 ∧ rEnd1 v [v_1] H fun x H1 => ∃ c, x = V.bl c ∧ if c = true then Q (V.bl true) H1 else ∃ xs v, (SqL K H1 p' xs ∨ SqT K H1 p' xs) ∧ atI xs 3 = some v ∧ tyV K "str" v H1 ∧ ∃ xs v_2, (SqL K H1 p xs ∨ SqT K H1 p xs) ∧ atI xs 3 = some v_2 ∧ rEnd1 v [v_2] H1 Q := fun b kb hb => by
     rw [hb, Bool.true_and] at kb
     refine ⟨_, _, .inr hp, aqh (j := 3) rfl, rfl, _, _, .inr hp', aqh (j := 3) rfl, ?_⟩
     show rEnd1 (tV t) [tV t'] H _
     rw [L2.fqe]
     refine ⟨_, rfl, ite2 (fun hC => ?_) (fun hC => ⟨_, _, .inr hp', aqh (j := 3) rfl, rfl, _, _, .inr hp, aqh (j := 3) rfl, ?_⟩)⟩
     ·rw [hC] at kb; exact kb
     ·show rEnd1 (tV t') [tV t] H _
      rw [L2.fqe]
      rw [(Bool.not_eq_true _).mp hC] at kb
      exact kb
    refine ⟨_, _, .inr hp, aqh (j := 1) rfl, rfl, _, _, .inr hp', aqh (j := 1) rfl, ?_⟩
    show rStart1 (tV h1) [tV h'] H _
    rw [L2.fqN]
    refine ⟨_, rfl, ite2 (fun hA => fin _ kH (by rw [hA]; rfl)) (fun hA => ⟨_, _, .inr hp', aqh (j := 1) rfl, rfl, _, _, .inr hp, aqh (j := 1) rfl, ?_⟩)⟩
    show rStart1 (tV h') [tV h1] H _
    rw [L2.fqN]
    refine ⟨_, rfl, ite2 (fun hB => fin _ kH (by rw [hB]; simp)) (fun hB => ?_)⟩
    rw [(Bool.not_eq_true _).mp hA, (Bool.not_eq_true _).mp hB] at kH
    exact kH
   | _ => cases h2
  rw [eqQ]
  refine ite2 (fun h3 => ?_) (fun h3 => ⟨_, _, .inr hp', d.at0, aqt.mpr ⟨_, rfl, ?_⟩⟩)
  ·cases d with
   | num m =>
    have ek : wpM h1 t (.num m) = ((h1 ++ t).all isFig && (!decide (h1.head? = some 48) && decide ((h1 ++ t).length < 60))) := rfl
    have eF : Str.ofString "0123456789" = ⟨fgS.toArray⟩ := by unfold fgS; simp
    have e0 : Str.ofString "0" = ⟨[48].toArray⟩ := by decide +kernel
    rw [ek] at k
    refine ⟨_, rfl, fun p1 n1 => ?_⟩
    rw [eF]
    refine dqA (z := ⟨(h1 ++ t).toArray⟩) (aqj (by show (h1 ++ t).length ≤ 100000; rw [List.length_append]; omega)) n1 (fun c => !decide (c ∈ fgS)) (fun c => V.str ⟨#[c]⟩) (fun c hc H' R hR => ?_) (fun c hc H' R hR => ?_) (fun H1 s1 e1 => ?_)
    ·walk_at "rd"
     exact hR H' (Same.refl _)
    ·walk_at "rd"
     exact hR H' (Same.refl _)
    refine ⟨by decide, fun p2 H2 n2 s2 e2 => ?_⟩
    have s12 := s1.trans s2
    have hf : ∀ c ∈ (h1 ++ t).filter (fun c => !decide (c ∈ fgS)), isSg c = true := fun c hc => (List.mem_append.mp (List.mem_filter.mp hc).1).elim (o3 c) (o4 c)
    refine ⟨.list (((h1 ++ t).filter fun c => !decide (c ∈ fgS)).map fun c => st [c]), .list [], .lst (s2 _ _ e1) (cqM _), .lst e2 .nil, dqR hf, by decide, _, rfl, ?_⟩
    have em : (((h1 ++ t).filter fun c => !decide (c ∈ fgS)).map fun c => st [c]).isEmpty = (h1 ++ t).all isFig := by
     rw [← iqv]; cases (h1 ++ t).filter (fun c => !decide (c ∈ fgS)) <;> rfl
    rw [cqk, em]
    have k2 := k H2 s12
    refine ite2 (fun ha => ⟨_, _, .inr (s12.tup hp), aqh (j := 1) rfl, ?_⟩) (fun ha => ?_)
    ·rw [ha, Bool.true_and] at k2
     refine hqr.mpr ⟨aqj (by rw [bqT]; omega), ?_⟩
     rw [show (1 : Int) = ((1 : Nat) : Int) from rfl, eq6, e0]
     refine gqx.mpr ⟨_, rfl, ?_⟩
     have e5 : decide ((⟨(h1.take 1).toArray⟩ : Str) = ⟨[48].toArray⟩) = decide (h1.head? = some 48) := decide_eq_decide.mpr (by
      rw [cqt]
      cases h1 with
      | nil => simp
      | cons x r => simp)
     rw [e5]
     refine ite2 (fun hb => ?_) (fun hb => ?_)
     ·rw [hb, Bool.true_and] at k2
      walk_at "rd"
      refine ⟨aqj (by rw [List.length_append]; omega), ?_⟩
      rw [show decide (((h1 ++ t).length : Int) < 60) = decide ((h1 ++ t).length < 60) from decide_eq_decide.mpr (by omega)]
      exact k2
     ·rw [(Bool.not_eq_true _).mp hb, Bool.false_and] at k2
      exact k2
    ·rw [(Bool.not_eq_true _).mp ha, Bool.false_and] at k2
     exact k2
   | _ => cases h3
  rw [eqz]
  refine ite2 (fun h4 => ?_) (fun h4 => ?_)
  ·cases d with
   | word m =>
    have ek : wpM h1 t (.word m) = ((h1 ++ t).all isSma && decide ((h1 ++ t).length < 60)) := rfl
    have eS : Str.ofString "abcdefghijklmnopqrstuvwxyz" = ⟨smaL.toArray⟩ := by unfold smaL; simp
    rw [ek] at k
    refine ⟨_, rfl, fun p1 n1 => ?_⟩
    rw [eS]
    refine dqA (z := ⟨(h1 ++ t).toArray⟩) (aqj (by show (h1 ++ t).length ≤ 100000; rw [List.length_append]; omega)) n1 (fun c => !decide (c ∈ smaL)) (fun c => V.str ⟨#[c]⟩) (fun c hc H' R hR => ?_) (fun c hc H' R hR => ?_) (fun H1 s1 e1 => ?_)
    ·walk_at "rd"
     exact hR H' (Same.refl _)
    ·walk_at "rd"
     exact hR H' (Same.refl _)
    refine ⟨by decide, fun p2 H2 n2 s2 e2 => ?_⟩
    have s12 := s1.trans s2
    have hf : ∀ c ∈ (h1 ++ t).filter (fun c => !decide (c ∈ smaL)), isSg c = true := fun c hc => (List.mem_append.mp (List.mem_filter.mp hc).1).elim (o3 c) (o4 c)
    refine ⟨.list (((h1 ++ t).filter fun c => !decide (c ∈ smaL)).map fun c => st [c]), .list [], .lst (s2 _ _ e1) (cqM _), .lst e2 .nil, dqR hf, by decide, _, rfl, ?_⟩
    have em : (((h1 ++ t).filter fun c => !decide (c ∈ smaL)).map fun c => st [c]).isEmpty = (h1 ++ t).all isSma := by
     rw [← iqf]; cases (h1 ++ t).filter (fun c => !decide (c ∈ smaL)) <;> rfl
    rw [cqk, em]
    have k2 := k H2 s12
    refine ite2 (fun ha => ?_) (fun ha => ?_)
    ·rw [ha, Bool.true_and] at k2
     walk_at "rd"
     refine ⟨aqj (by rw [List.length_append]; omega), ?_⟩
     rw [show decide (((h1 ++ t).length : Int) < 60) = decide ((h1 ++ t).length < 60) from decide_eq_decide.mpr (by omega)]
     exact k2
    ·rw [(Bool.not_eq_true _).mp ha, Bool.false_and] at k2
     exact k2
   | _ => cases h4
  ·cases d with
   | step w => cases hst
   | part a b c => exact absurd rfl h2
   | num m => exact absurd rfl h3
   | word m => exact absurd rfl h4
   | gap m => exact kH
   | rest m => exact kH
theorem gq0 (g : G K mg) : FnOk P w K mg base CX0 2 g.fqa g.eqi ["pattern", "count"] (jqW K) := by
 refine g.eq7.ok fqL (fun vs H Q E h => ?_) (fun cdv A outer s H vs Q E hr h => ?_)
 ·obtain ⟨cs, xs, p, q, e, n, rfl, _⟩ := h; rfl
 ·obtain ⟨cs, xs, p, q, e, n, rfl, hp, hq, hx, hn, hnn, k0, k⟩ := h
  refine ⟨_, (aqe (aqx (i := 2) fqL.nd rfl (Or.inl rfl) (aqn (aqd (K := K) rfl) (pv 0) (bqy (v := eq5) rfl g.eqe ⟨_, rfl⟩) (fun _ _ => rfl)))
   (aqe (aqx (i := 3) fqL.nd rfl (Or.inl rfl) (aqs hq9 (pv 1) (aqv (aqr (K := K) rfl) rfl g.aq6 PySem.boot_len (aqa (pv 2) aqc))))
   (aqe (aqO (PW.pt (fqt (dqU (aql (hqN g) (hr.mono (by decide)) rfl g.fq6 g.eqJ.kp g.fq8 .nil pass0 (aqa (pv 0) aqc))) (eqK (aqk nq3 (pv 3) aqb (nomark _)))))
    (aqf (aqp (aqs (aqH (K := K)) (pv 2) (aqs lq3 (cq1 mqq (pv 2) (dq3 (kq2 hq7 aqb)) dqY) (pv 3))))) aqw)
   (aqf (aqp (dqz (aqk aqF (pv 3) aqb (nomark _)) (pv 2) dq9)))))), ?_⟩
  walk_at "rd"
  refine ⟨_, _, .inr hp, aqh (j := 0) rfl, ?_⟩
  have hl := hx.length
  walk_at "rd"
  refine ⟨xs, .inr (.of hq), ?_⟩
  refine ⟨cs, xs, p, q, e, rfl, hp, .of hq, hx, by omega, _, rfl, ?_⟩
  rw [hl]
  have tail : ¬ (hasRest cs = true ∧ cs.length ≤ n) → if (n : Int) - (cs.length : Int) = 0 then Q (.ref q) H else Q .non H := fun hnot => by
   refine ite2 (fun h0 => ?_) (fun h0 => ?_)
   ·refine k cs xs q H ?_ (Same.refl _) (.of hq) hx
    unfold spreadM
    rw [if_neg hnot, if_pos (by omega)]
   ·refine k0 ?_
    unfold spreadM
    rw [if_neg hnot, if_neg (by omega)]
  refine ite2 (fun hr => ite2 (fun hm => ?_) (fun hm => tail fun z => by omega)) (fun hr => tail fun z => hr z.1)
  have hd1 : (xs.drop (xs.length - 1)).length ≤ 1 := by rw [List.length_drop]; omega
  have ht : ((n : Int) - (cs.length : Int)).toNat = n - cs.length := by omega
  refine ⟨_, hq, fun p1 H1 s1 e1 => ⟨_, e1, hm, by omega, ?_, fun p2 H2 s2 e2 => .inr ⟨_, _, (s1.trans s2) _ _ hq, e2, ?_, fun p3 H3 s3 e3 => ?_⟩⟩⟩
  ·rw [gqh, ht]
   exact aqj (Nat.le_trans (Nat.mul_le_mul hd1 (Nat.le_refl _)) (by omega))
  ·rw [gqh, ht]
   have := kqI (xs.drop (xs.length - 1)) (n - cs.length) hd1
   exact aqj (by omega)
  ·rw [gqh, ht, hl] at e3
   have s03 := s1.trans (s2.trans s3)
   refine k _ _ p3 H3 ?_ s03 (.of e3) (PcAll.append (((hx.drop (cs.length - 1)).reps (n - cs.length)).mono s03) (hx.mono s03))
   unfold spreadM
   rw [if_pos ⟨hr, by omega⟩]
theorem gqJ (g : G K mg) : FnOk P w K mg base CX0 2 g.cqV g.cqe ["part", "step"] (hqo K) := by
 refine g.dq1.ok dqo (fun vs H Q E h => ?_) (fun cdv A outer s H vs Q E hr h => ?_)
 ·obtain ⟨h1, n, t, s, p, rfl, _⟩ := h; rfl
 ·obtain ⟨h1, n, t, s, p, rfl, hp, hs, hh, ht, k⟩ := h
  refine ⟨_, (aqe (aqx (i := 2) dqo.nd rfl (Or.inl rfl) (aql (dqG g) (hr.mono (by decide)) rfl g.dqp g.cqz.kp g.dqf .nil pass0 (aqa (pv 0) aqc)))
   (aqe (aqx (i := 3) dqo.nd rfl (Or.inl rfl) (aql (dqH g) (hr.mono (by decide)) rfl g.dql g.cqH.kp g.dqv .nil pass0 (aqa (pv 0) aqc)))
   (aqf (aqp (dqT (cqy (K := K) rfl PySem.F.plainAttrs_str PySem.F.slot_str_startswith PySem.F.type_str_startswith eqd (pv 1) (aqa (pv 2) aqc)) (dqT (cqy (K := K) rfl PySem.F.plainAttrs_str PySem.F.slot_str_endswith PySem.F.type_str_endswith gqf (pv 1) (aqa (pv 3) aqc)) (bq8 (aqz hqJ (aqv (aqr (K := K) rfl) rfl g.aq6 PySem.boot_len (aqa (pv 1) aqc)) (aqs (fqn (K := K) rfl) (aqv (aqr (K := K) rfl) rfl g.aq6 PySem.boot_len (aqa (pv 2) aqc)) (aqv (aqr (K := K) rfl) rfl g.aq6 PySem.boot_len (aqa (pv 3) aqc))) (nomark _))))))))), ?_⟩
  walk_at "rd"
  refine ⟨_, p, rfl, hp, _, p, rfl, hp, ?_⟩
  show rStart1 (tV s) [tV h1] H _
  rw [L2.fqN]
  have kp : partB h1 t s = (decide (s.take h1.length = h1) && (decide (s.drop (s.length - t.length) = t) && decide (h1.length + t.length < s.length))) := rfl
  rw [kp] at k
  refine ⟨_, rfl, ite2 (fun ha => ?_) (fun ha => ?_)⟩
  rotate_left
  ·rw [(Bool.not_eq_true _).mp ha] at k
   exact k
  rw [ha, Bool.true_and] at k
  show rEnd1 (tV s) [tV t] H _
  rw [L2.fqe]
  refine ⟨_, rfl, ite2 (fun hb => ?_) (fun hb => ?_)⟩
  rotate_left
  ·rw [(Bool.not_eq_true _).mp hb] at k
   exact k
  rw [hb, Bool.true_and] at k
  refine ⟨aqj hs, ?_⟩
  show rLenU K [tV h1] H _
  walk_at "rd"
  refine ⟨aqj hh, aqj ht, ?_⟩
  show Q (V.bl (decide ((h1.length : Int) + (t.length : Int) < (s.length : Int)))) H
  rw [show decide ((h1.length : Int) + (t.length : Int) < (s.length : Int)) = decide (h1.length + t.length < s.length) from decide_eq_decide.mpr (by omega)]
  exact k
theorem gqW (g : G K mg) : FnOk P w K mg base CX0 2 g.cqW g.cqq ["text"] gqQ := by
 refine g.dq0.ok gq2 (fun vs H Q E h => ?_) (fun cdv A outer s H vs Q E hr h => ?_)
 ·obtain ⟨l, rfl, _⟩ := h; rfl
 ·obtain ⟨l, rfl, hl, k⟩ := h
  refine ⟨_, (aqe (aqO (PW.pt (gq3 (gqL (kqf iqD iqD aqb (aqv (aqr (K := K) rfl) rfl g.aq6 PySem.boot_len (aqa (pv 0) aqc)) (bqy (v := eqY) rfl g.cq7 ⟨_, rfl⟩))) (fql (gqL (dqU (aql (fq4 g) (hr.mono (by decide)) rfl g.fqj g.eqt.kp g.fqf .nil pass0 (aqa (pv 0) (aqa (bqy (v := hqq) rfl g.hqh ⟨_, rfl⟩) aqc))))))))
    (aqf (aqp dqS)) aqw)
   (aqf (aqp (hqF (aqz aqF (pv 0) aqm (nomark _)) (bq8 (aqz gqr (aqn (aqd (K := K) rfl) (pv 0) aqb (fun _ _ => rfl)) aqm (nomark _))))))), ?_⟩
  have eF : hqq = .str ⟨fgS.toArray⟩ := by
   show V.str (Str.ofString _) = _
   unfold fgS; simp
  have e0 : Str.ofString "0" = ⟨[48].toArray⟩ := by decide +kernel
  rw [eF, e0]
  walk_at "rd"
  have no : ∀ H', Same H H' → (¬ (1 ≤ l.length ∧ l.length ≤ 60 ∧ l.all isFig = true)) → Q (.bl false) H' := fun H' sm h => by
   have : numB l = false := by
    unfold numB
    by_cases h1 : 1 ≤ l.length
    ·by_cases h2 : l.length ≤ 60
     ·rw [show l.all isFig = false by simpa using fun z => h ⟨h1, h2, z⟩]; simp
     ·rw [decide_eq_false h2]; simp
    ·rw [decide_eq_false h1]; simp
   rw [← this]
   exact k H' sm
  refine ⟨aqj hl, ite2 (fun h1 => ite2 (fun h2 => no _ (Same.refl _) (by omega)) (fun h2 => ?_)) (fun h1 => no _ (Same.refl _) (by omega))⟩
  refine ⟨_, _, rfl, hl, fun H' sm => ⟨_, rfl, ?_⟩⟩
  have ea : ((⟨l.toArray⟩ : Str).cps.toList.all fun c => decide (c ∈ (⟨fgS.toArray⟩ : Str).cps.toList)) = l.all isFig := by
   rw [← iq7]
  rw [ea]
  refine ite2 (fun h3 => no H' sm (by rw [h3]; simp)) (fun h3 => ?_)
  have h3 : l.all isFig = true := by simpa using h3
  have en : numB l = (decide (l = [48]) || !decide (l.head? = some 48)) := by
   unfold numB
   rw [decide_eq_true (show 1 ≤ l.length by omega), decide_eq_true (show l.length ≤ 60 by omega), h3]
   rfl
  have k' := k H' sm
  rw [en] at k'
  cases l with
  | nil => simp at h1
  | cons c r =>
   refine ite2 (fun h4 => ?_) (fun h4 => ⟨c, aqj hl, aqh (j := 0) rfl, ?_⟩)
   ·rw [decide_eq_true (cqt.mp h4)] at k'
    exact k'
   ·rw [decide_eq_false (fun z => h4 (by rw [z]))] at k'
    have : decide ((⟨#[c]⟩ : Str) = ⟨[48].toArray⟩) = decide ((c :: r).head? = some 48) := by
     refine decide_eq_decide.mpr ?_
     rw [show (⟨#[c]⟩ : Str) = ⟨[c].toArray⟩ from rfl, cqt]
     simp
    first | (rw [this]; simpa using k') | (simp at this ⊢; simpa [this] using k')
theorem iqT (g : G K mg) : FnOk P w K mg base CX0 2 g.eqr g.dqL ["text"] iqY := by
 refine g.fqx.ok iqP (fun vs H Q E h => ?_) (fun cdv A outer s H vs Q E hr h => ?_)
 ·obtain ⟨l, rfl, _⟩ := h; rfl
 ·obtain ⟨l, rfl, hl, k⟩ := h
  refine ⟨_, (aqf (aqp (dqT (kqG iqD iqD aqb (aqv (aqr (K := K) rfl) rfl g.aq6 PySem.boot_len (aqa (pv 0) aqc)) (bqy (v := fqT) rfl g.dqV ⟨_, rfl⟩)) (bq8 (aql (fq4 g) (hr.mono (by decide)) rfl g.fqj g.eqt.kp g.fqf .nil pass0 (aqa (pv 0) (aqa (bqy (v := dqn) rfl g.dqh ⟨_, rfl⟩) aqc))))))), ?_⟩
  have eF : dqn = .str ⟨smaL.toArray⟩ := by
   show V.str (Str.ofString _) = _
   unfold smaL; simp
  rw [eF]
  walk_at "rd"
  have no : (¬ (1 ≤ l.length ∧ l.length ≤ 60)) → Q (.bl false) H := fun h => by
   have : wordB l = false := by
    unfold wordB
    by_cases h1 : 1 ≤ l.length
    ·rw [decide_eq_false (show ¬ l.length ≤ 60 from fun z => h ⟨h1, z⟩)]; simp
    ·rw [decide_eq_false h1]; simp
   rw [← this]
   exact k H (Same.refl _)
  refine ⟨aqj hl, ite2 (fun h1 => ite2 (fun h2 => ?_) (fun h2 => no (by omega))) (fun h1 => no (by omega))⟩
  refine ⟨_, _, rfl, hl, fun H' sm => ?_⟩
  have e : wordB l = (l.all fun c => decide (c ∈ smaL)) := by
   unfold wordB
   rw [decide_eq_true (show 1 ≤ l.length by omega), decide_eq_true (show l.length ≤ 60 by omega), jqh]
   rfl
  have := k H' sm
  rw [e] at this
  simpa using this
theorem cqU (g : G K mg) : FnOk P w K mg base CX0 2 g.cqh g.bqX ["_law_script", "_law_start", "_law_many"] (gqv K) := by
 refine g.bqM.ok gqC (fun vs H Q E h => ?_) (fun cdv A outer s H vs Q E hr h => ?_)
 ·obtain ⟨a, ns, s, m, rfl, _⟩ := h; rfl
 ·obtain ⟨a, ns, s0, m, rfl, hS, hm, k⟩ := h
  refine ⟨_, (aqf (aqp (cq5 (fx := ["_law_script", "_law_start"]) (fr := [0, 1]) rfl rfl (by decide +kernel) rfl (by decide +kernel) rfl (by decide +kernel) rfl (.cons rfl rfl rfl rfl (.cons rfl rfl rfl rfl .nil)) rfl (bqL rfl g.cq6 (aqa (pv 2) aqc)) (fun _ _ _ => hqn) (fun _ _ _ => (aql (bqx g) (hr.mono (by decide)) rfl g.aq5 g.aqT.kp g.aq4 .nil pass0 (aqa (pv 1) (aqa (aqs (aqH (K := K)) (pv 2) (pv 0)) aqc))))))), ?_⟩
  walk_at "rd"
  refine ⟨by omega, by omega, fun p n => ?_⟩
  rw [Int.toNat_natCast]
  refine hqz (fun i ys H' => SameBut p H H' ∧ ∃ is : List Int, ys = is.map V.int ∧ is.length = i) (aqj (by omega)) ⟨cqQ, [], rfl, rfl⟩ (fun i ys H2 T hi hJ hp2 hT => ?_) (fun ys H2 hJ hp2 => ?_)
  ·obtain ⟨sb, is, rfl, hl⟩ := hJ
   walk_at "rd"
   rw [show ((s0 : Int) + (0 + (i : Int))) = ((s0 + i : Nat) : Int) by omega]
   exact ⟨a, ns, s0 + i, rfl, (sb.same n).seq hS, hT _ H2 hp2 ⟨sb.trans cqQ, is ++ [ns.getD (s0 + i) 0], by rw [List.map_append]; rfl, by rw [List.length_append, List.length_singleton, hl]⟩⟩
  ·obtain ⟨sb, is, rfl, hl⟩ := hJ
   exact k is p H2 hl (sb.same n) hp2
theorem hqu (g : G K mg) : FnOk P w K mg base CX0 2 g.cq2 g.cqn ["_law_cell", "_law_signs_here", "_law_many"] gq9 := by
 refine g.dq2.ok eqT (fun vs H Q E h => ?_) (fun cdv A outer s H vs Q E hr h => ?_)
 ·obtain ⟨c, gg, m, rfl, _⟩ := h; rfl
 ·obtain ⟨c, gg, m, rfl, hg0, hg1, hm0, hm, k⟩ := h
  refine ⟨_, (aqe (aqx (i := 3) eqT.nd rfl (Or.inl rfl) (aql (dq6 g) (hr.mono (by decide)) rfl g.dqE g.cqF.kp g.dqC .nil pass0 (aqa (pv 0) (aqa (pv 1) (aqa (pv 2) aqc)))))
   (aqe (aqO (PW.pt (gq3 (aqk aqF (pv 3) aqm (nomark _)) (fql (aqk aqF (pv 3) aqm (nomark _)))))
    (aqf (aqp (aqs (fqn (K := K) rfl) (aqs (fqn (K := K) rfl) (pv 3) (aqn (aqd (K := K) rfl) (pv 1) aqb (fun _ _ => rfl))) aqm))) aqw)
   (aqf (aqp (pv 3))))), ?_⟩
  walk_at "rd"
  have eD : Str.ofString "." = ⟨[46].toArray⟩ := by decide +kernel
  have eU : Str.ofString ".." = ⟨[46, 46].toArray⟩ := by decide +kernel
  have eM : Str.ofString "-" = ⟨[45].toArray⟩ := by decide +kernel
  rw [eD, eU, eM]
  refine ⟨c, gg, m, rfl, hg0, hg1, hm, fun l hl hs => aqt.mpr ⟨_, rfl, ?_⟩⟩
  obtain ⟨g0, gr, rfl⟩ : ∃ g0 gr, gg = g0 :: gr := by
   cases gg with
   | nil => cases hg0
   | cons a b => exact ⟨a, b, rfl⟩
  have fin : (46 ∈ g0 :: gr) → l.length ≤ m → ∃ c, (g0 :: gr).length ≤ sizeLine ∧ atI (g0 :: gr) 0 = some c ∧ rAddU K (tV l) (V.str { cps := #[c] }) H fun x H1 => rAddU K x (V.str ⟨[45].toArray⟩) H1 Q := fun h46 _ => by
   refine ⟨g0, aqj (by omega), aqh (j := 0) rfl, jqz.mpr ⟨aqj (by rw [bqT]; show l.length + 1 ≤ _; omega), ?_⟩⟩
   rw [show (⟨#[g0]⟩ : Str) = ⟨[g0].toArray⟩ from rfl, hq0]
   refine jqz.mpr ⟨aqj (by rw [bqT, bqT, List.length_append, List.length_singleton, List.length_singleton]; omega), ?_⟩
   rw [hq0]
   refine k _ (by simp) (by simp; omega) (fun z => absurd h46 z) (fun x hx => ?_) (kqo _ 45 (by decide))
   rcases List.mem_append.mp hx with z | z
   ·rcases List.mem_append.mp z with z | z
    ·exact .inl (hs x z)
    ·rw [List.mem_singleton.mp z]; exact .inl (List.mem_cons_self ..)
   ·exact .inr ⟨h46, List.mem_singleton.mp z⟩
  refine ite2 (fun h1 => ?_) (fun h1 => aqt.mpr ⟨_, rfl, ?_⟩)
  ·have h1 := cqt.mp (of_decide_eq_true h1)
   exact fin (hs 46 (by rw [h1]; exact List.mem_cons_self ..)) (by omega)
  refine ite2 (fun h2 => ?_) (fun h2 => ?_)
  ·have h2 := cqt.mp (of_decide_eq_true h2)
   exact fin (hs 46 (by rw [h2]; exact List.mem_cons_self ..)) (by omega)
  ·refine k l (by omega) (by omega) (fun _ => hl) (fun x hx => .inl (hs x hx)) (cqO.mpr ⟨fun z => h2 (decide_eq_true (by rw [z]; rfl)), fun z => h1 (decide_eq_true (by rw [z]; rfl))⟩)
theorem hqV (g : G K mg) : FnOk P w K mg base CX0 2 g.dqF g.cqR ["_law_one", "_law_other"] (hqS K) := by
 refine g.eqF.ok hqO (fun vs H Q E h => ?_) (fun cdv A outer s H vs Q E hr h => ?_)
 ·obtain ⟨c, d, p, p', rfl, _⟩ := h; rfl
 ·obtain ⟨c, d, p, p', rfl, hp, hp', oc, od, k⟩ := h
  refine ⟨_, (aqe (aqO (aqk aqF (aqn (aqd (K := K) rfl) (pv 0) aqb (fun _ _ => rfl)) aqm (nomark _))
    (aqf (aqp (aql (cqG g) (hr.mono (by decide)) rfl g.bqN g.bqd.kp g.bqR .nil pass0 (aqa (pv 1) (aqa (aqn (aqd (K := K) rfl) (pv 0) aqb (fun _ _ => rfl)) aqc))))) aqw)
   (aqe (aqO (aqk aqF (aqn (aqd (K := K) rfl) (pv 1) aqb (fun _ _ => rfl)) aqm (nomark _))
    (aqf (aqp (aql (cqG g) (hr.mono (by decide)) rfl g.bqN g.bqd.kp g.bqR .nil pass0 (aqa (pv 0) (aqa (aqn (aqd (K := K) rfl) (pv 1) aqb (fun _ _ => rfl)) aqc))))) aqw)
   (aqe (aqO (aqk aqF (aqn (aqd (K := K) rfl) (pv 0) aqb (fun _ _ => rfl)) aqm (nomark _))
    (aqf (aqp (aql (cqC g) (hr.mono (by decide)) rfl g.bqQ g.bqb.kp g.bqS .nil pass0 (aqa (pv 0) (aqa (pv 1) aqc))))) aqw)
   (aqe (aqO (aqk aqF (aqn (aqd (K := K) rfl) (pv 1) aqb (fun _ _ => rfl)) aqm (nomark _))
    (aqf (aqp (aql (cqC g) (hr.mono (by decide)) rfl g.bqQ g.bqb.kp g.bqS .nil pass0 (aqa (pv 1) (aqa (pv 0) aqc))))) aqw)
   (aqf (aqp (aqz (iqc hr.units) (aqv iqW rfl g.hq6 PyProof.Rows.boot_sorted (aqa (aqG (aqa (aqn (aqd (K := K) rfl) (pv 0) aqb (fun _ _ => rfl)) (aqa (aqn (aqd (K := K) rfl) (pv 1) aqb (fun _ _ => rfl)) aqc))) aqc)) (aqG (aqa aqm (aqa aqm aqc))) (nomark _)))))))), ?_⟩
  walk_at "rd"
  have kH := k H (Same.refl _)
  refine ⟨_, _, .inr hp, c.at0, aqt.mpr ⟨_, rfl, ?_⟩⟩
  rw [dqX]
  refine ite2 (fun h1 => ?_) (fun h1 => ⟨_, _, .inr hp', d.at0, aqt.mpr ⟨_, rfl, ?_⟩⟩)
  ·cases c with
   | step w => exact ⟨_, _, .inr hp, aqh (j := 1) rfl, d, p', w, rfl, hp', od, oc.1, by have := oc.2.1; omega, oc.2.2.1, k⟩
   | _ => cases h1
  rw [dqX]
  have es : ∀ w, mayM c (.step w) = fitsM c w := fun w => by
   cases c with
   | step z => exact absurd rfl h1
   | _ => rfl
  refine ite2 (fun h2 => ?_) (fun h2 => ⟨_, _, .inr hp, c.at0, aqt.mpr ⟨_, rfl, ?_⟩⟩)
  ·cases d with
   | step w =>
    rw [es] at k
    exact ⟨_, _, .inr hp', aqh (j := 1) rfl, c, p, w, rfl, hp, oc, od.1, by have := od.2.1; omega, od.2.2.1, k⟩
   | _ => cases h2
  rw [bqe]
  refine ite2 (fun h3 => ?_) (fun h3 => ⟨_, _, .inr hp', d.at0, aqt.mpr ⟨_, rfl, ?_⟩⟩)
  ·cases c with
   | part a n b =>
    have ek : mayM (.part a n b) d = wpM a b d := by
     cases d with
     | step z => exact absurd rfl h2
     | _ => rfl
    rw [ek] at k
    exact ⟨a, n, b, d, p, p', rfl, hp, hp', oc, od, (by simpa using h2), k⟩
   | _ => cases h3
  rw [bqe]
  refine ite2 (fun h4 => ?_) (fun h4 => ?_)
  ·cases d with
   | part a n b =>
    have ek : mayM c (.part a n b) = wpM a b c := by
     cases c with
     | step z => exact absurd rfl h1
     | part x y z => exact absurd rfl h3
     | _ => rfl
    rw [ek] at k
    exact ⟨a, n, b, c, p', p, rfl, hp', hp, od, oc, (by simpa using h1), k⟩
   | _ => cases h4
  refine ⟨_, _, .inr hp, c.at0, _, _, .inr hp', d.at0, by decide, fun p1 H1 n1 s1 e1 => ⟨[c.kw, d.kw], e1, (show 2 < 64 by decide), fun p2 ss H2 n2 hpm hso s2 e2 => ⟨by decide, fun p3 H3 n3 s3 e3 => ?_⟩⟩⟩
  have hmem : ∀ s ∈ ss, s = c.kw ∨ s = d.kw := fun s hs => by simpa using hpm.mem_iff.mp hs
  have shk : SeqAt.shaped (.list ([Str.ofString "number", Str.ofString "word"].map PyData.str)) = true := gqa (c := .num []) (d := .word []) fun s hs => by
   have hz : s = Str.ofString "number" ∨ s = Str.ofString "word" := by simpa using hs
   exact hz
  refine ⟨.list (ss.map PyData.str), .list ([Str.ofString "number", Str.ofString "word"].map PyData.str), .lst (s3 _ _ e2) (IsAll.strs _), .lst e3 (IsAll.strs _), gqa hmem, shk, ?_⟩
  rw [kqw, kqC h1 h2 h3 h4 hpm hso, Bool.not_not]
  exact k H3 ((s1.trans s2).trans s3)
theorem dqm (g : G K mg) : FnOk P w K mg base CX0 3 g.cqX g.cqs ["piece", "step"] (hqt K) := by
 refine g.cqa.ok hqw (fun vs H Q E h => ?_) (fun cdv A outer s H vs Q E hr h => ?_)
 ·obtain ⟨c, s, p, rfl, _⟩ := h; rfl
 ·obtain ⟨c, s, p, rfl, hp, hs, hh, ht, k⟩ := h
  refine ⟨_, (aqe (aqO (dqU (aql (jqb g) (hr.mono (by decide)) rfl g.iqt g.gqm.kp g.hq4 .nil pass0 (aqa (pv 1) aqc)))
    (aqf (aqp dqS)) aqw)
   (aqe (aqO (aqk aqF (aqn (aqd (K := K) rfl) (pv 0) aqb (fun _ _ => rfl)) aqm (nomark _))
    (aqf (aqp (aqz aqF (pv 1) (aqn (aqd (K := K) rfl) (pv 0) aqb (fun _ _ => rfl)) (nomark _)))) aqw)
   (aqe (aqO (aqk aqF (aqn (aqd (K := K) rfl) (pv 0) aqb (fun _ _ => rfl)) aqm (nomark _))
    (aqf (aqp (aql (gqJ g) (hr.mono (by decide)) rfl g.fqy g.dq1.kp g.fqk .nil pass0 (aqa (pv 0) (aqa (pv 1) aqc))))) aqw)
   (aqe (aqO (aqk aqF (aqn (aqd (K := K) rfl) (pv 0) aqb (fun _ _ => rfl)) aqm (nomark _))
    (aqf (aqp (aql (gqW g) (hr.mono (by decide)) rfl g.fqw g.dq0.kp g.fqJ .nil pass0 (aqa (pv 1) aqc)))) aqw)
   (aqf (aqp (dqz (aqk aqF (aqn (aqd (K := K) rfl) (pv 0) aqb (fun _ _ => rfl)) aqm (nomark _)) (aql (iqT g) (hr.mono (by decide)) rfl g.gq5 g.fqx.kp g.gqK .nil pass0 (aqa (pv 1) aqc)) dqS))))))), ?_⟩
  walk_at "rd"
  refine ⟨s, rfl, _, rfl, ?_⟩
  have kk := k
  by_cases hdt : isDot s = true
  ·rw [if_pos hdt]
   have e : fitsM c s = false := by unfold fitsM; rw [hdt]; rfl
   rw [e] at k
   exact k H (Same.refl _)
  rw [if_neg hdt]
  have hdf : isDot s = false := by simpa using hdt
  refine ⟨_, _, .inr hp, c.at0, ?_⟩
  refine L2.aqt.mpr ⟨_, rfl, ?_⟩
  rw [dqX]
  cases c with
  | step w =>
   refine ite2 (fun _ => ⟨_, _, .inr hp, aqh (j := 1) rfl, ?_⟩) (fun z => absurd rfl z)
   refine L2.aqt.mpr ?_
   have e : fitsM (.step w) s = decide ((⟨s.toArray⟩ : Str) = ⟨w.toArray⟩) := by
    unfold fitsM; rw [hdf]
    show decide (s = w) = _
    exact decide_eq_decide.mpr cqt.symm
   rw [← e]
   exact k H (Same.refl _)
  | part h n t =>
   refine ite2 (fun z => by cases z) (fun _ => ⟨_, _, .inr hp, Pc.at0 _, ?_⟩)
   refine L2.aqt.mpr ⟨_, rfl, ?_⟩
   rw [bqe]
   refine ite2 (fun _ => ?_) (fun z => absurd rfl z)
   have e : fitsM (.part h n t) s = partB h t s := by unfold fitsM; rw [hdf]; rfl
   exact ⟨h, n, t, s, p, rfl, hp, hs, hh, ht, by rw [← e]; exact k H (Same.refl _)⟩
  | num n =>
   refine ite2 (fun z => by cases z) (fun _ => ⟨_, _, .inr hp, Pc.at0 _, ?_⟩)
   refine L2.aqt.mpr ⟨_, rfl, ?_⟩
   rw [bqe]
   refine ite2 (fun z => by cases z) (fun _ => ⟨_, _, .inr hp, Pc.at0 _, ?_⟩)
   refine L2.aqt.mpr ⟨_, rfl, ?_⟩
   rw [eqQ]
   refine ite2 (fun _ => ?_) (fun z => absurd rfl z)
   have e : fitsM (.num n) s = numB s := by unfold fitsM; rw [hdf]; rfl
   exact ⟨s, rfl, hs, fun H' sm => by rw [← e]; exact k H' sm⟩
  | word n =>
   refine ite2 (fun z => by cases z) (fun _ => ⟨_, _, .inr hp, Pc.at0 _, ?_⟩)
   refine L2.aqt.mpr ⟨_, rfl, ?_⟩
   rw [bqe]
   refine ite2 (fun z => by cases z) (fun _ => ⟨_, _, .inr hp, Pc.at0 _, ?_⟩)
   refine L2.aqt.mpr ⟨_, rfl, ?_⟩
   rw [eqQ]
   refine ite2 (fun z => by cases z) (fun _ => ⟨_, _, .inr hp, Pc.at0 _, ?_⟩)
   refine L2.aqt.mpr ⟨_, rfl, ?_⟩
   rw [eqz]
   refine ite2 (fun _ => ?_) (fun z => absurd rfl z)
   have e : fitsM (.word n) s = wordB s := by unfold fitsM; rw [hdf]; rfl
   exact ⟨s, rfl, hs, fun H' sm => by rw [← e]; exact k H' sm⟩
  | _ =>
   refine ite2 (fun z => by cases z) (fun _ => ⟨_, _, .inr hp, Pc.at0 _, ?_⟩)
   refine L2.aqt.mpr ⟨_, rfl, ?_⟩
   rw [bqe]
   refine ite2 (fun z => by cases z) (fun _ => ⟨_, _, .inr hp, Pc.at0 _, ?_⟩)
   refine L2.aqt.mpr ⟨_, rfl, ?_⟩
   rw [eqQ]
   refine ite2 (fun z => by cases z) (fun _ => ⟨_, _, .inr hp, Pc.at0 _, ?_⟩)
   refine L2.aqt.mpr ⟨_, rfl, ?_⟩
   rw [eqz]
   refine ite2 (fun z => by cases z) (fun _ => ?_)
   have e := k H (Same.refl _)
   unfold fitsM at e
   rw [hdf] at e
   exact e
theorem eqs (g : G K mg) : FnOk P w K mg base CX0 3 g.cqm g.bqY ["_law_cell", "_law_name", "_law_signs_here"] (gqj K) := by
 refine g.cqp.ok bqW (fun vs H Q E h => ?_) (fun cdv A outer s H vs Q E hr h => ?_)
 ·obtain ⟨c, n, gg, rfl, _⟩ := h; rfl
 ·obtain ⟨c, n, gg, rfl, hg0, hg1, hgs, k⟩ := h
  refine ⟨_, (aqe (aqx (i := 3) bqW.nd rfl (Or.inl rfl) (aqs aqN (pv 0) aqb))
   (aqe (aqx (i := 4) bqW.nd rfl (Or.inl rfl) (aqs aqN (aqs cqZ (aqs aqQ (pv 0) aqb) aqb) aqb))
   (aqe (aqO (aqk iq6 (pv 3) aqb (nomark _))
    (aqf (aqp (aqy (aqa aqm (aqa (aql (hqu g) (hr.mono (by decide)) rfl g.fqE g.dq2.kp g.fqG .nil pass0 (aqa (aqs aqQ (pv 4) aqb) (aqa (pv 2) (aqa (aqs (aqH (K := K)) aqb (aqs aqN (pv 4) aqb)) aqc)))) aqc))))) aqw)
   (aqe (aqO (aqk aqF (pv 3) aqb (nomark _))
    (aqe (aqx (i := 5) bqW.nd rfl (Or.inl rfl) (aql (dq6 g) (hr.mono (by decide)) rfl g.dqE g.cqF.kp g.dqC .nil pass0 (aqa (aqs aqQ (pv 4) aqb) (aqa (pv 2) (aqa (aqs aqN (pv 4) aqb) aqc)))))
   (aqf (aqp (aqy (aqa aqm (aqa (pv 5) (aqa (pv 1) (aqa (aql (dq6 g) (hr.mono (by decide)) rfl g.dqE g.cqF.kp g.dqC .nil pass0 (aqa (aqs aqQ (pv 4) aqb) (aqa (pv 2) (aqa (aqs (aqH (K := K)) (cqb hqd rfl g.lqu lqa (aqa (aqz aqF (pv 5) aqm (nomark _)) aqc)) (aqs aqN (aqs aqQ (pv 4) aqb) aqb)) aqc)))) aqc)))))))) aqw)
   (aqf (aqp (aqy (aqa (aqn (aqd (K := K) rfl) (aqG (aqa aqm (aqa aqm (aqa aqm aqc)))) (aqs hq9 (pv 3) aqb) (fun _ _ => rfl)) (aqa (pv 1) aqc))))))))), ?_⟩
  walk_at "rd"
  have hm0 : 0 ≤ c / 6 * 48271 % 2147483647 := Int.emod_nonneg _ (by decide)
  refine ⟨by decide, ⟨by decide, by decide⟩, .inr ⟨by decide, by decide⟩, by decide, ?_⟩
  generalize c / 6 * 48271 % 2147483647 = mo at hm0
  have c0 := Int.emod_nonneg c (show (6 : Int) ≠ 0 by decide)
  have c1 := Int.emod_lt_of_pos c (show (0 : Int) < 6 by decide)
  refine ite2 (fun _ => ⟨⟨by decide, by decide⟩, by decide, ?_⟩) (fun h2 => ite2 (fun _ => ⟨⟨by decide, by decide⟩, by decide, ?_⟩) (fun h3 => ?_))
  ·obtain ⟨m, hm, hm3⟩ : ∃ m : Nat, 1 + mo % 3 = (m : Int) ∧ 1 ≤ m ∧ m ≤ 3 := ⟨(1 + mo % 3).toNat, by omega, by omega, by omega⟩
   rw [hm]
   refine ⟨_, gg, m, rfl, hg0, hg1, by omega, by omega, fun l l0 l1 _ lg ld => ⟨by decide, fun p H1 n1 s1 hp1 => ?_⟩⟩
   exact k (.step l) p H1 ⟨l0, by omega, fun x hx => (lg x hx).elim (hgs x) (fun z => by rw [z.2]; decide), ld⟩ rfl (fun z => by cases z) s1 hp1
  ·obtain ⟨m, hm, hm3⟩ : ∃ m : Nat, mo % 3 = (m : Int) ∧ m ≤ 2 := ⟨(mo % 3).toNat, by omega, by omega⟩
   rw [hm]
   refine ⟨_, gg, m, rfl, hg0, hg1, by omega, fun hd hdl hdg => ⟨⟨by decide, by decide⟩, aqt.mpr (nqk.mpr ⟨⟨by decide, by decide⟩, by decide, jq0.mpr ?_⟩)⟩⟩
   obtain ⟨b, hb, hb1⟩ : ∃ b : Nat, mo / 8 % 2 = (b : Int) ∧ b ≤ 1 := ⟨(mo / 8 % 2).toNat, by omega, by omega⟩
   obtain ⟨t, ht, ht2, ht0⟩ : ∃ t : Nat, (if decide ((⟨hd.toArray⟩ : Str) = ⟨#[]⟩) = true then 1 else 0) + mo / 8 % 2 = (t : Int) ∧ t ≤ 2 ∧ (hd = [] → 0 < t) := by
    rw [hb]
    by_cases he : hd = []
    ·rw [if_pos (decide_eq_true (by rw [he]))]
     exact ⟨1 + b, by omega, by omega, fun _ => by omega⟩
    ·rw [if_neg (fun z => he (nqC.mp (of_decide_eq_true z)))]
     exact ⟨b, by omega, by omega, fun z => absurd z he⟩
   rw [ht]
   refine ⟨_, gg, t, rfl, hg0, hg1, by omega, fun tl tll tlg => ⟨by decide, fun p H1 n1 s1 hp1 => ?_⟩⟩
   refine k (.part hd n tl) p H1 ⟨by omega, by omega, fun x hx => hgs x (hdg x hx), fun x hx => hgs x (tlg x hx), fun z => ?_⟩ rfl (fun _ => rfl) s1 hp1
   obtain ⟨z1, z2⟩ := List.append_eq_nil_iff.mp z
   have := ht0 z1
   rw [z2] at tll
   simp at tll
   omega
  ·refine ⟨by decide, fun p H1 n1 s1 hp1 => ?_⟩
   have h : c % 6 - 3 = 0 ∨ c % 6 - 3 = 1 ∨ c % 6 - 3 = 2 := by omega
   rcases h with h | h | h <;> rw [h]
   ·exact ⟨_, _, .inl (.of hp1), aqh (j := 0) rfl, by decide, fun p2 H2 n2 s2 e2 => k (.num n) p2 H2 trivial rfl (fun _ => rfl) (s1.trans s2) e2⟩
   ·exact ⟨_, _, .inl (.of hp1), aqh (j := 1) rfl, by decide, fun p2 H2 n2 s2 e2 => k (.word n) p2 H2 trivial rfl (fun _ => rfl) (s1.trans s2) e2⟩
   ·exact ⟨_, _, .inl (.of hp1), aqh (j := 2) rfl, by decide, fun p2 H2 n2 s2 e2 => k (.gap n) p2 H2 trivial rfl (fun _ => rfl) (s1.trans s2) e2⟩
theorem fqC (g : G K mg) : FnOk P w K mg base CX0 3 g.dqD g.cq4 ["_law_one", "_law_other"] (fqg K) := by
 refine g.dqI.ok dqW (fun vs H Q E h => ?_) (fun cdv A outer s H vs Q E hr h => ?_)
 ·obtain ⟨cs, ds, e, e', p, p', rfl, _⟩ := h; rfl
 ·obtain ⟨cs, ds, e, e', p, p', rfl, oc, od, ⟨q, xs, hp, hq, hx⟩, ⟨q', ys, hp', hq', hy⟩, k⟩ := h
  refine ⟨_, (aqe (aqx (i := 2) dqW.nd rfl (Or.inr rfl) (aqG (aqa (cqb (gqd (K := K) rfl) rfl g.jq7 jqi (aqa (aqn (aqd (K := K) rfl) (pv 0) aqb (fun _ _ => rfl)) aqc)) (aqa (cqb (gqd (K := K) rfl) rfl g.jq7 jqi (aqa (aqn (aqd (K := K) rfl) (pv 1) aqb (fun _ _ => rfl)) aqc)) aqc))))
   (aqe (eqo PassesOwn.never rfl (bqL rfl g.cq6 (aqa aqb aqc)) (bql (i := 3) dqW.nd rfl (Or.inl rfl))
   (aqf (aqO (PW.pt (fqt (aqk (iqc hr.units) (aqn (aqd (K := K) rfl) (pv 2) (pv 3) (fun _ _ => rfl)) (aqG aqc) (nomark _)) (eqK (aqk aqF (aqn (aqd (K := K) rfl) (aqn (aqd (K := K) rfl) (aqn (aqd (K := K) rfl) (pv 2) (pv 3) (fun _ _ => rfl)) (kq2 hq7 aqb) (fun _ _ => rfl)) aqb (fun _ _ => rfl)) aqm (nomark _)))))
    (aqf (kq3 PassesOwn.never (aqk iq6 (aqv (aqr (K := K) rfl) rfl g.aq6 PySem.boot_len (aqa (aqn (aqd (K := K) rfl) (pv 2) (pv 3) (fun _ _ => rfl)) aqc)) (aqv (aqr (K := K) rfl) rfl g.aq6 PySem.boot_len (aqa (aqn (aqd (K := K) rfl) (pv 2) (aqs hq9 aqb (pv 3)) (fun _ _ => rfl)) aqc)) (nomark _))
   (aqf (fqs (cqy (K := K) rfl PySem.F.plainAttrs_list PySem.F.slot_list_append PySem.F.type_list_append cqc (aqn (aqd (K := K) rfl) (pv 2) (pv 3) (fun _ _ => rfl)) (aqa (aqn (aqd (K := K) rfl) (aqn (aqd (K := K) rfl) (pv 2) (pv 3) (fun _ _ => rfl)) (kq2 hq7 aqb) (fun _ _ => rfl)) aqc)))))) aqw)))
   (aqe (aqO (PW.pt (gq3 (aqk gqr (aqn (aqd (K := K) rfl) (pv 0) aqb (fun _ _ => rfl)) (aqn (aqd (K := K) rfl) (pv 1) aqb (fun _ _ => rfl)) (nomark _)) (fql (aqk gqr (aqv (aqr (K := K) rfl) rfl g.aq6 PySem.boot_len (aqa (aqn (aqd (K := K) rfl) (pv 2) aqb (fun _ _ => rfl)) aqc)) (aqv (aqr (K := K) rfl) rfl g.aq6 PySem.boot_len (aqa (aqn (aqd (K := K) rfl) (pv 2) aqb (fun _ _ => rfl)) aqc)) (nomark _)))))
    (aqf (aqp dqS)) aqw)
   (aqf (aqp (aqz (fq3 hr.units) (cq5 (fx := ["_law_pieces"]) (fr := [2]) rfl rfl (by decide +kernel) rfl (by decide +kernel) rfl (by decide +kernel) rfl (.cons rfl rfl rfl rfl .nil) rfl (bqL rfl g.cq6 (aqa (aqv (aqr (K := K) rfl) rfl g.aq6 PySem.boot_len (aqa (aqn (aqd (K := K) rfl) (pv 2) aqb (fun _ _ => rfl)) aqc)) aqc)) (fun _ _ _ => (fqA (gqL (dqU (aql (hqV g) (hr.mono (by decide)) rfl g.fqW g.eqF.kp g.fq9 .nil pass0 (aqa (aqn (aqd (K := K) rfl) (aqn (aqd (K := K) rfl) (pv 1) aqb (fun _ _ => rfl)) (pv 0) (fun _ _ => rfl)) (aqa (aqn (aqd (K := K) rfl) (aqn (aqd (K := K) rfl) (pv 1) aqb (fun _ _ => rfl)) (pv 0) (fun _ _ => rfl)) aqc))))))) (fun _ _ _ => (pv 0))) (aqG aqc) (nomark _))))))), ?_⟩
  walk_at "rd"
  have hxl := hx.length
  have hyl := hy.length
  have c90 := oc.1
  have d90 := od.1
  refine ⟨_, _, .inr (.of hp), aqh (j := 0) rfl, ?_⟩
  walk_at "rd"
  refine ⟨_, .inr (.of hq), fun la H1 n1 s1 ha => ⟨_, _, .inr (.of (s1 _ _ hp')), aqh (j := 0) rfl, ?_⟩⟩
  walk_at "rd"
  refine ⟨_, .inr (.of (s1 _ _ hq')), fun lb H2 n2 s2 hb => ⟨by decide, fun lp H3 n3 s3 hlp => ⟨by decide, by decide, ?_⟩⟩⟩
  have nab : la ≠ lb := fun z => by rw [← z, ha] at n2; cases n2
  have nap : la ≠ lp := fun z => by rw [← z, s2 _ _ ha] at n3; cases n3
  have nbp : lb ≠ lp := fun z => by rw [← z, hb] at n3; cases n3
  have mb : H lb = none := fqh s1 n2
  have s03 := (s1.trans s2).trans s3
  refine bq2 (fun i σ H' => Same H H' ∧ H' lp = some (.lst [.ref la, .ref lb]) ∧ ∃ (zs us : List V) (v3 : Option V), H' la = some (.lst zs) ∧ PcT H' (if i = 0 then cs else padM cs ds.length) zs ∧ H' lb = some (.lst us) ∧ PcT H' (if i ≤ 1 then ds else padM ds (padM cs ds.length).length) us ∧ σ = [some (.ref p), some (.ref p'), some (.ref lp), v3]) ⟨s03, hlp, xs, ys, none, (s2.trans s3) _ _ ha, hx.mono s03.toT, s3 _ _ hb, hy.mono s03.toT, rfl⟩ ?_ ?_
  ·rintro i σ H4 hi ⟨s4, hlp4, zs4, us4, v3, hza, hZ, hub, hU, rfl⟩
   have hi2 : i < 2 := by simpa using hi
   obtain ⟨l1, l2, A, B, zs, us, ne, n1p, m1, hat1, hat2, h1, hA, h2, hB, okA, lenA, lenB, fin⟩ : ∃ (l1 l2 : Addr) (A B : List Pc) (zs us : List V), l1 ≠ l2 ∧ l1 ≠ lp ∧ H l1 = none ∧ atI [V.ref la, V.ref lb] (0 + (i : Int)) = some (.ref l1) ∧ atI [V.ref la, V.ref lb] (1 - (0 + (i : Int))) = some (.ref l2) ∧ H4 l1 = some (.lst zs) ∧ PcT H4 A zs ∧ H4 l2 = some (.lst us) ∧ PcT H4 B us ∧ (∀ c ∈ A, PcOk c ∧ PcSg c) ∧ A.length ≤ 100 ∧ B.length ≤ 100 ∧
     ∀ (H5 : Hp) (zs' : List V), Same H H5 → SameT H4 H5 → H5 lp = some (.lst [.ref la, .ref lb]) → H5 l1 = some (.lst zs') → PcT H5 (padM A B.length) zs' → H5 l2 = some (.lst us) → Same H H5 ∧ H5 lp = some (.lst [.ref la, .ref lb]) ∧ ∃ (zs us : List V) (v3 : Option V), H5 la = some (.lst zs) ∧ PcT H5 (if i + 1 = 0 then cs else padM cs ds.length) zs ∧ H5 lb = some (.lst us) ∧ PcT H5 (if i + 1 ≤ 1 then ds else padM ds (padM cs ds.length).length) us ∧ some (V.int (0 + (i : Int))) = v3 := by
    match i, hi2 with
    | 0, _ => exact ⟨la, lb, cs, ds, zs4, us4, nab, nap, n1, rfl, rfl, hza, hZ, hub, hU, oc.2, by omega, by omega, fun H5 zs' a1 a2 a3 a4 a5 a6 => ⟨a1, a3, zs', us4, _, a4, a5, a6, hU.mono a2, rfl⟩⟩
    | 1, _ => exact ⟨lb, la, ds, padM cs ds.length, us4, zs4, nab.symm, nbp, mb, rfl, rfl, hub, hU, hza, hZ, od.2, by omega, jqn (by omega) (by omega), fun H5 zs' a1 a2 a3 a4 a5 a6 => ⟨a1, a3, zs4, zs', _, a6, hZ.mono a2, a4, a5, rfl⟩⟩
   clear hza hZ hub hU
   have hAl := hA.length
   have hBl := hB.length
   walk_at "rd"
   refine ⟨_, _, .inl (.of hlp4), hat1, by decide, fun p5 H5 n5 s5 hp5 => ?_⟩
   have h15 := s5 _ _ h1
   have hA5 := hA.mono s5.toT
   have s05 := s4.trans s5
   refine ⟨.list (A.map pcD), .list [], .lst h15 hA5.isT.is, .lst hp5 .nil, (eq1 fun c hc => (okA c hc).2).shaped (by decide), by decide +kernel, _, rfl, ?_⟩
   rw [cqk]
   have keep := fun hr : hasRest A = false => fin H5 zs s05 s5.toT (s5 _ _ hlp4) h15 (by rw [nqj hr]; exact hA5) (s5 _ _ h2)
   refine ite2 (fun hne => ?_) (fun hne => keep ?_)
   rotate_left
   ·cases A with
    | nil => rfl
    | cons a b => exact absurd rfl hne
   obtain ⟨c, hc⟩ : ∃ c, A.getLast? = some c := by
    cases hcl : A.getLast? with
    | some c => exact ⟨c, rfl⟩
    | none => rw [List.getLast?_eq_none_iff] at hcl; subst hcl; cases hne
   have hc' := hc
   rw [List.getLast?_eq_getElem?] at hc'
   have hcl := (List.getElem?_eq_some_iff.mp hc').1
   obtain ⟨v, hv⟩ : ∃ v, zs[A.length - 1]? = some v := ⟨_, List.getElem?_eq_getElem (by omega)⟩
   obtain ⟨c2, pc, hc2, rfl, hpc⟩ := hA5.get hv
   rw [hc'] at hc2
   cases hc2
   have hvl : zs.getLast? = some (.ref pc) := by rw [List.getLast?_eq_getElem?, hAl]; exact hv
   have hat : ∀ j : Nat, atI (zs ++ List.replicate j (V.ref pc)) (-1) = some (.ref pc) := fun j => by
    have := hq5 (l := zs ++ List.replicate j (V.ref pc)) (s := .ref pc) id (by
     cases j with
     | zero => simpa using hvl
     | succ j => rw [List.getLast?_append, List.getLast?_replicate]; simp)
    simpa using this
   refine ⟨_, _, .inl (.of (s5 _ _ hlp4)), hat1, ?_⟩
   walk_at "rd"
   refine ⟨_, _, .inl (.of h15), by simpa using hat 0, ?_⟩
   walk_at "rd"
   refine ⟨_, _, .inr (.of hpc), c.at0, ?_⟩
   refine L2.aqt.mpr ⟨_, rfl, ?_⟩
   rw [hqZ]
   refine ite2 (fun hr => ?_) (fun hr => keep (by unfold hasRest; rw [hc]; simpa using hr))
   refine mqk (fun m σ H6 => ∃ j : Nat, m = B.length - (A.length + j) ∧ (j = 0 ∨ A.length + j ≤ B.length) ∧ σ = [some (.ref p), some (.ref p'), some (.ref lp), some (.int (0 + (i : Int)))] ∧ Same H H6 ∧ SameT H4 H6 ∧ H6 lp = some (.lst [.ref la, .ref lb]) ∧ H6 l1 = some (.lst (zs ++ List.replicate j (.ref pc))) ∧ PcT H6 (A ++ List.replicate j c) (zs ++ List.replicate j (.ref pc)) ∧ H6 pc = some (.tup c.vals) ∧ H6 l2 = some (.lst us)) (B.length - A.length) ⟨0, rfl, .inl rfl, rfl, s05, s5.toT, s5 _ _ hlp4, by simpa using h15, by simpa using hA5, hpc, s5 _ _ h2⟩ ?_
   rintro m σ H6 ⟨j, rfl, hj, rfl, s6, t6, hlp6, h16, hT6, hpc6, h26⟩
   walk_at "rd"
   have hyl' : (zs ++ List.replicate j (V.ref pc)).length = A.length + j := by rw [List.length_append, List.length_replicate, hAl]
   refine ⟨_, _, .inl (.of hlp6), hat1, ?_⟩
   walk_at "rd"
   refine ⟨_, .inl (.of h16), _, _, .inl (.of hlp6), hat2, ?_⟩
   walk_at "rd"
   refine ⟨_, .inl (.of h26), ite2 (fun hlt => ?_) (fun hge => ?_)⟩
   ·have hlt : A.length + j < B.length := by rw [hyl', hBl] at hlt; omega
    refine ⟨fun σ' H7 => σ' = [some (.ref p), some (.ref p'), some (.ref lp), some (.int (0 + (i : Int)))] ∧ H7 = upd H6 l1 (.lst (zs ++ List.replicate j (V.ref pc) ++ [.ref pc])), ?_, ?_⟩
    ·rintro σ' H7 ⟨rfl, rfl⟩
     have tk : SameT H6 (upd H6 l1 (.lst (zs ++ List.replicate j (V.ref pc) ++ [.ref pc]))) := fun b o hb => by
      rw [aqu (fun z => by subst z; rw [h16] at hb; cases hb)]; exact hb
     have er : zs ++ List.replicate (j + 1) (V.ref pc) = zs ++ List.replicate j (V.ref pc) ++ [.ref pc] := by rw [List.replicate_succ', List.append_assoc]
     have ec : A ++ List.replicate (j + 1) c = A ++ List.replicate j c ++ [c] := by rw [List.replicate_succ', List.append_assoc]
     refine ⟨B.length - (A.length + (j + 1)), by omega, j + 1, rfl, .inr (by omega), rfl, fun b o hb => ?_, t6.trans tk, by rw [aqu (Ne.symm n1p)]; exact hlp6, ?_, ?_, tk _ _ hpc6, by rw [aqu (Ne.symm ne)]; exact h26⟩
     ·rw [aqu (fun z => by subst z; rw [m1] at hb; cases hb)]; exact s6 _ _ hb
     ·rw [er]; exact aqq
     ·rw [er, ec]
      exact PcT.append (.cons (tk _ _ hpc6) .nil) (hT6.mono tk)
    ·refine ⟨_, _, .inl (.of hlp6), hat1, .inl ⟨rfl, _, .of h16⟩, _, _, .inl (.of hlp6), hat1, ?_⟩
     walk_at "rd"
     refine ⟨_, _, .inl (.of h16), hat j, ?_⟩
     refine ⟨_, h16, ?_, rfl⟩
     rw [hyl']; exact Nat.lt_of_lt_of_le (show A.length + j < 100000 by omega) (aqj (Nat.le_refl _))
   ·have hge : B.length ≤ A.length + j := by rw [hyl', hBl] at hge; omega
    refine fin H6 _ s6 t6 hlp6 h16 ?_ h26
    rw [kqu hc hr, show B.length - A.length = j by omega]
    exact hT6
  ·rintro σ H4 ⟨s4, hlp4, zs, us, v3, hza, hZ, hub, hU, rfl⟩
   have hZ : PcT H4 (padM cs ds.length) zs := hZ
   have hU : PcT H4 (padM ds (padM cs ds.length).length) us := hU
   have hzl := hZ.length
   have hul := hU.length
   have lz : (padM cs ds.length).length ≤ 90 := jqn (by omega) (by omega)
   have oz : ∀ c ∈ padM cs ds.length, PcOk c := fun c hc => (oc.2 c (jqt hc)).1
   have ou : ∀ c ∈ padM ds (padM cs ds.length).length, PcOk c := fun c hc => (od.2 c (jqt hc)).1
   have eD : dueM cs e ds e' = (decide (e = e') && (decide ((padM cs ds.length).length = (padM ds (padM cs ds.length).length).length) && (List.zipWith mayM (padM cs ds.length) (padM ds (padM cs ds.length).length)).all id)) := rfl
   generalize padM ds (padM cs ds.length).length = B at *
   generalize padM cs ds.length = A at *
   walk_at "rd"
   refine ⟨_, _, .inr (.of (s4 _ _ hp)), aqh (j := 1) rfl, _, _, .inr (.of (s4 _ _ hp')), aqh (j := 1) rfl, L2.hqE.mpr ⟨_, rfl, ?_⟩⟩
   by_cases hee : e = e'
   rotate_left
   ·rw [eD, decide_eq_false hee, Bool.false_and] at k
    exact ite2 (fun _ => k H4 s4) (fun z => absurd (by rw [decide_eq_false hee]; rfl) z)
   rw [eD, decide_eq_true hee, Bool.true_and] at k
   refine ite2 (fun z => by rw [decide_eq_true hee] at z; cases z) (fun _ => ?_)
   refine ⟨_, _, .inl (.of hlp4), aqh (j := 0) rfl, ?_⟩
   walk_at "rd"
   refine ⟨_, .inl (.of hza), _, _, .inl (.of hlp4), aqh (j := 1) rfl, ?_⟩
   walk_at "rd"
   refine ⟨_, .inl (.of hub), ite2 (fun hne => ?_) (fun he => ?_)⟩
   ·rw [decide_eq_false (show ¬ A.length = B.length from fun z => hne (by rw [hzl, hul, z])), Bool.false_and] at k
    exact k H4 s4
   have heq : A.length = B.length := by
    have := Classical.not_not.mp he
    rw [hzl, hul] at this
    omega
   rw [decide_eq_true heq, Bool.true_and] at k
   have hZl : (List.zipWith mayM A B).length = A.length := by rw [List.length_zipWith]; omega
   refine ⟨_, _, .inl (.of hlp4), aqh (j := 0) rfl, ?_⟩
   walk_at "rd"
   refine ⟨_, .inl (.of hza), by rw [hzl]; omega, by rw [hzl]; omega, fun l3 n3 => ?_⟩
   rw [hzl, Int.toNat_natCast]
   refine hqH (fun i => !((List.zipWith mayM A B)[i]?.getD true)) (fun i => V.int (0 + (i : Int))) (aqj (by omega)) n3 (fun i hi H5 R s5 hR => ?_) (fun i hi hf H5 T s5 hT => ?_) (fun H5 s5 hl5 => ?_)
   ·obtain ⟨v, hv⟩ : ∃ v, zs[i]? = some v := ⟨_, List.getElem?_eq_getElem (by omega)⟩
    obtain ⟨c, pc, hc, rfl, hpc⟩ := hZ.get hv
    obtain ⟨u, hu⟩ : ∃ u, us[i]? = some u := ⟨_, List.getElem?_eq_getElem (by omega)⟩
    obtain ⟨d, pd, hd, rfl, hpd⟩ := hU.get hu
    have hzi : (List.zipWith mayM A B)[i]? = some (mayM c d) := by rw [List.getElem?_zipWith, hc, hd]
    rw [hzi] at hR
    walk_at "rd"
    refine ⟨_, _, .inl (.of (s5 _ _ hlp4)), aqh (j := 0) rfl, ?_⟩
    walk_at "rd"
    refine ⟨_, _, .inl (.of (s5 _ _ hza)), by rw [Int.zero_add]; exact aqh hv, _, _, .inl (.of (s5 _ _ hlp4)), aqh (j := 1) rfl, ?_⟩
    walk_at "rd"
    refine ⟨_, _, .inl (.of (s5 _ _ hub)), by rw [Int.zero_add]; exact aqh hu, ?_⟩
    exact ⟨c, d, pc, pd, rfl, .of (s5 _ _ hpc), .of (s5 _ _ hpd), oz c (List.mem_of_getElem? hc), ou d (List.mem_of_getElem? hd), fun H6 s6 => ⟨_, rfl, hR H6 s6⟩⟩
   ·walk_at "rd"
    exact hT H5 (Same.refl _)
   ·refine ⟨by decide, fun p6 H6 n6 s6 hp6 => ?_⟩
    have em : ((List.range A.length).filter fun i => !((List.zipWith mayM A B)[i]?.getD true)).map (fun i : Nat => V.int (0 + (i : Int))) = (((List.range A.length).filter fun i => !((List.zipWith mayM A B)[i]?.getD true)).map (fun i : Nat => (0 + (i : Int)))).map V.int := by rw [List.map_map]; rfl
    rw [em] at hl5
    refine ⟨_, .list [], .lst (s6 _ _ hl5) (fqY _), .lst hp6 .nil, hqU _, by decide, ?_⟩
    rw [cqk, List.isEmpty_map, List.isEmpty_map]
    have := range_all (List.zipWith mayM A B)
    rw [hZl] at this
    rw [this]
    exact k H6 ((s4.trans s5).trans s6)
theorem cq8 (g : G K mg) : FnOk P w K mg base CX0 4 g.bqm g.aq8 ["piece"] (bqO K) := by
 refine g.bqu.ok cq9 (fun vs H Q E h => ?_) (fun cdv A outer s H vs Q E hr h => ?_)
 ·obtain ⟨c, p, rfl, _⟩ := h; rfl
 ·obtain ⟨c, p, rfl, hp, hz, k⟩ := h
  refine ⟨_, (bqn (aqx (i := 1) cq9.nd rfl (Or.inl rfl) (dqz (dqU (aql (fqD g) (hr.mono (by decide)) rfl g.fqb g.eqb.kp g.eq9 .nil pass0 (aqa (pv 0) aqc))) (aql (dqk g) (hr.mono (by decide)) rfl g.cqv g.bqI.kp g.cqw .nil pass0 (aqa (aql (dqG g) (hr.mono (by decide)) rfl g.dqp g.cqz.kp g.dqf .nil pass0 (aqa (pv 0) aqc)) (aqa (aql (dqH g) (hr.mono (by decide)) rfl g.dql g.cqH.kp g.dqv .nil pass0 (aqa (pv 0) aqc)) aqc))) (aqG (aqa (aqn (aqd (K := K) rfl) (pv 0) aqb (fun _ _ => rfl)) aqc))))
   (aqf (aqp (cq5 (fx := ["piece"]) (fr := [0]) rfl rfl (by decide +kernel) rfl (by decide +kernel) rfl (by decide +kernel) rfl (.cons rfl rfl rfl rfl .nil) rfl (eq4 (K := K) rfl (pv 1)) (fun _ _ _ => (fqA (dqU (aql (dqm g) (hr.mono (by decide)) rfl g.cqT g.cqa.kp g.cqP .nil pass0 (aqa (pv 1) (aqa (pv 0) aqc)))))) (fun _ _ _ => (pv 0)))))), ?_⟩
  walk_at "rd"
  refine ⟨fun σ H1 => Same H H1 ∧ ∃ (l : Addr) (ts : List (List Nat)), σ = [some (.ref p), some (.ref l)] ∧ H1 l = some (.lst (ts.map tV)) ∧ ts.filter (fitsM c) = fitT c ∧ (∀ t ∈ ts, t.length ≤ 90000) ∧ ts.length ≤ 4, ⟨c, p, rfl, hp, _, rfl, ?_⟩, ?_⟩
  ·cases hst : c.isStep with
   | true =>
    refine ite2 (fun z => absurd z (by decide)) (fun _ => ?_)
    cases c with
    | step w => exact ⟨_, _, .inr hp, aqh (j := 1) rfl, by decide, fun p1 H1 n1 s1 hp1 => ⟨s1, p1, [w], rfl, hp1, rfl, fun t ht => by rw [List.mem_singleton.mp ht]; have := hz.2.2 w rfl; omega, (show 1 ≤ 4 by decide)⟩⟩
    | _ => cases hst
   | false =>
    refine ite2 (fun _ => ?_) (fun z => absurd rfl z)
    refine ⟨c, p, rfl, hp, c, p, rfl, hp, c.head, c.tail, rfl, hz.1, hz.2.1, fun l H1 s1 hl => ⟨s1, l, trialsM c.head c.tail, rfl, hl, ?_, fun t ht => ?_, (show 4 ≤ 4 by decide)⟩⟩
    ·cases c with
     | step w => cases hst
     | _ => rfl
    ·obtain ⟨x, _, rfl⟩ := List.mem_map.mp ht
     have := hz.1
     have := hz.2.1
     simp only [List.length_append, List.length_singleton]
     omega
  rintro σ H1 ⟨s1, l, ts, rfl, hl, hf, htl, ht4⟩
  walk_at "rd"
  refine ⟨⟨_, .of hl⟩, fun p2 n2 => ?_⟩
  have hfv : ∀ t, (match tV t with | .str s => fitsM c s.cps.toList | _ => false) = fitsM c t := fun t => rfl
  refine iqJ (fun v => match v with | .str s => fitsM c s.cps.toList | _ => false) (fun v => v) (.of hl) (by rw [List.length_map]; exact aqj (by omega)) n2 (fun i x hx H2 R s2 hR => ?_) (fun i x hx hft H2 T s2 hT => ?_) (fun H2 s2 hp2 => ?_)
  ·rw [List.getElem?_map] at hx
   obtain ⟨t, ht, rfl⟩ := Option.map_eq_some_iff.mp hx
   have htm := htl t (List.mem_of_getElem? ht)
   have h1 := hz.1
   have h2 := hz.2.1
   walk_at "rd"
   exact ⟨c, t, p, rfl, (s1.trans s2).tup hp, by omega, by omega, by omega, fun H3 s3 => ⟨_, rfl, hR H3 s3⟩⟩
  ·walk_at "rd"
   exact hT H2 (Same.refl _)
  ·refine k p2 H2 (s1.trans s2) ?_
   rw [hp2, ← hf, List.map_id', List.filter_map]
   rfl
theorem dqu (g : G K mg) : FnOk P w K mg base CX0 4 g.bqH g.bqo ["_law_cells_here", "_law_names_here", "_law_signs_here"] (fqM K) := by
 refine g.bqG.ok bqs (fun vs H Q E h => ?_) (fun cdv A outer s H vs Q E hr h => ?_)
 ·obtain ⟨pc, pn, gg, ns, is, rfl, _⟩ := h; rfl
 ·obtain ⟨pc, pn, gg, ns, is, rfl, hpc, hil, hpn, hnl, hnd, hns, hg0, hg1, hgs, k⟩ := h
  refine ⟨_, (aqe (aqx (i := 3) bqs.nd rfl (Or.inl rfl) (aqn (aqd (K := K) rfl) (pv 0) aqb (fun _ _ => rfl)))
   (aqe (aqx (i := 4) bqs.nd rfl (Or.inl rfl) (aqG aqc))
   (bqn (eqo PassesOwn.never rfl (bqL rfl g.cq6 (aqa (aqs aqN (pv 3) aqb) aqc)) (bql (i := 5) bqs.nd rfl (Or.inl rfl))
   (aqf (fqs (cqy (K := K) rfl PySem.F.plainAttrs_list PySem.F.slot_list_append PySem.F.type_list_append cqc (pv 4) (aqa (aql (eqs g) (hr.mono (by decide)) rfl g.dqq g.cqp.kp g.dqg .nil pass0 (aqa (aqn (aqd (K := K) rfl) (pv 0) (aqs (aqH (K := K)) aqb (pv 5)) (fun _ _ => rfl)) (aqa (aqn (aqd (K := K) rfl) (pv 1) (pv 5) (fun _ _ => rfl)) (aqa (pv 2) aqc)))) aqc)))))
   (bqn (aqO (aqk aqF (aqs aqN (aqs aqQ (pv 3) aqb) aqb) aqb (nomark _))
    (aqf (fqs (cqy (K := K) rfl PySem.F.plainAttrs_list PySem.F.slot_list_append PySem.F.type_list_append cqc (pv 4) (aqa (aqy (aqa aqm (aqa (aqn (aqd (K := K) rfl) (pv 1) aqb (fun _ _ => rfl)) aqc))) aqc)))) aqw)
   (aqf (aqp (aqy (aqa (cqb (dq4 (K := K) rfl) rfl g.gqp gqw (aqa (pv 4) aqc)) (aqa (hqF (aqz (fq3 hr.units) (pv 4) (aqG aqc) (nomark _)) (bq8 (aqz aqF (aqs aqN (aqs aqQ (pv 3) aqb) aqb) aqb (nomark _)))) aqc))))))))), ?_⟩
  walk_at "rd"
  have ix : ∀ (j : Nat) (hj : j < is.length), atI (is.map V.int) (j : Int) = some (.int is[j]) := fun j hj => aqh (by rw [List.getElem?_map, List.getElem?_eq_getElem hj]; rfl)
  have nx : ∀ (j : Nat) (hj : j < ns.length), atI (ns.map tV) (j : Int) = some (tV ns[j]) := fun j hj => aqh (by rw [List.getElem?_map, List.getElem?_eq_getElem hj]; rfl)
  refine ⟨_, .int is[0], .inl (.of hpc), ix 0 (by omega), by decide, fun p1 H1 n1 s1 hp1 => ?_⟩
  generalize is[0] = hd
  obtain ⟨m, hm, hm5⟩ : ∃ m : Nat, hd % 6 = (m : Int) ∧ m ≤ 5 := ⟨(hd % 6).toNat, by omega, by omega⟩
  refine ⟨fun σ H' => SameBut p1 H H' ∧ ∃ (v5 : Option V) (ps : List Pc) (xs : List V), σ = [some (.ref pc), some (.ref pn), some (tV gg), some (.int hd), some (.ref p1), v5] ∧ PcT H' ps xs ∧ H' p1 = some (.lst xs) ∧ ps.length ≤ 5 ∧ (∀ x ∈ ps, PcOk x ∧ x.isRest = false) ∧ (∀ (i : Nat) (x : Pc), ps[i]? = some x → x.isStep = false → ns[i]? = some x.name), rd_I.mpr ⟨by decide, _, rfl, by omega, by omega, ?_⟩, ?_⟩
  ·rw [hm, Int.toNat_natCast]
   refine bq2 (fun i σ H' => SameBut p1 H H' ∧ ∃ (v5 : Option V) (ps : List Pc) (xs : List V), σ = [some (.ref pc), some (.ref pn), some (tV gg), some (.int hd), some (.ref p1), v5] ∧ PcT H' ps xs ∧ H' p1 = some (.lst xs) ∧ ps.length = i ∧ (∀ x ∈ ps, PcOk x ∧ x.isRest = false) ∧ (∀ (i : Nat) (x : Pc), ps[i]? = some x → x.isStep = false → ns[i]? = some x.name)) ⟨Same.but s1, none, [], [], rfl, .nil, hp1, rfl, (fun x hx => by cases hx), fun i x hx => by cases hx⟩ ?_ ?_
   ·rintro i σ H2 hi ⟨sb, v5, ps, xs, rfl, hP, hl2, hpl, hok, hnm⟩
    have s2 := sb.same n1
    have hxl := hP.length
    walk_at "rd"
    rw [show (1 + (0 + (i : Int))) = ((i + 1 : Nat) : Int) by omega, show (0 + (i : Int)) = ((i : Nat) : Int) by omega]
    refine ⟨⟨_, .of hl2⟩, _, _, .inl (.of (s2 _ _ hpc)), ix (i + 1) (by omega), _, _, .inl (.of (s2 _ _ hpn)), nx i (by omega), _, ns[i], gg, rfl, hg0, hg1, hgs, fun x b H3 ok1 ok2 ok3 s3 hb => ?_⟩
    have hbp : b ≠ p1 := fun z => by rw [z, s3 _ _ hl2] at hb; cases hb
    refine ⟨_, s3 _ _ hl2, by rw [hxl]; exact Nat.lt_of_le_of_lt (show ps.length ≤ 5 by omega) (by decide), (sb.trans s3.but).trans cqQ, _, ps ++ [x], xs ++ [.ref b], rfl, ?_, aqq, by rw [List.length_append, List.length_singleton, hpl], fun y hy => ?_, fun j y hj hst => ?_⟩
    ·have t3 : SameT H2 (upd H3 p1 (.lst (xs ++ [.ref b]))) := fun d ys e => by
      rw [aqu (fun z => by rw [z, hl2] at e; cases e)]
      exact s3 _ _ e
     exact PcT.append (.cons (by rw [aqu hbp]; exact hb) .nil) (hP.mono t3)
    ·rcases List.mem_append.mp hy with z | z
     ·exact hok y z
     ·rw [List.mem_singleton.mp z]; exact ⟨ok1, ok2⟩
    ·by_cases hj2 : j < ps.length
     ·rw [List.getElem?_append_left hj2] at hj
      exact hnm j y hj hst
     ·rw [List.getElem?_append_right (by omega)] at hj
      have hk3 : j - ps.length = 0 := by
       cases hh : j - ps.length with
       | zero => rfl
       | succ z => rw [hh] at hj; cases hj
      rw [hk3] at hj
      cases hj
      rw [show j = i by omega, ok3 hst]
      exact List.getElem?_eq_getElem (by omega)
   ·rintro σ H2 ⟨sb, v5, ps, xs, rfl, hP, hl2, hpl, hok, hnm⟩
    exact ⟨sb, v5, ps, xs, rfl, hP, hl2, by omega, hok, hnm⟩
  rintro σ H2 ⟨sb, v5, ps, xs, rfl, hP, hl2, hpl, hok, hnm⟩
  have hxl := hP.length
  walk_at "rd"
  refine ⟨fun σ H' => SameBut p1 H H' ∧ ∃ (ps : List Pc) (xs : List V), σ = [some (.ref pc), some (.ref pn), some (tV gg), some (.int hd), some (.ref p1), v5] ∧ PcT H' ps xs ∧ H' p1 = some (.lst xs) ∧ ps.length ≤ 6 ∧ PatOk ps ∧ (gapsM ps).Nodup ∧ ∀ n ∈ gapsM ps, n ∈ ns, ⟨⟨by decide, by decide⟩, by decide, ite2 (fun _ => ?_) (fun _ => ?_)⟩, ?_⟩
  ·have s2 := sb.same n1
   refine ⟨⟨_, .of hl2⟩, _, _, .inl (.of (s2 _ _ hpn)), nx 6 (by omega), by decide, fun p3 H3 n3 s3 hp3 => ?_⟩
   have h3p : p3 ≠ p1 := fun z => by rw [z, s3 _ _ hl2] at hp3; cases hp3
   have t3 : SameT H2 (upd H3 p1 (.lst (xs ++ [.ref p3]))) := fun d ys e => by
    rw [aqu (fun z => by rw [z, hl2] at e; cases e)]
    exact s3 _ _ e
   obtain ⟨g1, g2⟩ := eqI (fqz hnd (r := ps.length) (j := 6) (by omega) (by omega)) (cs := ps ++ [.rest ns[6]]) 0 (fun i c hc hs => by
    rw [Nat.zero_add]
    by_cases hi : i < ps.length
    ·rw [List.getElem?_append_left hi] at hc
     rw [List.getElem?_append_left (by rw [List.length_take]; omega), List.getElem?_take, if_pos hi]
     exact hnm i c hc hs
    ·have h9 := (List.getElem?_eq_some_iff.mp hc).1
     rw [List.length_append, List.length_singleton] at h9
     have hi3 : i = ps.length := by omega
     subst hi3
     rw [List.getElem?_append_right (Nat.le_refl _), Nat.sub_self] at hc
     cases hc
     rw [List.getElem?_append_right (by rw [List.length_take]; omega), List.length_take, show ps.length - min ps.length ns.length = 0 by omega]
     rfl)
   refine ⟨_, s3 _ _ hl2, by rw [hxl]; exact Nat.lt_of_le_of_lt (show ps.length ≤ 5 by omega) (by decide), (sb.trans s3.but).trans cqQ, ps ++ [.rest ns[6]], xs ++ [.ref p3], rfl, PcT.append (.cons (by rw [aqu h3p]; exact hp3) .nil) (hP.mono t3), aqq, by rw [List.length_append, List.length_singleton]; omega, ⟨fun x hx => ?_, fun i x hi hrs => ?_⟩, g1, fun n hn => ?_⟩
   ·rcases List.mem_append.mp hx with z | z
    ·exact (hok x z).1
    ·rw [List.mem_singleton.mp z]; trivial
   ·rw [List.length_append, List.length_singleton]
    by_cases hi2 : i < ps.length
    ·rw [List.getElem?_append_left hi2] at hi
     rw [(hok x (List.mem_of_getElem? hi)).2] at hrs; cases hrs
    ·have h9 := (List.getElem?_eq_some_iff.mp hi).1
     rw [List.length_append, List.length_singleton] at h9
     omega
   ·obtain ⟨j, _, hj⟩ := g2 n hn
    rcases List.mem_append.mp (List.mem_of_getElem? hj) with z | z
    ·exact List.mem_of_mem_take z
    ·rw [List.mem_singleton.mp z]; exact List.getElem_mem _
  ·obtain ⟨g1, g2⟩ := eqI hnd (cs := ps) 0 (fun i c hc hs => by rw [Nat.zero_add]; exact hnm i c hc hs)
   exact ⟨sb, ps, xs, rfl, hP, hl2, by omega, ⟨fun x hx => (hok x hx).1, fun i x hi hrs => by rw [(hok x (List.mem_of_getElem? hi)).2] at hrs; cases hrs⟩, g1, fun n hn => by obtain ⟨j, _, hj⟩ := g2 n hn; exact List.mem_of_getElem? hj⟩
  clear hP hl2 hpl hok hnm hxl sb
  rintro σ H3 ⟨sb, ps, xs, rfl, hP, hl3, hpl, hok, hgn, hgi⟩
  have s3 := sb.same n1
  have hsg : ∀ x ∈ ps, PcSg x := fun x hx => by
   have ok := hok.1 x hx
   refine ⟨fun l e => ?_, fun a b d e => ?_, fun y hy => ?_⟩
   ·rw [e] at ok; exact ok.2.2.1
   ·rw [e] at ok; exact ⟨ok.2.2.1, ok.2.2.2.1⟩
   ·cases hst : x.isStep with
    | true =>
     cases x with
     | step l => cases hy
     | _ => cases hst
    | false => exact hns _ (hgi x.name (by unfold gapsM; exact List.mem_map_of_mem (List.mem_filter.mpr ⟨hx, by simp [hst]⟩))) y hy
  walk_at "rd"
  refine ⟨xs, .inl (.of hl3), fun l H4 s4 hl4 => ⟨by decide, fun p5 H5 n5 s5 hp5 => ?_⟩⟩
  have s35 := s4.trans s5
  refine ⟨.list (ps.map pcD), .list [], .lst (s35 _ _ hl3) (hP.mono s35.toT).isT.is, .lst hp5 .nil, (eq1 hsg).shaped (by decide), by decide +kernel, _, rfl, ?_⟩
  rw [cqk, List.isEmpty_map]
  refine ite2 (fun he => ⟨by decide, fun p6 H6 n6 s6 hp6 => ?_⟩) (fun he => ⟨⟨by decide, by decide⟩, by decide, by decide, fun p6 H6 n6 s6 hp6 => ?_⟩)
  ·exact k ps true p6 l xs H6 hok hpl hgn hgi (fun _ => rfl) ((s3.trans s35).trans s6) ((s5.trans s6) _ _ hl4) (hP.mono (s35.trans s6).toT) hp6
  ·exact k ps _ p6 l xs H6 hok hpl hgn hgi (fun z => absurd (by rw [z]; rfl) he) ((s3.trans s35).trans s6) ((s5.trans s6) _ _ hl4) (hP.mono (s35.trans s6).toT) hp6
theorem hqC (g : G K mg) : FnOk P w K mg base CX0 4 g.dqy g.cq0 ["_law_piece_here", "_law_cell", "_law_name", "_law_signs_here"] (hqT K) := by
 refine g.eqM.ok cq3 (fun vs H Q E h => ?_) (fun cdv A outer s H vs Q E hr h => ?_)
 ·obtain ⟨c, p, i, n, g, rfl, _⟩ := h; rfl
 ·obtain ⟨c, p, i, n, sg, rfl, hp, hok, hnr, hg0, hgl, hgs, k⟩ := h
  refine ⟨_, (aqe (aqx (i := 4) cq3.nd rfl (Or.inl rfl) (aqs aqN (pv 1) aqb))
   (aqe (aqx (i := 5) cq3.nd rfl (Or.inl rfl) (aqs aqQ (pv 1) aqb))
   (aqe (aqO (aqk aqF (pv 4) aqb (nomark _))
    (aqf (aqp (aqy (aqa aqm (aqa (pv 2) aqc))))) aqw)
   (bqn (aqO (PW.pt (fqt (aqk aqF (pv 4) aqb (nomark _)) (fqt (aqk aqF (aqn (aqd (K := K) rfl) (pv 0) aqb (fun _ _ => rfl)) aqm (nomark _)) (eqK (aqk hqJ (aqv (aqr (K := K) rfl) rfl g.aq6 PySem.boot_len (aqa (aqn (aqd (K := K) rfl) (pv 0) aqb (fun _ _ => rfl)) aqc)) aqb (nomark _))))))
    (aqe (aqx (i := 6) cq3.nd rfl (Or.inl rfl) (aqs aqN (pv 5) (aqv (aqr (K := K) rfl) rfl g.aq6 PySem.boot_len (aqa (aqn (aqd (K := K) rfl) (pv 0) aqb (fun _ _ => rfl)) aqc))))
   (aqf (aqp (aqy (aqa aqm (aqa (cq1 (fqq (K := K) rfl) (aqn (aqd (K := K) rfl) (pv 0) aqb (fun _ _ => rfl)) dqY (dq3 (pv 6))) (aqa (pv 2) (aqa (cq1 (fqq (K := K) rfl) (aqn (aqd (K := K) rfl) (pv 0) aqb (fun _ _ => rfl)) (dq3 (aqs (aqH (K := K)) (pv 6) aqb)) dqY) aqc)))))))) aqw)
   (aqe (aqO (aqk aqF (pv 4) aqb (nomark _))
    (aqf (aqp (aql (eqs g) (hr.mono (by decide)) rfl g.dqq g.cqp.kp g.dqg .nil pass0 (aqa (pv 5) (aqa (pv 2) (aqa (pv 3) aqc)))))) aqw)
   (aqe (aqO (aqk aqF (aqn (aqd (K := K) rfl) (pv 0) aqb (fun _ _ => rfl)) aqm (nomark _))
    (aqf (aqp (pv 0))) aqw)
   (aqe (aqO (aqk aqF (aqn (aqd (K := K) rfl) (pv 0) aqb (fun _ _ => rfl)) aqm (nomark _))
    (aqf (aqp (aqy (aqa aqm (aqa (aqn (aqd (K := K) rfl) (pv 0) aqb (fun _ _ => rfl)) (aqa (pv 2) (aqa (aqn (aqd (K := K) rfl) (pv 0) aqb (fun _ _ => rfl)) aqc))))))) aqw)
   (aqf (aqp (aqy (aqa (aqn (aqd (K := K) rfl) (pv 0) aqb (fun _ _ => rfl)) (aqa (pv 2) aqc)))))))))))), ?_⟩
  walk_at "rd"
  refine ⟨by decide, ⟨by decide, by decide⟩, ite2 (fun h0 => ⟨by decide, fun p1 H1 n1 s1 hp1 => k (.gap n) p1 H1 trivial rfl (fun _ => rfl) s1 hp1⟩) (fun h0 => ?_)⟩
  refine ⟨fun σ H1 => H1 = H ∧ σ = [some (.ref p), some (.int i), some (tV n), some (tV sg), some (.int (i % 5)), some (.int (i / 5)), none], ?_, ?_⟩
  ·refine ite2 (fun h1 => ⟨_, _, .inr (.of hp), c.at0, aqt.mpr ⟨_, rfl, ?_⟩⟩) (fun _ => ⟨rfl, rfl⟩)
   rw [dqX]
   refine ite2 (fun h2 => ?_) (fun _ => ⟨rfl, rfl⟩)
   cases c with
   | step w =>
    obtain ⟨o1, o2, o3, o4⟩ := hok
    refine ⟨_, _, .inr (.of hp), aqh (j := 1) rfl, ?_⟩
    walk_at "rd"
    refine ⟨aqj (by omega), ite2 (fun h3 => ?_) (fun _ => trivial)⟩
    refine ⟨_, _, .inr (.of hp), aqh (j := 1) rfl, ?_⟩
    walk_at "rd"
    refine ⟨aqj (by omega), by omega, _, _, .inr (.of hp), aqh (j := 1) rfl, ?_⟩
    have hw2 : 2 ≤ w.length := by omega
    obtain ⟨a, ha, ea⟩ : ∃ a : Nat, a < w.length ∧ i / 5 % (w.length : Int) = (a : Int) := by
     have h1 := Int.emod_nonneg (i / 5) (show (w.length : Int) ≠ 0 by omega)
     have h2 := Int.emod_lt_of_pos (i / 5) (show (0 : Int) < (w.length : Int) by omega)
     exact ⟨(i / 5 % (w.length : Int)).toNat, by omega, by omega⟩
    rw [ea]
    refine hqr.mpr ⟨aqj (by rw [bqT]; omega), _, _, .inr (.of hp), aqh (j := 1) rfl, hqr.mpr ⟨aqj (by rw [bqT]; omega), by decide, fun p1 H1 n1 s1 hp1 => ?_⟩⟩
    rw [show ((a : Int) + 1) = ((a + 1 : Nat) : Int) by omega, gqc, eq6] at hp1
    refine k (.part (w.take a) n (w.drop (a + 1))) p1 H1 ⟨by rw [List.length_take]; omega, by rw [List.length_drop]; omega, fun x hx => o3 x (List.mem_of_mem_take hx), fun x hx => o3 x (List.mem_of_mem_drop hx), fun z => ?_⟩ rfl (fun _ => rfl) s1 hp1
    have := congrArg List.length z
    rw [List.length_append, List.length_take, List.length_drop, List.length_nil] at this
    omega
   | _ => cases h2
  ·rintro σ H1 ⟨rfl, rfl⟩
   walk_at "rd"
   refine ite2 (fun h2 => ⟨_, n, sg, rfl, hg0, hgl, hgs, k⟩) (fun h2 => ⟨_, _, .inr (.of hp), c.at0, aqt.mpr ⟨_, rfl, ?_⟩⟩)
   rw [dqX]
   refine ite2 (fun h3 => k c p H1 hok hnr (fun z => by rw [h3] at z; cases z) (Same.refl _) hp) (fun h3 => ⟨_, _, .inr (.of hp), c.at0, aqt.mpr ⟨_, rfl, ?_⟩⟩)
   rw [bqe]
   refine ite2 (fun h4 => ?_) (fun h4 => ⟨_, _, .inr (.of hp), c.at0, by decide, fun p1 H2 n1 s1 hp1 => ?_⟩)
   ·cases c with
    | part a m b => exact ⟨_, _, .inr (.of hp), aqh (j := 1) rfl, _, _, .inr (.of hp), aqh (j := 3) rfl, by decide, fun p1 H2 n1 s1 hp1 => k (.part a n b) p1 H2 hok rfl (fun _ => rfl) s1 hp1⟩
    | _ => cases h4
   ·cases c with
    | step w => exact absurd rfl h3
    | part a m b => exact absurd rfl h4
    | num m => exact k (.num n) p1 H2 trivial rfl (fun _ => rfl) s1 hp1
    | word m => exact k (.word n) p1 H2 trivial rfl (fun _ => rfl) s1 hp1
    | gap m => exact k (.gap n) p1 H2 trivial rfl (fun _ => rfl) s1 hp1
    | rest m => cases hnr
theorem eqL (g : G K mg) : FnOk P w K mg base CX0 5 g.bqa g.aqZ ["piece", "beside"] (eqy K) := by
 refine g.bqP.ok cqA (fun vs H Q E h => ?_) (fun cdv A outer s H vs Q E hr h => ?_)
 ·obtain ⟨c, d, p, q, rfl, _⟩ := h; rfl
 ·obtain ⟨c, d, p, q, rfl, hp, hq, hc, hd, k⟩ := h
  refine ⟨_, (aqe (aqO (PW.pt (gq3 (gqL (dqU (aql (fqD g) (hr.mono (by decide)) rfl g.fqb g.eqb.kp g.eq9 .nil pass0 (aqa (pv 0) aqc)))) (fql (gqL (dqU (aql (fqD g) (hr.mono (by decide)) rfl g.fqb g.eqb.kp g.eq9 .nil pass0 (aqa (pv 1) aqc)))))))
    (aqf (aqp (aqs (aqH (K := K)) (aql (cq8 g) (hr.mono (by decide)) rfl g.bq7 g.bqu.kp g.cqd .nil pass0 (aqa (pv 0) aqc)) (aql (cq8 g) (hr.mono (by decide)) rfl g.bq7 g.bqu.kp g.cqd .nil pass0 (aqa (pv 1) aqc))))) aqw)
   (aqe (aqx (i := 2) cqA.nd rfl (Or.inl rfl) (gq7 rfl rfl g.kqR rfl g.aq6 PySem.boot_len PyProof.Rows.boot_max (aqa (aql (dqG g) (hr.mono (by decide)) rfl g.dqp g.cqz.kp g.dqf .nil pass0 (aqa (pv 0) aqc)) (aqa (aql (dqG g) (hr.mono (by decide)) rfl g.dqp g.cqz.kp g.dqf .nil pass0 (aqa (pv 1) aqc)) aqc))))
   (aqf (aqp (aql (dqk g) (hr.mono (by decide)) rfl g.cqv g.bqI.kp g.cqw .nil pass0 (aqa (pv 2) (aqa (gq7 rfl rfl g.kqR rfl g.aq6 PySem.boot_len PyProof.Rows.boot_max (aqa (aql (dqH g) (hr.mono (by decide)) rfl g.dql g.cqH.kp g.dqv .nil pass0 (aqa (pv 0) aqc)) (aqa (aql (dqH g) (hr.mono (by decide)) rfl g.dql g.cqH.kp g.dqv .nil pass0 (aqa (pv 1) aqc)) aqc))) aqc))))))), ?_⟩
  walk_at "rd"
  have f4 : ∀ c : Pc, (fitT c).length ≤ 4 := fun c => by
   unfold fitT
   refine Nat.le_trans (List.length_filter_le _ _) ?_
   cases c <;> first | (show 4 ≤ 4; decide) | (show 1 ≤ 4; decide)
  have cat : c.isStep = true ∨ d.isStep = true → bqO K [.ref p] H (fun x H1 => bqO K [.ref q] H1 (fun y H2 => rAddS K x y H2 Q) E0) E0 := fun hs => by
   refine ⟨c, p, rfl, hp, hc, fun l1 H1 s1 h1 => ⟨d, q, rfl, s1.tup hq, hd, fun l2 H2 s2 h2 => .inl ⟨_, _, s2 _ _ h1, h2, aqj ?_, fun l3 H3 n3 s3 h3 => ?_⟩⟩⟩
   ·rw [List.length_map, List.length_map]; have := f4 c; have := f4 d; omega
   ·refine k l3 H3 ((s1.trans s2).trans s3) ?_
    rw [h3, ← List.map_append]
    unfold bothT
    rw [if_pos hs]
  refine ⟨c, p, rfl, hp, _, rfl, ?_⟩
  cases hcs : c.isStep with
  | true => exact ite2 (fun _ => cat (.inl hcs)) (fun z => absurd rfl z)
  | false =>
   refine ite2 (fun z => by cases z) (fun _ => ⟨d, q, rfl, hq, _, rfl, ?_⟩)
   cases hds : d.isStep with
   | true => exact ite2 (fun _ => cat (.inr hds)) (fun z => absurd rfl z)
   | false =>
    refine ite2 (fun z => by cases z) (fun _ => ?_)
    have lg : ∀ a b : List Nat, (if (⟨a.toArray⟩ : Str).length < (⟨b.toArray⟩ : Str).length then (⟨b.toArray⟩ : Str) else ⟨a.toArray⟩) = ⟨(longM a b).toArray⟩ := fun a b => by
     rw [bqT, bqT]
     unfold longM
     split <;> rfl
    have ll : ∀ a b : List Nat, a.length ≤ 40000 → b.length ≤ 40000 → (longM a b).length ≤ 40000 := fun a b ha hb => by unfold longM; split <;> assumption
    refine ⟨c, p, rfl, hp, d, q, rfl, hq, ⟨c.head.toArray⟩, ⟨d.head.toArray⟩, rfl, aqj (by rw [bqT]; have := hc.1; omega), aqj (by rw [bqT]; have := hd.1; omega), ?_⟩
    rw [lg]
    refine ⟨c, p, rfl, hp, d, q, rfl, hq, ⟨c.tail.toArray⟩, ⟨d.tail.toArray⟩, rfl, aqj (by rw [bqT]; have := hc.2.1; omega), aqj (by rw [bqT]; have := hd.2.1; omega), ?_⟩
    rw [lg]
    refine ⟨_, _, rfl, ll _ _ hc.1 hd.1, ll _ _ hc.2.1 hd.2.1, fun l H1 s1 h1 => k l H1 s1 ?_⟩
    rw [h1]
    unfold bothT
    rw [if_neg (by rw [hcs, hds]; decide)]
theorem dq5 (g : G K mg) : FnOk P w K mg base CX0 5 g.aqX g.aqP ["_law_pattern_here", "_law_cells_here", "_law_names_here", "_law_signs_here"] (dqZ K) := by
 refine g.bqv.ok aqE (fun vs H Q E h => ?_) (fun cdv A outer s H vs Q E hr h => ?_)
 ·obtain ⟨cs, e, p, pc, pn, g, ns, is, rfl, _⟩ := h; rfl
 ·obtain ⟨cs, e, p, pc, pn, sg, ns, is, rfl, hcl, oc, ⟨q, xs, hp, hq, hx⟩, hpc, his, hpn, hns, hnsg, hg0, hgl, hgs, k⟩ := h
  refine ⟨_, (aqe (aqx (i := 4) aqE.nd rfl (Or.inl rfl) (aqn (aqd (K := K) rfl) (pv 1) aqb (fun _ _ => rfl)))
   (aqe (lqC (i := 5) (fx := []) (fr := []) aqE.nd rfl rfl rfl rfl (by decide +kernel) rfl (by decide +kernel) rfl (by decide +kernel) rfl .nil rfl (lqr (K := K) rfl (aqn (aqd (K := K) rfl) (pv 0) aqb (fun _ _ => rfl))) (fun _ _ _ => (fqA (aqk gqr (aqn (aqd (K := K) rfl) (pv 0) aqb (fun _ _ => rfl)) aqm (nomark _)))) (fun _ _ _ => (pv 0)))
   (bqn (iqa (i := 6) (K := K) (fx := ["_law_signs_here", "_law_cells_here", "_law_names_here"]) (fr := [3, 1, 2]) aqE.nd rfl rfl rfl rfl rfl (by decide +kernel) rfl (by decide +kernel) rfl rfl (by decide +kernel) rfl (.cons rfl rfl rfl rfl (.cons rfl rfl rfl rfl (.cons rfl rfl rfl rfl .nil))) rfl (kqy (K := K) rfl rfl g.fqc (aqa (pv 5) aqc)) (fun _ _ _ => hqn) (fun _ _ _ => (aql (hqC g) (hr.mono (by decide)) rfl g.fq0 g.eqM.kp g.gqe .nil pass0 (aqa (pv 1) (aqa (aqn (aqd (K := K) rfl) (pv 3) (aqs (aqH (K := K)) aqb (pv 0)) (fun _ _ => rfl)) (aqa (aqn (aqd (K := K) rfl) (pv 4) (pv 0) (fun _ _ => rfl)) (aqa (pv 2) aqc)))))))
   (bqn (aqO (PW.pt (fqt (aqk aqF (aqs aqN (pv 4) aqb) aqb (nomark _)) (eqK (aqk (iqc hr.units) (pv 6) (aqG aqc) (nomark _)))))
    (aqf (aqx (i := 6) aqE.nd rfl (Or.inl rfl) (cq1 (kqW (K := K) rfl) (pv 6) dqY (dq3 (aqs aqN (aqs aqQ (pv 4) aqb) (aqv (aqr (K := K) rfl) rfl g.aq6 PySem.boot_len (aqa (pv 6) aqc))))))) aqw)
   (bqn (aqO (PW.pt (fqt (aqk hqJ (aqs aqN (pv 4) aqb) aqb (nomark _)) (eqK (aqk hqJ (aqs aqN (aqs aqQ (pv 4) aqb) aqb) aqb (nomark _)))))
    (aqf (fqs (cqy (K := K) rfl PySem.F.plainAttrs_list PySem.F.slot_list_append PySem.F.type_list_append cqc (pv 6) (aqa (aqy (aqa aqm (aqa (aqn (aqd (K := K) rfl) (pv 2) aqb (fun _ _ => rfl)) aqc))) aqc)))) aqw)
   (aqf (aqp (aqy (aqa (cqb (dq4 (K := K) rfl) rfl g.gqp gqw (aqa (pv 6) aqc)) (aqa (hqF (aqz (fq3 hr.units) (pv 6) (aqG aqc) (nomark _)) (bq8 (aqz gqr (aqn (aqd (K := K) rfl) (pv 0) aqb (fun _ _ => rfl)) (aqz aqF (aqs aqN (aqs aqQ (pv 4) aqb) aqb) aqb (nomark _)) (nomark _)))) aqc)))))))))), ?_⟩
  walk_at "rd"
  have hxl := hx.length
  obtain ⟨hd, hhd⟩ : ∃ z, is[0]? = some z := ⟨_, List.getElem?_eq_getElem (by omega)⟩
  refine ⟨_, _, .inl (.of hpc), aqh (j := 0) (by rw [List.getElem?_map, hhd]; rfl), _, _, .inr (.of hp), aqh (j := 0) rfl, q, rfl, ⟨_, .of hq⟩, fun l0 n0 => ?_⟩
  refine iqV (fun i => match cs[i]? with | some c => !c.isRest | none => false) (fun i => xs[i]?.getD .non) (.of hq) (aqj (by omega)) n0 (fun i x hxi H1 R s1 hR => ?_) (fun i x hxi ht H1 T s1 hT => ?_) (fun H1 s1 hl0 => ?_)
  ·obtain ⟨c, pp, hc, rfl, hpp⟩ := hx.get hxi
   have hR' : ∀ H'', Same H1 H'' → R (!c.isRest) H'' := fun H'' s => by
    have := hR H'' s
    rw [hc] at this
    exact this
   walk_at "rd"
   refine ⟨_, _, .inr (.of (s1 _ _ hpp)), c.at0, L2.gqx.mpr ?_⟩
   rw [hqZ]
   walk_at "rd"
   exact hR' H1 (Same.refl _)
  ·have hT' : ∀ H'', Same H1 H'' → T x H'' := fun H'' s => by
    have := hT H'' s
    rw [hxi] at this
    exact this
   walk_at "rd"
   exact hT' H1 (Same.refl _)
  have hpk := (hx.mono s1.toT).pick ((List.range xs.length).filter fun i => match cs[i]? with | some c => !c.isRest | none => false) (fun i hi => List.mem_range.mp (List.mem_filter.mp hi).1)
  have hin : ∀ c ∈ ((List.range xs.length).filter fun i => match cs[i]? with | some c => !c.isRest | none => false).map (fun i => cs[i]?.getD (.gap [])), c ∈ cs ∧ c.isRest = false := fun c hc => by
   obtain ⟨i, hi, rfl⟩ := List.mem_map.mp hc
   have ht := (List.mem_filter.mp hi).2
   cases hci : cs[i]? with
   | none => rw [hci] at ht; cases ht
   | some c =>
    rw [hci] at ht
    exact ⟨List.mem_of_getElem? hci, by simpa using ht⟩
  have hkl : (((List.range xs.length).filter fun i => match cs[i]? with | some c => !c.isRest | none => false).map (fun i => cs[i]?.getD (.gap []))).length ≤ 6 := by
   rw [List.length_map]
   have := List.length_filter_le (fun i => match cs[i]? with | some c => !c.isRest | none => false) (List.range xs.length)
   rw [List.length_range] at this
   omega
  generalize ((List.range xs.length).filter fun i => match cs[i]? with | some c => !c.isRest | none => false).map (fun i => cs[i]?.getD (.gap [])) = ks at hpk hin hkl
  generalize ((List.range xs.length).filter fun i => match cs[i]? with | some c => !c.isRest | none => false).map (fun i => xs[i]?.getD .non) = zs at hpk hl0
  have hzl := hpk.length
  refine ⟨fun σ H2 => Same H H2 ∧ ∃ (l : Addr) (ds : List Pc) (ys : List V), σ = [some (.ref p), some (.ref pc), some (.ref pn), some (tV sg), some (.int hd), some (.ref l0), some (.ref l)] ∧ H l = none ∧ H2 l = some (.lst ys) ∧ PcT H2 ds ys ∧ ds.length ≤ 6 ∧ ∀ c ∈ ds, PcOk c ∧ PcSg c, ?_, ?_⟩
  ·refine ⟨l0, _, rfl, .of hl0, fun l n1 => ?_⟩
   refine hqP (fun i ws H' => Same H1 H' ∧ ∃ ds : List Pc, PcT H' ds ws ∧ ds.length = i ∧ ∀ c ∈ ds, PcOk c ∧ PcSg c) ?_ ?_ ?_ ?_ ?_ ?_
   ·rintro i ws H3 H4 s4 ⟨s3, ds, h1, h2⟩
    exact ⟨s3.trans s4, ds, h1.mono s4.toT, h2⟩
   ·exact aqj (by omega)
   ·exact ⟨bqt n1, [], .nil, rfl, fun s hs => (by cases hs)⟩
   ·rintro i ws H3 ⟨s3, h⟩
    exact .of (s3 _ _ hl0)
   ·rintro i x ws H3 T hxi ⟨s3, ds, hd3, hdl, hdo⟩ hl3 hT
    obtain ⟨c, pp, hc, rfl, hpp⟩ := hpk.get hxi
    have hil := (List.getElem?_eq_some_iff.mp hc).1
    obtain ⟨m, hm⟩ : ∃ z, is[1 + i]? = some z := ⟨_, List.getElem?_eq_getElem (by omega)⟩
    obtain ⟨nm, hnm⟩ : ∃ z, ns[i]? = some z := ⟨_, List.getElem?_eq_getElem (by omega)⟩
    obtain ⟨hcm, hcr⟩ := hin c (List.mem_of_getElem? hc)
    have s03 := s1.trans s3
    walk_at "rd"
    refine ⟨_, _, .inl (.of (s03 _ _ hpc)), by rw [show (1 + (i : Int)) = ((1 + i : Nat) : Int) by omega]; exact aqh (by rw [List.getElem?_map, hm]; rfl), _, _, .inl (.of (s03 _ _ hpn)), aqh (by rw [List.getElem?_map, hnm]; rfl), ?_⟩
    refine ⟨c, pp, m, nm, sg, rfl, s3 _ _ hpp, (oc c hcm).1, hcr, hg0, hgl, hgs, fun c' p' H4 o1 o2 o3 s4 hp4 => ?_⟩
    refine hT (.ref p') H4 (s4 _ _ hl3) ⟨iqr (s3.trans s4) n1, ds ++ [c'], ?_, by rw [List.length_append, hdl]; rfl, fun z hz => ?_⟩
    ·have st := gq1 (ys := ws ++ [.ref p']) (s4 _ _ hl3)
     exact PcT.append (.cons (st _ _ hp4) .nil) ((hd3.mono s4.toT).mono st)
    ·rcases List.mem_append.mp hz with y | y
     ·exact hdo z y
     ·rw [List.mem_singleton.mp y]
      refine ⟨o1, dqi o1 fun x hx => ?_⟩
      cases hst : c'.isStep with
      | true =>
       cases c' with
       | step s => exact absurd (show x ∈ ([] : List Nat) from hx) List.not_mem_nil
       | _ => cases hst
      | false => rw [o3 hst] at hx; exact hnsg nm (List.mem_of_getElem? hnm) x hx
   ·rintro ws H3 ⟨s3, ds, hd3, hdl, hdo⟩ hl3
    exact ⟨s1.trans s3, l, ds, ws, rfl, fqh s1 n1, hl3, hd3, by omega, hdo⟩
  rintro σ H2 ⟨s2, l, ds, ys, rfl, nl, hl, hD, hdl, hdo⟩
  have hyl := hD.length
  walk_at "rd"
  refine ⟨fun σ H3 => Same H H3 ∧ ∃ (l : Addr) (ds : List Pc) (ys : List V), σ = [some (.ref p), some (.ref pc), some (.ref pn), some (tV sg), some (.int hd), some (.ref l0), some (.ref l)] ∧ H l = none ∧ H3 l = some (.lst ys) ∧ PcT H3 ds ys ∧ ds.length ≤ 6 ∧ ∀ c ∈ ds, PcOk c ∧ PcSg c, ?_, ?_⟩
  ·refine ⟨by decide, ite2 (fun h1 => ⟨by decide, fun p3 H3 n3 s3 hp3 => ?_⟩) (fun _ => ⟨s2, l, ds, ys, rfl, nl, hl, hD, hdl, hdo⟩)⟩
   have hD3 := hD.mono s3.toT
   refine ⟨.list (ds.map pcD), .list [], .lst (s3 _ _ hl) hD3.isT.is, .lst hp3 .nil, (eq1 fun c hc => (hdo c hc).2).shaped (by decide), by decide +kernel, _, rfl, ?_⟩
   rw [cqk]
   refine ite2 (fun hne => ?_) (fun _ => ⟨s2.trans s3, l, ds, ys, rfl, nl, s3 _ _ hl, hD3, hdl, hdo⟩)
   have hpos : 0 < ds.length := by
    cases ds with
    | nil => cases hne
    | cons a b => simp
   refine ⟨⟨by decide, by decide⟩, _, .inl (.of (s3 _ _ hl)), by omega, _, .of (s3 _ _ hl), fun p4 H4 n4 s4 hp4 => ?_⟩
   obtain ⟨m, em⟩ : ∃ m : Nat, hd / 4 % (ys.length : Int) = (m : Int) := ⟨(hd / 4 % (ys.length : Int)).toNat, by have := Int.emod_nonneg (hd / 4) (show (ys.length : Int) ≠ 0 by omega); omega⟩
   rw [em, kqx] at hp4
   exact ⟨(s2.trans s3).trans s4, p4, ds.take m, ys.take m, rfl, fqh (s2.trans s3) n4, hp4, (hD3.mono s4.toT).take m, by rw [List.length_take]; omega, fun c hc => hdo c (List.mem_of_mem_take hc)⟩
  clear hl hD hyl hdl hdo s2 nl
  clear ds ys l
  rintro σ H3 ⟨s3, l, ds, ys, rfl, nl, hl, hD, hdl, hdo⟩
  have hyl := hD.length
  walk_at "rd"
  refine ⟨fun σ H4 => Same H H4 ∧ ∃ (l : Addr) (ds : List Pc) (ys : List V), σ = [some (.ref p), some (.ref pc), some (.ref pn), some (tV sg), some (.int hd), some (.ref l0), some (.ref l)] ∧ H4 l = some (.lst ys) ∧ PcT H4 ds ys ∧ ds.length ≤ 7 ∧ ∀ c ∈ ds, PcOk c ∧ PcSg c, ?_, ?_⟩
  ·refine ⟨by decide, ite2 (fun h1 => ⟨⟨by decide, by decide⟩, by decide, ite2 (fun h2 => ?_) (fun _ => ⟨s3, l, ds, ys, rfl, hl, hD, by omega, hdo⟩)⟩) (fun _ => ⟨s3, l, ds, ys, rfl, hl, hD, by omega, hdo⟩)⟩
   obtain ⟨nm, hnm⟩ : ∃ z, ns[6]? = some z := ⟨_, List.getElem?_eq_getElem (by omega)⟩
   refine ⟨⟨_, .of hl⟩, _, _, .inl (.of (s3 _ _ hpn)), aqh (j := 6) (by rw [List.getElem?_map, hnm]; rfl), by decide, fun p4 H4 n4 s4 hp4 => ⟨_, s4 _ _ hl, ?_, ?_⟩⟩
   ·rw [hyl]; exact Nat.lt_of_lt_of_le (show ds.length < 100000 by omega) (aqj (Nat.le_refl _))
   have st := gq1 (ys := ys ++ [.ref p4]) (s4 _ _ hl)
   refine ⟨iqr (s3.trans s4) nl, l, ds ++ [.rest nm], _, rfl, aqq, PcT.append (.cons (st _ _ hp4) .nil) ((hD.mono s4.toT).mono st), by rw [List.length_append]; simp; omega, fun z hz => ?_⟩
   rcases List.mem_append.mp hz with y | y
   ·exact hdo z y
   ·rw [List.mem_singleton.mp y]
    exact ⟨trivial, dqi trivial fun x hx => hnsg nm (List.mem_of_getElem? hnm) x hx⟩
  clear hl hD hyl hdl hdo s3 nl
  clear ds ys l
  rintro σ H4 ⟨s4, l, ds, ys, rfl, hl, hD, hdl, hdo⟩
  have hyl := hD.length
  walk_at "rd"
  refine ⟨_, .inl (.of hl), fun t H5 s5 ht => ⟨by decide, fun p6 H6 n6 s6 hp6 => ?_⟩⟩
  have s46 := s5.trans s6
  have hD6 := hD.mono s46.toT
  refine ⟨.list (ds.map pcD), .list [], .lst (s46 _ _ hl) hD6.isT.is, .lst hp6 .nil, (eq1 fun c hc => (hdo c hc).2).shaped (by decide), by decide +kernel, _, rfl, ?_⟩
  refine ite2 (fun _ => ⟨by decide, fun p7 H7 n7 s7 hp7 => ?_⟩) (fun _ => ⟨_, _, .inr (.of ((s4.trans s46) _ _ hp)), aqh (j := 1) rfl, ⟨by decide, by decide⟩, by decide, L2.hqE.mpr ⟨by decide, fun p7 H7 n7 s7 hp7 => ?_⟩⟩)
  ·exact k ds _ p7 H7 hdl hdo ((s4.trans s46).trans s7) ⟨t, _, hp7, (s6.trans s7) _ _ ht, hD6.mono s7.toT⟩
  ·exact k ds _ p7 H7 hdl hdo ((s4.trans s46).trans s7) ⟨t, _, hp7, (s6.trans s7) _ _ ht, hD6.mono s7.toT⟩
theorem eqW (g : G K mg) : FnOk P w K mg base CX0 6 g.bqp g.aq7 ["piece", "beside"] (eq0 K) := by
 refine g.bq9.ok dqc (fun vs H Q E h => ?_) (fun cdv A outer s H vs Q E hr h => ?_)
 ·obtain ⟨c, d, p, q, rfl, _⟩ := h; rfl
 ·obtain ⟨c, d, p, q, rfl, hp, hq, hzc, hzd, k⟩ := h
  refine ⟨_, (aqe (eqo PassesOwn.never rfl (eq4 (K := K) rfl (aql (eqL g) (hr.mono (by decide)) rfl g.dqb g.bqP.kp g.dqd .nil pass0 (aqa (pv 0) (aqa (pv 1) aqc)))) (bql (i := 2) dqc.nd rfl (Or.inl rfl))
   (aqf (aqO (PW.pt (fqt (dqU (aql (dqm g) (hr.mono (by decide)) rfl g.cqT g.cqa.kp g.cqP .nil pass0 (aqa (pv 0) (aqa (pv 2) aqc)))) (eqK (dqU (aql (dqm g) (hr.mono (by decide)) rfl g.cqT g.cqa.kp g.cqP .nil pass0 (aqa (pv 1) (aqa (pv 2) aqc)))))))
    (aqf (aqp (pv 2))) aqw)))
   (aqf (aqp dq9))), ?_⟩
  walk_at "rd"
  refine ⟨c, d, p, q, rfl, hp, hq, hzc, hzd, fun l H1 s1 hl => ⟨l, rfl, ⟨_, .of hl⟩, ?_⟩⟩
  have fa : ∀ {l : List (List Nat)} {i : Nat} {s : List Nat}, l[i]? = some s → (∀ z ∈ l.take i, (fitsM c z && fitsM d z) = false) → (fitsM c s && fitsM d s) = true → l.find? (fun s => fitsM c s && fitsM d s) = some s := fun {l i s} h1 h2 h3 => by
   have := jqO (p := fun z => !(fitsM c z && fitsM d z)) h1 (fun z hz => by rw [h2 z hz]; rfl) (by rw [h3]; rfl)
   simpa using this
  refine fqv (xs := (bothT c d).map tV) (fun i σ H' => Same H1 H' ∧ ∃ v2, σ = [some (.ref p), some (.ref q), v2] ∧ ∀ s ∈ (bothT c d).take i, (fitsM c s && fitsM d s) = false) ⟨Same.refl _, none, rfl, fun s hs => by rw [List.take_zero] at hs; cases hs⟩ (fun i σ H' _ h => .of (h.1 _ _ hl)) ?_ ?_
  ·rintro i x σ H2 hxi ⟨s2, v2, rfl, hpre⟩
   rw [List.getElem?_map] at hxi
   obtain ⟨s, hs, rfl⟩ := Option.map_eq_some_iff.mp hxi
   have hsl := jqa hzc hzd s (List.mem_of_getElem? hs)
   have go : (fitsM c s && fitsM d s) = false → ∀ z ∈ (bothT c d).take (i + 1), (fitsM c z && fitsM d z) = false := fun hf z hz' => by
    rw [List.take_add_one, hs] at hz'
    rcases List.mem_append.mp hz' with y | y
    ·exact hpre z y
    ·have : z = s := by simpa using y
     rw [this]; exact hf
   walk_at "rd"
   refine ⟨c, s, p, rfl, (s1.trans s2).tup hp, by omega, by have := hzc.1; omega, by have := hzc.2.1; omega, fun H3 s3 => ⟨_, rfl, ?_⟩⟩
   refine ite2 (fun hf => ?_) (fun hf => ⟨s2.trans s3, go (by rw [(Bool.not_eq_true _).mp hf]; rfl)⟩)
   refine ⟨d, s, q, rfl, ((s1.trans s2).trans s3).tup hq, by omega, by have := hzd.1; omega, by have := hzd.2.1; omega, fun H4 s4 => ⟨_, rfl, ?_⟩⟩
   refine ite2 (fun hg => ?_) (fun hg => ⟨(s2.trans s3).trans s4, go (by rw [(Bool.not_eq_true _).mp hg, Bool.and_false])⟩)
   have e : stepBoth c d = some s := fa hs hpre (by rw [hf, hg]; rfl)
   rw [e] at k
   exact k H4 (((s1.trans s2).trans s3).trans s4)
  ·rintro σ H2 ⟨s2, v2, rfl, hpre⟩
   rw [List.length_map, List.take_length] at hpre
   have e : stepBoth c d = none := List.find?_eq_none.mpr fun s hs => by rw [hpre s hs]; decide
   rw [e] at k
   walk_at "rd"
   exact k H2 (s1.trans s2)
theorem fq7 (g : G K mg) : FnOk P w K mg base CX0 7 g.eqj g.dqx ["one", "other"] (fqX K) := by
 refine g.eqg.ok cqK (fun vs H Q E h => ?_) (fun cdv A outer s H vs Q E hr h => ?_)
 ·obtain ⟨cs, ds, xs, ys, p, q, p', q', e, e', rfl, _⟩ := h; rfl
 ·obtain ⟨cs, ds, xs, ys, p, q, p', q', e, e', rfl, hp, hq, hx, hp', hq', hy, hcl, hdl, oc, od, k0, k⟩ := h
  refine ⟨_, (aqe (aqx (i := 2) cqK.nd rfl (Or.inl rfl) (aqv (jqm rfl) rfl g.kqR PyProof.Rows.boot_max (aqa (aqv (aqr (K := K) rfl) rfl g.aq6 PySem.boot_len (aqa (aqn (aqd (K := K) rfl) (pv 0) (bqy (v := eq5) rfl g.eqe ⟨_, rfl⟩) (fun _ _ => rfl)) aqc)) (aqa (aqv (aqr (K := K) rfl) rfl g.aq6 PySem.boot_len (aqa (aqn (aqd (K := K) rfl) (pv 1) (bqy (v := eq5) rfl g.eqe ⟨_, rfl⟩) (fun _ _ => rfl)) aqc)) aqc))))
   (bqn (aqx (i := 3) cqK.nd rfl (Or.inl rfl) (aql (gq0 g) (hr.mono (by decide)) rfl g.gqt g.eq7.kp g.gqg .nil pass0 (aqa (pv 0) (aqa (pv 2) aqc))))
   (bqn (aqx (i := 4) cqK.nd rfl (Or.inl rfl) (aql (gq0 g) (hr.mono (by decide)) rfl g.gqt g.eq7.kp g.gqg .nil pass0 (aqa (pv 1) (aqa (pv 2) aqc))))
   (aqe (aqO (PW.pt (gq3 (aqk gqr (aqn (aqd (K := K) rfl) (pv 0) (bqy (v := gqs) rfl g.eq8 ⟨_, rfl⟩) (fun _ _ => rfl)) (aqn (aqd (K := K) rfl) (pv 1) (bqy (v := gqs) rfl g.eq8 ⟨_, rfl⟩) (fun _ _ => rfl)) (nomark _)) (gq3 (aqk gqH (pv 3) dq9 (nomark _)) (fql (aqk gqH (pv 4) dq9 (nomark _))))))
    (aqf (aqp dq9)) aqw)
   (aqe (iqa (i := 5) (K := K) (fx := []) (fr := []) cqK.nd rfl rfl rfl rfl rfl (by decide +kernel) rfl (by decide +kernel) rfl rfl (by decide +kernel) rfl .nil rfl (nqg (K := K) rfl rfl g.nqO (aqa (pv 3) (aqa (pv 4) aqc))) (fun _ _ _ => hqn) (fun _ _ _ => (aql (eqW g) (hr.mono (by decide)) rfl g.dqt g.bq9.kp g.dqj .nil pass0 (aqa (pv 0) (aqa (pv 1) aqc)))))
   (aqf (aqp (dqz (aqk (iqy (K := K) rfl) dq9 (pv 5) (by with_unfolding_all rfl)) dq9 (aqy (aqa dqS (aqa (cqb (dq4 (K := K) rfl) rfl g.gqp gqw (aqa (pv 5) aqc)) (aqa (aqn (aqd (K := K) rfl) (pv 0) (bqy (v := gqs) rfl g.eq8 ⟨_, rfl⟩) (fun _ _ => rfl)) aqc)))))))))))), ?_⟩
  walk_at "rd"
  have hxl := hx.length
  have hyl := hy.length
  have en : (if (ys.length : Int) > (xs.length : Int) then (ys.length : Int) else (xs.length : Int)) = ((max cs.length ds.length : Nat) : Int) := by rw [hxl, hyl]; split <;> omega
  refine ⟨_, _, .inr hp, aqh (j := 0) rfl, xs, .inr (.of hq), _, _, .inr hp', aqh (j := 0) rfl, ys, .inr (.of hq'), _, _, ⟨rfl, rfl⟩, ?_⟩
  rw [en]
  generalize hN : max cs.length ds.length = N
  have hN100 : N ≤ 100 := by omega
  refine ⟨fun σ H1 => Same H H1 ∧ ∃ mv : V, σ = [some (.ref p), some (.ref p'), some (.int (N : Int)), some mv, none, none] ∧ SprV K H1 (spreadM cs N) mv, ?_, ?_⟩
  ·exact ⟨cs, xs, p, q, e, N, rfl, hp, hq, hx, by omega, by omega, fun z => ⟨Same.refl _, .non, rfl, .inl ⟨z, rfl⟩⟩, fun ms zs r H1 h1 s1 hr hz => ⟨s1, .ref r, rfl, .inr ⟨ms, zs, r, h1, rfl, hr, hz⟩⟩⟩
  rintro σ H1 ⟨s1, mv, rfl, hmv⟩
  walk_at "rd"
  refine ⟨fun σ H2 => Same H H2 ∧ ∃ tv : V, σ = [some (.ref p), some (.ref p'), some (.int (N : Int)), some mv, some tv, none] ∧ SprV K H2 (spreadM cs N) mv ∧ SprV K H2 (spreadM ds N) tv, ?_, ?_⟩
  ·refine ⟨ds, ys, p', q', e', N, rfl, s1.tup hp', s1 _ _ hq', hy.mono s1, by omega, by omega, fun z => ⟨s1, .non, rfl, hmv, .inl ⟨z, rfl⟩⟩, fun ts us r H2 h2 s2 hr hu => ⟨s1.trans s2, .ref r, rfl, ?_, .inr ⟨ts, us, r, h2, rfl, hr, hu⟩⟩⟩
   rcases hmv with z | ⟨ms, zs, r0, z1, z2, z3, z4⟩
   ·exact .inl z
   ·exact .inr ⟨ms, zs, r0, z1, z2, s2.tup z3, z4.mono s2⟩
  rintro σ H2 ⟨s2, tv, rfl, hmv2, htv2⟩
  walk_at "rd"
  refine ⟨_, _, .inr (s2.tup hp), aqh (j := 1) rfl, _, _, .inr (s2.tup hp'), aqh (j := 1) rfl, ?_⟩
  walk_at "rd"
  have mm : meetM cs e ds e' = if e ≠ e' then none else match spreadM cs N, spreadM ds N with | some ms, some ts => (List.zipWith stepBoth ms ts).mapM id | _, _ => none := by unfold meetM; rw [hN] <;> rfl
  refine ite2 (fun hne => k0 (by rw [mm, if_pos (by simpa using hne)]) H2 s2) (fun hne => ?_)
  have hee : ¬ (e ≠ e') := by simpa using hne
  rw [if_neg hee] at mm
  refine ite2 (fun hm => ?_) (fun hm => ite2 (fun ht => ?_) (fun ht => ?_))
  ·rcases hmv2 with ⟨z, _⟩ | ⟨ms, zs, r, _, z, _⟩
   ·exact k0 (by rw [mm, z] <;> rfl) H2 s2
   ·rw [z] at hm; cases hm
  ·rcases htv2 with ⟨z, _⟩ | ⟨ts, us, r, _, z, _⟩
   ·exact k0 (by rw [mm, z]; cases spreadM cs N <;> rfl) H2 s2
   ·rw [z] at ht; cases ht
  rcases hmv2 with ⟨_, z⟩ | ⟨ms, zs, r, hms, rfl, hr, hz⟩
  ·exact absurd z hm
  rcases htv2 with ⟨_, z⟩ | ⟨ts, us, r', hts, rfl, hr', hu⟩
  ·exact absurd z ht
  rw [hms, hts] at mm
  have mm : meetM cs e ds e' = (List.zipWith stepBoth ms ts).mapM id := mm
  have hzl := hz.length
  have hul := hu.length
  have hml := (bqj hms).1
  have htl := (bqj hts).1
  have okm := eqa oc hms
  have okt := eqa od hts
  have okx : ∀ {c : Pc}, PcOk c → PcTx c := fun {c} o => by
   cases c with
   | step w => exact ⟨Nat.zero_le _, Nat.zero_le _, fun w' h => by cases h; have := o.2.1; omega⟩
   | part a n b => exact ⟨by have := o.1; show a.length ≤ _; omega, by have := o.2.1; show b.length ≤ _; omega, fun w h => by cases h⟩
   | _ => exact ⟨Nat.zero_le _, Nat.zero_le _, fun w h => by cases h⟩
  refine ⟨r, r', _, _, ⟨rfl, rfl⟩, hr, hr', fun l n2 => ?_⟩
  refine kq6 (zs := (List.zipWith stepBoth ms ts).map otV) hr hr' (aqj (by rw [List.length_map, List.length_zipWith]; omega)) n2 (by rw [List.length_map, List.length_zipWith, hzl, hul]) (fun i x y z h1 h2 h3 H3 T s3 hT => ?_) (fun H3 s3 hl => ?_)
  ·obtain ⟨c, pc, hc, rfl, hpc⟩ := hz.get h1
   obtain ⟨d, pd, hd, rfl, hpd⟩ := hu.get h2
   rw [List.getElem?_map, List.getElem?_zipWith, hc, hd] at h3
   cases h3
   walk_at "rd"
   exact ⟨c, d, pc, pd, rfl, s3.tup hpc, s3.tup hpd, okx (okm c (List.mem_of_getElem? hc)), okx (okt d (List.mem_of_getElem? hd)), fun H4 s4 => hT H4 s4⟩
  have fl : ((List.zipWith stepBoth ms ts).map otV).all flatV = true := List.all_eq_true.mpr fun v hv => by
   obtain ⟨o, _, rfl⟩ := List.mem_map.mp hv
   cases o <;> rfl
  refine ⟨l, _, rfl, .inl (.of hl), rfl, fl, _, rfl, ?_⟩
  rw [if_neg (show ¬ false = true by decide)]
  rcases jqG (List.zipWith stepBoth ms ts) with ⟨h1, h2⟩ | ⟨h1, w, h2, h3⟩
  ·rw [h1]
   exact ite2 (fun _ => k0 (mm.trans h2) H3 (s2.trans s3)) (fun z => absurd rfl z)
  ·rw [h1]
   refine ite2 (fun z => by cases z) (fun _ => ?_)
   rw [h3] at hl
   walk_at "rd"
   exact ⟨_, .inl (.of hl), fun t H4 s4 ht => ⟨_, _, .inr (((s2.trans s3).trans s4).tup hp), aqh (j := 1) rfl, by decide, fun p5 H5 n5 s5 hp5 => k w p5 t H5 (mm.trans h2) (((s2.trans s3).trans s4).trans s5) hp5 (s5 _ _ ht)⟩⟩
theorem mqI (g : G K mg) : FnOk P w K mg base CX0 8 g.kqj g.gqN ["_law_script"] (iqp K) := by
 refine g.nqb.ok bqz (fun vs H Q E h => ?_) (fun cdv A outer s H vs Q E hr h => ?_)
 ·obtain ⟨a, ns, rfl, _⟩ := h; rfl
 ·obtain ⟨a, ns, rfl, hS, hn, k⟩ := h
  refine ⟨_, (aqe (aqx (i := 1) bqz.nd rfl (Or.inl rfl) (aql (gqn g) (hr.mono (by decide)) rfl g.eqN g.dqr.kp g.eqO .nil pass0 (aqa (aql (bqx g) (hr.mono (by decide)) rfl g.aq5 g.aqT.kp g.aq4 .nil pass0 (aqa (pv 0) (aqa aqb aqc))) (aqa aqb aqc))))
   (aqe (aqx (i := 2) bqz.nd rfl (Or.inl rfl) (aql (gqy g) (hr.mono (by decide)) rfl g.eqP g.dqe.kp g.eqS .nil pass0 (aqa (aql (bqx g) (hr.mono (by decide)) rfl g.aq5 g.aqT.kp g.aq4 .nil pass0 (aqa (pv 0) (aqa aqb aqc))) aqc)))
   (aqe (aqx (i := 3) bqz.nd rfl (Or.inl rfl) (aql (dqu g) (hr.mono (by decide)) rfl g.cqu g.bqG.kp g.cqx .nil pass0 (aqa (aql (cqU g) (hr.mono (by decide)) rfl g.cqo g.bqM.kp g.cqf .nil pass0 (aqa (pv 0) (aqa aqb (aqa aqb aqc)))) (aqa (pv 1) (aqa (pv 2) aqc)))))
   (aqe (aqx (i := 4) bqz.nd rfl (Or.inl rfl) (aql (dq5 g) (hr.mono (by decide)) rfl g.cqr g.bqv.kp g.cqg .nil pass0 (aqa (pv 3) (aqa (aql (cqU g) (hr.mono (by decide)) rfl g.cqo g.bqM.kp g.cqf .nil pass0 (aqa (pv 0) (aqa aqb (aqa aqb aqc)))) (aqa (pv 1) (aqa (pv 2) aqc))))))
   (bqn (aqx (i := 5) bqz.nd rfl (Or.inl rfl) (aql (dqu g) (hr.mono (by decide)) rfl g.cqu g.bqG.kp g.cqx .nil pass0 (aqa (aql (cqU g) (hr.mono (by decide)) rfl g.cqo g.bqM.kp g.cqf .nil pass0 (aqa (pv 0) (aqa aqb (aqa aqb aqc)))) (aqa (pv 1) (aqa (pv 2) aqc)))))
   (aqe (aqx (i := 6) bqz.nd rfl (Or.inl rfl) (aqs aqN (aql (bqx g) (hr.mono (by decide)) rfl g.aq5 g.aqT.kp g.aq4 .nil pass0 (aqa (pv 0) (aqa aqb aqc))) (aqs mqE aqb aqb)))
   (aqe (aqx (i := 7) bqz.nd rfl (Or.inl rfl) (aqs cqZ (aqn (aqd (K := K) rfl) (aqG (aqa aqm (aqa aqm (aqa aqm (aqa aqm aqc))))) (aqs aqN (pv 6) aqb) (fun _ _ => rfl)) aqb))
   (aqe (aqx (i := 8) bqz.nd rfl (Or.inl rfl) (cq1 (fqq (K := K) rfl) (pv 7) dqY (dq3 (aqs aqN (aqs aqQ (pv 6) aqb) aqb))))
   (aqe (aqx (i := 9) bqz.nd rfl (Or.inl rfl) (aqy (aqa aqm (aqa (pv 8) (aqa (aqn (aqd (K := K) rfl) (pv 1) aqb (fun _ _ => rfl)) (aqa (cq1 (fqq (K := K) rfl) (pv 7) dqY (dq3 (aqs hq9 (aqs (aqH (K := K)) aqb (aqs aqN (aqs aqQ (pv 6) aqb) aqb)) (aqv (aqr (K := K) rfl) rfl g.aq6 PySem.boot_len (aqa (pv 8) aqc))))) aqc))))))
   (bqn (aqO (aqk hqJ (aqv (aqr (K := K) rfl) rfl g.aq6 PySem.boot_len (aqa (pv 8) aqc)) aqb (nomark _))
    (aqf (aqx (i := 9) bqz.nd rfl (Or.inl rfl) (aqy (aqa aqm (aqa (pv 8) (aqa (aqn (aqd (K := K) rfl) (pv 1) aqb (fun _ _ => rfl)) (aqa aqm aqc))))))) aqw)
   (aqe (aqx (i := 10) bqz.nd rfl (Or.inl rfl) (aqy (aqa (aqy (aqa (pv 9) (aqa (aqy (aqa aqm (aqa (aqn (aqd (K := K) rfl) (pv 1) aqb (fun _ _ => rfl)) aqc))) aqc))) (aqa dqS aqc))))
   (aqe (aqx (i := 11) bqz.nd rfl (Or.inl rfl) (aqy (aqa (aqy (aqa (aqy (aqa aqm (aqa (aqn (aqd (K := K) rfl) (pv 1) aqb (fun _ _ => rfl)) aqc))) (aqa (aqy (aqa (aqn (aqd (K := K) rfl) (aqG (aqa aqm (aqa aqm aqc))) (aqs aqN (aqs aqQ (pv 6) aqb) aqb) (fun _ _ => rfl)) (aqa (aqn (aqd (K := K) rfl) (pv 1) aqb (fun _ _ => rfl)) aqc))) aqc))) (aqa dqS aqc))))
   (bqn (aqx (i := 12) bqz.nd rfl (Or.inl rfl) (aqy (aqa (aqy (aqa (aqy (aqa (aqn (aqd (K := K) rfl) (aqG (aqa aqm (aqa aqm aqc))) (aqs aqN (pv 6) aqb) (fun _ _ => rfl)) (aqa (aqn (aqd (K := K) rfl) (pv 1) aqb (fun _ _ => rfl)) aqc))) (aqa (aqy (aqa aqm (aqa (aqn (aqd (K := K) rfl) (pv 1) aqb (fun _ _ => rfl)) aqc))) aqc))) (aqa dqS aqc))))
   (bqn (eqo PassesOwn.never rfl (eq4 (K := K) rfl (aqG (aqa (aqy (aqa (pv 10) (aqa (pv 12) aqc))) (aqa (aqy (aqa (pv 12) (aqa (pv 10) aqc))) (aqa (aqy (aqa (pv 10) (aqa (pv 11) aqc))) (aqa (aqy (aqa (pv 11) (aqa (pv 12) aqc))) aqc)))))) (iq2 (n := 2) (K := K) rfl rfl (dqM (bql (i := 13) bqz.nd rfl (Or.inl rfl)) (dqM (bql (i := 14) bqz.nd rfl (Or.inl rfl)) hqW)))
   (aqf (aqO (aqk aqF (aqz gqH (aql (fq7 g) (hr.mono (by decide)) rfl g.fqu g.eqg.kp g.fqF .nil pass0 (aqa (pv 13) (aqa (pv 14) aqc))) dq9 (nomark _)) (aql (fqC g) (hr.mono (by decide)) rfl g.eqC g.dqI.kp g.eqB .nil pass0 (aqa (pv 13) (aqa (pv 14) aqc))) (nomark _))
    (aqf (aqp dqS)) aqw)))
   (aqe (eqo PassesOwn.never rfl (eq4 (K := K) rfl (aqG (aqa (aqy (aqa (pv 3) (aqa (pv 4) aqc))) (aqa (aqy (aqa (pv 4) (aqa (pv 3) aqc))) (aqa (aqy (aqa (pv 3) (aqa (pv 5) aqc))) (aqa (aqy (aqa (pv 4) (aqa (pv 5) aqc))) aqc)))))) (iq2 (n := 2) (K := K) rfl rfl (dqM (bql (i := 13) bqz.nd rfl (Or.inl rfl)) (dqM (bql (i := 14) bqz.nd rfl (Or.inl rfl)) hqW)))
   (aqf (aqO (aqk aqF (aqz gqH (aql (fq7 g) (hr.mono (by decide)) rfl g.fqu g.eqg.kp g.fqF .nil pass0 (aqa (pv 13) (aqa (pv 14) aqc))) dq9 (nomark _)) (aql (fqC g) (hr.mono (by decide)) rfl g.eqC g.dqI.kp g.eqB .nil pass0 (aqa (pv 13) (aqa (pv 14) aqc))) (nomark _))
    (aqf (aqp dqS)) aqw)))
   (aqf (aqp dqS))))))))))))))))), ?_⟩
  walk_at "rd"
  refine ⟨a, ns, 0, rfl, hS, _, 7, rfl, by decide, fun nm pn H1 h1 h2 h3 s1 h4 => ?_⟩
  have hnsg : ∀ n ∈ nm, ∀ x ∈ n, isSg x = true := fun n hn' => mqy (h2 n hn').2.2
  refine ⟨a, ns, 1, rfl, s1.seq hS, _, rfl, fun g1 H2 hg0 hg1 hgs s2 => ?_⟩
  have s02 := s1.trans s2
  have pcsg : ∀ {cs : List Pc}, PatOk cs → (∀ n ∈ gapsM cs, n ∈ nm) → ∀ c ∈ cs, PcOk c ∧ PcSg c := fun {cs} hok hgi c hc => ⟨hok.1 c hc, dqi (hok.1 c hc) fun x hx => by
   cases hst : c.isStep with
   | true =>
    cases c with
    | step s => exact absurd (show x ∈ ([] : List Nat) from hx) List.not_mem_nil
    | _ => cases hst
   | false => exact hnsg c.name (hgi c.name (by
     unfold gapsM
     exact List.mem_map.mpr ⟨c, List.mem_filter.mpr ⟨hc, by rw [hst]; rfl⟩, rfl⟩)) x hx⟩
  refine ⟨a, ns, 2, 6, rfl, s02.seq hS, by decide, fun is p3 H3 hil s3 hp3 => ?_⟩
  have s03 := s02.trans s3
  refine ⟨p3, pn, g1, nm, is, rfl, hp3, by omega, (s2.trans s3) _ _ h4, h1, h3, hnsg, hg0, by omega, hgs, fun cs e p q xs H4 hok hcl hgn hgi hce s4 hq hP hp => ?_⟩
  have s04 := s03.trans s4
  have oc := pcsg hok hgi
  refine ⟨a, ns, 8, 7, rfl, s04.seq hS, by decide, fun is5 p5 H5 hil5 s5 hp5 => ?_⟩
  have s25 := s3.trans (s4.trans s5)
  refine ⟨cs, e, p, p5, pn, g1, nm, is5, rfl, hcl, oc, ⟨q, xs, s5 _ _ hp, s5 _ _ hq, hP.mono s5.toT⟩, hp5, by omega, (s2.trans s25) _ _ h4, h1, hnsg, hg0, by omega, hgs, fun ds e' p6 H6 hdl od s6 hpt => ?_⟩
  have s06 := (s04.trans s5).trans s6
  have hpt1 : PtAt H6 cs e p := ⟨q, xs, (s5.trans s6) _ _ hp, (s5.trans s6) _ _ hq, hP.mono (s5.trans s6).toT⟩
  refine ⟨fun σ H8 => Same H H8 ∧ H8 pn = some (.lst (nm.map tV)) ∧ ∃ (pa pb pc : Addr), PtO H8 (.ref pa) ∧ PtO H8 (.ref pb) ∧ PtO H8 (.ref pc) ∧ σ = [some (.ref a), some (.ref pn), some (tV g1), some (.ref pa), some (.ref pb), some (.ref pc), none, none, none, none, none, none, none, none, none], ?_, ?_⟩
  ·refine ⟨a, ns, 15, 6, rfl, s06.seq hS, by decide, fun is7 p7 H7 hil7 s7 hp7 => ?_⟩
   refine ⟨p7, pn, g1, nm, is7, rfl, hp7, by omega, ((s2.trans s25).trans (s6.trans s7)) _ _ h4, h1, h3, hnsg, hg0, by omega, hgs, fun zs e3 p8 q8 xs8 H8 hok8 hzl _ hgi8 _ s8 hq8 hP8 hp8 => ?_⟩
   have s68 := s7.trans s8
   exact ⟨s06.trans s68, (((s2.trans s25).trans s6).trans s68) _ _ h4, p, p6, p8, ⟨cs, e, p, rfl, ⟨by omega, oc⟩, hpt1.mono s68.toT⟩, ⟨ds, e', p6, rfl, ⟨by omega, od⟩, hpt.mono s68.toT⟩, ⟨zs, e3, p8, rfl, ⟨by omega, pcsg hok8 hgi8⟩, ⟨q8, xs8, hp8, hq8, hP8⟩⟩, rfl⟩
  clear hpt1 hpt s06 od hdl s6 H6 p6 e' ds s25 hp5 hil5 s5 H5 p5 is5 oc s04 hp hP hq s4 hce hgi hgn hcl hok pcsg
  rintro σ H8 ⟨s8, hpn8, pa, pb, pc, ha, hb, hc, rfl⟩
  walk_at "rd"
  refine ⟨a, ns, 21, rfl, s8.seq hS, ?_⟩
  walk_at "rd"
  generalize ns.getD 21 0 = ce0
  refine ⟨⟨by decide, by decide, by decide⟩, by decide, ?_⟩
  generalize ce0 % 10 ^ Int.toNat 9 = ce
  refine ⟨by decide, fun p9 H9 n9 s9 hp9 => ⟨by decide, ?_⟩⟩
  obtain ⟨j, hj, ej⟩ : ∃ j : Nat, j < 4 ∧ ce % 4 = (j : Int) := ⟨(ce % 4).toNat, by omega, by omega⟩
  obtain ⟨w, hw, hmul, L, hL, l1, l2, l3⟩ : ∃ w : Str, [V.str (Str.ofString "1"), V.str (Str.ofString "a"), V.str (Str.ofString "10"), V.str (Str.ofString "ab")][j]? = some (.str w) ∧ MulOk w 60 ∧ ∃ L : List Nat, PySem.Txt.mul w 60 = ⟨L.toArray⟩ ∧ 60 ≤ L.length ∧ L.length ≤ 120 ∧ ∀ x ∈ L, isSg x = true := by
   match j, hj with
   | 0, _ => exact ⟨_, rfl, ⟨by decide, fun _ _ => by decide +kernel, fun _ _ => by decide +kernel⟩, (PySem.Txt.mul (Str.ofString "1") 60).cps.toList, by simp, by decide +kernel, by decide +kernel, by decide +kernel⟩
   | 1, _ => exact ⟨_, rfl, ⟨by decide, fun _ _ => by decide +kernel, fun _ _ => by decide +kernel⟩, (PySem.Txt.mul (Str.ofString "a") 60).cps.toList, by simp, by decide +kernel, by decide +kernel, by decide +kernel⟩
   | 2, _ => exact ⟨_, rfl, ⟨by decide, fun _ _ => by decide +kernel, fun _ _ => by decide +kernel⟩, (PySem.Txt.mul (Str.ofString "10") 60).cps.toList, by simp, by decide +kernel, by decide +kernel, by decide +kernel⟩
   | 3, _ => exact ⟨_, rfl, ⟨by decide, fun _ _ => by decide +kernel, fun _ _ => by decide +kernel⟩, (PySem.Txt.mul (Str.ofString "ab") 60).cps.toList, by simp, by decide +kernel, by decide +kernel, by decide +kernel⟩
  refine ⟨_, _, .inl (.of hp9), by rw [ej]; exact aqh hw, ?_⟩
  rw [lqd]
  refine ⟨hmul, ⟨by decide, by decide⟩, by decide, ?_⟩
  rw [hL]
  obtain ⟨m, hm, em⟩ : ∃ m : Nat, m ≤ 62 ∧ ce / 4 % 63 = (m : Int) := ⟨(ce / 4 % 63).toNat, by omega, by omega⟩
  rw [em]
  refine hqr.mpr ⟨aqj (by rw [bqT]; omega), ?_⟩
  rw [eq6]
  obtain ⟨nm0, hnm0⟩ : ∃ z, nm[0]? = some z := ⟨_, List.getElem?_eq_getElem (by omega)⟩
  refine ⟨_, _, .inl (.of (s9 _ _ hpn8)), aqh (j := 0) (by rw [List.getElem?_map, hnm0]; rfl), ⟨by decide, by decide⟩, by decide, ?_⟩
  walk_at "rd"
  have hhl : (L.take m).length ≤ 62 := by rw [List.length_take]; omega
  have hnm0g : ∀ x ∈ nm0, isSg x = true := hnsg nm0 (List.mem_of_getElem? hnm0)
  generalize hhd : L.take m = hd at hhl
  have hhs : ∀ x ∈ hd, isSg x = true := fun x hx => l3 x (List.mem_of_mem_take (by rw [hhd]; exact hx))
  obtain ⟨c5, hc5, ec5⟩ : ∃ m : Nat, m ≤ 4 ∧ ce / 256 % 5 = (m : Int) := ⟨(ce / 256 % 5).toNat, by omega, by omega⟩
  rw [ec5]
  have s09 := s8.trans s9
  refine ⟨aqj (by omega), aqj (by omega), by decide, fun p10 H10 n10 s10 hp10 => ?_⟩
  have s010 := s09.trans s10
  have s810 := s9.trans s10
  refine ⟨fun σ H11 => Same H8 H11 ∧ ∃ (q : Addr) (c : Pc), PcOk c ∧ PcSg c ∧ H11 q = some (.tup c.vals) ∧ σ = [some (.ref a), some (.ref pn), some (tV g1), some (.ref pa), some (.ref pb), some (.ref pc), some (.int ce), some (tV L), some (tV hd), some (.ref q), none, none, none, none, none], ⟨aqj (by omega), ite2 (fun hgt => ?_) (fun hle => ?_)⟩, ?_⟩
  ·refine ⟨_, _, .inl (.of (s810 _ _ hpn8)), aqh (j := 0) (by rw [List.getElem?_map, hnm0]; rfl), by decide, fun p11 H11 n11 s11 hp11 => ?_⟩
   have o : PcOk (.part hd nm0 []) := ⟨by omega, Nat.zero_le _, hhs, fun x hx => (by cases hx), fun z => by rw [List.append_nil] at z; rw [z] at hgt; simp at hgt⟩
   exact ⟨s810.trans s11, p11, .part hd nm0 [], o, dqi o hnm0g, hp11, rfl⟩
  ·obtain ⟨r, hr1, hr2, er⟩ : ∃ r : Nat, 1 ≤ r ∧ r ≤ 62 ∧ (58 + (c5 : Int) - (hd.length : Int)) = (r : Int) := ⟨(58 + (c5 : Int) - (hd.length : Int)).toNat, by omega, by omega, by omega⟩
   rw [er, eq6] at hp10
   have o : PcOk (.part hd nm0 (L.take r)) := ⟨by omega, by rw [List.length_take]; omega, hhs, fun x hx => l3 x (List.mem_of_mem_take hx), fun z => by
    have := congrArg List.length z
    rw [List.length_append, List.length_take, List.length_nil] at this
    omega⟩
   exact ⟨s810, p10, .part hd nm0 (L.take r), o, dqi o hnm0g, hp10, rfl⟩
  clear hp10 s010 s810 s09 n10 s10
  clear H10 p10
  rintro σ H11 ⟨s11, q, c, ok, sg, hq11, rfl⟩
  have gp : ∀ (i : Nat), i < 7 → ∃ n : List Nat, nm[i]? = some n ∧ ∀ x ∈ n, isSg x = true := fun i hi => ⟨_, List.getElem?_eq_getElem (by omega), hnsg _ (List.getElem_mem (by omega))⟩
  walk_at "rd"
  have mk2 : ∀ {H' : Hp} {p pp q1 q2 : Addr} {c1 c2 : Pc}, H' p = some (.tup [.ref pp, .bl true]) → H' pp = some (.tup [.ref q1, .ref q2]) → H' q1 = some (.tup c1.vals) → H' q2 = some (.tup c2.vals) → (PcOk c1 ∧ PcSg c1) → (PcOk c2 ∧ PcSg c2) → PtO H' (.ref p) := fun {H' p pp q1 q2 c1 c2} h1 h2 h3 h4 o1 o2 =>
   ⟨[c1, c2], true, p, rfl, ⟨(show 2 ≤ 90 by decide), fun c hc => by
    simp only [List.mem_cons, List.not_mem_nil, or_false] at hc
    rcases hc with rfl | rfl
    ·exact o1
    ·exact o2⟩, pp, _, h1, h2, .cons h3 (.cons h4 .nil)⟩
  have kwp : ∀ (x : Int) (n : List Nat), (∀ y ∈ n, isSg y = true) → ∃ (j : Nat) (z : Str) (c : Pc), x % 2 = (j : Int) ∧ [V.str (Str.ofString "number"), V.str (Str.ofString "word")][j]? = some (.str z) ∧ c.vals = [.str z, tV n] ∧ PcOk c ∧ PcSg c := fun x n hn' => by
   obtain ⟨j, hj, ej⟩ : ∃ j : Nat, j < 2 ∧ x % 2 = (j : Int) := ⟨(x % 2).toNat, by omega, by omega⟩
   match j, hj with
   | 0, _ => exact ⟨0, _, .num n, ej, rfl, rfl, trivial, dqi trivial hn'⟩
   | 1, _ => exact ⟨1, _, .word n, ej, rfl, rfl, trivial, dqi trivial hn'⟩
  obtain ⟨m1, e1, g1'⟩ := gp 1 (by decide)
  obtain ⟨m2, e2, g2'⟩ := gp 2 (by decide)
  obtain ⟨m3, e3, g3'⟩ := gp 3 (by decide)
  have og : ∀ n : List Nat, (∀ y ∈ n, isSg y = true) → PcOk (.gap n) ∧ PcSg (.gap n) := fun n h => ⟨trivial, dqi trivial h⟩
  refine ⟨_, _, .inl (.of (s11 _ _ hpn8)), aqh (j := 1) (by rw [List.getElem?_map, e1]; rfl), by decide, fun q12 H12 n12 s12 h12 => ⟨by decide, fun q13 H13 n13 s13 h13 => ⟨by decide, fun q14 H14 n14 s14 h14 => ?_⟩⟩⟩
  have t12 := s11.trans s12
  have t14 := (t12.trans s13).trans s14
  have hlong : PtO H14 (.ref q14) := mk2 (c2 := .gap m1) h14 (s14 _ _ h13) ((s12.trans (s13.trans s14)) _ _ hq11) ((s13.trans s14) _ _ h12) ⟨ok, sg⟩ (og m1 g1')
  refine ⟨_, _, .inl (.of (t14 _ _ hpn8)), aqh (j := 2) (by rw [List.getElem?_map, e2]; rfl), by decide, fun q15 H15 n15 s15 h15 => ⟨by decide, fun q16 H16 n16 s16 h16 => ⟨⟨by decide, by decide⟩, by decide, ?_⟩⟩⟩
  obtain ⟨j1, z1, c1, ej1, hz1, hv1, ok1, sg1⟩ := kwp (ce / 2048) m3 g3'
  have t16 := (t14.trans s15).trans s16
  refine ⟨_, _, .inl (.of h16), by rw [ej1]; exact aqh hz1, _, _, .inl (.of (t16 _ _ hpn8)), aqh (j := 3) (by rw [List.getElem?_map, e3]; rfl), by decide, fun q17 H17 n17 s17 h17 => ⟨by decide, fun q18 H18 n18 s18 h18 => ⟨by decide, fun q19 H19 n19 s19 h19 => ?_⟩⟩⟩
  rw [← hv1] at h17
  have t19 := ((t16.trans s17).trans s18).trans s19
  have hfew : PtO H19 (.ref q19) := mk2 (c1 := .gap m2) h19 (s19 _ _ h18) ((s16.trans (s17.trans (s18.trans s19))) _ _ h15) ((s18.trans s19) _ _ h17) (og m2 g2') ⟨ok1, sg1⟩
  have l19 : PtO H19 (.ref q14) := hlong.mono ((s15.trans s16).trans ((s17.trans s18).trans s19)).toT
  refine ⟨fun σ H' => Same H8 H' ∧ ∃ q1 q2 q3 : Addr, PtO H' (.ref q1) ∧ PtO H' (.ref q2) ∧ PtO H' (.ref q3) ∧ σ = [some (.ref a), some (.ref pn), some (tV g1), some (.ref pa), some (.ref pb), some (.ref pc), some (.int ce), some (tV L), some (tV hd), some (.ref q), some (.ref q1), some (.ref q2), some (.ref q3), none, none], ?_, ?_⟩
  ·refine ⟨by decide, fun q20 H20 n20 s20 h20 => ⟨by decide, ?_⟩⟩
   obtain ⟨j2, z2, c2, ej2, hz2, hv2, ok2, sg2⟩ := kwp ce m2 g2'
   have t20 := t19.trans s20
   refine ⟨_, _, .inl (.of h20), by rw [ej2]; exact aqh hz2, _, _, .inl (.of (t20 _ _ hpn8)), aqh (j := 2) (by rw [List.getElem?_map, e2]; rfl), by decide, fun q21 H21 n21 s21 h21 => ?_⟩
   rw [← hv2] at h21
   refine ⟨_, _, .inl (.of ((t20.trans s21) _ _ hpn8)), aqh (j := 3) (by rw [List.getElem?_map, e3]; rfl), by decide, fun q22 H22 n22 s22 h22 => ⟨by decide, fun q23 H23 n23 s23 h23 => ⟨by decide, fun q24 H24 n24 s24 h24 => ?_⟩⟩⟩
   have u24 := (s21.trans s22).trans (s23.trans s24)
   exact ⟨t20.trans u24, q14, q19, q24, l19.mono (s20.trans u24).toT, hfew.mono (s20.trans u24).toT, mk2 (c2 := .gap m3) h24 (s24 _ _ h23) ((s22.trans (s23.trans s24)) _ _ h21) ((s23.trans s24) _ _ h22) ⟨ok2, sg2⟩ (og m3 g3'), rfl⟩
  rintro σ H20 ⟨s20, q1, q2, q3, hq1, hq2, hq3, rfl⟩
  walk_at "rd"
  have ask : ∀ {H1 : Hp} {x y : Addr} {Z : Hp → Prop}, PtO H1 (.ref x) → PtO H1 (.ref y) → (∀ H', Same H1 H' → Z H') → fqX K [.ref x, .ref y] H1 (fun x_1 H1 => fqg K [.ref x, .ref y] H1 (fun y_1 H2 => rEq (V.bl (decide (x_1 = V.non))) y_1 H2 fun x_2 H' => ∃ k, x_2 = V.bl k ∧ if k = true then Q (V.bl false) H' else Z H') E0) E0 := fun {H1 x y Z} h1 h2 kz => by
   obtain ⟨cs, e, p1, hpe, oc, q, xs, hp, hq, hx⟩ := h1
   cases hpe
   obtain ⟨ds, e', p2, hpe, od, q', ys, hp', hq', hy⟩ := h2
   cases hpe
   have oc' : ∀ c ∈ cs, PcOk c := fun c hc => (oc.2 c hc).1
   have od' : ∀ c ∈ ds, PcOk c := fun c hc => (od.2 c hc).1
   have dm := kqb (e := e) (e' := e') oc' od'
   refine ⟨cs, ds, xs, ys, x, q, y, q', e, e', rfl, .of hp, hq, hx.all, .of hp', hq', hy.all, oc.1, od.1, oc', od', (fun hm H2 s2 => ?_), fun w r t H2 hm s2 _ _ => ?_⟩
   ·rw [hm] at dm
    refine ⟨cs, ds, e, e', x, y, rfl, oc, od, ⟨q, xs, s2 _ _ hp, s2 _ _ hq, hx.mono s2.toT⟩, ⟨q', ys, s2 _ _ hp', s2 _ _ hq', hy.mono s2.toT⟩, fun H3 s3 => L2.hqB.mpr ⟨_, rfl, ite2 (fun z => ?_) (fun _ => kz H3 (s2.trans s3))⟩⟩
    rw [← dm] at z
    simp at z
   ·rw [hm] at dm
    refine ⟨cs, ds, e, e', x, y, rfl, oc, od, ⟨q, xs, s2 _ _ hp, s2 _ _ hq, hx.mono s2.toT⟩, ⟨q', ys, s2 _ _ hp', s2 _ _ hq', hy.mono s2.toT⟩, fun H3 s3 => L2.hqB.mpr ⟨_, rfl, ite2 (fun z => ?_) (fun _ => kz H3 (s2.trans s3))⟩⟩
    rw [← dm, decide_eq_false (show ¬ V.ref r = V.non from fun q => by cases q)] at z
    simp at z
  have fours : ∀ {H1 : Hp} {r1 r2 r3 r4 x1 y1 x2 y2 x3 y3 x4 y4 : Addr}, H1 r1 = some (.tup [.ref x1, .ref y1]) → H1 r2 = some (.tup [.ref x2, .ref y2]) → H1 r3 = some (.tup [.ref x3, .ref y3]) → H1 r4 = some (.tup [.ref x4, .ref y4]) → PtO H1 (.ref x1) → PtO H1 (.ref y1) → PtO H1 (.ref x2) → PtO H1 (.ref y2) → PtO H1 (.ref x3) → PtO H1 (.ref y3) → PtO H1 (.ref x4) → PtO H1 (.ref y4) → ∀ v ∈ [V.ref r1, V.ref r2, V.ref r3, V.ref r4], ∃ r x y : Addr, v = .ref r ∧ H1 r = some (.tup [.ref x, .ref y]) ∧ PtO H1 (.ref x) ∧ PtO H1 (.ref y) := fun a1 a2 a3 a4 b1 b2 b3 b4 b5 b6 b7 b8 v hv => by
   simp only [List.mem_cons, List.not_mem_nil, or_false] at hv
   rcases hv with rfl | rfl | rfl | rfl
   ·exact ⟨_, _, _, rfl, a1, b1, b2⟩
   ·exact ⟨_, _, _, rfl, a2, b3, b4⟩
   ·exact ⟨_, _, _, rfl, a3, b5, b6⟩
   ·exact ⟨_, _, _, rfl, a4, b7, b8⟩
  refine ⟨fun σ H' => Same H20 H' ∧ ∃ v13 v14 : Option V, σ = [some (.ref a), some (.ref pn), some (tV g1), some (.ref pa), some (.ref pb), some (.ref pc), some (.int ce), some (tV L), some (tV hd), some (.ref q), some (.ref q1), some (.ref q2), some (.ref q3), v13, v14], ?_, ?_⟩
  ·refine ⟨by decide, fun r1 H21 n21 s21 h21 => ⟨by decide, fun r2 H22 n22 s22 h22 => ⟨by decide, fun r3 H23 n23 s23 h23 => ⟨by decide, fun r4 H24 n24 s24 h24 => ⟨by decide, fun l H25 n25 s25 hl => ?_⟩⟩⟩⟩⟩
   have u25 := (s21.trans s22).trans ((s23.trans s24).trans s25)
   have all4 := fours ((s22.trans ((s23.trans s24).trans s25)) _ _ h21) (((s23.trans s24).trans s25) _ _ h22) ((s24.trans s25) _ _ h23) (s25 _ _ h24) (hq1.mono u25.toT) (hq3.mono u25.toT) (hq3.mono u25.toT) (hq1.mono u25.toT) (hq1.mono u25.toT) (hq2.mono u25.toT) (hq2.mono u25.toT) (hq3.mono u25.toT)
   refine ⟨⟨_, .of hl⟩, ?_⟩
   refine fqv (xs := [V.ref r1, V.ref r2, V.ref r3, V.ref r4]) (fun i σ H' => Same H25 H' ∧ ∃ v13 v14 : Option V, σ = [some (.ref a), some (.ref pn), some (tV g1), some (.ref pa), some (.ref pb), some (.ref pc), some (.int ce), some (tV L), some (tV hd), some (.ref q), some (.ref q1), some (.ref q2), some (.ref q3), v13, v14]) ⟨Same.refl _, _, _, rfl⟩ (fun i σ H' _ h => .of (h.1 _ _ hl)) ?_ ?_
   rotate_left
   ·rintro σ H26 ⟨s26, v13, v14, rfl⟩
    exact ⟨u25.trans s26, _, _, rfl⟩
   rintro i vr σ H26 hvr ⟨s26, v13, v14, rfl⟩
   obtain ⟨r, x, y, rfl, hr, hx, hy⟩ := all4 vr (List.mem_of_getElem? hvr)
   refine ⟨r, _, rfl, .of (s26 _ _ hr), rfl, _, _, rfl, _, _, rfl, rfl, ?_⟩
   walk_at "rd"
   exact ask (hx.mono s26.toT) (hy.mono s26.toT) fun H27 s27 => ⟨s26.trans s27, _, _, rfl, rfl⟩
  rintro σ H21 ⟨s21, v13, v14, rfl⟩
  walk_at "rd"
  have ha21 := ha.mono (s20.trans s21).toT
  have hb21 := hb.mono (s20.trans s21).toT
  have hc21 := hc.mono (s20.trans s21).toT
  refine ⟨by decide, fun r1 H22 n22 s22 h22 => ⟨by decide, fun r2 H23 n23 s23 h23 => ⟨by decide, fun r3 H24 n24 s24 h24 => ⟨by decide, fun r4 H25 n25 s25 h25 => ⟨by decide, fun l H26 n26 s26 hl => ?_⟩⟩⟩⟩⟩
  have u26 := (s22.trans s23).trans ((s24.trans s25).trans s26)
  have all4 := fours ((s23.trans ((s24.trans s25).trans s26)) _ _ h22) (((s24.trans s25).trans s26) _ _ h23) ((s25.trans s26) _ _ h24) (s26 _ _ h25) (ha21.mono u26.toT) (hb21.mono u26.toT) (hb21.mono u26.toT) (ha21.mono u26.toT) (ha21.mono u26.toT) (hc21.mono u26.toT) (hb21.mono u26.toT) (hc21.mono u26.toT)
  refine ⟨⟨_, .of hl⟩, ?_⟩
  refine fqv (xs := [V.ref r1, V.ref r2, V.ref r3, V.ref r4]) (fun i σ H' => Same H26 H' ∧ ∃ v13 v14 : Option V, σ = [some (.ref a), some (.ref pn), some (tV g1), some (.ref pa), some (.ref pb), some (.ref pc), some (.int ce), some (tV L), some (tV hd), some (.ref q), some (.ref q1), some (.ref q2), some (.ref q3), v13, v14]) ⟨Same.refl _, _, _, rfl⟩ (fun i σ H' _ h => .of (h.1 _ _ hl)) ?_ ?_
  rotate_left
  ·rintro σ H27 ⟨s27, v13, v14, rfl⟩
   walk_at "rd"
   exact k H27
  rintro i vr σ H27 hvr ⟨s27, v13, v14, rfl⟩
  obtain ⟨r, x, y, rfl, hr, hx, hy⟩ := all4 vr (List.mem_of_getElem? hvr)
  refine ⟨r, _, rfl, .of (s27 _ _ hr), rfl, _, _, rfl, _, _, rfl, rfl, ?_⟩
  walk_at "rd"
  exact ask (hx.mono s27.toT) (hy.mono s27.toT) fun H28 s28 => ⟨s27.trans s28, _, _, rfl, rfl⟩
end
theorem aqg {a b : Bool} (h : (a && b) = true) : a = true := by cases a; cases h; rfl
theorem aqi {a b : Bool} (h : (a && b) = true) : b = true := by cases a; cases h; exact h
theorem usl1 {us : List Value} (h : us.length = 1) : ∃ x0, us = [x0] := List.length_eq_one_iff.mp h
local macro_rules | `(tactic| walk_at "b1") => `(tactic| exact fun _ _ _ _ _ _ us hl => by obtain ⟨x0, e⟩ := usl1 hl; subst e; rfl)
theorem usl2 {us : List Value} (h : us.length = 2) : ∃ x0 x1, us = [x0, x1] := by
 cases us with
 | nil => cases h
 | cons x0 l =>
  obtain ⟨x1, rfl⟩ := usl1 (Nat.succ.inj h)
  exact ⟨_, _, rfl⟩
local macro_rules | `(tactic| walk_at "b2") => `(tactic| exact fun _ _ _ _ _ _ us hl => by obtain ⟨x0, x1, e⟩ := usl2 hl; subst e; rfl)
theorem usl3 {us : List Value} (h : us.length = 3) : ∃ x0 x1 x2, us = [x0, x1, x2] := by
 cases us with
 | nil => cases h
 | cons x0 l =>
  obtain ⟨x1, x2, rfl⟩ := usl2 (Nat.succ.inj h)
  exact ⟨_, _, _, rfl⟩
local macro_rules | `(tactic| walk_at "b3") => `(tactic| exact fun _ _ _ _ _ _ us hl => by obtain ⟨x0, x1, x2, e⟩ := usl3 hl; subst e; rfl)
theorem usl4 {us : List Value} (h : us.length = 4) : ∃ x0 x1 x2 x3, us = [x0, x1, x2, x3] := by
 cases us with
 | nil => cases h
 | cons x0 l =>
  obtain ⟨x1, x2, x3, rfl⟩ := usl3 (Nat.succ.inj h)
  exact ⟨_, _, _, _, rfl⟩
local macro_rules | `(tactic| walk_at "b4") => `(tactic| exact fun _ _ _ _ _ _ us hl => by obtain ⟨x0, x1, x2, x3, e⟩ := usl4 hl; subst e; rfl)
theorem mqY {l : PySem.W.OpenLaw} {w : World} {K : W.Frag} {h : Heap} {mg : Str → Option Value} {fa : Addr} (X : K.In h) (Gl : h.Ns mainGlobals mg) (hfa : mg "law" = some (.ref fa))
  (a1 : W.nsIn K mainGlobals "made_of" = some (some (.ref f1))) (l1 : K.lookup f1 = some ⟨oc1, od1, .func (W.fnOf "made_of" "made_of" (defArgs cqJ) (defBody cqJ) (defScope cqJ) .none kV1 dc1 pm1 an1 cd1 ct1), sl1⟩)
  (a2 : W.nsIn K mainGlobals "is_dot" = some (some (.ref f2))) (l2 : K.lookup f2 = some ⟨oc2, od2, .func (W.fnOf "is_dot" "is_dot" (defArgs dqw) (defBody dqw) (defScope dqw) .none kV2 dc2 pm2 an2 cd2 ct2), sl2⟩)
  (a3 : W.nsIn K mainGlobals "is_gap" = some (some (.ref f3))) (l3 : K.lookup f3 = some ⟨oc3, od3, .func (W.fnOf "is_gap" "is_gap" (defArgs dqO) (defBody dqO) (defScope dqO) .none kV3 dc3 pm3 an3 cd3 ct3), sl3⟩)
  (a4 : W.nsIn K mainGlobals "head_of" = some (some (.ref f4))) (l4 : K.lookup f4 = some ⟨oc4, od4, .func (W.fnOf "head_of" "head_of" (defArgs cqL) (defBody cqL) (defScope cqL) .none kV4 dc4 pm4 an4 cd4 ct4), sl4⟩)
  (a5 : W.nsIn K mainGlobals "tail_of" = some (some (.ref f5))) (l5 : K.lookup f5 = some ⟨oc5, od5, .func (W.fnOf "tail_of" "tail_of" (defArgs cqI) (defBody cqI) (defScope cqI) .none kV5 dc5 pm5 an5 cd5 ct5), sl5⟩)
  (a6 : W.nsIn K mainGlobals "has_rest" = some (some (.ref f6))) (l6 : K.lookup f6 = some ⟨oc6, od6, .func (W.fnOf "has_rest" "has_rest" (defArgs bq0) (defBody bq0) (defScope bq0) .none kV6 dc6 pm6 an6 cd6 ct6), sl6⟩)
  (a7 : W.nsIn K mainGlobals "texts_around" = some (some (.ref f7))) (l7 : K.lookup f7 = some ⟨oc7, od7, .func (W.fnOf "texts_around" "texts_around" (defArgs aqV) (defBody aqV) (defScope aqV) .none kV7 dc7 pm7 an7 cd7 ct7), sl7⟩)
  (a8 : W.nsIn K mainGlobals "_law_cell_at" = some (some (.ref f8))) (l8 : K.lookup f8 = some ⟨oc8, od8, .func (W.fnOf "_law_cell_at" "_law_cell_at" (defArgs aqU) (defBody aqU) (defScope aqU) .none kV8 dc8 pm8 an8 cd8 ct8), sl8⟩)
  (a9 : W.nsIn K mainGlobals "_law_names" = some (some (.ref f9))) (l9 : K.lookup f9 = some ⟨oc9, od9, .func (W.fnOf "_law_names" "_law_names" (defArgs bqi) (defBody bqi) (defScope bqi) .none kV9 dc9 pm9 an9 cd9 ct9), sl9⟩)
  (a10 : W.nsIn K mainGlobals "_law_signs" = some (some (.ref f10))) (l10 : K.lookup f10 = some ⟨oc10, od10, .func (W.fnOf "_law_signs" "_law_signs" (defArgs bqg) (defBody bqg) (defScope bqg) .none kV10 dc10 pm10 an10 cd10 ct10), sl10⟩)
  (a11 : W.nsIn K mainGlobals "_law_run" = some (some (.ref f11))) (l11 : K.lookup f11 = some ⟨oc11, od11, .func (W.fnOf "_law_run" "_law_run" (defArgs bq3) (defBody bq3) (defScope bq3) .none kV11 dc11 pm11 an11 cd11 ct11), sl11⟩)
  (a12 : W.nsIn K mainGlobals "_law_fits_step" = some (some (.ref f12))) (l12 : K.lookup f12 = some ⟨oc12, od12, .func (W.fnOf "_law_fits_step" "_law_fits_step" (defArgs aqJ) (defBody aqJ) (defScope aqJ) .none kV12 dc12 pm12 an12 cd12 ct12), sl12⟩)
  (a13 : W.nsIn K mainGlobals "_law_with_part" = some (some (.ref f13))) (l13 : K.lookup f13 = some ⟨oc13, od13, .func (W.fnOf "_law_with_part" "_law_with_part" (defArgs aqI) (defBody aqI) (defScope aqI) .none kV13 dc13 pm13 an13 cd13 ct13), sl13⟩)
  (a14 : W.nsIn K mainGlobals "spread" = some (some (.ref f14))) (l14 : K.lookup f14 = some ⟨oc14, od14, .func (W.fnOf "spread" "spread" (defArgs dqB) (defBody dqB) (defScope dqB) .none kV14 dc14 pm14 an14 cd14 ct14), sl14⟩)
  (a15 : W.nsIn K mainGlobals "fits_part" = some (some (.ref f15))) (l15 : K.lookup f15 = some ⟨oc15, od15, .func (W.fnOf "fits_part" "fits_part" (defArgs bqB) (defBody bqB) (defScope bqB) .none kV15 dc15 pm15 an15 cd15 ct15), sl15⟩)
  (a16 : W.nsIn K mainGlobals "is_number" = some (some (.ref f16))) (l16 : K.lookup f16 = some ⟨oc16, od16, .func (W.fnOf "is_number" "is_number" (defArgs bqD) (defBody bqD) (defScope bqD) .none kV16 dc16 pm16 an16 cd16 ct16), sl16⟩)
  (a17 : W.nsIn K mainGlobals "is_word" = some (some (.ref f17))) (l17 : K.lookup f17 = some ⟨oc17, od17, .func (W.fnOf "is_word" "is_word" (defArgs cqD) (defBody cqD) (defScope cqD) .none kV17 dc17 pm17 an17 cd17 ct17), sl17⟩)
  (a18 : W.nsIn K mainGlobals "_law_cells" = some (some (.ref f18))) (l18 : K.lookup f18 = some ⟨oc18, od18, .func (W.fnOf "_law_cells" "_law_cells" (defArgs bqf) (defBody bqf) (defScope bqf) .none kV18 dc18 pm18 an18 cd18 ct18), sl18⟩)
  (a19 : W.nsIn K mainGlobals "_law_text" = some (some (.ref f19))) (l19 : K.lookup f19 = some ⟨oc19, od19, .func (W.fnOf "_law_text" "_law_text" (defArgs bqE) (defBody bqE) (defScope bqE) .none kV19 dc19 pm19 an19 cd19 ct19), sl19⟩)
  (a20 : W.nsIn K mainGlobals "_law_may" = some (some (.ref f20))) (l20 : K.lookup f20 = some ⟨oc20, od20, .func (W.fnOf "_law_may" "_law_may" (defArgs bq5) (defBody bq5) (defScope bq5) .none kV20 dc20 pm20 an20 cd20 ct20), sl20⟩)
  (a21 : W.nsIn K mainGlobals "step_fits" = some (some (.ref f21))) (l21 : K.lookup f21 = some ⟨oc21, od21, .func (W.fnOf "step_fits" "step_fits" (defArgs bqC) (defBody bqC) (defScope bqC) .none kV21 dc21 pm21 an21 cd21 ct21), sl21⟩)
  (a22 : W.nsIn K mainGlobals "_law_piece" = some (some (.ref f22))) (l22 : K.lookup f22 = some ⟨oc22, od22, .func (W.fnOf "_law_piece" "_law_piece" (defArgs bqh) (defBody bqh) (defScope bqh) .none kV22 dc22 pm22 an22 cd22 ct22), sl22⟩)
  (a23 : W.nsIn K mainGlobals "_law_due" = some (some (.ref f23))) (l23 : K.lookup f23 = some ⟨oc23, od23, .func (W.fnOf "_law_due" "_law_due" (defArgs bq6) (defBody bq6) (defScope bq6) .none kV23 dc23 pm23 an23 cd23 ct23), sl23⟩)
  (a24 : W.nsIn K mainGlobals "fitting_texts" = some (some (.ref f24))) (l24 : K.lookup f24 = some ⟨oc24, od24, .func (W.fnOf "fitting_texts" "fitting_texts" (defArgs aqM) (defBody aqM) (defScope aqM) .none kV24 dc24 pm24 an24 cd24 ct24), sl24⟩)
  (a25 : W.nsIn K mainGlobals "_law_pattern" = some (some (.ref f25))) (l25 : K.lookup f25 = some ⟨oc25, od25, .func (W.fnOf "_law_pattern" "_law_pattern" (defArgs aqW) (defBody aqW) (defScope aqW) .none kV25 dc25 pm25 an25 cd25 ct25), sl25⟩)
  (a26 : W.nsIn K mainGlobals "_law_kin" = some (some (.ref f26))) (l26 : K.lookup f26 = some ⟨oc26, od26, .func (W.fnOf "_law_kin" "_law_kin" (defArgs bq1) (defBody bq1) (defScope bq1) .none kV26 dc26 pm26 an26 cd26 ct26), sl26⟩)
  (a27 : W.nsIn K mainGlobals "texts_for_both" = some (some (.ref f27))) (l27 : K.lookup f27 = some ⟨oc27, od27, .func (W.fnOf "texts_for_both" "texts_for_both" (defArgs aqK) (defBody aqK) (defScope aqK) .none kV27 dc27 pm27 an27 cd27 ct27), sl27⟩)
  (a28 : W.nsIn K mainGlobals "_law_kin_pattern" = some (some (.ref f28))) (l28 : K.lookup f28 = some ⟨oc28, od28, .func (W.fnOf "_law_kin_pattern" "_law_kin_pattern" (defArgs aqB) (defBody aqB) (defScope aqB) .none kV28 dc28 pm28 an28 cd28 ct28), sl28⟩)
  (a29 : W.nsIn K mainGlobals "step_for_both" = some (some (.ref f29))) (l29 : K.lookup f29 = some ⟨oc29, od29, .func (W.fnOf "step_for_both" "step_for_both" (defArgs aqL) (defBody aqL) (defScope aqL) .none kV29 dc29 pm29 an29 cd29 ct29), sl29⟩)
  (a30 : W.nsIn K mainGlobals "meeting" = some (some (.ref f30))) (l30 : K.lookup f30 = some ⟨oc30, od30, .func (W.fnOf "meeting" "meeting" (defArgs cqE) (defBody cqE) (defScope cqE) .none kV30 dc30 pm30 an30 cd30 ct30), sl30⟩)
  (a31 : W.nsIn K mainGlobals "law" = some (some (.ref f31))) (l31 : K.lookup f31 = some ⟨oc31, od31, .func (W.fnOf "law" "law" (defArgs iqG) (defBody iqG) (defScope iqG) .none kV31 dc31 pm31 an31 cd31 ct31), sl31⟩)
  {aqY : Tok} (e_SMALL_LETTERS : W.nsIn K mainGlobals "SMALL_LETTERS" = some (some (.str (Str.ofString "abcdefghijklmnopqrstuvwxyz") aqY)))
  {dqs : Tok} (e_FIGURES : W.nsIn K mainGlobals "FIGURES" = some (some (.str (Str.ofString "0123456789") dqs)))
  {gqO : Tok} (e_STAY : W.nsIn K mainGlobals "STAY" = some (some (.str (Str.ofString ".") gqO)))
  {t_UP : Tok} (e_UP : W.nsIn K mainGlobals "UP" = some (some (.str (Str.ofString "..") t_UP)))
  {eqp : Tok} (e_PIECES : W.nsIn K mainGlobals "PIECES" = some (some (.int 0 eqp)))
  {eqw : Tok} (e_CLOSES : W.nsIn K mainGlobals "CLOSES" = some (some (.int 1 eqw)))
  {aqS : Tok} (e_LONGEST_NUMBER : W.nsIn K mainGlobals "LONGEST_NUMBER" = some (some (.int 60 aqS)))
  {aq3 : Tok} (e_LONGEST_WORD : W.nsIn K mainGlobals "LONGEST_WORD" = some (some (.int 60 aq3)))
  {bqq : Tok} (e_TRIED_SIGNS : W.nsIn K mainGlobals "TRIED_SIGNS" = some (some (.str (Str.ofString "ab01") bqq)))
  (z_all : W.nsIn K mainGlobals "all" = some none)
  (z_len : W.nsIn K mainGlobals "len" = some none)
  (z_range : W.nsIn K mainGlobals "range" = some none)
  (z_int : W.nsIn K mainGlobals "int" = some none)
  (z_sorted : W.nsIn K mainGlobals "sorted" = some none)
  (z_list : W.nsIn K mainGlobals "list" = some none)
  (z_tuple : W.nsIn K mainGlobals "tuple" = some none)
  (z_max : W.nsIn K mainGlobals "max" = some none)
  (z_enumerate : W.nsIn K mainGlobals "enumerate" = some none)
  (z_zip : W.nsIn K mainGlobals "zip" = some none)
  (kk : (((((W.keepIn K (.ref f1) && W.keepIn K (.ref f2)) && (W.keepIn K (.ref f3) && W.keepIn K (.ref f4))) && ((W.keepIn K (.ref f5) && W.keepIn K (.ref f6)) && (W.keepIn K (.ref f7) && W.keepIn K (.ref f8)))) && (((W.keepIn K (.ref f9) && W.keepIn K (.ref f10)) && (W.keepIn K (.ref f11) && W.keepIn K (.ref f12))) && ((W.keepIn K (.ref f13) && W.keepIn K (.ref f14)) && (W.keepIn K (.ref f15) && W.keepIn K (.ref f16))))) && ((((W.keepIn K (.ref f17) && W.keepIn K (.ref f18)) && (W.keepIn K (.ref f19) && W.keepIn K (.ref f20))) && ((W.keepIn K (.ref f21) && W.keepIn K (.ref f22)) && (W.keepIn K (.ref f23) && W.keepIn K (.ref f24)))) && (((W.keepIn K (.ref f25) && W.keepIn K (.ref f26)) && (W.keepIn K (.ref f27) && W.keepIn K (.ref f28))) && ((W.keepIn K (.ref f29) && W.keepIn K (.ref f30)) && W.keepIn K (.ref f31))))) = true)
  (cc : (((((W.codeIn K cd1 "made_of" && W.codeIn K cd2 "is_dot") && (W.codeIn K cd3 "is_gap" && W.codeIn K cd4 "head_of")) && ((W.codeIn K cd5 "tail_of" && W.codeIn K cd6 "has_rest") && (W.codeIn K cd7 "texts_around" && W.codeIn K cd8 "_law_cell_at"))) && (((W.codeIn K cd9 "_law_names" && W.codeIn K cd10 "_law_signs") && (W.codeIn K cd11 "_law_run" && W.codeIn K cd12 "_law_fits_step")) && ((W.codeIn K cd13 "_law_with_part" && W.codeIn K cd14 "spread") && (W.codeIn K cd15 "fits_part" && W.codeIn K cd16 "is_number")))) && ((((W.codeIn K cd17 "is_word" && W.codeIn K cd18 "_law_cells") && (W.codeIn K cd19 "_law_text" && W.codeIn K cd20 "_law_may")) && ((W.codeIn K cd21 "step_fits" && W.codeIn K cd22 "_law_piece") && (W.codeIn K cd23 "_law_due" && W.codeIn K cd24 "fitting_texts"))) && (((W.codeIn K cd25 "_law_pattern" && W.codeIn K cd26 "_law_kin") && (W.codeIn K cd27 "texts_for_both" && W.codeIn K cd28 "_law_kin_pattern")) && ((W.codeIn K cd29 "step_for_both" && W.codeIn K cd30 "meeting") && W.codeIn K cd31 "law")))) = true) :
  ∃ fd : FuncData, (∀ (s : Shared) (v : Value), BindsTo s fd ⟨[v], []⟩ [("_law_script", v)]) ∧ ∀ base : Heap, K.In base → base.Ns mainGlobals mg → FnOk l.prog w K mg base CX0 8 fa fd ["_law_script"] (iqp K) := by
 have e := hfa.symm.trans (W.mg_of X Gl a31)
 have e2 : f31 = fa := by cases e; rfl
 subst e2
 have M : ∀ {x : Str} {v : Value}, W.nsIn K mainGlobals x = some (some v) → mg x = some v := fun a => W.mg_of X Gl a
 have F1 := aqD (st := cqJ) l1 (aqg (aqg (aqg (aqg (aqg cc))))) (aqg (aqg (aqg (aqg (aqg kk)))))
 have F2 := aqD (st := dqw) l2 (aqi (aqg (aqg (aqg (aqg cc))))) (aqi (aqg (aqg (aqg (aqg kk)))))
 have F3 := aqD (st := dqO) l3 (aqg (aqi (aqg (aqg (aqg cc))))) (aqg (aqi (aqg (aqg (aqg kk)))))
 have F4 := aqD (st := cqL) l4 (aqi (aqi (aqg (aqg (aqg cc))))) (aqi (aqi (aqg (aqg (aqg kk)))))
 have F5 := aqD (st := cqI) l5 (aqg (aqg (aqi (aqg (aqg cc))))) (aqg (aqg (aqi (aqg (aqg kk)))))
 have F6 := aqD (st := bq0) l6 (aqi (aqg (aqi (aqg (aqg cc))))) (aqi (aqg (aqi (aqg (aqg kk)))))
 have F7 := aqD (st := aqV) l7 (aqg (aqi (aqi (aqg (aqg cc))))) (aqg (aqi (aqi (aqg (aqg kk)))))
 have F8 := aqD (st := aqU) l8 (aqi (aqi (aqi (aqg (aqg cc))))) (aqi (aqi (aqi (aqg (aqg kk)))))
 have F9 := aqD (st := bqi) l9 (aqg (aqg (aqg (aqi (aqg cc))))) (aqg (aqg (aqg (aqi (aqg kk)))))
 have F10 := aqD (st := bqg) l10 (aqi (aqg (aqg (aqi (aqg cc))))) (aqi (aqg (aqg (aqi (aqg kk)))))
 have F11 := aqD (st := bq3) l11 (aqg (aqi (aqg (aqi (aqg cc))))) (aqg (aqi (aqg (aqi (aqg kk)))))
 have F12 := aqD (st := aqJ) l12 (aqi (aqi (aqg (aqi (aqg cc))))) (aqi (aqi (aqg (aqi (aqg kk)))))
 have F13 := aqD (st := aqI) l13 (aqg (aqg (aqi (aqi (aqg cc))))) (aqg (aqg (aqi (aqi (aqg kk)))))
 have F14 := aqD (st := dqB) l14 (aqi (aqg (aqi (aqi (aqg cc))))) (aqi (aqg (aqi (aqi (aqg kk)))))
 have F15 := aqD (st := bqB) l15 (aqg (aqi (aqi (aqi (aqg cc))))) (aqg (aqi (aqi (aqi (aqg kk)))))
 have F16 := aqD (st := bqD) l16 (aqi (aqi (aqi (aqi (aqg cc))))) (aqi (aqi (aqi (aqi (aqg kk)))))
 have F17 := aqD (st := cqD) l17 (aqg (aqg (aqg (aqg (aqi cc))))) (aqg (aqg (aqg (aqg (aqi kk)))))
 have F18 := aqD (st := bqf) l18 (aqi (aqg (aqg (aqg (aqi cc))))) (aqi (aqg (aqg (aqg (aqi kk)))))
 have F19 := aqD (st := bqE) l19 (aqg (aqi (aqg (aqg (aqi cc))))) (aqg (aqi (aqg (aqg (aqi kk)))))
 have F20 := aqD (st := bq5) l20 (aqi (aqi (aqg (aqg (aqi cc))))) (aqi (aqi (aqg (aqg (aqi kk)))))
 have F21 := aqD (st := bqC) l21 (aqg (aqg (aqi (aqg (aqi cc))))) (aqg (aqg (aqi (aqg (aqi kk)))))
 have F22 := aqD (st := bqh) l22 (aqi (aqg (aqi (aqg (aqi cc))))) (aqi (aqg (aqi (aqg (aqi kk)))))
 have F23 := aqD (st := bq6) l23 (aqg (aqi (aqi (aqg (aqi cc))))) (aqg (aqi (aqi (aqg (aqi kk)))))
 have F24 := aqD (st := aqM) l24 (aqi (aqi (aqi (aqg (aqi cc))))) (aqi (aqi (aqi (aqg (aqi kk)))))
 have F25 := aqD (st := aqW) l25 (aqg (aqg (aqg (aqi (aqi cc))))) (aqg (aqg (aqg (aqi (aqi kk)))))
 have F26 := aqD (st := bq1) l26 (aqi (aqg (aqg (aqi (aqi cc))))) (aqi (aqg (aqg (aqi (aqi kk)))))
 have F27 := aqD (st := aqK) l27 (aqg (aqi (aqg (aqi (aqi cc))))) (aqg (aqi (aqg (aqi (aqi kk)))))
 have F28 := aqD (st := aqB) l28 (aqi (aqi (aqg (aqi (aqi cc))))) (aqi (aqi (aqg (aqi (aqi kk)))))
 have F29 := aqD (st := aqL) l29 (aqg (aqg (aqi (aqi (aqi cc))))) (aqg (aqg (aqi (aqi (aqi kk)))))
 have F30 := aqD (st := cqE) l30 (aqi (aqg (aqi (aqi (aqi cc))))) (aqi (aqg (aqi (aqi (aqi kk)))))
 have F31 := aqD (st := iqG) l31 (aqi (aqi (aqi (aqi cc)))) (aqi (aqi (aqi (aqi kk))))
 let g : G K mg := {
  eql := f1, dqK := _, eqt := F1, fqj := M a1,
  fqf := F1.binds (by walk_at "b2"),
  eq2 := f2, eqc := _, gqm := F2, iqt := M a2,
  hq4 := F2.binds (by walk_at "b1"),
  eq3 := f3, eqh := _, eqb := F3, fqb := M a3,
  eq9 := F3.binds (by walk_at "b1"),
  eqm := f4, dqJ := _, cqz := F4, dqp := M a4,
  dqf := F4.binds (by walk_at "b1"),
  equ := f5, dqP := _, cqH := F5, dql := M a5,
  dqv := F5.binds (by walk_at "b1"),
  dqN := f6, cqY := _, eqJ := F6, fq6 := M a6,
  fq8 := F6.binds (by walk_at "b1"),
  bqF := f7, bqr := _, bqI := F7, cqv := M a7,
  cqw := F7.binds (by walk_at "b2"),
  bqJ := f8, bqk := _, aqT := F8, aq5 := M a8,
  aq4 := F8.binds (by walk_at "b2"),
  cql := f9, bqU := _, dqr := F9, eqN := M a9,
  eqO := F9.binds (by walk_at "b2"),
  cqi := f10, bqV := _, dqe := F10, eqP := M a10,
  eqS := F10.binds (by walk_at "b1"),
  dqQ := f11, cqN := _, cqF := F11, dqE := M a11,
  dqC := F11.binds (by walk_at "b3"),
  bqc := f12, aq2 := _, bqd := F12, bqN := M a12,
  bqR := F12.binds (by walk_at "b2"),
  aq9 := f13, aq1 := _, bqb := F13, bqQ := M a13,
  bqS := F13.binds (by walk_at "b2"),
  fqa := f14, eqi := _, eq7 := F14, gqt := M a14,
  gqg := F14.binds (by walk_at "b2"),
  cqV := f15, cqe := _, dq1 := F15, fqy := M a15,
  fqk := F15.binds (by walk_at "b2"),
  cqW := f16, cqq := _, dq0 := F16, fqw := M a16,
  fqJ := F16.binds (by walk_at "b1"),
  eqr := f17, dqL := _, fqx := F17, gq5 := M a17,
  gqK := F17.binds (by walk_at "b1"),
  cqh := f18, bqX := _, bqM := F18, cqo := M a18,
  cqf := F18.binds (by walk_at "b3"),
  cq2 := f19, cqn := _, dq2 := F19, fqE := M a19,
  fqG := F19.binds (by walk_at "b3"),
  dqF := f20, cqR := _, eqF := F20, fqW := M a20,
  fq9 := F20.binds (by walk_at "b2"),
  cqX := f21, cqs := _, cqa := F21, cqT := M a21,
  cqP := F21.binds (by walk_at "b2"),
  cqm := f22, bqY := _, cqp := F22, dqq := M a22,
  dqg := F22.binds (by walk_at "b3"),
  dqD := f23, cq4 := _, dqI := F23, eqC := M a23,
  eqB := F23.binds (by walk_at "b2"),
  bqm := f24, aq8 := _, bqu := F24, bq7 := M a24,
  cqd := F24.binds (by walk_at "b1"),
  bqH := f25, bqo := _, bqG := F25, cqu := M a25,
  cqx := F25.binds (by walk_at "b3"),
  dqy := f26, cq0 := _, eqM := F26, fq0 := M a26,
  gqe := F26.binds (by walk_at "b4"),
  bqa := f27, aqZ := _, bqP := F27, dqb := M a27,
  dqd := F27.binds (by walk_at "b2"),
  aqX := f28, aqP := _, bqv := F28, cqr := M a28,
  cqg := F28.binds (by walk_at "b4"),
  bqp := f29, aq7 := _, bq9 := F29, dqt := M a29,
  dqj := F29.binds (by walk_at "b2"),
  eqj := f30, dqx := _, eqg := F30, fqu := M a30,
  fqF := F30.binds (by walk_at "b2"),
  kqj := f31, gqN := _, nqb := F31, nq2 := M a31,
  nqZ := F31.binds (by walk_at "b1"),
  aqY := aqY, dqh := W.mg_of X Gl e_SMALL_LETTERS,
  dqs := dqs, hqh := W.mg_of X Gl e_FIGURES,
  gqO := gqO, lqi := W.mg_of X Gl e_STAY,
  t_UP := t_UP, c_UP := W.mg_of X Gl e_UP,
  eqp := eqp, eqe := W.mg_of X Gl e_PIECES,
  eqw := eqw, eq8 := W.mg_of X Gl e_CLOSES,
  aqS := aqS, cq7 := W.mg_of X Gl e_LONGEST_NUMBER,
  aq3 := aq3, dqV := W.mg_of X Gl e_LONGEST_WORD,
  bqq := bqq, eqq := W.mg_of X Gl e_TRIED_SIGNS,
  nqa := W.mg_none_of X Gl z_all,
  aq6 := W.mg_none_of X Gl z_len,
  cq6 := W.mg_none_of X Gl z_range,
  lqu := W.mg_none_of X Gl z_int,
  hq6 := W.mg_none_of X Gl z_sorted,
  jq7 := W.mg_none_of X Gl z_list,
  gqp := W.mg_none_of X Gl z_tuple,
  kqR := W.mg_none_of X Gl z_max,
  fqc := W.mg_none_of X Gl z_enumerate,
  nqO := W.mg_none_of X Gl z_zip }
 exact ⟨g.gqN, fun s v => .of_eq rfl, fun base _ _ => mqI g⟩
theorem walk {l : PySem.W.OpenLaw} {q : Program} {loose : List Str} {XP : (Str → Option Value) → Heap → Prop} {YP : World → Heap → Prop} {d : DefRec} {K : Params → W.Frag} (hn : l.most = some 63) (hdf : d.params.defaults = [])
  (hY : ∀ (w : World) (h : Heap), YP w h → (K w.params).In h)
  (F : ∀ (w : World) (mg : Str → Option Value) (fa : Addr) (h : Heap), (K w.params).In h → h.Ns mainGlobals mg → mg d.name = some (.ref fa) →
   ∃ fd : FuncData, (∀ (s : Shared) (u : Value), BindsTo s fd ⟨[u], []⟩ [("_law_script", u)]) ∧ ∀ base : Heap, (K w.params).In base → base.Ns mainGlobals mg → FnOk l.prog w (K w.params) mg base CX0 8 fa fd ["_law_script"] (iqp (K w.params))) :
  PySem.W.WalkO q loose XP YP l.row.toRowW d [] (fun f vs => PySem.call f vs) :=
 L2.lqG (n := 63) (k := 8) (x := "_law_script") (CX := fun _ => CX0) (sp := fun w => iqp (K w.params)) hn (by decide) hdf ⟨rfl, by decide, by decide⟩ hY F (fun _ _ a ns hl _ hS => ⟨a, ns, rfl, hS, hl, fun _ => rfl⟩) fun _ _ _ _ _ z => z
end Wm
theorem PySem.W.Fast.tw202017175822362123 : True := trivial
theorem PySem.W.Fast.tw6810767448562770932 : True := trivial
theorem PySem.W.Fast.tw8689569643147296534 : True := trivial
theorem PySem.W.Fast.tw13642477908922007538 : True := trivial
theorem PySem.W.Fast.tw9902073222262279874 : True := trivial
theorem PySem.W.Fast.tw11137722519951573446 : True := trivial
theorem PySem.W.Fast.tw124972426872932434 : True := trivial
theorem PySem.W.Fast.tw18295485394611238072 : True := trivial
theorem PySem.W.Fast.tw17047098098183263448 : True := trivial
theorem PySem.W.Fast.tw3102099479261037862 : True := trivial
theorem PySem.W.Fast.tw8028369044167195934 : True := trivial
theorem PySem.W.Fast.tw9128330814849591249 : True := trivial
theorem PySem.W.Fast.tw12247375689143485134 : True := trivial
theorem PySem.W.Fast.tw10547006277958448646 : True := trivial
theorem PySem.W.Fast.tw14569129126895291642 : True := trivial
theorem PySem.W.Fast.tw16741256692839552483 : True := trivial
theorem PySem.W.Fast.tw17398591036859725175 : True := trivial
theorem PySem.W.Fast.tw8786826826857045394 : True := trivial
theorem PySem.W.Fast.tw12169132301957715221 : True := trivial
theorem PySem.W.Fast.tw14457117377189161700 : True := trivial
theorem PySem.W.Fast.tw10017078913667965204 : True := trivial
theorem PySem.W.Fast.tw9310713298659442790 : True := trivial
theorem PySem.W.Fast.tw4317547628086722591 : True := trivial
theorem PySem.W.Fast.tw1147935146755262489 : True := trivial
theorem PySem.W.Fast.tw1950842234655690633 : True := trivial
theorem PySem.W.Fast.tw12442201158631611007 : True := trivial
theorem PySem.W.Fast.tw15960873281736860661 : True := trivial
theorem PySem.W.Fast.tw2949699557770176273 : True := trivial
theorem PySem.W.Fast.tw2673025319269891911 : True := trivial
theorem PySem.W.Fast.tw17352674579575691475 : True := trivial
theorem PySem.W.Fast.tw4535057083545117282 : True := trivial
theorem PySem.W.Fast.tw10073219245463793324 : True := trivial
theorem PySem.W.Fast.tw16128950490400093587 : True := trivial
theorem PySem.W.Fast.tw15742879159234197096 : True := trivial
theorem PySem.W.Fast.tw3226040782052275689 : True := trivial
theorem PySem.W.Fast.tw12291605663604229506 : True := trivial
theorem PySem.W.Fast.tw9651638991065624791 : True := trivial
theorem PySem.W.Fast.tw3041621010771437337 : True := trivial
theorem PySem.W.Fast.tw2053123647512055460 : True := trivial
theorem PySem.W.Fast.tw5226809649571218445 : True := trivial
theorem PySem.W.Fast.tw11973053200451017598 : True := trivial
theorem PySem.W.Fast.tw16946930847635467887 : True := trivial
theorem PySem.W.Fast.tw6665039659344038448 : True := trivial
theorem PySem.W.Fast.tw3527774037651451874 : True := trivial
theorem PySem.W.Fast.tw3811101926984415438 : True := trivial
theorem PySem.W.Fast.tw16390147251763531162 : True := trivial
theorem PySem.W.Fast.tw2990601314295189919 : True := trivial
theorem PySem.W.Fast.tw17080771275260185785 : True := trivial
theorem PySem.W.Fast.tw4888747485300985799 : True := trivial
theorem PySem.W.Fast.tw14678294178319261221 : True := trivial
theorem PySem.W.Fast.tw688373276286389601 : True := trivial
theorem PySem.W.Fast.tw5894822802011537244 : True := trivial
theorem PySem.W.Fast.tw6638445326289210258 : True := trivial
theorem PySem.W.Fast.tw11246641019806860297 : True := trivial
theorem PySem.W.Fast.tw5187047640033592122 : True := trivial
theorem PySem.W.Fast.tw16580082191631203422 : True := trivial
theorem PySem.W.Fast.tw15990147811871067887 : True := trivial
theorem PySem.W.Fast.tw10210090756200653375 : True := trivial
theorem PySem.W.Fast.tw7433216458181500257 : True := trivial
theorem PySem.W.Fast.tw5195950859031805152 : True := trivial
theorem PySem.W.Fast.tw14459343173934628143 : True := trivial
theorem PySem.W.Fast.tw18240768815026299668 : True := trivial
theorem PySem.W.Fast.tw7934945055414010548 : True := trivial
theorem PySem.W.Fast.tw12873674397072407623 : True := trivial
theorem PySem.W.Fast.tw4593974936641335825 : True := trivial
theorem PySem.W.Fast.tw5346433353173541003 : True := trivial
theorem PySem.W.Fast.tw5800612195032309698 : True := trivial
theorem PySem.W.Fast.tw10614040601765734058 : True := trivial
theorem PySem.W.Fast.tw14109046850586159303 : True := trivial
theorem PySem.W.Fast.tw5664479620202376472 : True := trivial
theorem PySem.W.Fast.tw11484364678663008551 : True := trivial
open PySem PySem.W PyProof.Rows
set_option maxRecDepth 100000 in
set_option maxHeartbeats 0 in
theorem PySem.Challenge.cw_waymark_k71_none_where_none_fits_holds : PySem.Challenge.rw_waymark_k71_none_where_none_fits.Holds := by
 w_on; o_law; k_head; (case hw => w_witness2)
 k_fill
 refine Wm.walk (l := PySem.Challenge.rw_waymark_k71_none_where_none_fits) rfl rfl (fun w h Y => PySem.W.kIn_of Y) ?F
 case F =>
  intro w mg fa h KX G hmg
  refine' Wm.mqY KX G hmg ?a1 ?l1 ?a2 ?l2 ?a3 ?l3 ?a4 ?l4 ?a5 ?l5 ?a6 ?l6 ?a7 ?l7 ?a8 ?l8 ?a9 ?l9 ?a10 ?l10 ?a11 ?l11 ?a12 ?l12 ?a13 ?l13 ?a14 ?l14 ?a15 ?l15 ?a16 ?l16 ?a17 ?l17 ?a18 ?l18 ?a19 ?l19 ?a20 ?l20 ?a21 ?l21 ?a22 ?l22 ?a23 ?l23 ?a24 ?l24 ?a25 ?l25 ?a26 ?l26 ?a27 ?l27 ?a28 ?l28 ?a29 ?l29 ?a30 ?l30 ?a31 ?l31 ?e_SMALL_LETTERS ?e_FIGURES ?e_STAY ?e_UP ?e_PIECES ?e_CLOSES ?e_LONGEST_NUMBER ?e_LONGEST_WORD ?e_TRIED_SIGNS ?z_all ?z_len ?z_range ?z_int ?z_sorted ?z_list ?z_tuple ?z_max ?z_enumerate ?z_zip ?kk ?cc
  (case a1 | l1 | a2 | l2 | a3 | l3 | a4 | l4 | a5 | l5 | a6 | l6 | a7 | l7 | a8 | l8 | a9 | l9 | a10 | l10 | a11 | l11 | a12 | l12 | a13 | l13 | a14 | l14 | a15 | l15 | a16 | l16 | a17 | l17 | a18 | l18 | a19 | l19 | a20 | l20 | a21 | l21 | a22 | l22 | a23 | l23 | a24 | l24 | a25 | l25 | a26 | l26 | a27 | l27 | a28 | l28 | a29 | l29 | a30 | l30 | a31 | l31 | e_SMALL_LETTERS | e_FIGURES | e_STAY | e_UP | e_PIECES | e_CLOSES | e_LONGEST_NUMBER | e_LONGEST_WORD | e_TRIED_SIGNS | z_all | z_len | z_range | z_int | z_sorted | z_list | z_tuple | z_max | z_enumerate | z_zip => k_is)
  (case kk | cc => first | k_is | with_unfolding_all kernel_rfl | with_unfolding_all rfl)
