import PyProof.Rows.All
import Wide.All
import OpenK.AllK
import Wide.FinOn
import Lean
import PyProof.EqAt
import PyProof.EqKinds
import PyProof.TupleCall
import PySem.Challenge.RW_waymark_k16_schemes_houses_doors
set_option Elab.async false
set_option linter.all false
set_option maxRecDepth 100000
namespace L2
open PySem PySem.Spec PyProof.Rows
abbrev Key := Sum Int Str
def keyIs : Key → Value → Bool
 | .inl k, v => Value.isInt k v
 | .inr x, v => Value.isStrOf x v
def keyH (w : World) : Key → Int
 | .inl k => hashInt k
 | .inr x => hashStr w x
theorem aq9 : ∀ {k : Key} {v : Value}, keyIs k v = true → (∃ i t, k = Sum.inl i ∧ v = Value.int i t) ∨ (∃ x t, k = Sum.inr x ∧ v = Value.str x t)
 | .inl i, v, h => by
  obtain ⟨t, e⟩ := Value.isInt_shape (k := i) (v := v) h
  exact .inl ⟨i, t, rfl, e⟩
 | .inr x, v, h => by
  obtain ⟨t, e⟩ := Value.isStrOf_shape (x := x) (v := v) h
  exact .inr ⟨x, t, rfl, e⟩
theorem pq7 (a b : Int) : decide ((Sum.inl a : Key) = Sum.inl b) = (a == b) := by
 by_cases e : a = b
 ·subst e; simp
 ·have h : ¬ (Sum.inl a : Key) = Sum.inl b := fun q => e (Sum.inl.inj q)
  rw [decide_eq_false h]
  exact (beq_eq_false_iff_ne.mpr e).symm
theorem pqG (a b : Str) : decide ((Sum.inr a : Key) = Sum.inr b) = decide (a = b) := by
 by_cases e : a = b
 ·subst e; simp
 ·have h : ¬ (Sum.inr a : Key) = Sum.inr b := fun q => e (Sum.inr.inj q)
  rw [decide_eq_false h, decide_eq_false e]
theorem pqy (a : Int) (b : Str) : decide ((Sum.inl a : Key) = Sum.inr b) = false := decide_eq_false (fun q => nomatch q)
theorem oqX (a : Str) (b : Int) : decide ((Sum.inr a : Key) = Sum.inl b) = false := decide_eq_false (fun q => nomatch q)
def mixKind (prog : Program) (w : World) : PySem.KeyKind prog w Key where
 is := keyIs
 hash := keyH w
 inj := fun v a b ha hb => by
  rcases aq9 ha with ⟨i, t, rfl, rfl⟩ | ⟨x, t, rfl, rfl⟩
  ·rcases aq9 hb with ⟨j, u, rfl, e⟩ | ⟨y, u, rfl, e⟩
   ·injection e with e1 _; rw [e1]
   ·exact nomatch e
  ·rcases aq9 hb with ⟨j, u, rfl, e⟩ | ⟨y, u, rfl, e⟩
   ·exact nomatch e
   ·injection e with e1 _; rw [e1]
 byValue := fun k v h => by
  rcases aq9 h with ⟨i, t, rfl, rfl⟩ | ⟨x, t, rfl, rfl⟩ <;> rfl
 pyHash := fun hv h => by
  rcases aq9 hv with ⟨i, t, rfl, rfl⟩ | ⟨x, t, rfl, rfl⟩
  ·exact wpAny_pyHash_int h
  ·exact wpAny_pyHash_str h
 eqBool := fun hu hv h => by
  rcases aq9 hu with ⟨i, t, rfl, rfl⟩ | ⟨x, t, rfl, rfl⟩
  ·rcases aq9 hv with ⟨j, u, rfl, rfl⟩ | ⟨y, u, rfl, rfl⟩
   ·rw [pq7] at h; exact wpAny_eqBool_int h
   ·rw [pqy] at h; exact SeqAt.EqAt.int_str i t y u _ _ _ _ h
  ·rcases aq9 hv with ⟨j, u, rfl, rfl⟩ | ⟨y, u, rfl, rfl⟩
   ·rw [oqX] at h; exact SeqAt.EqAt.str_int x t j u _ _ _ _ h
   ·rw [pqG] at h; exact wpAny_eqBool_str h
 «strs» := fun k x t v h => by
  rcases aq9 h with ⟨i, u, rfl, e⟩ | ⟨y, u, rfl, e⟩
  ·exact nomatch e
  ·injection e with e1 _
   subst e1
   cases v <;> rfl
inductive V where
 | non | bl (b : Bool) | int (i : Int) | str (x : Str) | byt (b : Array UInt8) | flt (b : UInt64) | ref (a : Addr) | ty (n : String)
 deriving DecidableEq
def RelV : V → Value → Prop
 | .non, u => u = Value.none
 | .bl b, u => u = Value.bool b
 | .int i, u => ∃ t, u = Value.int i t
 | .str x, u => ∃ t, u = Value.str x t
 | .byt b, u => ∃ t, u = Value.bytes b t
 | .flt b, u => ∃ t, u = Value.float b t
 | .ref a, u => u = Value.ref a
 | .ty n, u => u = Value.type n
abbrev Vals : List V → List Value → Prop := Paired RelV
theorem Vals.length {xs : List V} {us : List Value} (r : Vals xs us) : xs.length = us.length := Paired.length r
theorem Vals.get : ∀ {xs : List V} {us : List Value} {i : Nat} {x : V}, Vals xs us → xs[i]? = some x → ∃ u, us[i]? = some u ∧ RelV x u
 | _, _, _, _, .nil, e => by simp at e
 | _, _, 0, _, .cons r _, e => by simp at e; subst e; exact ⟨_, rfl, r⟩
 | _, _, i + 1, x, .cons _ t, e => by
  obtain ⟨u, h1, h2⟩ := Vals.get (i := i) (x := x) t (by simpa using e)
  exact ⟨u, by simpa using h1, h2⟩
theorem Vals.append : ∀ {xs ys : List V} {us ws : List Value}, Vals xs us → Vals ys ws → Vals (xs ++ ys) (us ++ ws)
 | _, _, _, _, .nil, s => s
 | _, _, _, _, .cons r t, s => .cons r (Vals.append t s)
theorem Vals.take : ∀ {xs : List V} {us : List Value} (n : Nat), Vals xs us → Vals (xs.take n) (us.take n)
 | _, _, 0, _ => .nil
 | _, _, _ + 1, .nil => .nil
 | _, _, n + 1, .cons r t => .cons r (Vals.take n t)
theorem Vals.drop : ∀ {xs : List V} {us : List Value} (n : Nat), Vals xs us → Vals (xs.drop n) (us.drop n)
 | _, _, 0, r => r
 | _, _, _ + 1, .nil => .nil
 | _, _, n + 1, .cons _ t => Vals.drop n t
def RelO : Option V → Option Value → Prop
 | some v, some u => RelV v u
 | none, none => True
 | _, _ => False
def KV {κ : Type} : List (κ × V) → List (κ × Value) → Prop := Paired fun (p : κ × V) (q : κ × Value) => p.1 = q.1 ∧ RelV p.2 q.2
def kV : Key → V
 | .inl i => .int i
 | .inr x => .str x
inductive HO where
 | lst (xs : List V)
 | tup (xs : List V)
 | dK (kvs : List (Key × V)) | dT (kvs : List (List Key × V))
 | set (S : Int → Bool) (n : Nat)
 | ins (C dx : Addr) (fs : List (Str × V))
 | own (x : Addr)
 | xd (fs : List (Str × V))
 | met (f x : Addr)
 | rng (lo hi : Int)
 | frz (o : Obj) (u : HO)
 | tbl (ps : Array Value)
 | ext (φ : Heap → Prop)
abbrev Hp := Addr → Option HO
def upd (H : Hp) (a : Addr) (o : HO) : Hp := fun b => if b = a then some o else H b
theorem aqr {H : Hp} {a : Addr} {o : HO} : upd H a o a = some o := by unfold upd; rw [if_pos rfl]
theorem aqm {H : Hp} {a b : Addr} {o : HO} (h : b ≠ a) : upd H a o b = H b := by unfold upd; rw [if_neg h]
theorem kqg {H : Hp} {a : Addr} {o u : HO} : upd (upd H a o) a u = upd H a u := by
 funext b; unfold upd; split <;> rfl
theorem pqb {H : Hp} {a b : Addr} {o u : HO} (h : H a = some o) (h' : H b = some u) (d : o ≠ u) : a ≠ b := by
 intro e; subst e; rw [h] at h'; exact d (Option.some.inj h')
theorem aqn {H : Hp} {a b : Addr} {o : HO} (h : H a = some o) (h' : H b = none) : a ≠ b := by
 intro e; subst e; rw [h] at h'; cases h'
section
variable (P : Program) (w : World)
def ObjOk (H : Hp) (h : Heap) (a : Addr) : HO → Prop
 | .lst xs => xs.length ≤ sizeLine ∧ ∃ (its : List Value) (n : Nat), Vals xs its ∧ h.get? a = some { cls := .type "list", data := .seq its.toArray n }
 | .tup xs => xs.length ≤ sizeLine ∧ ∃ its : List Value, Vals xs its ∧ IsTup h a its.toArray
 | .dK kvs => kvs.length ≤ sizeLine ∧ (a == sysModules) = false ∧ ∃ vs, KV kvs vs ∧ h.DictOf (mixKind P w) a vs
 | .dT kvs => kvs.length ≤ sizeLine ∧ (a == sysModules) = false ∧ ∃ xs : List (List Key × Addr × Value),
   Paired (fun (p : List Key × V) (q : List Key × Addr × Value) => p.1 = q.1 ∧ H q.2.1 = some (.tup (p.1.map kV)) ∧ RelV p.2 q.2.2) kvs xs ∧
   ∃ o es ep, h.get? a = some o ∧ o.ExactDict ∧ o.data = .dict es ep ∧ es.toList = xs.map (entryOfKey (tupleKind (mixKind P w))) ∧ (xs.map (·.1)).Nodup
 | .set S n => h.SetOf (intKind P w) a S n
 | .ins C dx fs => H dx = some (.own a) ∧ fs.length ≤ 1000 ∧ dx ≠ a ∧ h.get? a = some (PySem.W.instObj C dx) ∧
   ∃ mA, h.Ns1 dx mA ∧ (∀ f, RelO (fs.lookup f) (mA f)) ∧ PySem.Within mA (fs.map (·.1))
 | .own _ => ∃ o, h.get? a = some o
 | .xd fs => ∃ mA, h.Ns1 a mA ∧ ∀ f, RelO (fs.lookup f) (mA f)
 | .rng lo hi => ∃ t u v, h.get? a = some { cls := .type "range", data := .fields #[.int lo t, .int hi u, .int 1 v] }
 | .frz o u => h.get? a = some o ∧ ObjOk H h a u
 | .tbl ps => h.get? a = some { cls := .none, data := .fields ps }
 | .met f x => h.get? a = some (PySem.W.methodObj (.ref f) (.ref x))
 | .ext φ => φ h ∧ (∃ o, h.get? a = some o) ∧ ∀ h1 h2 : Heap, φ h1 → (∀ o, h1.get? a = some o → h2.get? a = some o) → φ h2
def HOk (H : Hp) (h : Heap) : Prop := ∀ a o, H a = some o → ObjOk P w H h a o
end
section
variable {P : Program} {w : World} {H H' : Hp} {h h' : Heap} {a : Addr} {o : HO}
theorem ObjOk.lt (x : ObjOk P w H h a o) : a < h.objs.size := by
 cases o with
 | lst xs => obtain ⟨_, _, _, _, e⟩ := x; exact Heap.lt_size e
 | tup xs => obtain ⟨_, _, _, p⟩ := x; exact p.lt
 | dK kvs => obtain ⟨_, _, _, _, o, _, _, e, _⟩ := x; exact Heap.lt_size e
 | dT kvs => obtain ⟨_, _, _, _, o, _, _, e, _⟩ := x; exact Heap.lt_size e
 | set S n => obtain ⟨o, _, _, _, e, _⟩ := x; exact Heap.lt_size e
 | ins C dx fs => obtain ⟨_, _, _, e, _⟩ := x; exact Heap.lt_size e
 | own y => obtain ⟨_, e⟩ := x; exact Heap.lt_size e
 | xd fs => obtain ⟨_, ⟨_, _, _, e, _⟩, _⟩ := x; exact Heap.lt_size e
 | rng lo hi => obtain ⟨_, _, _, e⟩ := x; exact Heap.lt_size e
 | frz ob u => obtain ⟨e, _⟩ := x; exact Heap.lt_size e
 | tbl ps => exact Heap.lt_size (show h.get? a = some _ from x)
 | met f y => exact Heap.lt_size (show h.get? a = some _ from x)
 | ext φ => obtain ⟨_, ⟨_, e⟩, _⟩ := x; exact Heap.lt_size e
theorem Paired.mapP {α β : Type} {F G : α → β → Prop} : ∀ {l₁ : List α} {l₂ : List β}, Paired F l₁ l₂ → (∀ a b, F a b → G a b) → Paired G l₁ l₂
 | _, _, .nil, _ => .nil
 | _, _, .cons r t, f => .cons (f _ _ r) (Paired.mapP t f)
theorem ObjOk.stay (x : ObjOk P w H h a o) (k : ∀ b u, (b = a ∨ H b = some (.own a)) → h.get? b = some u → h'.get? b = some u)
  (ho : ∀ b, H b = some (.own a) → H' b = some (.own a)) (ht : ∀ b xs, H b = some (.tup xs) → H' b = some (.tup xs)) : ObjOk P w H' h' a o := by
 induction o with
 | lst xs => obtain ⟨z, its, n, r, e⟩ := x; exact ⟨z, its, n, r, k _ _ (.inl rfl) e⟩
 | tup xs => obtain ⟨z, its, r, ob, e, c⟩ := x; exact ⟨z, its, r, ob, k _ _ (.inl rfl) e, c⟩
 | dK kvs => obtain ⟨z, y, vs, r, ob, es, ep, e, c⟩ := x; exact ⟨z, y, vs, r, ob, es, ep, k _ _ (.inl rfl) e, c⟩
 | dT kvs =>
  obtain ⟨z, y, xs, r, ob, es, ep, e, c⟩ := x
  exact ⟨z, y, xs, Paired.mapP r fun p q z => ⟨z.1, ht _ _ z.2.1, z.2.2⟩, ob, es, ep, k _ _ (.inl rfl) e, c⟩
 | set S n => obtain ⟨ob, es, ep, t, e, c⟩ := x; exact ⟨ob, es, ep, t, k _ _ (.inl rfl) e, c⟩
 | ins C dx fs =>
  obtain ⟨d, z, ne, e, mA, ⟨od, es, ep, e2, c⟩, r⟩ := x
  exact ⟨ho _ d, z, ne, k _ _ (.inl rfl) e, mA, ⟨od, es, ep, k _ _ (.inr d) e2, c⟩, r⟩
 | own y => obtain ⟨ob, e⟩ := x; exact ⟨ob, k _ _ (.inl rfl) e⟩
 | xd fs => obtain ⟨mA, ⟨od, es, ep, e, c⟩, r⟩ := x; exact ⟨mA, ⟨od, es, ep, k _ _ (.inl rfl) e, c⟩, r⟩
 | rng lo hi => obtain ⟨t, u, v, e⟩ := x; exact ⟨t, u, v, k _ _ (.inl rfl) e⟩
 | frz ob u ih => obtain ⟨e, q⟩ := x; exact ⟨k _ _ (.inl rfl) e, ih q⟩
 | tbl ps =>
  have e : h.get? a = some { cls := .none, data := .fields ps } := x
  show h'.get? a = some { cls := .none, data := .fields ps }
  exact k a _ (.inl rfl) e
 | met f y =>
  have e : h.get? a = some (PySem.W.methodObj (.ref f) (.ref y)) := x
  show h'.get? a = some (PySem.W.methodObj (.ref f) (.ref y))
  exact k a _ (.inl rfl) e
 | ext φ => obtain ⟨p, ⟨o, e⟩, st⟩ := x; exact ⟨st _ _ p fun o q => k _ _ (.inl rfl) q, ⟨o, k _ _ (.inl rfl) e⟩, st⟩
theorem HOk.lt (x : HOk P w H h) (e : H a = some o) : a < h.objs.size := (x a o e).lt
theorem HOk.fresh (x : HOk P w H h) (e : h.objs.size ≤ a) : H a = none := by
 cases q : H a with
 | none => rfl
 | some u => exact absurd (Nat.lt_of_lt_of_le (x.lt q) e) (Nat.lt_irrefl _)
theorem HOk.kept (x : HOk P w H h) (k : ∀ b u, h.get? b = some u → h'.get? b = some u) : HOk P w H h' := fun a o e =>
 (x a o e).stay (fun b u _ q => k b u q) (fun _ q => q) fun _ _ q => q
theorem HOk.laid (x : HOk P w H h) (k : ∀ b u, h.get? b = some u → h'.get? b = some u) (hp : h.objs.size ≤ a) (new : ObjOk P w (upd H a o) h' a o) : HOk P w (upd H a o) h' := fun b u e => by
 have hn := x.fresh hp
 by_cases hb : b = a
 ·subst hb; rw [aqr] at e; cases e; exact new
 ·rw [aqm hb] at e
  exact (x b u e).stay (fun c v _ q => k c v q) (fun c q => by rw [aqm (aqn q hn)]; exact q) fun c xs q => by rw [aqm (aqn q hn)]; exact q
end
def Rd (H : Hp) (a : Addr) (u : HO) : Prop := H a = some u ∨ ∃ o, H a = some (.frz o u)
theorem Rd.ok {P : Program} {w : World} {H : Hp} {h : Heap} {a : Addr} {u : HO} (r : Rd H a u) (x : HOk P w H h) : ObjOk P w H h a u := by
 rcases r with r | ⟨o, r⟩
 ·exact x a u r
 ·obtain ⟨_, q⟩ := x a _ r
  exact q
def Mut : Option HO → Prop
 | some (.lst _) => True
 | some (.dK _) => True
 | some (.dT _) => True
 | some (.set _ _) => True
 | some (.ins _ _ _) => True
 | some (.ext _) => True
 | _ => False
section
variable {P : Program} {w : World} {H : Hp} {h h' : Heap} {x e : Addr} {o' : HO}
theorem HOk.write (ok : HOk P w H h) (mu : Mut (H x)) (he : e = x ∨ H e = some (.own x)) (k : ∀ b u, b ≠ e → h.get? b = some u → h'.get? b = some u) (heo : ∃ u, h'.get? e = some u)
  (new : ObjOk P w (upd H x o') h' x o') : HOk P w (upd H x o') h' := fun b u q => by
 have nown : ∀ c y, H c = some (.own y) → c ≠ x := fun c y r z => by subst z; rw [r] at mu; exact mu
 have ntup : ∀ c xs, H c = some (.tup xs) → c ≠ x := fun c xs r z => by subst z; rw [r] at mu; exact mu
 by_cases hb : b = x
 ·subst hb; rw [aqr] at q; cases q; exact new
 ·rw [aqm hb] at q
  by_cases hbe : b = e
  ·have q' : H b = some (.own x) := by
    rcases he with z | z
    ·exact absurd (hbe.trans z) hb
    ·rw [hbe]; exact z
   rw [q] at q'; cases q'
   obtain ⟨v, hv⟩ := heo
   exact ⟨v, by rw [hbe]; exact hv⟩
  ·refine (ok b u q).stay (fun c v hc r => k c v ?_ r) (fun c r => by rw [aqm (nown c b r)]; exact r) fun c xs r => by rw [aqm (ntup c xs r)]; exact r
   rcases hc with rfl | hc
   ·exact hbe
   ·rintro rfl
    rcases he with z | z
    ·exact nown c b hc z
    ·rw [hc] at z; cases z; exact hb rfl
end
structure Un (fs ex : List Addr) (H H' : Hp) (h h' : Heap) : Prop where
 keep : ∀ b o, h.get? b = some o → H b = none → b ∉ fs → b ∉ ex → h'.get? b = some o
 slot : ∀ b o, h.get? b = some o → H b = none → b ∈ fs → b ∉ ex → ∃ sl, h'.get? b = some { o with slots := sl }
 free : ∀ b o, h.get? b = some o → H b = none → b ∉ ex → H' b = none
 there : ∀ b o, h.get? b = some o → b ∉ ex → ∃ o', h'.get? b = some o'
 tups : ∀ b xs, H b = some (.tup xs) → H' b = some (.tup xs)
 frzs : ∀ b o u, H b = some (.frz o u) → H' b = some (.frz o u)
 tbls : ∀ b ps, H b = some (.tbl ps) → ∃ more, H' b = some (.tbl (ps ++ more))
section
variable {fs fs' ex ex' : List Addr} {H H1 H2 : Hp} {h h1 h2 h' : Heap} {a x e : Addr} {o : HO}
theorem Un.any (u : Un fs ex H H1 h h1) {b : Addr} {ob : Obj} (q : h.get? b = some ob) (n : H b = none) (hx : b ∉ ex) : ∃ sl, h1.get? b = some { ob with slots := sl } := by
 by_cases hb : b ∈ fs
 ·exact u.slot b ob q n hb hx
 ·exact ⟨ob.slots, u.keep b ob q n hb hx⟩
theorem Un.kept (k : ∀ b u, h.get? b = some u → h'.get? b = some u) : Un fs ex H H h h' :=
 ⟨fun b ob q _ _ _ => k b ob q, fun b ob q _ _ _ => ⟨ob.slots, k b ob q⟩, fun _ _ _ n _ => n, fun b ob q _ => ⟨ob, k b ob q⟩, fun _ _ q => q, fun _ _ _ q => q, fun _ ps q => ⟨#[], by rw [q]; simp⟩⟩
theorem Un.refl : Un fs ex H H h h := Un.kept fun _ _ q => q
theorem Un.laid (k : ∀ b u, h.get? b = some u → h'.get? b = some u) (hp : h.objs.size ≤ a) (hn : H a = none) : Un fs ex H (upd H a o) h h' where
 keep := fun b u q _ _ _ => k b u q
 slot := fun b u q _ _ _ => ⟨u.slots, k b u q⟩
 free := fun b u q n _ => by rw [aqm (Nat.ne_of_lt (Nat.lt_of_lt_of_le (Heap.lt_size q) hp))]; exact n
 there := fun b u q _ => ⟨u, k b u q⟩
 tups := fun b xs q => by rw [aqm (aqn q hn)]; exact q
 frzs := fun b u xs q => by rw [aqm (aqn q hn)]; exact q
 tbls := fun b ps q => ⟨#[], by rw [aqm (aqn q hn), q]; simp⟩
theorem Un.write (mu : Mut (H x)) (he : e = x ∨ H e = some (.own x)) (k : ∀ b u, b ≠ e → h.get? b = some u → h'.get? b = some u) (heo : ∃ u, h'.get? e = some u) : Un fs ex H (upd H x o) h h' := by
 have hx : ∀ b, H b = none → b ≠ x := fun b n z => by subst z; rw [n] at mu; exact mu
 have hb : ∀ b, H b = none → b ≠ e := fun b n z => by
  subst z
  rcases he with r | r
  ·exact hx b n r
  ·rw [n] at r; cases r
 have hm : ∀ b u, H b = some u → ¬ Mut (some u) → b ≠ x := fun b u q nm z => by subst z; rw [q] at mu; exact nm mu
 refine ⟨fun b u q n _ _ => k b u (hb b n) q, fun b u q n _ _ => ⟨u.slots, k b u (hb b n) q⟩, fun b u q n _ => by rw [aqm (hx b n)]; exact n, fun b u q _ => ?_,
  fun b xs q => by rw [aqm (hm b _ q fun z => z)]; exact q, fun b u xs q => by rw [aqm (hm b _ q fun z => z)]; exact q, fun b ps q => ⟨#[], by rw [aqm (hm b _ q fun z => z), q]; simp⟩⟩
 by_cases hbe : b = e
 ·subst hbe; exact heo
 ·exact ⟨u, k b u hbe q⟩
end
def trk (h : Heap) (H : Hp) : List Addr := (List.range h.objs.size).filter fun a => (H a).isSome
def hidT (h : Heap) (H : Hp) : Heap := PySem.W.hideAll h (trk h H)
theorem kqZ (h : Heap) (H : Hp) : (hidT h H).objs.size = h.objs.size := PySem.W.hideAll_size _ _
theorem lqu {h : Heap} {H : Hp} {b : Addr} {o : Obj} (e : h.get? b = some o) (n : H b = none) : (hidT h H).get? b = some o :=
 PySem.W.hideAll_get _ e fun hm => by
  have q : (H b).isSome = true := (List.mem_filter.mp hm).2
  rw [n] at q; simp at q
theorem nqz {h : Heap} {H : Hp} {b : Addr} {o : Obj} (e : (hidT h H).get? b = some o) : h.get? b = some o ∧ H b = none := by
 have e' : h.get? b = some o := PySem.W.of_hideAll (trk h H) e
 refine ⟨e', ?_⟩
 cases q : H b with
 | none => rfl
 | some x =>
  have hm : b ∈ trk h H := List.mem_filter.mpr ⟨List.mem_range.mpr (Heap.lt_size e'), by simp [q]⟩
  have z : (hidT h H).get? b = none := PySem.W.hideAll_none (trk h H) hm
  rw [z] at e; cases e
def allNews (g h : Heap) (L : Addr) : List (Addr × Obj) := (List.range h.objs.size).filterMap fun a => if a = L ∨ (g.get? a).isSome = true then none else (h.get? a).map fun o => (a, o)
def rest (g h : Heap) (L d : Addr) : List (Addr × Obj) := (allNews g h L).filter fun p => decide (p.1 ≠ d)
structure Mod (K : PySem.W.Frag) (mg : Str → Option Value) (base : Heap) : Prop where
 kin : K.In base
 glob : base.Ns mainGlobals mg
 blt : ∃ mb, base.Ns builtinsNs mb ∧ ∀ x : Str, x ≠ "__name__" → mb x = bootBuiltins x
 nolimit : base.NoLimit
structure Cx where
 prog : Program
 w : World
 K : PySem.W.Frag
 mg : Str → Option Value
 base : Heap
 A : Around
 N : List Str
 s₀ : Shared
 H₀ : Hp
 env : Env
 outer : List Env
 stack : List Env
 ex : List Addr
 fn : Str → Bool
 calm : Bool
 pn : List (Addr × Obj)
 xe : Value → Shared → Prop
def frs (l : List Env) : List Addr := l.filterMap (·.frame)
abbrev Cx.fs (X : Cx) : List Addr := frs X.outer
def Vis (sc : Scope) (x : Str) : Prop := sc.names.lookup x = some .local ∨ sc.names.lookup x = some .cell ∨ sc.names.lookup x = some .free
def Loc (sc : Scope) (x : Str) : Prop := sc.names.lookup x = some .local ∨ sc.names.lookup x = some .cell
def Look (env : Env) (h : Heap) (m : Str → Option Value) (x : Str) (u : Value) : Prop :=
 (env.kindOf x = some .local ∧ m x = some u) ∨ ((env.kindOf x = some .cell ∨ env.kindOf x = some .free) ∧ ∃ c, env.cells.lookup x = some c ∧ h.IsCell c (some u))
structure Cx.Ok (X : Cx) : Prop where
 mod : Mod X.K X.mg X.base
 kind : X.env.scope.kind = .function
 glob : X.env.globals = mainGlobals
 blt : X.env.builtins = builtinsNs
 above : X.s₀.heap.objs.size ≤ X.env.locals
 inj : ∀ x y c, X.env.cells.lookup x = some c → X.env.cells.lookup y = some c → x = y
 has : ∀ x, (X.env.kindOf x = some .cell ∨ X.env.kindOf x = some .free) → ∃ c, X.env.cells.lookup x = some c
 cab : ∀ x c, X.fn x = true → X.env.cells.lookup x = some c → X.s₀.heap.objs.size ≤ c
 hd : X.calm = true → X.A.handled = none
 frames : X.A.frames = some X.stack
 stk : X.stack = X.outer ∨ (X.stack = X.env :: X.outer ∧ X.env.frame = some X.env.locals)
 exf : ∀ b ∈ X.ex, b ≠ X.env.locals ∧ ∀ x c, X.env.cells.lookup x = some c → c ≠ b
 bs : ∀ b o, X.base.get? b = some o → X.s₀.heap.get? b = some o ∧ X.H₀ b = none
 bsz : X.base.objs.size ≤ X.s₀.heap.objs.size
 noex : ∀ b o, X.base.get? b = some o → b ∉ X.ex
 exfs : ∀ b ∈ X.ex, b ∉ X.fs
 funs : X.s₀.heap.FunFrames X.base X.outer
 frf : ∀ b ∈ X.fs, X.H₀ b = none
structure Inv (X : Cx) (pins : List (Addr × Obj)) (σ : List (Option V)) (H : Hp) (s : Shared) : Prop where
 ok : X.Ok
 os : s.os = X.s₀.os
 bare : AllBare s.gens
 base : Un X.fs X.ex X.H₀ H X.s₀.heap s.heap
 loc : ∃ m, s.heap.Ns X.env.locals m ∧ ∀ (i : Nat) (x : Str) (v : V), X.N[i]? = some x → σ[i]? = some (some v) → Vis X.env.scope x → ∃ u, RelV v u ∧ Look X.env s.heap m x u
 cell : ∀ x c, X.env.cells.lookup x = some c → ∃ v, s.heap.IsCell c v
 free : H X.env.locals = none
 freeC : ∀ x c, X.env.cells.lookup x = some c → H c = none
 pin : ∀ p ∈ X.pn ++ pins, s.heap.get? p.1 = some p.2 ∧ H p.1 = none ∧ p.1 ≠ X.env.locals ∧ p.1 ∉ X.fs ∧ ∀ v, p.2.data ≠ .cell v
 hok : HOk X.prog X.w H s.heap
 len : σ.length = X.N.length
section
variable {X : Cx} {pins : List (Addr × Obj)} {σ : List (Option V)} {H H' : Hp} {s : Shared} {h' : Heap}
theorem Cx.Ok.nofr (ok : X.Ok) {b : Addr} {o : Obj} (e : X.base.get? b = some o) : b ∉ X.fs := fun hb => by
 have := (ok.funs.mem hb).1
 rw [e] at this; cases this
theorem Inv.bs (I : Inv X pins σ H s) : ∀ b o, X.base.get? b = some o → s.heap.get? b = some o ∧ H b = none := fun b o e =>
 ⟨I.base.keep b o (I.ok.bs b o e).1 (I.ok.bs b o e).2 (I.ok.nofr e) (I.ok.noex b o e), I.base.free b o (I.ok.bs b o e).1 (I.ok.bs b o e).2 (I.ok.noex b o e)⟩
theorem Inv.bk (I : Inv X pins σ H s) : ∀ b o, X.base.get? b = some o → s.heap.get? b = some o := fun b o e => (I.bs b o e).1
theorem Inv.mod (I : Inv X pins σ H s) : Mod X.K X.mg X.base := I.ok.mod
theorem Inv.kIn (I : Inv X pins σ H s) : X.K.In s.heap := I.ok.mod.kin.keeps I.bk
theorem Inv.lt (I : Inv X pins σ H s) : X.env.locals < s.heap.objs.size := let ⟨_, hn, _⟩ := I.loc; hn.lt
theorem Inv.sz (I : Inv X pins σ H s) : X.s₀.heap.objs.size ≤ s.heap.objs.size := Nat.le_trans I.ok.above (Nat.le_of_lt I.lt)
theorem Inv.nofs (I : Inv X pins σ H s) {a : Addr} (h : s.heap.objs.size ≤ a) : a ∉ X.fs := fun hb => by
 obtain ⟨_, o, ho, _⟩ := I.ok.funs.mem hb
 exact absurd (Nat.lt_of_lt_of_le (Heap.lt_size ho) (Nat.le_trans I.sz h)) (Nat.lt_irrefl _)
theorem Inv.cne (I : Inv X pins σ H s) : ∀ x c, X.env.cells.lookup x = some c → c ≠ X.env.locals := fun x c e z => by
 obtain ⟨v, o, ho, hd⟩ := I.cell x c e
 obtain ⟨m, ⟨o', es, ep, ho', hd', _⟩, _⟩ := I.loc
 rw [z, ho'] at ho; cases ho; rw [hd'] at hd; cases hd
theorem Inv.funs (I : Inv X pins σ H s) : s.heap.FunFrames X.base X.outer := by
 have all : ∀ (l : List Env), (∀ b ∈ frs l, b ∈ X.fs) → X.s₀.heap.FunFrames X.base l → s.heap.FunFrames X.base l := by
  intro l
  induction l with
  | nil => intro _ _; trivial
  | cons env r ih =>
   intro hs hl
   obtain ⟨hk, ⟨L, o, hf, hn, ho, hd⟩, hr⟩ := hl
   have hL : L ∈ X.fs := hs L (by unfold frs; rw [List.filterMap_cons, hf]; exact List.mem_cons_self)
   obtain ⟨sl, e⟩ := I.base.slot L o ho (I.ok.frf L hL) hL fun z => I.ok.exfs L z hL
   exact ⟨hk, ⟨L, _, hf, hn, e, hd⟩, ih (fun b hb => hs b (by unfold frs; rw [List.filterMap_cons, hf]; exact List.mem_cons_of_mem _ hb)) hr⟩
 exact all X.outer (fun _ hb => hb) I.ok.funs
theorem Inv.stack (I : Inv X pins σ H s) : s.heap.FunFrames X.base X.stack := by
 rcases I.ok.stk with e | ⟨e, hf⟩
 ·rw [e]; exact I.funs
 ·rw [e]
  obtain ⟨m, hn, _⟩ := I.loc
  refine .cons (by rw [I.ok.kind]; decide) hf hn ?_ I.funs
  exact Heap.get?_none_of_le (Nat.le_trans I.ok.bsz I.ok.above)
theorem Inv.stkSub (I : Inv X pins σ H s) : ∀ b ∈ frs X.stack, b ∈ X.env.locals :: X.fs := fun b hb => by
 rcases I.ok.stk with e | ⟨e, hf⟩
 ·rw [e] at hb; exact List.mem_cons_of_mem _ hb
 ·rw [e] at hb
  unfold frs at hb
  rw [List.filterMap_cons, hf] at hb
  exact hb
theorem Inv.stkFree (I : Inv X pins σ H s) : ∀ b ∈ frs X.stack, H b = none := fun b hb => by
 rcases List.mem_cons.mp (I.stkSub b hb) with e | hb
 ·rw [e]; exact I.free
 ·obtain ⟨_, o, ho, _⟩ := I.ok.funs.mem hb
  exact I.base.free b o ho (I.ok.frf b hb) fun z => I.ok.exfs b z hb
theorem Inv.step {g' : Array GenState} {t' : Nat} {d' : Drawn} {ch : List Addr} (I : Inv X pins σ H s)
  (hch : ∀ b ∈ ch, (b ∈ X.ex ∨ X.s₀.heap.objs.size ≤ b) ∧ b ≠ X.env.locals ∧ (∀ x c, X.env.cells.lookup x = some c → c ≠ b) ∧ ∀ p ∈ X.pn ++ pins, p.1 ≠ b)
  (keep : ∀ b o, b ≠ X.env.locals → b ∉ X.fs → b ∉ ch → s.heap.get? b = some o → H b = none → h'.get? b = some o)
  (slot : ∀ b o, b ≠ X.env.locals → b ∈ X.fs → b ∉ ch → s.heap.get? b = some o → H b = none → ∃ sl, h'.get? b = some { o with slots := sl }) (free : ∀ b o, b ∉ ch → s.heap.get? b = some o → H b = none → H' b = none)
  (there : ∀ b o, b ∉ ch → s.heap.get? b = some o → ∃ o', h'.get? b = some o')
  (tups : ∀ b xs, H b = some (.tup xs) → H' b = some (.tup xs)) (frzs : ∀ b o u, H b = some (.frz o u) → H' b = some (.frz o u)) (tbls : ∀ b ps, H b = some (.tbl ps) → ∃ more, H' b = some (.tbl (ps ++ more)))
  (ns : ∀ m, s.heap.Ns X.env.locals m → h'.Ns X.env.locals m) (hok : HOk X.prog X.w H' h') (hg : AllBare g') :
  Inv X pins σ H' { s with heap := h', gens := g', drawn := d', toks := t' } := by
 have neL : ∀ b o, X.s₀.heap.get? b = some o → b ≠ X.env.locals := fun b o e => Nat.ne_of_lt (Nat.lt_of_lt_of_le (Heap.lt_size e) I.ok.above)
 have neC : ∀ b o, X.s₀.heap.get? b = some o → b ∉ X.ex → b ∉ ch := fun b o e hx hb => by
  rcases (hch b hb).1 with z | z
  ·exact hx z
  ·exact absurd (Nat.lt_of_lt_of_le (Heap.lt_size e) z) (Nat.lt_irrefl _)
 have cellK : ∀ x c, X.env.cells.lookup x = some c → ∀ v, s.heap.IsCell c v → h'.IsCell c v := fun x c e v ⟨o, ho, hd⟩ => by
  have nch : c ∉ ch := fun z => (hch c z).2.2.1 x c e rfl
  by_cases hc : c ∈ X.fs
  ·obtain ⟨sl, q⟩ := slot c o (I.cne x c e) hc nch ho (I.freeC x c e)
   exact ⟨_, q, hd⟩
  ·exact ⟨o, keep c o (I.cne x c e) hc nch ho (I.freeC x c e), hd⟩
 refine ⟨I.ok, I.os, hg, ⟨fun b o e n hb hx => ?_, fun b o e n hb hx => ?_, fun b o e n hx => ?_, fun b o e hx => ?_, fun b xs e => tups b xs (I.base.tups b xs e), fun b o xs e => frzs b o xs (I.base.frzs b o xs e), fun b ps e => ?_⟩, ?_, fun x c e => ?_, ?_, fun x c e => ?_, fun p hp => ?_, hok, I.len⟩
 ·exact keep b o (neL b o e) hb (neC b o e hx) (I.base.keep b o e n hb hx) (I.base.free b o e n hx)
 ·obtain ⟨sl, e1⟩ := I.base.slot b o e n hb hx
  obtain ⟨sl', e2⟩ := slot b _ (neL b o e) hb (neC b o e hx) e1 (I.base.free b o e n hx)
  exact ⟨sl', e2⟩
 ·obtain ⟨o', e1⟩ := I.base.there b o e hx
  exact free b o' (neC b o e hx) e1 (I.base.free b o e n hx)
 ·obtain ⟨o', e1⟩ := I.base.there b o e hx
  exact there b o' (neC b o e hx) e1
 ·obtain ⟨m1, e1⟩ := I.base.tbls b ps e
  obtain ⟨m2, e2⟩ := tbls b _ e1
  exact ⟨m1 ++ m2, by rw [e2, Array.append_assoc]⟩
 ·obtain ⟨m, hn, hl⟩ := I.loc
  refine ⟨m, ns m hn, fun i x v e1 e2 e3 => ?_⟩
  obtain ⟨u, r, l⟩ := hl i x v e1 e2 e3
  refine ⟨u, r, ?_⟩
  rcases l with l | ⟨k, c, e, z⟩
  ·exact .inl l
  ·exact .inr ⟨k, c, e, cellK x c e _ z⟩
 ·obtain ⟨v, z⟩ := I.cell x c e
  exact ⟨v, cellK x c e v z⟩
 ·obtain ⟨m, ⟨o, _, _, ho, _⟩, _⟩ := I.loc
  exact free _ o (fun z => (hch _ z).2.1 rfl) ho I.free
 ·obtain ⟨v, o, ho, hd⟩ := I.cell x c e
  exact free c o (fun z => (hch c z).2.2.1 x c e rfl) ho (I.freeC x c e)
 ·obtain ⟨e, n, ne, nf, d⟩ := I.pin p hp
  have nch : p.1 ∉ ch := fun z => (hch p.1 z).2.2.2 p hp rfl
  exact ⟨keep p.1 p.2 ne nf nch e n, free p.1 p.2 nch e n, ne, nf, d⟩
theorem Inv.un {t' : Nat} (I : Inv X pins σ H s) (u : Un X.fs [] H H' s.heap h') (hok : HOk X.prog X.w H' h') : Inv X pins σ H' { s with heap := h', toks := t' } := by
 obtain ⟨m, ⟨o, es, ep, ho, r⟩, _⟩ := id I.loc
 obtain ⟨sl, hL⟩ := u.any ho I.free (by simp)
 exact I.step (g' := s.gens) (d' := s.drawn) (ch := []) (fun _ z => nomatch z) (fun b o _ hb _ e n => u.keep b o e n hb (by simp)) (fun b o _ hb _ e n => u.slot b o e n hb (by simp)) (fun b o _ e n => u.free b o e n (by simp)) (fun b o _ e => u.there b o e (by simp)) u.tups u.frzs u.tbls (fun m' hm => by
  obtain ⟨o', es', ep', ho', r'⟩ := hm
  rw [ho] at ho'; cases ho'
  exact ⟨_, es', ep', hL, r'⟩) hok I.bare
theorem Inv.call {g' : Array GenState} {t' : Nat} {d' : Drawn} {ch : List Addr} (I : Inv X pins σ H s) (u : Un (frs X.stack) ch H H' s.heap h') (hok : HOk X.prog X.w H' h') (hg : AllBare g')
  (hch : ∀ b ∈ ch, (b ∈ X.ex ∨ X.s₀.heap.objs.size ≤ b) ∧ b ≠ X.env.locals ∧ (∀ x c, X.env.cells.lookup x = some c → c ≠ b) ∧ ∀ p ∈ X.pn ++ pins, p.1 ≠ b) :
  Inv X pins σ H' { s with heap := h', gens := g', drawn := d', toks := t' } := by
 obtain ⟨m, ⟨o, es, ep, ho, r⟩, _⟩ := id I.loc
 obtain ⟨sl, hL⟩ := u.any ho I.free fun z => (hch _ z).2.1 rfl
 exact I.step (ch := ch) hch (fun b o hL hb hc e n => u.keep b o e n (fun z => (List.mem_cons.mp (I.stkSub b z)).elim hL hb) hc) (fun b o _ _ hc e n => u.any e n hc) (fun b o hc e n => u.free b o e n hc) (fun b o hc e => u.there b o e hc) u.tups u.frzs u.tbls (fun m' hm => by
  obtain ⟨o', es', ep', ho', r'⟩ := hm
  rw [ho] at ho'; cases ho'
  exact ⟨_, es', ep', hL, r'⟩) hok hg
theorem Inv.turned {t' : Nat} {it : Addr} (I : Inv X pins σ H s) (k : ∀ b o, b ≠ it → s.heap.get? b = some o → h'.get? b = some o) (hn : H it = none) (hL : it ≠ X.env.locals)
  (h1 : it ∈ X.ex ∨ X.s₀.heap.objs.size ≤ it) (h2 : ∀ x c, X.env.cells.lookup x = some c → c ≠ it) (h3 : ∀ p ∈ X.pn ++ pins, p.1 ≠ it) : Inv X pins σ H { s with heap := h', toks := t' } := by
 have nit : ∀ b u, H b = some u → b ≠ it := fun b u e z => by rw [z, hn] at e; cases e
 refine I.step (g' := s.gens) (d' := s.drawn) (ch := [it]) (fun b hb => ?_) (fun b o _ _ hc e _ => k b o (fun z => hc (by simp [z])) e) (fun b o _ _ hc e _ => ⟨o.slots, k b o (fun z => hc (by simp [z])) e⟩) (fun _ _ _ _ n => n)
  (fun b o hc e => ⟨o, k b o (fun z => hc (by simp [z])) e⟩) (fun _ _ e => e) (fun _ _ _ e => e) (fun b ps e => ⟨#[], by rw [e]; simp⟩) (fun m hm => ?_) (fun b u e => ?_) I.bare
 ·have e : b = it := by simpa using hb
  subst e
  exact ⟨h1, hL, h2, h3⟩
 ·obtain ⟨o, es, ep, ho, r⟩ := hm
  exact ⟨o, es, ep, k _ o (Ne.symm hL) ho, r⟩
 ·refine (I.hok b u e).stay (fun c v hc q => k c v ?_ q) (fun _ q => q) fun _ _ q => q
  rcases hc with z | z
  ·rw [z]; exact nit b u e
  ·exact nit c _ z
theorem Inv.tok (I : Inv X pins σ H s) (t : Nat) : Inv X pins σ H { s with toks := t } := I.un (h' := s.heap) (t' := t) Un.refl I.hok
theorem Inv.kept {t' : Nat} (I : Inv X pins σ H s) (k : ∀ b u, s.heap.get? b = some u → h'.get? b = some u) : Inv X pins σ H { s with heap := h', toks := t' } := I.un (Un.kept k) (I.hok.kept k)
theorem Inv.laid {a : Addr} {o : HO} {t' : Nat} (I : Inv X pins σ H s) (k : ∀ b u, s.heap.get? b = some u → h'.get? b = some u) (hp : s.heap.objs.size ≤ a) (new : ObjOk X.prog X.w (upd H a o) h' a o) :
  Inv X pins σ (upd H a o) { s with heap := h', toks := t' } := I.un (Un.laid k hp (I.hok.fresh hp)) (I.hok.laid k hp new)
theorem Inv.write {x e : Addr} {o : HO} {t' : Nat} (I : Inv X pins σ H s) (mu : Mut (H x)) (he : e = x ∨ H e = some (.own x)) (k : ∀ b u, b ≠ e → s.heap.get? b = some u → h'.get? b = some u) (heo : ∃ u, h'.get? e = some u)
  (new : ObjOk X.prog X.w (upd H x o) h' x o) : Inv X pins σ (upd H x o) { s with heap := h', toks := t' } := I.un (Un.write mu he k heo) (I.hok.write mu he k heo new)
theorem Inv.pins_of {pins' : List (Addr × Obj)} (I : Inv X pins σ H s) (h : ∀ p ∈ pins', s.heap.get? p.1 = some p.2 ∧ H p.1 = none ∧ p.1 ≠ X.env.locals ∧ p.1 ∉ X.fs ∧ ∀ v, p.2.data ≠ .cell v) : Inv X pins' σ H s :=
 ⟨I.ok, I.os, I.bare, I.base, I.loc, I.cell, I.free, I.freeC, fun p hp => (List.mem_append.mp hp).elim (fun z => I.pin p (List.mem_append_left _ z)) (h p), I.hok, I.len⟩
theorem hqx {N : List Str} (hN : N.Nodup) {i j : Nat} {x : Str} (a : N[i]? = some x) (b : N[j]? = some x) : i = j := by
 obtain ⟨h1, e1⟩ := List.getElem?_eq_some_iff.mp a
 obtain ⟨h2, e2⟩ := List.getElem?_eq_some_iff.mp b
 exact (List.getElem_inj hN).mp (e1.trans e2.symm)
theorem kqO {M : Model} {A : Around} {E : Value → Shared → Prop} {i : Nat} {x : Str} {v : V} {u : Value} {Q : Unit → Shared → Prop} (I : Inv X pins σ H s) (hN : X.N.Nodup) (hi : X.N[i]? = some x) (hx : Loc X.env.scope x) (r : RelV v u)
  (h : ∀ s', Inv X pins (σ.set i (some v)) H s' → (∃ a, Heap.SameBut a s.heap s'.heap ∧ (a = X.env.locals ∨ X.env.cells.lookup x = some a)) → Q () s') (hf : X.fn x = true ∨ X.env.scope.names.lookup x = some .local := by first | exact .inl rfl | exact .inr rfl | assumption) : wpAny M A (storeName X.env x u) Q E s := by
 obtain ⟨m, hn, hl⟩ := id I.loc
 have hcls : (X.env.scope.kind == .class || (X.env.scope.kind == .module && X.env.locals != X.env.globals)) = false := by rw [I.ok.kind]; rfl
 have hiσ : i < σ.length := by rw [I.len]; exact (List.getElem?_eq_some_iff.mp hi).1
 have cne := I.cne
 have tracked : ∀ {a : Addr} {h' : Heap}, (∃ o, s.heap.get? a = some o ∧ H a = none) → Heap.SameBut a s.heap h' → HOk X.prog X.w H h' := fun {a h'} ha hs b ob e => by
  obtain ⟨_, _, hfree⟩ := ha
  refine (I.hok b ob e).stay (fun c w' hc q => (hs.2 c ?_).trans q) (fun _ q => q) fun _ _ q => q
  rintro rfl
  rcases hc with rfl | hc
  ·rw [hfree] at e; cases e
  ·rw [hfree] at hc; cases hc
 rcases hx with hk | hk
 ·refine wpAny_storeName_local hk hn (fun h' hn' hs => ?_) hcls
  obtain ⟨oL, _, _, hoL, _⟩ := id hn
  refine h _ ⟨I.ok, I.os, I.bare, ⟨fun b o e n hb hx => ?_, fun b o e n hb hx => ?_, I.base.free, fun b o e hx => ?_, I.base.tups, I.base.frzs, I.base.tbls⟩, ⟨_, hn', fun j y v' e1 e2 e3 => ?_⟩, fun y c e => ?_, I.free, I.freeC, fun p hp => ?_, tracked ⟨oL, hoL, I.free⟩ hs, by simpa using I.len⟩ ⟨_, hs, .inl rfl⟩
  ·exact (hs.2 b (Nat.ne_of_lt (Nat.lt_of_lt_of_le (Heap.lt_size e) I.ok.above))).trans (I.base.keep b o e n hb hx)
  ·obtain ⟨sl, e1⟩ := I.base.slot b o e n hb hx
   exact ⟨sl, (hs.2 b (Nat.ne_of_lt (Nat.lt_of_lt_of_le (Heap.lt_size e) I.ok.above))).trans e1⟩
  ·obtain ⟨o', e1⟩ := I.base.there b o e hx
   exact ⟨o', (hs.2 b (Nat.ne_of_lt (Nat.lt_of_lt_of_le (Heap.lt_size e) I.ok.above))).trans e1⟩
  ·by_cases hj : j = i
   ·subst hj
    rw [hi] at e1; cases e1
    rw [List.getElem?_set_self hiσ] at e2
    cases e2
    exact ⟨u, r, .inl ⟨hk, by simp⟩⟩
   ·rw [List.getElem?_set_ne (Ne.symm hj)] at e2
    obtain ⟨u', r', q⟩ := hl j y v' e1 e2 e3
    refine ⟨u', r', ?_⟩
    rcases q with ⟨k, e⟩ | ⟨k, c, e, z⟩
    ·refine .inl ⟨k, ?_⟩
     have : y ≠ x := fun e => hj (hqx hN e1 (e ▸ hi))
     simp [this, e]
    ·exact .inr ⟨k, c, e, z.sameBut hs (cne y c e)⟩
  ·obtain ⟨w', z⟩ := I.cell y c e
   exact ⟨w', z.sameBut hs (cne y c e)⟩
  ·obtain ⟨e, n, ne, nf, d⟩ := I.pin p hp
   exact ⟨(hs.2 p.1 ne).trans e, n, ne, nf, d⟩
 ·have hfn : X.fn x = true := by
   rcases hf with z | z
   ·exact z
   ·rw [z] at hk; cases hk
  obtain ⟨c, hc⟩ := I.ok.has x (.inl hk)
  obtain ⟨w', z⟩ := I.cell x c hc
  refine wpAny_storeName_cell I.ok.kind hk hc z (fun h' hc' hs => ?_)
  obtain ⟨oc, hoc, hocd⟩ := id z
  refine h { s with heap := h' } ⟨I.ok, I.os, I.bare, ⟨fun b o e n hb hx => ?_, fun b o e n hb hx => ?_, I.base.free, fun b o e hx => ?_, I.base.tups, I.base.frzs, I.base.tbls⟩, ⟨m, hn.sameBut hs (Ne.symm (cne x c hc)), fun j y v' e1 e2 e3 => ?_⟩, fun y c' e => ?_, I.free, I.freeC, fun p hp => ?_, tracked ⟨oc, hoc, I.freeC x c hc⟩ hs, by simpa using I.len⟩ ⟨c, hs, .inr hc⟩
  ·exact (hs.2 b (Nat.ne_of_lt (Nat.lt_of_lt_of_le (Heap.lt_size e) (I.ok.cab x c hfn hc)))).trans (I.base.keep b o e n hb hx)
  ·obtain ⟨sl, e1⟩ := I.base.slot b o e n hb hx
   exact ⟨sl, (hs.2 b (Nat.ne_of_lt (Nat.lt_of_lt_of_le (Heap.lt_size e) (I.ok.cab x c hfn hc)))).trans e1⟩
  ·obtain ⟨o', e1⟩ := I.base.there b o e hx
   exact ⟨o', (hs.2 b (Nat.ne_of_lt (Nat.lt_of_lt_of_le (Heap.lt_size e) (I.ok.cab x c hfn hc)))).trans e1⟩
  ·by_cases hj : j = i
   ·subst hj
    rw [hi] at e1; cases e1
    rw [List.getElem?_set_self hiσ] at e2
    cases e2
    exact ⟨u, r, .inr ⟨.inl hk, c, hc, hc'⟩⟩
   ·rw [List.getElem?_set_ne (Ne.symm hj)] at e2
    obtain ⟨u', r', q⟩ := hl j y v' e1 e2 e3
    refine ⟨u', r', ?_⟩
    rcases q with q | ⟨k, c', e, z'⟩
    ·exact .inl q
    ·refine .inr ⟨k, c', e, z'.sameBut hs ?_⟩
     rintro rfl
     exact hj (hqx hN e1 (I.ok.inj _ _ _ e hc ▸ hi))
  ·by_cases hcc : c' = c
   ·subst hcc; exact ⟨_, hc'⟩
   ·obtain ⟨w2, z2⟩ := I.cell y c' e
    exact ⟨w2, z2.sameBut hs hcc⟩
  ·obtain ⟨e, n, ne, nf, d⟩ := I.pin p hp
   refine ⟨(hs.2 p.1 ?_).trans e, n, ne, nf, d⟩
   intro q
   rw [q, hoc] at e
   have q' : oc = p.2 := Option.some.inj e
   exact d w' (by rw [← q']; exact hocd)
theorem fq0 {M : Model} {A : Around} {E : Value → Shared → Prop} {i : Nat} {x : Str} {v : V} {u : Value} {Q : Unit → Shared → Prop} (I : Inv X pins σ H s) (hN : X.N.Nodup) (hi : X.N[i]? = some x) (hx : Loc X.env.scope x) (r : RelV v u)
  (h : ∀ s', Inv X pins (σ.set i (some v)) H s' → Q () s') (hf : X.fn x = true ∨ X.env.scope.names.lookup x = some .local := by first | exact .inl rfl | exact .inr rfl | assumption) : wpAny M A (storeName X.env x u) Q E s :=
 kqO I hN hi hx r (fun s' I' _ => h s' I') hf
theorem Inv.call' {s' : Shared} {ch : List Addr} (I : Inv X pins σ H s) (ho : s'.os = s.os) (u : Un (frs X.stack) ch H H' s.heap s'.heap) (hok : HOk X.prog X.w H' s'.heap) (hg : AllBare s'.gens)
  (hch : ∀ b ∈ ch, (b ∈ X.ex ∨ X.s₀.heap.objs.size ≤ b) ∧ b ≠ X.env.locals ∧ (∀ x c, X.env.cells.lookup x = some c → c ≠ b) ∧ ∀ p ∈ X.pn ++ pins, p.1 ≠ b) : Inv X pins σ H' s' := by
 obtain ⟨h', g', d', t', o'⟩ := s'
 have e : o' = s.os := ho
 subst e
 exact I.call (g' := g') (t' := t') (d' := d') u hok hg hch
end
abbrev XK := Value → Option Addr → Hp → Prop
abbrev St := List (Option V)
abbrev VK := V → Hp → Prop
abbrev TE := St → Hp → VK → Prop
abbrev TT := St → Hp → (Bool → Hp → Prop) → Prop
abbrev TA := St → Hp → (List V → Hp → Prop) → Prop
structure Ends where
 nx : St → Hp → Prop
 rt : VK
 bk : St → Hp → Prop := fun _ _ => False
 ct : St → Hp → Prop := fun _ _ => False
abbrev TS := Ends → St → Hp → Prop
def EP (X : Cx) (pins : List (Addr × Obj)) (σ : St) (Q : VK) (u : Value) (s' : Shared) : Prop := ∃ v H', Inv X pins σ H' s' ∧ RelV v u ∧ Q v H'
def TP (X : Cx) (pins : List (Addr × Obj)) (σ : St) (Q : Bool → Hp → Prop) (b : Bool) (s' : Shared) : Prop := ∃ H', Inv X pins σ H' s' ∧ Q b H'
def AP (X : Cx) (pins : List (Addr × Obj)) (σ : St) (Q : List V → Hp → Prop) (us : List Value) (s' : Shared) : Prop := ∃ vs H', Inv X pins σ H' s' ∧ Vals vs us ∧ Q vs H'
def SP (X : Cx) (pins : List (Addr × Obj)) (D : Ends) (f : Flow) (s' : Shared) : Prop :=
 match f with
 | .next => ∃ σ' H', Inv X pins σ' H' s' ∧ D.nx σ' H'
 | .brk => ∃ σ' H', Inv X pins σ' H' s' ∧ D.bk σ' H'
 | .cont => ∃ σ' H', Inv X pins σ' H' s' ∧ D.ct σ' H'
 | .ret u => ∃ v σ' H', Inv X pins σ' H' s' ∧ RelV v u ∧ D.rt v H'
def PE (X : Cx) (e : Expr) (t : TE) : Prop :=
 ∀ (pins : List (Addr × Obj)) (s : Shared) (σ : St) (H : Hp) (Q : VK), Inv X pins σ H s → t σ H Q → wpAny (model X.prog X.w) X.A (eval e X.env) (EP X pins σ Q) X.xe s
def PT (X : Cx) (e : Expr) (t : TT) : Prop :=
 ∀ (pins : List (Addr × Obj)) (s : Shared) (σ : St) (H : Hp) (Q : Bool → Hp → Prop), Inv X pins σ H s → t σ H Q → wpAny (model X.prog X.w) X.A (isTrue e X.env (eval e X.env)) (TP X pins σ Q) X.xe s
def PW (X : Cx) (e : Expr) (t : TT) : Prop :=
 ∀ (whole : Sem Value) (pins : List (Addr × Obj)) (s : Shared) (σ : St) (H : Hp) (Q : Bool → Hp → Prop), Inv X pins σ H s → t σ H Q → wpAny (model X.prog X.w) X.A (isTrue e X.env whole) (TP X pins σ Q) X.xe s
theorem PW.pt {X : Cx} {e : Expr} {t : TT} (h : PW X e t) : PT X e t := h _
def PA (X : Cx) (es : List Expr) (t : TA) : Prop :=
 ∀ (pos : Pos) (pins : List (Addr × Obj)) (s : Shared) (σ : St) (H : Hp) (Q : List V → Hp → Prop), Inv X pins σ H s → t σ H Q → wpAny (model X.prog X.w) X.A (spliced (backTo pos (starEach es X.env))) (AP X pins σ Q) X.xe s
def PS (X : Cx) (st : Stmt) (t : TS) : Prop :=
 ∀ (pins : List (Addr × Obj)) (s : Shared) (σ : St) (H : Hp) (D : Ends), Inv X pins σ H s → t D σ H → wpAny (model X.prog X.w) X.A (exec st X.env) (SP X pins D) X.xe s
def PSs (X : Cx) (st : List Stmt) (t : TS) : Prop :=
 ∀ (pins : List (Addr × Obj)) (s : Shared) (σ : St) (H : Hp) (D : Ends), Inv X pins σ H s → t D σ H → wpAny (model X.prog X.w) X.A (execs st X.env) (SP X pins D) X.xe s
theorem thn {α : Type} {t : Sem α} {Q Q' : α → Shared → Prop} {M : Model} {A : Around} {E : Value → Shared → Prop} {s : Shared} (h : wpAny M A t Q E s) (hQ : ∀ a s, Q a s → Q' a s) : wpAny M A t Q' E s := wpAny_mono h hQ fun _ _ x => x
section
variable {X : Cx}
theorem bin {a b : Expr} {ta tb : TE} (ha : PE X a ta) (hb : PE X b tb) {pins : List (Addr × Obj)} {s : Shared} {σ : St} {H : Hp} {R : V → V → Hp → Prop} (I : Inv X pins σ H s) (h : ta σ H fun x H1 => tb σ H1 fun y H2 => R x y H2)
  {α : Type} {Q : α → Shared → Prop} {f : Value → Value → Sem α}
  (hf : ∀ v u s2 x y H2, Inv X pins σ H2 s2 → RelV x v → RelV y u → R x y H2 → wpAny (model X.prog X.w) X.A (f v u) Q X.xe s2) :
  wpAny (model X.prog X.w) X.A (eval a X.env) (fun v s₁ => wpAny (model X.prog X.w) X.A (eval b X.env) (fun u s₂ => wpAny (model X.prog X.w) X.A (f v u) Q X.xe s₂) X.xe s₁) X.xe s := by
 refine thn (ha pins s σ H _ I h) fun v s1 W' => ?_
 obtain ⟨x, H1, I1, r1, q1⟩ := W'
 refine thn (hb pins s1 σ H1 _ I1 q1) fun u s2 W' => ?_
 obtain ⟨y, H2, I2, r2, q2⟩ := W'
 exact hf v u s2 x y H2 I2 r1 r2 q2
def tVar (i : Nat) : TE := fun σ H Q => ∃ v, σ[i]? = some (some v) ∧ Q v H
def tC (v : V) : TE := fun _ H Q => Q v H
theorem pqs {i : Nat} {x : Str} {pos : Pos} (hN : X.N[i]? = some x) (hv : Vis X.env.scope x) (hd : (x == ("__debug__" : Str)) = false := by decide) (hcd : (x == ("__classdict__" : Str)) = false := by decide) : PE X (.Name x pos) (tVar i) := by
 intro pins s σ H Q I h
 obtain ⟨v, e, h⟩ := h
 obtain ⟨m, hn, hl⟩ := I.loc
 obtain ⟨u, r, l⟩ := hl i x v hN e hv
 have fin : EP X pins σ Q u s := ⟨v, H, I, r, h⟩
 rcases l with ⟨hk, hm⟩ | ⟨hk, c, hc, hcell⟩
 ·exact wpAny_Name (wpAny_loadName_local I.ok.kind hk hn hm fin) hd
 ·rcases hk with hk | hk
  ·exact wpAny_Name (wpAny_loadName_cell I.ok.kind hk hc hcell fin) hd
  ·exact wpAny_Name (wpAny_loadName_free I.ok.kind hk hc hcell fin hcd) hd
theorem aqj {i j pos} : PE X (.Constant (.int i) j pos) (tC (.int i)) := fun _ _ _ H _ I h => wpAny_Constant_int ⟨.int i, H, I.tok _, ⟨_, rfl⟩, h⟩
theorem fqn {b j pos} : PE X (.Constant (.bool b) j pos) (tC (.bl b)) := fun _ _ _ H _ I h => Constant_bool ⟨.bl b, H, I, rfl, h⟩
theorem aqV {j pos} : PE X (.Constant .none j pos) (tC .non) := fun _ _ _ H _ I h => Constant_none ⟨.non, H, I, rfl, h⟩
theorem aqk {x j pos} : PE X (.Constant (.str x) j pos) (tC (.str x)) := fun _ _ _ H _ I h => Calls.Constant_str ⟨.str x, H, I.tok _, ⟨_, rfl⟩, h⟩
def Gl (X : Cx) (x : Str) : Prop := X.env.kindOf x = some .globalImplicit
theorem fqg {E : Value → Shared → Prop} {pins : List (Addr × Obj)} {s : Shared} {σ : St} {H : Hp} {x : Str} {u : Value} {pos : Pos} {Q : Value → Shared → Prop} (I : Inv X pins σ H s) (hg : Gl X x) (hm : X.mg x = some u) (h : Q u s)
  (hd : (x == ("__debug__" : Str)) = false := by decide) : wpAny (model X.prog X.w) X.A (eval (.Name x pos) X.env) Q E s :=
 Calls.Name_function_global I.ok.kind hg (Calls.loadGlobal_global (by rw [I.ok.glob]; exact I.mod.glob.keeps I.bk) hm h) hd
theorem jqk {E : Value → Shared → Prop} {pins : List (Addr × Obj)} {s : Shared} {σ : St} {H : Hp} {x : Str} {u : Value} {pos : Pos} {Q : Value → Shared → Prop} (I : Inv X pins σ H s) (hg : Gl X x) (hm : X.mg x = none) (hv : bootBuiltins x = some u) (h : Q u s)
  (hn : x ≠ "__name__" := by decide) (hd : (x == ("__debug__" : Str)) = false := by decide) : wpAny (model X.prog X.w) X.A (eval (.Name x pos) X.env) Q E s := by
 obtain ⟨mb, h1, h2⟩ := I.mod.blt
 exact Calls.Name_function_global I.ok.kind hg (Calls.loadGlobal_builtin (by rw [I.ok.glob]; exact I.mod.glob.keeps I.bk) hm (by rw [I.ok.blt]; exact h1.keeps I.bk) ((h2 x hn).trans hv) h) hd
theorem aqL {x : Str} {v : V} {u : Value} {pos : Pos} (hg : Gl X x) (hm : X.mg x = some u) (r : RelV v u) (hd : (x == ("__debug__" : Str)) = false := by decide) : PE X (.Name x pos) (tC v) :=
 fun _ _ _ H _ I h => fqg I hg hm ⟨v, H, I, r, h⟩ hd
theorem hqE {x : Str} {v : V} {u : Value} {pos : Pos} (hg : Gl X x) (hm : X.mg x = none) (hv : bootBuiltins x = some u) (r : RelV v u) (hn : x ≠ "__name__" := by decide) (hd : (x == ("__debug__" : Str)) = false := by decide) : PE X (.Name x pos) (tC v) :=
 fun _ _ _ H _ I h => jqk I hg hm hv ⟨v, H, I, r, h⟩ hn hd
variable {a b : Expr} {ta tb : TE} {pos : Pos}
def PC (X : Cx) (op : CmpOp) (a b : Expr) (t : TE) : Prop :=
 ∀ (pins : List (Addr × Obj)) (s : Shared) (σ : St) (H : Hp) (Q : VK), Inv X pins σ H s → t σ H Q →
  wpAny (model X.prog X.w) X.A (eval a X.env) (fun v s₁ => wpAny (model X.prog X.w) X.A (eval b X.env) (fun u s₂ => wpAny (model X.prog X.w) X.A (compareOp op v u) (EP X pins σ Q) X.xe s₂) X.xe s₁) X.xe s
def tB (t : TE) : TT := fun σ H Q => t σ H fun x H1 => ∃ c, x = .bl c ∧ Q c H1
theorem qqE {op : CmpOp} {t : TE} (h : PC X op a b t) (h1 : behindInMarks op b = false := by first | exact nobehind _ (by decide) (by decide) | rfl) : PT X (.Compare a [op] [b] pos) (tB t) := by
 intro pins s σ H Q I hw
 refine wpAny_isTrue_Compare1 (thn (h pins s σ H _ I hw) fun v s1 h1 => thn h1 fun u s2 h2 => thn h2 fun c s3 W' => ?_) h1
 obtain ⟨x, H1, I1, r1, q1⟩ := W'
 obtain ⟨d, rfl, q⟩ := q1
 cases r1
 exact wpAny_truthy_bool ⟨H1, I1, q⟩
theorem bqT {e : Expr} {t : TE} (h : PE X e t) (he : ∀ whole, isTrue e X.env whole = (do let v ← whole; standAt e.pos; holding [v] (truthy v)) := by intro _; rfl) : PT X e (tB t) := by
 intro pins s σ H Q I hw
 refine isTrue_plain (thn (h pins s σ H _ I hw) fun v s1 W' => ?_) (he _)
 obtain ⟨x, H1, I1, r1, q1⟩ := W'
 obtain ⟨d, rfl, q⟩ := q1
 cases r1
 exact wpAny_truthy_bool ⟨H1, I1, q⟩
variable {tA tB' : TT} {rest : List Expr}
def tAnd (t u : TT) : TT := fun σ H Q => t σ H fun c H1 => if c = true then u σ H1 Q else Q false H1
def tOr (t u : TT) : TT := fun σ H Q => t σ H fun c H1 => if c = true then Q true H1 else u σ H1 Q
def tNot (t : TT) : TT := fun σ H Q => t σ H fun c H1 => Q (!c) H1
theorem gqr (ha : PT X a tA) : PW X (.BoolOp .And [a] pos) tA := by
 intro wh pins s σ H Q I h
 refine isTrue_and (thn (ha pins s σ H Q I h) fun c s1 e => ?_)
 cases c with
 | true => exact isTrue_and_nil e
 | false => exact e
theorem fqz (ha : PT X a tA) : PW X (.BoolOp .Or [a] pos) tA := by
 intro wh pins s σ H Q I h
 refine isTrue_or (thn (ha pins s σ H Q I h) fun c s1 e => ?_)
 cases c with
 | false => exact isTrue_or_nil e
 | true => exact e
theorem hqb (ha : PT X a tA) (hb : PW X (.BoolOp .And (b :: rest) pos) tB') : PW X (.BoolOp .And (a :: b :: rest) pos) (tAnd tA tB') := by
 intro wh pins s σ H Q I h
 refine isTrue_and (thn (ha pins s σ H _ I h) fun c s1 W' => ?_)
 obtain ⟨H1, I1, q1⟩ := W'
 cases c with
 | true => exact hb wh pins s1 σ H1 Q I1 q1
 | false => exact ⟨H1, I1, q1⟩
theorem fq7 (ha : PT X a tA) (hb : PW X (.BoolOp .Or (b :: rest) pos) tB') : PW X (.BoolOp .Or (a :: b :: rest) pos) (tOr tA tB') := by
 intro wh pins s σ H Q I h
 refine isTrue_or (thn (ha pins s σ H _ I h) fun c s1 W' => ?_)
 obtain ⟨H1, I1, q1⟩ := W'
 cases c with
 | true => exact ⟨H1, I1, q1⟩
 | false => exact hb wh pins s1 σ H1 Q I1 q1
theorem dqn (ha : PT X a tA) : PT X (.UnaryOp .Not a pos) (tNot tA) := by
 intro pins s σ H Q I h
 exact isTrue_not (ha pins s σ H (fun c H1 => Q (!c) H1) I h)
def tAndV (ta tb : TE) : TE := fun σ H Q => ta σ H fun x H1 => ∃ c, x = .bl c ∧ if c = true then tb σ H1 Q else Q (.bl false) H1
def tOrV (ta tb : TE) : TE := fun σ H Q => ta σ H fun x H1 => ∃ c, x = .bl c ∧ if c = true then Q (.bl true) H1 else tb σ H1 Q
def tNotV (ta : TE) : TE := fun σ H Q => ta σ H fun x H1 => ∃ c, x = .bl c ∧ Q (.bl (!c)) H1
theorem iqd {op} {t : TE} (h : PE X a t) : PE X (.BoolOp op [a] pos) t := fun pins s σ H Q I hw => BoolOp_one (h pins s σ H Q I hw)
theorem jqs (ha : PE X a ta) (hb : PE X (.BoolOp .And (b :: rest) pos) tb) : PE X (.BoolOp .And (a :: b :: rest) pos) (tAndV ta tb) := by
 intro pins s σ H Q I h
 refine BoolOp_and (thn (ha pins s σ H _ I h) fun v s1 W' => ?_)
 obtain ⟨x, H1, I1, r1, q1⟩ := W'
 obtain ⟨c, rfl, q1⟩ := q1
 cases r1
 refine wpAny_truthy_bool ?_
 cases c with
 | true => exact hb pins s1 σ H1 Q I1 q1
 | false => exact ⟨.bl false, H1, I1, rfl, q1⟩
theorem qqz (ha : PE X a ta) (hb : PE X (.BoolOp .Or (b :: rest) pos) tb) : PE X (.BoolOp .Or (a :: b :: rest) pos) (tOrV ta tb) := by
 intro pins s σ H Q I h
 refine BoolOp_or (thn (ha pins s σ H _ I h) fun v s1 W' => ?_)
 obtain ⟨x, H1, I1, r1, q1⟩ := W'
 obtain ⟨c, rfl, q1⟩ := q1
 cases r1
 refine wpAny_truthy_bool ?_
 cases c with
 | false => exact hb pins s1 σ H1 Q I1 q1
 | true => exact ⟨.bl true, H1, I1, rfl, q1⟩
theorem mqr (ha : PE X a ta) : PE X (.UnaryOp .Not a pos) (tNotV ta) := by
 intro pins s σ H Q I h
 refine UnaryOp_ (thn (ha pins s σ H _ I h) fun v s1 W' => ?_)
 obtain ⟨x, H1, I1, r1, q1⟩ := W'
 obtain ⟨c, rfl, q1⟩ := q1
 cases r1
 exact not_of (wpAny_truthy_bool ⟨.bl (!c), H1, I1, rfl, q1⟩)
def tIf (t : TT) (ta tb : TE) : TE := fun σ H Q => t σ H fun c H1 => if c = true then ta σ H1 Q else tb σ H1 Q
theorem fqV {c : Expr} (hc : PT X c tA) (ha : PE X a ta) (hb : PE X b tb) : PE X (.IfExp c a b pos) (tIf tA ta tb) := by
 intro pins s σ H Q I h
 refine wpAny_IfExp (thn (hc pins s σ H _ I h) fun d s1 W' => ?_)
 obtain ⟨H1, I1, q1⟩ := W'
 cases d with
 | true => exact ha pins s1 σ H1 Q I1 q1
 | false => exact hb pins s1 σ H1 Q I1 q1
end
def SqL (K : PySem.W.Frag) (H : Hp) (a : Addr) (xs : List V) : Prop :=
 Rd H a (.lst xs) ∨
  ∃ (o : Obj) (its : Array Value) (n : Nat), K.lookup a = some o ∧ o.cls = .type "list" ∧ o.dict = none ∧ o.data = .seq its n ∧ its.size ≤ sizeLine ∧ Vals xs its.toList
def SqT (K : PySem.W.Frag) (H : Hp) (a : Addr) (xs : List V) : Prop :=
 Rd H a (.tup xs) ∨
  ∃ (o : Obj) (its : Array Value) (n : Nat), K.lookup a = some o ∧ o.cls = .type "tuple" ∧ o.data = .seq its n ∧ its.size ≤ sizeLine ∧ Vals xs its.toList
def absV : Value → Option V
 | .none => some .non
 | .bool b => some (.bl b)
 | .int i _ => some (.int i)
 | .str x _ => some (.str x)
 | .bytes b _ => some (.byt b)
 | .float b _ => some (.flt b)
 | .ref a => some (.ref a)
 | .type n => some (.ty n)
 | _ => none
theorem RelV.abs {x : V} {u : Value} (r : RelV x u) : absV u = some x := by
 cases x with
 | non => cases r; rfl
 | bl _ => cases r; rfl
 | int _ => obtain ⟨t, rfl⟩ := r; rfl
 | str _ => obtain ⟨t, rfl⟩ := r; rfl
 | byt _ => obtain ⟨t, rfl⟩ := r; rfl
 | flt _ => obtain ⟨t, rfl⟩ := r; rfl
 | ref _ => cases r; rfl
 | ty _ => cases r; rfl
theorem RelV.inj {x y : V} {u : Value} (r : RelV x u) (q : RelV y u) : x = y := Option.some.inj (r.abs.symm.trans q.abs)
theorem Vals.inj : ∀ {xs ys : List V} {us : List Value}, Vals xs us → Vals ys us → xs = ys
 | _, _, _, .nil, .nil => rfl
 | _, _, _, .cons r t, .cons r' t' => by rw [r.inj r', Vals.inj t t']
section
variable {X : Cx} {pins : List (Addr × Obj)} {σ : St} {H : Hp} {s : Shared} {a : Addr} {xs ys : List V}
theorem SqL.of {K : PySem.W.Frag} (h : H a = some (.lst xs)) : SqL K H a xs := .inl (.inl h)
theorem SqT.of {K : PySem.W.Frag} (h : H a = some (.tup xs)) : SqT K H a xs := .inl (.inl h)
theorem Inv.list (I : Inv X pins σ H s) (h : SqL X.K H a xs) : ∃ its : List Value, Vals xs its ∧ PlainL s.heap a its.toArray ∧ xs.length ≤ sizeLine := by
 rcases h with h | ⟨o, its, n, hk, hc, hd, hs, hz, r⟩
 ·obtain ⟨z, its, n, r, e⟩ := h.ok I.hok
  exact ⟨its, r, ⟨_, n, e, rfl, rfl, rfl⟩, z⟩
 ·refine ⟨its.toList, r, ⟨o, n, I.kIn a o hk, hc, hd, by simpa using hs⟩, ?_⟩
  have e := r.length
  simp only [Array.length_toList] at e
  omega
theorem Inv.tuple (I : Inv X pins σ H s) (h : SqT X.K H a xs) : ∃ its : List Value, Vals xs its ∧ IsTup s.heap a its.toArray ∧ xs.length ≤ sizeLine := by
 rcases h with h | ⟨o, its, n, hk, hc, hs, hz, r⟩
 ·obtain ⟨z, its, r, p⟩ := h.ok I.hok
  exact ⟨its, r, p, z⟩
 ·refine ⟨its.toList, r, ⟨o, I.kIn a o hk, hc, n, by simpa using hs⟩, ?_⟩
  have e := r.length
  simp only [Array.length_toList] at e
  omega
theorem Inv.list_inj (I : Inv X pins σ H s) (h : SqL X.K H a xs) (h' : SqL X.K H a ys) : xs = ys := by
 obtain ⟨its, r, ⟨o, n, e, _, _, d⟩, _⟩ := I.list h
 obtain ⟨its', r', ⟨o', n', e', _, _, d'⟩, _⟩ := I.list h'
 rw [e] at e'; cases e'
 rw [d] at d'
 injection d' with d1 _
 have : its = its' := by simpa using congrArg Array.toList d1
 subst this
 exact r.inj r'
end
abbrev Cx.wish (X : Cx) (E : Value → Shared → Prop) : Cx := { X with xe := E }
abbrev Cx.nox (X : Cx) : Cx := X.wish fun _ _ => False
theorem Cx.Ok.wish {X : Cx} (ok : X.Ok) (E : Value → Shared → Prop) : (X.wish E).Ok :=
 ⟨ok.mod, ok.kind, ok.glob, ok.blt, ok.above, ok.inj, ok.has, ok.cab, ok.hd, ok.frames, ok.stk, ok.exf, ok.bs, ok.bsz, ok.noex, ok.exfs, ok.funs, ok.frf⟩
theorem Cx.Ok.unwish {X : Cx} {E : Value → Shared → Prop} (ok : (X.wish E).Ok) : X.Ok :=
 ⟨ok.mod, ok.kind, ok.glob, ok.blt, ok.above, ok.inj, ok.has, ok.cab, ok.hd, ok.frames, ok.stk, ok.exf, ok.bs, ok.bsz, ok.noex, ok.exfs, ok.funs, ok.frf⟩
section
variable {X : Cx} {pins : List (Addr × Obj)} {σ : St} {H : Hp} {s : Shared} {E : Value → Shared → Prop}
theorem Inv.wish (I : Inv X pins σ H s) (E : Value → Shared → Prop) : Inv (X.wish E) pins σ H s := ⟨I.ok.wish E, I.os, I.bare, I.base, I.loc, I.cell, I.free, I.freeC, I.pin, I.hok, I.len⟩
theorem Inv.unwish (I : Inv (X.wish E) pins σ H s) : Inv X pins σ H s := ⟨I.ok.unwish, I.os, I.bare, I.base, I.loc, I.cell, I.free, I.freeC, I.pin, I.hok, I.len⟩
theorem SP.unwish {D : Ends} {f : Flow} {s' : Shared} (h : SP (X.wish E) pins D f s') : SP X pins D f s' := by
 cases f with
 | next => obtain ⟨σ', H', I, q⟩ := h; exact ⟨σ', H', I.unwish, q⟩
 | brk => obtain ⟨σ', H', I, q⟩ := h; exact ⟨σ', H', I.unwish, q⟩
 | cont => obtain ⟨σ', H', I, q⟩ := h; exact ⟨σ', H', I.unwish, q⟩
 | ret u => obtain ⟨v, σ', H', I, r, q⟩ := h; exact ⟨v, σ', H', I.unwish, r, q⟩
theorem PSs.nox {st : List Stmt} {t : TS} (h : PSs X.nox st t) : PSs X st t := fun pins s σ H D I hw =>
 wpAny_mono (h pins s σ H D (I.wish _) hw) (fun _ _ q => q.unwish) fun _ _ z => False.elim z
end
section
variable {X : Cx} {st : Stmt} {rest : List Stmt} {t u : TS} {e : Expr} {te : TE} {pos : Pos}
def tNext : TS := fun D σ H => D.nx σ H
def tSeq (t u : TS) : TS := fun D σ H => t { D with nx := u D } σ H
theorem aqH : PSs X [] tNext := fun _ _ σ H _ I h => wpAny_execs_nil ⟨σ, H, I, h⟩
theorem aqc (h1 : PS X st t) (h2 : PSs X rest u) : PSs X (st :: rest) (tSeq t u) := by
 intro pins s σ H D I h
 refine wpAny_execs_cons (thn (h1 pins s σ H { D with nx := u D } I h) fun f s1 q => ?_)
 cases f with
 | next =>
  obtain ⟨σ', H', I', q⟩ := q
  exact h2 pins s1 σ' H' D I' q
 | ret v => exact q
 | brk => exact q
 | cont => exact q
theorem aqg (h1 : PS X st t) : PSs X [st] t := by
 intro pins s σ H D I h
 refine wpAny_execs_cons (thn (h1 pins s σ H D I h) fun f s1 q => ?_)
 cases f with
 | next => exact wpAny_execs_nil q
 | ret v => exact q
 | brk => exact q
 | cont => exact q
def tBreak : TS := fun D σ H => D.bk σ H
theorem Inv.quiet {pins : List (Addr × Obj)} {σ : St} {H : Hp} {s : Shared} (I : Inv X pins σ H s) : interactive X.env = false := by simp [interactive, I.ok.kind]
def tDrop (te : TE) : TS := fun D σ H => te σ H fun _ H1 => D.nx σ H1
theorem gqE (he : PE X e te) (hs : swapsWith e none pos.line X.env = pure false := by rfl) : PS X (.Expr e pos) (tDrop te) := by
 intro pins s σ H D I h
 exact wpAny_Expr_any (thn (he pins s σ H _ I h) fun v s1 ⟨x, H1, I1, r1, q1⟩ => ⟨σ, H1, I1, q1⟩) I.quiet hs
def tRet (te : TE) : TS := fun D σ H => te σ H D.rt
theorem aqy (he : PE X e te) : PS X (.Return (some e) pos) (tRet te) := by
 intro pins s σ H D I h
 exact wpAny_Return_some (thn (he pins s σ H _ I h) fun v s1 ⟨x, H1, I1, r1, q1⟩ => ⟨x, σ, H1, I1, r1, q1⟩)
def tIfS (c : TT) (t u : TS) : TS := fun D σ H => c σ H fun b H1 => if b = true then t D σ H1 else u D σ H1
theorem cqf {c : Expr} {a b : List Stmt} {tc : TT} (hc : PT X c tc) (ha : PSs X a t) (hb : PSs X b u) : PS X (.If c a b pos) (tIfS tc t u) := by
 intro pins s σ H D I h
 refine wpAny_If (thn (hc pins s σ H _ I h) fun d s1 W' => ?_)
 obtain ⟨H1, I1, q1⟩ := W'
 cases d with
 | true => exact ha pins s1 σ H1 D I1 q1
 | false => exact hb pins s1 σ H1 D I1 q1
def tNever : TS := fun _ _ _ => False
end
abbrev TG := V → St → Hp → (St → Hp → Prop) → Prop
abbrev TGs := List V → St → Hp → (St → Hp → Prop) → Prop
def PG (X : Cx) (target : Expr) (t : TG) : Prop :=
 ∀ (pins : List (Addr × Obj)) (s : Shared) (σ : St) (H : Hp) (v : V) (u : Value) (Q : St → Hp → Prop), Inv X pins σ H s → RelV v u → t v σ H Q →
  wpAny (model X.prog X.w) X.A (assign target X.env u) (fun _ s' => ∃ σ' H', Inv X pins σ' H' s' ∧ Q σ' H') X.xe s
def PGs (X : Cx) (ts : List Expr) (t : TGs) : Prop :=
 ∀ (pins : List (Addr × Obj)) (s : Shared) (σ : St) (H : Hp) (vs : List V) (us : List Value) (Q : St → Hp → Prop), Inv X pins σ H s → Vals vs us → t vs σ H Q →
  wpAny (model X.prog X.w) X.A (assignInOrder ((assignEach ts X.env).map (·.2)) us) (fun _ s' => ∃ σ' H', Inv X pins σ' H' s' ∧ Q σ' H') X.xe s
abbrev TSet := V → V → V → Hp → (Hp → Prop) → Prop
section
variable {X : Cx} {pos : Pos}
def gName (i : Nat) : TG := fun v σ H Q => Q (σ.set i (some v)) H
theorem bqb {i : Nat} {x : Str} (hN : X.N.Nodup) (hi : X.N[i]? = some x) (hx : Loc X.env.scope x) (hf : X.fn x = true ∨ X.env.scope.names.lookup x = some .local := by first | exact .inl rfl | exact .inr rfl | assumption) : PG X (.Name x pos) (gName i) := by
 intro pins s σ H v u Q I r h
 exact wpAny_assign_Name (fq0 I hN hi hx r (fun s' I' => ⟨_, H, I', h⟩) hf)
def gNil : TGs := fun vs σ H Q => vs = [] ∧ Q σ H
def gCons (t : TG) (u : TGs) : TGs := fun vs σ H Q => ∃ v r, vs = v :: r ∧ t v σ H fun σ' H' => u r σ' H' Q
theorem hqK : PGs X [] gNil := by
 intro pins s σ H vs us Q I r h
 obtain ⟨e, h⟩ := h
 subst e
 cases r
 exact assignInOrder_nil ⟨σ, H, I, h⟩
theorem bqg {e : Expr} {es : List Expr} {t : TG} {u : TGs} (h1 : PG X e t) (h2 : PGs X es u)
  (hs : (assignEach (e :: es) X.env).map (·.2) = assign e X.env :: (assignEach es X.env).map (·.2) := by rfl) : PGs X (e :: es) (gCons t u) := by
 intro pins s σ H vs us Q I r h
 obtain ⟨v, vr, e1, h⟩ := h
 subst e1
 cases r with
 | cons r rr =>
  rw [hs]
  refine assignInOrder_cons (thn (h1 pins s σ H _ _ _ I r h) fun _ s1 W' => ?_)
  obtain ⟨σ1, H1, I1, q1⟩ := W'
  exact h2 pins s1 σ1 H1 _ _ Q I1 rr q1
def gTup (K : PySem.W.Frag) (n : Nat) (t : TGs) : TG := fun v σ H Q => ∃ a xs, v = .ref a ∧ SqT K H a xs ∧ xs.length = n ∧ t xs σ H Q
theorem oq0 {es : List Expr} {k : Nat} {t : TGs} {n : Nat} (hc : X.calm = true) (h : PGs X es t)
  (hn : (assignEach es X.env).length = n := by rfl) (hst : (assignEach es X.env).findIdx? (·.1) = none := by rfl) : PG X (.Tuple es k pos) (gTup X.K n t) := by
 intro pins s σ H v u Q I r hw
 obtain ⟨a, xs, e1, hq, hl, hw⟩ := hw
 subst e1
 cases r
 obtain ⟨its, rv, ht, hz⟩ := I.tuple hq
 refine assign_Tuple_tuple (I.ok.hd hc) ht (by simp [hn, ← hl, rv.length]) hst fun h' hx => ?_
 have I1 : Inv X pins σ H { s with heap := h' } := I.kept (t' := s.toks) fun b o e => hx b o (Nat.ne_of_lt (Heap.lt_size e)) e
 exact h pins _ σ H xs _ Q I1 (by simpa using rv) hw
def gSub (to ti : TE) (t : TSet) : TG := fun v σ H Q => to σ H fun o H1 => ti σ H1 fun i H2 => t o i v H2 fun H3 => Q σ H3
def tAsg (te : TE) (g : TG) : TS := fun D σ H => te σ H fun x H1 => g x σ H1 D.nx
theorem iq6 {tg e : Expr} {te : TE} {g : TG} (he : PE X e te) (hg : PG X tg g) (hs : swapsWithSole [tg] e pos.line X.env = pure false := by rfl) (hw : swappedStores [tg] e X.env = pure none := by rfl)
  (h1 : (assignEach [tg] X.env).map (·.2) = [assign tg X.env] := by rfl) : PS X (.Assign [tg] e pos) (tAsg te g) := by
 intro pins s σ H D I h
 refine wpAny_Assign_stores (thn (he pins s σ H _ I h) fun v s1 W' => ?_) hs hw
 obtain ⟨x, H1, I1, r1, q1⟩ := W'
 rw [h1]
 exact thn (hg pins s1 σ H1 x v _ I1 r1 q1) fun _ s2 q => q
theorem aqo {i : Nat} {x : Str} {e : Expr} {te : TE} {pos' : Pos} (hN : X.N.Nodup) (hi : X.N[i]? = some x) (hx : Loc X.env.scope x) (he : PE X e te) (hs : swapsWith e (some (.Name x pos')) pos.line X.env = pure false := by rfl) (hf : X.fn x = true ∨ X.env.scope.names.lookup x = some .local := by first | exact .inl rfl | exact .inr rfl | assumption) :
  PS X (.Assign [.Name x pos'] e pos) (tAsg te (gName i)) := by
 intro pins s σ H D I h
 refine wpAny_Assign_Name (thn (he pins s σ H _ I h) fun v s1 W' => ?_) hs
 obtain ⟨y, H1, I1, r1, q1⟩ := W'
 exact fq0 I1 hN hi hx r1 (fun s2 I2 => ⟨_, H1, I2, q1⟩) hf
end
section
variable {X : Cx} {pos : Pos}
def tWhile (c : TT) (tb : TS) : TS := fun D σ H => ∃ W : Nat → St → Hp → Prop, (∃ m, W m σ H) ∧ ∀ m σ H, W m σ H →
 c σ H fun b H1 => if b = true then ∃ N : St → Hp → Prop, (∀ σ' H', N σ' H' → ∃ m', m' < m ∧ W m' σ' H') ∧ tb { D with nx := N, ct := N, bk := D.nx } σ H1 else D.nx σ H1
theorem fqY {c : Expr} {body : List Stmt} {tc : TT} {tb : TS} (hp : PassesOwn (model X.prog X.w) X.A X.env X.xe) (hc : PT X c tc) (hb : PSs X body tb) : PS X (.While c body [] pos) (tWhile tc tb) := by
 intro pins s σ H D I h
 obtain ⟨W, ⟨m0, w0⟩, turn⟩ := h
 refine wpAny_While (codeAny_whileLoop (fun n s' => ∃ σ' H', Inv X pins σ' H' s' ∧ W n σ' H') ?_ m0 ⟨σ, H, I, w0⟩)
 rintro n s1 ⟨σ1, H1, I1, w1⟩
 refine wpAny_passesOwn hp (thn (hc pins s1 σ1 H1 _ I1 (turn n σ1 H1 w1)) fun b s2 W' => ?_)
 obtain ⟨H2, I2, q2⟩ := W'
 cases b with
 | true =>
  obtain ⟨N, hN, q2⟩ := q2
  rw [if_pos rfl]
  refine wpAny_passesOwn hp (thn (hb pins s2 σ1 H2 _ I2 q2) fun f s3 q3 => ?_)
  cases f with
  | next =>
   obtain ⟨σ3, H3, I3, n3⟩ := q3
   obtain ⟨m', hm, w3⟩ := hN σ3 H3 n3
   exact ⟨m', hm, σ3, H3, I3, w3⟩
  | cont =>
   obtain ⟨σ3, H3, I3, n3⟩ := q3
   obtain ⟨m', hm, w3⟩ := hN σ3 H3 n3
   exact ⟨m', hm, σ3, H3, I3, w3⟩
  | brk => exact q3
  | ret v => exact q3
 | false =>
  rw [if_neg Bool.false_ne_true]
  exact wpAny_execs_nil ⟨σ1, H2, I2, q2⟩
end
structure It where
 go : Nat → Hp → Prop
 yld : Nat → Hp → V → Hp → Prop
 stop : Nat → Hp → Prop
def FpOk (X : Cx) (pins : List (Addr × Obj)) (H : Hp) (b : Addr) : Prop :=
 H b = none ∧ b ≠ X.env.locals ∧ b ∉ X.fs ∧ (b ∈ X.ex ∨ X.s₀.heap.objs.size ≤ b) ∧ (∀ x c, X.env.cells.lookup x = some c → c ≠ b) ∧ ∀ p ∈ X.pn ++ pins, p.1 ≠ b
theorem Inv.fpOk {X : Cx} {pins : List (Addr × Obj)} {σ : St} {H H' : Hp} {s : Shared} {b : Addr} (I : Inv X pins σ H s) (hb : s.heap.objs.size ≤ b) (hn : H' b = none) : FpOk X pins H' b := by
 refine ⟨hn, Nat.ne_of_gt (Nat.lt_of_lt_of_le I.lt hb), I.nofs hb, .inr (Nat.le_trans I.sz hb), fun x c e z => ?_, fun p hp z => ?_⟩
 ·obtain ⟨v, q⟩ := I.cell x c e
  exact absurd (Nat.lt_of_lt_of_le q.lt (by rw [z]; exact hb)) (Nat.lt_irrefl _)
 ·exact absurd (Nat.lt_of_lt_of_le (Heap.lt_size (I.pin p hp).1) (by rw [z]; exact hb)) (Nat.lt_irrefl _)
structure Turn (P : Program) (w : World) (K : PySem.W.Frag) (tg : Expr) (J : It) (fp : List Addr) (it : Addr) (tn : Nat → Heap → Prop) : Prop where
 mem : it ∈ fp
 obj : ∀ i h, tn i h → ∀ b ∈ fp, ∃ o, h.get? b = some o ∧ ∀ v, o.data ≠ .cell v
 keep : ∀ i h h', tn i h → (∀ b ∈ fp, ∀ o, h.get? b = some o → h'.get? b = some o) → tn i h'
 item : ∀ (X : Cx), X.prog = P → X.w = w → X.K = K → X.calm = true → ∀ (i : Nat) (pins : List (Addr × Obj)) (s : Shared) (σ : St) (H : Hp) (E : Value → Shared → Prop), Inv X pins σ H s → (∀ b ∈ fp, FpOk X pins H b) → tn i s.heap → J.go i H →
  wpAny (model P w) X.A (pyNext (.ref it)) (fun r s1 => ∃ u, r = some u ∧
   wpAny (model P w) X.A (letOwnedTupleGo tg (.ref it) u) (fun _ s2 => ∃ x H', Inv X pins σ H' s2 ∧ RelV x u ∧ J.yld i H x H' ∧ tn (i + 1) s2.heap ∧ ∀ b ∈ fp, H' b = none) E s1) E s
 done : ∀ (X : Cx), X.prog = P → X.w = w → X.K = K → X.calm = true → ∀ (i : Nat) (pins : List (Addr × Obj)) (s : Shared) (σ : St) (H : Hp) (E : Value → Shared → Prop), Inv X pins σ H s → (∀ b ∈ fp, FpOk X pins H b) → tn i s.heap → J.stop i H →
  wpAny (model P w) X.A (pyNext (.ref it)) (fun r s1 => r = none ∧ Inv X pins σ H s1) E s
 self : ∀ (A : Around) (i : Nat) (s : Shared) (Q : Value → Shared → Prop) (E : Value → Shared → Prop), tn i s.heap → Q (.ref it) s → wpAny (model P w) A (pyIter (.ref it)) Q E s
abbrev TI := St → Hp → (It → Hp → Prop) → Prop
def PIE (X : Cx) (pins : List (Addr × Obj)) (σ : St) (tg : Expr) (R : It → Hp → Prop) (itv : Value) (s2 : Shared) : Prop :=
 ∃ (it : Addr) (fp : List Addr) (tn : Nat → Heap → Prop) (J : It) (H' : Hp), itv = .ref it ∧ Inv X pins σ H' s2 ∧ Turn X.prog X.w X.K tg J fp it tn ∧ tn 0 s2.heap ∧ (∀ b ∈ fp, FpOk X pins H' b) ∧ R J H'
def PI (X : Cx) (tg iter : Expr) (wi : TI) : Prop :=
 ∀ (pins : List (Addr × Obj)) (s : Shared) (σ : St) (H : Hp) (R : It → Hp → Prop), Inv X pins σ H s → wi σ H R →
  wpAny (model X.prog X.w) X.A (eval iter X.env) (fun v s1 => wpAny (model X.prog X.w) X.A (pyIter v) (PIE X pins σ tg R) X.xe s1) X.xe s
theorem lqf {M : Model} {A : Around} {E : Value → Shared → Prop} {s : Shared} {tg : Expr} {it : Addr} {u : Value} {o : Obj} {n : String} {vs : Array Value} {Q : Unit → Shared → Prop} (ho : s.heap.get? it = some o) (hc : o.cls = .type n) (hd : o.data = .fields vs)
  (hn : ["enumerate", "zip", "dict_itemiterator", "dict_reverseitemiterator", "odict_iterator", "itertools.zip_longest", "itertools.pairwise"].contains n = false) (hQ : Q () s) : wpAny M A (letOwnedTupleGo tg (.ref it) u) Q E s := by
 unfold letOwnedTupleGo
 cases tg <;> first
  | exact wpAny_pure hQ
  | (cases u <;> first
    | exact wpAny_pure hQ
    | (refine wpAny_bind (wpAny_load ho ?_)
       rw [hc, hd]
       show wpAny M A (if (["enumerate", "zip", "dict_itemiterator", "dict_reverseitemiterator", "odict_iterator", "itertools.zip_longest", "itertools.pairwise"].contains n && vs[0]? == some (rawInt _)) = true then _ else _) Q E s
       rw [if_neg (by intro h; rw [hn, Bool.false_and] at h; cases h)]
       exact wpAny_pure hQ))
def Itl (K : PySem.W.Frag) (a : Addr) : It :=
 ⟨fun i H => ∃ xs x, SqL K H a xs ∧ xs[i]? = some x, fun i H x H' => H' = H ∧ ∀ xs, SqL K H a xs → xs[i]? = some x, fun i H => ∃ xs, SqL K H a xs ∧ xs.length ≤ i⟩
def Itt (K : PySem.W.Frag) (a : Addr) : It :=
 ⟨fun i H => ∃ xs x, SqT K H a xs ∧ xs[i]? = some x, fun i H x H' => H' = H ∧ ∀ xs, SqT K H a xs → xs[i]? = some x, fun i H => ∃ xs, SqT K H a xs ∧ xs.length ≤ i⟩
def Itr (lo : Int) (n : Nat) : It := ⟨fun i _ => i < n, fun i H x H' => H' = H ∧ x = .int (lo + i), fun i _ => n ≤ i⟩
theorem kql {P : Program} {w : World} {K : PySem.W.Frag} {tg : Expr} (a it : Addr) : Turn P w K tg (Itl K a) [it] it (fun i h => h.IsListIter it a i) where
 mem := by simp
 obj := fun i h st b hb => by
  have e : b = it := by simpa using hb
  subst e
  obtain ⟨o, e, c, d⟩ := st
  exact ⟨o, e, fun v z => by rw [d] at z; cases z⟩
 keep := fun i h h' st k => st.at fun o e => k it (by simp) o e
 item := by
  intro X hP hw hK hc i pins s σ H E I hf st hg
  subst hP hw hK
  obtain ⟨xs, x, hq, hx⟩ := hg
  obtain ⟨its, rv, p, hz⟩ := I.list hq
  obtain ⟨u, hu, ru⟩ := rv.get hx
  obtain ⟨f0, f1, f2, f3, f4, f5⟩ := hf it (by simp)
  refine wpAny_pyNext_list_item st p.isList (x := u) (by simpa using hu) fun h' st' sb => ?_
  have I1 : Inv X pins σ H { s with heap := h' } := I.turned (t' := s.toks) (fun b o hb e => (sb.2 b hb).trans e) f0 f1 f3 f4 f5
  obtain ⟨o, e, c, d⟩ := id st'
  exact ⟨u, rfl, lqf (s := { s with heap := h' }) e c d (by decide) ⟨x, H, I1, ru, ⟨rfl, fun ys hy => by rw [I.list_inj hy hq]; exact hx⟩, st', fun b hb => (hf b hb).1⟩⟩
 done := by
  intro X hP hw hK hc i pins s σ H E I hf st hg
  subst hP hw hK
  obtain ⟨xs, hq, hx⟩ := hg
  obtain ⟨its, rv, p, hz⟩ := I.list hq
  obtain ⟨f0, f1, f2, f3, f4, f5⟩ := hf it (by simp)
  have hl := rv.length
  exact wpAny_pyNext_list_end (I.ok.hd hc) st p.isList (by simp; omega) fun h' eb => ⟨rfl, I.turned (t' := s.toks) (fun b o hb e => eb b o hb e) f0 f1 f3 f4 f5⟩
 self := fun _ _ _ _ _ st h => wpAny_pyIter_listiter st h
theorem jqU {P : Program} {w : World} {K : PySem.W.Frag} {tg : Expr} (it : Addr) (lo : Int) (n : Nat) : Turn P w K tg (Itr lo n) [it] it (fun i h => IsRangeIter h it (lo + (i : Nat) * 1) ((n : Int) - (i : Nat)) 1) where
 mem := by simp
 obj := fun i h st b hb => by
  have e : b = it := by simpa using hb
  subst e
  exact ⟨_, st, fun v z => by
   have z' : Data.fields _ = Data.cell v := z
   cases z'⟩
 keep := fun i h h' st k => k it (by simp) _ st
 item := by
  intro X hP hw hK hc i pins s σ H E I hf st hg
  subst hP hw hK
  obtain ⟨f0, f1, f2, f3, f4, f5⟩ := hf it (by simp)
  have W := Walks.range (prog := X.prog) (w := X.w) (I.ok.hd hc) it lo 1 n
  refine W.item i s _ _ hg st fun v h' tk hv st' kk => ?_
  obtain ⟨t, rfl⟩ := hv
  have I1 : Inv X pins σ H { s with heap := h', toks := tk } := I.turned (fun b o hb e => kk b o (by simpa using hb) e) f0 f1 f3 f4 f5
  refine ⟨_, rfl, lqf (s := { s with heap := h', toks := tk }) (n := "range_iterator") st' rfl rfl (by decide) ⟨.int (lo + i), H, I1, ⟨t, ?_⟩, ⟨rfl, rfl⟩, st', fun b hb => (hf b hb).1⟩⟩
  rw [Int.mul_one]
 done := by
  intro X hP hw hK hc i pins s σ H E I hf st hg
  subst hP hw hK
  obtain ⟨f0, f1, f2, f3, f4, f5⟩ := hf it (by simp)
  exact wpAny_pyNext_range_end (I.ok.hd hc) st (by have : n ≤ i := hg; omega) fun h' eb => ⟨rfl, I.turned (t' := s.toks) (fun b o hb e => eb b o hb e) f0 f1 f3 f4 f5⟩
 self := fun _ _ _ _ _ st h => wpAny_pyIter_rangeiter st h
section
variable {X : Cx} {tg : Expr}
def iList (K : PySem.W.Frag) (tl : TE) : TI := fun σ H R => tl σ H fun x H1 => ∃ a, x = .ref a ∧ (∃ xs, SqL K H1 a xs) ∧ R (Itl K a) H1
def iTup (K : PySem.W.Frag) (tl : TE) : TI := fun σ H R => tl σ H fun x H1 => ∃ a, x = .ref a ∧ (∃ xs, SqT K H1 a xs) ∧ R (Itt K a) H1
theorem nqN {l : Expr} {tl : TE} (hl : PE X l tl) : PI X tg l (iList X.K tl) := by
 intro pins s σ H R I h
 refine thn (hl pins s σ H _ I h) fun v s1 W' => ?_
 obtain ⟨x, H1, I1, r1, q1⟩ := W'
 obtain ⟨a, e, ⟨xs, hq⟩, q⟩ := q1
 subst e
 cases r1
 obtain ⟨its, rv, p, hz⟩ := I1.list hq
 refine wpAny_pyIter_list p.isList ?_
 refine ⟨s1.heap.objs.size, [s1.heap.objs.size], _, _, H1, rfl, I1.kept (t' := s1.toks) fun b o e => Heap.get?_push_of_some _ e, kql a _, ⟨_, Heap.get?_push_size _ rfl, rfl, rfl⟩, fun b hb => ?_, q⟩
 have e : b = s1.heap.objs.size := by simpa using hb
 subst e
 exact I1.fpOk (Nat.le_refl _) (I1.hok.fresh (Nat.le_refl _))
theorem mqd {pins : List (Addr × Obj)} {σ : St} {H : Hp} {s : Shared} {R : It → Hp → Prop} {E : Value → Shared → Prop} {lo hi : Int} {t u v : Tok} {tk : Nat} (I : Inv X pins σ H s) (h1 : -(2 ^ 62) ≤ lo) (h2 : lo < 2 ^ 62) (h3 : -(2 ^ 62) ≤ hi) (h4 : hi < 2 ^ 62)
  (q : R (Itr lo (hi - lo).toNat) H) : wpAny (model X.prog X.w) X.A (pyIter (.ref s.heap.objs.size)) (PIE X pins σ tg R) E { s with heap := s.heap.push { cls := .type "range", data := .fields #[.int lo t, .int hi u, .int 1 v] }, toks := tk } := by
 refine wpAny_pyIter_range (IsRange.new ..) (small_one h1 h2 h3 h4) ?_
 have I1 : Inv X pins σ H { s with heap := s.heap.push { cls := .type "range", data := .fields #[.int lo t, .int hi u, .int 1 v] }, toks := tk } := I.kept fun b o e => Heap.get?_push_of_some _ e
 refine ⟨(s.heap.push { cls := .type "range", data := .fields #[.int lo t, .int hi u, .int 1 v] }).objs.size, [(s.heap.push { cls := .type "range", data := .fields #[.int lo t, .int hi u, .int 1 v] }).objs.size], _, _, H, rfl,
  I1.kept (t' := tk) fun b o e => Heap.get?_push_of_some _ e, jqU _ lo (hi - lo).toNat, ?_, fun b hb => ?_, q⟩
 ·have e1 : lo + ((0 : Nat) : Int) * 1 = lo := by simp
  have e2 : (((hi - lo).toNat : Nat) : Int) - ((0 : Nat) : Int) = Builtin.Range.rangeSize lo hi 1 := by rw [rangeSize_one]; split <;> omega
  show IsRangeIter _ _ (lo + ((0 : Nat) : Int) * 1) ((((hi - lo).toNat : Nat) : Int) - ((0 : Nat) : Int)) 1
  rw [e1, e2]
  exact Heap.get?_push_size _ rfl
 ·have e : b = (s.heap.push { cls := .type "range", data := .fields #[.int lo t, .int hi u, .int 1 v] }).objs.size := by simpa using hb
  subst e
  exact I1.fpOk (Nat.le_refl _) (I1.hok.fresh (Nat.le_refl _))
def iRng1 (ta : TA) : TI := fun σ H R => ta σ H fun vs H1 => ∃ j : Int, vs = [.int j] ∧ -(2 ^ 62) ≤ j ∧ j < 2 ^ 62 ∧ R (Itr 0 j.toNat) H1
theorem gqp {a : Expr} {ta : TA} {p pos : Pos} (hg : Gl X "range") (hm : X.mg "range" = none) (ha : PA X [a] ta) (hs : starEach [a] X.env = [(false, eval a X.env)] := by rfl) : PI X tg (.Call (.Name "range" p) [a] [] pos) (iRng1 ta) := by
 intro pins s σ H R I h
 refine Call_ (jqk I hg hm boot_range (PyProof.Rows.callWith_type1 (thn (ha pos pins s σ H _ I h) fun us s1 W' => ?_) hs rfl))
 obtain ⟨vs, H1, I1, r1, q1⟩ := W'
 obtain ⟨j, e, q1, q2, q⟩ := q1
 subst e
 cases r1 with
 | cons r rr =>
  cases rr
  obtain ⟨t, rfl⟩ := r
  exact call_range_1 (mqd I1 (by omega) (by omega) q1 q2 (by simpa using q))
def tFor (wi : TI) (g : TG) (tb : TS) : TS := fun D σ H => wi σ H fun J H1 => ∃ W : Nat → Nat → St → Hp → Prop, (∃ m, W 0 m σ H1) ∧ ∀ i m σ H, W i m σ H →
 (J.stop i H ∧ D.nx σ H) ∨ (J.go i H ∧ ∃ N : St → Hp → Prop, (∀ σ' H', N σ' H' → ∃ m', m' < m ∧ W (i + 1) m' σ' H') ∧ ∀ x H', J.yld i H x H' → g x σ H' fun σ2 H2 => tb { D with nx := N, ct := N, bk := D.nx } σ2 H2)
def pinsAt (fp : List Addr) (h : Heap) : List (Addr × Obj) := fp.filterMap fun b => (h.get? b).map fun o => (b, o)
theorem eqA {fp : List Addr} {h : Heap} {b : Addr} {o : Obj} (hb : b ∈ fp) (e : h.get? b = some o) : (b, o) ∈ pinsAt fp h := List.mem_filterMap.mpr ⟨b, hb, by rw [e]; rfl⟩
theorem kqK {fp : List Addr} {h : Heap} {p : Addr × Obj} (hp : p ∈ pinsAt fp h) : p.1 ∈ fp ∧ h.get? p.1 = some p.2 := by
 obtain ⟨b, hb, e⟩ := List.mem_filterMap.mp hp
 cases q : h.get? b with
 | none => rw [q] at e; cases e
 | some o =>
  rw [q] at e
  have e' : (b, o) = p := Option.some.inj e
  subst e'
  exact ⟨hb, q⟩
theorem Inv.pinned {pins : List (Addr × Obj)} {σ : St} {H : Hp} {s : Shared} {fp : List Addr} (I : Inv X pins σ H s) (hf : ∀ b ∈ fp, FpOk X pins H b) (ho : ∀ b ∈ fp, ∃ o, s.heap.get? b = some o ∧ ∀ v, o.data ≠ .cell v) : Inv X (pins ++ pinsAt fp s.heap) σ H s :=
 I.pins_of fun p hp => (List.mem_append.mp hp).elim (fun z => I.pin p (List.mem_append_right _ z)) fun z => by
  obtain ⟨hb, e⟩ := kqK z
  obtain ⟨f0, f1, f2, _⟩ := hf p.1 hb
  obtain ⟨o, e', d⟩ := ho p.1 hb
  rw [e] at e'; cases e'
  exact ⟨e, f0, f1, f2, d⟩
theorem Inv.unpinned {pins pl : List (Addr × Obj)} {σ : St} {H : Hp} {s : Shared} (I : Inv X (pins ++ pl) σ H s) : Inv X pins σ H s := I.pins_of fun p hp => I.pin p (List.mem_append_right _ (List.mem_append_left _ hp))
theorem iq5 {iter : Expr} {body : List Stmt} {wi : TI} {g : TG} {tb : TS} {pos : Pos} (hp : PassesOwn (model X.prog X.w) X.A X.env X.xe) (hc : X.calm = true) (hi : PI X tg iter wi) (hg : PG X tg g) (hb : PSs X body tb)
  (hs : ∀ x, foldedSetIterable iter X.env x = pure x := by intro _; rfl) : PS X (.For tg iter body [] pos) (tFor wi g tb) := by
 intro pins s σ H D I h
 refine wpAny_For (thn (hi pins s σ H _ I h) fun v s1 h1 => thn h1 fun itv s2 h2 => ?_) hs
 obtain ⟨it, fp, tn, J, H2, e, I2, T, st2, f2, W, ⟨m0, w0⟩, turn⟩ := h2
 subst e
 have stat : ∀ {H' : Hp}, (∀ b ∈ fp, H' b = none) → ∀ b ∈ fp, FpOk X pins H' b := fun hn b hb => ⟨hn b hb, (f2 b hb).2⟩
 refine codeAny_forLoop_any (fun n s' => ∃ i σ' H', Inv X pins σ' H' s' ∧ tn i s'.heap ∧ (∀ b ∈ fp, H' b = none) ∧ W i n σ' H') ?_ m0 ⟨0, σ, H2, I2, st2, fun b hb => (f2 b hb).1, w0⟩
 rintro n s3 ⟨i, σ3, H3, I3, st3, fr3, w3⟩
 rcases turn i n σ3 H3 w3 with ⟨stop, qn⟩ | ⟨go, N, hN, step⟩
 ·refine wpAny_passesOwn hp (thn (T.done X rfl rfl rfl hc i pins s3 σ3 H3 X.xe I3 (stat fr3) st3 stop) fun r s4 W' => ?_)
  obtain ⟨hr, I4⟩ := W'
  subst hr
  exact wpAny_execs_nil ⟨σ3, H3, I4, qn⟩
 ·refine wpAny_passesOwn hp (thn (T.item X rfl rfl rfl hc i pins s3 σ3 H3 X.xe I3 (stat fr3) st3 go) fun r s4 W' => ?_)
  obtain ⟨u, hr, h4⟩ := W'
  subst hr
  refine wpAny_passesOwn hp (thn h4 fun _ s5 W' => ?_)
  obtain ⟨x, H5, I5, r5, y5, st5, fr5⟩ := W'
  have I5' := I5.pinned (stat fr5) (T.obj _ _ st5)
  refine wpAny_passesOwn hp (thn (hg _ s5 σ3 H5 x u _ I5' r5 (step x H5 y5)) fun _ s6 W' => ?_)
  obtain ⟨σ6, H6, I6, q6⟩ := W'
  refine wpAny_passesOwn hp (thn (hb _ s6 σ6 H6 _ I6 q6) fun f s7 q7 => ?_)
  have again : ∀ {σ7 : St} {H7 : Hp}, Inv X (pins ++ pinsAt fp s5.heap) σ7 H7 s7 → N σ7 H7 → ∃ m, m < n ∧ ∃ i σ' H', Inv X pins σ' H' s7 ∧ tn i s7.heap ∧ (∀ b ∈ fp, H' b = none) ∧ W i m σ' H' := fun {σ7 H7} I7 n7 => by
   obtain ⟨m', hm, w7⟩ := hN σ7 H7 n7
   refine ⟨m', hm, i + 1, σ7, H7, I7.unpinned, T.keep _ _ _ st5 fun b hb o e => (I7.pin (b, o) (List.mem_append_right _ (List.mem_append_right _ (eqA hb e)))).1, fun b hb => ?_, w7⟩
   obtain ⟨o, e, d⟩ := T.obj _ _ st5 b hb
   exact (I7.pin (b, o) (List.mem_append_right _ (List.mem_append_right _ (eqA hb e)))).2.1
  cases f with
  | next => obtain ⟨σ7, H7, I7, n7⟩ := q7; exact again I7 n7
  | cont => obtain ⟨σ7, H7, I7, n7⟩ := q7; exact again I7 n7
  | brk => obtain ⟨σ7, H7, I7, q7⟩ := q7; exact ⟨σ7, H7, I7.unpinned, q7⟩
  | ret v => obtain ⟨x7, σ7, H7, I7, r7, q7⟩ := q7; exact ⟨x7, σ7, H7, I7.unpinned, r7, q7⟩
end
theorem lqi {K : PySem.W.Frag} {a : Addr} {xs : List V} {g : TG} {tb : TS} {D : Ends} {σ : St} {H : Hp} (Pv : Nat → St → Hp → Prop) (h0 : Pv 0 σ H) (hl : ∀ i σ H, i ≤ xs.length → Pv i σ H → SqL K H a xs)
  (hs : ∀ i x σ H, xs[i]? = some x → Pv i σ H → g x σ H fun σ2 H2 => tb { D with nx := Pv (i + 1), ct := Pv (i + 1), bk := D.nx } σ2 H2) (hd : ∀ σ H, Pv xs.length σ H → D.nx σ H) :
  ∃ W : Nat → Nat → St → Hp → Prop, (∃ m, W 0 m σ H) ∧ ∀ i m σ H, W i m σ H →
   ((Itl K a).stop i H ∧ D.nx σ H) ∨ ((Itl K a).go i H ∧ ∃ N : St → Hp → Prop, (∀ σ' H', N σ' H' → ∃ m', m' < m ∧ W (i + 1) m' σ' H') ∧ ∀ x H', (Itl K a).yld i H x H' → g x σ H' fun σ2 H2 => tb { D with nx := N, ct := N, bk := D.nx } σ2 H2) := by
 refine ⟨fun i m σ H => m = xs.length - i ∧ i ≤ xs.length ∧ Pv i σ H, ⟨xs.length, by simp, Nat.zero_le _, h0⟩, ?_⟩
 rintro i m σ H ⟨rfl, hi, p⟩
 have q := hl i σ H hi p
 by_cases hlt : i < xs.length
 ·refine .inr ⟨⟨xs, xs[i], q, by simp [hlt]⟩, Pv (i + 1), fun σ' H' p' => ⟨xs.length - (i + 1), by omega, rfl, hlt, p'⟩, fun x H' y => ?_⟩
  obtain ⟨e, y⟩ := y
  subst e
  exact hs i x σ _ (y xs q) p
 ·have e : i = xs.length := by omega
  subst e
  exact .inl ⟨⟨xs, q, Nat.le_refl _⟩, hd σ H p⟩
theorem lqc {lo : Int} {n : Nat} {g : TG} {tb : TS} {D : Ends} {σ : St} {H : Hp} (Pv : Nat → St → Hp → Prop) (h0 : Pv 0 σ H)
  (hs : ∀ i σ H, i < n → Pv i σ H → g (.int (lo + i)) σ H fun σ2 H2 => tb { D with nx := Pv (i + 1), ct := Pv (i + 1), bk := D.nx } σ2 H2) (hd : ∀ σ H, Pv n σ H → D.nx σ H) :
  ∃ W : Nat → Nat → St → Hp → Prop, (∃ m, W 0 m σ H) ∧ ∀ i m σ H, W i m σ H →
   ((Itr lo n).stop i H ∧ D.nx σ H) ∨ ((Itr lo n).go i H ∧ ∃ N : St → Hp → Prop, (∀ σ' H', N σ' H' → ∃ m', m' < m ∧ W (i + 1) m' σ' H') ∧ ∀ x H', (Itr lo n).yld i H x H' → g x σ H' fun σ2 H2 => tb { D with nx := N, ct := N, bk := D.nx } σ2 H2) := by
 refine ⟨fun i m σ H => m = n - i ∧ i ≤ n ∧ Pv i σ H, ⟨n, by simp, Nat.zero_le _, h0⟩, ?_⟩
 rintro i m σ H ⟨rfl, hi, p⟩
 by_cases hlt : i < n
 ·refine .inr ⟨hlt, Pv (i + 1), fun σ' H' p' => ⟨n - (i + 1), by omega, rfl, hlt, p'⟩, fun x H' y => ?_⟩
  obtain ⟨e, y⟩ := y
  subst e y
  exact hs i σ _ hlt p
 ·have e : i = n := by omega
  subst e
  exact .inl ⟨Nat.le_refl _, hd σ H p⟩
abbrev R2 := V → V → Hp → VK → Prop
def OpR (X : Cx) (f : Value → Value → Sem Value) (r : R2) : Prop :=
 ∀ (pins : List (Addr × Obj)) (s : Shared) (σ : St) (H : Hp) (x y : V) (v u : Value) (Q : VK), Inv X pins σ H s → RelV x v → RelV y u → r x y H Q →
  wpAny (model X.prog X.w) X.A (f v u) (EP X pins σ Q) X.xe s
def UnR (X : Cx) (f : Value → Sem Value) (r : V → Hp → VK → Prop) : Prop :=
 ∀ (pins : List (Addr × Obj)) (s : Shared) (σ : St) (H : Hp) (x : V) (v : Value) (Q : VK), Inv X pins σ H s → RelV x v → r x H Q →
  wpAny (model X.prog X.w) X.A (f v) (EP X pins σ Q) X.xe s
def CallR (X : Cx) (f : Value) (r : List V → Hp → VK → Prop) : Prop :=
 ∀ (pins : List (Addr × Obj)) (s : Shared) (σ : St) (H : Hp) (xs : List V) (us : List Value) (Q : VK), Inv X pins σ H s → Vals xs us → r xs H Q →
  wpAny (model X.prog X.w) X.A (call f us) (EP X pins σ Q) X.xe s
def tOp (r : R2) (ta tb : TE) : TE := fun σ H Q => ta σ H fun x H1 => tb σ H1 fun y H2 => r x y H2 Q
def tUn (r : V → Hp → VK → Prop) (ta : TE) : TE := fun σ H Q => ta σ H fun x H1 => r x H1 Q
def rI (C : Int → Int → Prop) (g : Int → Int → V) : R2 := fun x y H Q => ∃ i j, x = .int i ∧ y = .int j ∧ C i j ∧ Q (g i j) H
def rI0 (g : Int → Int → V) : R2 := fun x y H Q => ∃ i j, x = .int i ∧ y = .int j ∧ Q (g i j) H
def rU (g : Int → V) : V → Hp → VK → Prop := fun x H Q => ∃ i, x = .int i ∧ Q (g i) H
section
variable {X : Cx} {a b c : Expr} {ta tb tc : TE} {pos : Pos}
theorem binT (ha : PE X a ta) (hb : PE X b tb) {pins : List (Addr × Obj)} {s : Shared} {σ : St} {H : Hp} {R : V → V → Hp → Prop} (I : Inv X pins σ H s)
  (h : ta σ H fun x H1 => tb σ H1 fun y H2 => R x y H2) {Q : Value → Shared → Prop} {f : Value → Value → Sem Value}
  (hf : ∀ v u s2 x y H2, Inv X pins σ H2 s2 → RelV x v → RelV y u → R x y H2 → wpAny (model X.prog X.w) X.A (f v u) Q X.xe s2) :
  wpAny (model X.prog X.w) X.A (eval a X.env) (fun v s₁ => wpAny (model X.prog X.w) X.A (eval b X.env) (fun u s₂ => wpAny (model X.prog X.w) X.A (f v u) Q X.xe s₂) X.xe s₁) X.xe s := by
 refine thn (ha pins s σ H _ I h) fun v s1 W' => ?_
 obtain ⟨x, H1, I1, r1, q1⟩ := W'
 refine thn (hb pins s1 σ H1 _ I1 q1) fun u s2 W' => ?_
 obtain ⟨y, H2, I2, r2, q2⟩ := W'
 exact hf v u s2 x y H2 I2 r1 r2 q2
theorem aqu {op : Operator} {r : R2} (ho : OpR X (binaryOp op) r) (ha : PE X a ta) (hb : PE X b tb) : PE X (.BinOp a op b pos) (tOp r ta tb) := by
 intro pins s σ H Q I h
 exact wpAny_BinOp (binT ha hb I h fun v u s2 x y H2 I2 rx ry q => ho pins s2 σ H2 x y v u Q I2 rx ry q)
theorem qqv {op : UnaryOp} {r : V → Hp → VK → Prop} (ho : UnR X (unaryOp op) r) (ha : PE X a ta) : PE X (.UnaryOp op a pos) (tUn r ta) := by
 intro pins s σ H Q I h
 exact UnaryOp_ (thn (ha pins s σ H _ I h) fun v s1 ⟨x, H1, I1, r1, q1⟩ => ho pins s1 σ H1 x v Q I1 r1 q1)
theorem opI {f : Value → Value → Sem Value} {C : Int → Int → Prop} {g : Int → Int → Int}
  (rule : ∀ (i j : Int) (t u : Tok) (s : Shared) (Q : Value → Shared → Prop) (E : Value → Shared → Prop), C i j → Q (.int (g i j) s.toks) { s with toks := s.toks + 1 } → wpAny (model X.prog X.w) X.A (f (.int i t) (.int j u)) Q E s) :
  OpR X f (rI C fun i j => .int (g i j)) := by
 intro pins s σ H x y v u Q I rx ry h
 obtain ⟨i, j, rfl, rfl, hc, q⟩ := h
 obtain ⟨t, rfl⟩ := rx
 obtain ⟨t', rfl⟩ := ry
 exact rule i j t t' s _ _ hc ⟨.int (g i j), H, I.tok _, ⟨_, rfl⟩, q⟩
theorem opI0 {f : Value → Value → Sem Value} {g : Int → Int → Int}
  (rule : ∀ (i j : Int) (t u : Tok) (s : Shared) (Q : Value → Shared → Prop) (E : Value → Shared → Prop), Q (.int (g i j) s.toks) { s with toks := s.toks + 1 } → wpAny (model X.prog X.w) X.A (f (.int i t) (.int j u)) Q E s) :
  OpR X f (rI0 fun i j => .int (g i j)) := by
 intro pins s σ H x y v u Q I rx ry h
 obtain ⟨i, j, rfl, rfl, q⟩ := h
 obtain ⟨t, rfl⟩ := rx
 obtain ⟨t', rfl⟩ := ry
 exact rule i j t t' s _ _ ⟨.int (g i j), H, I.tok _, ⟨_, rfl⟩, q⟩
theorem opB0 {f : Value → Value → Sem Value} {g : Int → Int → Bool}
  (rule : ∀ (i j : Int) (t u : Tok) (s : Shared) (Q : Value → Shared → Prop) (E : Value → Shared → Prop), Q (.bool (g i j)) s → wpAny (model X.prog X.w) X.A (f (.int i t) (.int j u)) Q E s) :
  OpR X f (rI0 fun i j => .bl (g i j)) := by
 intro pins s σ H x y v u Q I rx ry h
 obtain ⟨i, j, rfl, rfl, q⟩ := h
 obtain ⟨t, rfl⟩ := rx
 obtain ⟨t', rfl⟩ := ry
 exact rule i j t t' s _ _ ⟨.bl (g i j), H, I, rfl, q⟩
def CDiv (i j : Int) : Prop := 0 < j ∧ j < 1073741824
def CPow (i j : Int) : Prop := 0 ≤ j ∧ j ≤ 1000000 ∧ i.natAbs < 2 ^ 64
def CMul (i j : Int) : Prop := (-(2 ^ 64) < i ∧ i < 2 ^ 64) ∨ (-(2 ^ 64) < j ∧ j < 2 ^ 64)
theorem CMul.ok {i j : Int} (h : CMul i j) : IntMulOk i j := by
 rcases h with ⟨h1, h2⟩ | ⟨h1, h2⟩
 ·exact .of_left (intBits_le_64 h1 h2)
 ·exact .of_right (intBits_le_64 h1 h2)
theorem oq9 : OpR X (binaryOp .Add) (rI0 fun i j => .int (i + j)) := opI0 fun _ _ _ _ _ _ _ q => add_int q
theorem mqq : OpR X (binaryOp .Sub) (rI0 fun i j => .int (i - j)) := opI0 fun _ _ _ _ _ _ _ q => sub_int q
theorem pq0 : OpR X (binaryOp .Mult) (rI CMul fun i j => .int (i * j)) := opI fun _ _ _ _ _ _ _ hc q => mul_int q hc.ok
theorem dqz : OpR X (binaryOp .FloorDiv) (rI CDiv fun i j => .int (i / j)) := opI fun i j _ _ _ _ _ hc q => by
 have h1 : (0 : Int) < j := hc.1
 have h2 : j < 1073741824 := hc.2
 exact floordiv_int (by omega) (by rw [Int.fdiv_eq_ediv_of_nonneg i (by omega)]; exact q) (.inl (PyProof.noPylong_small (by omega)))
theorem cqW : OpR X (binaryOp .Mod) (rI (fun _ j => 0 < j) fun i j => .int (i % j)) := opI fun i j _ _ _ _ _ hc q => by
 have h1 : (0 : Int) < j := hc
 exact mod_int' (by omega) (by rw [Int.fmod_eq_emod_of_nonneg i (by omega)]; exact q)
theorem pqD : OpR X (binaryOp .Pow) (rI CPow fun i j => .int (i ^ j.toNat)) := opI fun _ _ _ _ _ _ _ hc q => pow_int_small hc.1 hc.2.1 hc.2.2 q
theorem unI {f : Value → Sem Value} {g : Int → Int}
  (rule : ∀ (i : Int) (t : Tok) (s : Shared) (Q : Value → Shared → Prop) (E : Value → Shared → Prop), Q (.int (g i) s.toks) { s with toks := s.toks + 1 } → wpAny (model X.prog X.w) X.A (f (.int i t)) Q E s) :
  UnR X f (rU fun i => .int (g i)) := by
 intro pins s σ H x v Q I rx h
 obtain ⟨i, rfl, q⟩ := h
 obtain ⟨t, rfl⟩ := rx
 exact rule i t s _ _ ⟨.int (g i), H, I.tok _, ⟨_, rfl⟩, q⟩
theorem oq4 : UnR X (unaryOp .USub) (rU fun i => .int (-i)) := unI fun _ _ _ _ _ q => neg_int q
end
def scal : V → V → Bool
 | .non, .non => true | .non, .int _ => true | .int _, .non => true | .non, .bl _ => true | .bl _, .non => true | .non, .str _ => true | .str _, .non => true
 | .int _, .int _ => true | .bl _, .bl _ => true | .str _, .str _ => true | .byt _, .byt _ => true
 | .int _, .str _ => true | .str _, .int _ => true | .bl _, .str _ => true | .str _, .bl _ => true
 | _, _ => false
def rEq : R2 := fun x y H Q => scal x y = true ∧ Q (.bl (decide (x = y))) H
def rNe : R2 := fun x y H Q => scal x y = true ∧ Q (.bl (!decide (x = y))) H
theorem kqU {i j : Int} : decide (V.int i = V.int j) = (i == j) := by
 rw [Bool.eq_iff_iff]
 simp
theorem mqL {i j : Bool} : decide (V.bl i = V.bl j) = (i == j) := by
 rw [Bool.eq_iff_iff]
 simp
theorem kqM {i j : Str} : decide (V.str i = V.str j) = (i == j) := by
 rw [Bool.eq_iff_iff]
 simp
theorem kqr {i j : Array UInt8} : decide (V.byt i = V.byt j) = (i.toList == j.toList) := by
 rw [Bool.eq_iff_iff]
 cases i
 cases j
 simp
section
variable {X : Cx} {a b c : Expr} {ta tb tc : TE} {pos : Pos}
theorem aqM {pins : List (Addr × Obj)} {σ : St} {H : Hp} {s : Shared} {Q : VK} {k k' : Bool} (I : Inv X pins σ H s) (q : Q (.bl k) H) (e : k = k') : EP X pins σ Q (.bool k') s := by
 subst e
 exact ⟨.bl k, H, I, rfl, q⟩
theorem gqZ : OpR X (compareOp .Eq) rEq := by
 intro pins s σ H x y v u Q I rx ry h
 obtain ⟨hs, q⟩ := h
 cases x with
 | non =>
  cases rx
  cases y with
  | non => cases ry; exact PySem.EqNone.eq_none_none (aqM I q (by simp))
  | bl j => cases ry; exact PySem.EqNone.eq_none_bool (aqM I q (by simp))
  | int j => obtain ⟨t', rfl⟩ := ry; exact PySem.EqNone.eq_none_int (aqM I q (by simp))
  | str j => obtain ⟨t', rfl⟩ := ry; exact PySem.EqNone.eq_none_str (aqM I q (by simp))
  | _ => exact absurd (show false = true from hs) Bool.false_ne_true
 | bl i =>
  cases rx
  cases y with
  | non => cases ry; exact PySem.EqNone.eq_bool_none (aqM I q (by simp))
  | bl j => cases ry; exact eq_bool (aqM I q mqL)
  | str j => obtain ⟨t', rfl⟩ := ry; exact PySem.EqMixed.eq_bool_str (aqM I q (by simp))
  | _ => exact absurd (show false = true from hs) Bool.false_ne_true
 | int i =>
  obtain ⟨t, rfl⟩ := rx
  cases y with
  | non => cases ry; exact PySem.EqNone.eq_int_none (aqM I q (by simp))
  | int j => obtain ⟨t', rfl⟩ := ry; exact eq_int (aqM I q kqU)
  | str j => obtain ⟨t', rfl⟩ := ry; exact PySem.EqMixed.eq_int_str (aqM I q (by simp))
  | _ => exact absurd (show false = true from hs) Bool.false_ne_true
 | str i =>
  obtain ⟨t, rfl⟩ := rx
  cases y with
  | non => cases ry; exact PySem.EqNone.eq_str_none (aqM I q (by simp))
  | bl j => cases ry; exact PySem.EqMixed.eq_str_bool (aqM I q (by simp))
  | int j => obtain ⟨t', rfl⟩ := ry; exact PySem.EqMixed.eq_str_int (aqM I q (by simp))
  | str j => obtain ⟨t', rfl⟩ := ry; exact eq_str (aqM I q kqM)
  | _ => exact absurd (show false = true from hs) Bool.false_ne_true
 | byt i =>
  obtain ⟨t, rfl⟩ := rx
  cases y with
  | byt j => obtain ⟨t', rfl⟩ := ry; exact PySem.W.eq_bytes (aqM I q kqr)
  | _ => exact absurd (show false = true from hs) Bool.false_ne_true
 | _ => cases y <;> exact absurd (show false = true from hs) Bool.false_ne_true
theorem nqE : OpR X (compareOp .NotEq) rNe := by
 intro pins s σ H x y v u Q I rx ry h
 obtain ⟨hs, q⟩ := h
 cases x with
 | non =>
  cases rx
  cases y with
  | non => cases ry; exact PySem.EqNone.ne_none_none (aqM I q (by simp))
  | bl j => cases ry; exact PySem.EqNone.ne_none_bool (aqM I q (by simp))
  | int j => obtain ⟨t', rfl⟩ := ry; exact PySem.EqNone.ne_none_int (aqM I q (by simp))
  | str j => obtain ⟨t', rfl⟩ := ry; exact PySem.EqNone.ne_none_str (aqM I q (by simp))
  | _ => exact absurd (show false = true from hs) Bool.false_ne_true
 | bl i =>
  cases rx
  cases y with
  | non => cases ry; exact PySem.EqNone.ne_bool_none (aqM I q (by simp))
  | bl j => cases ry; exact ne_bool (aqM I q (congrArg not mqL))
  | str j => obtain ⟨t', rfl⟩ := ry; exact PySem.EqMixed.ne_bool_str (aqM I q (by simp))
  | _ => exact absurd (show false = true from hs) Bool.false_ne_true
 | int i =>
  obtain ⟨t, rfl⟩ := rx
  cases y with
  | non => cases ry; exact PySem.EqNone.ne_int_none (aqM I q (by simp))
  | int j => obtain ⟨t', rfl⟩ := ry; exact ne_int (aqM I q (congrArg not kqU))
  | str j => obtain ⟨t', rfl⟩ := ry; exact PySem.EqMixed.ne_int_str (aqM I q (by simp))
  | _ => exact absurd (show false = true from hs) Bool.false_ne_true
 | str i =>
  obtain ⟨t, rfl⟩ := rx
  cases y with
  | non => cases ry; exact PySem.EqNone.ne_str_none (aqM I q (by simp))
  | bl j => cases ry; exact PySem.EqMixed.ne_str_bool (aqM I q (by simp))
  | int j => obtain ⟨t', rfl⟩ := ry; exact PySem.EqMixed.ne_str_int (aqM I q (by simp))
  | str j => obtain ⟨t', rfl⟩ := ry; exact ne_str (aqM I q (congrArg not kqM))
  | _ => exact absurd (show false = true from hs) Bool.false_ne_true
 | byt i =>
  obtain ⟨t, rfl⟩ := rx
  cases y with
  | byt j => obtain ⟨t', rfl⟩ := ry; exact PySem.W.ne_bytes (aqM I q (congrArg not kqr))
  | _ => exact absurd (show false = true from hs) Bool.false_ne_true
 | _ => cases y <;> exact absurd (show false = true from hs) Bool.false_ne_true
theorem oqH : OpR X (compareOp .Lt) (rI0 fun i j => .bl (decide (i < j))) := opB0 fun _ _ _ _ _ _ _ q => lt_int q
theorem qqj : OpR X (compareOp .LtE) (rI0 fun i j => .bl (decide (i ≤ j))) := opB0 fun _ _ _ _ _ _ _ q => le_int q
theorem iqP : OpR X (compareOp .Gt) (rI0 fun i j => .bl (decide (j < i))) := opB0 fun _ _ _ _ _ _ _ q => gt_int q
theorem qqc : OpR X (compareOp .GtE) (rI0 fun i j => .bl (decide (j ≤ i))) := opB0 fun _ _ _ _ _ _ _ q => ge_int q
theorem kqP : OpR X (compareOp .In) (fun x y H Q => ∃ i j, x = .str i ∧ y = .str j ∧ Q (.bl (!(Builtin.Str.occurrences j i 0 j.length 1).isEmpty)) H) := by
 intro pins s σ H x y v u Q I rx ry h
 obtain ⟨i, j, rfl, rfl, q⟩ := h
 obtain ⟨t, rfl⟩ := rx
 obtain ⟨t', rfl⟩ := ry
 exact in_str (aqM I q rfl)
theorem pqA : OpR X (compareOp .Is) (fun x y H Q => y = .non ∧ Q (.bl (decide (x = .non))) H) := by
 intro pins s σ H x y v u Q I rx ry h
 obtain ⟨rfl, q⟩ := h
 cases ry
 refine is_none_gen (aqM I q ?_)
 cases x <;> first
  | (cases rx; rfl)
  | (obtain ⟨t, rfl⟩ := rx; rfl)
theorem oqb : OpR X (compareOp .IsNot) (fun x y H Q => y = .non ∧ Q (.bl (!decide (x = .non))) H) := by
 intro pins s σ H x y v u Q I rx ry h
 obtain ⟨rfl, q⟩ := h
 cases ry
 refine isnot_none_gen (aqM I q ?_)
 cases x <;> first
  | (cases rx; rfl)
  | (obtain ⟨t, rfl⟩ := rx; rfl)
theorem hqV : OpR X (compareOp .NotIn) (fun x y H Q => ∃ i j, x = .str i ∧ y = .str j ∧ Q (.bl (!(!(Builtin.Str.occurrences j i 0 j.length 1).isEmpty))) H) := by
 intro pins s σ H x y v u Q I rx ry h
 obtain ⟨i, j, rfl, rfl, q⟩ := h
 obtain ⟨t, rfl⟩ := rx
 obtain ⟨t', rfl⟩ := ry
 exact notIn_str (aqM I q rfl)
theorem nomark (b : Expr) {op : CmpOp} (h : op ≠ .In := by decide) (h2 : op ≠ .NotIn := by decide) : behindInMarks op b = false := by
 have e1 : (op == CmpOp.In) = false := by cases op <;> first | rfl | exact absurd rfl h
 have e2 : (op == CmpOp.NotIn) = false := by cases op <;> first | rfl | exact absurd rfl h2
 cases b <;> simp [behindInMarks, e1, e2]
theorem gqB {op : CmpOp} {r : R2} (ho : OpR X (compareOp op) r) (ha : PE X a ta) (hb : PE X b tb) (hm : behindInMarks op b = false) : PE X (.Compare a [op] [b] pos) (tOp r ta tb) := by
 intro pins s σ H Q I h
 exact wpAny_Compare1 (binT ha hb I h fun v u s2 x y H2 I2 rx ry q => ho pins s2 σ H2 x y v u Q I2 rx ry q) hm
def tTest (t : TE) : TT := fun σ H Q => t σ H fun x H' => ∃ k, x = .bl k ∧ Q k H'
theorem aqA {op : CmpOp} {r : R2} (ho : OpR X (compareOp op) r) (ha : PE X a ta) (hb : PE X b tb) (hm : behindInMarks op b = false) : PT X (.Compare a [op] [b] pos) (tTest (tOp r ta tb)) := by
 intro pins s σ H Q I h
 refine wpAny_isTrue_Compare1 (thn (ha pins s σ H _ I h) fun v s1 ⟨x, H1, I1, r1, q1⟩ => thn (hb pins s1 σ H1 _ I1 q1) fun u s2 ⟨y, H2, I2, r2, q2⟩ =>
  thn (ho pins s2 σ H2 x y v u _ I2 r1 r2 q2) fun c s3 ⟨z, H3, I3, r3, k, e, q3⟩ => ?_) hm
 subst e
 cases r3
 exact wpAny_truthy_bool ⟨H3, I3, q3⟩
def tChain (r r' : R2) (ta tb tc : TE) : TE := fun σ H Q => ta σ H fun x H1 => tb σ H1 fun y H2 => r x y H2 fun z H3 => ∃ k, z = .bl k ∧
 (if k = true then tc σ H3 fun w' H4 => r' y w' H4 Q else Q (.bl false) H3)
theorem line63 : (sizeLine : Nat) < 2 ^ 63 := by rw [sizeLine_eq]; decide
theorem jqN : OpR X (binaryOp .Add) (fun x y H Q => ∃ i j, x = .str i ∧ y = .str j ∧ i.length + j.length ≤ sizeLine ∧ Q (.str (i ++ j)) H) := by
 intro pins s σ H x y v u Q I rx ry h
 obtain ⟨i, j, rfl, rfl, hz, q⟩ := h
 obtain ⟨t, rfl⟩ := rx
 obtain ⟨t', rfl⟩ := ry
 exact add_str (fun t' tk => ⟨.str (i ++ j), H, I.tok _, ⟨_, rfl⟩, q⟩) hz
theorem vals1 {x : V} {us : List Value} (r : Vals [x] us) : ∃ u, us = [u] ∧ RelV x u := by
 cases r with
 | cons r1 r2 => cases r2; exact ⟨_, rfl, r1⟩
theorem vals2 {x y : V} {us : List Value} (r : Vals [x, y] us) : ∃ u w', us = [u, w'] ∧ RelV x u ∧ RelV y w' := by
 cases r with
 | cons r1 r2 =>
  cases r2 with
  | cons r3 r4 => cases r4; exact ⟨_, _, rfl, r1, r3⟩
theorem iqh : CallR X (.type "str") (fun xs H Q => ∃ i, xs = [.int i] ∧ i.natAbs.log2 < 1920 ∧ Q (.str (toString i)) H) := by
 intro pins s σ H xs us Q I r h
 obtain ⟨i, rfl, hz, q⟩ := h
 obtain ⟨u, rfl, t, rfl⟩ := vals1 r
 exact PySem.P.str_of_int hz ⟨.str _, H, I.tok _, ⟨_, rfl⟩, q⟩
end
structure ObjM (h : Heap) (x dx C : Addr) (mA : Str → Option Value) : Prop where
 obj : h.get? x = some (PySem.W.instObj C dx)
 ns : h.Ns1 dx mA
 ne : dx ≠ x
theorem hqY {h : Heap} {dx : Addr} {mA : Str → Option Value} (n : h.Ns1 dx mA) : ∃ od, h.get? dx = some od ∧ ∀ name, PySem.W.lookIn name od = some (mA name) := by
 obtain ⟨o, es, ep, ho, hd, hk, _, hm⟩ := n
 refine ⟨o, ho, fun name => ?_⟩
 have e := hm name
 unfold nsFind findBy at e
 rw [← Array.find?_toList] at e
 unfold PySem.W.lookIn
 rw [hd]
 dsimp only
 split
 ·rename_i y q
  rw [q] at e
  exact congrArg some e
 ·rename_i q
  rw [q] at e
  have a : es.toList.any (·.refKey) = false := by
   rw [List.any_eq_false]
   intro y hy
   obtain ⟨z, t, hkey⟩ := hk y (Array.mem_toList_iff.mp hy)
   simp [DictEntry.refKey, hkey]
  have a' : ¬ es.toList.any (·.refKey) = true := by rw [a]; exact Bool.false_ne_true
  rw [if_neg a']
  exact congrArg some e
theorem ObjM.look {h : Heap} {x dx C : Addr} {mA : Str → Option Value} (I : ObjM h x dx C mA) : ∃ od, PySem.W.InstAt h x (PySem.W.instObj C dx) C (some od) ∧ ∀ name, PySem.W.lookIn name od = some (mA name) :=
 let ⟨od, ho, hl⟩ := hqY I.ns
 ⟨od, ⟨I.obj, rfl, rfl, ho⟩, hl⟩
section
variable {prog : Program} {w : World} {A : Around} {E : Value → Shared → Prop} {s : Shared} {K : PySem.W.Frag} {x dx C f : Addr} {mA : Str → Option Value} {name : Str} {v : Value}
theorem nqY {expr : Bool} {Q : Value → Shared → Prop} (X : K.In s.heap) (I : ObjM s.heap x dx C mA) (hg : PySem.W.plainGet K C name = true) (hh : PySem.W.hasDictIn K C = true)
  (ha : PySem.W.findIn K (.ref C) name = some none) (hv : mA name = some v) (hv' : PySem.W.handedIn v = true) (h : Q v { s with toks := s.toks + 1 }) :
  wpAny (model prog w) A (getAttr (.ref x) name expr) Q E s := by
 obtain ⟨od, J, hl⟩ := I.look
 exact PySem.W.get_value X J (PySem.W.plainGet_of hg).1 (PySem.W.findObj_own hh ha rfl (by rw [hl, hv])) hv' h
theorem lq6 {pl : Sem Bool} {Q : Value × List Value → Shared → Prop} (X : K.In s.heap) (I : ObjM s.heap x dx C mA) (hg : PySem.W.plainGet K C name = true)
  (hf : PySem.W.findIn K (.ref C) name = some (some (.ref f))) (ht : PySem.W.isFn K (.ref f) = true) (hv : mA name = none) (h : Q (.ref f, [.ref x]) s) :
  wpAny (model prog w) A (getMethod (.ref x) name pl) Q E s := by
 obtain ⟨od, J, hl⟩ := I.look
 exact PySem.W.method_fn X J (PySem.W.plainGet_of hg).1 (PySem.W.plainGet_of hg).2 hf (beq_iff_eq.mp ht) (by show (PySem.W.lookIn name od).map (·.isSome) = some false; rw [hl, hv]; rfl) h
theorem nqr {ns : List Str} {Q : Unit → Shared → Prop} (X : K.In s.heap) (I : ObjM s.heap x dx C mA)
  (hs : PySem.W.findIn K (.ref C) "__setattr__" = some (some (.builtin "object.__setattr__"))) (hp : PySem.W.plainOver K C = true) (ht : PySem.W.takerIn K C name = some none) (hh : PySem.W.hasDictIn K C = true)
  (hw : PySem.Within mA ns) (hsz : ns.length ≤ sizeLine)
  (h : ∀ h', ObjM h' x dx C (fun y => if y = name then some v else mA y) → Heap.SameBut dx s.heap h' → Q () { s with heap := h', toks := s.toks + 2 }) :
  wpAny (model prog w) A (setAttr (.ref x) name v) Q E s := by
 obtain ⟨od, J, hl⟩ := I.look
 refine PySem.W.set_plain X J hs (PySem.W.osa_open (s := { s with toks := s.toks + 1 }) (r := none) X J hp ht fun b => ?_)
 obtain ⟨cd, hc, hd'⟩ := PySem.W.any_some hh
 have hx : s.heap.get? x = some ⟨.ref C, some dx, .plain, #[]⟩ := I.obj
 refine wpAny_bind (wpAny_pure (wpAny_bind (wpAny_bind (wpAny_loadPart hx (wpAny_bind (PySem.W.Looks.here (s := { s with toks := s.toks + 1 }) (PySem.W.looks_clsIn X hc) ?_))))))
 rw [hd']
 refine wpAny_pure (a := some dx) (wpAny_bind (wpAny_pure (wpAny_bind ?_)))
 refine wpAny_nsSet1 (s := { s with toks := s.toks + 1 }) I.ns fun h' hn2 hs2 => ?_
 obtain ⟨oD, esD, epD, hoD, hdD, hcD⟩ := hn2.count (PySem.Within.cons name v hw)
 refine wpAny_bind (wpAny_lookBehind hoD (by rw [hdD]; exact pastItsLine_dict (Nat.le_trans hcD (by rw [List.length_cons]; omega))) ?_)
 exact wpAny_pure (h _ ⟨(hs2.2 _ (Ne.symm I.ne)).trans I.obj, hn2, I.ne⟩ hs2)
theorem lqy {R : Result → Shared → Prop} {vs : List Value} {kw : List (Str × Value)} (X : K.In s.heap) (hm : PySem.W.makesIn K C = true)
  (hi : PySem.W.findIn K (.ref C) "__init__" = some (some (.ref f))) (hf : PySem.W.typeIn K (.ref f) = some (.type "function"))
  (h : codeAny (model prog w) (A.under (.builtin "type.__call__" ⟨.ref C :: vs, kw⟩)) (.call (.ref f) ⟨.ref (s.heap.objs.size + 1) :: vs, kw⟩) (PySem.W.InitBack (s.heap.objs.size + 1) R)
   { s with heap := (s.heap.push PySem.W.emptyDict).push (PySem.W.instObj C s.heap.objs.size) }) :
  codeAny (model prog w) A (.call (.ref C) ⟨vs, kw⟩) R s := by
 obtain ⟨hh, g, d, t, os⟩ := s
 exact PySem.W.make_core (PySem.W.makes_of X hm) (PySem.W.looks_findIn X hi) (fun self => PySem.W.bind_fn X self hf) (.inl rfl) h
end
def putF (f : Str) (v : V) : List (Str × V) → List (Str × V)
 | [] => [(f, v)]
 | (g, x) :: r => if g = f then (g, v) :: r else (g, x) :: putF f v r
theorem fq6 (f g : Str) (v : V) : ∀ fs : List (Str × V), (putF f v fs).lookup g = if g = f then some v else fs.lookup g
 | [] => by
  show List.lookup g [(f, v)] = _
  by_cases h : g = f
  ·have hb : (g == f) = true := beq_iff_eq.mpr h
   simp only [List.lookup, hb, if_pos h]
  ·have hb : (g == f) = false := beq_eq_false_iff_ne.mpr h
   simp only [List.lookup, hb, if_neg h]
 | (k, x) :: r => by
  have ih := fq6 f g v r
  rw [show putF f v ((k, x) :: r) = (if k = f then (k, v) :: r else (k, x) :: putF f v r) from rfl]
  by_cases hk : k = f
  ·rw [if_pos hk]
   by_cases h : g = k
   ·have hb : (g == k) = true := beq_iff_eq.mpr h
    simp only [List.lookup, hb, if_pos (h.trans hk)]
   ·have hb : (g == k) = false := beq_eq_false_iff_ne.mpr h
    simp only [List.lookup, hb, if_neg (fun e : g = f => h (e.trans hk.symm))]
  ·rw [if_neg hk]
   by_cases h : g = k
   ·have hb : (g == k) = true := beq_iff_eq.mpr h
    simp only [List.lookup, hb, if_neg (fun e : g = f => hk (h.symm.trans e))]
   ·have hb : (g == k) = false := beq_eq_false_iff_ne.mpr h
    simp only [List.lookup, hb]
    exact ih
theorem gql (f : Str) (v : V) : ∀ fs : List (Str × V), f ∈ (putF f v fs).map (·.1) ∧ ∀ g, g ∈ fs.map (·.1) → g ∈ (putF f v fs).map (·.1)
 | [] => ⟨by simp [putF], fun g h => by simp at h⟩
 | (k, x) :: r => by
  obtain ⟨i1, i2⟩ := gql f v r
  rw [show putF f v ((k, x) :: r) = (if k = f then (k, v) :: r else (k, x) :: putF f v r) from rfl]
  by_cases hk : k = f
  ·rw [if_pos hk]
   subst hk
   exact ⟨by simp, fun g h => by simpa using h⟩
  ·rw [if_neg hk]
   refine ⟨?_, fun g h => ?_⟩
   ·rw [List.map_cons]
    exact List.mem_cons_of_mem _ i1
   ·rw [List.map_cons] at h ⊢
    rcases List.mem_cons.mp h with e | e
    ·exact List.mem_cons.mpr (.inl e)
    ·exact List.mem_cons_of_mem _ (i2 g e)
theorem gqt (f : Str) (v : V) : ∀ fs : List (Str × V), (putF f v fs).length ≤ fs.length + 1
 | [] => by simp [putF]
 | (k, x) :: r => by
  have ih := gqt f v r
  rw [show putF f v ((k, x) :: r) = (if k = f then (k, v) :: r else (k, x) :: putF f v r) from rfl]
  by_cases hk : k = f
  ·rw [if_pos hk, List.length_cons, List.length_cons]; omega
  ·rw [if_neg hk, List.length_cons, List.length_cons]; omega
theorem RelO.some_of {v : V} {o : Option Value} (r : RelO (some v) o) : ∃ u, o = some u ∧ RelV v u := by
 cases o with
 | none => exact (show False from r).elim
 | some u => exact ⟨u, rfl, r⟩
theorem RelO.none_of {o : Option Value} (r : RelO none o) : o = none := by
 cases o with
 | none => rfl
 | some u => exact (show False from r).elim
theorem iqo {v : V} {u : Value} (r : RelV v u) : PySem.W.handedIn u = true := by
 cases v with
 | non => cases (show u = Value.none from r); rfl
 | bl b => cases (show u = Value.bool b from r); rfl
 | int i => obtain ⟨t, e⟩ := (show ∃ t, u = Value.int i t from r); cases e; rfl
 | str x => obtain ⟨t, e⟩ := (show ∃ t, u = Value.str x t from r); cases e; rfl
 | byt b => obtain ⟨t, e⟩ := (show ∃ t, u = Value.bytes b t from r); cases e; rfl
 | flt b => obtain ⟨t, e⟩ := (show ∃ t, u = Value.float b t from r); cases e; rfl
 | ref a => cases (show u = Value.ref a from r); rfl
 | ty n => cases (show u = Value.type n from r); rfl
section
variable {P : Program} {w : World} {H H' : Hp} {h h' : Heap} {a C dx : Addr} {fs fs' : List (Str × V)}
theorem hqy (hok : HOk P w H h) (e : H a = some (.ins C dx fs)) : ∃ mA, ObjM h a dx C mA ∧ (∀ f, RelO (fs.lookup f) (mA f)) ∧ PySem.Within mA (fs.map (·.1)) ∧ fs.length ≤ 1000 ∧ H dx = some (.own a) := by
 obtain ⟨d, z, ne, ob, mA, n, r, q⟩ := (show ObjOk P w H h a (.ins C dx fs) from hok a _ e)
 exact ⟨mA, ⟨ob, n, ne⟩, r, q, z, d⟩
end
structure Cls (K : PySem.W.Frag) (C : Addr) : Prop where
 pg : PySem.W.plainGet K C Str.empty = true
 hd : PySem.W.hasDictIn K C = true
 po : PySem.W.plainOver K C = true
 sa : PySem.W.findIn K (.ref C) "__setattr__" = some (some (.builtin "object.__setattr__"))
theorem Cls.get {K : PySem.W.Frag} {C : Addr} (c : Cls K C) (f : Str) : PySem.W.plainGet K C f = true := c.pg
def NoAttr (K : PySem.W.Frag) (C : Addr) (f : Str) : Prop := PySem.W.findIn K (.ref C) f = some none
theorem NoAttr.taker {K : PySem.W.Frag} {C : Addr} {f : Str} (n : NoAttr K C f) : PySem.W.takerIn K C f = some none := by
 unfold PySem.W.takerIn
 rw [show PySem.W.findIn K (.ref C) f = some none from n]
 rfl
structure Con (K : PySem.W.Frag) (C : Addr) (f : Str) (v : V) (u : Value) : Prop where
 at_ : PySem.W.findIn K (.ref C) f = some (some u)
 rel : RelV v u
 get : PySem.W.specialIn K u "__get__" = some none
 cp : PySem.W.copiedNames.contains f = false
structure Meth (K : PySem.W.Frag) (C : Addr) (m : Str) (f : Addr) : Prop where
 at_ : PySem.W.findIn K (.ref C) m = some (some (.ref f))
 fn : PySem.W.isFn K (.ref f) = true
 kp : PySem.W.keepIn K (.ref f) = true
section
variable {X : Cx} {pins : List (Addr × Obj)} {σ : St} {H : Hp} {s : Shared} {a C dx : Addr} {fs : List (Str × V)} {f : Str} {v : V} {A : Around} {E : Value → Shared → Prop}
theorem jqL {b : Bool} {Q : Value → Shared → Prop} (I : Inv X pins σ H s) (e : H a = some (.ins C dx fs)) (c : Cls X.K C) (n : NoAttr X.K C f) (l : fs.lookup f = some v)
  (h : ∀ u s', Inv X pins σ H s' → RelV v u → Q u s') : wpAny (model X.prog X.w) A (getAttr (.ref a) f b) Q E s := by
 obtain ⟨mA, O, r, _, _, _⟩ := hqy I.hok e
 obtain ⟨u, hu, ru⟩ := RelO.some_of (v := v) (o := mA f) (by rw [← l]; exact r f)
 exact nqY I.kIn O (c.get f) c.hd n hu (iqo ru) (h u _ (I.tok _) ru)
theorem fqf {m : Str} {g : Addr} {pl : Sem Bool} {Q : Value × List Value → Shared → Prop} (I : Inv X pins σ H s) (e : H a = some (.ins C dx fs)) (c : Cls X.K C) (k : Meth X.K C m g) (l : fs.lookup m = none)
  (h : Q (.ref g, [.ref a]) s) : wpAny (model X.prog X.w) A (getMethod (.ref a) m pl) Q E s := by
 obtain ⟨mA, O, r, _, _, _⟩ := hqy I.hok e
 have hn : mA m = none := RelO.none_of (by rw [← l]; exact r m)
 exact lq6 I.kIn O (c.get m) k.at_ k.fn hn h
theorem jqy {y : V} {u : Value} {Q : Unit → Shared → Prop} (I : Inv X pins σ H s) (e : H a = some (.ins C dx fs)) (c : Cls X.K C) (n : NoAttr X.K C f) (hl : fs.length < 1000) (ry : RelV y u)
  (h : ∀ s', Inv X pins σ (upd H a (.ins C dx (putF f y fs))) s' → Q () s') : wpAny (model X.prog X.w) A (setAttr (.ref a) f u) Q E s := by
 obtain ⟨mA, O, r, wi, _, ho⟩ := hqy I.hok e
 have hz : (fs.map (·.1)).length ≤ sizeLine := by rw [List.length_map, sizeLine_eq]; omega
 refine nqr I.kIn O c.sa c.po n.taker c.hd wi hz fun h' O' sb => h _ ?_
 have hd : ∃ o, h'.get? dx = some o := let ⟨o, _, _, e', _⟩ := O'.ns; ⟨o, e'⟩
 refine I.write (x := a) (e := dx) (by rw [e]; exact True.intro) (.inr ho) (fun b q hb z => (sb.2 b hb).trans z) hd ?_
 refine ⟨by rw [aqm O.ne]; exact ho, ?_, O.ne, O'.obj, _, O'.ns, fun g => ?_, fun g hg => ?_⟩
 ·have := gqt f y fs; omega
 ·show RelO ((putF f y fs).lookup g) (if g = f then some u else mA g)
  rw [fq6]
  by_cases q : g = f
  ·rw [if_pos q, if_pos q]; exact ry
  ·rw [if_neg q, if_neg q]; exact r g
 ·by_cases q : g = f
  ·rw [q]; exact (gql f y fs).1
  ·refine (gql f y fs).2 g (wi g fun z => hg ?_)
   show (if g = f then some u else mA g) = none
   rw [if_neg q]; exact z
theorem Inv.made (I : Inv X pins σ H s) : Inv X pins σ (upd (upd H s.heap.objs.size (.own (s.heap.objs.size + 1))) (s.heap.objs.size + 1) (.ins C s.heap.objs.size []))
  { s with heap := (s.heap.push PySem.W.emptyDict).push (PySem.W.instObj C s.heap.objs.size) } := by
 have e1 : (s.heap.push PySem.W.emptyDict).get? s.heap.objs.size = some PySem.W.emptyDict := Heap.get?_push_size s.heap rfl
 have e2 : ((s.heap.push PySem.W.emptyDict).push (PySem.W.instObj C s.heap.objs.size)).get? (s.heap.objs.size + 1) = some (PySem.W.instObj C s.heap.objs.size) := by
  have := Heap.get?_push_size (s.heap.push PySem.W.emptyDict) (o := PySem.W.instObj C s.heap.objs.size) rfl
  rwa [Heap.size_push] at this
 have e3 : (s.heap.push PySem.W.emptyDict).Ns s.heap.objs.size (fun _ => none) := ⟨PySem.W.emptyDict, #[], _, e1, rfl, (fun e he => absurd he (by simp)), fun _ => rfl⟩
 have I1 := I.laid (a := s.heap.objs.size) (o := .own (s.heap.objs.size + 1)) (h' := s.heap.push PySem.W.emptyDict) (t' := s.toks) (fun b u q => Heap.get?_push_of_some _ q) (Nat.le_refl _) ⟨_, e1⟩
 refine I1.laid (a := s.heap.objs.size + 1) (o := .ins C s.heap.objs.size []) (t' := s.toks) (fun b u q => Heap.get?_push_of_some _ q) (Nat.le_of_eq (Heap.size_push _ _)) ?_
 have ne : s.heap.objs.size ≠ s.heap.objs.size + 1 := Nat.ne_of_lt (Nat.lt_succ_self _)
 refine ⟨by rw [aqm ne, aqr], Nat.zero_le _, ne, e2, fun _ => none, (Heap.Ns1.of_empty e3).at fun o q => Heap.get?_push_of_some _ q, fun _ => True.intro, fun y hy => absurd rfl hy⟩
theorem kqR {prog : Program} {w : World} {env : Env} {e : Expr} {f : Str} {pos : Pos} {s : Shared} {Q : Value → Shared → Prop} (hb : attributeBase e f env (eval e env) = eval e env)
  (h : wpAny (model prog w) A (eval e env) (fun o s₁ => wpAny (model prog w) A (getAttr o f true) Q E s₁) E s) : wpAny (model prog w) A (eval (.Attribute e f pos) env) Q E s :=
 Attribute_any_ h (by rw [arm_eval_Attribute, hb])
end
def tFld (K : PySem.W.Frag) (ta : TE) (f : Str) : TE := fun σ H Q => ta σ H fun x H1 => ∃ a C dx fs v, x = .ref a ∧ H1 a = some (.ins C dx fs) ∧ Cls K C ∧ NoAttr K C f ∧ fs.lookup f = some v ∧ Q v H1
def sFld (K : PySem.W.Frag) (ta tv : TE) (f : Str) : TS := fun D σ H => tv σ H fun y H1 => ta σ H1 fun x H2 => ∃ a C dx fs, x = .ref a ∧ H2 a = some (.ins C dx fs) ∧ Cls K C ∧ NoAttr K C f ∧ fs.length < 1000 ∧
 D.nx σ (upd H2 a (.ins C dx (putF f y fs)))
section
variable {X : Cx} {o e value : Expr} {f : Str} {pos pos' tpos : Pos} {ta tv : TE}
theorem bqE (he : PE X e ta) (hb : attributeBase e f X.env (eval e X.env) = eval e X.env) : PE X (.Attribute e f pos) (tFld X.K ta f) := by
 intro pins s σ H Q I h
 refine kqR hb (thn (he pins s σ H _ I h) fun u s1 W' => ?_)
 obtain ⟨x, H1, I1, rx, a, C, dx, fs, v, ex, ea, c, n, l, q⟩ := W'
 subst ex
 obtain rfl : u = Value.ref a := rx
 exact jqL I1 ea c n l fun u' s2 I2 ru => ⟨v, H1, I2, ru, q⟩
theorem jqb (ha : PE X o ta) (hv : PE X value tv) (hs : swapsWith value (some (.Attribute o f pos')) pos.line X.env = pure false) : PS X (.Assign [.Attribute o f pos'] value pos) (sFld X.K ta tv f) := by
 intro pins s σ H D I h
 refine plainObj_wpAny_Assign_Attribute (thn (hv pins s σ H _ I h) fun u s1 ⟨y, H1, I1, ry, q⟩ => thn (ha pins s1 σ H1 _ I1 q) fun ov s2 W' => ?_) hs
 obtain ⟨x, H2, I2, rx, a, C, dx, fs, ex, ea, c, n, l, q2⟩ := W'
 subst ex
 obtain rfl : ov = Value.ref a := rx
 exact jqy I2 ea c n l ry fun s3 I3 => ⟨σ, _, I3, q2⟩
theorem mq1 {pl : Sem Bool} {m : Str} {apos : Pos} {args : List Expr} {pins : List (Addr × Obj)} {s : Shared} {σ : St} {H : Hp} {Q : Value → Shared → Prop} {te : TE} (he : PE X e te) (I : Inv X pins σ H s)
  (h : te σ H fun x H1 => ∃ a C dx fs g, x = .ref a ∧ H1 a = some (.ins C dx fs) ∧ Cls X.K C ∧ Meth X.K C m g ∧ fs.lookup m = none ∧
   ∀ s1, Inv X pins σ H1 s1 → wpAny (model X.prog X.w) X.A (callWith pos (.ref g) [.ref a] (backTo pos (starEach args X.env)) (backToKw pos (keywordEach [] X.env))) Q X.xe s1)
  (ht : eval (.Call (.Attribute e m apos) args [] pos) X.env = (do
   let ov ← eval e X.env
   standAt apos.atName
   let (f, first) ← holding [ov] (getMethod ov m pl)
   callWith pos f first (backTo pos (starEach args X.env)) (backToKw pos (keywordEach [] X.env)))) :
  wpAny (model X.prog X.w) X.A (eval (.Call (.Attribute e m apos) args [] pos) X.env) Q X.xe s := by
 refine PySem.W.methodCall_KW (pl := pl) (thn (he pins s σ H _ I h) fun u s1 W' => ?_) ht
 obtain ⟨x, H1, I1, rx, a, C, dx, fs, g, ex, ea, c, k, l, q⟩ := W'
 subst ex
 obtain rfl : u = Value.ref a := rx
 exact fqf I1 ea c k l (q s1 I1)
end
section
variable {X : Cx} {pins : List (Addr × Obj)} {σ : St} {H : Hp} {s : Shared} {A : Around} {E : Value → Shared → Prop} {Q : Value → Shared → Prop} {c : Value} {b : Bool}
inductive TyOf (K : PySem.W.Frag) (H : Hp) : V → Value → Prop where
 | non : TyOf K H .non (.type "NoneType")
 | bl (x : Bool) : TyOf K H (.bl x) (.type "bool")
 | int (i : Int) : TyOf K H (.int i) (.type "int")
 | str (x : Str) : TyOf K H (.str x) (.type "str")
 | flt (x : UInt64) : TyOf K H (.flt x) (.type "float")
 | lst {a : Addr} {xs : List V} (e : H a = some (.lst xs)) : TyOf K H (.ref a) (.type "list")
 | frz {a : Addr} {o : Obj} {xs : List V} (e : H a = some (.frz o (.lst xs))) : TyOf K H (.ref a) (.type "list")
 | tup {a : Addr} {xs : List V} (e : H a = some (.tup xs)) : TyOf K H (.ref a) (.type "tuple")
 | dK {a : Addr} {kvs : List (Key × V)} (e : H a = some (.dK kvs)) : TyOf K H (.ref a) (.type "dict")
 | dT {a : Addr} {kvs : List (List Key × V)} (e : H a = some (.dT kvs)) : TyOf K H (.ref a) (.type "dict")
 | ins {a C dx : Addr} {fs : List (Str × V)} (e : H a = some (.ins C dx fs)) (cl : Cls K C) (ha : PySem.W.findIn K (.ref C) "__class__" = some (some (.builtin "object.__class__")))
   (hn : PySem.W.specialIn K (.builtin "object.__class__") "__get__" = some (some (.builtin "getset_descriptor.__get__"))) (htk : PySem.W.takesIn K (.builtin "object.__class__") = some true)
   (hm : PySem.W.mroIn K C (.type "object") = some true) : TyOf K H (.ref a) (.ref C)
theorem kqX {x : V} {u t : Value} (I : Inv X pins σ H s) (rx : RelV x u) (ty : TyOf X.K H x t) (e : PySem.W.kitOne X.K t c = some b) (h : ∀ tk, Q (.bool b) { s with toks := tk }) :
  wpAny (model X.prog X.w) A (call (.builtin "isinstance") [u, c]) Q E s := by
 cases ty with
 | non => cases (show u = Value.none from rx); exact PySem.W.kia_one PySem.W.kitx_none I.kIn True.intro e (fun z => nomatch z) h
 | bl y => cases (show u = Value.bool y from rx); exact PySem.W.kia_one PySem.W.kitx_bool I.kIn True.intro e (fun z => nomatch z) h
 | int i => obtain ⟨t, q⟩ := (show ∃ t, u = Value.int i t from rx); cases q; exact PySem.W.kia_one PySem.W.kitx_int I.kIn True.intro e (fun z => nomatch z) h
 | str y => obtain ⟨t, q⟩ := (show ∃ t, u = Value.str y t from rx); cases q; exact PySem.W.kia_one PySem.W.kitx_str I.kIn True.intro e (fun z => nomatch z) h
 | flt y => obtain ⟨t, q⟩ := (show ∃ t, u = Value.float y t from rx); cases q; exact PySem.W.kia_one PySem.W.kitx_float I.kIn True.intro e (fun z => nomatch z) h
 | @lst a xs ea =>
  cases (show u = Value.ref a from rx)
  obtain ⟨_, _, n, _, h1⟩ := (show ObjOk X.prog X.w H s.heap a (.lst xs) from I.hok a _ ea)
  exact PySem.W.kia_one PySem.W.kitx_list I.kIn ⟨_, h1, rfl⟩ e (fun z => nomatch z) h
 | @frz a ob xs ea =>
  cases (show u = Value.ref a from rx)
  obtain ⟨_, _, _, n, _, h1⟩ := (show ObjOk X.prog X.w H s.heap a (.frz ob (.lst xs)) from I.hok a _ ea)
  exact PySem.W.kia_one PySem.W.kitx_list I.kIn ⟨_, h1, rfl⟩ e (fun z => nomatch z) h
 | @tup a xs ea =>
  cases (show u = Value.ref a from rx)
  obtain ⟨_, _, _, p⟩ := (show ObjOk X.prog X.w H s.heap a (.tup xs) from I.hok a _ ea)
  obtain ⟨o, h1, h2, _⟩ := p
  exact PySem.W.kia_one PySem.W.kitx_tuple I.kIn ⟨o, h1, h2⟩ e (fun z => nomatch z) h
 | @dK a kvs ea =>
  cases (show u = Value.ref a from rx)
  obtain ⟨_, _, vs, _, p⟩ := (show ObjOk X.prog X.w H s.heap a (.dK kvs) from I.hok a _ ea)
  obtain ⟨o, es, ep, h1, h2, _⟩ := p
  exact PySem.W.kia_one PySem.W.kitx_dict I.kIn ⟨o, h1, h2.1⟩ e (fun z => nomatch z) h
 | @dT a kvs ea =>
  cases (show u = Value.ref a from rx)
  obtain ⟨_, _, xs, _, o, es, ep, h1, h2, _⟩ := (show ObjOk X.prog X.w H s.heap a (.dT kvs) from I.hok a _ ea)
  exact PySem.W.kia_one PySem.W.kitx_dict I.kIn ⟨o, h1, h2.1⟩ e (fun z => nomatch z) h
 | @ins a C dx fs ea cl ha hn htk hm =>
  cases (show u = Value.ref a from rx)
  obtain ⟨mA, O, _⟩ := hqy I.hok ea
  obtain ⟨od, J, _⟩ := O.look
  exact PySem.W.kia_one (PySem.W.kitx_own (cl.get _) cl.hd ha hn htk hm) I.kIn J e (fun z => nomatch z) h
end
structure Room (k : Nat) (A : Around) : Prop where
 hd : A.handled = none
 dp : A.depth + 3 * k + 5 < recursionLimit
 un : A.units + 16 * k + 200 < cLine
theorem Room.mono {j k : Nat} {A : Around} (r : Room k A) (h : j ≤ k) : Room j A := ⟨r.hd, by have := r.dp; omega, by have := r.un; omega⟩
theorem Room.deeper {k : Nat} {A : Around} (r : Room (k + 1) A) (env : Env) : Room k (A.deeper env) :=
 ⟨r.hd, by have := r.dp; show A.depth + 1 + 3 * k + 5 < _; omega, by have := r.un; show A.units + 3 + 16 * k + 200 < _; omega⟩
theorem jqx {A : Around} {C : Addr} {us : List Value} {kw : List (Str × Value)} : (A.under (.builtin "type.__call__" ⟨.ref C :: us, kw⟩)).depth = A.depth + 1 := by
 first | rfl | simp [Around.under, Code.weight, Code.isCreation, Code.isGuard, Code.isCaller, Code.frames, Code.isFrame, guardIds]
theorem jqF {A : Around} {C : Addr} {us : List Value} {kw : List (Str × Value)} : (A.under (.builtin "type.__call__" ⟨.ref C :: us, kw⟩)).units = A.units + 1 := by
 first | rfl | simp [Around.under, Code.cUnits, Code.frames, Code.isFrame]
theorem Room.make {k : Nat} {A : Around} (r : Room (k + 1) A) (C : Addr) (us : List Value) (kw : List (Str × Value)) : Room k (A.under (.builtin "type.__call__" ⟨.ref C :: us, kw⟩)) :=
 ⟨r.hd, by have := r.dp; rw [jqx]; omega, by have := r.un; rw [jqF]; omega⟩
theorem Room.depth {k : Nat} {A : Around} (r : Room k A) : A.depth < recursionLimit := by have := r.dp; omega
theorem Room.units {k : Nat} {A : Around} (r : Room k A) : A.units + 64 < cLine := by have := r.un; omega
def tNil : TA := fun _ H Q => Q [] H
def tCons (ta : TE) (tr : TA) : TA := fun σ H Q => ta σ H fun x H1 => tr σ H1 fun xs H2 => Q (x :: xs) H2
section
variable {X : Cx} {e : Expr} {es : List Expr} {te : TE} {t : TA} {pos : Pos}
theorem aqb : PA X [] tNil := fun _ _ _ _ H Q I h => Calls.spliced_nil ⟨[], H, I, .nil, h⟩
theorem aqa (ha : PE X e te) (hr : PA X es t) (hs : starEach (e :: es) X.env = (false, eval e X.env) :: starEach es X.env := by rfl) : PA X (e :: es) (tCons te t) := by
 intro pos pins s σ H Q I h
 rw [hs]
 show wpAny _ _ (spliced ((false, eval e X.env) :: backTo pos (starEach es X.env))) _ _ s
 refine Calls.spliced_cons (thn (ha pins s σ H _ I h) fun u s1 W' => ?_)
 obtain ⟨x, H1, I1, r1, q1⟩ := W'
 exact thn (hr pos pins s1 σ H1 _ I1 q1) fun us s2 ⟨xs, H2, I2, r2, q2⟩ => ⟨x :: xs, H2, I2, .cons r1 r2, q2⟩
def tTup (t : TA) : TE := fun σ H Q => t σ H fun xs H1 => xs.length ≤ sizeLine ∧ ∀ p, H1 p = none → Q (.ref p) (upd H1 p (.tup xs))
def tLst (t : TA) : TE := fun σ H Q => t σ H fun xs H1 => xs.length ≤ sizeLine ∧ ∀ p, H1 p = none → Q (.ref p) (upd H1 p (.lst xs))
theorem pqB (h : PA X es t) : PE X (.List es pos) (tLst t) := by
 intro pins s σ H Q I hq
 refine wpAny_List_spliced (thn (h pos pins s σ H _ I hq) fun us s1 ⟨xs, H1, I1, r, z, q⟩ => ⟨by rw [← r.length]; exact z, ?_⟩)
 have hf : H1 s1.heap.objs.size = none := I1.hok.fresh (Nat.le_refl _)
 refine ⟨.ref s1.heap.objs.size, upd H1 s1.heap.objs.size (.lst xs), I1.laid (t' := s1.toks) (fun b u e => Heap.get?_push_of_some _ e) (Nat.le_refl _) ?_, rfl, q _ hf⟩
 exact ⟨z, us, 0, r, Heap.get?_push_size _ rfl⟩
end
abbrev Sp := List V → Hp → VK → XK → Prop
abbrev CXT := List Env → Hp → Shared → XK → Value → Shared → Prop
structure Env0 (P : Program) (w : World) (K : PySem.W.Frag) (mg : Str → Option Value) (base : Heap) (A : Around) (outer : List Env) (s : Shared) (H : Hp) : Prop where
 frames : A.frames = some outer
 mod : Mod K mg base
 bs : ∀ b o, base.get? b = some o → s.heap.get? b = some o ∧ H b = none
 bsz : base.objs.size ≤ s.heap.objs.size
 funs : s.heap.FunFrames base outer
 frf : ∀ b ∈ frs outer, H b = none
 hok : HOk P w H s.heap
 bare : AllBare s.gens
def CE (outer : List Env) (P : Program) (w : World) (H : Hp) (s : Shared) (Q : VK) (u : Value) (s' : Shared) : Prop :=
 ∃ v H', s'.os = s.os ∧ AllBare s'.gens ∧ Un (frs outer) [] H H' s.heap s'.heap ∧ HOk P w H' s'.heap ∧ RelV v u ∧ Q v H'
def CR (CX : CXT) (outer : List Env) (P : Program) (w : World) (H : Hp) (s : Shared) (Q : VK) (E : XK) (r : Result) (s' : Shared) : Prop :=
 match r with
 | .ok (.ret u) => CE outer P w H s Q u s'
 | .ok _ => False
 | .error e => CX outer H s E e s'
structure FnOk (P : Program) (w : World) (K : PySem.W.Frag) (mg : Str → Option Value) (base : Heap) (CX : CXT) (k : Nat) (f : Addr) (fd : FuncData) (ps : List Str) (sp : Sp) : Prop where
 len : ∀ vs H Q E, sp vs H Q E → vs.length = ps.length
 run : ∀ (A : Around) (outer : List Env) (s : Shared) (H : Hp) (args : Args) (us : List Value) (vs : List V) (Q : VK) (E : XK), Room k A → Env0 P w K mg base A outer s H → BindsTo s fd args (ps.zip us) → Vals vs us → sp vs H Q E →
  codeAny (model P w) A (.call (.ref f) args) (CR CX outer P w H s Q E) s
theorem Env0.make {P : Program} {w : World} {K : PySem.W.Frag} {mg : Str → Option Value} {base : Heap} {A : Around} {outer : List Env} {s : Shared} {H : Hp} (e : Env0 P w K mg base A outer s H) (C : Addr) (us : List Value) (kw : List (Str × Value)) :
  Env0 P w K mg base (A.under (.builtin "type.__call__" ⟨.ref C :: us, kw⟩)) outer s H := ⟨by first | exact e.frames | (simpa [Around.under, Code.envs, Code.isFrame, pushEnvs] using e.frames), e.mod, e.bs, e.bsz, e.funs, e.frf, e.hok, e.bare⟩
section
variable {X : Cx} {pins : List (Addr × Obj)} {σ : St} {H : Hp} {s s' : Shared}
theorem Inv.env0 (I : Inv X pins σ H s) : Env0 X.prog X.w X.K X.mg X.base X.A X.stack s H :=
 ⟨I.ok.frames, I.ok.mod, I.bs, Nat.le_trans I.ok.bsz I.sz, I.stack, I.stkFree, I.hok, I.bare⟩
theorem Inv.after {Q : VK} {u : Value} (I : Inv X pins σ H s) (h : CE X.stack X.prog X.w H s Q u s') : EP X pins σ Q u s' := by
 obtain ⟨v, H', os, bare, un, hok, r, q⟩ := h
 obtain ⟨hh, g, d, t, os'⟩ := s'
 obtain rfl : os' = s.os := os
 exact ⟨v, H', I.call (h' := hh) (g' := g) (d' := d) (t' := t) (ch := []) un hok bare (fun b z => absurd z (by simp)), r, q⟩
end
def tCall (sp : Sp) (dvs : List V) (E : XK) (t : TA) : TE := fun σ H Q => t σ H fun vs H1 => sp (vs ++ dvs) H1 Q E
def tMeth (C : Addr) (m : Str) (sp : Sp) (dvs : List V) (E : XK) (ta : TE) (t : TA) : TE := fun σ H Q => ta σ H fun x H1 => ∃ a dx fs, x = .ref a ∧ H1 a = some (.ins C dx fs) ∧ fs.lookup m = none ∧
 t σ H1 fun vs H2 => sp (x :: (vs ++ dvs)) H2 Q E
def tMake (C : Addr) (sp : Sp) (dvs : List V) (E : XK) (t : TA) : TE := fun σ H Q => t σ H fun vs H1 => ∀ x dx, H1 x = none → H1 dx = none → dx ≠ x →
 sp (.ref x :: (vs ++ dvs)) (upd (upd H1 dx (.own x)) x (.ins C dx [])) (fun v H2 => v = .non ∧ Q (.ref x) H2) E
def Binds (K : PySem.W.Frag) (fd : FuncData) (ps : List Str) (ds : List Value) : Prop :=
 ∀ (s : Shared) (us : List Value), K.In s.heap → (us ++ ds).length = ps.length → BindsTo s fd ⟨us, []⟩ (ps.zip (us ++ ds))
theorem Binds.all {K : PySem.W.Frag} {fd : FuncData} {ps : List Str} (h : ∀ us : List Value, us.length = ps.length → bindArgs fd ⟨us, []⟩ = pure (ps.zip us)) : Binds K fd ps [] := fun s us _ hl => by
 rw [List.append_nil] at hl ⊢
 exact .of_eq (h us hl)
def Passes (CX : CXT) (X : Cx) (E : XK) : Prop := ∀ (pins : List (Addr × Obj)) (σ : St) (H : Hp) (s : Shared) (e : Value) (s' : Shared), Inv X pins σ H s → CX X.stack H s E e s' → X.xe e s'
section
variable {X : Cx} {CX : CXT} {k : Nat} {f C : Addr} {fd : FuncData} {ps : List Str} {sp : Sp} {dvs : List V} {ds : List Value} {E : XK} {x m : Str} {p pos apos : Pos} {e o : Expr} {es : List Expr} {ta : TE} {t : TA}
theorem kqW {pins : List (Addr × Obj)} {σ : St} {H : Hp} {s : Shared} {Q : VK} {us : List Value} {vs : List V} (F : FnOk X.prog X.w X.K X.mg X.base CX k f fd ps sp) (hr : Room k X.A) (hb : Binds X.K fd ps ds) (hd : Vals dvs ds) (hx : Passes CX X E)
  (I : Inv X pins σ H s) (r : Vals vs us) (h : sp (vs ++ dvs) H Q E) : wpAny (model X.prog X.w) X.A (call (.ref f) us) (EP X pins σ Q) X.xe s := by
 have r2 : Vals (vs ++ dvs) (us ++ ds) := r.append hd
 have hl : (us ++ ds).length = ps.length := by rw [← r2.length]; exact F.len _ _ _ _ h
 refine wpAny_call (codeAny_mono (F.run X.A X.stack s H ⟨us, []⟩ (us ++ ds) (vs ++ dvs) Q E hr I.env0 (hb s us I.kIn hl) r2 h) fun r s' hq => ?_)
 cases r with
 | error e => exact hx pins σ H s e s' I hq
 | ok fl =>
  cases fl with
  | ret u => exact I.after hq
  | next => exact False.elim hq
  | brk => exact False.elim hq
  | cont => exact False.elim hq
theorem aqt (F : FnOk X.prog X.w X.K X.mg X.base CX k f fd ps sp) (hr : Room k X.A) (hg : Gl X x) (hm : X.mg x = some (.ref f)) (hk : PySem.W.keepIn X.K (.ref f) = true) (hb : Binds X.K fd ps ds) (hd : Vals dvs ds) (hx : Passes CX X E)
  (ha : PA X (e :: es) t) (hdb : (x == ("__debug__" : Str)) = false := by decide) (he : starEach (e :: es) X.env = (false, eval e X.env) :: starEach es X.env := by rfl) (hpl : (backTo pos (starEach es X.env)).any (·.1) = false := by rfl) :
  PE X (.Call (.Name x p) (e :: es) [] pos) (tCall sp dvs E t) := by
 intro pins s σ H Q I h
 refine wpAny_Call_Name_kw (fqg I hg hm ?_ hdb)
 refine PySem.W.callWith_K (h₀ := X.base) I.ok.mod.kin hk (thn (ha pos pins s σ H _ I h) fun us s1 ⟨vs, H1, I1, r, q⟩ => ⟨I1.kIn, ?_⟩) he hpl
 exact kqW F hr hb hd hx I1 r q
theorem bq0 {pl : Sem Bool} (he : PE X o ta) (c : Cls X.K C) (hm : Meth X.K C m f) (F : FnOk X.prog X.w X.K X.mg X.base CX k f fd ps sp) (hr : Room k X.A) (hb : Binds X.K fd ps ds) (hd : Vals dvs ds) (hx : Passes CX X E) (ha : PA X (e :: es) t)
  (hst : starEach (e :: es) X.env = (false, eval e X.env) :: starEach es X.env := by rfl) (hpl : (backTo pos (starEach es X.env)).any (·.1) = false := by rfl)
  (ht : eval (.Call (.Attribute o m apos) (e :: es) [] pos) X.env = (do
   let ov ← eval o X.env
   standAt apos.atName
   let (f, first) ← holding [ov] (getMethod ov m pl)
   callWith pos f first (backTo pos (starEach (e :: es) X.env)) (backToKw pos (keywordEach [] X.env))) := by rfl) :
  PE X (.Call (.Attribute o m apos) (e :: es) [] pos) (tMeth C m sp dvs E ta t) := by
 intro pins s σ H Q I h
 refine PySem.W.methodCall_KW (pl := pl) (thn (he pins s σ H _ I h) fun u s1 W' => ?_) ht
 obtain ⟨x, H1, I1, rx, a, dx, fs, ex, ea, l, q⟩ := W'
 subst ex
 obtain rfl : u = Value.ref a := rx
 refine fqf I1 ea c hm l ?_
 refine PySem.W.callWith_K (first := [.ref a]) (h₀ := X.base) I.ok.mod.kin hm.kp (thn (ha pos pins s1 σ H1 _ I1 q) fun us s2 ⟨vs, H2, I2, r, q2⟩ => ⟨I2.kIn, ?_⟩) hst hpl
 exact kqW (us := .ref a :: us) (vs := .ref a :: vs) F hr hb hd hx I2 (.cons rfl r) q2
theorem dqO {pl : Sem Bool} (he : PE X o ta) (c : Cls X.K C) (hm : Meth X.K C m f) (F : FnOk X.prog X.w X.K X.mg X.base CX k f fd ps sp) (hr : Room k X.A) (hb : Binds X.K fd ps ds) (hd : Vals dvs ds) (hx : Passes CX X E)
  (ht : eval (.Call (.Attribute o m apos) [] [] pos) X.env = (do
   let ov ← eval o X.env
   standAt apos.atName
   let (f, first) ← holding [ov] (getMethod ov m pl)
   callWith pos f first (backTo pos (starEach [] X.env)) (backToKw pos (keywordEach [] X.env))) := by rfl) :
  PE X (.Call (.Attribute o m apos) [] [] pos) (tMeth C m sp dvs E ta tNil) := by
 intro pins s σ H Q I h
 refine PySem.W.methodCall_KW (pl := pl) (thn (he pins s σ H _ I h) fun u s1 W' => ?_) ht
 obtain ⟨x, H1, I1, rx, a, dx, fs, ex, ea, l, q⟩ := W'
 subst ex
 obtain rfl : u = Value.ref a := rx
 refine fqf I1 ea c hm l ?_
 exact PySem.W.callWith_K0 (first := [.ref a]) I1.kIn hm.kp (kqW (us := [.ref a]) (vs := [.ref a]) F hr hb hd hx I1 (.cons rfl .nil) q)
structure Mk (K : PySem.W.Frag) (C f : Addr) : Prop where
 makes : PySem.W.makesIn K C = true
 init : PySem.W.findIn K (.ref C) "__init__" = some (some (.ref f))
 fn : PySem.W.isFn K (.ref f) = true
 kp : PySem.W.keepIn K (.ref C) = true
theorem lqX {pins : List (Addr × Obj)} {σ : St} {H : Hp} {s : Shared} {Q : VK} {us : List Value} {vs : List V} (M : Mk X.K C f) (F : FnOk X.prog X.w X.K X.mg X.base CX k f fd ps sp) (hr : Room (k + 1) X.A) (hb : Binds X.K fd ps ds) (hd : Vals dvs ds)
  (hx : Passes CX X E) (I : Inv X pins σ H s) (r : Vals vs us)
  (h : ∀ x dx, H x = none → H dx = none → dx ≠ x → sp (.ref x :: (vs ++ dvs)) (upd (upd H dx (.own x)) x (.ins C dx [])) (fun v H2 => v = .non ∧ Q (.ref x) H2) E) :
  wpAny (model X.prog X.w) X.A (call (.ref C) us) (EP X pins σ Q) X.xe s := by
 have hq := h (s.heap.objs.size + 1) s.heap.objs.size (I.hok.fresh (Nat.le_succ _)) (I.hok.fresh (Nat.le_refl _)) (Nat.ne_of_lt (Nat.lt_succ_self _))
 have I2 := Inv.made (C := C) I
 have r2 : Vals (V.ref (s.heap.objs.size + 1) :: (vs ++ dvs)) (Value.ref (s.heap.objs.size + 1) :: (us ++ ds)) := .cons rfl (r.append hd)
 have hl : (Value.ref (s.heap.objs.size + 1) :: us ++ ds).length = ps.length := by
  have e := r2.length
  rw [F.len _ _ _ _ hq] at e
  exact e.symm
 refine wpAny_call (lqy (f := f) I.kIn M.makes M.init (beq_iff_eq.mp M.fn) (codeAny_mono (F.run _ X.stack _ _ ⟨Value.ref (s.heap.objs.size + 1) :: us, []⟩ (Value.ref (s.heap.objs.size + 1) :: (us ++ ds)) _ _ E (hr.make C us [])
  (I2.env0.make C us []) (hb _ (Value.ref (s.heap.objs.size + 1) :: us) I2.kIn hl) r2 hq) fun r s' hq' => ?_))
 cases r with
 | error e => exact hx pins σ _ _ e s' I2 hq'
 | ok fl =>
  cases fl with
  | ret u =>
   obtain ⟨v, H', I3, rv, ev, q3⟩ := I2.after hq'
   subst ev
   exact ⟨rv, ⟨V.ref (s.heap.objs.size + 1), H', I3, rfl, q3⟩⟩
  | next => exact False.elim hq'
  | brk => exact False.elim hq'
  | cont => exact False.elim hq'
theorem nqL (M : Mk X.K C f) (F : FnOk X.prog X.w X.K X.mg X.base CX k f fd ps sp) (hr : Room (k + 1) X.A) (hg : Gl X x) (hm : X.mg x = some (.ref C)) (hb : Binds X.K fd ps ds) (hd : Vals dvs ds) (hx : Passes CX X E)
  (ha : PA X (e :: es) t) (hdb : (x == ("__debug__" : Str)) = false := by decide) (he : starEach (e :: es) X.env = (false, eval e X.env) :: starEach es X.env := by rfl) (hpl : (backTo pos (starEach es X.env)).any (·.1) = false := by rfl) :
  PE X (.Call (.Name x p) (e :: es) [] pos) (tMake C sp dvs E t) := by
 intro pins s σ H Q I h
 refine wpAny_Call_Name_kw (fqg I hg hm ?_ hdb)
 refine PySem.W.callWith_K (h₀ := X.base) I.ok.mod.kin M.kp (thn (ha pos pins s σ H _ I h) fun us s1 ⟨vs, H1, I1, r, q⟩ => ⟨I1.kIn, ?_⟩) he hpl
 exact lqX M F hr hb hd hx I1 r q
end
section
variable {X : Cx} {CX : CXT} {k : Nat} {f C : Addr} {fd : FuncData} {ps ks : List Str} {sp : Sp} {E : XK} {x m : Str} {p pos apos kpos : Pos} {e o : Expr} {es : List Expr} {kws : List Keyword} {te ta : TE} {t tk : TA} {nm : Option Str}
structure KBinds (K : PySem.W.Frag) (fd : FuncData) (ps ks : List Str) (g : List Value → List Value → List Value) (gV : List V → List V → List V) : Prop where
 to : ∀ (s : Shared) (us ws : List Value), K.In s.heap → (g us ws).length = ps.length → BindsTo s fd ⟨us, ks.zip ws⟩ (ps.zip (g us ws))
 rel : ∀ {vs : List V} {us : List Value} {zs : List V} {ws : List Value}, Vals vs us → Vals zs ws → Vals (gV vs zs) (g us ws)
variable {g : List Value → List Value → List Value} {gV : List V → List V → List V}
end
structure FnScope (N P : List Str) (sc : Scope) : Prop where
 kind : sc.kind = .function
 co : sc.isCoroutine = false
 gen : sc.isGenerator = false
 nd : N.Nodup
 pre : N.take P.length = P
 par : ∀ x ∈ P, sc.names.lookup x = some .local ∨ sc.names.lookup x = some .cell
 nofree : ∀ y ∈ sc.names, y.2 ≠ .free
theorem hqN {kindOf : Str → Option NameKind} {x : Str} : ∀ {binds : List (Str × Value)} {m : Str → Option Value}, (∀ v, (x, v) ∉ binds) → bindL kindOf binds m x = m x
 | [], _, _ => rfl
 | (n, v) :: r, m, h => by
  unfold bindL
  rw [hqN fun w hw => h w (List.mem_cons_of_mem _ hw)]
  split
  ·have : x ≠ n := by rintro rfl; exact h v List.mem_cons_self
   simp [this]
  ·rfl
theorem iqr {kindOf : Str → Option NameKind} {x : Str} : ∀ {binds : List (Str × Value)} {m : Str → Option Value}, (∀ v, (x, v) ∉ binds) → bindC kindOf binds m x = m x
 | [], _, _ => rfl
 | (n, v) :: r, m, h => by
  unfold bindC
  rw [iqr fun w hw => h w (List.mem_cons_of_mem _ hw)]
  split
  ·rfl
  ·have : x ≠ n := by rintro rfl; exact h v List.mem_cons_self
   simp [this]
theorem iqH {kindOf : Str → Option NameKind} {x : Str} {v : Value} : ∀ {P : List Str} {vs : List Value} {i : Nat} {m : Str → Option Value}, P.Nodup → P[i]? = some x → vs[i]? = some v → kindOf x = some .local →
  bindL kindOf (P.zip vs) m x = some v
 | [], _, _, _, _, h, _, _ => by simp at h
 | _ :: _, [], _, _, _, _, h, _ => by simp at h
 | p :: P, w :: vs, 0, m, nd, h1, h2, hk => by
  simp at h1 h2; subst h1; subst h2
  show bindL kindOf ((p, w) :: P.zip vs) m p = _
  unfold bindL
  rw [hqN fun v hv => (List.nodup_cons.mp nd).1 (List.of_mem_zip hv).1, if_pos hk]
  simp
 | p :: P, w :: vs, i + 1, m, nd, h1, h2, hk => by
  show bindL kindOf ((p, w) :: P.zip vs) m x = _
  unfold bindL
  exact iqH (i := i) (List.nodup_cons.mp nd).2 (by simpa using h1) (by simpa using h2) hk
theorem iqy {kindOf : Str → Option NameKind} {x : Str} {v : Value} : ∀ {P : List Str} {vs : List Value} {i : Nat} {m : Str → Option Value}, P.Nodup → P[i]? = some x → vs[i]? = some v → kindOf x ≠ some .local →
  bindC kindOf (P.zip vs) m x = some v
 | [], _, _, _, _, h, _, _ => by simp at h
 | _ :: _, [], _, _, _, _, h, _ => by simp at h
 | p :: P, w :: vs, 0, m, nd, h1, h2, hk => by
  simp at h1 h2; subst h1; subst h2
  show bindC kindOf ((p, w) :: P.zip vs) m p = _
  unfold bindC
  rw [iqr fun v hv => (List.nodup_cons.mp nd).1 (List.of_mem_zip hv).1, if_neg hk]
  simp
 | p :: P, w :: vs, i + 1, m, nd, h1, h2, hk => by
  show bindC kindOf ((p, w) :: P.zip vs) m x = _
  unfold bindC
  exact iqy (i := i) (List.nodup_cons.mp nd).2 (by simpa using h1) (by simpa using h2) hk
def start (N : List Str) (vs : List V) : St := vs.map some ++ List.replicate (N.length - vs.length) none
def cxOf (CX : CXT) (P : Program) (w : World) (K : PySem.W.Frag) (mg : Str → Option Value) (base : Heap) (N : List Str) (qual : Str) (scope : Scope) (f : Addr) (cd : Value) (A : Around) (outer : List Env) (s : Shared) (H : Hp) (E : XK) : Cx where
 prog := P
 w := w
 K := K
 mg := mg
 base := base
 A := A.deeper (envOfC qual scope s.heap.objs.size f cd)
 N := N
 s₀ := s
 H₀ := H
 env := envOfC qual scope s.heap.objs.size f cd
 outer := outer
 stack := envOfC qual scope s.heap.objs.size f cd :: outer
 ex := []
 calm := true
 fn := fun _ => true
 pn := []
 xe := fun e s' => wpAny (model P w) (A.deeper (envOfC qual scope s.heap.objs.size f cd)) (leaving (envOfC qual scope s.heap.objs.size f cd) e) (fun _ s'' => CX outer H s E e s'') (fun e' s'' => CX outer H s E e' s'') s'
theorem jqt {sc : Scope} {n : Nat} {x : Str} (h : sc.names.lookup x = some .cell) : ∃ c, (cellsFrom n sc.names []).lookup x = some c := by
 have q := PySem.W.cellsFrom_some sc.names n [] (.inl h)
 exact Option.isSome_iff_exists.mp q
theorem kqS {CX : CXT} {P : Program} {w : World} {K : PySem.W.Frag} {mg : Str → Option Value} {base : Heap} {N ps : List Str} {qual : Str} {scope : Scope} {f : Addr} {cd : Value} {A : Around} {outer : List Env} {s s1 : Shared} {H : Hp} {E : XK} {us : List Value} {vs : List V}
  (S : FnScope N ps scope) (hd : A.handled = none) (e0 : Env0 P w K mg base A outer s H) (hl : vs.length = ps.length) (r : Vals vs us)
  (x : InCallC s s.heap.objs.size (bindL (envOfC qual scope s.heap.objs.size f cd).kindOf (ps.zip us) fun _ => none) (cellsFrom (s.heap.objs.size + 1) scope.names []) (bindC (envOfC qual scope s.heap.objs.size f cd).kindOf (ps.zip us) fun _ => none) s1) :
  Inv (cxOf CX P w K mg base N qual scope f cd A outer s H E) [] (start N vs) H s1 := by
 have hpl : ps.length ≤ N.length := by have := congrArg List.length S.pre; rw [List.length_take] at this; omega
 obtain ⟨h1, tk, rfl, hk⟩ := x.done
 have noA : ∀ b : Addr, b ∉ (cxOf CX P w K mg base N qual scope f cd A outer s H E).ex := fun b z => absurd (show b ∈ ([] : List Addr) from z) (by simp)
 refine ⟨⟨e0.mod, S.kind, rfl, rfl, Nat.le_refl _, fun y z c h1 h2 => ?_, fun y hy => ?_, fun y c _ h => ?_, fun _ => hd, Around.frames_deeper e0.frames, .inr ⟨rfl, rfl⟩, fun b z => absurd z (noA b), e0.bs, e0.bsz, fun b _ _ => noA b, fun b z => absurd z (noA b), e0.funs, e0.frf⟩,
  rfl, e0.bare, Un.kept hk, ⟨_, x.toInCall.ns, fun i y v h1 h2 h3 => ?_⟩, fun y c h => ⟨_, x.cell y c h⟩, e0.hok.fresh (Nat.le_refl _), fun y c h => ?_, fun p hp => absurd (show p ∈ ([] : List (Addr × Obj)) from hp) (by simp), e0.hok.kept hk, ?_⟩
 ·exact name_of_addr x.apart (PySem.mem_of_lookup h1) (PySem.mem_of_lookup h2)
 ·have hy : scope.names.lookup y = some .cell ∨ scope.names.lookup y = some .free := hy
  rcases hy with hy | hy
  ·exact jqt hy
  ·exact absurd rfl (S.nofree _ (PySem.mem_of_lookup hy))
 ·exact Nat.le_of_lt (x.above y c (PySem.mem_of_lookup h))
 ·have hi : i < vs.length := by
   unfold start at h2
   by_cases hi : i < vs.length
   ·exact hi
   ·rw [List.getElem?_append_right (by simpa using hi)] at h2
    rw [List.getElem?_replicate] at h2
    split at h2 <;> cases h2
  have ha : vs[i]? = some v := by
   unfold start at h2
   rw [List.getElem?_append_left (by simpa using hi), List.getElem?_map] at h2
   cases e : vs[i]? with
   | none => rw [e] at h2; cases h2
   | some a => rw [e] at h2; cases h2; rfl
  obtain ⟨u, hu, rv⟩ := r.get ha
  have hp : ps[i]? = some y := by
   rw [← S.pre, List.getElem?_take_of_lt (by omega)]; exact h1
  have ndP : ps.Nodup := by rw [← S.pre]; exact S.nd.sublist (List.take_sublist _ _)
  refine ⟨u, rv, ?_⟩
  rcases S.par y (List.mem_of_getElem? hp) with k | k
  ·exact .inl ⟨k, iqH ndP hp hu k⟩
  ·obtain ⟨c, e⟩ := jqt (n := s.heap.objs.size + 1) k
   refine .inr ⟨.inl k, c, e, ?_⟩
   have q := x.cell y c e
   rw [iqy ndP hp hu (by show scope.names.lookup y ≠ _; rw [k]; decide)] at q
   exact q
 ·exact e0.hok.fresh (Nat.le_of_lt (x.above y c (PySem.mem_of_lookup h)))
 ·unfold start
  show _ = N.length
  rw [List.length_append, List.length_map, List.length_replicate]
  omega
theorem mqW {CX : CXT} {P : Program} {w : World} {K : PySem.W.Frag} {mg : Str → Option Value} {base : Heap} {k : Nat} {f : Addr} {name qual : Str} {params : Arguments} {body : List Stmt} {scope : Scope} {dV kV doc pm cdv ct oc : Value} {an od : Option Addr}
  {osl : Array (Option Value)} {N ps : List Str} {sp : Sp} (lk : K.lookup f = some ⟨oc, od, .func (PySem.W.fnOf name qual params body scope dV kV doc pm an cdv ct), osl⟩) (hcd : PySem.W.codeIn K cdv qual = true) (S : FnScope N ps scope)
  (len : ∀ vs H Q E, sp vs H Q E → vs.length = ps.length)
  (hbody : ∀ (A : Around) (outer : List Env) (s : Shared) (H : Hp) (vs : List V) (Q : VK) (E : XK), Room k (A.deeper (envOfC qual scope s.heap.objs.size f cdv)) → sp vs H Q E →
   ∃ t, PSs (cxOf CX P w K mg base N qual scope f cdv A outer s H E) body t ∧ t { nx := fun _ H' => Q .non H', rt := Q } (start N vs) H) :
  FnOk P w K mg base CX (k + 1) f (PySem.W.fnOf name qual params body scope dV kV doc pm an cdv ct) ps sp := by
 refine ⟨len, fun A outer s H args us vs Q E hr e0 hb r hsp => ?_⟩
 have hl := len _ _ _ _ hsp
 have KX : K.In s.heap := e0.mod.kin.keeps fun b o e => (e0.bs b o e).1
 have lim : s.heap.NoLimit := e0.mod.nolimit.keeps fun b o e => (e0.bs b o e).1
 have hkind : ∀ y ∈ ps.zip us, scope.names.lookup y.1 = some .local ∨ (scope.names.lookup y.1 = some .cell ∧ ((cellsFrom (s.heap.objs.size + 1) scope.names []).lookup y.1).isSome = true) := fun ⟨n, v⟩ hy => by
  rcases S.par n (List.of_mem_zip hy).1 with q | q
  ·exact .inl q
  ·exact .inr ⟨q, PySem.W.cellsFrom_some _ _ _ (.inl q)⟩
 refine codeAny_call_function hr.depth (KX _ _ lk) rfl S.co S.gen rfl (PySem.W.codeRec_of KX hcd) (hb _ _ _ _ ?_)
 refine wpAny_newFunctionEnv_cells S.kind hkind fun env he s1 x => ?_
 subst he
 refine ⟨lim.keeps x.toInCall.keep, codeAny_func ?_⟩
 obtain ⟨t, ht, hq⟩ := hbody A outer s H vs Q E (hr.deeper _) hsp
 have I : Inv (cxOf CX P w K mg base N qual scope f cdv A outer s H E) [] (start N vs) H s1 := kqS S hr.hd e0 hl r x
 refine wpAny_mono (ht [] s1 (start N vs) H _ I hq) (fun fl s' hs => ?_) fun e s' hs => hs
 have fin : ∀ {σ' : St} {H' : Hp} {v : V} {u : Value}, Inv (cxOf CX P w K mg base N qual scope f cdv A outer s H E) [] σ' H' s' → RelV v u → Q v H' → CE outer P w H s Q u s' :=
  fun {σ' H' v u} J rv q => ⟨v, H', J.os, J.bare, J.base, J.hok, rv, q⟩
 cases fl with
 | ret u =>
  obtain ⟨v, σ', H', J, rv, q⟩ := hs
  exact fin J rv q
 | next =>
  obtain ⟨σ', H', J, q⟩ := hs
  exact fin (v := V.non) (u := Value.none) J rfl q
 | brk =>
  obtain ⟨_, _, _, q⟩ := hs
  exact False.elim q
 | cont =>
  obtain ⟨_, _, _, q⟩ := hs
  exact False.elim q
section
variable {X : Cx} {x : Str} {p pos : Pos} {e : Expr} {es : List Expr} {t : TA} {id T : String} {r : List V → Hp → VK → Prop}
def tCB (r : List V → Hp → VK → Prop) (t : TA) : TE := fun σ H Q => t σ H fun vs H1 => r vs H1 Q
theorem bqh (hc : CallR X (.builtin id) r) (hg : Gl X x) (hm : X.mg x = none) (hv : bootBuiltins x = some (.builtin id)) (ha : PA X (e :: es) t) (hn : x ≠ "__name__" := by decide) (hdb : (x == ("__debug__" : Str)) = false := by decide)
  (he : starEach (e :: es) X.env = (false, eval e X.env) :: starEach es X.env := by rfl) (hpl : (backTo pos (starEach es X.env)).any (·.1) = false := by rfl) : PE X (.Call (.Name x p) (e :: es) [] pos) (tCB r t) := by
 intro pins s σ H Q I h
 refine wpAny_Call_Name_kw (jqk I hg hm hv ?_ hn hdb)
 exact PyProof.Rows.callWith_builtin1 (thn (ha pos pins s σ H _ I h) fun us s1 ⟨vs, H1, I1, r1, q1⟩ => hc pins s1 σ H1 vs us Q I1 r1 q1) he hpl
theorem cqT (hc : CallR X (.type T) r) (hg : Gl X x) (hm : X.mg x = none) (hv : bootBuiltins x = some (.type T)) (ha : PA X (e :: es) t) (hn : x ≠ "__name__" := by decide) (hdb : (x == ("__debug__" : Str)) = false := by decide)
  (he : starEach (e :: es) X.env = (false, eval e X.env) :: starEach es X.env := by rfl) (hpl : (backTo pos (starEach es X.env)).any (·.1) = false := by rfl) : PE X (.Call (.Name x p) (e :: es) [] pos) (tCB r t) := by
 intro pins s σ H Q I h
 refine wpAny_Call_Name_kw (jqk I hg hm hv ?_ hn hdb)
 exact PyProof.Rows.callWith_type1 (thn (ha pos pins s σ H _ I h) fun us s1 ⟨vs, H1, I1, r1, q1⟩ => hc pins s1 σ H1 vs us Q I1 r1 q1) he hpl
end
end L2
namespace HT
open PySem PyProof.Rows
section
open PySem.SeqAt
open PySem.AutoSeq1 (wpAny_loadPart')
open PySem.MeetsSeq PySem.MeetsSeq2 PySem.MeetsSeq3
end
section
variable {prog : Program} {w : World} {A : Around} {E : Value → Shared → Prop} {s : Shared}
theorem cat_tup {t b : Addr} {vs ws : List Value} {Q : Value → Shared → Prop} (ht : IsTup s.heap t vs.toArray) (hb : IsTup s.heap b ws.toArray) (hv : vs ≠ [])
  (h1 : ws = [] → Q (.ref t) s) (h2 : ws ≠ [] → Q (.ref s.heap.objs.size) { s with heap := s.heap.push { cls := .type "tuple", data := .seq (vs ++ ws).toArray } })
  (hsz : vs.length + ws.length ≤ sizeLine) : wpAny (model prog w) A (binaryOp .Add (.ref t) (.ref b)) Q E s := by
 obtain ⟨⟨cls, dd, data, sl⟩, ho, hc, n, hd⟩ := id ht
 obtain ⟨⟨cls2, dd2, data2, sl2⟩, ho2, hc2, n2, hd2⟩ := id hb
 simp only at hc hd hc2 hd2
 subst hc hd hc2 hd2
 have e : vs.toArray ++ ws.toArray = (vs ++ ws).toArray := by simp
 by_cases hw : ws = []
 ·exact concat_meets ⟨_, ho, rfl⟩ ⟨_, ho2, rfl⟩ noFill_tuple_add seq_tuple_add PySem.F.slot_tuple_add PySem.F.entry_tuple_add (PySem.F.args_tuple_add_2 _ _)
   (tuple_addW1 t b vs.toArray ws.toArray n n2 dd dd2 sl sl2 (by simpa using hv) (by simp [hw])) ⟨ho, ho2, h1 hw⟩
 ·refine concat_meets ⟨_, ho, rfl⟩ ⟨_, ho2, rfl⟩ noFill_tuple_add seq_tuple_add PySem.F.slot_tuple_add PySem.F.entry_tuple_add (PySem.F.args_tuple_add_2 _ _)
   (tuple_addW2 t b vs.toArray ws.toArray n n2 dd dd2 sl sl2 (by simpa using hv) (by simpa using hw) (by rw [List.size_toArray, List.size_toArray]; exact hsz)) ⟨ho, ho2, ?_⟩
  rw [e]
  exact h2 hw
def sIx (n d : Nat) : Option Int → Nat
 | none => d
 | some v => if v < 0 then (v + (n : Int)).toNat else min v.toNat n
end
end HT
namespace L2
open PySem PySem.Spec PyProof.Rows
abbrev TO := St → Hp → (Option Int → Hp → Prop) → Prop
def PO (X : Cx) (e : Option Expr) (t : TO) : Prop :=
 ∀ (pins : List (Addr × Obj)) (s : Shared) (σ : St) (H : Hp) (Q : Option Int → Hp → Prop), Inv X pins σ H s → t σ H Q →
  wpAny (model X.prog X.w) X.A (evalPart e X.env) (fun u s' => ∃ o H', Inv X pins σ H' s' ∧ IsPart u o ∧ Q o H') X.xe s
def tNoPart : TO := fun _ H Q => Q none H
def tPart (t : TE) : TO := fun σ H Q => t σ H fun x H1 => ∃ i, x = .int i ∧ Q (some i) H1
section
variable {X : Cx} {e : Expr} {te : TE} {lo hi : Option Expr} {tl th : TO} {pos p2 : Pos}
theorem kqy : PO X none tNoPart := by
 intro pins s σ H Q I h
 rw [evalPart_none]
 exact wpAny_pure ⟨none, H, I, .none, h⟩
theorem hqM (h : PE X e te) : PO X (some e) (tPart te) := by
 intro pins s σ H Q I hw
 rw [evalPart_some]
 refine thn (h pins s σ H _ I hw) fun u s1 W' => ?_
 obtain ⟨x, H1, I1, r1, q1⟩ := W'
 obtain ⟨i, rfl, q⟩ := q1
 obtain ⟨t, rfl⟩ := r1
 exact ⟨some i, H1, I1, .int i t, q⟩
def SlR (X : Cx) (r : V → Option Int → Option Int → Hp → VK → Prop) : Prop :=
 ∀ (pins : List (Addr × Obj)) (s : Shared) (σ : St) (H : Hp) (x : V) (v vl vu : Value) (lo hi : Option Int) (sl : Addr) (Q : VK), Inv X pins σ H s → RelV x v → s.heap.IsSliceOf sl vl vu .none → IsPart vl lo → IsPart vu hi → r x lo hi H Q →
  ∃ T id, typeLookup (.type T) "__getitem__" = pure (some (.builtin id)) ∧ s.TypeIs v T ∧ wpAny (model X.prog X.w) X.A (getItem v (.ref sl)) (EP X pins σ Q) X.xe s
theorem SlR.or {r r' : V → Option Int → Option Int → Hp → VK → Prop} (h : SlR X r) (h' : SlR X r') : SlR X (fun x lo hi H Q => r x lo hi H Q ∨ r' x lo hi H Q) := by
 intro pins s σ H x v vl vu lo hi sl Q I rx hs pl pu q
 rcases q with q | q
 ·exact h pins s σ H x v vl vu lo hi sl Q I rx hs pl pu q
 ·exact h' pins s σ H x v vl vu lo hi sl Q I rx hs pl pu q
def tSl (r : V → Option Int → Option Int → Hp → VK → Prop) (te : TE) (tl th : TO) : TE := fun σ H Q => te σ H fun x H1 => tl σ H1 fun l H2 => th σ H2 fun u H3 => r x l u H3 Q
theorem hqt {r : V → Option Int → Option Int → Hp → VK → Prop} (hr : SlR X r) (he : PE X e te) (hl : PO X lo tl) (hu : PO X hi th) : PE X (.Subscript e (.Slice lo hi none p2) pos) (tSl r te tl th) := by
 intro pins s σ H Q I h
 refine Subscript_ (thn (he pins s σ H _ I h) fun v s1 W' => ?_)
 obtain ⟨x, H1, I1, r1, q1⟩ := W'
 refine wpAny_Slice (thn (hl pins s1 σ H1 _ I1 q1) fun vl s2 ⟨l, H2, I2, pl, q2⟩ => thn (hu pins s2 σ H2 _ I2 q2) fun vu s3 W' => ?_)
 obtain ⟨u, H3, I3, pu, q3⟩ := W'
 rw [evalPart_none]
 refine wpAny_pure ?_
 have I4 : Inv X pins σ H3 { s3 with heap := s3.heap.push { cls := .type "slice", data := .fields #[vl, vu, .none] } } := I3.kept (t' := s3.toks) fun b ob q => Heap.get?_push_of_some _ q
 obtain ⟨T, id, hT, ht, hg⟩ := hr pins { s3 with heap := s3.heap.push { cls := .type "slice", data := .fields #[vl, vu, .none] } } σ H3 x v vl vu l u s3.heap.objs.size Q I4 r1 (Heap.IsSliceOf.new ..) pl pu q3
 show wpAny (model X.prog X.w) X.A (subscriptTail e (.Slice lo hi none p2) v (.ref s3.heap.objs.size)) (EP X pins σ Q) X.xe { s3 with heap := s3.heap.push { cls := .type "slice", data := .fields #[vl, vu, .none] } }
 exact tail_any (ops := [.ref s3.heap.objs.size, v]) ht hT hg (by with_unfolding_all rfl)
def cutV (xs : List V) (lo hi : Option Int) : List V := (xs.drop (HT.sIx xs.length 0 lo)).take (HT.sIx xs.length xs.length hi - HT.sIx xs.length 0 lo)
theorem iqY (xs : List V) (lo hi : Option Int) : (cutV xs lo hi).length ≤ xs.length := by
 unfold cutV
 rw [List.length_take, List.length_drop]
 omega
def rSlT (K : PySem.W.Frag) : V → Option Int → Option Int → Hp → VK → Prop := fun x lo hi H Q => ∃ a xs, x = .ref a ∧ SqT K H a xs ∧
 ¬ (HT.sIx xs.length 0 lo = 0 ∧ HT.sIx xs.length xs.length hi = xs.length) ∧ ∀ p, H p = none → Q (.ref p) (upd H p (.tup (cutV xs lo hi)))
def rCatT (K : PySem.W.Frag) : R2 := fun x y H Q => ∃ a b xs ys, x = .ref a ∧ y = .ref b ∧ SqT K H a xs ∧ SqT K H b ys ∧ xs ≠ [] ∧ xs.length + ys.length ≤ sizeLine ∧
 (ys = [] → Q (.ref a) H) ∧ (ys ≠ [] → ∀ p, H p = none → Q (.ref p) (upd H p (.tup (xs ++ ys))))
theorem Vals.nil_iff {xs : List V} {us : List Value} (r : Vals xs us) : us = [] ↔ xs = [] := by
 cases r with
 | nil => simp
 | cons _ _ => simp
theorem mq7 : OpR X (binaryOp .Add) (rCatT X.K) := by
 intro pins s σ H x y v u Q I rx ry h
 obtain ⟨a, b, xs, ys, rfl, rfl, ha, hb, hx, hz, q1, q2⟩ := h
 cases rx
 cases ry
 obtain ⟨its, r1, p1, _⟩ := I.tuple ha
 obtain ⟨its2, r2, p2, _⟩ := I.tuple hb
 refine HT.cat_tup p1 p2 (fun z => hx (r1.nil_iff.mp z)) (fun z => ⟨.ref a, H, I, rfl, q1 (r2.nil_iff.mp z)⟩) (fun z => ?_) (by rw [← r1.length, ← r2.length]; exact hz)
 refine ⟨.ref s.heap.objs.size, _, I.laid (t' := s.toks) (o := .tup (xs ++ ys)) (fun b ob q => Heap.get?_push_of_some _ q) (Nat.le_refl _) ?_, rfl, q2 (fun w => z (r2.nil_iff.mpr w)) _ (I.hok.fresh (Nat.le_refl _))⟩
 exact ⟨by rw [List.length_append]; exact hz, _, r1.append r2, IsTup.new _ _⟩
end
def ixN (n : Nat) (i : Int) : Option Nat := if 0 ≤ i then (if i < n then some i.toNat else none) else if -(n : Int) ≤ i then some (i + n).toNat else none
def atI {α : Type} (xs : List α) (i : Int) : Option α := (ixN xs.length i).bind fun j => xs[j]?
theorem mq5 {n : Nat} {i : Int} {j : Nat} (h : ixN n i = some j) : seqIndex? i n = some j ∧ j < n ∧ -(n : Int) ≤ i ∧ i < n := by
 unfold ixN at h
 by_cases h0 : 0 ≤ i
 ·rw [if_pos h0] at h
  by_cases h1 : i < n
  ·rw [if_pos h1] at h
   have e : i.toNat = j := Option.some.inj h
   exact ⟨by rw [seqIndex_of h0 h1, e], by omega, by omega, h1⟩
  ·rw [if_neg h1] at h; cases h
 ·rw [if_neg h0] at h
  by_cases h1 : -(n : Int) ≤ i
  ·rw [if_pos h1] at h
   have e : (i + n).toNat = j := Option.some.inj h
   exact ⟨by rw [seqIndex_neg (by omega) h1, e], by omega, h1, by omega⟩
  ·rw [if_neg h1] at h; cases h
theorem iqJ {α : Type} {xs : List α} {i : Int} {v : α} (h : atI xs i = some v) : ∃ j, seqIndex? i xs.length = some j ∧ xs[j]? = some v ∧ j < xs.length ∧ -(xs.length : Int) ≤ i ∧ i < xs.length := by
 unfold atI at h
 cases e : ixN xs.length i with
 | none => rw [e] at h; cases h
 | some j =>
  rw [e] at h
  obtain ⟨h1, h2, h3, h4⟩ := mq5 e
  exact ⟨j, h1, h, h2, h3, h4⟩
theorem bqm {α : Type} {xs : List α} {j : Nat} {v : α} (h : xs[j]? = some v) : atI xs (j : Int) = some v := by
 have hj : j < xs.length := (List.getElem?_eq_some_iff.mp h).1
 have e : ixN xs.length (j : Int) = some j := by
  unfold ixN
  rw [if_pos (by omega), if_pos (by omega)]; simp
 unfold atI; rw [e]; exact h
def PlainIx (b : Expr) : Prop := ∀ o i, subscripted b false o i = operate [o, i] (getItem o i)
def IxR (X : Cx) (r : R2) : Prop :=
 ∀ (value slice : Expr) (pins : List (Addr × Obj)) (s : Shared) (σ : St) (H : Hp) (x y : V) (v u : Value) (Q : VK), Inv X pins σ H s → RelV x v → RelV y u → r x y H Q →
  subscripted slice false v u = operate [v, u] (getItem v u) → wpAny (model X.prog X.w) X.A (subscriptTail value slice v u) (EP X pins σ Q) X.xe s
def MtR (X : Cx) (id : String) (r : V → List V → Hp → VK → Prop) : Prop :=
 ∀ (pins : List (Addr × Obj)) (s : Shared) (σ : St) (H : Hp) (x : V) (xs : List V) (v : Value) (us : List Value) (Q : VK), Inv X pins σ H s → RelV x v → Vals xs us → r x xs H Q →
  wpAny (model X.prog X.w) X.A (call (.builtin id) (v :: us)) (EP X pins σ Q) X.xe s
section
variable {X : Cx} {a b : Expr} {ta tb : TE} {pos : Pos}
theorem IxR.or {r r' : R2} (h : IxR X r) (h' : IxR X r') : IxR X (fun x y H Q => r x y H Q ∨ r' x y H Q) := by
 intro value slice pins s σ H x y v u Q I rx ry q hs
 rcases q with q | q
 ·exact h value slice pins s σ H x y v u Q I rx ry q hs
 ·exact h' value slice pins s σ H x y v u Q I rx ry q hs
theorem dqA {r : R2} (hr : IxR X r) (ha : PE X a ta) (hb : PE X b tb) (hs : PlainIx b) : PE X (.Subscript a b pos) (tOp r ta tb) := by
 intro pins s σ H Q I h
 exact Subscript_ (binT ha hb I h fun v u s2 x y H2 I2 rx ry q => hr a b pins s2 σ H2 x y v u Q I2 rx ry q (hs _ _))
def rIxL (K : PySem.W.Frag) : R2 := fun x y H Q => ∃ p xs i v, x = .ref p ∧ y = .int i ∧ SqL K H p xs ∧ atI xs i = some v ∧ Q v H
def rIxT (K : PySem.W.Frag) : R2 := fun x y H Q => ∃ p xs i v, x = .ref p ∧ y = .int i ∧ SqT K H p xs ∧ atI xs i = some v ∧ Q v H
def rIxS : R2 := fun x y H Q => ∃ z i c, x = .str z ∧ y = .int i ∧ z.length ≤ sizeLine ∧ atI z.cps.toList i = some c ∧ Q (.str ⟨#[c]⟩) H
theorem nqT : IxR X (rIxL X.K) := by
 intro value slice pins s σ H x y v u Q I rx ry h hs
 obtain ⟨p, xs, i, z, rfl, rfl, hq, he, q⟩ := h
 cases rx
 obtain ⟨t, rfl⟩ := ry
 obtain ⟨its, r, pl, hz⟩ := I.list hq
 obtain ⟨j, h1, h2, h3, h4, h5⟩ := iqJ he
 obtain ⟨w, ew, rw'⟩ := r.get h2
 have hl := r.length
 have hn := line63
 have fin : EP X pins σ Q w s := ⟨z, H, I, rw', q⟩
 by_cases h0 : 0 ≤ i
 ·have hj : i.toNat = j := by
   rw [seqIndex_of h0 h5] at h1
   exact Option.some.inj h1
  exact item_listR pl.isList h0 (by omega) (by rw [hj]; simpa using ew) fin hs
 ·have hj : (i + (its.toArray.size : Int)).toNat = j := by
   rw [seqIndex_neg (by omega) h4] at h1
   rw [List.size_toArray, ← hl]
   exact Option.some.inj h1
  exact subscriptTail_builtinR (x := w) pl.isList.typeIs slot_list_getitem.lookup
   (wpAny_getItem_list_neg (Q := fun r s' => r = w ∧ EP X pins σ Q r s') pl.isList (by omega) (by rw [List.size_toArray] <;> omega) (by omega) (by rw [hj]; simpa using ew) ⟨rfl, fin⟩) hs
theorem oqA : IxR X (rIxT X.K) := by
 intro value slice pins s σ H x y v u Q I rx ry h hs
 obtain ⟨p, xs, i, z, rfl, rfl, hq, he, q⟩ := h
 cases rx
 obtain ⟨t, rfl⟩ := ry
 obtain ⟨its, r, pl, hz⟩ := I.tuple hq
 obtain ⟨j, h1, h2, h3, h4, h5⟩ := iqJ he
 obtain ⟨w, ew, rw'⟩ := r.get h2
 have hl := r.length
 have hn := line63
 have fin : EP X pins σ Q w s := ⟨z, H, I, rw', q⟩
 exact subscriptTail_builtinR (x := w) pl.typeIs slot_tuple_getitem.lookup
  (getItem_tuple (j := j) (Q := fun r s' => r = w ∧ EP X pins σ Q r s') pl (by omega) (by omega) (by rw [List.size_toArray, ← hl]; exact h1) (by simpa using ew) ⟨rfl, fin⟩) hs
theorem oqF : IxR X rIxS := by
 intro value slice pins s σ H x y v u Q I rx ry h hs
 obtain ⟨z, i, c, rfl, rfl, hz, he, q⟩ := h
 obtain ⟨t, rfl⟩ := rx
 obtain ⟨t', rfl⟩ := ry
 obtain ⟨j, h1, h2, h3, h4, h5⟩ := iqJ he
 have hl : z.cps.toList.length = z.length := by simp [Str.length]
 rw [hl] at h1 h4 h5
 have hn := line63
 exact tail_any (typeIs_str s z t) slot_str_getitem.lookup (getItem_str (c := c) (by
  have e1 : decide (i < -(2 ^ 63 : Int)) = false := decide_eq_false (by omega)
  have e2 : decide (i ≥ 2 ^ 63) = false := decide_eq_false (by omega)
  rw [e1, e2, Bool.or_false]) (by rw [h1]; simpa using h2) ⟨.str ⟨#[c]⟩, H, I.tok _, ⟨_, rfl⟩, q⟩) hs
def rIx (K : PySem.W.Frag) : R2 := fun x y H Q => rIxL K x y H Q ∨ rIxT K x y H Q ∨ rIxS x y H Q
theorem pqu : IxR X (rIx X.K) := nqT.or (oqA.or oqF)
def rSetL : V → V → V → Hp → (Hp → Prop) → Prop := fun o i v H Q => ∃ p xs k j, o = .ref p ∧ i = .int k ∧ H p = some (.lst xs) ∧ ixN xs.length k = some j ∧ Q (upd H p (.lst (xs.set j v)))
theorem iqv (lo hi : Option Int) (n : Nat) : (sliceBounds lo hi none n).1 = ((HT.sIx n 0 lo : Nat) : Int) ∧ (sliceBounds lo hi none n).2.1 = ((HT.sIx n n hi : Nat) : Int) ∧ (sliceBounds lo hi none n).2.2 = 1 := by
 refine ⟨?_, ?_, rfl⟩
 ·cases lo with
  | none => simp [sliceBounds, HT.sIx]
  | some i =>
   simp only [sliceBounds, HT.sIx, Option.getD_none, show (1 : Int) > 0 by decide, if_true]
   by_cases h : i < 0
   ·simp only [h, if_true] <;> omega
   ·simp only [h, if_false] <;> omega
 ·cases hi with
  | none => simp [sliceBounds, HT.sIx]
  | some i =>
   simp only [sliceBounds, HT.sIx, Option.getD_none, show (1 : Int) > 0 by decide, if_true]
   by_cases h : i < 0
   ·simp only [h, if_true] <;> omega
   ·simp only [h, if_false] <;> omega
theorem hqw (its : List Value) (lo hi : Option Int) : slicePick its.toArray lo hi none = ((its.drop (HT.sIx its.length 0 lo)).take (HT.sIx its.length its.length hi - HT.sIx its.length 0 lo)).toArray := by
 obtain ⟨h1, h2, h3⟩ := iqv lo hi its.toArray.size
 unfold slicePick
 rw [h1, h2, h3]
 simp only [sliceRange_one, pick_run, List.size_toArray] <;> rfl
def rSlL (K : PySem.W.Frag) : V → Option Int → Option Int → Hp → VK → Prop := fun x lo hi H Q => ∃ a xs, x = .ref a ∧ SqL K H a xs ∧ ∀ p, H p = none → Q (.ref p) (upd H p (.lst (cutV xs lo hi)))
theorem kqH : SlR X (rSlL X.K) := by
 intro pins s σ H x v vl vu lo hi sl Q I rx hs pl pu h
 obtain ⟨a, xs, rfl, hx, q⟩ := h
 cases rx
 obtain ⟨its, r, ht, hz⟩ := I.list hx
 have hlen := r.length
 refine ⟨"list", _, slot_list_getitem.lookup, ht.isList.typeIs, ?_⟩
 refine wpAny_getItem_list_slice ht.isList hs pl pu .none (by simp) ?_ (by rw [List.size_toArray] <;> omega)
 rw [hqw, ← hlen]
 refine ⟨.ref s.heap.objs.size, _, I.laid (t' := s.toks) (o := .lst (cutV xs lo hi)) (fun b ob q => Heap.get?_push_of_some _ q) (Nat.le_refl _) ?_, rfl, q _ (I.hok.fresh (Nat.le_refl _))⟩
 exact ⟨Nat.le_trans (iqY xs lo hi) hz, _, 0, (r.drop (HT.sIx xs.length 0 lo)).take (HT.sIx xs.length xs.length hi - HT.sIx xs.length 0 lo), Heap.get?_push_size _ rfl⟩
theorem iqx : CallR X (.builtin "len") (fun xs H Q => ∃ p ys, xs = [.ref p] ∧ (SqL X.K H p ys ∨ SqT X.K H p ys) ∧ Q (.int ys.length) H) := by
 intro pins s σ H xs us Q I r h
 obtain ⟨p, ys, rfl, hq, q⟩ := h
 obtain ⟨u, rfl, rx⟩ := vals1 r
 cases rx
 have hn := line63
 rcases hq with hq | hq
 ·obtain ⟨its, r', pl, hz⟩ := I.list hq
  have hlen := r'.length
  exact Calls.call_len_list pl.isList (by simp only [List.size_toArray] <;> omega) ⟨.int ys.length, H, I.tok _, ⟨s.toks + 1, by rw [List.size_toArray, hlen]⟩, q⟩
 ·obtain ⟨its, r', pl, hz⟩ := I.tuple hq
  have hlen := r'.length
  exact len_tuple pl (by simp only [List.size_toArray] <;> omega) ⟨.int ys.length, H, I.tok _, ⟨s.toks + 1, by rw [List.size_toArray, hlen]⟩, q⟩
theorem iqf : CallR X (.builtin "len") (fun xs H Q => ∃ z, xs = [.str z] ∧ z.length ≤ sizeLine ∧ Q (.int z.length) H) := by
 intro pins s σ H xs us Q I r h
 obtain ⟨z, rfl, hz, q⟩ := h
 obtain ⟨u, rfl, t, rfl⟩ := vals1 r
 have hn := line63
 exact len_str (by omega) ⟨.int z.length, H, I.tok _, ⟨_, rfl⟩, q⟩
theorem eqR : CallR X (.type "tuple") (fun xs H Q => ∃ p ys, xs = [.ref p] ∧ ((SqL X.K H p ys ∧ ∀ l, H l = none → Q (.ref l) (upd H l (.tup ys))) ∨ (SqT X.K H p ys ∧ Q (.ref p) H))) := by
 intro pins s σ H xs us Q I r h
 obtain ⟨p, ys, rfl, h⟩ := h
 obtain ⟨u, rfl, rx⟩ := vals1 r
 cases rx
 rcases h with ⟨hq, q⟩ | ⟨hq, q⟩
 ·obtain ⟨its, r', pl, hz⟩ := I.list hq
  have hlen := r'.length
  refine call_tuple_list pl.isList (fun h' kp => ?_) (by simp only [List.size_toArray] <;> omega)
  have I1 : Inv X pins σ H { s with heap := h' } := I.kept (t' := s.toks) kp
  have I2 : Inv X pins σ (upd H h'.objs.size (.tup ys)) { s with heap := h'.push { cls := .type "tuple", data := .seq its.toArray } } :=
   I1.laid (t' := s.toks) (fun b o e => Heap.get?_push_of_some _ e) (Nat.le_refl _) (show ObjOk X.prog X.w _ _ _ (.tup ys) from ⟨hz, its, r', IsTup.new _ _⟩)
  exact ⟨.ref h'.objs.size, _, I2, rfl, q _ (I1.hok.fresh (Nat.le_refl _))⟩
 ·obtain ⟨its, r', pl, hz⟩ := I.tuple hq
  exact call_tuple_same pl ⟨.ref p, H, I, rfl, q⟩
def tyV (K : PySem.W.Frag) (T : String) (x : V) (H : Hp) : Prop := match x with
 | .str _ => T = "str"
 | .int _ => T = "int"
 | .ref p => (T = "list" ∧ ∃ xs, SqL K H p xs) ∨ (T = "tuple" ∧ ∃ o, K.lookup p = some o ∧ o.cls = .type "tuple" ∧ o.dict = none) ∨
   (T = "dict" ∧ ((∃ kvs, H p = some (.dK kvs)) ∨ ∃ kvs, H p = some (.dT kvs))) ∨ (T = "set" ∧ ∃ S n, H p = some (.set S n))
 | _ => False
theorem oq7 {pins : List (Addr × Obj)} {σ : St} {H : Hp} {s : Shared} {T : String} {x : V} {v : Value} (I : Inv X pins σ H s) (r : RelV x v) (ty : tyV X.K T x H) :
  s.TypeIs v T ∧ ∀ a, v = .ref a → ∃ ob, s.heap.get? a = some ob ∧ ob.dict = none := by
 cases x with
 | str z =>
  obtain ⟨t, rfl⟩ := r
  cases (show T = "str" from ty)
  exact ⟨typeIs_str s z t, fun _ e => nomatch e⟩
 | int i =>
  obtain ⟨t, rfl⟩ := r
  cases (show T = "int" from ty)
  exact ⟨typeIs_int s i t, fun _ e => nomatch e⟩
 | ref p =>
  cases r
  rcases ty with ⟨rfl, xs, hq⟩ | ⟨rfl, o, hk, hc, hd⟩ | ⟨rfl, hk⟩ | ⟨rfl, S, n, hk⟩
  ·obtain ⟨its, _, pl, _⟩ := I.list hq
   refine ⟨pl.isList.typeIs, fun a e => ?_⟩
   cases e
   obtain ⟨o, n, e, c, hd, _⟩ := pl
   exact ⟨o, e, hd⟩
  ·refine ⟨⟨o, I.kIn p o hk, hc⟩, fun a e => ?_⟩
   cases e
   exact ⟨o, I.kIn _ o hk, hd⟩
  ·have z : ∃ o, s.heap.get? p = some o ∧ o.ExactDict := by
    rcases hk with ⟨kvs, hk⟩ | ⟨kvs, hk⟩
    ·obtain ⟨_, _, _, _, o, _, _, e, ex, _⟩ := I.hok p _ hk
     exact ⟨o, e, ex⟩
    ·obtain ⟨_, _, _, _, o, _, _, e, ex, _⟩ := I.hok p _ hk
     exact ⟨o, e, ex⟩
   obtain ⟨o, e, ex⟩ := z
   refine ⟨⟨o, e, ex.1⟩, fun a e2 => ?_⟩
   cases e2
   exact ⟨o, e, ex.2.1⟩
  ·obtain ⟨o, _, _, _, e, ex, _⟩ := I.hok p _ hk
   refine ⟨⟨o, e, ex.1⟩, fun a e2 => ?_⟩
   cases e2
   exact ⟨o, e, ex.2.1⟩
 | _ => exact False.elim ty
def tBM0 (K : PySem.W.Frag) (T : String) (r : V → List V → Hp → VK → Prop) (to : TE) : TE := fun σ H Q => to σ H fun x H1 => tyV K T x H1 ∧ r x [] H1 Q
def tBM (K : PySem.W.Frag) (T : String) (r : V → List V → Hp → VK → Prop) (to : TE) (t : TA) : TE := fun σ H Q => to σ H fun x H1 => tyV K T x H1 ∧ t σ H1 fun xs H2 => r x xs H2 Q
variable {o e : Expr} {es : List Expr} {to : TE} {t : TA} {name : Str} {apos cpos : Pos} {T id : String} {r : V → List V → Hp → VK → Prop}
theorem qqC (pa : PlainAttrs T) (slot : Slot T name id) (hty : typeOf (.builtin id) = pure (.type "method_descriptor")) (hm : MtR X id r) (ho : PE X o to) (ha : PA X (e :: es) t)
  (hbase : attributeBase o name X.env (eval o X.env) = eval o X.env := by rfl)
  (hfew : ((backTo cpos (starEach (e :: es) X.env)).all (fun x => !x.1) && (backToKw cpos (keywordEach [] X.env)).all (fun x => x.1.isSome)
   && decide ((e :: es).length + ([] : List Keyword).length + (if ([] : List Keyword).isEmpty then 0 else 1) < 30)) = true := by rfl)
  (hline : (apos.endLine == cpos.line) = true := by rfl) (hs : starEach (e :: es) X.env = (false, eval e X.env) :: starEach es X.env := by rfl) (hplain : (backTo cpos (starEach es X.env)).any (·.1) = false := by rfl) :
  PE X (.Call (.Attribute o name apos) (e :: es) [] cpos) (tBM X.K T r to t) := by
 intro pins s σ H Q I h
 refine wpAny_Call_method_late hbase hfew hline rfl (thn (ho pins s σ H _ I h) fun v s1 W' => ?_)
 obtain ⟨x, H1, I1, r1, ty, q1⟩ := W'
 obtain ⟨h1, h2⟩ := oq7 I1 r1 ty
 refine ⟨T, id, pa, slot, hty, h1, h2, ?_⟩
 have hA := ha cpos pins s1 σ H1 _ I1 q1
 rw [hs] at hA ⊢
 refine Calls.callWith_builtin (by show (false || (backTo cpos (starEach es X.env)).any (·.1)) = false; rw [hplain] <;> rfl) (Calls.evalArgs_plain ?_)
 exact thn hA fun us s2 ⟨vs, H2, I2, r2, q2⟩ => hm pins s2 σ H2 x vs v us Q I2 r1 r2 q2
end
def MtM (X : Cx) (id : String) (r : V → List V → Hp → VK → Prop) : Prop :=
 ∀ (pins : List (Addr × Obj)) (s : Shared) (σ : St) (H : Hp) (x : V) (xs : List V) (v : Value) (us : List Value) (Q : VK), Inv X pins σ H s → RelV x v → Vals xs us → r x xs H Q →
  wpAny (model X.prog X.w) X.A (call (.builtin id) (v :: us)) (EP X pins σ Q) X.xe s
theorem Vals.one : ∀ {x : V} {us : List Value}, Vals [x] us → ∃ u, us = [u] ∧ RelV x u
 | _, _, .cons r .nil => ⟨_, rfl, r⟩
section
variable {X : Cx} {pins : List (Addr × Obj)} {σ : St} {H : Hp} {s : Shared} {l b : Addr} {xs ys zs : List V}
theorem Inv.lset {its its' : List Value} {n : Nat} {f : Array Value → Array Value} {t' : Nat} (I : Inv X pins σ H s) (hH : H l = some (.lst xs))
  (e : s.heap.get? l = some { cls := .type "list", data := .seq its.toArray n }) (hf : f its.toArray = its'.toArray) (hv : Vals ys its') (hz : ys.length ≤ sizeLine) :
  Inv X pins σ (upd H l (.lst ys)) { s with heap := s.heap.update l (Obj.mapSeq f), toks := t' } := by
 have q := PySem.IsL.update e f
 rw [hf] at q
 refine I.write (x := l) (e := l) (by rw [hH]; exact trivial) (.inl rfl) (fun b' u hb hu => (Heap.get?_update_other s.heap (Obj.mapSeq f) (Ne.symm hb)).trans hu) ⟨_, q⟩ ?_
 exact ⟨hz, its', _, hv, q⟩
theorem Inv.lnew {its : List Value} {t' : Nat} (I : Inv X pins σ H s) (hv : Vals ys its) (hz : ys.length ≤ sizeLine) :
  Inv X pins σ (upd H s.heap.objs.size (.lst ys)) { s with heap := s.heap.push { cls := .type "list", data := .seq its.toArray }, toks := t' } :=
 I.laid (fun _ _ q => Heap.get?_push_of_some _ q) (Nat.le_refl _) ⟨hz, its, 0, hv, Heap.get?_push_size _ rfl⟩
theorem Inv.fresh (I : Inv X pins σ H s) : H s.heap.objs.size = none := I.hok.fresh (Nat.le_refl _)
theorem Inv.lstM (I : Inv X pins σ H s) (hH : H l = some (.lst xs)) : xs.length ≤ sizeLine ∧ ∃ (its : List Value) (n : Nat), Vals xs its ∧ xs.length = its.length ∧ s.heap.get? l = some { cls := .type "list", data := .seq its.toArray n } := by
 obtain ⟨z, its, n, r, e⟩ := I.hok l _ hH
 exact ⟨z, its, n, r, r.length, e⟩
end
section
variable {X : Cx}
def rAppend : V → List V → Hp → VK → Prop := fun x vs H Q => ∃ l xs y, x = .ref l ∧ vs = [y] ∧ H l = some (.lst xs) ∧ xs.length < sizeLine ∧ Q .non (upd H l (.lst (xs ++ [y])))
theorem eqT : MtM X "list.append" rAppend := by
 intro pins s σ H x vs v us Q I rx rv h
 obtain ⟨l, xs, y, rfl, rfl, hH, hz, q⟩ := h
 cases rx
 obtain ⟨u, rfl, ru⟩ := rv.one
 obtain ⟨z, its, n, r, hl, e⟩ := I.lstM hH
 refine call_meets F.slot_list_append ⟨_, e, rfl⟩ F.entry_list_append (F.args_list_append_2 _ _) (PySem.list_append l its.toArray n u (by rw [List.size_toArray]; omega)) ⟨e, ?_⟩
 refine ⟨.non, _, I.lset (its' := its ++ [u]) hH e (by simp) (r.append (.cons ru .nil)) ?_, rfl, q⟩
 rw [List.length_append, List.length_singleton]
 omega
def rPop : V → List V → Hp → VK → Prop := fun x vs H Q => ∃ l xs y, x = .ref l ∧ vs = [] ∧ H l = some (.lst xs) ∧ xs[xs.length - 1]? = some y ∧ Q y (upd H l (.lst xs.dropLast))
def rPopAt : V → List V → Hp → VK → Prop := fun x vs H Q => ∃ l xs i k y, x = .ref l ∧ vs = [.int i] ∧ H l = some (.lst xs) ∧ -(2 ^ 63) ≤ i ∧ i < 2 ^ 63 ∧ seqIndex? i xs.length = some k ∧ xs[k]? = some y ∧ Q y (upd H l (.lst (xs.eraseIdx k)))
def rReverse : V → List V → Hp → VK → Prop := fun x vs H Q => ∃ l xs, x = .ref l ∧ vs = [] ∧ H l = some (.lst xs) ∧ Q .non (upd H l (.lst xs.reverse))
def rCat : R2 := fun x y H Q => ∃ l b xs zs, x = .ref l ∧ y = .ref b ∧ H l = some (.lst xs) ∧ H b = some (.lst zs) ∧ xs.length + zs.length ≤ sizeLine ∧ ∀ p, H p = none → Q (.ref p) (upd H p (.lst (xs ++ zs)))
theorem oqI : OpR X (binaryOp .Add) rCat := by
 intro pins s σ H x y v u Q I rx ry h
 obtain ⟨l, b, xs, zs, rfl, rfl, hH, hB, hz, q⟩ := h
 cases rx
 cases ry
 obtain ⟨z, its, n, r, hl, e⟩ := I.lstM hH
 obtain ⟨z2, its2, n2, r2, hl2, e2⟩ := I.lstM hB
 refine PySem.P.add_list e e2 ?_ (by rw [List.size_toArray, List.size_toArray]; omega)
 have ea : its.toArray ++ its2.toArray = (its ++ its2).toArray := by simp
 rw [ea]
 exact ⟨.ref _, _, I.lnew (t' := s.toks) (r.append r2) (by rw [List.length_append]; omega), rfl, q _ I.fresh⟩
end
section
variable {prog : Program} {w : World} {A : Around} {E : Value → Shared → Prop} {s : Shared}
set_option maxRecDepth 100000 in
end
section
variable {X : Cx}
end
end L2
namespace Att
open PySem PySem.W PySem.Calls PyProof.Rows
theorem gqi {P : Params} {h : Heap} : ∀ (ns : List Int) (vs : List Value), WellAll P h vs (ns.map WData.int) → IntsAre vs ns := by
 intro ns
 induction ns with
 | nil =>
  intro vs w
  rw [List.map_nil] at w
  cases w
  exact .nil
 | cons n ns ih =>
  intro vs w
  rw [List.map_cons] at w
  cases w with
  | cons a b =>
   cases a
   exact .cons _ _ (ih _ b)
theorem kqt {l : OpenLaw} {n : Nat} (hn : l.most = some n) {P : Params} {h : Heap} {args : List WData} {vals : List Value}
  (hpre : l.row.toRowW.claim.pre args = true) (hwl : WellAll P h vals args) :
  ∃ a vs ns, vals = [Value.ref a] ∧ args = [WData.list (ns.map WData.int)] ∧ h.get? a = some { cls := .type "list", data := .seq vs.toArray } ∧ IntsAre vs ns ∧ ns.length ≤ n := by
 have hsh : WShape.hasAll [] args [.list .int] = true := (pre_splitW hpre).1
 have hc : l.pre.holds [] { args := args } = true := (pre_splitW hpre).2
 obtain ⟨d, r, rfl, h1, h2⟩ := hasAllW_cons hsh
 obtain rfl := hasAllW_nil h2
 obtain ⟨xs, rfl, h3⟩ := hasW_list h1
 obtain ⟨ns, rfl⟩ := items_int h3
 have hlen : ns.length ≤ n := by
  unfold OpenLaw.pre at hc
  have h4 : (WTm.not (.lt (.lit (.int (n : Int))) (.len (.arg 0)))).holds [] { args := [.list (ns.map .int)] } = true := by
   have h4 := (holds_andW hc).1
   rw [hn] at h4
   exact h4
  have h5 := condW_of h4 (w_not (w_lt w_lit (w_len_list (w_arg rfl))))
  rw [List.length_map] at h5
  refine Nat.le_of_not_lt fun q => ?_
  have q' : (n : Int) < ((ns.length : Nat) : Int) := by omega
  first
   | (rw [decide_eq_true q'] at h5; exact absurd h5 (by decide))
   | (simp at h5; omega)
 cases hwl with
 | cons w1 w2 =>
  cases w2
  cases w1 with
  | list ho hall => exact ⟨_, _, ns, rfl, rfl, ho, gqi ns _ hall, hlen⟩
theorem kq6 (l : OpenLaw) (args : List WData) : l.row.toRowW.claim.post args (.bool true) args = true :=
 postW_of (r := l.row.toRowW) (X := (true == true))
  (show WShape.has [] (.bool true) .bool = true by first | rfl | decide | simp [WShape.has, WShape.arms, WShape.armsAll])
  (show (WTm.eq .res (.lit (.bool true))).value [] { args := args, res := some (.bool true), after := args } = some (.bool (true == true)) from w_eq_bool (w_res rfl) w_lit) rfl
theorem attach_call {l : OpenLaw} {n : Nat} {q : Program} {loose : List Str} {XP : (Str → Option Value) → Heap → Prop} {YP : World → Heap → Prop} {d : DefRec}
  (hn : l.most = some n) (hdf : d.params.defaults = [])
  (call : ∀ (w : World) (s₀ s₁ : Shared) (mg mb : Str → Option Value) (fa : Addr) (o : Obj) (pm cd doc : Value) (a : Addr) (vs : List Value) (ns : List Int),
   Ground q loose [] XP w s₀ mg mb s₁.heap → YP w s₁.heap →
   s₁.heap.get? fa = some o → o.data = .func (docDef d.name d.params d.body d.scope pm cd doc) → s₁.heap.CodeRec cd d.name → mg d.name = some (.ref fa) →
   s₁.heap.get? a = some { cls := .type "list", data := .seq vs.toArray } → IntsAre vs ns → ns.length ≤ n → s₁.gens = #[] →
   codeAny (model l.prog w) callerA (.call (.ref fa) ⟨[.ref a], []⟩) (fun r s' => r = .ok (.ret (.bool true)) ∧ OldK s₁.heap s'.heap ∧ s'.os = s₁.os ∧ AllBare s'.gens) s₁) :
  WalkO q loose XP YP l.row.toRowW d [] (fun f vs => PySem.call f vs) := by
 intro w s₀ s₁ mg mb G Y fa o pm cd doc dV kV ho hd hcd hD hmg hg args vals as hpre hlay hrd hwl hlo
 obtain rfl : dV = .none := Dflts.none hD hdf
 obtain rfl : kV = .none := Dflts.noKw hD
 obtain ⟨a, vs, ns, rfl, rfl, hobj, hints, hlen⟩ := kqt hn hpre hwl
 refine enter_call (codeAny_mono (call w s₀ s₁ mg mb fa o pm cd doc a vs ns G Y ho (fd_plain hd) hcd hmg hobj hints hlen hg) fun r s' hq => ?_)
 obtain ⟨rfl, h2, h3, h4⟩ := hq
 exact ⟨.inl ⟨.bool true, .bool true, [], rfl, fun _ => rfl, .bool true, kq6 l _, fun _ => ⟨List.Pairwise.nil, fun _ hm => (nomatch hm)⟩⟩, h2, h3, h4⟩
section
variable {prog : Program} {w : World} {A : Around} {E : Value → Shared → Prop} {s : Shared} {K : Frag}
def ledger (h : Heap) (L d : Addr) : List (Addr × Obj) := (List.range h.objs.size).filterMap fun a => if a = L ∨ a = d then none else (h.get? a).map fun o => (a, o)
end
end Att
namespace L2
open PySem PySem.Spec PyProof.Rows
theorem iqi : ∀ {vs : List Value} {ns : List Int}, IntsAre vs ns → Vals (ns.map V.int) vs
 | _, _, .nil => .nil
 | _, _, .cons n t h => .cons ⟨t, rfl⟩ (iqi h)
def Only (H : Hp) : Prop := ∀ b, H b = none ∨ ∃ o xs, H b = some (.frz o (.lst xs))
theorem lqB {P : Program} {w : World} {K : PySem.W.Frag} {mg mb : Str → Option Value} {CX : CXT} {k : Nat} {fa a : Addr} {fd : FuncData} {x : Str} {sp : Sp} {s₁ : Shared} {vs : List Value} {ns : List Int}
  (KX : K.In s₁.heap) (hns : s₁.heap.Ns mainGlobals mg) (hb : s₁.heap.Ns builtinsNs mb) (hbb : ∀ x : Str, x ≠ "__name__" → mb x = bootBuiltins x) (hlim : s₁.heap.NoLimit) (hg : s₁.gens = #[])
  (ha : s₁.heap.get? a = some { cls := .type "list", data := .seq vs.toArray }) (hi : IntsAre vs ns) (hl : ns.length ≤ sizeLine) (hr : Room k callerA)
  (F : ∀ base : Heap, K.In base → base.Ns mainGlobals mg → FnOk P w K mg base CX k fa fd [x] sp) (hbind : ∀ (s : Shared) (u : Value), BindsTo s fd ⟨[u], []⟩ [(x, u)])
  (hsp : ∀ H : Hp, Only H → SqL K H a (ns.map V.int) → sp [.ref a] H (fun v _ => v = .bl true) fun _ _ _ => False)
  (hCX : ∀ H e s', CX [] H s₁ (fun _ _ _ => False) e s' → False) :
  codeAny (model P w) callerA (.call (.ref fa) ⟨[.ref a], []⟩) (fun r s' => r = .ok (.ret (.bool true)) ∧ OldK s₁.heap s'.heap ∧ s'.os = s₁.os ∧ AllBare s'.gens) s₁ := by
 have rv := iqi hi
 have lenV := hi.length
 have core : ∀ H : Hp, Only H → SqL K H a (ns.map V.int) → HOk P w H s₁.heap → (∀ b, H b ≠ none → b = a) → (H a ≠ none → K.lookup a = none) →
   codeAny (model P w) callerA (.call (.ref fa) ⟨[.ref a], []⟩) (fun r s' => r = .ok (.ret (.bool true)) ∧ OldK s₁.heap s'.heap ∧ s'.os = s₁.os ∧ AllBare s'.gens) s₁ := by
  intro H hO hS hok hA hK
  have base_of : ∀ {b : Addr} {o : Obj}, s₁.heap.get? b = some o → H b = none → (hidT s₁.heap H).get? b = some o := fun e n => lqu e n
  have noA : ∀ {b : Addr} {o : Obj} {es : Array DictEntry} {ep : Nat}, s₁.heap.get? b = some o → o.data = .dict es ep → H b = none := fun {b o es ep} e d => by
   cases q : H b with
   | none => rfl
   | some u =>
    have e' : b = a := hA b (by rw [q]; simp)
    subst e'
    rw [ha] at e; cases e
    have d' : Data.seq vs.toArray _ = Data.dict es ep := d
    cases d'
  have nsK : ∀ {b : Addr} {m : Str → Option Value}, s₁.heap.Ns b m → (hidT s₁.heap H).Ns b m := fun {b m} ⟨o, es, ep, e, d, r⟩ => ⟨o, es, ep, base_of e (noA e d), d, r⟩
  have hKb : K.In (hidT s₁.heap H) := fun b o e => base_of (KX b o e) (by
   cases q : H b with
   | none => rfl
   | some u =>
    have e' : b = a := hA b (by rw [q]; simp)
    subst e'
    rw [hK (by rw [q]; simp)] at e; cases e)
  have hM : Mod K mg (hidT s₁.heap H) := ⟨hKb, nsK hns, ⟨mb, nsK hb, hbb⟩, let ⟨mc, h1, h2⟩ := hlim; ⟨mc, nsK h1, h2⟩⟩
  have e0 : Env0 P w K mg (hidT s₁.heap H) callerA [] s₁ H := ⟨rfl, hM, fun b o e => nqz e, Nat.le_of_eq (kqZ _ _), trivial, fun b hb => absurd (show b ∈ ([] : List Addr) from hb) (by simp), hok, .of_eq hg⟩
  refine codeAny_mono ((F _ hKb (nsK hns)).run callerA [] s₁ H ⟨[.ref a], []⟩ [.ref a] [.ref a] _ _ hr e0 (hbind s₁ (.ref a)) (.cons rfl .nil) (hsp H hO hS)) fun r s' h => ?_
  cases r with
  | error e => exact (hCX H e s' h).elim
  | ok fl =>
   cases fl with
   | next => exact False.elim h
   | brk => exact False.elim h
   | cont => exact False.elim h
   | ret u =>
    obtain ⟨v, H', os, bare, un, hok', r', q⟩ := h
    have q' : v = .bl true := q
    subst q'
    obtain rfl : u = Value.bool true := r'
    refine ⟨rfl, OldK.of_keep fun b o e => ?_, os, bare⟩
    cases q : H b with
    | none => exact un.keep b o e q (by intro z; exact absurd (show b ∈ ([] : List Addr) from z) (by simp)) (by simp)
    | some u =>
     rcases hO b with z | ⟨ob, xs, z⟩
     ·rw [q] at z; cases z
     ·have z2 := un.frzs b ob _ z
      obtain ⟨e1, _⟩ := hok b _ z
      obtain ⟨e2, _⟩ := hok' b _ z2
      rw [e] at e1; cases e1
      exact e2
 cases hk : K.lookup a with
 | some o =>
  have e := KX a o hk
  rw [ha] at e
  cases e
  refine core (fun _ => none) (fun _ => .inl rfl) (.inr ⟨_, vs.toArray, _, hk, rfl, rfl, rfl, by rw [List.size_toArray, lenV]; exact hl, by simpa using rv⟩) (fun b u z => by have z' : (none : Option HO) = some u := z; cases z') (fun b z => absurd rfl z) fun z => absurd rfl z
 | none =>
  refine core (fun b => if b = a then some (.frz { cls := .type "list", data := .seq vs.toArray } (.lst (ns.map V.int))) else none) (fun b => ?_) (.inl (.inr ⟨{ cls := .type "list", data := .seq vs.toArray }, if_pos rfl⟩)) (fun b u z => ?_) (fun b z => ?_) fun _ => hk
  ·by_cases hb : b = a
   ·exact .inr ⟨_, _, if_pos hb⟩
   ·exact .inl (if_neg hb)
  ·by_cases hb : b = a
   ·have z' := (if_pos hb).symm.trans z
    cases z'
    subst hb
    exact ⟨ha, by rw [List.length_map]; exact hl, vs, _, rv, ha⟩
   ·have z' := (if_neg hb).symm.trans z
    cases z'
  ·by_cases hb : b = a
   ·exact hb
   ·exact absurd (if_neg hb) z
abbrev KOf {K : PySem.W.Frag} {h : Heap} (_ : K.In h) : PySem.W.Frag := K
theorem nqi {l : PySem.W.OpenLaw} {n k : Nat} {q : Program} {loose : List Str} {XP : (Str → Option Value) → Heap → Prop} {YP : World → Heap → Prop} {d : DefRec} {K : Params → PySem.W.Frag} {CX : World → CXT} {sp : World → Sp} {x : Str}
  (hn : l.most = some n) (hn2 : n ≤ sizeLine) (hdf : d.params.defaults = []) (hr : Room k callerA)
  (hY : ∀ (w : World) (h : Heap), YP w h → (K w.params).In h)
  (F : ∀ (w : World) (mg : Str → Option Value) (fa : Addr) (h : Heap), (K w.params).In h → h.Ns mainGlobals mg → mg d.name = some (.ref fa) →
   ∃ fd : FuncData, (∀ (s : Shared) (u : Value), BindsTo s fd ⟨[u], []⟩ [(x, u)]) ∧
    ∀ base : Heap, (K w.params).In base → base.Ns mainGlobals mg → FnOk l.prog w (K w.params) mg base (CX w) k fa fd [x] (sp w))
  (hsp : ∀ (w : World) (H : Hp) (a : Addr) (ns : List Int), ns.length ≤ n → Only H → SqL (K w.params) H a (ns.map V.int) → sp w [.ref a] H (fun v _ => v = .bl true) fun _ _ _ => False)
  (hCX : ∀ (w : World) (H : Hp) (s : Shared) (e : Value) (s' : Shared), CX w [] H s (fun _ _ _ => False) e s' → False) :
  PySem.W.WalkO q loose XP YP l.row.toRowW d [] (fun f vs => PySem.call f vs) := by
 refine Att.attach_call hn hdf fun w s₀ s₁ mg mb fa o pm cd doc a vs ns G Y ho hd hcd hmg hobj hints hlen hg => ?_
 have KX := hY w _ Y
 obtain ⟨fd, hb, hF⟩ := F w mg fa _ KX G.T.g hmg
 exact lqB KX G.T.g G.T.b G.T.builtins G.T.nolimit hg hobj hints (Nat.le_trans hlen hn2) hr hF hb (fun H hO hS => hsp w H a ns hlen hO hS) fun H e s' => hCX w H s₁ e s'
def inClass (s : Stmt) (j : Nat) : Stmt := match s with
 | .ClassDef _ _ _ body _ _ _ _ _ _ _ => body.getD j (.Pass ⟨0, 0, 0, 0⟩)
 | _ => .Pass ⟨0, 0, 0, 0⟩
def defArgs (s : Stmt) : Arguments := match s with
 | .FunctionDef _ a _ _ _ _ _ _ _ _ => a
 | _ => { posonlyargs := [], args := [], vararg := none, kwonlyargs := [], kw_defaults := [], kwarg := none, defaults := [] }
def defBody (s : Stmt) : List Stmt := match s with
 | .FunctionDef _ _ b _ _ _ _ _ _ _ => b
 | _ => []
def defScope (s : Stmt) : Scope := match s with
 | .FunctionDef _ _ _ _ _ _ sc _ _ _ => sc
 | _ => { kind := .function, names := [], isGenerator := false, isCoroutine := false }
abbrev CX0 : CXT := fun _ _ _ _ _ _ => False
abbrev E0 : XK := fun _ _ _ => False
theorem pass0 {X : Cx} : Passes CX0 X E0 := fun _ _ _ _ _ _ _ h => h.elim
structure Fun (K : PySem.W.Frag) (x qual : Str) (st : Stmt) (f : Addr) (fd : FuncData) : Prop where
 ex : ∃ (oc : Value) (od : Option Addr) (kV doc pm : Value) (an : Option Addr) (cdv ct : Value) (osl : Array (Option Value)),
  fd = PySem.W.fnOf x qual (defArgs st) (defBody st) (defScope st) .none kV doc pm an cdv ct ∧ K.lookup f = some ⟨oc, od, .func fd, osl⟩ ∧ PySem.W.codeIn K cdv qual = true
 kp : PySem.W.keepIn K (.ref f) = true
section
variable {P : Program} {w : World} {K : PySem.W.Frag} {mg : Str → Option Value} {base : Heap}
theorem Fun.ok {x qual : Str} {st : Stmt} {f : Addr} {fd : FuncData} {N ps : List Str} {k : Nat} {sp : Sp} (F : Fun K x qual st f fd) (S : FnScope N ps (defScope st)) (len : ∀ vs H Q E, sp vs H Q E → vs.length = ps.length)
  (hbody : ∀ (cdv : Value) (A : Around) (outer : List Env) (s : Shared) (H : Hp) (vs : List V) (Q : VK) (E : XK), Room k (A.deeper (envOfC qual (defScope st) s.heap.objs.size f cdv)) → sp vs H Q E →
   ∃ t, PSs (cxOf CX0 P w K mg base N qual (defScope st) f cdv A outer s H E).nox (defBody st) t ∧ t { nx := fun _ H' => Q .non H', rt := Q } (start N vs) H) : FnOk P w K mg base CX0 (k + 1) f fd ps sp := by
 obtain ⟨oc, od, kV, doc, pm, an, cdv, ct, osl, rfl, lk, hcd⟩ := F.ex
 refine mqW lk hcd S len fun A outer s H vs Q E hr hsp => ?_
 obtain ⟨t, h, q⟩ := hbody cdv A outer s H vs Q E hr hsp
 exact ⟨t, h.nox, q⟩
theorem Fun.binds {x qual : Str} {st : Stmt} {f : Addr} {fd : FuncData} {ps : List Str} (F : Fun K x qual st f fd)
  (h : ∀ (kV doc pm : Value) (an : Option Addr) (cdv ct : Value) (us : List Value), us.length = ps.length → bindArgs (PySem.W.fnOf x qual (defArgs st) (defBody st) (defScope st) .none kV doc pm an cdv ct) ⟨us, []⟩ = pure (ps.zip us)) : Binds K fd ps [] := by
 obtain ⟨oc, od, kV, doc, pm, an, cdv, ct, osl, rfl, lk, hcd⟩ := F.ex
 exact .all (h kV doc pm an cdv ct)
theorem aqX {x qual : Str} {st : Stmt} {f : Addr} {oc : Value} {od an : Option Addr} {osl : Array (Option Value)} {kV doc pm cdv ct : Value} (l : K.lookup f = some ⟨oc, od, .func (PySem.W.fnOf x qual (defArgs st) (defBody st) (defScope st) .none kV doc pm an cdv ct), osl⟩)
  (c : PySem.W.codeIn K cdv qual = true) (k : PySem.W.keepIn K (.ref f) = true) : Fun K x qual st f (PySem.W.fnOf x qual (defArgs st) (defBody st) (defScope st) .none kV doc pm an cdv ct) := ⟨⟨oc, od, kV, doc, pm, an, cdv, ct, osl, rfl, l, c⟩, k⟩
end
section
variable {X : Cx}
theorem pv (i : Nat) {x : Str} {pos : Pos} (hN : X.N[i]? = some x := by rfl) (hv : Vis X.env.scope x := by first | exact Or.inl rfl | exact Or.inr (Or.inl rfl) | exact Or.inr (Or.inr rfl)) (hd : (x == ("__debug__" : Str)) = false := by decide)
  (hcd : (x == ("__classdict__" : Str)) = false := by decide) : PE X (.Name x pos) (tVar i) := pqs hN hv hd hcd
end
theorem ite2 {c A B : Prop} [Decidable c] (h1 : c → A) (h2 : ¬ c → B) : if c then A else B := by
 by_cases h : c
 ·rw [if_pos h]
  exact h1 h
 ·rw [if_neg h]
  exact h2 h
def Same (H H' : Hp) : Prop := ∀ b o, H b = some o → H' b = some o
theorem Same.refl (H : Hp) : Same H H := fun _ _ h => h
theorem Same.trans {H H1 H2 : Hp} (a : Same H H1) (b : Same H1 H2) : Same H H2 := fun c o h => b c o (a c o h)
end L2
set_option maxHeartbeats 4000000
namespace L2
open PySem PySem.Spec PyProof.Rows
def Its (z : Str) : It := ⟨fun i _ => i < z.length, fun i H x H' => H' = H ∧ ∃ c, z.cps.toList[i]? = some c ∧ x = .str ⟨#[c]⟩, fun i _ => z.length ≤ i⟩
theorem kqT {z : Str} {i : Nat} (h : i < z.length) : ∃ c, z.cps[i]? = some c ∧ z.cps.toList[i]? = some c := by
 have h' : i < z.cps.size := h
 exact ⟨z.cps[i], by simp [h'], by simp [h']⟩
theorem iq7 {z : Str} {i : Nat} (h : z.length ≤ i) : z.cps[i]? = none := by
 have h' : z.cps.size ≤ i := h
 simp [h']
theorem jqX {P : Program} {w : World} {K : PySem.W.Frag} {tg : Expr} (it : Addr) (z : Str) (t : Tok) : Turn P w K tg (Its z) [it] it (fun i h => h.IsStrIter it "str_ascii_iterator" z t i) where
 mem := by simp
 obj := fun i h st b hb => by
  have e : b = it := by simpa using hb
  subst e
  obtain ⟨o, e, c, d⟩ := st
  exact ⟨o, e, fun v z => by rw [d] at z; cases z⟩
 keep := fun i h h' st k => by
  obtain ⟨o, e, r⟩ := st
  exact ⟨o, k it (by simp) o e, r⟩
 item := by
  intro X hP hw hK hc i pins s σ H E I hf st hg
  subst hP hw hK
  obtain ⟨c, h1, h2⟩ := kqT (z := z) (i := i) hg
  obtain ⟨f0, f1, f2, f3, f4, f5⟩ := hf it (by simp)
  refine wpAny_pyNext_ascii_item st h1 fun h' st' sb => ?_
  have I1 : Inv X pins σ H { s with heap := h', toks := s.toks + 1 } := I.turned (t' := s.toks + 1) (fun b o hb e => (sb.2 b hb).trans e) f0 f1 f3 f4 f5
  obtain ⟨o, e, cl, d⟩ := id st'
  exact ⟨_, rfl, lqf (s := { s with heap := h', toks := s.toks + 1 }) e cl d (by decide) ⟨.str ⟨#[c]⟩, H, I1, ⟨_, rfl⟩, ⟨rfl, c, h2, rfl⟩, st', fun b hb => (hf b hb).1⟩⟩
 done := by
  intro X hP hw hK hc i pins s σ H E I hf st hg
  subst hP hw hK
  obtain ⟨f0, f1, f2, f3, f4, f5⟩ := hf it (by simp)
  exact wpAny_pyNext_ascii_end (I.ok.hd hc) st (iq7 hg) fun h' eb => ⟨rfl, I.turned (t' := s.toks) (fun b o hb e => eb b o hb e) f0 f1 f3 f4 f5⟩
 self := fun _ _ _ _ _ st h => wpAny_pyIter_striter_ascii st h
theorem jq3 {P : Program} {w : World} {K : PySem.W.Frag} {tg : Expr} (it : Addr) (z : Str) (t : Tok) : Turn P w K tg (Its z) [it] it (fun i h => h.IsStrIter it "str_iterator" z t i) where
 mem := by simp
 obj := fun i h st b hb => by
  have e : b = it := by simpa using hb
  subst e
  obtain ⟨o, e, c, d⟩ := st
  exact ⟨o, e, fun v z => by rw [d] at z; cases z⟩
 keep := fun i h h' st k => by
  obtain ⟨o, e, r⟩ := st
  exact ⟨o, k it (by simp) o e, r⟩
 item := by
  intro X hP hw hK hc i pins s σ H E I hf st hg
  subst hP hw hK
  obtain ⟨c, h1, h2⟩ := kqT (z := z) (i := i) hg
  obtain ⟨f0, f1, f2, f3, f4, f5⟩ := hf it (by simp)
  refine wpAny_pyNext_wide_item st h1 fun h' st' sb => ?_
  have I1 : Inv X pins σ H { s with heap := h', toks := s.toks + 1 } := I.turned (t' := s.toks + 1) (fun b o hb e => (sb.2 b hb).trans e) f0 f1 f3 f4 f5
  obtain ⟨o, e, cl, d⟩ := id st'
  exact ⟨_, rfl, lqf (s := { s with heap := h', toks := s.toks + 1 }) e cl d (by decide) ⟨.str ⟨#[c]⟩, H, I1, ⟨_, rfl⟩, ⟨rfl, c, h2, rfl⟩, st', fun b hb => (hf b hb).1⟩⟩
 done := by
  intro X hP hw hK hc i pins s σ H E I hf st hg
  subst hP hw hK
  obtain ⟨f0, f1, f2, f3, f4, f5⟩ := hf it (by simp)
  exact wpAny_pyNext_wide_end (I.ok.hd hc) st (iq7 hg) fun h' eb => ⟨rfl, I.turned (t' := s.toks) (fun b o hb e => eb b o hb e) f0 f1 f3 f4 f5⟩
 self := fun _ _ _ _ _ st h => wpAny_pyIter_striter_wide st h
section
variable {X : Cx} {tg : Expr}
def iStr (tl : TE) : TI := fun σ H R => tl σ H fun x H1 => ∃ z, x = .str z ∧ R (Its z) H1
theorem oq3 {l : Expr} {tl : TE} (hl : PE X l tl) : PI X tg l (iStr tl) := by
 intro pins s σ H R I h
 refine thn (hl pins s σ H _ I h) fun v s1 W' => ?_
 obtain ⟨x, H1, I1, r1, q1⟩ := W'
 obtain ⟨z, rfl, q⟩ := q1
 obtain ⟨t, rfl⟩ := r1
 have fp : ∀ b ∈ [s1.heap.objs.size], FpOk X pins H1 b := fun b hb => by
  have e : b = s1.heap.objs.size := by simpa using hb
  subst e
  exact I1.fpOk (Nat.le_refl _) (I1.hok.fresh (Nat.le_refl _))
 cases ha : z.cps.all (· < 128)
 ·refine wpAny_pyIter_wide ha ?_
  exact ⟨s1.heap.objs.size, [s1.heap.objs.size], _, _, H1, rfl, I1.kept (t' := s1.toks) fun b o e => Heap.get?_push_of_some _ e, jq3 _ z t, ⟨_, Heap.get?_push_size _ rfl, rfl, rfl⟩, fp, q⟩
 ·refine wpAny_pyIter_ascii ha ?_
  exact ⟨s1.heap.objs.size, [s1.heap.objs.size], _, _, H1, rfl, I1.kept (t' := s1.toks) fun b o e => Heap.get?_push_of_some _ e, jqX _ z t, ⟨_, Heap.get?_push_size _ rfl, rfl, rfl⟩, fp, q⟩
end
section
variable {X : Cx}
def rSlS : V → Option Int → Option Int → Hp → VK → Prop := fun x lo hi H Q => ∃ z, x = .str z ∧ z.length ≤ sizeLine ∧ Q (.str (Txt.slice z lo hi)) H
theorem pqm : SlR X rSlS := by
 intro pins s σ H x v vl vu lo hi sl Q I rx hs pl pu h
 obtain ⟨z, rfl, hz, q⟩ := h
 obtain ⟨t, rfl⟩ := rx
 refine ⟨"str", _, F.slot_str_getitem.lookup, typeIs_str _ _ _, ?_⟩
 obtain ⟨o, ho, hc, hd⟩ := hs
 cases pl with
 | none =>
  cases pu with
  | none => exact wpAny_getItem_str_slice (l := none) (u := none) (st := none) ⟨o, ho, hc, hd⟩ rfl (post_val_or_str ⟨Nat.le_trans (Txt.slice_le z none none) hz, fun t' k => ⟨.str (Txt.slice z none none), H, I.tok k, ⟨t', rfl⟩, q⟩⟩)
  | int j uj => exact wpAny_getItem_str_slice (l := none) (u := some (j, uj)) (st := none) ⟨o, ho, hc, hd⟩ rfl (post_val_or_str ⟨Nat.le_trans (Txt.slice_le z none (some j)) hz, fun t' k => ⟨.str (Txt.slice z none (some j)), H, I.tok k, ⟨t', rfl⟩, q⟩⟩)
 | int i ui =>
  cases pu with
  | none => exact wpAny_getItem_str_slice (l := some (i, ui)) (u := none) (st := none) ⟨o, ho, hc, hd⟩ rfl (post_val_or_str ⟨Nat.le_trans (Txt.slice_le z (some i) none) hz, fun t' k => ⟨.str (Txt.slice z (some i) none), H, I.tok k, ⟨t', rfl⟩, q⟩⟩)
  | int j uj => exact wpAny_getItem_str_slice (l := some (i, ui)) (u := some (j, uj)) (st := none) ⟨o, ho, hc, hd⟩ rfl (post_val_or_str ⟨Nat.le_trans (Txt.slice_le z (some i) (some j)) hz, fun t' k => ⟨.str (Txt.slice z (some i) (some j)), H, I.tok k, ⟨t', rfl⟩, q⟩⟩)
def rSl (K : PySem.W.Frag) : V → Option Int → Option Int → Hp → VK → Prop := fun x lo hi H Q => rSlL K x lo hi H Q ∨ rSlS x lo hi H Q
theorem pqF : SlR X (rSl X.K) := kqH.or pqm
def rIndex : V → List V → Hp → VK → Prop := fun x vs H Q => match x, vs with
 | .str z, [.str y] => ∃ i r, Builtin.Str.occurrences z y 0 z.length 1 = i :: r ∧ Q (.int (i : Nat)) H
 | _, _ => False
theorem lqr {z y : Str} {H : Hp} {Q : VK} : (rIndex (.str z) [.str y] H Q) = (∃ i r, Builtin.Str.occurrences z y 0 z.length 1 = i :: r ∧ Q (.int (i : Nat)) H) := rfl
theorem jqg : MtR X "str.index" rIndex := by
 intro pins s σ H x vs v us Q I rx rv h
 unfold rIndex at h
 split at h
 rotate_left
 ·exact h.elim
 rename_i z y
 obtain ⟨i, r, ho, q⟩ := h
 obtain ⟨t, rfl⟩ := rx
 obtain ⟨u, rfl, t', rfl⟩ := vals1 rv
 exact SC.index ho ⟨.int (i : Nat), H, I.tok _, ⟨_, rfl⟩, q⟩
def rUpper : V → List V → Hp → VK → Prop := fun x vs H Q => match x, vs with
 | .str z, [] => (∀ c ∈ z.cps.toList, c < 128) ∧ z.length ≤ 1000000 ∧ Q (.str ⟨z.cps.map up1⟩) H
 | _, _ => False
theorem pqo {z : Str} {H : Hp} {Q : VK} : (rUpper (.str z) [] H Q) = ((∀ c ∈ z.cps.toList, c < 128) ∧ z.length ≤ 1000000 ∧ Q (.str ⟨z.cps.map up1⟩) H) := rfl
def rLower : V → List V → Hp → VK → Prop := fun x vs H Q => match x, vs with
 | .str z, [] => (∀ c ∈ z.cps.toList, c < 128) ∧ z.length ≤ 1000000 ∧ Q (.str ⟨z.cps.map lo1⟩) H
 | _, _ => False
theorem pqL {z : Str} {H : Hp} {Q : VK} : (rLower (.str z) [] H Q) = ((∀ c ∈ z.cps.toList, c < 128) ∧ z.length ≤ 1000000 ∧ Q (.str ⟨z.cps.map lo1⟩) H) := rfl
def rAlnum : V → List V → Hp → VK → Prop := fun x vs H Q => match x, vs with
 | .str z, [] => Q (.bl (Txt.isalnum z)) H
 | _, _ => False
theorem pqJ {z : Str} {H : Hp} {Q : VK} : (rAlnum (.str z) [] H Q) = (Q (.bl (Txt.isalnum z)) H) := rfl
theorem jqJ {ys : List Str} : ∀ {us : List Value}, Vals (ys.map V.str) us → StrsAre us ys := by
 induction ys with
 | nil => intro us r; rw [List.map_nil] at r; cases r; exact .nil
 | cons y ys ih =>
  intro us r
  rw [List.map_cons] at r
  cases r with
  | cons r1 r2 =>
   obtain ⟨t, e⟩ := r1
   subst e
   exact .cons y t (ih r2)
def rJoin (K : PySem.W.Frag) : V → List V → Hp → VK → Prop := fun x vs H Q => ∃ z p ys, x = .str z ∧ vs = [.ref p] ∧ SqL K H p (ys.map V.str) ∧ (ys.map (·.length)).sum + ys.length * z.length ≤ 16777216 ∧ Q (.str (Txt.join z ys)) H
theorem nqq : MtR X "str.join" (rJoin X.K) := by
 intro pins s σ H x vs v us Q I rx rv h
 obtain ⟨z, p, ys, rfl, rfl, hq, hz, q⟩ := h
 obtain ⟨t, rfl⟩ := rx
 obtain ⟨u, rfl, ru⟩ := vals1 rv
 cases ru
 obtain ⟨its, r, pl, hl⟩ := I.list hq
 exact join_list pl.isList (by simpa using jqJ r) hz fun t' k => ⟨.str (Txt.join z ys), H, I.tok k, ⟨t', rfl⟩, q⟩
def rIsi (K : PySem.W.Frag) : List V → Hp → VK → Prop := fun vs H Q => ∃ x T t b, vs = [x, .ty T] ∧ TyOf K H x t ∧ PySem.W.kitOne K t (.type T) = some b ∧ Q (.bl b) H
theorem jqd : CallR X (.builtin "isinstance") (rIsi X.K) := by
 intro pins s σ H xs us Q I r h
 obtain ⟨x, T, t, b, rfl, ty, e, q⟩ := h
 obtain ⟨u, v, rfl, ru, rv⟩ := vals2 r
 cases (show v = Value.type T from rv)
 exact kqX I ru ty e fun tk => ⟨.bl b, H, I.tok tk, rfl, q⟩
def rCatD : R2 := fun x y H Q => ∃ a b xs ys, x = .ref a ∧ y = .ref b ∧ H a = some (.tup xs) ∧ H b = some (.tup ys) ∧ xs.length + ys.length ≤ sizeLine ∧ ∀ p H', Same H H' → H' p = some (.tup (xs ++ ys)) → Q (.ref p) H'
theorem oqm : OpR X (binaryOp .Add) rCatD := by
 intro pins s σ H x y v u Q I rx ry h
 obtain ⟨a, b, xs, ys, rfl, rfl, ha, hb, hz, q⟩ := h
 by_cases hx : xs = []
 ·subst hx
  cases rx
  cases ry
  obtain ⟨its, r1, p1, _⟩ := I.tuple (SqT.of ha)
  obtain ⟨its2, r2, p2, _⟩ := I.tuple (SqT.of hb)
  cases r1
  obtain ⟨⟨cls, dd, data, sl⟩, ho, hc, n, hd⟩ := id p1
  obtain ⟨⟨cls2, dd2, data2, sl2⟩, ho2, hc2, n2, hd2⟩ := id p2
  simp only at hc hd hc2 hd2
  subst hc hd hc2 hd2
  exact concat_meets ⟨_, ho, rfl⟩ ⟨_, ho2, rfl⟩ noFill_tuple_add seq_tuple_add PySem.F.slot_tuple_add PySem.F.entry_tuple_add (PySem.F.args_tuple_add_2 _ _)
   (tuple_addW0 a b ([] : List Value).toArray its2.toArray n n2 dd dd2 sl sl2 rfl) ⟨ho, ho2, ⟨.ref b, H, I, rfl, q b H (Same.refl _) hb⟩⟩
 ·refine mq7 pins s σ H _ _ v u Q I rx ry ⟨a, b, xs, ys, rfl, rfl, SqT.of ha, SqT.of hb, hx, hz, fun e => q a H (Same.refl _) (by rw [e, List.append_nil]; exact ha), fun _ p hp => q p _ (fun b o e => by rw [aqm (aqn e hp)]; exact e) aqr⟩
def rAddU (K : PySem.W.Frag) : R2 := fun x y H Q => match x, y with
 | .int i, .int j => Q (.int (i + j)) H
 | .str i, .str j => i.length + j.length ≤ sizeLine ∧ Q (.str (i ++ j)) H
 | .ref a, .ref b => (∃ xs zs, H a = some (.lst xs) ∧ H b = some (.lst zs) ∧ xs.length + zs.length ≤ sizeLine ∧ ∀ p, H p = none → Q (.ref p) (upd H p (.lst (xs ++ zs)))) ∨
   (∃ xs ys, H a = some (.tup xs) ∧ H b = some (.tup ys) ∧ xs.length + ys.length ≤ sizeLine ∧ ∀ p H', Same H H' → H' p = some (.tup (xs ++ ys)) → Q (.ref p) H')
 | _, _ => False
theorem kqB : OpR X (binaryOp .Add) (rAddU X.K) := by
 intro pins s σ H x y v u Q I rx ry h
 cases x with
 | int i =>
  cases y with
  | int j => exact oq9 pins s σ H _ _ v u Q I rx ry ⟨i, j, rfl, rfl, h⟩
  | _ => exact h.elim
 | str i =>
  cases y with
  | str j => exact jqN pins s σ H _ _ v u Q I rx ry ⟨i, j, rfl, rfl, h.1, h.2⟩
  | _ => exact h.elim
 | ref a =>
  cases y with
  | ref b =>
   rcases h with ⟨xs, zs, h1, h2, h3, h4⟩ | ⟨xs, ys, h1, h2, h3, h4⟩
   ·exact oqI pins s σ H _ _ v u Q I rx ry ⟨a, b, xs, zs, rfl, rfl, h1, h2, h3, h4⟩
   ·exact oqm pins s σ H _ _ v u Q I rx ry ⟨a, b, xs, ys, rfl, rfl, h1, h2, h3, h4⟩
  | _ => exact h.elim
 | _ => exact h.elim
theorem pqw {K : PySem.W.Frag} {i j : Int} {H : Hp} {Q : VK} : (rAddU K (.int i) (.int j) H Q) = (Q (.int (i + j)) H) := rfl
theorem pq2 {K : PySem.W.Frag} {i j : Str} {H : Hp} {Q : VK} : (rAddU K (.str i) (.str j) H Q) = (i.length + j.length ≤ sizeLine ∧ Q (.str (i ++ j)) H) := rfl
end
section
variable {X : Cx}
def rMulU : R2 := fun x y H Q => match x, y with
 | .int i, .int j => CMul i j ∧ Q (.int (i * j)) H
 | .str z, .int k => MulOk z k ∧ Q (.str (Txt.mul z k)) H
 | _, _ => False
theorem cqy : OpR X (binaryOp .Mult) rMulU := by
 intro pins s σ H x y v u Q I rx ry h
 cases x with
 | int i =>
  cases y with
  | int j => exact pq0 pins s σ H _ _ v u Q I rx ry ⟨i, j, rfl, rfl, h.1, h.2⟩
  | _ => exact h.elim
 | str z =>
  cases y with
  | int k =>
   obtain ⟨t, rfl⟩ := rx
   obtain ⟨t', rfl⟩ := ry
   exact SB.mul h.1 fun t' k' => ⟨.str (Txt.mul z k), H, I.tok k', ⟨t', rfl⟩, h.2⟩
  | _ => exact h.elim
 | _ => exact h.elim
theorem pqn {i j : Int} {H : Hp} {Q : VK} : (rMulU (.int i) (.int j) H Q) = (CMul i j ∧ Q (.int (i * j)) H) := rfl
theorem pql {z : Str} {k : Int} {H : Hp} {Q : VK} : (rMulU (.str z) (.int k) H Q) = (MulOk z k ∧ Q (.str (Txt.mul z k)) H) := rfl
def rLenU (K : PySem.W.Frag) : List V → Hp → VK → Prop := fun xs H Q => match xs with
 | [.str z] => z.length ≤ sizeLine ∧ Q (.int z.length) H
 | [.ref p] => ∃ ys, (SqL K H p ys ∨ SqT K H p ys) ∧ Q (.int ys.length) H
 | _ => False
theorem kqC : CallR X (.builtin "len") (rLenU X.K) := by
 intro pins s σ H xs us Q I r h
 unfold rLenU at h
 split at h
 ·exact iqf pins s σ H _ us Q I r ⟨_, rfl, h.1, h.2⟩
 ·obtain ⟨ys, h1, h2⟩ := h
  exact iqx pins s σ H _ us Q I r ⟨_, ys, rfl, h1, h2⟩
 ·exact h.elim
theorem oq1 {K : PySem.W.Frag} {z : Str} {H : Hp} {Q : VK} : (rLenU K [.str z] H Q) = (z.length ≤ sizeLine ∧ Q (.int z.length) H) := rfl
theorem pqZ {K : PySem.W.Frag} {p : Addr} {H : Hp} {Q : VK} : (rLenU K [.ref p] H Q) = (∃ ys, (SqL K H p ys ∨ SqT K H p ys) ∧ Q (.int ys.length) H) := rfl
def rOrdU : List V → Hp → VK → Prop := fun xs H Q => match xs with
 | [.str z] => z.length = 1 ∧ Q (.int (z.cps.getD 0 0 : Nat)) H
 | _ => False
theorem pqd {c : Nat} {H : Hp} {Q : VK} : rOrdU [.str ⟨#[c]⟩] H Q ↔ Q (.int (c : Nat)) H := ⟨fun h => h.2, fun h => ⟨rfl, h⟩⟩
theorem iqw : bootBuiltins "int" = some (.type "int") := by decide +kernel
theorem jq4 : bootBuiltins "str" = some (.type "str") := by decide +kernel
theorem nqR : bootBuiltins "bool" = some (.type "bool") := by decide +kernel
theorem jqq : bootBuiltins "tuple" = some (.type "tuple") := by decide +kernel
theorem bqY : bootBuiltins "isinstance" = some (.builtin "isinstance") := by decide +kernel
def rIntU : List V → Hp → VK → Prop := fun xs H Q => match xs with
 | [.int i] => Q (.int i) H
 | [.bl k] => Q (.int (if k then 1 else 0)) H
 | _ => False
theorem qqt {k : Bool} {H : Hp} {Q : VK} : (rIntU [.bl k] H Q) = (Q (.int (if k then 1 else 0)) H) := rfl
def rInU : R2 := fun x y H Q => match x, y with
 | .str i, .str j => Q (.bl (!(Builtin.Str.occurrences j i 0 j.length 1).isEmpty)) H
 | _, _ => False
theorem hqX : OpR X (compareOp .In) rInU := by
 intro pins s σ H x y v u Q I rx ry h
 cases x with
 | str i =>
  cases y with
  | str j => exact kqP pins s σ H _ _ v u Q I rx ry ⟨i, j, rfl, rfl, h⟩
  | _ => exact h.elim
 | _ => exact h.elim
def rNotInU : R2 := fun x y H Q => match x, y with
 | .str i, .str j => Q (.bl (!(!(Builtin.Str.occurrences j i 0 j.length 1).isEmpty))) H
 | _, _ => False
theorem kqi : OpR X (compareOp .NotIn) rNotInU := by
 intro pins s σ H x y v u Q I rx ry h
 cases x with
 | str i =>
  cases y with
  | str j => exact hqV pins s σ H _ _ v u Q I rx ry ⟨i, j, rfl, rfl, h⟩
  | _ => exact h.elim
 | _ => exact h.elim
theorem pqc {c : Nat} {j : Str} {H : Hp} {Q : VK} : rInU (.str ⟨#[c]⟩) (.str j) H Q ↔ Q (.bl (decide (c ∈ j.cps.toList))) H := by
 show Q (.bl (!(Builtin.Str.occurrences j ⟨#[c]⟩ 0 j.length 1).isEmpty)) H ↔ _
 rw [StrLaws.found_one]
theorem kqp {c : Nat} {j : Str} {H : Hp} {Q : VK} : rNotInU (.str ⟨#[c]⟩) (.str j) H Q ↔ Q (.bl (!decide (c ∈ j.cps.toList))) H := by
 show Q (.bl (!(!(Builtin.Str.occurrences j ⟨#[c]⟩ 0 j.length 1).isEmpty))) H ↔ _
 rw [StrLaws.found_one]
def rIsN (neg : Bool) : R2 := fun x y H Q => y = .non ∧ Q (.bl (if neg then !decide (x = .non) else decide (x = .non))) H
theorem gqw : OpR X (compareOp .Is) (rIsN false) := fun pins s σ H x y v u Q I rx ry h => pqA pins s σ H x y v u Q I rx ry h
theorem lqO : OpR X (compareOp .IsNot) (rIsN true) := fun pins s σ H x y v u Q I rx ry h => oqb pins s σ H x y v u Q I rx ry h
theorem qqu {x : V} {H : Hp} {Q : VK} : rIsN false x .non H Q ↔ Q (.bl (decide (x = .non))) H := ⟨fun h => h.2, fun h => ⟨rfl, h⟩⟩
theorem qqp {x : V} {H : Hp} {Q : VK} : rIsN true x .non H Q ↔ Q (.bl (!decide (x = .non))) H := ⟨fun h => h.2, fun h => ⟨rfl, h⟩⟩
def kindV (x : V) (H : Hp) : Option String := match x with
 | .non => some "NoneType"
 | .bl _ => some "bool"
 | .int _ => some "int"
 | .str _ => some "str"
 | .ref a => match H a with
  | some (.lst _) => some "list"
  | some (.tup _) => some "tuple"
  | _ => none
 | _ => none
def subT (a b : String) : Bool := a == b || (a == "bool" && b == "int")
theorem jq9 (K : PySem.W.Frag) : ∀ a ∈ ["NoneType", "bool", "int", "str", "list", "tuple"], ∀ b ∈ ["bool", "int", "str", "list", "tuple"], PySem.W.kitOne K (.type a) (.type b) = some (subT a b) := by
 intro a ha b hb
 simp only [List.mem_cons, List.not_mem_nil, or_false] at ha hb
 rcases ha with rfl | rfl | rfl | rfl | rfl | rfl <;> rcases hb with rfl | rfl | rfl | rfl | rfl <;> with_unfolding_all kernel_rfl
def rIsiU : List V → Hp → VK → Prop := fun vs H Q => match vs with
 | [x, .ty T] => ∃ k, kindV x H = some k ∧ T ∈ ["bool", "int", "str", "list", "tuple"] ∧ Q (.bl (subT k T)) H
 | _ => False
theorem gqC : CallR X (.builtin "isinstance") rIsiU := by
 intro pins s σ H xs us Q I r h
 unfold rIsiU at h
 split at h
 ·rename_i x T
  obtain ⟨k, hk, hT, q⟩ := h
  have key : TyOf X.K H x (.type k) ∧ k ∈ ["NoneType", "bool", "int", "str", "list", "tuple"] := by
   unfold kindV at hk
   split at hk
   ·cases hk; exact ⟨.non, by decide⟩
   ·cases hk; exact ⟨.bl _, by decide⟩
   ·cases hk; exact ⟨.int _, by decide⟩
   ·cases hk; exact ⟨.str _, by decide⟩
   ·split at hk
    ·rename_i e; cases hk; exact ⟨.lst e, by decide⟩
    ·rename_i e; cases hk; exact ⟨.tup e, by decide⟩
    ·cases hk
   ·cases hk
  exact jqd pins s σ H _ us Q I r ⟨x, T, .type k, subT k T, rfl, key.1, jq9 X.K k key.2 T hT, q⟩
 ·exact h.elim
end
section
variable {σ : St} {H : Hp} {Q : VK} {D : Ends} {K : PySem.W.Frag} {ta tb te : TE} {tt tu : TT} {t u : TS} {aa ab : TA} {v x y : V} {r r' : R2}
theorem pqY {i : Nat} : (tVar i σ H Q) = (∃ v, σ[i]? = some (some v) ∧ Q v H) := rfl
theorem rd_C : (tC v σ H Q) = (Q v H) := rfl
theorem kqb : (tSeq t u D σ H) = (t { D with nx := u D } σ H) := rfl
theorem pqg {g : TG} : (tAsg te g D σ H) = (te σ H fun x H1 => g x σ H1 D.nx) := rfl
theorem nq4 {i : Nat} {R : St → Hp → Prop} : (gName i v σ H R) = (R (σ.set i (some v)) H) := rfl
theorem oqY : (tIfS tt t u D σ H) = (tt σ H fun b H1 => if b = true then t D σ H1 else u D σ H1) := rfl
theorem mqV : (tNext D σ H) = (D.nx σ H) := rfl
theorem pqj : (tBreak D σ H) = (D.bk σ H) := rfl
theorem pqv : (tRet te D σ H) = (te σ H D.rt) := rfl
theorem oqk : (tDrop te D σ H) = (te σ H fun _ H1 => D.nx σ H1) := rfl
theorem qqd : (tOp r ta tb σ H Q) = (ta σ H fun x H1 => tb σ H1 fun y H2 => r x y H2 Q) := rfl
theorem mq0 {R : Bool → Hp → Prop} : (tTest te σ H R) = (te σ H fun x H' => ∃ k, x = .bl k ∧ R k H') := rfl
theorem rd_B {R : Bool → Hp → Prop} : (tB te σ H R) = (te σ H fun x H' => ∃ k, x = .bl k ∧ R k H') := rfl
theorem pqK {R : Bool → Hp → Prop} : (tAnd tt tu σ H R) = (tt σ H fun c H1 => if c = true then tu σ H1 R else R false H1) := rfl
theorem qqk {R : Bool → Hp → Prop} : (tOr tt tu σ H R) = (tt σ H fun c H1 => if c = true then R true H1 else tu σ H1 R) := rfl
theorem pqf {R : Bool → Hp → Prop} : (tNot tt σ H R) = (tt σ H fun c H1 => R (!c) H1) := rfl
theorem nq9 : (tAndV ta tb σ H Q) = (ta σ H fun x H1 => ∃ c, x = .bl c ∧ if c = true then tb σ H1 Q else Q (.bl false) H1) := rfl
theorem oq5 : (tOrV ta tb σ H Q) = (ta σ H fun x H1 => ∃ c, x = .bl c ∧ if c = true then Q (.bl true) H1 else tb σ H1 Q) := rfl
theorem nqy : (tNotV ta σ H Q) = (ta σ H fun x H1 => ∃ c, x = .bl c ∧ Q (.bl (!c)) H1) := rfl
theorem qqr : (tIf tt ta tb σ H Q) = (tt σ H fun c H1 => if c = true then ta σ H1 Q else tb σ H1 Q) := rfl
theorem lqG {tc : TE} : (tChain r r' ta tb tc σ H Q) = (ta σ H fun x H1 => tb σ H1 fun y H2 => r x y H2 fun z H3 => ∃ k, z = .bl k ∧ (if k = true then tc σ H3 fun w' H4 => r' y w' H4 Q else Q (.bl false) H3)) := rfl
theorem oqJ {R : List V → Hp → Prop} : (tNil σ H R) = (R [] H) := rfl
theorem nqf {R : List V → Hp → Prop} : (tCons te aa σ H R) = (te σ H fun x H1 => aa σ H1 fun xs H2 => R (x :: xs) H2) := rfl
theorem pqM : (tLst aa σ H Q) = (aa σ H fun xs H1 => xs.length ≤ sizeLine ∧ ∀ p, H1 p = none → Q (.ref p) (upd H1 p (.lst xs))) := rfl
theorem pqN : (tTup aa σ H Q) = (aa σ H fun xs H1 => xs.length ≤ sizeLine ∧ ∀ p, H1 p = none → Q (.ref p) (upd H1 p (.tup xs))) := rfl
theorem mq8 {sp : Sp} {dvs : List V} {E : XK} : (tCall sp dvs E aa σ H Q) = (aa σ H fun vs H1 => sp (vs ++ dvs) H1 Q E) := rfl
theorem qqs {c : List V → Hp → VK → Prop} : (tCB c aa σ H Q) = (aa σ H fun vs H1 => c vs H1 Q) := rfl
theorem qqe {T : String} {m : V → List V → Hp → VK → Prop} : (tBM K T m te aa σ H Q) = (te σ H fun x H1 => tyV K T x H1 ∧ aa σ H1 fun xs H2 => m x xs H2 Q) := rfl
theorem oqC {T : String} {m : V → List V → Hp → VK → Prop} : (tBM0 K T m te σ H Q) = (te σ H fun x H1 => tyV K T x H1 ∧ m x [] H1 Q) := rfl
theorem qqA {m : V → Option Int → Option Int → Hp → VK → Prop} {tl th : TO} : (tSl m te tl th σ H Q) = (te σ H fun x H1 => tl σ H1 fun l H2 => th σ H2 fun u H3 => m x l u H3 Q) := rfl
theorem jqW {R : Option Int → Hp → Prop} : (tNoPart σ H R) = (R none H) := rfl
theorem oqs {R : Option Int → Hp → Prop} : (tPart te σ H R) = (te σ H fun x H1 => ∃ i, x = .int i ∧ R (some i) H1) := rfl
theorem lqv {z : Str} : tyV K "str" (.str z) H ↔ True := ⟨fun _ => trivial, fun _ => rfl⟩
theorem rd_I {C : Int → Int → Prop} {g : Int → Int → V} {i j : Int} : rI C g (.int i) (.int j) H Q ↔ C i j ∧ Q (g i j) H :=
 ⟨fun ⟨_, _, h1, h2, h3⟩ => by cases h1; cases h2; exact h3, fun h => ⟨i, j, rfl, rfl, h⟩⟩
theorem qqb {g : Int → Int → V} {i j : Int} : rI0 g (.int i) (.int j) H Q ↔ Q (g i j) H :=
 ⟨fun ⟨_, _, h1, h2, h3⟩ => by cases h1; cases h2; exact h3, fun h => ⟨i, j, rfl, rfl, h⟩⟩
theorem oqo {i j : Int} : rEq (.int i) (.int j) H Q ↔ Q (.bl (decide (i = j))) H := by
 unfold rEq scal; simp only [true_and, V.int.injEq]
theorem fqi {i j : Str} : rEq (.str i) (.str j) H Q ↔ Q (.bl (decide (i = j))) H := by
 unfold rEq scal; simp only [true_and, V.str.injEq]
theorem nqP {i j : Bool} : rEq (.bl i) (.bl j) H Q ↔ Q (.bl (decide (i = j))) H := by
 unfold rEq scal; simp only [true_and, V.bl.injEq]
theorem nqC {i j : Int} : rNe (.int i) (.int j) H Q ↔ Q (.bl (!decide (i = j))) H := by
 unfold rNe scal; simp only [true_and, V.int.injEq]
theorem nq3 {i j : Str} : rNe (.str i) (.str j) H Q ↔ Q (.bl (!decide (i = j))) H := by
 unfold rNe scal; simp only [true_and, V.str.injEq]
theorem nqS {i j : Bool} : rNe (.bl i) (.bl j) H Q ↔ Q (.bl (!decide (i = j))) H := by
 unfold rNe scal; simp only [true_and, V.bl.injEq]
theorem nqI : rNe .non .non H Q ↔ Q (.bl false) H := ⟨fun h => h.2, fun h => ⟨rfl, h⟩⟩
theorem nqv {i : Str} : rNe (.str i) .non H Q ↔ Q (.bl true) H := ⟨fun h => h.2, fun h => ⟨rfl, h⟩⟩
theorem lqD {i : Str} : rNe .non (.str i) H Q ↔ Q (.bl true) H := ⟨fun h => h.2, fun h => ⟨rfl, h⟩⟩
theorem nqZ : rEq .non .non H Q ↔ Q (.bl true) H := ⟨fun h => h.2, fun h => ⟨rfl, h⟩⟩
theorem nqt {i : Str} : rEq (.str i) .non H Q ↔ Q (.bl false) H := ⟨fun h => h.2, fun h => ⟨rfl, h⟩⟩
theorem lqq {i : Str} : rEq .non (.str i) H Q ↔ Q (.bl false) H := ⟨fun h => h.2, fun h => ⟨rfl, h⟩⟩
theorem oqL {z : Str} {i : Int} : rIx K (.str z) (.int i) H Q ↔ ∃ c, z.length ≤ sizeLine ∧ atI z.cps.toList i = some c ∧ Q (.str ⟨#[c]⟩) H := by
 constructor
 ·rintro (⟨p, xs, j, v, h, _⟩ | ⟨p, xs, j, v, h, _⟩ | ⟨z', j, c, h1, h2, h3, h4, h5⟩)
  ·cases h
  ·cases h
  ·cases h1; cases h2; exact ⟨c, h3, h4, h5⟩
 ·rintro ⟨c, h3, h4, h5⟩
  exact .inr (.inr ⟨z, i, c, rfl, rfl, h3, h4, h5⟩)
theorem pqW {z : Str} {lo hi : Option Int} : rSl K (.str z) lo hi H Q ↔ z.length ≤ sizeLine ∧ Q (.str (Txt.slice z lo hi)) H := by
 constructor
 ·rintro (⟨a, xs, h, _⟩ | ⟨z', h1, h2, h3⟩)
  ·cases h
  ·cases h1; exact ⟨h2, h3⟩
 ·rintro ⟨h2, h3⟩
  exact .inr ⟨z, rfl, h2, h3⟩
end
section
variable {σ : St} {H : Hp} {Q : VK} {K : PySem.W.Frag}
theorem oqz {a : Addr} {lo hi : Option Int} : rSl K (.ref a) lo hi H Q ↔ ∃ xs, SqL K H a xs ∧ ∀ p, H p = none → Q (.ref p) (upd H p (.lst (cutV xs lo hi))) := by
 constructor
 ·rintro (⟨a', xs, h, h2⟩ | ⟨z', h1, _⟩)
  ·cases h; exact ⟨xs, h2⟩
  ·cases h1
 ·rintro ⟨xs, h2⟩
  exact .inl ⟨a, xs, rfl, h2⟩
theorem pqx {p : Addr} {i : Int} : rIx K (.ref p) (.int i) H Q ↔ ∃ xs v, (SqL K H p xs ∨ SqT K H p xs) ∧ atI xs i = some v ∧ Q v H := by
 constructor
 ·rintro (⟨p', xs, j, v, h, h2, h3, h4⟩ | ⟨p', xs, j, v, h, h2, h3, h4⟩ | ⟨z', j, c, h1, _⟩)
  ·cases h; cases h2; exact ⟨xs, v, .inl h3, h4⟩
  ·cases h; cases h2; exact ⟨xs, v, .inr h3, h4⟩
  ·cases h1
 ·rintro ⟨xs, v, h | h, h2⟩
  ·exact .inl ⟨p, xs, i, v, rfl, rfl, h, h2⟩
  ·exact .inr (.inl ⟨p, xs, i, v, rfl, rfl, h, h2⟩)
theorem pqz {a b : Addr} : rAddU K (.ref a) (.ref b) H Q ↔ (∃ xs zs, H a = some (.lst xs) ∧ H b = some (.lst zs) ∧ xs.length + zs.length ≤ sizeLine ∧ ∀ p, H p = none → Q (.ref p) (upd H p (.lst (xs ++ zs)))) ∨
   (∃ xs ys, H a = some (.tup xs) ∧ H b = some (.tup ys) ∧ xs.length + ys.length ≤ sizeLine ∧ ∀ p H', Same H H' → H' p = some (.tup (xs ++ ys)) → Q (.ref p) H') := Iff.rfl
theorem cx_K {CX : CXT} {P : Program} {w : World} {mg : Str → Option Value} {base : Heap} {N : List Str} {qual : Str} {scope : Scope} {f : Addr} {cd : Value} {A : Around} {outer : List Env} {s : Shared} {E : XK} :
  (cxOf CX P w K mg base N qual scope f cd A outer s H E).K = K := rfl
end
def LoopI (J : It) (g : TG) (tb : TS) (D : Ends) (σ : St) (H : Hp) : Prop := ∃ W : Nat → Nat → St → Hp → Prop, (∃ m, W 0 m σ H) ∧ ∀ i m σ H, W i m σ H →
 (J.stop i H ∧ D.nx σ H) ∨ (J.go i H ∧ ∃ N : St → Hp → Prop, (∀ σ' H', N σ' H' → ∃ m', m' < m ∧ W (i + 1) m' σ' H') ∧ ∀ x H', J.yld i H x H' → g x σ H' fun σ2 H2 => tb { D with nx := N, ct := N, bk := D.nx } σ2 H2)
section
variable {σ : St} {H : Hp} {D : Ends} {K : PySem.W.Frag} {te : TE} {g : TG} {tb : TS} {aa : TA}
theorem mq6 : (tFor (iStr te) g tb D σ H) = (te σ H fun x H1 => ∃ z, x = .str z ∧ LoopI (Its z) g tb D σ H1) := rfl
theorem nq8 : (tFor (iList K te) g tb D σ H) = (te σ H fun x H1 => ∃ a, x = .ref a ∧ (∃ xs, SqL K H1 a xs) ∧ LoopI (Itl K a) g tb D σ H1) := rfl
theorem nqH : (tFor (iRng1 aa) g tb D σ H) = (aa σ H fun vs H1 => ∃ j : Int, vs = [.int j] ∧ -(2 ^ 62) ≤ j ∧ j < 2 ^ 62 ∧ LoopI (Itr 0 j.toNat) g tb D σ H1) := rfl
theorem jq1 {a : Addr} {xs : List V} (Pv : Nat → St → Hp → Prop) (h0 : Pv 0 σ H) (hl : ∀ i σ H, i ≤ xs.length → Pv i σ H → SqL K H a xs)
  (hs : ∀ i x σ H, xs[i]? = some x → Pv i σ H → g x σ H fun σ2 H2 => tb { D with nx := Pv (i + 1), ct := Pv (i + 1), bk := D.nx } σ2 H2) (hd : ∀ σ H, Pv xs.length σ H → D.nx σ H) : LoopI (Itl K a) g tb D σ H := lqi Pv h0 hl hs hd
theorem fqj {lo : Int} {n : Nat} (Pv : Nat → St → Hp → Prop) (h0 : Pv 0 σ H)
  (hs : ∀ i σ H, i < n → Pv i σ H → g (.int (lo + i)) σ H fun σ2 H2 => tb { D with nx := Pv (i + 1), ct := Pv (i + 1), bk := D.nx } σ2 H2) (hd : ∀ σ H, Pv n σ H → D.nx σ H) : LoopI (Itr lo n) g tb D σ H := lqc Pv h0 hs hd
end
section
variable {prog : Program} {w : World} {A : Around} {R : Result → Shared → Prop} {s : Shared}
theorem iqu {elt target iter : Expr} {ifs : List Expr} {scope : Scope} {pos : Pos} {it acc : Value} {env : Env} (I : Nat → Shared → Prop)
  (turn : ∀ n s, I n s → wpAny (model prog w) A (pyNext it) (fun r s₁ => match r with
   | none => R (.ok .next) s₁
   | some v => wpAny (model prog w) A (letOwnedTupleGo target it v) (fun _ s₁' => wpAny (model prog w) A (assign target env v) (fun _ s₂ =>
     wpAny (model prog w) A (forIn ifs true fun c r => if r = true then do let ok ← isTrue c env (eval c env); pure (ForInStep.yield ok) else pure (ForInStep.yield r)) (fun ok s₃ =>
      if ok = true then wpAny (model prog w) A (eval elt env) (fun x s₄ =>
       wpAny (model prog w) A (call (.builtin "list.append") [acc, x]) (fun _ s₅ => ∃ m, m < n ∧ I m s₅) (fun _ _ => False) s₄) (fun _ _ => False) s₃
      else ∃ m, m < n ∧ I m s₃) (fun _ _ => False) s₂) (fun _ _ => False) s₁') (fun _ _ => False) s₁) (fun _ _ => False) s)
  (n : Nat) (h : I n s) : codeAny (model prog w) A (.compLoop (.ListComp elt [⟨target, iter, ifs, 0⟩] scope pos) 0 it acc env) R s := by
 refine codeAny_loop rfl I (fun n s hI => ?_) n h
 show wpAny _ A ((compTurn (.ListComp elt [⟨target, iter, ifs, 0⟩] scope pos) 0 it acc env).onRaise (fun x => do noteFrame x env; theTreesLotGoes x)) _ _ s
 refine wpAny_noted ?_
 rw [compTurn_list]
 refine wpAny_bind (wpAny_standAt (wpAny_bind (wpAny_mono (turn n s hI) (fun r s₁ h₁ => ?_) fun _ _ h' => h'.elim)))
 cases r with
 | none => exact wpAny_pure h₁
 | some v =>
  refine wpAny_bind (wpAny_mono h₁ (fun _ s₁' h₁' => wpAny_bind (wpAny_mono h₁' (fun _ s₂ h₂ => wpAny_bind (wpAny_mono h₂ (fun ok s₃ h₃ => ?_) fun _ _ h' => h'.elim)) fun _ _ h' => h'.elim)) fun _ _ h' => h'.elim)
  cases ok with
  | false => exact wpAny_pure ⟨rfl, h₃⟩
  | true =>
   exact wpAny_bind (wpAny_bind (wpAny_mono h₃ (fun x s₄ h₄ => wpAny_bind (wpAny_mono h₄ (fun _ s₅ h₅ => wpAny_pure (wpAny_pure ⟨rfl, h₅⟩)) fun _ _ h' => h'.elim)) fun _ _ h' => h'.elim))
end
def compCx (X : Cx) (N' : List Str) (scope : Scope) (cl : List (Str × Addr)) (s : Shared) (H : Hp) (fp : List Addr) : Cx :=
 { X with N := N', s₀ := s, H₀ := H, env := compEnvC scope cl s.heap.objs.size X.env, outer := X.stack, stack := X.stack, ex := fp, fn := fun _ => false, pn := [], xe := fun _ _ => False }
inductive Frees (X : Cx) (rs : Scope) (cl : List (Str × Addr)) : List Str → List Nat → Prop where
 | nil : Frees X rs cl [] []
 | cons {y : Str} {i : Nat} {fx : List Str} {fr : List Nat} (h1 : X.N[i]? = some y) (h2 : X.env.kindOf y = some .cell) (h3 : rs.names.lookup y = some .cell) (h4 : cl.lookup y = X.env.cells.lookup y) (r : Frees X rs cl fx fr) : Frees X rs cl (y :: fx) (i :: fr)
def frV (σ : St) (fr : List Nat) : St := fr.map fun i => (σ[i]?).getD none
theorem Frees.len {X : Cx} {rs : Scope} {cl : List (Str × Addr)} {fx : List Str} {fr : List Nat} (F : Frees X rs cl fx fr) : fr.length = fx.length := by
 induction F with
 | nil => rfl
 | cons _ _ _ _ _ ih => simp [ih]
theorem Frees.at {X : Cx} {rs : Scope} {cl : List (Str × Addr)} {σ : St} : ∀ {fx : List Str} {fr : List Nat}, Frees X rs cl fx fr → ∀ (j : Nat) (y : Str) (v : V), fx[j]? = some y → (frV σ fr)[j]? = some (some v) →
  ∃ i : Nat, X.N[i]? = some y ∧ σ[i]? = some (some v) ∧ X.env.kindOf y = some .cell ∧ rs.names.lookup y = some .cell ∧ cl.lookup y = X.env.cells.lookup y
 | _, _, .nil, j, y, v, h, _ => by simp at h
 | _, _, .cons (y := z) (i := i) h1 h2 h3 h4 r, 0, y, v, h, hv => by
  simp only [List.getElem?_cons_zero, Option.some.injEq] at h
  subst h
  simp only [frV, List.map_cons, List.getElem?_cons_zero, Option.some.injEq] at hv
  refine ⟨i, h1, ?_, h2, h3, h4⟩
  cases e : σ[i]? with
  | none => rw [e] at hv; cases hv
  | some o => rw [e] at hv; exact congrArg some hv
 | _, _, .cons h1 h2 h3 h4 r, j + 1, y, v, h, hv => by
  simp only [List.getElem?_cons_succ] at h
  simp only [frV, List.map_cons, List.getElem?_cons_succ] at hv
  exact r.at j y v h hv
theorem Frees.mem {X : Cx} {rs : Scope} {cl : List (Str × Addr)} : ∀ {fx : List Str} {fr : List Nat}, Frees X rs cl fx fr → ∀ y ∈ fx, X.env.kindOf y = some .cell ∧ cl.lookup y = X.env.cells.lookup y
 | _, _, .nil, y, h => by simp at h
 | _, _, .cons h1 h2 h3 h4 r, y, h => by
  rcases List.mem_cons.mp h with rfl | h
  ·exact ⟨h2, h4⟩
  ·exact r.mem y h
section
variable {X : Cx} {pins : List (Addr × Obj)} {σ : St} {H1 : Hp} {s3 : Shared} {x : Str} {fx : List Str} {fr : List Nat} {scope : Scope} {cl : List (Str × Addr)} {fp : List Addr}
theorem oqc (I : Inv X pins σ H1 s3) (hkind : scope.kind = .function) (hcl : ∀ y c, cl.lookup y = some c → X.env.cells.lookup y = some c)
  (F : Frees X (relabel scope X.env) cl fx fr) (hfx : ((relabel scope X.env).names.all fun p => if (p.2 == .cell || p.2 == .free) then fx.contains p.1 else true) = true)
  (ffp : ∀ b ∈ fp, FpOk X pins H1 b) (flt : ∀ b ∈ fp, b < s3.heap.objs.size) : (compCx X (x :: fx) scope cl s3 H1 fp).Ok where
 mod := I.ok.mod
 kind := hkind
 glob := I.ok.glob
 blt := I.ok.blt
 above := Nat.le_refl _
 inj := fun y z c h1 h2 => I.ok.inj y z c (hcl y c h1) (hcl z c h2)
 has := fun y h => by
  have h : (relabel scope X.env).names.lookup y = some .cell ∨ (relabel scope X.env).names.lookup y = some .free := h
  have key : y ∈ fx := by
   rcases h with h | h
   ·have q := List.all_eq_true.mp hfx _ (PySem.mem_of_lookup h)
    simpa using q
   ·have q := List.all_eq_true.mp hfx _ (PySem.mem_of_lookup h)
    simpa using q
  obtain ⟨k1, k2⟩ := F.mem y key
  obtain ⟨c, e⟩ := I.ok.has y (.inl k1)
  exact ⟨c, k2.trans e⟩
 cab := fun y c h => by cases (show false = true from h)
 hd := I.ok.hd
 frames := I.ok.frames
 stk := .inl rfl
 exf := fun b hb => ⟨Nat.ne_of_lt (flt b hb), fun y c e => (ffp b hb).2.2.2.2.1 y c (hcl y c e)⟩
 bs := I.bs
 bsz := Nat.le_trans I.ok.bsz I.sz
 noex := fun b o e hb => by
  rcases (ffp b hb).2.2.2.1 with z | z
  ·exact I.ok.noex b o e z
  ·exact absurd (Nat.lt_of_lt_of_le (Heap.lt_size (I.ok.bs b o e).1) z) (Nat.lt_irrefl _)
 exfs := fun b hb z => by
  rcases List.mem_cons.mp (I.stkSub b z) with q | q
  ·exact (ffp b hb).2.1 q
  ·exact (ffp b hb).2.2.1 q
 funs := I.stack
 frf := I.stkFree
theorem jqO (I : Inv X pins σ H1 s3) (hkind : scope.kind = .function) (hcl : ∀ y c, cl.lookup y = some c → X.env.cells.lookup y = some c)
  (F : Frees X (relabel scope X.env) cl fx fr) (hfx : ((relabel scope X.env).names.all fun p => if (p.2 == .cell || p.2 == .free) then fx.contains p.1 else true) = true)
  (ffp : ∀ b ∈ fp, FpOk X pins H1 b) (flt : ∀ b ∈ fp, b < s3.heap.objs.size) {h1 : Heap} {t : Nat} {m : Str → Option Value} (hn : h1.Ns s3.heap.objs.size m)
  (keep : ∀ b u, s3.heap.get? b = some u → h1.get? b = some u) : Inv (compCx X (x :: fx) scope cl s3 H1 fp) [] (none :: frV σ fr) H1 { s3 with heap := h1, toks := t } := by
 refine ⟨oqc I hkind hcl F hfx ffp flt, rfl, I.bare, Un.kept keep, ⟨m, hn, fun i y v e1 e2 e3 => ?_⟩, fun y c e => ?_, I.hok.fresh (Nat.le_refl _), fun y c e => I.freeC y c (hcl y c e), fun p hp => absurd (show p ∈ ([] : List (Addr × Obj)) from hp) (by simp), I.hok.kept keep, ?_⟩
 ·cases i with
  | zero => simp at e2
  | succ j =>
   obtain ⟨i0, k1, k2, k3, k4, k5⟩ := F.at (σ := σ) j y v (by simpa [compCx] using e1) (by simpa using e2)
   obtain ⟨m0, hn0, hl0⟩ := I.loc
   obtain ⟨u, r, l⟩ := hl0 i0 y v k1 k2 (.inr (.inl k3))
   refine ⟨u, r, ?_⟩
   rcases l with ⟨z, _⟩ | ⟨_, c, e, o, ho, hd⟩
   ·rw [k3] at z; cases z
   ·exact .inr ⟨.inl k4, c, k5.trans e, o, keep c o ho, hd⟩
 ·obtain ⟨v, o, ho, hd⟩ := I.cell y c (hcl y c e)
  exact ⟨v, o, keep c o ho, hd⟩
 ·show (none :: frV σ fr).length = (x :: fx).length
  simp [frV, F.len]
theorem kqx {N' : List Str} {pins' : List (Addr × Obj)} {σ' : St} {H2 : Hp} {s' : Shared} {h' : Heap} (I : Inv X pins σ H1 s3) (J : Inv (compCx X N' scope cl s3 H1 fp) pins' σ' H2 s') (ffp : ∀ b ∈ fp, FpOk X pins H1 b)
  (sb : Heap.SameBut s3.heap.objs.size s'.heap h') : Inv X pins σ H2 { s' with heap := h' } := by
 have k : ∀ b u, b ≠ s3.heap.objs.size → s'.heap.get? b = some u → h'.get? b = some u := fun b u hb e => sb.extBut b u hb e
 have lt : ∀ b u, s3.heap.get? b = some u → b ≠ s3.heap.objs.size := fun b u e => Nat.ne_of_lt (Heap.lt_size e)
 have u : Un (frs X.stack) fp H1 H2 s3.heap s'.heap := J.base
 have u' : Un (frs X.stack) fp H1 H2 s3.heap h' :=
  ⟨fun b o q n hb hx => k b o (lt b o q) (u.keep b o q n hb hx), fun b o q n hb hx => by
    obtain ⟨sl, e⟩ := u.slot b o q n hb hx
    exact ⟨sl, k b _ (lt b o q) e⟩, u.free, fun b o q hx => by
    obtain ⟨o', e⟩ := u.there b o q hx
    exact ⟨o', k b _ (lt b o q) e⟩, u.tups, u.frzs, u.tbls⟩
 have nC : H2 s3.heap.objs.size = none := J.free
 have hok : HOk X.prog X.w H2 h' := fun b uo e => by
  refine (J.hok b uo e).stay (fun c v hc q => k c v ?_ q) (fun _ q => q) fun _ _ q => q
  rintro rfl
  rcases hc with z | z
  ·rw [← z, nC] at e; cases e
  ·rw [nC] at z; cases z
 have os : s'.os = s3.os := J.os
 have bare := J.bare
 obtain ⟨hh, g, d, t, os'⟩ := s'
 obtain rfl : os' = s3.os := os
 have fin := I.call (h' := h') (g' := g) (d' := d) (t' := t) (ch := fp) u' hok bare fun b hb => by
  obtain ⟨f0, f1, f2, f3, f4, f5⟩ := ffp b hb
  exact ⟨f3, f1, f4, f5⟩
 exact fin
end
def PF (X : Cx) (ifs : List Expr) (t : TT) : Prop :=
 ∀ (pins : List (Addr × Obj)) (s : Shared) (σ : St) (H : Hp) (Q : Bool → Hp → Prop), Inv X pins σ H s → t σ H Q →
  wpAny (model X.prog X.w) X.A (forIn ifs true fun c r => if r = true then do let ok ← isTrue c X.env (eval c X.env); pure (ForInStep.yield ok) else pure (ForInStep.yield r)) (TP X pins σ Q) X.xe s
def tYes : TT := fun _ H Q => Q true H
theorem pq1 {X : Cx} : PF X [] tYes := fun _ _ _ H _ I h => wpAny_tests_nil ⟨H, I, h⟩
def CompI (J : It) (p : Addr) (fv : St) (tt : TT) (te : TE) (Q : VK) (H1 : Hp) : Prop :=
 ∃ W : Nat → Nat → List V → Hp → Prop, (∃ m, W 0 m [] (upd H1 p (.lst []))) ∧ ∀ i m ys H2, W i m ys H2 → H2 p = some (.lst ys) ∧
  ((J.stop i H2 ∧ Q (.ref p) H2) ∨ (J.go i H2 ∧ ys.length < sizeLine ∧ ∀ x H3, J.yld i H2 x H3 → tt (some x :: fv) H3 fun b H4 =>
   if b = true then te (some x :: fv) H4 fun y H5 => H5 p = some (.lst ys) ∧ ∃ m', m' < m ∧ W (i + 1) m' (ys ++ [y]) (upd H5 p (.lst (ys ++ [y])))
   else ∃ m', m' < m ∧ W (i + 1) m' ys H4))
def tComp (wi : TI) (fr : List Nat) (tt : TT) (te : TE) : TE := fun σ H Q => wi σ H fun J H1 => ∀ p, H1 p = none → CompI J p (frV σ fr) tt te Q H1
section
variable {X : Cx} {elt iter : Expr} {x : Str} {px pos : Pos} {ifs : List Expr} {scope : Scope} {cl : List (Str × Addr)} {fx : List Str} {fr : List Nat} {wi : TI} {tt : TT} {te : TE}
theorem jqR {pins : List (Addr × Obj)} {σ : St} {H3 : Hp} {s3 : Shared} {it p : Addr} {fp : List Addr} {tn : Nat → Heap → Prop} {J : It} {Q : VK} {W : Nat → Nat → List V → Hp → Prop} {m0 t : Nat} {h₁ : Heap} {m : Str → Option Value} {RR : Result → Shared → Prop}
  (hc : X.calm = true) (hkind : scope.kind = .function) (hx : scope.names.lookup x = some .local) (hnd : (x :: fx).Nodup)
  (hcl : ∀ y c, cl.lookup y = some c → X.env.cells.lookup y = some c) (F : Frees X (relabel scope X.env) cl fx fr)
  (hfx : ((relabel scope X.env).names.all fun p => if (p.2 == .cell || p.2 == .free) then fx.contains p.1 else true) = true)
  (ht : ∀ s H fp, PF (compCx X (x :: fx) scope cl s H fp) ifs tt) (he : ∀ s H fp, PE (compCx X (x :: fx) scope cl s H fp) elt te)
  (I3 : Inv X pins σ H3 s3) (T : Turn X.prog X.w X.K (.Name x px) J fp it tn) (st3 : tn 0 s3.heap) (ffp : ∀ b ∈ fp, FpOk X pins H3 b) (flt3 : ∀ b ∈ fp, b < s3.heap.objs.size)
  (w0 : W 0 m0 [] H3) (turn : ∀ i m ys H2, W i m ys H2 → H2 p = some (.lst ys) ∧
   ((J.stop i H2 ∧ Q (.ref p) H2) ∨ (J.go i H2 ∧ ys.length < sizeLine ∧ ∀ x H3, J.yld i H2 x H3 → tt (some x :: frV σ fr) H3 fun b H4 =>
    if b = true then te (some x :: frV σ fr) H4 fun y H5 => H5 p = some (.lst ys) ∧ ∃ m', m' < m ∧ W (i + 1) m' (ys ++ [y]) (upd H5 p (.lst (ys ++ [y])))
    else ∃ m', m' < m ∧ W (i + 1) m' ys H4)))
  (hns : h₁.Ns s3.heap.objs.size m) (keep1 : ∀ b u, s3.heap.get? b = some u → h₁.get? b = some u)
  (fin : ∀ s6 H5 o, Inv (compCx X (x :: fx) scope cl s3 H3 fp) [] (o :: frV σ fr) H5 s6 → Q (.ref p) H5 → RR (.ok .next) s6) :
  codeAny (model X.prog X.w) X.A (.compStart (.ListComp elt [⟨.Name x px, iter, ifs, 0⟩] scope pos) 0 (.ref it) (.ref p) (compEnvC scope cl s3.heap.objs.size X.env))
   RR { s3 with heap := h₁, toks := t } := by
 have I4 := jqO (x := x) (t := t) I3 hkind hcl F hfx ffp flt3 hns keep1
 have st4 : tn 0 h₁ := T.keep _ _ _ st3 fun b hb o e => keep1 b o e
 have fp0 : ∀ b ∈ fp, H3 b = none := fun b hb => (ffp b hb).1
 have hcal : (compCx X (x :: fx) scope cl s3 H3 fp).calm = true := hc
 have stat : ∀ {H' : Hp}, (∀ b ∈ fp, H' b = none) → ∀ b ∈ fp, FpOk (compCx X (x :: fx) scope cl s3 H3 fp) [] H' b := fun {H'} hn b hb => by
  obtain ⟨f0, f1, f2, f3, f4, f5⟩ := ffp b hb
  exact ⟨hn b hb, Nat.ne_of_lt (flt3 b hb), I4.ok.exfs b hb, .inl hb, fun y c e => f4 y c (hcl y c e), fun q hq => absurd (show q ∈ ([] : List (Addr × Obj)) from hq) (by simp)⟩
 have hxl : (relabel scope X.env).names.lookup x = some .local := lookup_relabel_local hx
 have pg : PG (compCx X (x :: fx) scope cl s3 H3 fp) (.Name x px) (gName 0) := bqb (i := 0) hnd rfl (.inl hxl) (.inr hxl)
 have loop : codeAny (model X.prog X.w) X.A (.compLoop (.ListComp elt [⟨.Name x px, iter, ifs, 0⟩] scope pos) 0 (.ref it) (.ref p) (compEnvC scope cl s3.heap.objs.size X.env))
    RR { s3 with heap := h₁, toks := t } := by
  refine iqu (fun n s' => ∃ i ys H' o, Inv (compCx X (x :: fx) scope cl s3 H3 fp) [] (o :: frV σ fr) H' s' ∧ tn i s'.heap ∧ (∀ b ∈ fp, H' b = none) ∧ W i n ys H') ?_ m0 ⟨0, [], _, none, I4, st4, fp0, w0⟩
  rintro n s5 ⟨i, ys, H5, o, I5, st5, fr5, w5⟩
  obtain ⟨hp5, alt⟩ := turn i n ys H5 w5
  rcases alt with ⟨stop, qn⟩ | ⟨go, hlen, step⟩
  ·refine thn (T.done (compCx X (x :: fx) scope cl s3 H3 fp) rfl rfl rfl hcal i [] s5 (o :: frV σ fr) H5 _ I5 (stat fr5) st5 stop) fun r s6 W' => ?_
   obtain ⟨hr, I6⟩ := W'
   subst hr
   exact fin s6 H5 o I6 qn
  ·refine thn (T.item (compCx X (x :: fx) scope cl s3 H3 fp) rfl rfl rfl hcal i [] s5 (o :: frV σ fr) H5 _ I5 (stat fr5) st5 go) fun r s6 W' => ?_
   obtain ⟨u, hr, h6⟩ := W'
   subst hr
   refine thn h6 fun _ s7 W' => ?_
   obtain ⟨y7, H7, I7, r7, yl7, st7, fr7⟩ := W'
   have I7' := I7.pinned (stat fr7) (T.obj _ _ st7)
   have back : ∀ {σ' : St} {H' : Hp} {s' : Shared}, Inv (compCx X (x :: fx) scope cl s3 H3 fp) ([] ++ pinsAt fp s7.heap) σ' H' s' → tn (i + 1) s'.heap ∧ ∀ b ∈ fp, H' b = none := fun {σ' H' s'} I' => by
    refine ⟨T.keep _ _ _ st7 fun b hb o e => (I'.pin (b, o) (List.mem_append_right _ (List.mem_append_right _ (eqA hb e)))).1, fun b hb => ?_⟩
    obtain ⟨o, e, d⟩ := T.obj _ _ st7 b hb
    exact (I'.pin (b, o) (List.mem_append_right _ (List.mem_append_right _ (eqA hb e)))).2.1
   refine thn (pg _ s7 _ H7 y7 u (fun σ' H' => σ' = some y7 :: frV σ fr ∧ H' = H7) I7' r7 ⟨rfl, rfl⟩) fun _ s8 W' => ?_
   obtain ⟨σ8, H8, I8, e8, e8'⟩ := W'
   subst e8 e8'
   refine thn (ht s3 H3 fp _ s8 _ _ _ I8 (step y7 _ yl7)) fun b s9 W' => ?_
   obtain ⟨H9, I9, q9⟩ := W'
   cases b with
   | false =>
    rw [if_neg Bool.false_ne_true] at q9 ⊢
    obtain ⟨m', hm, w9⟩ := q9
    exact ⟨m', hm, i + 1, ys, H9, some y7, I9.unpinned, (back I9).1, (back I9).2, w9⟩
   | true =>
    rw [if_pos rfl] at q9 ⊢
    refine thn (he s3 H3 fp _ s9 _ H9 _ I9 q9) fun u10 s10 W' => ?_
    obtain ⟨y10, H10, I10, r10, hp10, m', hm, w10⟩ := W'
    refine thn (eqT _ s10 _ H10 (.ref p) [y10] (.ref p) [u10] (fun _ H' => H' = upd H10 p (.lst (ys ++ [y10]))) I10 rfl (.cons r10 .nil) ⟨p, ys, y10, rfl, rfl, hp10, hlen, rfl⟩) fun _ s11 W' => ?_
    obtain ⟨_, H11, I11, _, e11⟩ := W'
    subst e11
    exact ⟨m', hm, i + 1, ys ++ [y10], _, some y7, I11.unpinned, (back I11).1, (back I11).2, w10⟩
 exact codeAny_compStart_list loop (T.self _ 0 _ _ _ st4 loop)
theorem oqd (hc : X.calm = true) (hclos : closureFor scope X.env = pure cl) (hcell : ∀ y ∈ scope.names, y.2 ≠ .cell) (hkind : scope.kind = .function)
  (hnames : ∀ y ∈ scope.names, y.2 = .local → scope.names.lookup y.1 = some .local) (hx : scope.names.lookup x = some .local) (hnd : (x :: fx).Nodup)
  (hk : (cl.all fun q => fx.contains q.1) = true) (F : Frees X (relabel scope X.env) cl fx fr)
  (hfx : ((relabel scope X.env).names.all fun p => if (p.2 == .cell || p.2 == .free) then fx.contains p.1 else true) = true)
  (hi : PI X (.Name x px) iter wi) (ht : ∀ s H fp, PF (compCx X (x :: fx) scope cl s H fp) ifs tt) (he : ∀ s H fp, PE (compCx X (x :: fx) scope cl s H fp) elt te)
  (hs : ∀ x, foldedSetIterable iter X.env x = pure x := by intro _; rfl) :
  PE X (.ListComp elt [⟨.Name x px, iter, ifs, 0⟩] scope pos) (tComp wi fr tt te) := by
 intro pins s σ H Q I h
 have hcl : ∀ y c, cl.lookup y = some c → X.env.cells.lookup y = some c := fun y c e => by
  have q := List.all_eq_true.mp hk _ (PySem.mem_of_lookup e)
  rw [← (F.mem y (by simpa using q)).2]
  exact e
 rw [eval_ListComp]
 refine wpAny_comprehension_free (use := none) rfl hs hclos hkind hnames ?_
 refine thn (hi pins s σ H _ I h) fun v s1 h1 => thn h1 fun itv s2 h2 => ?_
 obtain ⟨it, fp, tn, J, H2, e, I2, T, st2, f2, q2⟩ := h2
 subst e
 have hp0 : H2 s2.heap.objs.size = none := I2.hok.fresh (Nat.le_refl _)
 obtain ⟨W, ⟨m0, w0⟩, turn⟩ := q2 _ hp0
 have flt : ∀ b ∈ fp, b < s2.heap.objs.size := fun b hb => by
  obtain ⟨o, e, _⟩ := T.obj _ _ st2 b hb
  exact Heap.lt_size e
 refine wpAny_newObj_type (wpAny_newFunctionEnv hcell (by intro y hy; simp at hy) (fun h₁ hns₁ hsb₁ => ?_) hkind)
 dsimp only at hns₁ hsb₁ ⊢
 have hlay : ∀ b u, s2.heap.get? b = some u → (s2.heap.push { cls := .type "list", dict := none, data := .seq ([] : List Value).toArray }).get? b = some u := fun b u e => Heap.get?_push_of_some _ e
 have hnew : (s2.heap.push { cls := .type "list", dict := none, data := .seq ([] : List Value).toArray }).get? s2.heap.objs.size = some { cls := .type "list", dict := none, data := .seq ([] : List Value).toArray } := Heap.get?_push_size _ rfl
 have hsz : (s2.heap.push { cls := .type "list", dict := none, data := .seq ([] : List Value).toArray }).objs.size = s2.heap.objs.size + 1 := Heap.size_push _ _
 generalize hHH : s2.heap.push { cls := .type "list", dict := none, data := .seq ([] : List Value).toArray } = HH at hns₁ hsb₁ hlay hnew hsz ⊢
 have I3 : Inv X pins σ (upd H2 s2.heap.objs.size (.lst [])) { s2 with heap := HH, toks := s2.toks } :=
  I2.laid (t' := s2.toks) (o := .lst []) hlay (Nat.le_refl _) ⟨Nat.zero_le _, [], 0, .nil, hnew⟩
 have ffp : ∀ b ∈ fp, FpOk X pins (upd H2 s2.heap.objs.size (.lst [])) b := fun b hb => by
  obtain ⟨f0, fr'⟩ := f2 b hb
  exact ⟨by rw [aqm (Nat.ne_of_lt (flt b hb))]; exact f0, fr'⟩
 have keep1 : ∀ b u, HH.get? b = some u → h₁.get? b = some u := fun b u e => hsb₁.extBut b u (Nat.ne_of_lt (Heap.lt_size e)) (Heap.get?_push_of_some _ e)
 exact jqR (s3 := { s2 with heap := HH, toks := s2.toks }) hc hkind hx hnd hcl F hfx ht he I3 T (T.keep _ _ _ st2 fun b hb o e => hlay b o e) ffp (fun b hb => by show b < HH.objs.size; rw [hsz]; exact Nat.lt_succ_of_lt (flt b hb)) w0 turn hns₁ keep1 fun s6 H5 o I6 qn => by
  obtain ⟨m, hn6, _⟩ := id I6.loc
  exact ⟨m, hn6, fun h' sb => ⟨.ref _, H5, kqx I3 I6 ffp sb, rfl, qn⟩⟩
end
section
variable {p : Addr} {fv : St} {te : TE} {Q : VK} {H1 : Hp}
theorem lqj {z : Str} (hz : z.length ≤ sizeLine) (hp : H1 p = none) (f : Nat → V)
  (he : ∀ c, c ∈ z.cps.toList → ∀ (H' : Hp) (R : VK), (∀ H'', Same H' H'' → R (f c) H'') → te (some (.str ⟨#[c]⟩) :: fv) H' R)
  (hQ : ∀ H', Same H1 H' → H' p = some (.lst (z.cps.toList.map f)) → Q (.ref p) H') : CompI (Its z) p fv tYes te Q H1 := by
 have hl : z.cps.toList.length = z.length := by simp [Str.length]
 refine ⟨fun i m ys H2 => m = z.length - i ∧ i ≤ z.length ∧ ys = (z.cps.toList.take i).map f ∧ H2 p = some (.lst ys) ∧ Same H1 H2, ⟨z.length, by simp, Nat.zero_le _, by simp, aqr, fun b o e => by rw [aqm (aqn e hp)]; exact e⟩, ?_⟩
 rintro i m ys H2 ⟨rfl, hi, rfl, hp2, sm⟩
 refine ⟨hp2, ?_⟩
 by_cases hlt : i < z.length
 ·refine .inr ⟨hlt, ?_, fun x H3 y => ?_⟩
  ·rw [List.length_map, List.length_take]; omega
  ·obtain ⟨rfl, c, hc, rfl⟩ := y
   unfold tYes
   dsimp only
   rw [if_pos rfl]
   refine he c (List.mem_of_getElem? hc) _ _ fun H5 s5 => ⟨s5 _ _ hp2, z.length - (i + 1), by omega, rfl, hlt, ?_, aqr, fun b o e => ?_⟩
   ·rw [List.take_add_one, hc, List.map_append]; rfl
   ·rw [aqm (aqn e hp)]; exact s5 _ _ (sm _ _ e)
 ·have e : i = z.length := by omega
  subst e
  refine .inl ⟨Nat.le_refl _, hQ H2 sm ?_⟩
  rw [hp2, ← hl, List.take_length]
end
section
variable {σ : St} {H : Hp} {Q : VK} {K : PySem.W.Frag} {tl te : TE} {tt : TT} {fr : List Nat}
theorem nqD : frV σ [] = [] := rfl
theorem lqo {i : Nat} {r : List Nat} : frV σ (i :: r) = (σ[i]?).getD none :: frV σ r := rfl
theorem oqB {z : Str} {p : Addr} : rJoin K (.str z) [.ref p] H Q ↔ ∃ ys : List Str, SqL K H p (ys.map V.str) ∧ (ys.map (·.length)).sum + ys.length * z.length ≤ 16777216 ∧ Q (.str (Txt.join z ys)) H := by
 constructor
 ·rintro ⟨z', p', ys, h1, h2, h3⟩
  cases h1; cases h2
  exact ⟨ys, h3⟩
 ·rintro ⟨ys, h⟩
  exact ⟨z, p, ys, rfl, rfl, h⟩
theorem lqp : (tComp (iStr tl) fr tt te σ H Q) = (tl σ H fun x H1 => ∃ z, x = .str z ∧ ∀ p, H1 p = none → CompI (Its z) p (frV σ fr) tt te Q H1) := rfl
theorem mqj : (tComp (iList K tl) fr tt te σ H Q) = (tl σ H fun x H1 => ∃ a, x = .ref a ∧ (∃ xs, SqL K H1 a xs) ∧ ∀ p, H1 p = none → CompI (Itl K a) p (frV σ fr) tt te Q H1) := rfl
end
section
variable {X : Cx} {K : PySem.W.Frag}
theorem dqv (h : X.K = K) : OpR X (binaryOp .Add) (rAddU K) := by subst h; exact kqB
theorem aq8 (h : X.K = K) : IxR X (rIx K) := by subst h; exact pqu
theorem jq6 (h : X.K = K) : SlR X (rSl K) := by subst h; exact pqF
theorem bq2 (h : X.K = K) : CallR X (.builtin "len") (rLenU K) := by subst h; exact kqC
theorem lqV (h : X.K = K) : MtR X "str.join" (rJoin K) := by subst h; exact nqq
theorem lq7 {tg l : Expr} {tl : TE} (h : X.K = K) (hl : PE X l tl) : PI X tg l (iList K tl) := by subst h; exact nqN hl
variable {o e : Expr} {es : List Expr} {to : TE} {t : TA} {name : Str} {apos cpos : Pos} {T id : String} {r : V → List V → Hp → VK → Prop}
theorem fqt (h : X.K = K) (pa : PlainAttrs T) (slot : Slot T name id) (hty : typeOf (.builtin id) = pure (.type "method_descriptor")) (hm : MtR X id r) (ho : PE X o to) (ha : PA X (e :: es) t)
  (hbase : attributeBase o name X.env (eval o X.env) = eval o X.env := by rfl)
  (hfew : ((backTo cpos (starEach (e :: es) X.env)).all (fun x => !x.1) && (backToKw cpos (keywordEach [] X.env)).all (fun x => x.1.isSome)
   && decide ((e :: es).length + ([] : List Keyword).length + (if ([] : List Keyword).isEmpty then 0 else 1) < 30)) = true := by rfl)
  (hline : (apos.endLine == cpos.line) = true := by rfl) (hs : starEach (e :: es) X.env = (false, eval e X.env) :: starEach es X.env := by rfl) (hplain : (backTo cpos (starEach es X.env)).any (·.1) = false := by rfl) :
  PE X (.Call (.Attribute o name apos) (e :: es) [] cpos) (tBM K T r to t) := by
 subst h; exact qqC pa slot hty hm ho ha hbase hfew hline hs hplain
end
structure FunD (K : PySem.W.Frag) (x qual : Str) (st : Stmt) (f : Addr) (fd : FuncData) (T : Addr) : Prop where
 ex : ∃ (oc : Value) (od : Option Addr) (kV doc pm : Value) (an : Option Addr) (cdv ct : Value) (osl : Array (Option Value)),
  fd = PySem.W.fnOf x qual (defArgs st) (defBody st) (defScope st) (.ref T) kV doc pm an cdv ct ∧ K.lookup f = some ⟨oc, od, .func fd, osl⟩ ∧ PySem.W.codeIn K cdv qual = true
 kp : PySem.W.keepIn K (.ref f) = true
section
variable {P : Program} {w : World} {K : PySem.W.Frag} {mg : Str → Option Value} {base : Heap}
theorem FunD.binds {x qual : Str} {st : Stmt} {f T : Addr} {fd : FuncData} {ps : List Str} {ds : List Value} {oc : Value} {od : Option Addr} {items : Array Value} {n : Nat} {sl : Array (Option Value)} (F : FunD K x qual st f fd T) (hT : K.lookup T = some ⟨oc, od, .seq items n, sl⟩)
  (h : ∀ (kV doc pm : Value) (an : Option Addr) (cdv ct : Value) (us : List Value), (us ++ ds).length = ps.length → ∃ k : Option (Array Value) → Sem (List (Str × Value)),
   bindArgs (PySem.W.fnOf x qual (defArgs st) (defBody st) (defScope st) (.ref T) kV doc pm an cdv ct) ⟨us, []⟩ = seqItems? (.ref T) >>= k ∧ k (some items) = pure (ps.zip (us ++ ds))) : Binds K fd ps ds := by
 obtain ⟨oc', od', kV, doc, pm, an, cdv, ct, osl, rfl, lk, hcd⟩ := F.ex
 intro s us X hl
 obtain ⟨k, h1, h2⟩ := h kV doc pm an cdv ct us hl
 exact BindsTo.of_defaults (T := T) rfl (X T _ hT) rfl h1 h2
theorem kqa {x qual : Str} {st : Stmt} {f T : Addr} {oc : Value} {od an : Option Addr} {osl : Array (Option Value)} {kV doc pm cdv ct : Value} (l : K.lookup f = some ⟨oc, od, .func (PySem.W.fnOf x qual (defArgs st) (defBody st) (defScope st) (.ref T) kV doc pm an cdv ct), osl⟩)
  (c : PySem.W.codeIn K cdv qual = true) (k : PySem.W.keepIn K (.ref f) = true) : FunD K x qual st f (PySem.W.fnOf x qual (defArgs st) (defBody st) (defScope st) (.ref T) kV doc pm an cdv ct) T := ⟨⟨oc, od, kV, doc, pm, an, cdv, ct, osl, rfl, l, c⟩, k⟩
end
theorem hqu {c : TT} {tb : TS} {D : Ends} {σ : St} {H : Hp} (W : Nat → St → Hp → Prop) (m0 : Nat) (h0 : W m0 σ H)
  (hs : ∀ m σ H, W m σ H → c σ H fun b H1 => if b = true then ∃ N : St → Hp → Prop, (∀ σ' H', N σ' H' → ∃ m', m' < m ∧ W m' σ' H') ∧ tb { D with nx := N, ct := N, bk := D.nx } σ H1 else D.nx σ H1) : tWhile c tb D σ H := ⟨W, ⟨m0, h0⟩, hs⟩
section
variable {σ : St} {H : Hp} {Q : VK}
theorem qqD {r : V → Hp → VK → Prop} {ta : TE} : (tUn r ta σ H Q) = (ta σ H fun x H1 => r x H1 Q) := rfl
theorem rd_U {g : Int → V} {i : Int} : rU g (.int i) H Q ↔ Q (g i) H := ⟨fun ⟨_, h1, h2⟩ => by cases h1; exact h2, fun h => ⟨i, rfl, h⟩⟩
theorem pqP {l : Addr} {y : V} : rAppend (.ref l) [y] H Q ↔ ∃ xs, H l = some (.lst xs) ∧ xs.length < sizeLine ∧ Q .non (upd H l (.lst (xs ++ [y]))) := by
 constructor
 ·rintro ⟨l', xs, y', h1, h2, h3⟩
  cases h1; cases h2
  exact ⟨xs, h3⟩
 ·rintro ⟨xs, h⟩
  exact ⟨l, xs, y, rfl, rfl, h⟩
theorem nqF {K : PySem.W.Frag} {p : Addr} : tyV K "list" (.ref p) H ↔ ∃ xs, SqL K H p xs := by
 constructor
 ·rintro (⟨_, h⟩ | ⟨h, _⟩ | ⟨h, _⟩ | ⟨h, _⟩)
  ·exact h
  ·exact absurd h (by decide)
  ·exact absurd h (by decide)
  ·exact absurd h (by decide)
 ·intro h; exact .inl ⟨rfl, h⟩
end
mutual
inductive Is (H : Hp) : PyData → V → Prop
 | non : Is H .none .non
 | bl (b : Bool) : Is H (.bool b) (.bl b)
 | int (i : Int) : Is H (.int i) (.int i)
 | str (x : Str) : Is H (.str x) (.str x)
 | lst {p : Addr} {xs : List V} {ds : List PyData} : H p = some (.lst xs) → IsAll H ds xs → Is H (.list ds) (.ref p)
 | tup {p : Addr} {xs : List V} {ds : List PyData} : H p = some (.tup xs) → IsAll H ds xs → Is H (.tuple ds) (.ref p)
inductive IsAll (H : Hp) : List PyData → List V → Prop
 | nil : IsAll H [] []
 | cons {d : PyData} {x : V} {ds : List PyData} {xs : List V} : Is H d x → IsAll H ds xs → IsAll H (d :: ds) (x :: xs)
end
mutual
theorem Is.mono {H H' : Hp} (sm : Same H H') : ∀ {d : PyData} {x : V}, Is H d x → Is H' d x
 | _, _, .non => .non
 | _, _, .bl b => .bl b
 | _, _, .int i => .int i
 | _, _, .str x => .str x
 | _, _, .lst h r => .lst (sm _ _ h) (IsAll.mono sm r)
 | _, _, .tup h r => .tup (sm _ _ h) (IsAll.mono sm r)
theorem IsAll.mono {H H' : Hp} (sm : Same H H') : ∀ {ds : List PyData} {xs : List V}, IsAll H ds xs → IsAll H' ds xs
 | _, _, .nil => .nil
 | _, _, .cons h r => .cons (Is.mono sm h) (IsAll.mono sm r)
end
section
variable {X : Cx} {pins : List (Addr × Obj)} {σ : St} {H : Hp} {s : Shared}
mutual
theorem Is.reads (I : Inv X pins σ H s) : ∀ {d : PyData} {x : V} {v : Value}, Is H d x → RelV x v → ∃ as, Reads s.heap v d as
 | _, _, _, .non, r => by cases r; exact ⟨_, .none⟩
 | _, _, _, .bl b, r => by cases r; exact ⟨_, .bool b⟩
 | _, _, _, .int i, r => by obtain ⟨t, rfl⟩ := r; exact ⟨_, .int i t⟩
 | _, _, _, .str x, r => by obtain ⟨t, rfl⟩ := r; exact ⟨_, .str x t⟩
 | _, _, _, .lst h q, r => by
  cases r
  obtain ⟨its, vs, ⟨o, n, e, c, _, dt⟩, _⟩ := I.list (SqL.of h)
  obtain ⟨as, ra⟩ := IsAll.reads I q vs
  exact ⟨_, .list e c dt (by simpa using ra)⟩
 | _, _, _, .tup h q, r => by
  cases r
  obtain ⟨its, vs, ⟨o, e, c, n, dt⟩, _⟩ := I.tuple (SqT.of h)
  obtain ⟨as, ra⟩ := IsAll.reads I q vs
  exact ⟨_, .tuple e c dt (by simpa using ra)⟩
theorem IsAll.reads (I : Inv X pins σ H s) : ∀ {ds : List PyData} {xs : List V} {vs : List Value}, IsAll H ds xs → Vals xs vs → ∃ as, ReadsAll s.heap vs ds as
 | _, _, _, .nil, r => by cases r; exact ⟨_, .nil⟩
 | _, _, _, .cons q t, r => by
  cases r with
  | cons r1 r2 =>
   obtain ⟨as, h1⟩ := Is.reads I q r1
   obtain ⟨bs, h2⟩ := IsAll.reads I t r2
   exact ⟨_, .cons h1 h2⟩
end
def rNeD : R2 := fun x y H Q => ∃ d e, Is H d x ∧ Is H e y ∧ SeqAt.shaped d = true ∧ SeqAt.shaped e = true ∧ Q (.bl (!PyData.eqv d e)) H
theorem pqq (hu : X.A.units + 64 < cLine) : OpR X (compareOp .NotEq) rNeD := by
 intro pins s σ H x y v u Q I rx ry h
 obtain ⟨d, e, hx, hy, sx, sy, q⟩ := h
 obtain ⟨as, ra⟩ := hx.reads I rx
 obtain ⟨bs, rb⟩ := hy.reads I ry
 exact ne_dataH ra rb sx sy hu ⟨.bl _, H, I, rfl, q⟩
end
mutual
inductive IsT (H : Hp) : PyData → V → Prop
 | non : IsT H .none .non
 | bl (b : Bool) : IsT H (.bool b) (.bl b)
 | int (i : Int) : IsT H (.int i) (.int i)
 | str (x : Str) : IsT H (.str x) (.str x)
 | tup {p : Addr} {xs : List V} {ds : List PyData} : H p = some (.tup xs) → IsTAll H ds xs → IsT H (.tuple ds) (.ref p)
inductive IsTAll (H : Hp) : List PyData → List V → Prop
 | nil : IsTAll H [] []
 | cons {d : PyData} {x : V} {ds : List PyData} {xs : List V} : IsT H d x → IsTAll H ds xs → IsTAll H (d :: ds) (x :: xs)
end
def SameT (H H' : Hp) : Prop := ∀ b xs, H b = some (.tup xs) → H' b = some (.tup xs)
theorem Same.toT {H H' : Hp} (h : Same H H') : SameT H H' := fun b xs e => h b _ e
theorem kq5 {H : Hp} {p : Addr} {xs : List V} {o : HO} (h : H p = some (.lst xs)) : SameT H (upd H p o) := fun b ys e => by
 rw [aqm (pqb e h (by intro z; cases z))]; exact e
mutual
theorem IsT.mono {H H' : Hp} (sm : SameT H H') : ∀ {d : PyData} {x : V}, IsT H d x → IsT H' d x
 | _, _, .non => .non
 | _, _, .bl b => .bl b
 | _, _, .int i => .int i
 | _, _, .str x => .str x
 | _, _, .tup h r => .tup (sm _ _ h) (IsTAll.mono sm r)
theorem IsTAll.mono {H H' : Hp} (sm : SameT H H') : ∀ {ds : List PyData} {xs : List V}, IsTAll H ds xs → IsTAll H' ds xs
 | _, _, .nil => .nil
 | _, _, .cons h r => .cons (IsT.mono sm h) (IsTAll.mono sm r)
end
mutual
theorem IsT.is {H : Hp} : ∀ {d : PyData} {x : V}, IsT H d x → Is H d x
 | _, _, .non => .non
 | _, _, .bl b => .bl b
 | _, _, .int i => .int i
 | _, _, .str x => .str x
 | _, _, .tup h r => .tup h (IsTAll.is r)
theorem IsTAll.is {H : Hp} : ∀ {ds : List PyData} {xs : List V}, IsTAll H ds xs → IsAll H ds xs
 | _, _, .nil => .nil
 | _, _, .cons h r => .cons (IsT.is h) (IsTAll.is r)
end
section
variable {p : Addr} {fv : St} {te : TE} {Q : VK} {H1 : Hp}
inductive All2 (R : V → V → Hp → Prop) (H : Hp) : List V → List V → Prop
 | nil : All2 R H [] []
 | cons {x y : V} {xs ys : List V} : R x y H → All2 R H xs ys → All2 R H (x :: xs) (y :: ys)
end
section
variable {X : Cx}
def rAllB (K : PySem.W.Frag) : List V → Hp → VK → Prop := fun vs H Q => ∃ (p : Addr) (bs : List Bool), vs = [.ref p] ∧ SqL K H p (bs.map V.bl) ∧ Q (.bl (bs.all id)) H
def rAnyB (K : PySem.W.Frag) : List V → Hp → VK → Prop := fun vs H Q => ∃ (p : Addr) (bs : List Bool), vs = [.ref p] ∧ SqL K H p (bs.map V.bl) ∧ Q (.bl (bs.any id)) H
theorem mqa {bs : List Bool} : ∀ {us : List Value}, Vals (bs.map V.bl) us → ∀ (i : Nat) (v : Value), us[i]? = some v → ∃ b, bs[i]? = some b ∧ v = .bool b := by
 induction bs with
 | nil => intro us r i v h; rw [List.map_nil] at r; cases r; simp at h
 | cons b bs ih =>
  intro us r i v h
  rw [List.map_cons] at r
  cases r with
  | cons r1 r2 =>
   cases i with
   | zero => simp at h; subst h; exact ⟨b, rfl, r1⟩
   | succ i =>
    obtain ⟨c, h1, h2⟩ := ih r2 i v (by simpa using h)
    exact ⟨c, by simpa using h1, h2⟩
theorem kq2 (hc : X.calm = true) : CallR X (.builtin "all") (rAllB X.K) := by
 intro pins s σ H xs us Q I r h
 obtain ⟨p, bs, rfl, hq, q⟩ := h
 obtain ⟨u, rfl, ru⟩ := vals1 r
 cases ru
 obtain ⟨its, vs, pl, hl⟩ := I.list hq
 have hI := pl.isList
 have hlt : p < s.heap.objs.size := by obtain ⟨_, e, _⟩ := hI; exact Heap.lt_size e
 refine call_all_walk (wpAny_pyIter_list hI ?_)
 refine ⟨s.heap.objs.size, [s.heap.objs.size, p], [s.heap.objs.size], its.toArray.size, _, _, fun i => (bs[i]?).getD true, rfl, Walks.list (A := X.A.in1) (I.ok.hd hc) _ p (Nat.ne_of_lt hlt) its.toArray,
  ⟨⟨_, Heap.get?_push_size _ rfl, rfl, rfl⟩, hI.push _⟩, fun i v s' Q' E' hP hQ => ?_, fun h' tk hk => ?_⟩
 ·obtain ⟨b, e, rfl⟩ := mqa vs i v (by simpa using hP)
  simp only [e, Option.getD_some] at hQ
  exact wpAny_truthy_bool hQ
 ·have hbl := vs.length
  rw [List.length_map] at hbl
  have e : ((List.range its.toArray.size).all fun i => (bs[i]?).getD true) = bs.all id := by
   rw [List.size_toArray, ← hbl]; exact PyProof.Rows.LSm.range_all bs
  exact ⟨.bl _, H, I.kept (t' := tk) (PyProof.Rows.LSm.kept_iter hk), rfl, by rw [e]; exact q⟩
variable {K : PySem.W.Frag}
theorem kqd (h : X.K = K) (hc : X.calm = true) : CallR X (.builtin "all") (rAllB K) := by subst h; exact kq2 hc
def rListU (K : PySem.W.Frag) : List V → Hp → VK → Prop := fun xs H Q => ∃ p ys, xs = [.ref p] ∧ (SqL K H p ys ∨ SqT K H p ys) ∧ ∀ l, H l = none → Q (.ref l) (upd H l (.lst ys))
def rTupleU (K : PySem.W.Frag) : List V → Hp → VK → Prop := fun xs H Q => ∃ p ys, xs = [.ref p] ∧ ((SqL K H p ys ∧ ∀ l, H l = none → Q (.ref l) (upd H l (.tup ys))) ∨ (SqT K H p ys ∧ Q (.ref p) H))
end
section
variable {H : Hp} {Q : VK} {K : PySem.W.Frag}
theorem nqx {x : V} {T : String} : (rIsiU [x, .ty T] H Q) = (∃ k, kindV x H = some k ∧ T ∈ ["bool", "int", "str", "list", "tuple"] ∧ Q (.bl (subT k T)) H) := rfl
theorem lqZ : kindV .non H = some "NoneType" := rfl
theorem nqQ {b : Bool} : kindV (.bl b) H = some "bool" := rfl
theorem mqb {i : Int} : kindV (.int i) H = some "int" := rfl
theorem lq3 {x : Str} : kindV (.str x) H = some "str" := rfl
theorem lqh {p : Addr} {xs : List V} (h : H p = some (.lst xs)) : kindV (.ref p) H = some "list" := by simp only [kindV, h]
theorem lq0 {p : Addr} {xs : List V} (h : H p = some (.tup xs)) : kindV (.ref p) H = some "tuple" := by simp only [kindV, h]
theorem jq7 : ("bool" ∈ ["bool", "int", "str", "list", "tuple"]) = True := by simp
theorem lqU : ("int" ∈ ["bool", "int", "str", "list", "tuple"]) = True := by simp
theorem lqQ : ("str" ∈ ["bool", "int", "str", "list", "tuple"]) = True := by simp
theorem kq3 : ("list" ∈ ["bool", "int", "str", "list", "tuple"]) = True := by simp
theorem jqz : ("tuple" ∈ ["bool", "int", "str", "list", "tuple"]) = True := by simp
theorem fqk : subT "NoneType" "bool" = false := by decide
theorem fqT : subT "NoneType" "int" = false := by decide
theorem fqU : subT "NoneType" "str" = false := by decide
theorem fqo : subT "NoneType" "list" = false := by decide
theorem eqS : subT "NoneType" "tuple" = false := by decide
theorem hqz : subT "bool" "bool" = true := by decide
theorem iqz : subT "bool" "int" = true := by decide
theorem hqR : subT "bool" "str" = false := by decide
theorem hql : subT "bool" "list" = false := by decide
theorem gq3 : subT "bool" "tuple" = false := by decide
theorem iqI : subT "int" "bool" = false := by decide
theorem iqW : subT "int" "int" = true := by decide
theorem iqT : subT "int" "str" = false := by decide
theorem hqU : subT "int" "list" = false := by decide
theorem hqF : subT "int" "tuple" = false := by decide
theorem iqj : subT "str" "bool" = false := by decide
theorem iqL : subT "str" "int" = false := by decide
theorem iqN : subT "str" "str" = true := by decide
theorem hqW : subT "str" "list" = false := by decide
theorem hqB : subT "str" "tuple" = false := by decide
theorem hqq : subT "list" "bool" = false := by decide
theorem iqC : subT "list" "int" = false := by decide
theorem iqF : subT "list" "str" = false := by decide
theorem hqD : subT "list" "list" = true := by decide
theorem gq0 : subT "list" "tuple" = false := by decide
theorem gqU : subT "tuple" "bool" = false := by decide
theorem hqk : subT "tuple" "int" = false := by decide
theorem hqn : subT "tuple" "str" = false := by decide
theorem gqT : subT "tuple" "list" = false := by decide
theorem gqA : subT "tuple" "tuple" = true := by decide
theorem nql {n : Nat} {t : TGs} {v : V} {σ : St} {R : St → Hp → Prop} : (gTup K n t v σ H R) = (∃ a xs, v = .ref a ∧ SqT K H a xs ∧ xs.length = n ∧ t xs σ H R) := rfl
theorem lql {t : TG} {u : TGs} {vs : List V} {σ : St} {R : St → Hp → Prop} : (gCons t u vs σ H R) = (∃ v r, vs = v :: r ∧ t v σ H fun σ' H' => u r σ' H' R) := rfl
theorem oqr {vs : List V} {σ : St} {R : St → Hp → Prop} : (gNil vs σ H R) = (vs = [] ∧ R σ H) := rfl
theorem mqY {to ti : TE} {t : TSet} {v : V} {σ : St} {R : St → Hp → Prop} : (gSub to ti t v σ H R) = (to σ H fun o H1 => ti σ H1 fun i H2 => t o i v H2 fun H3 => R σ H3) := rfl
theorem nqn {p : Addr} {k : Int} {v : V} {R : Hp → Prop} : rSetL (.ref p) (.int k) v H R ↔ ∃ xs j, H p = some (.lst xs) ∧ ixN xs.length k = some j ∧ R (upd H p (.lst (xs.set j v))) := by
 constructor
 ·rintro ⟨p', xs, k', j, h1, h2, h3⟩; cases h1; cases h2; exact ⟨xs, j, h3⟩
 ·rintro ⟨xs, j, h⟩; exact ⟨p, xs, k, j, rfl, rfl, h⟩
end
section
variable {X : Cx} {K : PySem.W.Frag}
theorem hqL {es : List Expr} {k : Nat} {t : TGs} {n : Nat} {pos : Pos} (h : X.K = K) (hc : X.calm = true) (hg : PGs X es t)
  (hn : (assignEach es X.env).length = n := by rfl) (hst : (assignEach es X.env).findIdx? (·.1) = none := by rfl) : PG X (.Tuple es k pos) (gTup K n t) := by
 subst h; exact oq0 hc hg hn hst
end
def SameBut (p : Addr) (H H' : Hp) : Prop := ∀ b o, b ≠ p → H b = some o → H' b = some o
theorem SameBut.refl (p : Addr) (H : Hp) : SameBut p H H := fun _ _ _ e => e
theorem SameBut.trans {p : Addr} {H H' H'' : Hp} (h : SameBut p H H') (h' : SameBut p H' H'') : SameBut p H H'' := fun b o n e => h' b o n (h b o n e)
theorem Same.but {p : Addr} {H H' : Hp} (h : Same H H') : SameBut p H H' := fun b o _ e => h b o e
theorem gqm {p : Addr} {H : Hp} {o : HO} : SameBut p H (upd H p o) := fun b u n e => by rw [aqm n]; exact e
theorem SameBut.same {p : Addr} {H H' : Hp} (h : SameBut p H H') (hp : H p = none) : Same H H' := fun b o e => h b o (aqn e hp) e
section
variable {p : Addr} {fv : St} {te : TE} {Q : VK} {H1 : Hp} {K : PySem.W.Frag}
theorem Same.tup {H H' : Hp} {a : Addr} {xs : List V} (e : Same H H') (h : SqT K H a xs) : SqT K H' a xs := by
 rcases h with (h | ⟨o, h⟩) | h
 ·exact .inl (.inl (e _ _ h))
 ·exact .inl (.inr ⟨o, e _ _ h⟩)
 ·exact .inr h
variable {σ : St} {H : Hp} {tl : TE} {tt : TT} {fr : List Nat} {g : TG} {tb : TS} {D : Ends}
theorem lqM : (tComp (iTup K tl) fr tt te σ H Q) = (tl σ H fun x H1 => ∃ a, x = .ref a ∧ (∃ xs, SqT K H1 a xs) ∧ ∀ p, H1 p = none → CompI (Itt K a) p (frV σ fr) tt te Q H1) := rfl
theorem nqu : (tFor (iTup K te) g tb D σ H) = (te σ H fun x H1 => ∃ a, x = .ref a ∧ (∃ xs, SqT K H1 a xs) ∧ LoopI (Itt K a) g tb D σ H1) := rfl
theorem kqN {a : Addr} : rAllB K [.ref a] H Q ↔ ∃ bs : List Bool, SqL K H a (bs.map V.bl) ∧ Q (.bl (bs.all id)) H := by
 constructor
 ·rintro ⟨p, bs, h1, h2⟩; cases h1; exact ⟨bs, h2⟩
 ·rintro ⟨bs, h⟩; exact ⟨a, bs, rfl, h⟩
theorem mq4 {a : Addr} : rAnyB K [.ref a] H Q ↔ ∃ bs : List Bool, SqL K H a (bs.map V.bl) ∧ Q (.bl (bs.any id)) H := by
 constructor
 ·rintro ⟨p, bs, h1, h2⟩; cases h1; exact ⟨bs, h2⟩
 ·rintro ⟨bs, h⟩; exact ⟨a, bs, rfl, h⟩
theorem oqV {a : Addr} : rListU K [.ref a] H Q ↔ ∃ ys, (SqL K H a ys ∨ SqT K H a ys) ∧ ∀ l, H l = none → Q (.ref l) (upd H l (.lst ys)) := by
 constructor
 ·rintro ⟨p, bs, h1, h2⟩; cases h1; exact ⟨bs, h2⟩
 ·rintro ⟨bs, h⟩; exact ⟨a, bs, rfl, h⟩
theorem oqQ {a : Addr} : rTupleU K [.ref a] H Q ↔ ∃ ys, (SqL K H a ys ∧ ∀ l, H l = none → Q (.ref l) (upd H l (.tup ys))) ∨ (SqT K H a ys ∧ Q (.ref a) H) := by
 constructor
 ·rintro ⟨p, bs, h1, h2⟩; cases h1; exact ⟨bs, h2⟩
 ·rintro ⟨bs, h⟩; exact ⟨a, bs, rfl, h⟩
theorem nqp {a : Addr} {lo hi : Option Int} : rSlT K (.ref a) lo hi H Q ↔ ∃ xs, SqT K H a xs ∧ ¬ (HT.sIx xs.length 0 lo = 0 ∧ HT.sIx xs.length xs.length hi = xs.length) ∧ ∀ p, H p = none → Q (.ref p) (upd H p (.tup (cutV xs lo hi))) := by
 constructor
 ·rintro ⟨p, bs, h1, h2⟩; cases h1; exact ⟨bs, h2⟩
 ·rintro ⟨bs, h⟩; exact ⟨a, bs, rfl, h⟩
end
def tCut (t u : TS) : TS := fun D σ H => ∃ P : St → Hp → Prop, t { D with nx := P } σ H ∧ ∀ σ' H', P σ' H' → u D σ' H'
section
variable {X : Cx} {st : Stmt} {rest : List Stmt} {t u : TS}
theorem cqz (h1 : PS X st t) (h2 : PSs X rest u) : PSs X (st :: rest) (tCut t u) := by
 intro pins s σ H D I h
 obtain ⟨P, h, hu⟩ := h
 refine wpAny_execs_cons (thn (h1 pins s σ H { D with nx := P } I h) fun f s1 q => ?_)
 cases f with
 | next =>
  obtain ⟨σ', H', I', q⟩ := q
  exact h2 pins s1 σ' H' D I' (hu _ _ q)
 | ret v => exact q
 | brk => exact q
 | cont => exact q
def Later (u : TS) (D : Ends) (σ : St) (H : Hp) : Prop := u D σ H
theorem lqe {D : Ends} {x : Option V} {σ : St} {H : Hp} : (Later u D (x :: σ) H) = (u D (x :: σ) H) := rfl
theorem pq8 {D : Ends} {σ : St} {H : Hp} : (tCut t u D σ H) = (∃ P : St → Hp → Prop, t { D with nx := P } σ H ∧ ∀ σ' H', P σ' H' → Later u D σ' H') := rfl
end
theorem SameBut.free {p q : Addr} {H H' : Hp} (sb : SameBut p H H') (hq : H' q = none) (hne : q ≠ p) : H q = none := by
 cases e : H q with
 | none => rfl
 | some o => rw [sb q o hne e] at hq; cases hq
theorem SameBut.upd {p q : Addr} {H H' : Hp} {o : HO} (sb : SameBut p H H') (hq : H q = none) : SameBut p H (upd H' q o) := fun b u n e => by
 rw [aqm (aqn e hq)]; exact sb b u n e
theorem cqJ {H : Hp} {p : Addr} {o : HO} (hp : H p = none) : Same H (upd H p o) := fun b u e => by rw [aqm (aqn e hp)]; exact e
def tTupS (t : TA) : TE := fun σ H Q => t σ H fun xs H1 => xs.length ≤ sizeLine ∧ ∀ p H', H1 p = none → Same H1 H' → H' p = some (.tup xs) → Q (.ref p) H'
def tLstS (t : TA) : TE := fun σ H Q => t σ H fun xs H1 => xs.length ≤ sizeLine ∧ ∀ p H', H1 p = none → Same H1 H' → H' p = some (.lst xs) → Q (.ref p) H'
section
variable {X : Cx} {es : List Expr} {t : TA} {pos : Pos} {K : PySem.W.Frag}
theorem aqq {x1} (h : PA X es t) : PE X (.Tuple es x1 pos) (tTupS t) := by
 intro pins s σ H Q I hq
 refine wpAny_Tuple_spliced (thn (h pos pins s σ H _ I hq) fun us s1 ⟨xs, H1, I1, r, z, q⟩ => ⟨by rw [← r.length]; exact z, ?_⟩)
 have hf : H1 s1.heap.objs.size = none := I1.hok.fresh (Nat.le_refl _)
 refine ⟨.ref s1.heap.objs.size, upd H1 s1.heap.objs.size (.tup xs), I1.laid (t' := s1.toks) (fun b u e => Heap.get?_push_of_some _ e) (Nat.le_refl _) ?_, rfl, q _ _ hf (cqJ hf) aqr⟩
 exact ⟨z, us, r, ⟨_, Heap.get?_push_size _ rfl, rfl, _, rfl⟩⟩
theorem dqi (h : PA X es t) : PE X (.List es pos) (tLstS t) := by
 intro pins s σ H Q I hq
 refine wpAny_List_spliced (thn (h pos pins s σ H _ I hq) fun us s1 ⟨xs, H1, I1, r, z, q⟩ => ⟨by rw [← r.length]; exact z, ?_⟩)
 have hf : H1 s1.heap.objs.size = none := I1.hok.fresh (Nat.le_refl _)
 refine ⟨.ref s1.heap.objs.size, upd H1 s1.heap.objs.size (.lst xs), I1.laid (t' := s1.toks) (fun b u e => Heap.get?_push_of_some _ e) (Nat.le_refl _) ?_, rfl, q _ _ hf (cqJ hf) aqr⟩
 exact ⟨z, us, 0, r, Heap.get?_push_size _ rfl⟩
def rAddS (K : PySem.W.Frag) : R2 := fun x y H Q => match x, y with
 | .int i, .int j => Q (.int (i + j)) H
 | .str i, .str j => i.length + j.length ≤ sizeLine ∧ Q (.str (i ++ j)) H
 | .ref a, .ref b => (∃ xs zs, H a = some (.lst xs) ∧ H b = some (.lst zs) ∧ xs.length + zs.length ≤ sizeLine ∧ ∀ p H', H p = none → Same H H' → H' p = some (.lst (xs ++ zs)) → Q (.ref p) H') ∨
   (∃ xs ys, H a = some (.tup xs) ∧ H b = some (.tup ys) ∧ xs.length + ys.length ≤ sizeLine ∧ ∀ p H', Same H H' → H' p = some (.tup (xs ++ ys)) → Q (.ref p) H')
 | _, _ => False
theorem aqR : OpR X (binaryOp .Add) (rAddS K) := by
 intro pins s σ H x y v u Q I rx ry h
 refine kqB pins s σ H x y v u Q I rx ry ?_
 cases x with
 | int i =>
  cases y with
  | int j => exact h
  | _ => exact h.elim
 | str i =>
  cases y with
  | str j => exact h
  | _ => exact h.elim
 | ref a =>
  cases y with
  | ref b =>
   rcases h with ⟨xs, zs, h1, h2, h3, h4⟩ | h
   ·exact .inl ⟨xs, zs, h1, h2, h3, fun p hp => h4 p _ hp (cqJ hp) aqr⟩
   ·exact .inr h
  | _ => exact h.elim
 | _ => exact h.elim
def rListS (K : PySem.W.Frag) : List V → Hp → VK → Prop := fun xs H Q => ∃ p ys, xs = [.ref p] ∧ (SqL K H p ys ∨ SqT K H p ys) ∧ ∀ l H', H l = none → Same H H' → H' l = some (.lst ys) → Q (.ref l) H'
def rTupleS (K : PySem.W.Frag) : List V → Hp → VK → Prop := fun xs H Q => ∃ p ys, xs = [.ref p] ∧ (SqL K H p ys ∨ H p = some (.tup ys)) ∧ ∀ l H', Same H H' → H' l = some (.tup ys) → Q (.ref l) H'
theorem gqv (h : X.K = K) : CallR X (.type "tuple") (rTupleS K) := by
 subst h
 intro pins s σ H xs us Q I r h
 obtain ⟨p, ys, h1, h2, h3⟩ := h
 rcases h2 with h2 | h2
 ·exact eqR pins s σ H xs us Q I r ⟨p, ys, h1, .inl ⟨h2, fun l hl => h3 l _ (cqJ hl) aqr⟩⟩
 ·exact eqR pins s σ H xs us Q I r ⟨p, ys, h1, .inr ⟨SqT.of h2, h3 p H (Same.refl _) h2⟩⟩
def rSlS2 (K : PySem.W.Frag) : V → Option Int → Option Int → Hp → VK → Prop := fun x lo hi H Q => ∃ a xs, x = .ref a ∧ SqT K H a xs ∧
 ¬ (HT.sIx xs.length 0 lo = 0 ∧ HT.sIx xs.length xs.length hi = xs.length) ∧ ∀ p H', H p = none → Same H H' → H' p = some (.tup (cutV xs lo hi)) → Q (.ref p) H'
end
section
variable {σ : St} {H : Hp} {Q : VK} {K : PySem.W.Frag} {aa : TA}
theorem nqd : (tTupS aa σ H Q) = (aa σ H fun xs H1 => xs.length ≤ sizeLine ∧ ∀ p H', H1 p = none → Same H1 H' → H' p = some (.tup xs) → Q (.ref p) H') := rfl
theorem nq7 : (tLstS aa σ H Q) = (aa σ H fun xs H1 => xs.length ≤ sizeLine ∧ ∀ p H', H1 p = none → Same H1 H' → H' p = some (.lst xs) → Q (.ref p) H') := rfl
theorem oqg {i j : Int} : (rAddS K (.int i) (.int j) H Q) = (Q (.int (i + j)) H) := rfl
theorem mqX {i j : Str} : (rAddS K (.str i) (.str j) H Q) = (i.length + j.length ≤ sizeLine ∧ Q (.str (i ++ j)) H) := rfl
theorem nqX {a : Addr} : rListS K [.ref a] H Q ↔ ∃ ys, (SqL K H a ys ∨ SqT K H a ys) ∧ ∀ l H', H l = none → Same H H' → H' l = some (.lst ys) → Q (.ref l) H' := by
 constructor
 ·rintro ⟨p, bs, h1, h2⟩; cases h1; exact ⟨bs, h2⟩
 ·rintro ⟨bs, h⟩; exact ⟨a, bs, rfl, h⟩
theorem nqj {a : Addr} : rTupleS K [.ref a] H Q ↔ ∃ ys, (SqL K H a ys ∨ H a = some (.tup ys)) ∧ ∀ l H', Same H H' → H' l = some (.tup ys) → Q (.ref l) H' := by
 constructor
 ·rintro ⟨p, bs, h1, h2⟩; cases h1; exact ⟨bs, h2⟩
 ·rintro ⟨bs, h⟩; exact ⟨a, bs, rfl, h⟩
theorem oqv {a : Addr} {lo hi : Option Int} : rSlS2 K (.ref a) lo hi H Q ↔ ∃ xs, SqT K H a xs ∧ ¬ (HT.sIx xs.length 0 lo = 0 ∧ HT.sIx xs.length xs.length hi = xs.length) ∧ ∀ p H', H p = none → Same H H' → H' p = some (.tup (cutV xs lo hi)) → Q (.ref p) H' := by
 constructor
 ·rintro ⟨p, bs, h1, h2⟩; cases h1; exact ⟨bs, h2⟩
 ·rintro ⟨bs, h⟩; exact ⟨a, bs, rfl, h⟩
end
def rSlLS (K : PySem.W.Frag) : V → Option Int → Option Int → Hp → VK → Prop := fun x lo hi H Q => ∃ a xs, x = .ref a ∧ SqL K H a xs ∧ ∀ p H', H p = none → Same H H' → H' p = some (.lst (cutV xs lo hi)) → Q (.ref p) H'
theorem lqz {X : Cx} {K : PySem.W.Frag} (h : X.K = K) : SlR X (rSlLS K) := by
 subst h
 intro pins s σ H x v vl vu lo hi sl Q I rx hs pl pu h
 obtain ⟨a, xs, h1, h2, h3⟩ := h
 exact kqH pins s σ H x v vl vu lo hi sl Q I rx hs pl pu ⟨a, xs, h1, h2, fun p hp => h3 p _ hp (cqJ hp) aqr⟩
theorem lqJ {K : PySem.W.Frag} {H : Hp} {Q : VK} {a : Addr} {lo hi : Option Int} : rSlLS K (.ref a) lo hi H Q ↔ ∃ xs, SqL K H a xs ∧ ∀ p H', H p = none → Same H H' → H' p = some (.lst (cutV xs lo hi)) → Q (.ref p) H' := by
 constructor
 ·rintro ⟨p, bs, h1, h2⟩; cases h1; exact ⟨bs, h2⟩
 ·rintro ⟨bs, h⟩; exact ⟨a, bs, rfl, h⟩
def rIsB (neg : Bool) : R2 := fun x y H Q => match x, y with
 | .bl b, .bl c => Q (.bl (if neg then !decide (b = c) else decide (b = c))) H
 | _, _ => False
theorem qqm {b c : Bool} {H : Hp} {Q : VK} : (rIsB false (.bl b) (.bl c) H Q) = (Q (.bl (decide (b = c))) H) := rfl
end L2
namespace Wm
open PySem L2
def isSg (c : Nat) : Bool := decide (32 ≤ c) && decide (c ≤ 126) && !decide (c = 37)
def SG : List Nat := (List.range 127).filter isSg
def hexd (n : Nat) : Nat := if n < 10 then 48 + n else 87 + n
def fig (a : Nat) : Option Nat := if 48 ≤ a ∧ a ≤ 57 then some (a - 48) else if 97 ≤ a ∧ a ≤ 102 then some (a - 87) else if 65 ≤ a ∧ a ≤ 70 then some (a - 55) else none
def figV (a : Nat) : V := match fig a with | some n => .int (n : Nat) | none => .non
abbrev one (c : Nat) : V := .str ⟨#[c]⟩
def sgV (n : Nat) : V := if isSg n then one n else .non
def signOf (a b : Nat) : V := match fig a, fig b with | some h, some l => sgV (h * 16 + l) | _, _ => .non
def signOfL : List Nat → V
 | [a, b] => signOf a b
 | _ => .non
theorem pqa {c : Nat} : c ∈ SG ↔ isSg c = true := by
 unfold SG
 rw [List.mem_filter, List.mem_range]
 constructor
 ·exact fun h => h.2
 ·intro h
  refine ⟨?_, h⟩
  simp only [isSg, Bool.and_eq_true, decide_eq_true_eq] at h
  omega
theorem fqm {c : Nat} (h : isSg c = true) : 32 ≤ c ∧ c ≤ 126 ∧ c ≠ 37 := by
 simp only [isSg, Bool.and_eq_true, decide_eq_true_eq, Bool.not_eq_true', decide_eq_false_iff_not] at h
 omega
theorem lqg : ∀ a, a < 128 → a ∈ (Str.ofString "0123456789abcdef").cps.toList →
  Builtin.Str.occurrences (Str.ofString "0123456789abcdef") ⟨#[a]⟩ 0 (Str.ofString "0123456789abcdef").length 1 = [(fig a).getD 0] ∧ (fig a).isSome = true := by decide +kernel
theorem lqn : ∀ a, a < 128 → ¬ a ∈ (Str.ofString "0123456789abcdef").cps.toList → a ∈ (Str.ofString "0123456789ABCDEF").cps.toList →
  Builtin.Str.occurrences (Str.ofString "0123456789ABCDEF") ⟨#[a]⟩ 0 (Str.ofString "0123456789ABCDEF").length 1 = [(fig a).getD 0] ∧ (fig a).isSome = true := by decide +kernel
theorem qqo : ∀ a, a < 128 → ¬ a ∈ (Str.ofString "0123456789abcdef").cps.toList → ¬ a ∈ (Str.ofString "0123456789ABCDEF").cps.toList → fig a = none := by decide +kernel
theorem mqe : ∀ n, n < 127 → isSg n = true → (Str.ofString " !\"#$&'()*+,-./0123456789:;<=>?@ABCDEFGHIJKLMNOPQRSTUVWXYZ[\\]^_`abcdefghijklmnopqrstuvwxyz{|}~").cps.toList[n - 32 - (if 37 < n then 1 else 0)]? = some n := by decide +kernel
theorem hqO : (Str.ofString " !\"#$&'()*+,-./0123456789:;<=>?@ABCDEFGHIJKLMNOPQRSTUVWXYZ[\\]^_`abcdefghijklmnopqrstuvwxyz{|}~").length ≤ sizeLine := by decide +kernel
theorem iqp (l : List Nat) (a : Nat) : ∀ k, ((List.range k).map fun j => a + j).filterMap (fun i => l[i]?) = (l.drop a).take k
 | 0 => by simp
 | k + 1 => by
  rw [List.range_succ, List.map_append, List.filterMap_append, iqp l a k, List.take_add_one, List.getElem?_drop]
  simp only [List.map_cons, List.map_nil]
  cases e : l[a + k]? with
  | none => simp [e]
  | some c => simp [e]
def clipI (n : Nat) (v : Int) : Nat := (max 0 (min (if v < 0 then v + n else v) n)).toNat
theorem lqY (a b : Nat) : sliceRange (a : Int) (b : Int) 1 = (List.range (b - a)).map fun j => a + j := by
 unfold sliceRange
 have h1 : (1 : Int) > 0 := by decide
 simp only [h1, if_true, Int.one_mul, Int.ediv_one]
 have e : (if (a : Int) < (b : Int) then (b : Int) - (a : Int) + 1 - 1 else 0).toNat = b - a := by split <;> omega
 rw [e]
 apply List.map_congr_left
 intro j _
 omega
theorem iqM (lo hi : Option Int) (n : Nat) : Builtin.Str.strSliceIndices lo hi 1 n = (List.range ((hi.elim n (clipI n)) - (lo.elim 0 (clipI n)))).map fun j => (lo.elim 0 (clipI n)) + j := by
 unfold Builtin.Str.strSliceIndices
 have h1 : (1 : Int) > 0 := by decide
 simp only [h1, if_true]
 rw [← lqY]
 congr 1
 ·cases lo with
  | none => rfl
  | some v => simp only [Option.elim_some, clipI]; omega
 ·cases hi with
  | none => rfl
  | some v => simp only [Option.elim_some, clipI]; omega
theorem hq8 (l : List Nat) (lo hi : Option Int) : Txt.slice (⟨l.toArray⟩ : Str) lo hi = ⟨((l.drop (lo.elim 0 (clipI l.length))).take ((hi.elim l.length (clipI l.length)) - (lo.elim 0 (clipI l.length)))).toArray⟩ := by
 have hl : (⟨l.toArray⟩ : Str).length = l.length := by simp [Str.length]
 have hb : hi.elim l.length (clipI l.length) ≤ l.length := by
  cases hi with
  | none => exact Nat.le_refl _
  | some v => simp only [Option.elim_some, clipI]; omega
 have hb' : lo.elim 0 (clipI l.length) ≤ l.length := by
  cases lo with
  | none => exact Nat.zero_le _
  | some v => simp only [Option.elim_some, clipI]; omega
 have ef : (fun i : Nat => (⟨l.toArray⟩ : Str).cps[i]?) = fun i => l[i]? := by funext i; simp
 unfold Txt.slice
 rw [hl, iqM, ef]
 split
 ·rename_i h
  simp only [List.length_map, List.length_range, beq_self_eq_true, Bool.true_and, beq_iff_eq] at h
  have e1 : lo.elim 0 (clipI l.length) = 0 := by omega
  have e2 : hi.elim l.length (clipI l.length) = l.length := by omega
  rw [e1, e2]
  simp
 ·rw [iqp l (lo.elim 0 (clipI l.length)) ((hi.elim l.length (clipI l.length)) - (lo.elim 0 (clipI l.length)))]
theorem jqr (n k : Nat) : clipI n (k : Int) = min k n := by unfold clipI; split <;> omega
theorem lqm (l : List Nat) (k : Nat) : Txt.slice (⟨l.toArray⟩ : Str) none (some (k : Int)) = ⟨(l.take k).toArray⟩ := by
 rw [hq8]
 simp only [Option.elim_some, Option.elim_none, jqr, List.drop_zero, Nat.sub_zero]
 by_cases h : k ≤ l.length
 ·rw [Nat.min_eq_left h]
 ·rw [Nat.min_eq_right (by omega), List.take_length, List.take_of_length_le (by omega)]
theorem kqn (l : List Nat) (i j : Nat) : Txt.slice (⟨l.toArray⟩ : Str) (some (i : Int)) (some (j : Int)) = ⟨((l.drop i).take (j - i)).toArray⟩ := by
 rw [hq8]
 simp only [Option.elim_some, jqr]
 by_cases h : i ≤ l.length
 ·rw [Nat.min_eq_left h]
  by_cases h2 : j ≤ l.length
  ·rw [Nat.min_eq_left h2]
  ·rw [Nat.min_eq_right (by omega : l.length ≤ j), List.take_of_length_le (by simp), List.take_of_length_le (by simp; omega)]
 ·rw [Nat.min_eq_right (by omega : l.length ≤ i), List.drop_eq_nil_of_le (Nat.le_refl _), List.drop_eq_nil_of_le (by omega)]
  simp
theorem oqE : Str.ofString "" = ⟨([] : List Nat).toArray⟩ := by decide +kernel
theorem lqs (ys : List Str) : Txt.join (⟨([] : List Nat).toArray⟩ : Str) ys = ⟨(ys.flatMap fun y => y.cps.toList).toArray⟩ := by
 show Builtin.Str.glued _ _ = _
 rw [StrLaws.glued_eq_join]
 induction ys with
 | nil => rfl
 | cons y r ih =>
  cases r with
  | nil =>
   show y = _
   simp
  | cons z r =>
   show y ++ (⟨#[]⟩ : Str) ++ Str.join ⟨#[]⟩ (z :: r) = _
   rw [ih]
   show Str.mk (y.cps ++ #[] ++ _) = _
   simp [List.flatMap_cons]
theorem oqP (l m : List Nat) : ((⟨l.toArray⟩ : Str) ++ (⟨m.toArray⟩ : Str)) = ⟨(l ++ m).toArray⟩ := by
 show Str.mk (l.toArray ++ m.toArray) = _
 simp
theorem gqe {l m : List Nat} : ((⟨l.toArray⟩ : Str) = ⟨m.toArray⟩) ↔ l = m := by
 constructor
 ·intro h; injection h with h; injection h
 ·rintro rfl; rfl
theorem eqD (l : List Nat) : (⟨l.toArray⟩ : Str).length = l.length := by simp [Str.length]
theorem lqR : Str.ofString "~" = ⟨[126].toArray⟩ := by decide +kernel
theorem eqf {a n : Nat} (h : fig a = some n) : figV a = .int (n : Nat) := by unfold figV; rw [h]
theorem fq2 {a : Nat} (h : fig a = none) : figV a = .non := by unfold figV; rw [h]
theorem nqG {n : Nat} (h : isSg n = true) : sgV n = one n := by unfold sgV; rw [if_pos h]
theorem kqh {n : Nat} (h : ¬ isSg n = true) : sgV n = .non := by unfold sgV; rw [if_neg h]
theorem nq6 {n : Nat} (h1 : 32 ≤ n) (h2 : n ≤ 126) (h3 : n ≠ 37) : isSg n = true := by
 simp only [isSg, Bool.and_eq_true, decide_eq_true_eq, Bool.not_eq_true', decide_eq_false_iff_not]
 omega
theorem jqH {l : List Nat} (h : l.length ≠ 2) : signOfL l = .non := by
 match l with
 | [] => rfl
 | [_] => rfl
 | [_, _] => exact absurd rfl h
 | _ :: _ :: _ :: _ => rfl
theorem pq9 {l : List Nat} (h : l.length = 2) : ∃ a b, l = [a, b] := by
 match l, h with
 | [a, b], _ => exact ⟨a, b, rfl⟩
def isPl (c : Nat) : Bool := decide (48 ≤ c ∧ c ≤ 57) || decide (65 ≤ c ∧ c ≤ 90) || decide (97 ≤ c ∧ c ≤ 122) || decide (c = 45) || decide (c = 46) || decide (c = 95)
theorem lqx : ∀ c, c < 128 → (decide (c ∈ (Str.ofString "abcdefghijklmnopqrstuvwxyzABCDEFGHIJKLMNOPQRSTUVWXYZ0123456789-_.").cps.toList)) = isPl c := by decide +kernel
def wr1 (c : Nat) : List Nat := if isPl c then [c] else [126, hexd (c / 16), hexd (c % 16)]
def wr (l : List Nat) : List Nat := l.flatMap wr1
def sgO (a b : Nat) : Option Nat := match fig a, fig b with
 | some h, some l => if isSg (h * 16 + l) then some (h * 16 + l) else none
 | _, _ => none
def oV : Option Nat → V
 | some c => one c
 | none => .non
theorem kqQ (a b : Nat) : signOf a b = oV (sgO a b) := by
 unfold signOf sgO
 cases fig a with
 | none => rfl
 | some h =>
  cases fig b with
  | none => rfl
  | some l =>
   simp only [sgV]
   split <;> rfl
theorem aqp {n : Nat} (h : n ≤ 100000) : n ≤ sizeLine := Nat.le_trans h (by decide)
theorem nqM (f : Nat → Nat) (l : List Nat) : (l.toArray).map f = (l.map f).toArray := by simp
theorem kqw (l : List Nat) : (⟨l.toArray⟩ : Str).cps.toList = l := rfl
theorem jqv (dn : List Nat) : ((dn.map fun c => (⟨[c].toArray⟩ : Str)).flatMap fun y => y.cps.toList) = dn := by
 induction dn with
 | nil => rfl
 | cons c r ih => rw [List.map_cons, List.flatMap_cons, ih]; rfl
theorem kqk (dn : List Nat) : ((dn.map fun c => (⟨[c].toArray⟩ : Str)).map (·.length)).sum = dn.length := by
 induction dn with
 | nil => rfl
 | cons c r ih => rw [List.map_cons, List.map_cons, List.sum_cons, ih, List.length_cons]; show 1 + _ = _; omega
mutual
def smallD : PyData → Bool
 | .str x => decide (x.length ≤ 100000)
 | .list xs => decide (xs.length ≤ 100000) && smallAll xs
 | .tuple xs => decide (xs.length ≤ 100000) && smallAll xs
 | .dict _ => false
 | .none => true
 | .bool _ => true
 | .int _ => true
def smallAll : List PyData → Bool
 | [] => true
 | d :: ds => smallD d && smallAll ds
end
theorem iqs {x : Str} (h : smallD (.str x) = true) : x.length ≤ 100000 := by simpa [smallD] using h
def isLet (c : Nat) : Bool := decide (65 ≤ c ∧ c ≤ 90) || decide (97 ≤ c ∧ c ≤ 122)
def isAln (c : Nat) : Bool := isLet c || decide (48 ≤ c ∧ c ≤ 57)
theorem oqS : ∀ c, c < 128 → (decide (c ∈ (Str.ofString "abcdefghijklmnopqrstuvwxyzABCDEFGHIJKLMNOPQRSTUVWXYZ").cps.toList)) = isLet c := by decide +kernel
theorem oqZ : ∀ c, c < 128 → (decide (c ∈ (Str.ofString "abcdefghijklmnopqrstuvwxyzABCDEFGHIJKLMNOPQRSTUVWXYZ0123456789").cps.toList)) = isAln c := by decide +kernel
theorem pqS : (Str.ofString " !\"#$&'()*+,-./0123456789:;<=>?@ABCDEFGHIJKLMNOPQRSTUVWXYZ[\\]^_`abcdefghijklmnopqrstuvwxyz{|}~").cps.toList = SG := by decide +kernel
theorem pq4 (c : Nat) : (decide (c ∈ (Str.ofString " !\"#$&'()*+,-./0123456789:;<=>?@ABCDEFGHIJKLMNOPQRSTUVWXYZ[\\]^_`abcdefghijklmnopqrstuvwxyz{|}~").cps.toList)) = isSg c := by
 rw [pqS, Bool.eq_iff_iff, decide_eq_true_eq, pqa]
def tx : PyData → Bool
 | .str x => x.cps.toList.all isSg
 | _ => false
def schD : PyData → Bool
 | .str x => x.cps.toList.all isSg && decide (x.length ≤ 8) && (x.cps.toList.take 1).all isLet && x.cps.toList.all isAln
 | _ => false
abbrev st (l : List Nat) : PyData := .str ⟨l.toArray⟩
def oD : Option (List Nat) → PyData
 | none => .none
 | some l => st l
def otV : Option (List Nat) → V
 | none => .non
 | some l => .str ⟨l.toArray⟩
theorem lqE {H : Hp} (o : Option (List Nat)) : IsT H (oD o) (otV o) := by
 cases o with
 | none => exact .non
 | some x => exact .str _
def iD : Option Int → PyData
 | none => .none
 | some i => .int i
def qD : Option (List (List Nat × Option (List Nat))) → PyData
 | none => .none
 | some ps => .tuple (ps.map fun p => .tuple [st p.1, oD p.2])
structure Ad where
 scheme : List Nat
 house : Option (List Nat)
 door : Option Int
 rooted : Bool
 steps : List (List Nat)
 ends : Bool
 quest : Option (List (List Nat × Option (List Nat)))
 mark : Option (List Nat)
def Ad.way (x : Ad) : PyData := .tuple [.bool x.rooted, .tuple (x.steps.map st), .bool x.ends]
def Ad.data (x : Ad) : PyData := .tuple [st x.scheme, oD x.house, iD x.door, x.way, qD x.quest, oD x.mark]
def Tx (n : Nat) (l : List Nat) : Prop := l.length ≤ n ∧ ∀ c ∈ l, isSg c = true
structure Ad.Ok (x : Ad) : Prop where
 sch : x.scheme.length ≤ 8 ∧ (∀ c ∈ x.scheme, isAln c = true) ∧ ∀ c ∈ x.scheme.take 1, isLet c = true
 hou : ∀ l, x.house = some l → 0 < l.length ∧ Tx 60 l
 doo : ∀ i, x.door = some i → (0 ≤ i ∧ i ≤ 65535) ∧ x.house ≠ none
 stp : x.steps.length ≤ 50 ∧ ∀ l ∈ x.steps, 0 < l.length ∧ Tx 60 l
 roo : x.scheme ≠ [] ∨ x.house ≠ none → x.rooted = true
 end_ : x.steps = [] → x.ends = x.rooted
 que : ∀ ps, x.quest = some ps → ps.length ≤ 20 ∧ ∀ p ∈ ps, (0 < p.1.length ∧ Tx 6 p.1) ∧ ∀ v, p.2 = some v → Tx 6 v
 mar : ∀ l, x.mark = some l → Tx 60 l
theorem mqM {c : Nat} (h : isAln c = true) : isSg c = true := by
 simp only [isAln, isLet, Bool.or_eq_true, decide_eq_true_eq] at h
 simp only [isSg, Bool.and_eq_true, decide_eq_true_eq, Bool.not_eq_true', decide_eq_false_iff_not]
 omega
theorem qqa {α : Type} (l : List α) {r : Int} (h0 : 0 ≤ r) (h1 : r < l.length) : ∃ c, c ∈ l ∧ atI l r = some c := by
 have h3 : r.toNat < l.length := by omega
 refine ⟨l[r.toNat], List.getElem_mem _, ?_⟩
 have := bqm (xs := l) (j := r.toNat) (v := l[r.toNat]) (by simp [h3])
 rw [Int.toNat_of_nonneg h0] at this
 exact this
def AL : List Nat := (Str.ofString "abcdefghijklmnopqrstuvwxyzABCDEFGHIJKLMNOPQRSTUVWXYZ0123456789").cps.toList
theorem mqx : AL.length = 62 := by decide +kernel
theorem pqe : ∀ c ∈ AL, isAln c = true := by decide +kernel
def itV : Option Int → V
 | none => .non
 | some i => .int i
theorem qqg {H : Hp} (o : Option Int) : IsT H (iD o) (itV o) := by
 cases o with
 | none => exact .non
 | some x => exact .int _
theorem fqH {l : List Nat} : ((⟨l.toArray⟩ : Str) = ⟨#[]⟩) ↔ l = [] := gqe (m := [])
def Bad (f : PyData → Bool) (H : Hp) (v : V) : Prop := ∃ d, Is H d v ∧ smallD d = true ∧ f d = false
def Bads (f : PyData → Bool) (H : Hp) (vs : List V) : Prop := ∀ v ∈ vs, Bad f H v
theorem Bads.cons {f : PyData → Bool} {H : Hp} {v : V} {vs : List V} (h : Bad f H v) (r : Bads f H vs) : Bads f H (v :: vs) := fun w hw => by
 rcases List.mem_cons.mp hw with rfl | hw
 ·exact h
 ·exact r w hw
def dg (i : Int) : List Nat := (Str.ofString (toString i)).cps.toList
theorem oq6 {i : Int} (hi : 0 ≤ i) : ∀ c ∈ dg i, 48 ≤ c ∧ c ≤ 57 := by
 intro c hc
 obtain ⟨n, rfl⟩ := Int.eq_ofNat_of_zero_le hi
 unfold dg at hc
 rw [PySem.W.KIN.signs_num, List.mem_map] at hc
 obtain ⟨d, hd, rfl⟩ := hc
 have := Nat.isDigit_of_mem_toDigits (by decide) (by decide) hd
 simp only [Char.isDigit, Bool.and_eq_true, decide_eq_true_eq] at this
 exact ⟨this.1, this.2⟩
def Hd (p : Nat → Bool) (r : List Nat) : Prop := ∀ c r', r = c :: r' → p c = true
theorem Hd.cons {p : Nat → Bool} {c : Nat} {r : List Nat} (h : p c = true) : Hd p (c :: r) := fun d r' e => by injection e with e; exact e ▸ h
def tlT (sep : Nat) : List (List Nat) → List Nat
 | [] => []
 | s :: r => sep :: (s ++ tlT sep r)
def joinT (sep : Nat) : List (List Nat) → List Nat
 | [] => []
 | s :: r => s ++ tlT sep r
def oT (sep : Nat) : Option (List Nat) → List Nat
 | none => []
 | some l => sep :: wr l
def pairT (p : List Nat × Option (List Nat)) : List Nat := wr p.1 ++ oT 61 p.2
def queT : Option (List (List Nat × Option (List Nat))) → List Nat
 | none => []
 | some ps => 63 :: joinT 38 (ps.map pairT)
def wayT (r : Bool) (ss : List (List Nat)) (e : Bool) : List Nat := (if r then [47] else []) ++ (joinT 47 (ss.map wr) ++ (if e && !ss.isEmpty then [47] else []))
def dooT : Option Int → List Nat
 | none => []
 | some i => 58 :: dg i
def houT : Option (List Nat) → List Nat
 | none => []
 | some l => 47 :: 47 :: wr l
def schT (s : List Nat) : List Nat := if s = [] then [] else s ++ [58]
def Ad.wayT (x : Ad) : List Nat := Wm.wayT x.rooted x.steps x.ends
def Ad.shw (x : Ad) : List Nat := schT x.scheme ++ (houT x.house ++ (dooT x.door ++ (x.wayT ++ (queT x.quest ++ oT 35 x.mark))))
def PairOk (p : List Nat × Option (List Nat)) : Prop := (0 < p.1.length ∧ ∀ c ∈ p.1, isSg c = true) ∧ ∀ v, p.2 = some v → ∀ c ∈ v, isSg c = true
def StepOk (s : List Nat) : Prop := 0 < s.length ∧ ∀ c ∈ s, isSg c = true
structure Ad.Wf (x : Ad) : Prop where
 sch : x.scheme.length ≤ 8 ∧ (∀ c ∈ x.scheme, isAln c = true) ∧ ∀ c ∈ x.scheme.take 1, isLet c = true
 hou : ∀ l, x.house = some l → (0 < l.length ∧ l.length ≤ 60) ∧ ∀ c ∈ l, isSg c = true
 doo : ∀ i, x.door = some i → (0 ≤ i ∧ i ≤ 65535) ∧ x.house ≠ none
 stp : ∀ s ∈ x.steps, StepOk s
 roo : x.scheme ≠ [] ∨ x.house ≠ none → x.rooted = true
 end_ : x.steps = [] → x.ends = x.rooted
 que : ∀ ps, x.quest = some ps → ∀ p ∈ ps, PairOk p
 mar : ∀ l, x.mark = some l → ∀ c ∈ l, isSg c = true
def Ad.mid (x : Ad) : List Nat := houT x.house ++ (dooT x.door ++ x.wayT)
def Ad.pre (x : Ad) : List Nat := schT x.scheme ++ x.mid
theorem mqv (l m : List Nat) : PyData.eqv (st l) (st m) = true ↔ l = m := by
 simp only [PyData.eqv, beq_iff_eq]; exact gqe
theorem jq8 (a b : Option (List Nat)) : PyData.eqv (oD a) (oD b) = true ↔ a = b := by
 match a, b with
 | none, none => simp [oD, PyData.eqv]
 | none, some m => simp [oD, PyData.eqv]
 | some l, none => simp [oD, PyData.eqv]
 | some l, some m => exact (mqv l m).trans (by simp)
theorem pqV (a b : Option Int) : PyData.eqv (iD a) (iD b) = true ↔ a = b := by
 match a, b with
 | none, none => simp [iD, PyData.eqv]
 | none, some m => simp [iD, PyData.eqv]
 | some l, none => simp [iD, PyData.eqv]
 | some l, some m => simp [iD, PyData.eqv]
theorem fqh {α : Type} {f : α → PyData} (hf : ∀ a b, PyData.eqv (f a) (f b) = true ↔ a = b) : ∀ (l m : List α), PyData.eqvAll (l.map f) (m.map f) = true ↔ l = m
 | [], [] => by simp [PyData.eqvAll]
 | [], b :: m => by simp [PyData.eqvAll]
 | a :: l, [] => by simp [PyData.eqvAll]
 | a :: l, b :: m => by
  simp only [List.map_cons, PyData.eqvAll, Bool.and_eq_true, List.cons.injEq]
  rw [hf a b, fqh hf l m]
theorem pqI (a b : Option (List (List Nat × Option (List Nat)))) : PyData.eqv (qD a) (qD b) = true ↔ a = b := by
 match a, b with
 | none, none => simp [qD, PyData.eqv]
 | none, some m => simp [qD, PyData.eqv]
 | some l, none => simp [qD, PyData.eqv]
 | some l, some m =>
  simp only [qD, PyData.eqv, Option.some.injEq]
  refine fqh (fun a b => ?_) l m
  simp only [PyData.eqv, PyData.eqvAll, Bool.and_eq_true, Bool.and_true]
  rw [jq8, beq_iff_eq]
  exact ⟨fun h => Prod.ext (gqe.mp h.1) h.2, fun h => by rw [h]; exact ⟨rfl, rfl⟩⟩
theorem nq0 (x y : Ad) : PyData.eqv x.way y.way = true ↔ x.rooted = y.rooted ∧ x.steps = y.steps ∧ x.ends = y.ends := by
 simp only [Ad.way, PyData.eqv, PyData.eqvAll, Bool.and_eq_true, Bool.and_true, beq_iff_eq]
 rw [fqh mqv]
theorem Ad.eqv_iff (x y : Ad) : PyData.eqv x.data y.data = true ↔ x = y := by
 simp only [Ad.data, PyData.eqv, PyData.eqvAll, Bool.and_eq_true, Bool.and_true, beq_iff_eq]
 rw [jq8, pqV, nq0, pqI, jq8]
 cases x; cases y
 simp only [Ad.mk.injEq]
 constructor
 ·rintro ⟨h1, h2, h3, ⟨h4, h5, h6⟩, h7, h8⟩
  exact ⟨gqe.mp h1, h2, h3, h4, h5, h6, h7, h8⟩
 ·rintro ⟨h1, h2, h3, h4, h5, h6, h7, h8⟩
  exact ⟨by rw [h1], h2, h3, ⟨h4, h5, h6⟩, h7, h8⟩
def LayAt (n : Nat) (d : PyData) : Prop := d.canLay0 = true ∧ d.depth ≤ n
theorem LayAt.shaped {n : Nat} {d : PyData} (h : LayAt n d) (hn : n ≤ 64) : SeqAt.shaped d = true := by
 unfold SeqAt.shaped; rw [h.1, decide_eq_true (Nat.le_trans h.2 hn)]; rfl
theorem LayAt.le {n m : Nat} {d : PyData} (h : LayAt n d) (hn : n ≤ m) : LayAt m d := ⟨h.1, Nat.le_trans h.2 hn⟩
theorem layAll {n : Nat} : ∀ {ds : List PyData}, (∀ d ∈ ds, LayAt n d) → PyData.canLayAll0 ds = true ∧ PyData.depthAll ds ≤ n
 | [], _ => ⟨rfl, Nat.zero_le _⟩
 | d :: ds, h => by
  obtain ⟨h1, h2⟩ := layAll (ds := ds) fun e he => h e (List.mem_cons_of_mem _ he)
  have := h d (List.mem_cons_self ..)
  simp only [PyData.canLayAll0, PyData.depthAll, this.1, h1, Bool.and_self, true_and]
  exact Nat.max_le.mpr ⟨this.2, h2⟩
theorem LayAt.tup {n : Nat} {ds : List PyData} (h : ∀ d ∈ ds, LayAt n d) : LayAt (n + 1) (.tuple ds) := by
 obtain ⟨h1, h2⟩ := layAll h
 exact ⟨by simp only [PyData.canLay0, h1], by simp only [PyData.depth]; omega⟩
theorem LayAt.st {l : List Nat} (h : ∀ c ∈ l, isSg c = true) : LayAt 0 (st l) := by
 refine ⟨?_, Nat.le_refl _⟩
 simp only [PyData.canLay0, PyData.strOk, List.all_toArray, List.all_eq_true, decide_eq_true_eq]
 intro c hc
 have := fqm (h c hc)
 omega
theorem LayAt.bool {b : Bool} : LayAt 0 (.bool b) := ⟨rfl, Nat.le_refl _⟩
theorem LayAt.oD {o : Option (List Nat)} (h : ∀ l, o = some l → ∀ c ∈ l, isSg c = true) : LayAt 0 (oD o) := by
 cases o with
 | none => exact ⟨rfl, Nat.le_refl _⟩
 | some l => exact .st (h l rfl)
theorem LayAt.iD {o : Option Int} : LayAt 0 (iD o) := by
 cases o with
 | none => exact ⟨rfl, Nat.le_refl _⟩
 | some l => exact ⟨rfl, Nat.le_refl _⟩
theorem LayAt.qD {q : Option (List (List Nat × Option (List Nat)))} (h : ∀ ps, q = some ps → ∀ p ∈ ps, PairOk p) : LayAt 2 (qD q) := by
 cases q with
 | none => exact ⟨rfl, Nat.zero_le _⟩
 | some ps =>
  refine .tup (n := 1) fun d hd => ?_
  obtain ⟨p, hp, rfl⟩ := List.mem_map.mp hd
  have hk := h ps rfl p hp
  refine .tup (n := 0) fun e he => ?_
  simp only [List.mem_cons, List.not_mem_nil, or_false] at he
  rcases he with rfl | rfl
  ·exact .st hk.1.2
  ·exact .oD hk.2
theorem Ad.Wf.layWay {x : Ad} (h : x.Wf) : LayAt 2 x.way := by
 refine .tup (n := 1) fun e he => ?_
 simp only [List.mem_cons, List.not_mem_nil, or_false] at he
 rcases he with rfl | rfl | rfl
 ·exact LayAt.bool.le (by decide)
 ·refine .tup (n := 0) fun d hd => ?_
  obtain ⟨s, hs, rfl⟩ := List.mem_map.mp hd
  exact .st (h.stp s hs).2
 ·exact LayAt.bool.le (by decide)
theorem Ad.Wf.lay {x : Ad} (h : x.Wf) : LayAt 3 x.data := by
 refine .tup (n := 2) fun e he => ?_
 simp only [List.mem_cons, List.not_mem_nil, or_false] at he
 rcases he with rfl | rfl | rfl | rfl | rfl | rfl
 ·exact (LayAt.st fun c hc => mqM (h.sch.2.1 c hc)).le (by decide)
 ·exact (LayAt.oD fun l e => (h.hou l e).2).le (by decide)
 ·exact LayAt.iD.le (by decide)
 ·exact h.layWay
 ·exact .qD h.que
 ·exact (LayAt.oD h.mar).le (by decide)
end Wm
namespace Wm
structure Ad.Sz (x : Ad) : Prop where
 stp : ∀ s ∈ x.steps, s.length ≤ 2000
 que : ∀ ps, x.quest = some ps → ps.length ≤ 2000 ∧ ∀ p ∈ ps, p.1.length ≤ 2000 ∧ ∀ v, p.2 = some v → v.length ≤ 2000
 mar : ∀ l, x.mark = some l → l.length ≤ 2000
 num : x.steps.length ≤ 2000
 all : x.shw.length ≤ 90000
theorem mqy (i : Int) : PySem.Str.ofString (toString i) = ⟨(dg i).toArray⟩ := rfl
end Wm
namespace Wm
open PySem L2
end Wm
namespace L2
open PySem
end L2
namespace Wm
open PySem L2
abbrev Stp := List Nat
def sUp : Stp := [46, 46]
def sStay : Stp := [46]
def isDot (s : Stp) : Bool := decide (s = sUp) || decide (s = sStay)
def fwd (r : Bool) (q : Nat × List Stp) (s : Stp) : Nat × List Stp :=
 if s = sUp then (match q.2 with | [] => (if r then q.1 else q.1 + 1, []) | _ :: t => (q.1, t))
 else if s = sStay then q else (q.1, s :: q.2)
def goneS (r : Bool) (ss : List Stp) : List Stp := List.replicate (ss.foldl (fwd r) (0, [])).1 sUp ++ (ss.foldl (fwd r) (0, [])).2.reverse
def lastDot (ss : List Stp) : Bool := match ss.getLast? with | some s => isDot s | none => false
def goneW (r : Bool) (ss : List Stp) (e : Bool) : Bool × List Stp × Bool :=
 if ss = [] then (r, [], e) else if goneS r ss = [] then (r, if r then [] else [sStay], true) else (r, goneS r ss, e || lastDot ss)
def stk (q : Nat × List Stp) : List Stp := List.replicate q.1 sUp ++ q.2.reverse
end Wm
namespace L2
open PySem PySem.Spec PyProof.Rows HT
section
variable {prog : Program} {w : World} {A : Around} {E : Value → Shared → Prop} {s : Shared}
end
section
variable {X : Cx} {K : PySem.W.Frag}
def rSlTA : V → Option Int → Option Int → Hp → VK → Prop := fun x lo hi H Q => ∃ a xs, x = .ref a ∧ H a = some (.tup xs) ∧ ∀ p H', Same H H' → H' p = some (.tup (cutV xs lo hi)) → Q (.ref p) H'
theorem lqW {a : Addr} {lo hi : Option Int} {H : Hp} {Q : VK} : rSlTA (.ref a) lo hi H Q ↔ ∃ xs, H a = some (.tup xs) ∧ ∀ p H', Same H H' → H' p = some (.tup (cutV xs lo hi)) → Q (.ref p) H' := by
 constructor
 ·rintro ⟨p, bs, h1, h2⟩; cases h1; exact ⟨bs, h2⟩
 ·rintro ⟨bs, h⟩; exact ⟨a, bs, rfl, h⟩
end
mutual
inductive IsK (K : PySem.W.Frag) (H : Hp) : PyData → V → Prop
 | non : IsK K H .none .non
 | bl (b : Bool) : IsK K H (.bool b) (.bl b)
 | int (i : Int) : IsK K H (.int i) (.int i)
 | str (x : Str) : IsK K H (.str x) (.str x)
 | tup {p : Addr} {xs : List V} {ds : List PyData} : SqT K H p xs → IsKAll K H ds xs → IsK K H (.tuple ds) (.ref p)
inductive IsKAll (K : PySem.W.Frag) (H : Hp) : List PyData → List V → Prop
 | nil : IsKAll K H [] []
 | cons {d : PyData} {x : V} {ds : List PyData} {xs : List V} : IsK K H d x → IsKAll K H ds xs → IsKAll K H (d :: ds) (x :: xs)
end
section
variable {K : PySem.W.Frag} {H H' : Hp}
mutual
theorem IsK.mono (sm : Same H H') : ∀ {d : PyData} {x : V}, IsK K H d x → IsK K H' d x
 | _, _, .non => .non
 | _, _, .bl b => .bl b
 | _, _, .int i => .int i
 | _, _, .str x => .str x
 | _, _, .tup h r => .tup (sm.tup h) (IsKAll.mono sm r)
theorem IsKAll.mono (sm : Same H H') : ∀ {ds : List PyData} {xs : List V}, IsKAll K H ds xs → IsKAll K H' ds xs
 | _, _, .nil => .nil
 | _, _, .cons h r => .cons (IsK.mono sm h) (IsKAll.mono sm r)
end
mutual
theorem IsT.k : ∀ {d : PyData} {x : V}, IsT H d x → IsK K H d x
 | _, _, .non => .non
 | _, _, .bl b => .bl b
 | _, _, .int i => .int i
 | _, _, .str x => .str x
 | _, _, .tup h r => .tup (SqT.of h) (IsTAll.k r)
theorem IsTAll.k : ∀ {ds : List PyData} {xs : List V}, IsTAll H ds xs → IsKAll K H ds xs
 | _, _, .nil => .nil
 | _, _, .cons h r => .cons (IsT.k h) (IsTAll.k r)
end
end
section
variable {X : Cx} {pins : List (Addr × Obj)} {σ : St} {H : Hp} {s : Shared}
mutual
theorem IsK.reads (I : Inv X pins σ H s) : ∀ {d : PyData} {x : V} {v : Value}, IsK X.K H d x → RelV x v → ∃ as, Reads s.heap v d as
 | _, _, _, .non, r => by cases r; exact ⟨_, .none⟩
 | _, _, _, .bl b, r => by cases r; exact ⟨_, .bool b⟩
 | _, _, _, .int i, r => by obtain ⟨t, rfl⟩ := r; exact ⟨_, .int i t⟩
 | _, _, _, .str x, r => by obtain ⟨t, rfl⟩ := r; exact ⟨_, .str x t⟩
 | _, _, _, .tup h q, r => by
  cases r
  obtain ⟨its, vs, ⟨o, e, c, n, dt⟩, _⟩ := I.tuple h
  obtain ⟨as, ra⟩ := IsKAll.reads I q vs
  exact ⟨_, .tuple e c dt (by simpa using ra)⟩
theorem IsKAll.reads (I : Inv X pins σ H s) : ∀ {ds : List PyData} {xs : List V} {vs : List Value}, IsKAll X.K H ds xs → Vals xs vs → ∃ as, ReadsAll s.heap vs ds as
 | _, _, _, .nil, r => by cases r; exact ⟨_, .nil⟩
 | _, _, _, .cons q t, r => by
  cases r with
  | cons r1 r2 =>
   obtain ⟨as, h1⟩ := IsK.reads I q r1
   obtain ⟨bs, h2⟩ := IsKAll.reads I t r2
   exact ⟨_, .cons h1 h2⟩
end
variable {K : PySem.W.Frag}
def rSlX (K : PySem.W.Frag) : V → Option Int → Option Int → Hp → VK → Prop := fun x lo hi H Q => ∃ a xs, x = .ref a ∧ SqT K H a xs ∧ ∀ p H', Same H H' → SqT K H' p (cutV xs lo hi) → Q (.ref p) H'
theorem mqZ {a : Addr} {lo hi : Option Int} {H : Hp} {Q : VK} : rSlX K (.ref a) lo hi H Q ↔ ∃ xs, SqT K H a xs ∧ ∀ p H', Same H H' → SqT K H' p (cutV xs lo hi) → Q (.ref p) H' := by
 constructor
 ·rintro ⟨p, bs, h1, h2⟩; cases h1; exact ⟨bs, h2⟩
 ·rintro ⟨bs, h⟩; exact ⟨a, bs, rfl, h⟩
def rCatX (K : PySem.W.Frag) : R2 := fun x y H Q => ∃ a b xs ys, x = .ref a ∧ y = .ref b ∧ SqT K H a xs ∧ SqT K H b ys ∧ xs.length + ys.length ≤ sizeLine ∧ ∀ p H', Same H H' → SqT K H' p (xs ++ ys) → Q (.ref p) H'
theorem lqN {a b : Addr} {H : Hp} {Q : VK} : rCatX K (.ref a) (.ref b) H Q ↔ ∃ xs ys, SqT K H a xs ∧ SqT K H b ys ∧ xs.length + ys.length ≤ sizeLine ∧ ∀ p H', Same H H' → SqT K H' p (xs ++ ys) → Q (.ref p) H' := by
 constructor
 ·rintro ⟨p, p', xs, ys, h1, h2, h3⟩; cases h1; cases h2; exact ⟨xs, ys, h3⟩
 ·rintro ⟨xs, ys, h⟩; exact ⟨a, b, xs, ys, rfl, rfl, h⟩
def KindK (K : PySem.W.Frag) (H : Hp) (x : V) (k : String) : Prop := kindV x H = some k ∨ ∃ a xs, x = .ref a ∧ SqT K H a xs ∧ k = "tuple"
theorem KindK.tup {K : PySem.W.Frag} {H : Hp} {a : Addr} {xs : List V} (h : SqT K H a xs) : KindK K H (.ref a) "tuple" := .inr ⟨a, xs, rfl, h, rfl⟩
def rIsiX (K : PySem.W.Frag) : List V → Hp → VK → Prop := fun vs H Q => match vs with
 | [x, .ty T] => ∃ k, KindK K H x k ∧ T ∈ ["bool", "int", "str", "list", "tuple"] ∧ Q (.bl (subT k T)) H
 | _ => False
theorem lqk {x : V} {T : String} {H : Hp} {Q : VK} : (rIsiX K [x, .ty T] H Q) = (∃ k, KindK K H x k ∧ T ∈ ["bool", "int", "str", "list", "tuple"] ∧ Q (.bl (subT k T)) H) := rfl
end
end L2
namespace Wm
open PySem L2
section
variable {K : PySem.W.Frag} {H : Hp}
end
end Wm
namespace L2
open PySem PySem.Spec PyProof.Rows
def pickV {α : Type} (xs : List α) (lo hi st : Option Int) : List α :=
 (sliceRange (sliceBounds lo hi st xs.length).1 (sliceBounds lo hi st xs.length).2.1 (sliceBounds lo hi st xs.length).2.2).filterMap fun i => xs[i]?
section
variable {X : Cx}
def tSl3 (K : PySem.W.Frag) (te : TE) (tl th ts : TO) : TE := fun σ H Q => te σ H fun x H1 => tl σ H1 fun l H2 => th σ H2 fun u H3 => ts σ H3 fun k H4 =>
 ∃ a xs, x = .ref a ∧ SqL K H4 a xs ∧ k ≠ some 0 ∧ (pickV xs l u k).length ≤ sizeLine ∧ ∀ p, H4 p = none → Q (.ref p) (upd H4 p (.lst (pickV xs l u k)))
end
theorem pqH {K : PySem.W.Frag} {te : TE} {tl th ts : TO} {σ : St} {H : Hp} {Q : VK} : tSl3 K te tl th ts σ H Q ↔ te σ H fun x H1 => tl σ H1 fun l H2 => th σ H2 fun u H3 => ts σ H3 fun k H4 =>
 ∃ a xs, x = .ref a ∧ SqL K H4 a xs ∧ k ≠ some 0 ∧ (pickV xs l u k).length ≤ sizeLine ∧ ∀ p, H4 p = none → Q (.ref p) (upd H4 p (.lst (pickV xs l u k))) := Iff.rfl
end L2
namespace Wm
open PySem L2
abbrev Way := Bool × List Stp × Bool
def Ad.w (x : Ad) : Way := (x.rooted, x.steps, x.ends)
def Ad.withWay (x : Ad) (w : Way) : Ad := { x with rooted := w.1, steps := w.2.1, ends := w.2.2 }
def goneV (w : Way) : Way := goneW w.1 w.2.1 w.2.2
def Ad.gone (x : Ad) : Ad := x.withWay (goneV x.w)
def wayOf (w : Way) : PyData := .tuple [.bool w.1, .tuple (w.2.1.map st), .bool w.2.2]
theorem oqR {l : Addr} {H : Hp} {Q : VK} : rReverse (.ref l) [] H Q ↔ ∃ xs, H l = some (.lst xs) ∧ Q .non (upd H l (.lst xs.reverse)) :=
 ⟨fun ⟨_, xs, e, _, h, q⟩ => by cases e; exact ⟨xs, h, q⟩, fun ⟨xs, h, q⟩ => ⟨l, xs, rfl, rfl, h, q⟩⟩
abbrev sV (l : List Nat) : V := .str ⟨l.toArray⟩
theorem gqn {α : Type} {l : List α} {i : Nat} {a : α} (h : l[i]? = some a) : l.drop i = a :: l.drop (i + 1) := by
 obtain ⟨hi, e⟩ := List.getElem?_eq_some_iff.mp h
 rw [← e]; exact List.drop_eq_getElem_cons hi
theorem lq2 {H : Hp} : ∀ (ss : List (List Nat)), IsAll H (ss.map st) (ss.map sV)
 | [] => .nil
 | s :: ss => .cons (.str _) (lq2 ss)
theorem iqE {H : Hp} : ∀ (ss : List (List Nat)), IsTAll H (ss.map st) (ss.map sV)
 | [] => .nil
 | s :: ss => .cons (.str _) (iqE ss)
end Wm
namespace L2
open PySem
theorem oqW {l : Addr} {H : Hp} {Q : VK} : rPop (.ref l) [] H Q ↔ ∃ xs y, H l = some (.lst xs) ∧ xs[xs.length - 1]? = some y ∧ Q y (upd H l (.lst xs.dropLast)) :=
 ⟨fun ⟨_, xs, y, h1, _, h3, h4, h5⟩ => by cases h1; exact ⟨xs, y, h3, h4, h5⟩, fun ⟨xs, y, h3, h4, h5⟩ => ⟨_, xs, y, rfl, rfl, h3, h4, h5⟩⟩
theorem lqd {D : Ends} {σ : St} {H : Hp} : (tNever D σ H) = (False) := rfl
end L2
namespace Wm
open PySem L2
structure Ad.Tiny (x : Ad) : Prop where
 stp : ∀ s ∈ x.steps, s.length ≤ 9
 que : ∀ ps, x.quest = some ps → ps.length ≤ 3 ∧ ∀ p ∈ ps, p.1.length ≤ 5 ∧ ∀ v, p.2 = some v → v.length ≤ 6
 mar : ∀ l, x.mark = some l → l.length ≤ 7
 hou : ∀ l, x.house = some l → l.length ≤ 13
end Wm
namespace Wm
end Wm
namespace Wm
open PySem L2
def cutA {α : Type} (xs : List α) (lo hi : Option Int) : List α := (xs.drop (HT.sIx xs.length 0 lo)).take (HT.sIx xs.length xs.length hi - HT.sIx xs.length 0 lo)
theorem lqH {α : Type} (f : α → V) (xs : List α) (lo hi : Option Int) : cutV (xs.map f) lo hi = (cutA xs lo hi).map f := by
 unfold cutV cutA; rw [List.length_map, List.map_take, List.map_drop]
theorem lqI {α : Type} (xs : List α) (lo hi : Option Int) : (cutA xs lo hi).length ≤ xs.length := by
 unfold cutA; rw [List.length_take, List.length_drop]; omega
end Wm
namespace L2
open PySem
end L2
namespace Wm
open PySem L2
section
variable {H : Hp}
theorem wayT' {r e : Bool} {ss : List (List Nat)} {p q : Addr} (hp : H p = some (.tup [.bl r, .ref q, .bl e])) (hq : H q = some (.tup (ss.map fun l => V.str ⟨l.toArray⟩))) : IsT H (.tuple [.bool r, .tuple (ss.map st), .bool e]) (.ref p) :=
 .tup hp (.cons (.bl _) (.cons (.tup hq (iqE _)) (.cons (.bl _) .nil)))
theorem adT {x : Ad} {p : Addr} {w q : V} (hp : H p = some (.tup [.str ⟨x.scheme.toArray⟩, otV x.house, itV x.door, w, q, otV x.mark])) (hw : IsT H x.way w) (hq : IsT H (qD x.quest) q) : IsT H x.data (.ref p) :=
 .tup hp (.cons (.str _) (.cons (lqE _) (.cons (qqg _) (.cons hw (.cons hq (.cons (lqE _) .nil))))))
end
theorem Ad.Wf.local {x : Ad} (h : x.Wf) : ({ x with scheme := [], house := none, door := none } : Ad).Wf :=
 ⟨⟨Nat.zero_le _, (fun c hc => by cases hc), (fun c hc => by cases hc)⟩, (fun l e => by cases e), (fun l e => by cases e), h.stp, (fun z => z.elim (fun y => absurd rfl y) (fun y => absurd rfl y)), h.end_, h.que, h.mar⟩
def Goods (n : Nat) (H : Hp) (vs : List V) : Prop := ∀ v ∈ vs, ∃ x : Ad, x.Wf ∧ x.steps.length ≤ n ∧ IsT H x.data v
theorem Goods.cons {n : Nat} {H : Hp} {v : V} {vs : List V} {x : Ad} (h1 : x.Wf) (h2 : x.steps.length ≤ n) (h3 : IsT H x.data v) (h : Goods n H vs) : Goods n H (v :: vs) := fun u hu => by
 rcases List.mem_cons.mp hu with rfl | hu
 ·exact ⟨x, h1, h2, h3⟩
 ·exact h u hu
end Wm
namespace L2
open PySem PySem.Spec PyProof.Rows
theorem qqh {b c : Bool} {H : Hp} {Q : VK} : (rIsB true (.bl b) (.bl c) H Q) = (Q (.bl (!decide (b = c))) H) := rfl
end L2
namespace Wm
open PySem L2
structure GoodAd (n : Nat) (x : Ad) : Prop where
 wf : x.Wf
 ti : x.Tiny
 sc : x.scheme ≠ []
 ln : x.steps.length ≤ n
end Wm
namespace L2
open PySem PySem.Spec PyProof.Rows
section
variable {prog : Program} {w : World} {A : Around} {E : Value → Shared → Prop} {s : Shared}
end
def Itv (K : PySem.W.Frag) (a : Addr) (n : Nat) : It :=
 ⟨fun i H => ∃ xs x, SqT K H a xs ∧ xs.length = n ∧ i < n ∧ xs[n - 1 - i]? = some x, fun i H x H' => H' = H ∧ ∀ xs, SqT K H a xs → xs.length = n → xs[n - 1 - i]? = some x, fun i _ => n ≤ i⟩
section
variable {X : Cx} {tg : Expr} {K : PySem.W.Frag}
def iRev (K : PySem.W.Frag) (ta : TA) : TI := fun σ H R => ta σ H fun vs H1 => ∃ a xs, vs = [.ref a] ∧ SqT K H1 a xs ∧ R (Itv K a xs.length) H1
variable {σ : St} {H : Hp} {D : Ends} {g : TG} {tb : TS} {aa : TA}
theorem mq2 : (tFor (iRev K aa) g tb D σ H) = (aa σ H fun vs H1 => ∃ a xs, vs = [.ref a] ∧ SqT K H1 a xs ∧ LoopI (Itv K a xs.length) g tb D σ H1) := rfl
end
section
variable {X : Cx}
def rRepT : R2 := fun x y H Q => ∃ a k xs, x = .ref a ∧ y = .int k ∧ H a = some (.tup xs) ∧ 2 ≤ k ∧ k < 1000 ∧ xs.length * k.toNat ≤ sizeLine ∧ ∀ p H', Same H H' → H' p = some (.tup (List.replicate k.toNat xs).flatten) → Q (.ref p) H'
theorem lq5 {a : Addr} {k : Int} {H : Hp} {Q : VK} : rRepT (.ref a) (.int k) H Q ↔ ∃ xs, H a = some (.tup xs) ∧ 2 ≤ k ∧ k < 1000 ∧ xs.length * k.toNat ≤ sizeLine ∧ ∀ p H', Same H H' → H' p = some (.tup (List.replicate k.toNat xs).flatten) → Q (.ref p) H' := by
 constructor
 ·rintro ⟨a', k', xs, h1, h2, h⟩; cases h1; cases h2; exact ⟨xs, h⟩
 ·rintro ⟨xs, h⟩; exact ⟨a, k, xs, rfl, rfl, h⟩
def rRepS : R2 := fun x y H Q => ∃ l k xs, x = .ref l ∧ y = .int k ∧ H l = some (.lst xs) ∧ 0 ≤ k ∧ k < 1000000 ∧ xs.length * k.toNat ≤ sizeLine ∧ ∀ p H', H p = none → Same H H' → H' p = some (.lst (List.replicate k.toNat xs).flatten) → Q (.ref p) H'
theorem mqc {a : Addr} {k : Int} {H : Hp} {Q : VK} : rRepS (.ref a) (.int k) H Q ↔ ∃ xs, H a = some (.lst xs) ∧ 0 ≤ k ∧ k < 1000000 ∧ xs.length * k.toNat ≤ sizeLine ∧ ∀ p H', H p = none → Same H H' → H' p = some (.lst (List.replicate k.toNat xs).flatten) → Q (.ref p) H' := by
 constructor
 ·rintro ⟨a', k', xs, h1, h2, h⟩; cases h1; cases h2; exact ⟨xs, h⟩
 ·rintro ⟨xs, h⟩; exact ⟨a, k, xs, rfl, rfl, h⟩
end
section
variable {X : Cx}
def rRepN : R2 := fun x y H Q => ∃ a k xs, x = .ref a ∧ y = .int k ∧ H a = some (.tup xs) ∧ 0 ≤ k ∧ k < 1000 ∧ xs.length * k.toNat ≤ sizeLine ∧ ∀ p H', Same H H' → H' p = some (.tup (List.replicate k.toNat xs).flatten) → Q (.ref p) H'
theorem mqg {a : Addr} {k : Int} {H : Hp} {Q : VK} : rRepN (.ref a) (.int k) H Q ↔ ∃ xs, H a = some (.tup xs) ∧ 0 ≤ k ∧ k < 1000 ∧ xs.length * k.toNat ≤ sizeLine ∧ ∀ p H', Same H H' → H' p = some (.tup (List.replicate k.toNat xs).flatten) → Q (.ref p) H' := by
 constructor
 ·rintro ⟨a', k', xs, h1, h2, h⟩; cases h1; cases h2; exact ⟨xs, h⟩
 ·rintro ⟨xs, h⟩; exact ⟨a, k, xs, rfl, rfl, h⟩
end
section
variable {X : Cx}
def intsV (lo : Int) (n : Nat) : List V := (List.range n).map fun k => .int (lo + (k : Nat))
def tLR (ta : TA) : TE := fun σ H Q => ta σ H fun vs H1 => ∃ j : Int, vs = [.int j] ∧ 0 ≤ j ∧ j ≤ 1000000 ∧ ∀ p, H1 p = none → Q (.ref p) (upd H1 p (.lst (intsV 0 j.toNat)))
end
theorem qqi {ta : TA} {σ : St} {H : Hp} {Q : VK} : (tLR ta σ H Q) = (ta σ H fun vs H1 => ∃ j : Int, vs = [.int j] ∧ 0 ≤ j ∧ j ≤ 1000000 ∧ ∀ p, H1 p = none → Q (.ref p) (upd H1 p (.lst (intsV 0 j.toNat)))) := rfl
end L2
namespace L2
open PySem
section
variable {p : Addr} {fv : St} {tt : TT} {te : TE} {Q : VK} {H1 : Hp} {K : PySem.W.Frag}
end
end L2
namespace L2
open PySem PySem.Spec PyProof.Rows
section
variable {X : Cx} {pins : List (Addr × Obj)} {σ : St} {H1 : Hp} {s3 : Shared} {x x2 : Str} {fx : List Str} {fr : List Nat} {scope : Scope} {cl : List (Str × Addr)} {fp : List Addr}
end
def CompI2 (K : PySem.W.Frag) (J : It) (p : Addr) (fv : St) (tt : TT) (te : TE) (Q : VK) (H1 : Hp) : Prop :=
 ∃ W : Nat → Nat → List V → Hp → Prop, (∃ m, W 0 m [] (upd H1 p (.lst []))) ∧ ∀ i m ys H2, W i m ys H2 → H2 p = some (.lst ys) ∧
  ((J.stop i H2 ∧ Q (.ref p) H2) ∨ (J.go i H2 ∧ ys.length < sizeLine ∧ ∀ z H3, J.yld i H2 z H3 → ∃ a x y, z = .ref a ∧ SqT K H3 a [x, y] ∧ tt (some x :: some y :: fv) H3 fun b H4 =>
   if b = true then te (some x :: some y :: fv) H4 fun y H5 => H5 p = some (.lst ys) ∧ ∃ m', m' < m ∧ W (i + 1) m' (ys ++ [y]) (upd H5 p (.lst (ys ++ [y])))
   else ∃ m', m' < m ∧ W (i + 1) m' ys H4))
def tComp2 (K : PySem.W.Frag) (wi : TI) (fr : List Nat) (tt : TT) (te : TE) : TE := fun σ H Q => wi σ H fun J H1 => ∀ p, H1 p = none → CompI2 K J p (frV σ fr) tt te Q H1
section
variable {X : Cx} {elt iter : Expr} {x x2 : Str} {px px2 ptx pos : Pos} {kx : Nat} {ifs : List Expr} {scope : Scope} {cl : List (Str × Addr)} {fx : List Str} {fr : List Nat} {wi : TI} {tt : TT} {te : TE}
end
section
variable {p : Addr} {fv : St} {te : TE} {Q : VK} {H1 : Hp} {K : PySem.W.Frag}
theorem kqv {tl : TE} {tt : TT} {fr : List Nat} {σ : St} {H : Hp} : (tComp2 K (iTup K tl) fr tt te σ H Q) = (tl σ H fun x H1 => ∃ a, x = .ref a ∧ (∃ xs, SqT K H1 a xs) ∧ ∀ p, H1 p = none → CompI2 K (Itt K a) p (frV σ fr) tt te Q H1) := rfl
end
section
variable {X : Cx}
def rFind : V → List V → Hp → VK → Prop := fun x vs H Q => match x, vs with
 | .str z, [.str y] => Q (.int (Txt.find z y)) H
 | _, _ => False
theorem nqK {z y : Str} {H : Hp} {Q : VK} : (rFind (.str z) [.str y] H Q) = (Q (.int (Txt.find z y)) H) := rfl
end
end L2
namespace Wm
open PySem L2
end Wm
namespace Wm
end Wm
namespace L2
open PySem
theorem pqR {l : Addr} {H : Hp} {Q : VK} {i : Int} : rPopAt (.ref l) [.int i] H Q ↔ ∃ xs k y, H l = some (.lst xs) ∧ -(2 ^ 63) ≤ i ∧ i < 2 ^ 63 ∧ seqIndex? i xs.length = some k ∧ xs[k]? = some y ∧ Q y (upd H l (.lst (xs.eraseIdx k))) :=
 ⟨fun ⟨_, xs, _, k, y, h1, h2, h⟩ => by cases h1; cases h2; exact ⟨xs, k, y, h⟩, fun ⟨xs, k, y, h⟩ => ⟨_, xs, _, k, y, rfl, rfl, h⟩⟩
end L2
namespace L2
open PySem PySem.Spec PySem.W PyProof.Rows
abbrev vErr : List Value := [.type "ValueError", .type "Exception", .type "BaseException", .type "object"]
abbrev vNew : String := "ValueError.__new__"
def tRaise (E : XK) (C : Addr) : TS := fun _ _ H => E (.ref C) none H
theorem iq8 {E : XK} {C : Addr} {D : Ends} {σ : St} {H : Hp} : (tRaise E C D σ H) = (E (.ref C) none H) := rfl
theorem ObjOk.ex {P : Program} {w : World} {H : Hp} {h : Heap} {a : Addr} {o : HO} (x : ObjOk P w H h a o) : ∃ u, h.get? a = some u := by
 cases o with
 | lst xs => obtain ⟨_, _, _, _, e⟩ := x; exact ⟨_, e⟩
 | tup xs => obtain ⟨_, _, _, _, e, _⟩ := x; exact ⟨_, e⟩
 | dK kvs => obtain ⟨_, _, _, _, _, _, _, e, _⟩ := x; exact ⟨_, e⟩
 | dT kvs => obtain ⟨_, _, _, _, _, _, _, e, _⟩ := x; exact ⟨_, e⟩
 | set S n => obtain ⟨_, _, _, _, e, _⟩ := x; exact ⟨_, e⟩
 | ins C dx fs => obtain ⟨_, _, _, e, _⟩ := x; exact ⟨_, e⟩
 | own y => exact x
 | xd fs => obtain ⟨_, ⟨_, _, _, e, _⟩, _⟩ := x; exact ⟨_, e⟩
 | rng lo hi => obtain ⟨_, _, _, e⟩ := x; exact ⟨_, e⟩
 | frz ob u => exact ⟨_, x.1⟩
 | tbl ps => exact ⟨_, x⟩
 | met f y => exact ⟨_, x⟩
 | ext φ => exact x.2.1
structure Flown (P : Program) (w : World) (base : Heap) (outer : List Env) (H : Hp) (s : Shared) (a t C : Addr) (B : Heap) (H' : Hp) (s' : Shared) : Prop where
 os : s'.os = s.os
 bare : AllBare s'.gens
 st : base.StaysIn B
 fly : Heap.FlyingW B outer a (.ref C) (.ref t) s'.heap
 hok : HOk P w H' B
 un : Un (frs outer) [] H H' s.heap s'.heap
 kb : ∀ b o, s.heap.get? b = some o → H b = none → b ∉ frs outer → B.get? b = some o
 thB : ∀ b o, s.heap.get? b = some o → b ∉ frs outer → ∃ o', B.get? b = some o'
def CXE (P : Program) (w : World) (base : Heap) : CXT := fun outer H s E e s' => ∃ (a t C : Addr) (B : Heap) (H' : Hp), e = .ref a ∧ E (.ref C) none H' ∧ Flown P w base outer H s a t C B H' s'
theorem eq0 {env : Env} {L : Addr} {outer : List Env} (hf : env.frame = some L) {b : Addr} : b ∈ frs (env :: outer) ↔ b = L ∨ b ∈ frs outer := by
 unfold frs
 rw [List.filterMap_cons, hf]
 exact List.mem_cons
section
variable {P : Program} {w : World} {K : Frag} {mg : Str → Option Value} {base : Heap} {N : List Str} {qual : Str} {scope : Scope} {f : Addr} {cd : Value} {A : Around} {outer : List Env} {s : Shared} {H : Hp} {E : XK}
theorem jq2 : Passes (CXE P w base) (cxOf (CXE P w base) P w K mg base N qual scope f cd A outer s H E) E := by
 intro pins σ H1 s1 e s2 I hq
 obtain ⟨a, t, C, B, H2, rfl, hE, W⟩ := hq
 have hf : (envOfC qual scope s.heap.objs.size f cd).frame = some s.heap.objs.size := rfl
 have ib : Un (frs outer) [] H H1 s.heap s1.heap := I.base
 have W : Flown P w base (envOfC qual scope s.heap.objs.size f cd :: outer) H1 s1 a t C B H2 s2 := W
 have ne : ∀ b o, s.heap.get? b = some o → b ∉ frs outer → b ∉ frs (envOfC qual scope s.heap.objs.size f cd :: outer) := fun b o q n z => by
  rcases (eq0 hf).mp z with z | z
  ·exact absurd (Heap.lt_size q) (by rw [z]; exact Nat.lt_irrefl _)
  ·exact n z
 show wpAny (model P w) (A.deeper (envOfC qual scope s.heap.objs.size f cd)) (leaving (envOfC qual scope s.heap.objs.size f cd) (.ref a)) _ _ _
 refine wpAny_leaves_onW I.ok.frames hf W.fly fun h3 x1 x2 => ?_
 have keepB : ∀ b o, s.heap.get? b = some o → H b = none → b ∉ frs outer → B.get? b = some o := fun b o q n nf =>
  W.kb b o (ib.keep b o q n nf (by simp)) (ib.free b o q n (by simp)) (ne b o q nf)
 have thB : ∀ b o, s.heap.get? b = some o → b ∉ frs outer → ∃ o', B.get? b = some o' := fun b o q nf => by
  obtain ⟨o', z⟩ := ib.there b o q (by simp)
  exact W.thB b o' z (ne b o q nf)
 have slotF : ∀ b, b ∈ frs outer → ∀ o, s2.heap.get? b = some o → ∃ sl, h3.get? b = some { o with slots := sl } := fun b hb o q => by
  obtain ⟨_, o2, q2, nd⟩ := W.fly.2.2.1.mem ((eq0 hf).mpr (.inr hb))
  rw [q] at q2
  cases q2
  exact x2 b o q nd
 refine ⟨a, t, C, B, H2, rfl, hE, ⟨W.os.trans I.os, W.bare, W.st, x1, W.hok, ⟨fun b o q n nf _ => x1.1 b o (keepB b o q n nf), fun b o q n hb _ => ?_, fun b o q n _ => ?_, fun b o q _ => ?_, fun b xs q => W.un.tups b xs (ib.tups b xs q), fun b o u q => W.un.frzs b o u (ib.frzs b o u q), fun b ps q => ?_⟩, keepB, thB⟩⟩
 ·obtain ⟨sl, z⟩ := ib.slot b o q n hb (by simp)
  obtain ⟨sl1, z1⟩ := W.un.slot b _ z (ib.free b o q n (by simp)) ((eq0 hf).mpr (.inr hb)) (by simp)
  obtain ⟨sl', z'⟩ := slotF b hb _ z1
  exact ⟨sl', z'⟩
 ·obtain ⟨o', z⟩ := ib.there b o q (by simp)
  exact W.un.free b o' z (ib.free b o q n (by simp)) (by simp)
 ·by_cases hb : b ∈ frs outer
  ·obtain ⟨o', z⟩ := ib.there b o q (by simp)
   obtain ⟨o'', z1⟩ := W.un.there b o' z (by simp)
   obtain ⟨sl', z'⟩ := slotF b hb _ z1
   exact ⟨_, z'⟩
  ·obtain ⟨o', z⟩ := thB b o q hb
   exact ⟨o', x1.1 b o' z⟩
 ·obtain ⟨m1, z⟩ := ib.tbls b ps q
  obtain ⟨m2, z2⟩ := W.un.tbls b _ z
  exact ⟨m1 ++ m2, by rw [z2, Array.append_assoc]⟩
end
def exO (a C : Addr) : HO := .ext fun h => ∃ o, h.get? a = some o ∧ o.cls = .ref C
abbrev Cx.handling (X : Cx) (e : Value) : Cx := { X with A := X.A.mark (some e), calm := false, xe := fun _ _ => False }
section
variable {X : Cx} {pins : List (Addr × Obj)} {σ : St} {H H1 H2 : Hp} {s s1 s2 : Shared}
theorem Inv.handling (e : Value) (I : Inv X pins σ H s) : Inv (X.handling e) pins σ H s :=
 ⟨⟨I.ok.mod, I.ok.kind, I.ok.glob, I.ok.blt, I.ok.above, I.ok.inj, I.ok.has, I.ok.cab, (fun z => by cases z), I.ok.frames, I.ok.stk, I.ok.exf, I.ok.bs, I.ok.bsz, I.ok.noex, I.ok.exfs, I.ok.funs, I.ok.frf⟩, I.os, I.bare, I.base, I.loc, I.cell, I.free, I.freeC, I.pin, I.hok, I.len⟩
theorem Inv.handled {e : Value} (J : X.Ok) (I : Inv (X.handling e) pins σ H s) : Inv X pins σ H s := ⟨J, I.os, I.bare, I.base, I.loc, I.cell, I.free, I.freeC, I.pin, I.hok, I.len⟩
theorem Flown.new {P : Program} {w : World} {base B h5 : Heap} {outer : List Env} {a t C : Addr} {a0 : Value} (W : Flown P w base outer H1 s1 a t C B H2 s2) : H2 a = none := by
 cases q : H2 a with
 | none => rfl
 | some u =>
  obtain ⟨o, z⟩ := (W.hok a u q).ex
  rw [W.fly.2.1] at z
  cases z
theorem Inv.caught {a t C : Addr} {B h5 : Heap} {a0 : Value} (I : Inv X pins σ H1 s1) (W : Flown X.prog X.w X.base X.stack H1 s1 a t C B H2 s2) (f5 : Heap.FlyingW B X.stack a (.ref C) a0 h5) (sm : s2.heap.UpToSlots h5) :
  Inv X pins σ (upd H2 a (exO a C)) { s2 with heap := h5 } := by
 have hn : H2 a = none := W.new (h5 := h5) (a0 := a0)
 obtain ⟨oe, vs, T, oT, ts, he, _, hd, _⟩ := W.fly.2.2.2
 have fr : ∀ b ∈ frs X.stack, ∀ o, s2.heap.get? b = some o → b ≠ a ∧ ∃ sl, h5.get? b = some { o with slots := sl } := fun b hb o q => by
  obtain ⟨_, o2, q2, nd⟩ := W.fly.2.2.1.mem hb
  rw [q] at q2
  cases q2
  refine ⟨fun z => ?_, sm b o q nd⟩
  rw [z, he] at q
  cases q
  exact nd _ hd
 have na : ∀ b o, s1.heap.get? b = some o → b ≠ a := fun b o q => by
  by_cases hb : b ∈ frs X.stack
  ·obtain ⟨o', z⟩ := W.un.there b o q (by simp)
   exact (fr b hb o' z).1
  ·obtain ⟨o', z⟩ := W.thB b o q hb
   rintro rfl
   rw [W.fly.2.1] at z
   cases z
 refine I.call' (H' := upd H2 a (exO a C)) (s' := { s2 with heap := h5 }) (ch := []) W.os ⟨fun b o q n nf _ => f5.1 b o (W.kb b o q n nf), fun b o q n hb _ => ?_, fun b o q n _ => ?_, fun b o q _ => ?_, fun b xs q => ?_, fun b o u q => ?_, fun b ps q => ?_⟩ (fun b u q => ?_) W.bare (fun b z => by cases z)
 ·obtain ⟨sl, z⟩ := W.un.slot b o q n hb (by simp)
  obtain ⟨_, sl', z'⟩ := fr b hb _ z
  exact ⟨sl', z'⟩
 ·rw [aqm (na b o q)]
  exact W.un.free b o q n (by simp)
 ·by_cases hb : b ∈ frs X.stack
  ·obtain ⟨o', z⟩ := W.un.there b o q (by simp)
   obtain ⟨_, sl', z'⟩ := fr b hb _ z
   exact ⟨_, z'⟩
  ·obtain ⟨o', z⟩ := W.thB b o q hb
   exact ⟨o', f5.1 b o' z⟩
 ·have z := W.un.tups b xs q
  rw [aqm (aqn z hn)]
  exact z
 ·have z := W.un.frzs b o u q
  rw [aqm (aqn z hn)]
  exact z
 ·obtain ⟨m, z⟩ := W.un.tbls b ps q
  exact ⟨m, by rw [aqm (aqn z hn)]; exact z⟩
 ·by_cases hb : b = a
  ·subst hb
   rw [aqr] at q
   cases q
   obtain ⟨ob, hob, hoc⟩ := f5.there
   exact ⟨⟨ob, hob, hoc⟩, ⟨ob, hob⟩, fun h1 h2 ⟨o, z, c⟩ k => ⟨o, k o z, c⟩⟩
  ·rw [aqm hb] at q
   refine (W.hok b u q).stay (fun c v _ z => f5.1 c v z) (fun c z => ?_) fun c xs z => ?_
   ·rw [aqm (aqn z hn)]; exact z
   ·rw [aqm (aqn z hn)]; exact z
theorem Inv.goes {M : Model} {A : Around} {E : Value → Shared → Prop} {i : Nat} {n : Str} {pos : Pos} {Q : Unit → Shared → Prop} (I : Inv X pins σ H s) (nd : X.N.Nodup) (hi : X.N[i]? = some n) (hl : X.env.scope.names.lookup n = some .local)
  (h : ∀ s', Inv X pins (σ.set i none) H s' → Q () s') : wpAny M A (do bindName X.env n .none; unbindBehindTheSuite X.env n pos) Q E s := by
 obtain ⟨m, hn, hlk⟩ := id I.loc
 have hcls : (X.env.scope.kind == .class || (X.env.scope.kind == .module && X.env.locals != X.env.globals)) = false := by rw [I.ok.kind]; rfl
 have hiσ : i < σ.length := by rw [I.len]; exact (List.getElem?_eq_some_iff.mp hi).1
 refine wpAny_nameGoes_keeps hl hn hcls fun h' v hn' hs => h _ ?_
 have neL : ∀ b o, X.s₀.heap.get? b = some o → b ≠ X.env.locals := fun b o e => Nat.ne_of_lt (Nat.lt_of_lt_of_le (Heap.lt_size e) I.ok.above)
 refine ⟨I.ok, I.os, I.bare, ⟨fun b o e z hb hx => (hs.2 b (neL b o e)).trans (I.base.keep b o e z hb hx), fun b o e z hb hx => ?_, I.base.free, fun b o e hx => ?_, I.base.tups, I.base.frzs, I.base.tbls⟩, ⟨_, hn', fun j y v' e1 e2 e3 => ?_⟩, fun y c e => ?_, I.free, I.freeC, fun p hp => ?_, fun b ob e => ?_, by simpa using I.len⟩
 ·obtain ⟨sl, e1⟩ := I.base.slot b o e z hb hx
  exact ⟨sl, (hs.2 b (neL b o e)).trans e1⟩
 ·obtain ⟨o', e1⟩ := I.base.there b o e hx
  exact ⟨o', (hs.2 b (neL b o e)).trans e1⟩
 ·by_cases hj : j = i
  ·subst hj
   rw [List.getElem?_set_self hiσ] at e2
   cases e2
  ·rw [List.getElem?_set_ne (Ne.symm hj)] at e2
   obtain ⟨u', r', q⟩ := hlk j y v' e1 e2 e3
   refine ⟨u', r', ?_⟩
   rcases q with ⟨k, e⟩ | ⟨k, c, e, z⟩
   ·refine .inl ⟨k, ?_⟩
    have : y ≠ n := fun e => hj (hqx nd e1 (e ▸ hi))
    simp [this, e]
   ·exact .inr ⟨k, c, e, z.sameBut hs (I.cne y c e)⟩
 ·obtain ⟨w', z⟩ := I.cell y c e
  exact ⟨w', z.sameBut hs (I.cne y c e)⟩
 ·obtain ⟨e, n1, ne, nf, d⟩ := I.pin p hp
  exact ⟨(hs.2 p.1 ne).trans e, n1, ne, nf, d⟩
 ·refine (I.hok b ob e).stay (fun c w' hc q => (hs.2 c ?_).trans q) (fun _ q => q) fun _ _ q => q
  rintro rfl
  rcases hc with rfl | hc
  ·rw [I.free] at e; cases e
  ·rw [I.free] at hc; cases hc
end
structure Catch (K : Frag) (W : Addr) : Prop where
 ty : typeIn K (.ref W) = some (.type "type")
 ex : subIn K (.ref W) (.type "BaseException") = some true
 cl : (clsIn K W).isSome = true
theorem iq1 {K : Frag} {M : Model} {h : Heap} {a W C : Addr} {o : Obj} (kin : K.In h) (ha : h.get? a = some o) (hc : o.cls = .ref C) (cw : Catch K W) (hs : subIn K (.ref C) (.ref W) = some true) : Looks M h (excMatches (.ref a) (.ref W)) true := by
 have L1 := looks_typeIn (M := M) kin cw.ty
 have L2 := looks_subIn (M := M) kin cw.ex
 have L3 := looks_subIn (M := M) kin hs
 have L4 : Looks M h (typeOf (.ref a)) (.ref C) := hc ▸ (Looks.ld ha).andThen .now
 have L5 : Looks M h (isInstance (.ref W) (.type "tuple")) false := L1.andThen (Looks.of_pure tc_notTuple)
 have L6 : Looks M h (isType (.ref W)) true := by
  have z := cw.cl
  unfold clsIn at z
  split at z
  ·next lk =>
   intro A' Q' E' s' k q
   unfold isType loadHead
   exact wpAny_bind (wpAny_loadPart (k _ _ (kin _ _ lk)) (wpAny_pure q))
  ·cases z
 intro A Q E s k q
 unfold excMatches isExcClass
 refine wpAny_bind (L5 A _ E s k ?_)
 simp only [Bool.false_eq_true, if_false]
 refine wpAny_bind (wpAny_pure ?_)
 refine wpAny_bind ?_
 rw [List.forIn_cons]
 refine wpAny_bind (wpAny_bind (wpAny_bind (L6 A _ E s k ?_)))
 simp only [if_true]
 refine L2 A _ E s k ?_
 simp only [Bool.not_true, Bool.false_eq_true, if_false]
 refine wpAny_pure ?_
 dsimp only
 rw [List.forIn_nil]
 refine wpAny_pure ?_
 refine wpAny_bind (L4 A _ E s k ?_)
 refine wpAny_bind ?_
 rw [List.forIn_cons]
 refine wpAny_bind (wpAny_bind (L3 A _ E s k ?_))
 simp only [if_true]
 refine wpAny_pure ?_
 dsimp only
 exact wpAny_pure (wpAny_pure q)
def tTry (K : Frag) (sp : Sp) (t : TA) (W : Addr) (i : Nat) (tb : TS) : TS := fun D σ H => t σ H fun vs H1 => sp vs H1 (fun _ H2 => D.nx σ H2) fun cls _ H2 =>
 ∃ C, cls = .ref C ∧ subIn K (.ref C) (.ref W) = some true ∧ ∀ a, H2 a = none → tb { nx := fun σ' H' => D.nx (σ'.set i none) H', rt := D.rt } (σ.set i (some (.ref a))) (upd H2 a (exO a C))
end L2
namespace L2
open PySem PySem.Spec PySem.W PySem.Calls PyProof.Rows PySem.Builtin PySem.Builtin.ObjectAttr PySem.Builtin.Getset_descriptor
structure ExLook (K : Frag) (C : Addr) : Prop where
 ga : findIn K (.ref C) "__getattribute__" = some (some (.builtin "BaseException.__getattribute__"))
 cl : findIn K (.ref C) "__class__" = some (some (.builtin "object.__class__"))
 na : findIn K (.ref C) "__getattr__" = some none
 mo : mroIn K C (.type "object") = some true
 mb : mroIn K C (.type "BaseException") = some true
 is : (clsIn K C).isSome = true
section
variable {prog : Program} {w : World} {A : Around} {E : Value → Shared → Prop} {hh : Heap} {g : Array GenState} {dr : Drawn} {t : Nat} {os : OsState} {K : Frag} {a C : Addr} {o : Obj}
theorem jqe {M : Model} (hx : hh.get? a = some o) (hc : o.cls = .ref C) : Looks M hh (typeOf (.ref a)) (.ref C) := hc ▸ (Looks.ld hx).andThen .now
theorem iqD {M : Model} {nv : Value} {Q : Unit → Shared → Prop} (kin : K.In hh) (hx : hh.get? a = some o) (hc : o.cls = .ref C) (L : ExLook K C) (hq : Q () ⟨hh, g, dr, t, os⟩) :
  wpAny M A (checkBuiltinCall "BaseException.__getattribute__" ⟨[.ref a, nv], []⟩) Q E ⟨hh, g, dr, t, os⟩ := by
 have lt := jqe (M := M) hx hc; have lb := looks_mroIn (M := M) kin L.mb
 have z1 : builtinKind "BaseException.__getattribute__" = some .slot := by decide +kernel
 have z2 : splitId "BaseException.__getattribute__" = some ("BaseException", "__getattribute__") := by decide +kernel
 have z3 := F.args_bexc_ga (.ref a) nv
 simp only [checkBuiltinCall, z1, z2]; refine wpAny_bind ?_; unfold isInstance
 repeat (first | with_reducible refine Looks.at lt ?_ | with_reducible refine Looks.at lb ?_ | wp_step)
 exact hq
end
inductive KitAns (K : Frag) (H : Hp) (C : Addr) : V → Bool → Prop
 | cls {W : Addr} {b : Bool} : kitOne K (.ref C) (.ref W) = some b → KitAns K H C (.ref W) b
 | ty {T : String} {b : Bool} : kitOne K (.ref C) (.type T) = some b → KitAns K H C (.ty T) b
 | tup {p : Addr} {cs : List Addr} {b : Bool} : H p = some (.tup (cs.map V.ref)) → kitAny K (.ref C) (cs.map Value.ref) = some b → KitAns K H C (.ref p) b
def rIsE (K : Frag) : List V → Hp → VK → Prop := fun vs H Q => ∃ a c C b, vs = [.ref a, c] ∧ H a = some (exO a C) ∧ ExLook K C ∧ KitAns K H C c b ∧ Q (.bl b) H
end L2
namespace L2
open PySem PySem.W
theorem pqk {K : Frag} {a : Addr} {c : V} {H : Hp} {Q : VK} : rIsE K [.ref a, c] H Q ↔ ∃ C b, H a = some (exO a C) ∧ ExLook K C ∧ KitAns K H C c b ∧ Q (.bl b) H :=
 ⟨fun ⟨_, _, C, b, e, h⟩ => by cases e; exact ⟨C, b, h⟩, fun ⟨C, b, h⟩ => ⟨a, c, C, b, rfl, h⟩⟩
theorem oqN {K : Frag} {sp : Sp} {t : TA} {W : Addr} {i : Nat} {tb : TS} {D : Ends} {σ : St} {H : Hp} : tTry K sp t W i tb D σ H ↔ t σ H fun vs H1 => sp vs H1 (fun _ H2 => D.nx σ H2) fun cls _ H2 =>
 ∃ C, cls = .ref C ∧ subIn K (.ref C) (.ref W) = some true ∧ ∀ a, H2 a = none → tb { nx := fun σ' H' => D.nx (σ'.set i none) H', rt := D.rt } (σ.set i (some (.ref a))) (upd H2 a (exO a C)) := Iff.rfl
end L2
namespace L2
open PySem PySem.Spec PyProof.Rows
theorem sw3 (x y : Str) (t u : Tok) (i : Nat) (v : Tok) :
  Meets (Builtin.«str.startswith» ⟨[.str x t, .str y u, .int (i : Int) v], []⟩) (fun _ R s => R (.ok (.ret (.bool (decide (i + y.length ≤ x.length) && Builtin.Str.subAt x y i)))) s) :=
 .of_wp fun prog w A R s h => by
  obtain ⟨hp, g, d, tk, os⟩ := s
  unfold Builtin.«str.startswith»
  wp_walk
  rw [F.slot_int_index.lookup]
  wp_walk
  refine ⟨_, rfl, ?_⟩
  have e1 : (max (0 : Int) (if (i : Int) < 0 then (i : Int) + (x.length : Int) else (i : Int))).toNat = i := by
   rw [if_neg (by omega)]; omega
  have e2 : min ((x.length : Nat) : Int).toNat x.length = x.length := by omega
  dsimp only
  rw [e1, e2]
  exact h
section
variable {X : Cx}
def rStarts : V → List V → Hp → VK → Prop := fun x vs H Q => ∃ z y, ∃ i : Nat, x = .str z ∧ vs = [.str y, .int (i : Int)] ∧ Q (.bl (decide (i + y.length ≤ z.length) && Builtin.Str.subAt z y i)) H
theorem jqC : MtR X "str.startswith" rStarts := by
 intro pins s σ H x vs v us Q I rx rv h
 obtain ⟨z, y, i, rfl, rfl, q⟩ := h
 obtain ⟨t, rfl⟩ := rx
 obtain ⟨u1, u2, rfl, r1, r2⟩ := vals2 rv
 obtain ⟨t1, rfl⟩ := r1
 obtain ⟨t2, rfl⟩ := r2
 exact call_meets F.slot_str_startswith (typeIs_str _ _ _) F.entry_str_startswith (F.args_str_startswith_3 _ _ _) (sw3 z y t t1 i t2) ⟨.bl _, H, I, rfl, q⟩
end
section
variable {X : Cx}
def rPart : V → List V → Hp → VK → Prop := fun x vs H Q => ∃ z y, x = .str z ∧ vs = [.str y] ∧ (y.length == 0) = false ∧ z.length ≤ sizeLine ∧
 ∀ p, H p = none → Q (.ref p) (upd H p (.tup [.str (Txt.partition z y).1, .str (Txt.partition z y).2.1, .str (Txt.partition z y).2.2]))
theorem hq4 : MtR X "str.partition" rPart := by
 intro pins s σ H x vs v us Q I rx rv h
 obtain ⟨z, y, rfl, rfl, hy, hz, q⟩ := h
 obtain ⟨t, rfl⟩ := rx
 obtain ⟨u, rfl, t', rfl⟩ := vals1 rv
 have hf : H s.heap.objs.size = none := I.hok.fresh (Nat.le_refl _)
 have q := q _ hf
 refine call_meets F.slot_str_partition (typeIs_str _ _ _) F.entry_str_partition (F.args_str_partition_2 _ _) (meets_str_partition z y t t' hy hz) ?_
 unfold Txt.partition at q
 revert q
 cases Builtin.Str.occurrences z y 0 z.length 1 with
 | nil =>
  intro q
  refine ⟨.ref s.heap.objs.size, _, I.laid (t' := s.toks + 1) (o := .tup _) (fun b u e => Heap.get?_push_of_some _ e) (by omega) ?_, rfl, q⟩
  exact ⟨by show 3 ≤ sizeLine; decide, _, .cons ⟨_, rfl⟩ (.cons ⟨_, rfl⟩ (.cons ⟨_, rfl⟩ .nil)), IsTup.new _ _⟩
 | cons i r =>
  intro q
  refine ⟨.ref s.heap.objs.size, _, I.laid (t' := s.toks + 1 + 1) (o := .tup _) (fun b u e => Heap.get?_push_of_some _ e) (by omega) ?_, rfl, q⟩
  exact ⟨by show 3 ≤ sizeLine; decide, _, .cons ⟨_, rfl⟩ (.cons ⟨_, rfl⟩ (.cons ⟨_, rfl⟩ .nil)), IsTup.new _ _⟩
end
theorem kqD {us : List Value} {d : Value} (h : (us ++ [d]).length = 3) : ∃ x y, us = [x, y] := by
 match us, h with
 | [x, y], _ => exact ⟨x, y, rfl⟩
 | [], h => simp at h
 | [_], h => simp at h
 | _ :: _ :: _ :: _, h => simp at h
section
variable {X : Cx}
def rIntS : List V → Hp → VK → Prop := fun xs H Q => ∃ z n, xs = [.str z] ∧ z.length ≤ 640 ∧ PySem.intText? z = some n ∧ Q (.int n) H
theorem eqU : CallR X (.type "int") rIntS := by
 intro pins s σ H xs us Q I r h
 obtain ⟨z, n, rfl, hz, hn, q⟩ := h
 obtain ⟨u, rfl, t, rfl⟩ := vals1 r
 exact PySem.W.KIN.call_text hn hz ⟨.int n, H, I.tok _, ⟨_, rfl⟩, q⟩
theorem nqk {z : Str} {H : Hp} {Q : VK} : rIntS [.str z] H Q ↔ ∃ n, z.length ≤ 640 ∧ PySem.intText? z = some n ∧ Q (.int n) H :=
 ⟨fun ⟨_, n, e, h⟩ => by cases e; exact ⟨n, h⟩, fun ⟨n, h⟩ => ⟨z, n, rfl, h⟩⟩
theorem pq6 {z y : Str} {i : Nat} {H : Hp} {Q : VK} : rStarts (.str z) [.str y, .int (i : Int)] H Q ↔ Q (.bl (decide (i + y.length ≤ z.length) && Builtin.Str.subAt z y i)) H :=
 ⟨fun ⟨_, _, j, e1, e2, h⟩ => by
  cases e1
  injection e2 with e2 e3
  cases e2
  injection e3 with e3
  injection e3 with e3
  obtain rfl : i = j := by omega
  exact h, fun h => ⟨z, y, i, rfl, rfl, h⟩⟩
theorem mqw {z y : Str} {H : Hp} {Q : VK} : rPart (.str z) [.str y] H Q ↔ (y.length == 0) = false ∧ z.length ≤ sizeLine ∧ ∀ p, H p = none → Q (.ref p) (upd H p (.tup [.str (Txt.partition z y).1, .str (Txt.partition z y).2.1, .str (Txt.partition z y).2.2])) :=
 ⟨fun ⟨_, _, e1, e2, h⟩ => by cases e1; cases e2; exact h, fun h => ⟨z, y, rfl, rfl, h⟩⟩
theorem oqM {K : PySem.W.Frag} {ta : TE} {f : Str} {σ : St} {H : Hp} {Q : VK} : (tFld K ta f σ H Q) = (ta σ H fun x H1 => ∃ a C dx fs v, x = .ref a ∧ H1 a = some (.ins C dx fs) ∧ Cls K C ∧ NoAttr K C f ∧ fs.lookup f = some v ∧ Q v H1) := rfl
theorem nqb {K : PySem.W.Frag} {ta tv : TE} {f : Str} {D : Ends} {σ : St} {H : Hp} : (sFld K ta tv f D σ H) = (tv σ H fun y H1 => ta σ H1 fun x H2 => ∃ a C dx fs, x = .ref a ∧ H2 a = some (.ins C dx fs) ∧ Cls K C ∧ NoAttr K C f ∧ fs.length < 1000 ∧ D.nx σ (upd H2 a (.ins C dx (putF f y fs)))) := rfl
theorem oqf {C : Addr} {m : Str} {sp : Sp} {dvs : List V} {E : XK} {ta : TE} {t : TA} {σ : St} {H : Hp} {Q : VK} : (tMeth C m sp dvs E ta t σ H Q) = (ta σ H fun x H1 => ∃ a dx fs, x = .ref a ∧ H1 a = some (.ins C dx fs) ∧ fs.lookup m = none ∧ t σ H1 fun vs H2 => sp (x :: (vs ++ dvs)) H2 Q E) := rfl
theorem nqO {C : Addr} {sp : Sp} {dvs : List V} {E : XK} {t : TA} {σ : St} {H : Hp} {Q : VK} : (tMake C sp dvs E t σ H Q) = (t σ H fun vs H1 => ∀ x dx, H1 x = none → H1 dx = none → dx ≠ x → sp (.ref x :: (vs ++ dvs)) (upd (upd H1 dx (.own x)) x (.ins C dx [])) (fun v H2 => v = .non ∧ Q (.ref x) H2) E) := rfl
end
end L2
namespace Wm
open PySem L2
theorem mqH (t w : List Nat) (i : Nat) (hi : i ≤ t.length) : (decide (i + (⟨w.toArray⟩ : Str).length ≤ (⟨t.toArray⟩ : Str).length) && Builtin.Str.subAt ⟨t.toArray⟩ ⟨w.toArray⟩ i) = decide ((t.drop i).take w.length = w) := by
 rw [eqD, eqD]
 have e : Builtin.Str.subAt ⟨t.toArray⟩ ⟨w.toArray⟩ i = decide ((t.drop i).take w.length = w) := by
  unfold Builtin.Str.subAt
  rw [eqD, Bool.eq_iff_iff, beq_iff_eq, decide_eq_true_eq]
  show (t.toArray.extract i (i + w.length) = w.toArray) ↔ _
  rw [← Array.toList_inj]
  simp
 rw [e]
 by_cases h : (t.drop i).take w.length = w
 ·have hl := congrArg List.length h
  rw [List.length_take, List.length_drop] at hl
  rw [decide_eq_true h, Bool.and_true]
  by_cases hw : w.length = 0
  ·rw [hw, Nat.add_zero]
   exact decide_eq_true hi
  ·exact decide_eq_true (by omega)
 ·rw [decide_eq_false h, Bool.and_false]
theorem occ1 (x y : Str) : ∀ (l : List Nat) (free : Nat), (∀ i ∈ l, free ≤ i) →
  (forIn l ((#[] : Array Nat), free) (StrLaws.occBody x y x.length 1)).run.fst.toList = (l.find? fun i => decide (i + y.length ≤ x.length) && Builtin.Str.subAt x y i).toList
 | [], free, _ => rfl
 | a :: l, free, hf => by
  rw [List.forIn_cons, List.find?_cons]
  have ha : free ≤ a := hf a (List.mem_cons_self ..)
  by_cases hc : a + y.length ≤ x.length ∧ Builtin.Str.subAt x y a = true
  ·have e : (decide (a + y.length ≤ x.length) && Builtin.Str.subAt x y a) = true := by rw [decide_eq_true hc.1, hc.2]; rfl
   rw [e]
   unfold StrLaws.occBody
   rw [if_pos ⟨⟨⟨by simp, ha⟩, hc.1⟩, hc.2⟩]
   have full : ∀ (l : List Nat) (st : Array Nat × Nat), st.1.size = 1 → (forIn l st (StrLaws.occBody x y x.length 1)).run.fst = st.1 := by
    intro l
    induction l with
    | nil => intro st _; rfl
    | cons b l ih =>
     intro st hs
     rw [List.forIn_cons]
     unfold StrLaws.occBody
     rw [if_neg (fun h => by have := h.1.1.1; omega)]
     exact ih st hs
   show (forIn l ((#[] : Array Nat).push a, a + y.length) (StrLaws.occBody x y x.length 1)).run.fst.toList = _
   rw [full l _ (by simp)]
   simp
  ·have e : (decide (a + y.length ≤ x.length) && Builtin.Str.subAt x y a) = false := by
    cases h1 : Builtin.Str.subAt x y a with
    | false => rw [Bool.and_false]
    | true => rw [Bool.and_true]; exact decide_eq_false fun z => hc ⟨z, h1⟩
   rw [e]
   unfold StrLaws.occBody
   rw [if_neg (fun h => hc ⟨h.1.2, h.2⟩)]
   exact occ1 x y l free fun i hi => hf i (List.mem_cons_of_mem _ hi)
def ahead (t : List Nat) : List Nat := t.takeWhile fun c => decide (c ≠ 58)
theorem lq4 (t : List Nat) (i : Nat) : (decide (i + (⟨[58].toArray⟩ : Str).length ≤ (⟨t.toArray⟩ : Str).length) && Builtin.Str.subAt ⟨t.toArray⟩ ⟨[58].toArray⟩ i) = decide (t[i]? = some 58) := by
 by_cases hi : i ≤ t.length
 ·rw [mqH t [58] i hi, decide_eq_decide]
  cases h : t.drop i with
  | nil =>
   have : t[i]? = none := List.getElem?_eq_none (by have := congrArg List.length h; rw [List.length_drop, List.length_nil] at this; omega)
   rw [this]
   simp
  | cons c r =>
   have : t[i]? = some c := by rw [← List.head?_drop, h]; rfl
   rw [this]
   simp
 ·rw [List.getElem?_eq_none (by omega), eqD, eqD, decide_eq_false (by rw [List.length_singleton]; omega)]
  rfl
theorem jqS (t : List Nat) : ∀ (k : Nat), k ≤ t.length → (t.take k).all (fun c => decide (c ≠ 58)) = true →
  ((List.range' k (t.length + 1 - k)).find? fun i => decide (t[i]? = some 58)) = if 58 ∈ t then some (ahead t).length else none := by
 intro k
 induction hn : t.length - k generalizing k with
 | zero =>
  intro hk ha
  have e : k = t.length := by omega
  subst e
  rw [List.take_length] at ha
  have hno : 58 ∉ t := fun h => by have := List.all_eq_true.mp ha 58 h; simp at this
  rw [if_neg hno, show t.length + 1 - t.length = 1 by omega]
  simp
 | succ n ih =>
  intro hk ha
  have hk' : k < t.length := by omega
  have hc : t[k]? = some t[k] := List.getElem?_eq_getElem hk'
  rw [show t.length + 1 - k = (t.length + 1 - (k + 1)) + 1 by omega, List.range'_succ, List.find?_cons, hc]
  by_cases h58 : t[k] = 58
  ·rw [h58]
   simp only [decide_true]
   rw [if_pos (by rw [← h58]; exact List.getElem_mem hk')]
   congr 1
   have ht : t = t.take k ++ 58 :: t.drop (k + 1) := by
    rw [← h58, List.getElem_cons_drop, List.take_append_drop]
   unfold ahead
   rw [ht, List.takeWhile_append_of_pos (fun c hc' => List.all_eq_true.mp ha c hc'), List.takeWhile_cons_of_neg (by simp)]
   simp; omega
  ·rw [show decide (some t[k] = some 58) = false from decide_eq_false (by simpa using h58)]
   refine ih (k + 1) (by omega) (by omega) ?_
   rw [List.take_add_one, hc, List.all_append, ha]
   simpa using h58
theorem jqw (t : List Nat) : (Txt.partition ⟨t.toArray⟩ ⟨[58].toArray⟩).1 = ⟨(ahead t).toArray⟩ := by
 have e : Builtin.Str.occurrences (⟨t.toArray⟩ : Str) ⟨[58].toArray⟩ 0 (⟨t.toArray⟩ : Str).length 1 = (if 58 ∈ t then some (ahead t).length else none).toList := by
  rw [StrLaws.occ_eq, occ1 _ _ _ _ (fun i _ => Nat.zero_le i)]
  simp only [lq4]
  rw [eqD]
  exact congrArg Option.toList (jqS t 0 (Nat.zero_le _) rfl)
 unfold Txt.partition
 rw [e]
 by_cases h : 58 ∈ t
 ·rw [if_pos h]
  show Builtin.Str.strSub ⟨t.toArray⟩ 0 (ahead t).length = _
  unfold Builtin.Str.strSub
  have hp : t.take (ahead t).length = ahead t := (List.prefix_iff_eq_take.mp (List.takeWhile_prefix _)).symm
  rw [← hp, List.length_take]
  have : (ahead t).length ≤ t.length := (List.takeWhile_prefix _).length_le
  rw [show min (ahead t).length t.length = (ahead t).length by omega]
  show (⟨t.toArray.extract 0 (ahead t).length⟩ : Str) = _
  simp
 ·rw [if_neg h]
  have all : ∀ l : List Nat, 58 ∉ l → ahead l = l := fun l => by
   induction l with
   | nil => intro _; rfl
   | cons c l ih =>
    intro hl
    have h1 : c ≠ 58 := fun z => hl (by rw [z]; exact List.mem_cons_self ..)
    unfold ahead
    rw [List.takeWhile_cons, if_pos (decide_eq_true h1)]
    exact congrArg (c :: ·) (ih fun z => hl (List.mem_cons_of_mem _ z))
  have : ahead t = t := all t h
  rw [this]
  rfl
def Cur (H : Hp) (C p : Addr) (t : List Nat) (k : Nat) : Prop := ∃ dx, H p = some (.ins C dx [("text", .str ⟨t.toArray⟩), ("place", .int (k : Int))])
inductive WrT (fr : List Nat) : List Nat → List Nat → Prop
 | nil : WrT fr [] []
 | self {c : Nat} {s w : List Nat} : (isPl c = true ∨ c ∈ fr) → c ≠ 126 → WrT fr s w → WrT fr (c :: s) (c :: w)
 | pair {c a b : Nat} {s w : List Nat} : sgO a b = some c → WrT fr s w → WrT fr (c :: s) (126 :: a :: b :: w)
def Stops (fr r : List Nat) : Prop := ∀ c, r.head? = some c → isPl c = false ∧ c ∉ fr ∧ c ≠ 126
def moV : Option Nat → V
 | none => .non
 | some m => .int (m : Int)
theorem mqC {a n : Nat} (h : fig a = some n) : a < 128 ∧ n < 16 ∧ (n < 10 → a = 48 + n) := by
 unfold fig at h
 split at h
 ·cases h; omega
 ·split at h
  ·cases h; omega
  ·split at h
   ·cases h; omega
   ·cases h
theorem iqn {a b c : Nat} (h : sgO a b = some c) : a ∈ (Str.ofString "234567").cps.toList ∧ a < 128 ∧ b < 128 ∧ isSg c = true := by
 unfold sgO at h
 cases ha : fig a with
 | none => simp [ha] at h
 | some n =>
  cases hb : fig b with
  | none => simp [ha, hb] at h
  | some m =>
   simp only [ha, hb] at h
   split at h
   ·next hs =>
    cases h
    obtain ⟨a1, a2, a3⟩ := mqC ha
    obtain ⟨b1, b2, _⟩ := mqC hb
    have hr := hs
    simp only [isSg, Bool.and_eq_true, decide_eq_true_eq] at hr
    have e := a3 (by omega)
    refine ⟨?_, a1, b1, hs⟩
    have key : ∀ n, n < 8 → 2 ≤ n → 48 + n ∈ (Str.ofString "234567").cps.toList := by decide +kernel
    rw [e]
    exact key n (by omega) (by omega)
   ·cases h
section
variable {K : PySem.W.Frag} {H : Hp} {C p : Addr} {t : List Nat} {i : Nat}
theorem nqg {v u : V} : List.lookup (Str.ofString "text") [(Str.ofString "text", v), (Str.ofString "place", u)] = some v := by
 rw [List.lookup_cons, beq_self_eq_true]
theorem lqC {v u : V} : List.lookup (Str.ofString "place") [(Str.ofString "text", v), (Str.ofString "place", u)] = some u := by
 rw [List.lookup_cons, show (Str.ofString "place" == Str.ofString "text") = false by decide +kernel, List.lookup_cons, beq_self_eq_true]
theorem dqH {R : V → Prop} (h : Cur H C p t i) (cl : Cls K C) (n : NoAttr K C "text") (r : R (.str ⟨t.toArray⟩)) : ∃ a C dx fs v, p = a ∧ H a = some (.ins C dx fs) ∧ Cls K C ∧ NoAttr K C (Str.ofString "text") ∧ List.lookup (Str.ofString "text") fs = some v ∧ R v :=
 let ⟨dx, hp⟩ := h
 ⟨p, C, dx, _, _, rfl, hp, cl, n, nqg, r⟩
theorem aqI {R : V → Prop} (h : Cur H C p t i) (cl : Cls K C) (n : NoAttr K C "place") (r : R (.int (i : Int))) : ∃ a C dx fs v, p = a ∧ H a = some (.ins C dx fs) ∧ Cls K C ∧ NoAttr K C (Str.ofString "place") ∧ List.lookup (Str.ofString "place") fs = some v ∧ R v :=
 let ⟨dx, hp⟩ := h
 ⟨p, C, dx, _, _, rfl, hp, cl, n, lqC, r⟩
theorem kq7 {v u w : V} : putF (Str.ofString "place") w [(Str.ofString "text", v), (Str.ofString "place", u)] = [(Str.ofString "text", v), (Str.ofString "place", w)] := by
 have h : Str.ofString "text" ≠ Str.ofString "place" := by decide +kernel
 simp only [putF, if_neg h, if_true]
theorem iqk {N : Hp → Prop} {z : Int} (h : Cur H C p t i) (cl : Cls K C) (n : NoAttr K C "place") (j : Nat) (hz : z = (j : Int)) (hN : ∀ H', SameBut p H H' → Cur H' C p t j → N H') :
  ∃ a C dx fs, p = a ∧ H a = some (.ins C dx fs) ∧ Cls K C ∧ NoAttr K C (Str.ofString "place") ∧ fs.length < 1000 ∧ N (upd H a (.ins C dx (putF (Str.ofString "place") (.int z) fs))) := by
 obtain ⟨dx, hp⟩ := h
 refine ⟨p, C, dx, _, rfl, hp, cl, n, by show 2 < 1000; decide, ?_⟩
 rw [kq7, hz]
 exact hN _ gqm ⟨dx, aqr⟩
theorem nqa {m : Str} {v u : V} (h1 : (m == Str.ofString "text") = false) (h2 : (m == Str.ofString "place") = false) : List.lookup m [(Str.ofString "text", v), (Str.ofString "place", u)] = none := by
 rw [List.lookup_cons, h1, List.lookup_cons, h2]; rfl
theorem aqF {R : Prop} {m : Str} (h : Cur H C p t i) (r : R) (h1 : (m == Str.ofString "text") = false := by decide +kernel) (h2 : (m == Str.ofString "place") = false := by decide +kernel) :
  ∃ a dx fs, p = a ∧ H a = some (.ins C dx fs) ∧ List.lookup m fs = none ∧ R :=
 let ⟨dx, hp⟩ := h
 ⟨p, dx, _, rfl, hp, nqa h1 h2, r⟩
theorem Cur.same {H' : Hp} (h : Cur H C p t i) (s : Same H H') : Cur H' C p t i := let ⟨dx, hp⟩ := h; ⟨dx, s _ _ hp⟩
end
def plS : List Nat := (Str.ofString "abcdefghijklmnopqrstuvwxyzABCDEFGHIJKLMNOPQRSTUVWXYZ0123456789-_.").cps.toList
theorem kqI : plS.length = 65 := by decide +kernel
theorem mqO {c : Nat} (h : c < 128) : (c ∈ plS) ↔ isPl c = true := by
 have := lqx c h
 rw [← this, decide_eq_true_eq]
 exact Iff.rfl
def seesB (t sg : List Nat) (i : Nat) : Bool := ((t[i]?).map fun c => decide (c ∈ sg)).getD false
theorem dqu {t sg : List Nat} {i c : Nat} (h : t[i]? = some c) : seesB t sg i = decide (c ∈ sg) := by unfold seesB; rw [h]; rfl
theorem dqr {t sg : List Nat} {i : Nat} (h : t[i]? = none) : seesB t sg i = false := by unfold seesB; rw [h]; rfl
theorem gqa {t w : List Nat} {i c : Nat} (h : t.drop i = c :: w) : t[i]? = some c ∧ i < t.length := by
 have e : t[i]? = some c := by rw [← List.head?_drop, h]; rfl
 exact ⟨e, (List.getElem?_eq_some_iff.mp e).1⟩
theorem nq1 {fr s w : List Nat} (h : WrT fr s w) : s.length ≤ w.length := by
 induction h with
 | nil => exact Nat.le_refl _
 | self _ _ _ ih => simp only [List.length_cons]; omega
 | pair _ _ ih => simp only [List.length_cons]; omega
def frS : List Nat := (Str.ofString "!$'()*,;@&=+").cps.toList
def frQ : List Nat := (Str.ofString "!$'()*,;@+/?:").cps.toList
def frM : List Nat := (Str.ofString "!$'()*,;@&=+/?:").cps.toList
theorem iqK : frS.length ≤ 100 := by decide +kernel
theorem iqU : frQ.length ≤ 100 := by decide +kernel
theorem nqB : frM.length ≤ 100 := by decide +kernel
theorem dq1 {fr : List Nat} : Stops fr [] := fun c h => by cases h
theorem aqP {fr r : List Nat} {c : Nat} (h : isPl c = false ∧ c ∉ fr ∧ c ≠ 126) : Stops fr (c :: r) := fun d e => by cases e; exact h
def MarW (o : Option (List Nat)) (w : List Nat) : Prop := match o with
 | none => w = []
 | some s => ∃ v, w = 35 :: v ∧ WrT frM s v
def ValW (o : Option (List Nat)) (w : List Nat) : Prop := match o with
 | none => w = []
 | some s => ∃ v, w = 61 :: v ∧ WrT frQ s v
def HouW (o : Option (List Nat)) (w : List Nat) : Prop := match o with
 | none => w = []
 | some s => ∃ v, w = 47 :: 47 :: v ∧ WrT [] s v ∧ s ≠ [] ∧ s.length ≤ 60
inductive TlW : List (List Nat) → Bool → List Nat → Prop
 | stop : TlW [] false []
 | ends : TlW [] true [47]
 | more {s w : List Nat} {ss : List (List Nat)} {e : Bool} {v : List Nat} : WrT frS s w → s ≠ [] → TlW ss e v → TlW (s :: ss) e (47 :: (w ++ v))
inductive StpW : List (List Nat) → Bool → List Nat → Prop
 | none {e : Bool} : StpW [] e []
 | some {s w : List Nat} {ss : List (List Nat)} {e : Bool} {v : List Nat} : WrT frS s w → s ≠ [] → TlW ss e v → StpW (s :: ss) e (w ++ v)
theorem kqs : (47 : Nat) ∉ frS := by decide +kernel
theorem jqo {fr s w : List Nat} (h : WrT fr s w) (hs : s ≠ []) : ∃ c r, w = c :: r ∧ (isPl c = true ∨ c ∈ fr ∨ c = 126) := by
 cases h with
 | nil => exact absurd rfl hs
 | self a _ _ => exact ⟨_, _, rfl, a.elim .inl (fun z => .inr (.inl z))⟩
 | pair _ _ => exact ⟨_, _, rfl, .inr (.inr rfl)⟩
theorem iq3 {ss : List (List Nat)} {e : Bool} {v rest : List Nat} (h : TlW ss e v) (hr : Stops frS rest) : Stops frS (v ++ rest) := by
 cases h with
 | stop => exact hr
 | ends => exact aqP ⟨by decide, kqs, by decide⟩
 | more _ _ _ => exact aqP ⟨by decide, kqs, by decide⟩
theorem jqu {ss : List (List Nat)} {e : Bool} {v rest : List Nat} (h : StpW ss e v) (hr : rest.head? ≠ some 47) : (v ++ rest).head? ≠ some 47 := by
 cases h with
 | none => exact hr
 | some hw hs _ =>
  obtain ⟨c, r, rfl, hc⟩ := jqo hw hs
  intro z
  have e : c = 47 := Option.some.inj z
  subst e
  rcases hc with z | z | z
  ·cases z
  ·exact kqs z
  ·cases z
inductive PrsW : List (List Nat × Option (List Nat)) → List Nat → Prop
 | nil : PrsW [] []
 | cons {n w v : List Nat} {o : Option (List Nat)} {ps : List (List Nat × Option (List Nat))} {r : List Nat} : WrT frQ n w → n ≠ [] → ValW o v → PrsW ps r → PrsW ((n, o) :: ps) (38 :: (w ++ (v ++ r)))
def QueW (q : Option (List (List Nat × Option (List Nat)))) (w : List Nat) : Prop := match q with
 | none => w = []
 | some [] => w = [63]
 | some ((n, o) :: ps) => ∃ a v r, w = 63 :: (a ++ (v ++ r)) ∧ WrT frQ n a ∧ n ≠ [] ∧ ValW o v ∧ PrsW ps r
theorem kqz : (35 : Nat) ∉ frQ ∧ (38 : Nat) ∉ frQ ∧ (61 : Nat) ∉ frQ := by decide +kernel
theorem gqo {ps : List (List Nat × Option (List Nat))} {r rest : List Nat} (h : PrsW ps r) (hr : rest = [] ∨ ∃ x, rest = 35 :: x) : Stops frQ (r ++ rest) ∧ (r ++ rest).head? ≠ some 61 := by
 cases h with
 | nil =>
  rcases hr with rfl | ⟨x, rfl⟩
  ·exact ⟨dq1, by simp⟩
  ·exact ⟨aqP ⟨by decide, kqz.1, by decide⟩, by simp⟩
 | cons _ _ _ _ => exact ⟨aqP ⟨by decide, kqz.2.1, by decide⟩, by simp⟩
theorem hq0 {o : Option (List Nat)} {v r : List Nat} (h : ValW o v) (hr : Stops frQ r) : Stops frQ (v ++ r) := by
 cases o with
 | none =>
  have h : v = [] := h
  subst h
  exact hr
 | some s =>
  obtain ⟨x, rfl, _⟩ := h
  exact aqP ⟨by decide, kqz.2.2, by decide⟩
theorem Cur.toT {H H' : Hp} {C p : Addr} {t : List Nat} {i : Nat} (h : Cur H C p t i) (s : SameBut p H H') : SameT H H' := fun b xs e => s b _ (by
 obtain ⟨dx, hp⟩ := h
 exact pqb e hp (by intro z; cases z)) e
def pD (a : List Nat × Option (List Nat)) : PyData := .tuple [st a.1, oD a.2]
def PrL (H : Hp) (vs : List V) (dn : List (List Nat × Option (List Nat))) : Prop := vs.length = dn.length ∧ ∀ (i : Nat) (a : List Nat × Option (List Nat)) (y : V), dn[i]? = some a → vs[i]? = some y → IsT H (pD a) y
theorem PrL.mono {H H' : Hp} {vs : List V} {dn : List (List Nat × Option (List Nat))} (h : PrL H vs dn) (s : SameT H H') : PrL H' vs dn := ⟨h.1, fun i a y e1 e2 => (h.2 i a y e1 e2).mono s⟩
theorem PrL.snoc {H : Hp} {vs : List V} {dn : List (List Nat × Option (List Nat))} {a : List Nat × Option (List Nat)} {y : V} (h : PrL H vs dn) (hy : IsT H (pD a) y) : PrL H (vs ++ [y]) (dn ++ [a]) := by
 refine ⟨by simp [h.1], fun i b z e1 e2 => ?_⟩
 by_cases hi : i < dn.length
 ·rw [List.getElem?_append_left hi] at e1
  rw [List.getElem?_append_left (by rw [h.1]; exact hi)] at e2
  exact h.2 i b z e1 e2
 ·have := (List.getElem?_eq_some_iff.mp e1).1
  rw [List.length_append, List.length_singleton] at this
  have e : i = dn.length := by omega
  subst e
  rw [List.getElem?_append_right (Nat.le_refl _), Nat.sub_self] at e1
  rw [← h.1, List.getElem?_append_right (Nat.le_refl _), Nat.sub_self] at e2
  cases e1
  cases e2
  exact hy
theorem gq5 {H : Hp} {α : Type} {g : α → PyData} : ∀ {l : List α} {ys : List V}, ys.length = l.length → (∀ (i : Nat) (a : α) (y : V), l[i]? = some a → ys[i]? = some y → IsT H (g a) y) → IsTAll H (l.map g) ys
 | [], [], _, _ => .nil
 | [], _ :: _, h, _ => by simp at h
 | _ :: _, [], h, _ => by simp at h
 | a :: l, y :: ys, h, k => .cons (k 0 a y rfl rfl) (gq5 (by simpa using h) fun i b z e1 e2 => k (i + 1) b z (by simpa using e1) (by simpa using e2))
def fgS : List Nat := (Str.ofString "0123456789").cps.toList
theorem fqu {c : Nat} : c ∈ fgS ↔ 48 ≤ c ∧ c ≤ 57 := by
 rw [show fgS = [48, 49, 50, 51, 52, 53, 54, 55, 56, 57] by decide +kernel]
 simp only [List.mem_cons, List.not_mem_nil, or_false]
 omega
def valD (ds : List Nat) : Nat := ds.foldl (fun a c => a * 10 + (c - 48)) 0
theorem eqp (ds : List Nat) (c : Nat) : valD (ds ++ [c]) = valD ds * 10 + (c - 48) := by unfold valD; rw [List.foldl_append]; rfl
theorem kqe : ∀ (es ds : List Nat), valD ds ≤ valD (ds ++ es)
 | [], ds => by rw [List.append_nil]; exact Nat.le_refl _
 | c :: es, ds => by
  have h := kqe es (ds ++ [c])
  rw [eqp, List.append_assoc] at h
  exact Nat.le_trans (by omega) h
def DooW (o : Option Int) (w : List Nat) : Prop := match o with
 | none => w = []
 | some n => ∃ ds, w = 58 :: ds ∧ ds ≠ [] ∧ (∀ c ∈ ds, 48 ≤ c ∧ c ≤ 57) ∧ (valD ds : Int) = n ∧ valD ds ≤ 65535 ∧ (ds = [48] ∨ ds.head? ≠ some 48)
theorem iqX : ∀ c, c < 58 → 48 ≤ c → PySem.intText? ⟨#[c]⟩ = some (((c - 48 : Nat)) : Int) := by decide +kernel
theorem iqg {s r : List Nat} (h : ∀ c ∈ s, c ≠ 58) : ahead (s ++ 58 :: r) = s := by
 unfold ahead
 rw [List.takeWhile_append_of_pos (fun c hc => decide_eq_true (h c hc)), List.takeWhile_cons_of_neg (by simp), List.append_nil]
theorem iqm (t : List Nat) : ∃ r, t = ahead t ++ r := ⟨t.dropWhile fun c => decide (c ≠ 58), (List.takeWhile_append_dropWhile (p := fun c => decide (c ≠ 58))).symm⟩
theorem jqY (t : List Nat) : (ahead t).length ≤ t.length := by
 obtain ⟨r, h⟩ := iqm t
 have := congrArg List.length h
 rw [List.length_append] at this
 omega
theorem gq8 (t : List Nat) : t.take (ahead t ++ [58]).length = ahead t ++ [58] ↔ t[(ahead t).length]? = some 58 := by
 obtain ⟨r, h⟩ := iqm t
 generalize ahead t = a at h
 subst h
 rw [List.length_append, List.length_singleton, List.getElem?_append_right (Nat.le_refl _), Nat.sub_self, List.take_append]
 rw [List.take_of_length_le (by omega), show a.length + 1 - a.length = 1 by omega]
 constructor
 ·intro e
  have e := List.append_cancel_left e
  cases r with
  | nil => simp at e
  | cons c r => simp at e; rw [e]; rfl
 ·intro e
  cases r with
  | nil => simp at e
  | cons c r => simp at e; rw [e]; rfl
def schM (t : List Nat) : List Nat := if ahead t ≠ [] ∧ schD (.str ⟨(ahead t).toArray⟩) = true ∧ t[(ahead t).length]? = some 58 then ahead t else []
def schP (t : List Nat) : Nat := (schT (schM t)).length
theorem fqZ {t : List Nat} (h1 : ahead t ≠ []) (h2 : schD (.str ⟨(ahead t).toArray⟩) = true) (h3 : t[(ahead t).length]? = some 58) : schM t = ahead t ∧ schP t = (ahead t ++ [58]).length := by
 have e : schM t = ahead t := by unfold schM; rw [if_pos ⟨h1, h2, h3⟩]
 exact ⟨e, by unfold schP schT; rw [e, if_neg h1]⟩
theorem dq4 {t : List Nat} (h : ¬ (ahead t ≠ [] ∧ schD (.str ⟨(ahead t).toArray⟩) = true ∧ t[(ahead t).length]? = some 58)) : schM t = [] ∧ schP t = 0 := by
 have e : schM t = [] := by unfold schM; rw [if_neg h]
 exact ⟨e, by unfold schP schT; rw [e, if_pos rfl]; rfl⟩
end Wm
namespace L2
open PySem
end L2
namespace Wm
open PySem L2
def GoodsT (n : Nat) (H : Hp) (vs : List V) : Prop := ∀ v ∈ vs, ∃ x : Ad, (x.Wf ∧ x.Tiny ∧ x.steps.length ≤ n) ∧ IsT H x.data v
theorem GoodsT.cons {n : Nat} {H : Hp} {v : V} {vs : List V} {x : Ad} (h1 : x.Wf ∧ x.Tiny ∧ x.steps.length ≤ n) (h3 : IsT H x.data v) (h : GoodsT n H vs) : GoodsT n H (v :: vs) := fun u hu => by
 rcases List.mem_cons.mp hu with rfl | hu
 ·exact ⟨x, h1, h3⟩
 ·exact h u hu
theorem Ad.Tiny.local {x : Ad} (h : x.Tiny) : ({ x with scheme := [], house := none, door := none } : Ad).Tiny := ⟨h.stp, h.que, h.mar, fun l e => by cases e⟩
end Wm
namespace L2
open PySem
end L2
namespace Wm
open PySem L2
def PrW (p : List Nat × Option (List Nat)) (w : List Nat) : Prop := ∃ a v, w = a ++ v ∧ WrT frQ p.1 a ∧ ValW p.2 v
inductive PrWs : List (List Nat × Option (List Nat)) → List (List Nat) → Prop
 | nil : PrWs [] []
 | cons {p : List Nat × Option (List Nat)} {w : List Nat} {ps : List (List Nat × Option (List Nat))} {ws : List (List Nat)} : PrW p w → PrWs ps ws → PrWs (p :: ps) (w :: ws)
inductive StWs : List (List Nat) → List (List Nat) → Prop
 | nil : StWs [] []
 | cons {s w : List Nat} {ss ws : List (List Nat)} : WrT frS s w → StWs ss ws → StWs (s :: ss) (w :: ws)
end Wm
namespace L2
open PySem PySem.Spec PyProof.Rows
section
variable {X : Cx} {pins : List (Addr × Obj)} {σ : St} {H : Hp} {s : Shared} {h' : Heap}
end
def ItW (n : Nat) (ok : Hp → Prop) (pt : Nat → Hp → List V → Prop) : It :=
 ⟨fun i H => i < n ∧ ok H, fun i H x H' => ∃ T xs, x = .ref T ∧ H T = none ∧ H' = upd H T (.tup xs) ∧ pt i H xs, fun i H => i = n ∧ ok H⟩
section
variable {σ : St} {H : Hp} {D : Ends} {g : TG} {tb : TS}
end
section
variable {prog : Program} {w : World} {A : Around} {E : Value → Shared → Prop} {s : Shared}
end
section
variable {prog : Program} {w : World} {A : Around} {E : Value → Shared → Prop} {s : Shared}
end
def ItE (K : PySem.W.Frag) (a : Addr) (xs : List V) : It := ItW xs.length (fun H => SqT K H a xs) fun i _ ys => ∃ v, xs[i]? = some v ∧ ys = [.int (i : Int), v]
section
variable {X : Cx} {K : PySem.W.Frag} {elts : List Expr} {kk : Nat} {tpos : Pos}
def iEnum (K : PySem.W.Frag) (ta : TA) : TI := fun σ H R => ta σ H fun vs H1 => ∃ a xs, vs = [.ref a] ∧ SqT K H1 a xs ∧ R (ItE K a xs) H1
variable {σ : St} {H : Hp} {D : Ends} {g : TG} {tb : TS} {aa : TA}
theorem nqc : (tFor (iEnum K aa) g tb D σ H) = (aa σ H fun vs H1 => ∃ a xs, vs = [.ref a] ∧ SqT K H1 a xs ∧ LoopI (ItE K a xs) g tb D σ H1) := rfl
end
structure Zap (z TI TO i1 i2 l1 l2 : Addr) : Prop where
 a1 : TI ≠ z ∧ TO ≠ z ∧ i1 ≠ z ∧ i2 ≠ z ∧ l1 ≠ z ∧ l2 ≠ z
 a2 : TI ≠ TO ∧ TI ≠ i1 ∧ TI ≠ i2 ∧ TO ≠ i1 ∧ TO ≠ i2 ∧ i1 ≠ i2
 a3 : l1 ≠ TO ∧ l2 ≠ TO ∧ l1 ≠ i2 ∧ l2 ≠ i1
section
variable {prog : Program} {w : World} {A : Around} {E : Value → Shared → Prop} {s : Shared}
variable {z TI TO i1 i2 l1 l2 : Addr} {n1 n2 k : Nat} {P1 P2 : Nat → Value → Prop} {S1 S2 : Nat → Heap → Prop}
end
section
variable {prog : Program} {w : World} {A : Around} {E : Value → Shared → Prop} {s : Shared}
end
def ItZ (K : PySem.W.Frag) (a b : Addr) (xs ys : List V) : It := ItW (min xs.length ys.length) (fun H => SqT K H a xs ∧ SqT K H b ys) fun i _ vs => ∃ x y, xs[i]? = some x ∧ ys[i]? = some y ∧ vs = [x, y]
section
variable {X : Cx} {K : PySem.W.Frag} {elts : List Expr} {kk : Nat} {tpos : Pos}
def iZip (K : PySem.W.Frag) (ta : TA) : TI := fun σ H R => ta σ H fun vs H1 => ∃ a b xs ys, vs = [.ref a, .ref b] ∧ SqT K H1 a xs ∧ SqT K H1 b ys ∧ R (ItZ K a b xs ys) H1
variable {σ : St} {H : Hp} {D : Ends} {g : TG} {tb : TS} {aa : TA}
theorem nq2 : (tFor (iZip K aa) g tb D σ H) = (aa σ H fun vs H1 => ∃ a b xs ys, vs = [.ref a, .ref b] ∧ SqT K H1 a xs ∧ SqT K H1 b ys ∧ LoopI (ItZ K a b xs ys) g tb D σ H1) := rfl
variable {p : Addr} {fv : St} {tt : TT} {te : TE} {Q : VK} {H1 : Hp} {fr : List Nat}
theorem kq8 : (tComp2 K (iZip K aa) fr tt te σ H Q) = (aa σ H fun vs H1 => ∃ a b xs ys, vs = [.ref a, .ref b] ∧ SqT K H1 a xs ∧ SqT K H1 b ys ∧ ∀ p, H1 p = none → CompI2 K (ItZ K a b xs ys) p (frV σ fr) tt te Q H1) := rfl
end
section
variable {p : Addr} {fv : St} {tt : TT} {te : TE} {Q : VK} {H1 H : Hp} {fr : List Nat} {aa : TA} {σ : St}
theorem kqV : (tComp (iRng1 aa) fr tt te σ H Q) = (aa σ H fun vs H1 => ∃ j : Int, vs = [.int j] ∧ -(2 ^ 62) ≤ j ∧ j < 2 ^ 62 ∧ ∀ p, H1 p = none → CompI (Itr 0 j.toNat) p (frV σ fr) tt te Q H1) := rfl
end
section
variable {X : Cx}
def rDigit : V → List V → Hp → VK → Prop := fun x vs H Q => ∃ z, x = .str z ∧ vs = [] ∧ Q (.bl (Txt.isdigit z)) H
theorem mqy {z : Str} {H : Hp} {Q : VK} : rDigit (.str z) [] H Q ↔ Q (.bl (Txt.isdigit z)) H := ⟨fun ⟨_, e, _, q⟩ => by cases e; exact q, fun q => ⟨z, rfl, rfl, q⟩⟩
end
end L2
namespace L2
open PySem PySem.Spec PySem.W PyProof.Rows
def SameD (h h' : Heap) : Prop := ∀ (b : Nat) (o : Obj), h.objs[b]? = some o → ∃ o', h'.objs[b]? = some o' ∧ o'.dict = o.dict
theorem SameD.refl (h : Heap) : SameD h h := fun _ o e => ⟨o, e, rfl⟩
theorem SameD.trans {a b c : Heap} (x : SameD a b) (y : SameD b c) : SameD a c := fun d o e => by
 obtain ⟨o1, e1, q1⟩ := x d o e
 obtain ⟨o2, e2, q2⟩ := y d o1 e1
 exact ⟨o2, e2, q2.trans q1⟩
theorem SameD.push (h : Heap) (o : Obj) : SameD h (h.push o) := fun b u e => by
 refine ⟨u, ?_, rfl⟩
 have hb : b < h.objs.size := (Array.getElem?_eq_some_iff.mp e).1
 show (h.objs.push o)[b]? = some u
 rw [Array.getElem?_push, if_neg (Nat.ne_of_lt hb)]
 exact e
theorem SameD.upd (h : Heap) (a : Addr) {f : Obj → Obj} (hf : ∀ o, (f o).dict = o.dict) : SameD h (h.update a f) := fun b u e => by
 show ∃ o', (h.objs.modify a f)[b]? = some o' ∧ _
 rw [Array.getElem?_modify]
 by_cases q : a = b
 ·rw [if_pos q, e]; exact ⟨f u, rfl, hf u⟩
 ·rw [if_neg q, e]; exact ⟨u, rfl, rfl⟩
theorem SameD.get {h h' : Heap} (x : SameD h h') {b : Addr} {o o' : Obj} (e : h.get? b = some o) (e' : h'.get? b = some o') : o'.dict = o.dict := by
 obtain ⟨o1, q, r⟩ := x b o (Heap.get?_some_iff.mp e).1
 have := (Heap.get?_some_iff.mp e').1
 rw [q] at this
 cases this
 exact r
def kd {α : Type} : Sem α → Prop
 | .pure _ => True
 | .raise _ => False
 | .unsupported _ => True
 | .finish _ => True
 | .rule _ k => kd (k ())
 | .at _ k => kd (k ())
 | .load _ _ k => ∀ o, kd (k o)
 | .update _ _ f k => (∀ o, (f o).dict = o.dict) ∧ kd (k ())
 | .alloc _ k => ∀ a, kd (k a)
 | .loadIfAlive _ k => ∀ o, kd (k o)
 | .point _ k => kd (k ())
 | .register _ _ => True
 | .fresh k => ∀ t, kd (k t)
 | .ask k => ∀ t, kd (k t)
 | .choose _ _ k => ∀ t, kd (k t)
 | .os _ _ _ => False
 | .call _ _ _ _ _ => False
 | .handled _ k => ∀ t, kd (k t)
 | .newGen _ _ => False
 | .genState _ _ => False
 | .resume _ _ _ _ => False
 | .yield _ _ _ _ => True
 | .stack k => ∀ t, kd (k t)
 | .fork _ _ => True
 | .thread k => ∀ t, kd (k t)
 | .await _ _ _ _ _ => True
theorem aqU {α β : Type} {m : Sem α} {f : α → Sem β} (a : kd m) (b : ∀ x, kd (f x)) : kd (m >>= f) := by
 show kd (Sem.bind m f)
 induction m with
 | pure x => exact b x
 | raise _ => exact a.elim
 | unsupported _ => exact True.intro
 | finish _ => exact True.intro
 | rule _ k ih => exact ih () a
 | «at» _ k ih => exact ih () a
 | load _ _ k ih => exact fun o => ih o (a o)
 | update _ _ g k ih => exact ⟨a.1, ih () a.2⟩
 | alloc _ k ih => exact fun o => ih o (a o)
 | loadIfAlive _ k ih => exact fun o => ih o (a o)
 | point _ k ih => exact ih () a
 | register _ k ih => exact True.intro
 | fresh k ih => exact fun o => ih o (a o)
 | ask k ih => exact fun o => ih o (a o)
 | choose _ _ k ih => exact fun o => ih o (a o)
 | os _ _ k ih => exact a.elim
 | call _ _ _ _ k ih => exact a.elim
 | handled _ k ih => exact fun o => ih o (a o)
 | newGen _ k ih => exact a.elim
 | genState _ k ih => exact a.elim
 | resume _ _ _ k ih => exact a.elim
 | yield _ _ _ k ih => exact True.intro
 | stack k ih => exact fun o => ih o (a o)
 | fork _ k ih => exact True.intro
 | thread k ih => exact fun o => ih o (a o)
 | await _ _ _ _ k ih => exact True.intro
theorem qqy {α : Type} {M : Model} {Γ : PySem.Ctx} (t : Sem α) : ∀ {Q : α → Pos → Shared → Prop} {E : Value → Pos → Shared → Prop} {p : Pos} {s : Shared}, kd t → Sem.wp M Γ t Q E p s →
  Sem.wp M Γ t (fun a p' s' => Q a p' s' ∧ SameD s.heap s'.heap) (fun _ _ _ => False) p s := by
 induction t with
 | pure x => intro Q E p s _ h; exact ⟨h, .refl _⟩
 | raise _ => intro Q E p s a h; exact a.elim
 | unsupported _ => intro Q E p s _ h; exact h.elim
 | finish _ => intro Q E p s _ h; exact h.elim
 | rule _ k ih => intro Q E p s a h; exact ih () a h
 | «at» _ k ih => intro Q E p s a h; exact ih () a h
 | load _ _ k ih => intro Q E p s a h; obtain ⟨o, e, h⟩ := h; exact ⟨o, e, ih o (a o) h⟩
 | update x _ g k ih =>
  intro Q E p s a h
  obtain ⟨e, h⟩ := h
  exact ⟨e, Sem.wp_mono M Γ (k ()) (fun _ _ _ z => ⟨z.1, (SameD.upd _ _ a.1).trans z.2⟩) (fun _ _ _ z => z) _ _ (ih () a.2 h)⟩
 | alloc o k ih => intro Q E p s a h; exact Sem.wp_mono M Γ (k _) (fun _ _ _ z => ⟨z.1, (SameD.push _ _).trans z.2⟩) (fun _ _ _ z => z) _ _ (ih _ (a _) h)
 | loadIfAlive _ k ih => intro Q E p s a h; exact ih _ (a _) h
 | point _ k ih => intro Q E p s a h; exact ih () a h
 | register _ k ih => intro Q E p s _ h; exact h.elim
 | fresh k ih => intro Q E p s a h; exact ih _ (a _) h
 | ask k ih => intro Q E p s a h; exact ih _ (a _) h
 | choose _ _ k ih => intro Q E p s a h; exact ⟨h.1, ih _ (a _) h.2⟩
 | os _ _ k ih => intro Q E p s a h; exact a.elim
 | call _ _ _ _ k ih => intro Q E p s a h; exact a.elim
 | handled _ k ih => intro Q E p s a h; exact ih _ (a _) h
 | newGen _ k ih => intro Q E p s a h; exact a.elim
 | genState _ k ih => intro Q E p s a h; exact a.elim
 | resume _ _ _ k ih => intro Q E p s a h; exact a.elim
 | yield _ _ _ k ih => intro Q E p s a h; exact h.elim
 | stack k ih => intro Q E p s a h; exact ih _ (a _) h
 | fork _ k ih => intro Q E p s a h; exact h.elim
 | thread k ih => intro Q E p s a h; exact ih _ (a _) h
 | await _ _ _ _ k ih => intro Q E p s a h; exact h.elim
theorem fqd {α : Type} {M : Model} {A : Around} {t : Sem α} {Q : α → Shared → Prop} {E : Value → Shared → Prop} {s : Shared} (k : kd t) (h : wpAny M A t Q E s) : wpAny M A t (fun a s' => Q a s' ∧ SameD s.heap s'.heap) (fun _ _ => False) s :=
 fun Γ p hΓ => qqy t k (h Γ p hΓ)
theorem iqZ (v : Value) : kd (fieldsOf v) := by
 cases v <;> first | exact True.intro | (refine aqU (fun _ => True.intro) fun o => ?_; split <;> exact True.intro)
theorem fqW (v : Value) (i : Nat) : kd (field v i) := by
 refine aqU (iqZ v) fun x => ?_
 split <;> exact True.intro
theorem eqI (v : Value) (i : Nat) (x : Value) : kd (setField v i x) := by
 cases v <;> first | exact True.intro | skip
 refine aqU (fun _ => True.intro) fun o => ?_
 split
 ·split
  ·refine ⟨fun o => ?_, True.intro⟩
   unfold Obj.mapFields
   first | rfl | (split <;> rfl) | (cases o; rename_i d _; cases d <;> rfl)
  ·exact True.intro
 ·exact True.intro
theorem dq9 (e : Value) (f : Option Addr) : kd (setFlight e f) := by
 refine aqU (fqW e 1) fun tb => ?_
 try dsimp only
 split
 ·exact eqI _ _ _
 ·exact True.intro
theorem eqB : ∀ l : List Env, kd (readyFrames l)
 | [] => True.intro
 | env :: outer => by
  unfold readyFrames
  split
  ·refine aqU (fun _ => True.intro) fun o => ?_
   try dsimp only
   split
   ·exact True.intro
   ·refine aqU ?_ fun im => ?_
    ·unfold behindIsImport
     try dsimp only
     split
     ·exact True.intro
     ·split
      ·exact True.intro
      ·exact aqU (fqW _ _) fun _ => True.intro
    ·refine aqU ?_ fun bk => ?_
     ·unfold keptBack
      split
      ·split
       ·exact True.intro
       ·exact aqU (aqU (fun _ => True.intro) fun _ => True.intro) fun _ => by split <;> exact True.intro
      ·exact True.intro
     ·exact aqU ⟨fun _ => rfl, True.intro⟩ fun _ => eqB outer
  ·exact True.intro
theorem jqP (env : Env) : kd (PySem.frameOf env) := by
 unfold PySem.frameOf
 refine aqU (aqU (fun _ => True.intro) fun _ => True.intro) fun l => aqU ?_ fun r => ?_
 ·unfold frameObject
  split
  ·exact True.intro
  ·exact aqU (eqB _) fun _ => True.intro
 ·split <;> exact True.intro
theorem iql (ty : String) (vs : List Value) : kd (newFields ty vs) := by
 unfold newFields newObj newObjAsIs
 try dsimp only
 split
 ·exact True.intro
 ·exact fun _ => True.intro
theorem fqC (e : Value) (env : Env) : kd (noteFrame e env) := by
 unfold noteFrame
 split
 ·refine aqU (fqW e 1) fun hd => ?_
  try dsimp only
  have rest : ∀ (x : Unit) (f : Addr) (hd : Value), kd (do setField e 1 (← EntryCells.newEntry hd (← PySem.frameOf env) .none (rawInt f) .none (← entryPlaceOf f (hd != .none))) : Sem Unit) := fun _ f hd => by
   refine aqU (jqP env) fun _ => aqU ?_ fun _ => aqU ?_ fun _ => eqI _ _ _
   ·unfold entryPlaceOf
    refine aqU (fun _ => True.intro) fun acts => ?_
    split <;> exact True.intro
   ·unfold EntryCells.newEntry
    exact iql _ _
  split
  ·refine aqU (fqW _ _) fun g => ?_
   try dsimp only
   split
   ·exact True.intro
   ·exact aqU (eqI _ _ _) fun _ => rest () _ _
  ·exact rest () _ _
 ·exact True.intro
theorem gq4 (env : Env) (e : Value) : kd (leaving env e) := aqU (fqC e env) fun _ => dq9 e none
end L2
namespace L2
open PySem PySem.Spec PySem.W PySem.Calls PyProof.Rows PySem.Builtin PySem.Builtin.ObjectAttr
def errTail : List Value → Bool
 | .ref _ :: r => errTail r
 | l => l == vErr
theorem hqe (self : Value) : ∀ {l : List Value}, errTail l = true → refuseLoop self "__setattr__" l = pure ()
 | [], e => by cases e
 | v :: r, e => by
  cases v <;> first | (rw [refuseLoop_ref]; exact hqe self (by unfold errTail at e; exact e)) | (rw [show (_ :: r) = vErr from beq_iff_eq.mp e]; exact PySem.F.store_ValueError.passes self)
theorem kqu : ∀ {l : List Value}, errTail l = true → l.contains (.type "object") = true
 | [], e => by cases e
 | v :: r, e => by
  cases v <;> first | (rw [List.contains_cons, kqu (l := r) (by unfold errTail at e; exact e), Bool.or_true]) | (rw [show (_ :: r) = vErr from beq_iff_eq.mp e]; decide +kernel)
def overErr (K : Frag) (C : Addr) : Bool := (clsIn K C).any fun cd => errTail cd.mro
section
variable {prog : Program} {w : World} {A : Around} {E : Value → Shared → Prop} {s : Shared} {K : Frag} {x C : Addr} {name : Str} {v : Value} {ox : Obj} {od : Option Obj}
theorem nqh {tk : Tok} {R : Result → Shared → Prop} (X : K.In s.heap) (I : PySem.W.InstAt s.heap x ox C od) (hp : overErr K C = true) (ht : takerIn K C name = some none)
  (h : ∀ b, wpAny (model prog w) A.in1 (storeInOwnDict (.ref x) (.ref C) (.str name tk) name v b)
   (fun fin s' => match fin with | .done f => R (.ok f) s' | .again c' => c'.quiet = true ∧ codeAny (model prog w) A c' R s') (fun e s' => R (.error e) s') s) :
  codeAny (model prog w) A (.call (.builtin "object.__setattr__") ⟨[.ref x, .str name tk, v], []⟩) R s := by
 have SF := PySem.F.store_object
 obtain ⟨cd, hc, ho⟩ := any_some hp
 have ne : cd.mro.isEmpty = false := by cases q : cd.mro with | nil => rw [q] at ho; cases ho | cons _ _ => rfl
 have sub : Looks (model prog w) s.heap (isInstance (.ref x) (.type "object")) true := I.type.andThen (looks_mroIn X (by unfold mroIn; rw [hc, Option.bind_some, if_neg (by rw [ne]; decide), kqu ho]))
 refine codeAny_call_builtin SF.slot.plain SF.entry (@check_slot (model prog w) _ _ s "object.__setattr__" "object" "__setattr__" (.ref x) [.str name tk, v] [] _ SF.kind SF.split sub (SF.args (.ref x) (.str name tk) v) ?_)
 obtain ⟨attr, ha, hr⟩ := Option.bind_eq_some_iff.mp ht
 have hm : Looks (model prog w) s.heap (mroOf (.ref C)) cd.mro := (looks_clsIn X hc).andThen .now
 have L3 : Looks (model prog w) s.heap (storeTaker? attr) none := by
  cases attr with
  | none => exact .now
  | some a =>
   obtain ⟨b, hb, hbn⟩ := Option.map_eq_some_iff.mp hr
   refine (looks_takesIn X hb).andThen ?_
   cases b with
   | true => cases hbn
   | false => exact .now
 rw [osa_eq, refuse_eq]
 refine wpAny_bind (wpAny_bind (I.type.here (wpAny_bind (hm.here ?_))))
 rw [hqe _ ho]
 refine wpAny_pure (wpAny_bind (I.type.here (wpAny_bind ((looks_findIn X ha).here (wpAny_bind (L3.here ?_))))))
 exact h _
theorem nqW {Q : Unit → Shared → Prop} (X : K.In s.heap) (hx : s.heap.get? x = some ox) (hc : ox.cls = .ref C) (hd : ox.dict = none) (hn : notCls ox = true)
  (hs : findIn K (.ref C) "__setattr__" = some (some (.builtin "object.__setattr__"))) (hp : overErr K C = true) (ht : takerIn K C name = some none) (hh : hasDictIn K C = true)
  (h : ∀ h' tk, h'.get? x = some { ox with dict := some s.heap.objs.size } → h'.Ns1 s.heap.objs.size (fun y => if y = name then some v else none) → (∀ b o, b ≠ x → s.heap.get? b = some o → h'.get? b = some o) → Q () { s with heap := h', toks := tk }) :
  wpAny (model prog w) A (setAttr (.ref x) name v) Q E s := by
 have J : PySem.W.InstAt s.heap x ox C none := ⟨hx, hc, hn, by rw [hd]; exact True.intro⟩
 refine PySem.W.set_plain X J hs (nqh (s := { s with toks := s.toks + 1 }) X J hp ht fun b => ?_)
 obtain ⟨cd, hcd, hd'⟩ := any_some hh
 obtain ⟨oc, odi, oda, osl⟩ := ox
 dsimp only at hc hd
 subst hc hd
 refine wpAny_bind (wpAny_pure (wpAny_bind (wpAny_bind (wpAny_loadPart hx (wpAny_bind (Looks.here (s := { s with toks := s.toks + 1 }) (looks_clsIn X hcd) ?_))))))
 rw [hd']
 have nc : ∀ c, oda ≠ .cls c := fun c q => by subst q; cases hn
 have hx₁ : (s.heap.push { cls := .type "dict", data := .dict #[] }).get? x = some ⟨.ref C, none, oda, osl⟩ := Heap.get?_push_of_some _ hx
 have hxs : x ≠ s.heap.objs.size := Nat.ne_of_lt (Heap.lt_size hx)
 have hgd : ((s.heap.push { cls := .type "dict", data := .dict #[] }).update x fun o => { o with dict := some s.heap.objs.size }).get? s.heap.objs.size = some { cls := .type "dict", data := .dict #[] } :=
  (Heap.get?_update_ne _ _ _ _ hxs.symm).trans (Heap.get?_push_at rfl rfl)
 have hnd : ((s.heap.push { cls := .type "dict", data := .dict #[] }).update x fun o => { o with dict := some s.heap.objs.size }).Ns s.heap.objs.size (fun _ => none) :=
  ⟨_, #[], _, hgd, rfl, fun e he => absurd he (by simp), fun _ => rfl⟩
 have fin : wpAny (model prog w) A.in1 (storeInDict s.heap.objs.size (.str name (s.toks)) name v)
   (fun fin s' => match fin with | .done f => (match (Except.ok f : Result) with | .ok (.ret _) => Q () s' | .ok _ => False | .error e => E e s') | .again c' => c'.quiet = true ∧ codeAny (model prog w) A c' (fun r s' => match r with | .ok (.ret _) => Q () s' | .ok _ => False | .error e => E e s') s') (fun e s' => E e s')
   { s with heap := ((s.heap.push { cls := .type "dict", data := .dict #[] }).update x fun o => { o with dict := some s.heap.objs.size }), toks := s.toks + 1 } := by
  unfold storeInDict newKeyGuard
  refine wpAny_bind (wpAny_pure (wpAny_bind (wpAny_nsSet1 (s := { s with heap := ((s.heap.push { cls := .type "dict", data := .dict #[] }).update x fun o => { o with dict := some s.heap.objs.size }), toks := s.toks + 1 }) (Heap.Ns1.of_empty hnd) fun h' hn' hs' => ?_)))
  obtain ⟨oD, esD, epD, hoD, hdD, hcD⟩ := hn'.count (Within.cons name v Within.nil)
  refine wpAny_bind (wpAny_lookBehind hoD (by rw [hdD]; exact pastItsLine_dict (Nat.le_trans hcD (by rw [List.length_cons, List.length_nil, sizeLine_eq]; omega))) ?_)
  refine wpAny_pure (h h' _ ?_ hn' fun b o hb e => ?_)
  ·refine (hs'.2 x hxs).trans (Heap.get?_update_self _ hx₁ ?_)
   have hfr := (Heap.get?_some_iff.mp hx).2
   cases oda <;> first | rfl | exact hfr
  ·exact (hs'.2 b (Nat.ne_of_lt (Heap.lt_size e))).trans ((Heap.get?_update_ne _ _ _ _ hb).trans (Heap.get?_push_of_some _ e))
 cases oda <;> first | exact absurd rfl (nc _) | exact wpAny_bind (wpAny_alloc' (wpAny_bind (wpAny_update' hx₁ (wpAny_pure fin))))
end
end L2
namespace L2
open PySem PySem.Spec PySem.W PySem.Calls PyProof.Rows
def excInI (K : Frag) (C : Addr) (bmB : List Value) (newId : String) (fI : Addr) : Bool := match K.lookup C with
 | some o => (match o.data with
  | .cls cd => o.cls == .type "type" && cd.mro.head? == some (.ref C) && o.slots.size == 6 && o.slots[4]? == some (some (.builtin newId)) && !cd.hasDel && tailIn K bmB cd.mro.tail && nsOkIn K cd.ns && nsIn K cd.ns "__init__" == some (some (.ref fI))
  | _ => false)
 | _ => false
theorem mq9 {K : Frag} {h : Heap} {N : Addr} {m : Str → Option Value} {n : Str} {v : Value} (X : K.In h) (G : h.Ns N m) (e : nsIn K N n = some (some v)) : m n = some v := by
 obtain ⟨o, es, ep, ho, hd, _, hf⟩ := G
 unfold nsIn at e
 split at e
 ·next q =>
  have := X _ _ q
  rw [ho] at this
  cases this
  cases hd
  split at e
  ·next he =>
   cases e
   rw [← hf]
   unfold nsFind findBy
   rw [← Array.find?_toList, he]
   rfl
  ·split at e <;> cases e
 ·cases e
theorem excObjI {K : Frag} {h : Heap} {C fI : Addr} {bb : List Value} {nid : String} (kin : K.In h) (q : excInI K C bb nid fI = true) :
  ∃ tl N nm qn bs hd sn sub ab col dd k0 k1 k2 k3 k5, h.get? C = some (excClassObj nm qn C N bs tl hd sn sub ab col dd k0 k1 k2 k3 k5 nid) ∧ (∃ mN, h.Ns N mN ∧ mN "__init__" = some (.ref fI)) ∧ OwnTail h bb tl := by
 unfold excInI at q
 generalize lk : K.lookup C = r at q
 obtain _ | ⟨cl, dd, dat, ⟨sl⟩⟩ := r
 ·cases q
 cases dat <;> first | cases q | skip
 next cd =>
 simp only [beq_iff_eq, Bool.and_eq_true, Bool.not_eq_true'] at q
 obtain ⟨⟨⟨⟨⟨⟨⟨rfl, e0⟩, e1⟩, e2⟩, e3⟩, e4⟩, e5⟩, e6⟩ := q
 obtain ⟨nm, bs, mro, ns, qn, hd, sn, sub, ab, col, del⟩ := cd
 cases e3
 obtain _ | ⟨m0, tl⟩ := mro
 ·cases e0
 cases e0
 obtain _ | ⟨a0, _ | ⟨a1, _ | ⟨a2, _ | ⟨a3, _ | ⟨a4, _ | ⟨a5, _ | ⟨a6, l⟩⟩⟩⟩⟩⟩⟩ := sl <;> first | cases e1 | skip
 cases e2
 exact ⟨tl, ns, nm, qn, bs, hd, sn, sub, ab, col, dd, a0, a1, a2, a3, a5, kin _ _ lk, ⟨_, .of_isNs (isNs_of_in kin e5), mq9 kin (.of_isNs (isNs_of_in kin e5)) e6⟩, tail_of_in kin e4⟩
abbrev newExc (C t : Addr) : Obj := { cls := .ref C, data := .fields #[.ref t, .none, .none, .none, .bool false, .none] }
abbrev newTup (vs : List Value) : Obj := { cls := .type "tuple", data := .seq vs.toArray }
section
variable {prog : Program} {w : World} {A : Around} {E : Value → Shared → Prop} {h : Heap} {g : Array GenState} {d : Drawn} {t : Nat} {os : OsState}
variable {nm q : Str} {C N : Addr} {bs bm bmB : List Value} {hdct : Bool} {sn : List Str} {sub : List Value} {ab : Bool} {col : Option Bool} {dd : Option Addr} {k0 k1 k2 k3 k5 : Option Value} {B newId initId : String}
theorem gqP (F : ExcBaseFacts B newId initId bmB) (T : OwnTail h bmB bm) {mN : Str → Option Value} {rest : List Value} {fI : Addr} {oI : Obj} {Q : Fin → Shared → Prop}
  (hC : h.get? C = some (excClassObj nm q C N bs bm hdct sn sub ab col dd k0 k1 k2 k3 k5 newId)) (hn : h.Ns N mN) (hi : mN "__init__" = some (.ref fI))
  (hfI : h.get? fI = some oI) (hfc : oI.cls = .type "function")
  (hq : wpAny (model prog w) A (call (.ref fI) (.ref (h.objs.size + 1) :: rest)) (fun r s' => r = .none ∧ Q (.done (.ret (.ref (h.objs.size + 1)))) s') E ⟨(h.push (newTup rest)).push (newExc C h.objs.size), g, d, t, os⟩) (hrest : rest.length ≤ sizeLine) :
  wpAny (model prog w) A (Builtin.«type.__call__» ⟨.ref C :: rest, []⟩) Q E ⟨h, g, d, t, os⟩ := by
 repeat (first | with_reducible refine wpAny_loadPart_at hC ?_ | with_reducible refine wpAny_madeBy_exc hC ?_ | wp_step)
 refine codeAny_call_builtin_code (Code.quiet_builtin _ F.quiet) (wpAny_check_new_subU F F.hasB T hC ?_)
 refine codeAny_exc_new_subU F F.hasB F T hC ?_ hrest
 show wpAny _ _ _ _ _ _
 have kp : ∀ b o, h.get? b = some o → ((h.push (newTup rest)).push (newExc C h.objs.size)).get? b = some o := fun b o e => Heap.get?_push_of_some _ (Heap.get?_push_of_some _ e)
 have hC₁ := kp _ _ hC
 have hfI₁ := kp _ _ hfI
 have hn₁ : ((h.push (newTup rest)).push (newExc C h.objs.size)).Ns N mN := hn.keeps kp
 have hget : ((h.push (newTup rest)).push (newExc C h.objs.size)).get? (h.objs.size + 1) = some (newExc C h.objs.size) := by heap_get
 have hcC : (Value.ref C :: bm).contains (.ref C) = true := by simp
 have T₁ := T.keeps kp
 unfold isInstance
 repeat (first | with_reducible refine wpAny_loadPart_at hget ?_ | (with_reducible refine wpAny_isSubtype_exc hC₁ ?_; rw [hcC]) | wp_step)
 show wpAny _ _ (typeLookup (.ref C) _) _ _ _
 refine wpAny_typeLookup_tail hC₁ hn₁ T₁ F.mroIs F.init.lookup ?_
 rw [hi]
 refine wpAny_holding (wpAny_bind ?_)
 unfold bindSpecial
 refine wpAny_bind (wpAny_typeOf (T := "function") ⟨_, hfI₁, hfc⟩ ?_)
 rw [if_pos (by decide)]
 refine wpAny_pure (wpAny_bind (wpAny_mono hq (fun r s' hr => ?_) fun _ _ x => x))
 obtain ⟨rfl, hQ⟩ := hr
 wp_walk
 exact hQ
theorem kqq (F : ExcBaseFacts B newId initId bmB) (T : OwnTail h bmB bm) {mN : Str → Option Value} {rest : List Value} {fI : Addr} {oI : Obj} {Q : Value → Shared → Prop}
  (hC : h.get? C = some (excClassObj nm q C N bs bm hdct sn sub ab col dd k0 k1 k2 k3 k5 newId)) (hn : h.Ns N mN) (hi : mN "__init__" = some (.ref fI))
  (hfI : h.get? fI = some oI) (hfc : oI.cls = .type "function")
  (hq : wpAny (model prog w) (A.under (.builtin "type.__call__" ⟨.ref C :: rest, []⟩)) (call (.ref fI) (.ref (h.objs.size + 1) :: rest)) (fun r s' => r = .none ∧ Q (.ref (h.objs.size + 1)) s') E ⟨(h.push (newTup rest)).push (newExc C h.objs.size), g, d, t, os⟩) (hrest : rest.length ≤ sizeLine) :
  wpAny (model prog w) A (call (.ref C) rest) Q E ⟨h, g, d, t, os⟩ := by
 have f1 := tc_lookup
 have f2 := tc_bind (.ref C)
 have hT : (⟨h, g, d, t, os⟩ : Shared).TypeIs (.ref C) "type" := ⟨_, hC, rfl⟩
 refine wpAny_call (codeAny_of_tree ?_)
 show wpAny _ _ (callAny (.ref C) _) _ _ _
 repeat (any_goals (first | assumption | with_reducible refine wpAny_loadPart_at hC ?_ | wp_step))
 refine ⟨rfl, ?_⟩
 exact codeAny_call_builtin_at (Code.quiet_builtin _ (by decide +kernel)) entry_typeCall (wpAny_check_type_call_sub hC (gqP (hrest := hrest) F T hC hn hi hfI hfc hq))
theorem hqC {M : Model} {s : Shared} {env : Env} {x : Sem Value} {Q : Flow → Shared → Prop} (hbase : bm.contains (.type "BaseException") = true) (hh : A.handled = none)
  (h : wpAny M A x (fun v s₁ => ∃ e t dx sl, v = .ref e ∧ s₁.heap.get? C = some (excClassObj nm q C N bs bm hdct sn sub ab col dd k0 k1 k2 k3 k5 newId) ∧
   s₁.heap.get? e = some ⟨.ref C, dx, .fields #[.ref t, .none, .none, .none, .bool false, .none], sl⟩ ∧ E (.ref e) s₁) E s) :
  wpAny M A (raiseStmt env (some x) none) Q E s := by
 have hcB : (Value.ref C :: bm).contains (.type "BaseException") = true := by rw [List.contains_cons, hbase, Bool.or_true]
 unfold raiseStmt
 refine wpAny_bind (wpAny_mono h (fun v s₁ h₁ => ?_) fun _ _ x => x)
 obtain ⟨e, t, dx, sl, rfl, hC, he, hE⟩ := h₁
 obtain ⟨hp, g, d, tk, os⟩ := s₁
 repeat (first | with_reducible refine wpAny_loadPart_at he ?_ | with_reducible refine wpAny_loadPart_at hC ?_ | (with_reducible refine wpAny_isSubtype_exc hC ?_; rw [hcB]) | wp_step)
 exact wpAny_raiseNew_none hh hE
end
def exNew (e C : Addr) : HO := .ext fun h => ∃ t sl, h.get? e = some ⟨.ref C, none, .fields #[.ref t, .none, .none, .none, .bool false, .none], sl⟩
def exSet (e C d : Addr) : HO := .ext fun h => ∃ t sl, h.get? e = some ⟨.ref C, some d, .fields #[.ref t, .none, .none, .none, .bool false, .none], sl⟩
def exC (a C : Addr) (d : Option Addr) : HO := .ext fun h => ∃ o, h.get? a = some o ∧ o.cls = .ref C ∧ (∀ x, d = some x → o.dict = some x) ∧ notCls o = true
structure ExSt (K : Frag) (C : Addr) (f : Str) : Prop where
 sa : findIn K (.ref C) "__setattr__" = some (some (.builtin "object.__setattr__"))
 po : overErr K C = true
 na : findIn K (.ref C) f = some none
 hd : hasDictIn K C = true
def sFldE (K : Frag) (ta tv : TE) (f : Str) : TS := fun D σ H => tv σ H fun y H1 => ta σ H1 fun x H2 => ∃ a C, x = .ref a ∧ H2 a = some (exNew a C) ∧ ExSt K C f ∧ ∀ d, H2 d = none → D.nx σ (upd (upd H2 a (exSet a C d)) d (.xd [(f, y)]))
section
variable {X : Cx} {ta tv : TE} {o value : Expr} {f : Str} {pos pos' : Pos}
theorem oqn (ha : PE X o ta) (hv : PE X value tv) (hs : swapsWith value (some (.Attribute o f pos')) pos.line X.env = pure false) : PS X (.Assign [.Attribute o f pos'] value pos) (sFldE X.K ta tv f) := by
 intro pins s σ H D I h
 refine plainObj_wpAny_Assign_Attribute (thn (hv pins s σ H _ I h) fun u s1 ⟨y, H1, I1, ry, q⟩ => thn (ha pins s1 σ H1 _ I1 q) fun ov s2 W' => ?_) hs
 obtain ⟨x, H2, I2, rx, a, C, ex, ea, c, q2⟩ := W'
 subst ex
 obtain rfl : ov = Value.ref a := rx
 obtain ⟨⟨t, sl, hx⟩, _, _⟩ := I2.hok a _ ea
 refine nqW I2.kIn hx rfl rfl rfl c.sa c.po (NoAttr.taker (show NoAttr X.K C f from c.na)) c.hd fun h' tk e1 e2 e3 => ?_
 have hd : H2 s2.heap.objs.size = none := I2.hok.fresh (Nat.le_refl _)
 have na : ∀ b u, H2 b = some u → u ≠ exNew a C → b ≠ a := fun b u q n z => by subst z; rw [ea] at q; exact n (Option.some.inj q).symm
 have nd : ∀ b u, s2.heap.get? b = some u → b ≠ s2.heap.objs.size := fun b u q => Nat.ne_of_lt (Heap.lt_size q)
 have nf : ∀ b, H2 b = none → b ≠ a := fun b q z => by subst z; rw [ea] at q; cases q
 have ndh : ∀ b u, H2 b = some u → b ≠ s2.heap.objs.size := fun b u q => aqn q hd
 refine ⟨σ, upd (upd H2 a (exSet a C s2.heap.objs.size)) s2.heap.objs.size (.xd [(f, y)]), I2.un (t' := tk) ⟨fun b ob q n _ _ => e3 b ob (nf b n) q, fun b ob q n _ _ => ⟨ob.slots, e3 b ob (nf b n) q⟩, fun b ob q n _ => ?_, fun b ob q _ => ?_, fun b xs q => ?_, fun b ob u q => ?_, fun b ps q => ?_⟩ (fun b u q => ?_), q2 _ hd⟩
 ·rw [aqm (nd b ob q), aqm (nf b n)]; exact n
 ·by_cases z : b = a
  ·subst z; exact ⟨_, e1⟩
  ·exact ⟨ob, e3 b ob z q⟩
 ·rw [aqm (ndh b _ q), aqm (na b _ q (by intro z; cases z))]; exact q
 ·rw [aqm (ndh b _ q), aqm (na b _ q (by intro z; cases z))]; exact q
 ·exact ⟨#[], by rw [aqm (ndh b _ q), aqm (na b _ q (by intro z; cases z)), Array.append_empty]; exact q⟩
 ·by_cases zd : b = s2.heap.objs.size
  ·subst zd
   rw [aqr] at q
   cases q
   refine ⟨_, e2, fun g => ?_⟩
   by_cases z : g = f
   ·subst z
    rw [if_pos rfl]
    simp only [List.lookup, beq_self_eq_true]
    exact ry
   ·rw [if_neg z]
    simp only [List.lookup, beq_eq_false_iff_ne.mpr z]
    exact True.intro
  ·rw [aqm zd] at q
   by_cases za : b = a
   ·subst za
    rw [aqr] at q
    cases q
    exact ⟨⟨t, sl, e1⟩, ⟨_, e1⟩, fun h1 h2 ⟨t, sl, z⟩ k => ⟨t, sl, k _ z⟩⟩
   ·rw [aqm za] at q
    refine (I2.hok b u q).stay (fun c v hc z => e3 c v ?_ z) (fun c z => ?_) fun c xs z => ?_
    ·rcases hc with rfl | hc
     ·exact za
     ·exact na c _ hc (by intro z; cases z)
    ·rw [aqm (ndh c _ z), aqm (na c _ z (by intro z; cases z))]; exact z
    ·rw [aqm (ndh c _ z), aqm (na c _ z (by intro z; cases z))]; exact z
theorem mqT {K : Frag} {D : Ends} {σ : St} {H : Hp} : (sFldE K ta tv f D σ H) = (tv σ H fun y H1 => ta σ H1 fun x H2 => ∃ a C, x = .ref a ∧ H2 a = some (exNew a C) ∧ ExSt K C f ∧ ∀ d, H2 d = none → D.nx σ (upd (upd H2 a (exSet a C d)) d (.xd [(f, y)]))) := rfl
end
def forget (H : Hp) (a : Addr) : Hp := fun b => if b = a then none else H b
theorem iqR {H : Hp} {a : Addr} : forget H a a = none := if_pos rfl
theorem bq3 {H : Hp} {a b : Addr} (h : b ≠ a) : forget H a b = H b := if_neg h
structure FlownN (P : Program) (w : World) (base : Heap) (outer : List Env) (H : Hp) (s : Shared) (a t C : Addr) (d : Option Addr) (B : Heap) (H' : Hp) (s' : Shared) : Prop where
 f : Flown P w base outer H s a t C B H' s'
 dc : ∀ x, d = some x → ∃ oe, s'.heap.get? a = some oe ∧ oe.dict = some x
def CXN (P : Program) (w : World) (base : Heap) : CXT := fun outer H s E e s' => ∃ (a t C : Addr) (d : Option Addr) (B : Heap) (H' : Hp), e = .ref a ∧ E (.ref C) d H' ∧ FlownN P w base outer H s a t C d B H' s'
theorem Inv.xe {X : Cx} {pins : List (Addr × Obj)} {σ : St} {H : Hp} {s : Shared} (y : Value → Shared → Prop) (I : Inv X pins σ H s) : Inv { X with xe := y } pins σ H s :=
 ⟨⟨I.ok.mod, I.ok.kind, I.ok.glob, I.ok.blt, I.ok.above, I.ok.inj, I.ok.has, I.ok.cab, I.ok.hd, I.ok.frames, I.ok.stk, I.ok.exf, I.ok.bs, I.ok.bsz, I.ok.noex, I.ok.exfs, I.ok.funs, I.ok.frf⟩, I.os, I.bare, I.base, I.loc, I.cell, I.free, I.freeC, I.pin, I.hok, I.len⟩
section
variable {P : Program} {w : World} {K : Frag} {mg : Str → Option Value} {base : Heap} {N : List Str} {qual : Str} {scope : Scope} {f : Addr} {cd : Value} {A : Around} {outer : List Env} {s : Shared} {H : Hp} {E : XK}
theorem aqD : Passes (CXN P w base) (cxOf (CXN P w base) P w K mg base N qual scope f cd A outer s H E) E := by
 intro pins σ H1 s1 e s2 I hq
 obtain ⟨a, t, C, d, B, H2, rfl, hE, W⟩ := hq
 have I' : Inv (cxOf (CXE P w base) P w K mg base N qual scope f cd A outer s H fun c _ H' => E c d H') pins σ H1 s1 := I.xe _
 have z := jq2 (E := fun c _ H' => E c d H') pins σ H1 s1 (.ref a) s2 I' ⟨a, t, C, B, H2, rfl, hE, W.f⟩
 refine wpAny_mono (fqd (gq4 _ _) z) (fun _ s3 W' => ?_) fun _ _ z => z.elim
 obtain ⟨⟨a', t', C', B', H', ea, hE', W'⟩, sd⟩ := W'
 cases ea
 refine ⟨a, t', C', d, B', H', rfl, hE', W', fun x hx => ?_⟩
 obtain ⟨oe, ho, hd⟩ := W.dc x hx
 obtain ⟨ob, hob, _⟩ := W'.fly.there
 exact ⟨ob, hob, (sd.get ho hob).trans hd⟩
def Raises1 (X : Cx) (E : XK) : Prop := ∀ (pins : List (Addr × Obj)) (σ : St) (H : Hp) (s : Shared) (a C d : Addr), Inv X pins σ H s → H a = some (exSet a C d) → X.s₀.heap.objs.size ≤ a → E (.ref C) (some d) (forget H a) → X.xe (.ref a) s
theorem cqR : Raises1 (cxOf (CXN P w base) P w K mg base N qual scope f cd A outer s H E) E := by
 intro pins σ H1 s1 e C d I ha hsz hE
 have hf : (envOfC qual scope s.heap.objs.size f cd).frame = some s.heap.objs.size := rfl
 have stk : s1.heap.FunFrames base (envOfC qual scope s.heap.objs.size f cd :: outer) := I.stack
 have stf : ∀ b ∈ frs (envOfC qual scope s.heap.objs.size f cd :: outer), H1 b = none := I.stkFree
 have ib : Un (frs outer) [] H H1 s.heap s1.heap := I.base
 obtain ⟨⟨t, sl, he⟩, _, _⟩ := I.hok e _ ha
 have hsz' : s.heap.objs.size ≤ e := hsz
 have nde : ∀ b o, s.heap.get? b = some o → b ≠ e := fun b o q => Nat.ne_of_lt (Nat.lt_of_lt_of_le (Heap.lt_size q) hsz')
 have ne : ∀ b o, s.heap.get? b = some o → b ∉ frs outer → b ∉ e :: frs (envOfC qual scope s.heap.objs.size f cd :: outer) := fun b o q n z => by
  rcases List.mem_cons.mp z with z | z
  ·exact nde b o q z
  ·rcases (eq0 hf).mp z with z | z
   ·exact absurd (Heap.lt_size q) (by rw [z]; exact Nat.lt_irrefl _)
   ·exact n z
 have eN : e ∉ frs (envOfC qual scope s.heap.objs.size f cd :: outer) := fun z => by rw [stf e z] at ha; cases ha
 show wpAny (model P w) (A.deeper (envOfC qual scope s.heap.objs.size f cd)) (leaving (envOfC qual scope s.heap.objs.size f cd) (.ref e)) _ _ _
 have kB : Heap.StaysIn (hideAll s1.heap (e :: frs (envOfC qual scope s.heap.objs.size f cd :: outer))) s1.heap := fun b o q => of_hideAll _ q
 refine wpAny_mono (fqd (gq4 _ _) (wpAny_leaving_firstW (E := fun _ _ => False) (Q := fun _ s3 => ∃ h', s3 = { s1 with heap := h' } ∧ Heap.LeftW (hideAll s1.heap (e :: frs (envOfC qual scope s.heap.objs.size f cd :: outer))) (envOfC qual scope s.heap.objs.size f cd :: outer) e (.ref C) (.ref t) s1.heap h')
  (base := hideAll s1.heap (e :: frs (envOfC qual scope s.heap.objs.size f cd :: outer))) (oe := ⟨.ref C, some d, .fields #[.ref t, .none, .none, .none, .bool false, .none], sl⟩) (a0 := .ref t) I.ok.frames
  (funFrames_hide stk fun env he b hb => List.mem_cons_of_mem _ (List.mem_filterMap.mpr ⟨env, he, hb⟩)) hf he kB (hideAll_none _ (.head _)) rfl rfl rfl fun h' L => ⟨h', rfl, L⟩)) (fun _ s3 ⟨⟨h2, es3, L⟩, sd⟩ => ?_) fun _ _ z => z.elim
 subst es3
 obtain ⟨x1, ⟨_, _, x2⟩, x3, x4⟩ := L
 have keepB : ∀ b o, s.heap.get? b = some o → H b = none → b ∉ frs outer → (hideAll s1.heap (e :: frs (envOfC qual scope s.heap.objs.size f cd :: outer))).get? b = some o := fun b o q n nf =>
  hideAll_get _ (ib.keep b o q n nf (by simp)) (ne b o q nf)
 have thB : ∀ b o, s.heap.get? b = some o → b ∉ frs outer → ∃ o', (hideAll s1.heap (e :: frs (envOfC qual scope s.heap.objs.size f cd :: outer))).get? b = some o' := fun b o q nf => by
  obtain ⟨o', z⟩ := ib.there b o q (by simp)
  exact ⟨o', hideAll_get _ z (ne b o q nf)⟩
 have slotF : ∀ b, b ∈ frs outer → ∀ o, s1.heap.get? b = some o → ∃ sl, h2.get? b = some { o with slots := sl } := fun b hb o q => by
  obtain ⟨_, o2, q2, nd⟩ := stk.mem ((eq0 hf).mpr (.inr hb))
  rw [q] at q2
  cases q2
  exact x4 b o q nd
 have fly : Heap.FlyingW (hideAll s1.heap (e :: frs (envOfC qual scope s.heap.objs.size f cd :: outer))) outer e (.ref C) (.ref t) h2 := ⟨x1, hideAll_none _ (.head _), x2, x3⟩
 have nee : ∀ b u, H1 b = some u → u ≠ exSet e C d → b ≠ e := fun b u q n z => by subst z; rw [ha] at q; exact n (Option.some.inj q).symm
 refine ⟨e, t, C, some d, _, forget H1 e, rfl, hE, ⟨I.os, I.bare, fun b o q => ?_, fly, fun a u q => ?_, ⟨fun b o q n nf _ => x1 b o (keepB b o q n nf), fun b o q n hb _ => ?_, fun b o q n hx => ?_, fun b o q _ => ?_, fun b xs q => ?_, fun b o u q => ?_, fun b ps q => ?_⟩, keepB, thB⟩, fun x hx => ?_⟩
 ·refine hideAll_get _ (I.bk b o q) fun z => ?_
  rcases List.mem_cons.mp z with z | z
  ·exact absurd (Nat.lt_of_lt_of_le (Heap.lt_size q) (Nat.le_trans I.ok.bsz hsz')) (by rw [z]; exact Nat.lt_irrefl _)
  ·rw [(stk.mem z).1] at q; cases q
 ·by_cases z : a = e
  ·subst z; rw [iqR] at q; cases q
  ·rw [bq3 z] at q
   refine (I.hok a u q).stay (fun b v hb y => hideAll_get _ y fun m => ?_) (fun b y => ?_) fun b xs y => ?_
   ·rcases List.mem_cons.mp m with m | m
    ·rcases hb with rfl | hb
     ·exact z m
     ·exact nee b _ hb (by intro y; cases y) m
    ·have := stf b m
     rcases hb with rfl | hb
     ·rw [q] at this; cases this
     ·rw [hb] at this; cases this
   ·rw [bq3 (nee b _ y (by intro y; cases y))]; exact y
   ·rw [bq3 (nee b _ y (by intro y; cases y))]; exact y
 ·obtain ⟨sl, z⟩ := ib.slot b o q n hb (by simp)
  obtain ⟨sl', z'⟩ := slotF b hb _ z
  exact ⟨sl', z'⟩
 ·rw [bq3 (nde b o q)]
  exact ib.free b o q n hx
 ·by_cases hb : b ∈ frs outer
  ·obtain ⟨o', z⟩ := ib.there b o q (by simp)
   obtain ⟨sl', z'⟩ := slotF b hb _ z
   exact ⟨_, z'⟩
  ·obtain ⟨o', z⟩ := thB b o q hb
   exact ⟨o', x1 b o' z⟩
 ·have z := ib.tups b xs q
  rw [bq3 (nee b _ z (by intro y; cases y))]; exact z
 ·have z := ib.frzs b o u q
  rw [bq3 (nee b _ z (by intro y; cases y))]; exact z
 ·obtain ⟨m, z⟩ := ib.tbls b ps q
  exact ⟨m, by rw [bq3 (nee b _ z (by intro y; cases y))]; exact z⟩
 ·cases hx
  obtain ⟨ob, hob, _⟩ := fly.there
  exact ⟨ob, hob, sd.get he hob⟩
end
structure Mk1 (K : Frag) (C f : Addr) : Prop where
 ex : excInI K C vErr vNew f = true
 fn : isFn K (.ref f) = true
 kp : keepIn K (.ref C) = true
def tRaise1 (E : XK) (C : Addr) (sp : Sp) (t : TA) : TS := fun _ σ H => t σ H fun vs H1 => ∀ a, H1 a = none → sp (.ref a :: vs) (upd H1 a (exNew a C)) (fun v H2 => v = .non ∧ ∃ d, H2 a = some (exSet a C d) ∧ E (.ref C) (some d) (forget H2 a)) E0
theorem kq9 {E : XK} {C : Addr} {sp : Sp} {t : TA} {D : Ends} {σ : St} {H : Hp} : (tRaise1 E C sp t D σ H) = (t σ H fun vs H1 => ∀ a, H1 a = none → sp (.ref a :: vs) (upd H1 a (exNew a C)) (fun v H2 => v = .non ∧ ∃ d, H2 a = some (exSet a C d) ∧ E (.ref C) (some d) (forget H2 a)) E0) := rfl
theorem dqp {X : Cx} {x : Str} {C f : Addr} {E : XK} {CX : CXT} {k : Nat} {fd : FuncData} {ps : List Str} {sp : Sp} {np cpos pos : Pos} {e : Expr} {t : TA}
  (hx : Raises1 X E) (hg : Gl X x) (hm : X.mg x = some (.ref C)) (M : Mk1 X.K C f) (F : FnOk X.prog X.w X.K X.mg X.base CX k f fd ps sp) (hr : Room (k + 1) X.A) (hb : Binds X.K fd ps []) (hps : ps.length = 2) (h0 : Passes CX X E0) (hcalm : X.calm = true) (ha : PA X [e] t)
  (hdb : (x == ("__debug__" : Str)) = false := by decide) (he : starEach [e] X.env = (false, eval e X.env) :: starEach [] X.env := by rfl) (hpl : (backTo cpos (starEach [] X.env)).any (·.1) = false := by rfl) :
  PS X (.Raise (some (.Call (.Name x np) [e] [] cpos)) none pos) (tRaise1 E C sp t) := by
 intro pins s σ H D I h
 obtain ⟨tl, N, nm, qn, bs, hd', sn, sub, ab, col, dd, k0, k1, k2, k3, k5, hC, ⟨mN, hN, hni⟩, T⟩ := excObjI I.ok.mod.kin M.ex
 obtain ⟨oI, hoI, hcI⟩ : ∃ oI, X.base.get? f = some oI ∧ oI.cls = .type "function" := by
  have z : typeIn X.K (.ref f) = some (.type "function") := beq_iff_eq.mp M.fn
  unfold typeIn at z
  obtain ⟨o, ho, hc⟩ := Option.map_eq_some_iff.mp z
  exact ⟨o, I.ok.mod.kin _ _ ho, hc⟩
 rw [arm_exec_Raise]
 have hbase := T.hasType PySem.F.excBase_ValueError.hasBase
 refine wpAny_bind (wpAny_standAt (hqC (C := C) (nm := nm) (q := qn) (N := N) (bs := bs) (bm := tl) (hdct := hd') (sn := sn) (sub := sub) (ab := ab) (col := col) (dd := dd) (k0 := k0) (k1 := k1) (k2 := k2) (k3 := k3) (k5 := k5) (newId := vNew) hbase (I.ok.hd hcalm) ?_))
 refine wpAny_bind (wpAny_mono (wpAny_Call_Name_kw (fqg I hg hm ?_ hdb)) (fun v s₃ h₃ => wpAny_bind (wpAny_standAt (wpAny_pure h₃))) fun _ _ x => x)
 refine callWith_K (h₀ := X.base) I.ok.mod.kin M.kp (thn (ha cpos pins s σ H _ I h) fun us s1 ⟨vs, H1, I1, r, q⟩ => ⟨I1.kIn, ?_⟩) he hpl
 rw [List.nil_append]
 obtain ⟨hh, g, dw, tk, os⟩ := s1
 have hlu : us.length ≤ sizeLine := by
  have z := F.len _ _ _ _ (q (hh.objs.size + 1) (I1.hok.fresh (Nat.le_succ _)))
  rw [List.length_cons, hps] at z
  rw [← r.length, sizeLine_eq]
  omega
 have kb : ∀ b o, X.base.get? b = some o → hh.get? b = some o := fun b o e => I1.bk b o e
 refine kqq PySem.F.excBase_ValueError (T.keeps kb) (kb _ _ hC) (hN.keeps kb) hni (kb _ _ hoI) hcI ?_ hlu
 have I2 : Inv X pins σ (upd H1 (hh.objs.size + 1) (exNew (hh.objs.size + 1) C)) ⟨(hh.push (newTup us)).push (newExc C hh.objs.size), g, dw, tk, os⟩ := by
  refine I1.laid (t' := tk) (fun b u e => Heap.get?_push_of_some _ (Heap.get?_push_of_some _ e)) (Nat.le_succ _) ?_
  have hg2 : ((hh.push (newTup us)).push (newExc C hh.objs.size)).get? (hh.objs.size + 1) = some (newExc C hh.objs.size) := by heap_get
  exact ⟨⟨_, _, hg2⟩, ⟨_, hg2⟩, fun h1 h2 ⟨t, sl, z⟩ k => ⟨t, sl, k _ z⟩⟩
 have q2 := q (hh.objs.size + 1) (I1.hok.fresh (Nat.le_succ _))
 have r2 : Vals (V.ref (hh.objs.size + 1) :: vs) (Value.ref (hh.objs.size + 1) :: us) := .cons rfl r
 have hl : (Value.ref (hh.objs.size + 1) :: us).length = ps.length := by rw [← r2.length]; exact F.len _ _ _ _ q2
 have hbb := hb ⟨(hh.push (newTup us)).push (newExc C hh.objs.size), g, dw, tk, os⟩ (Value.ref (hh.objs.size + 1) :: us) I2.kIn (by rw [List.append_nil]; exact hl)
 rw [List.append_nil] at hbb
 refine wpAny_call (codeAny_mono (F.run _ X.stack _ _ ⟨Value.ref (hh.objs.size + 1) :: us, []⟩ (Value.ref (hh.objs.size + 1) :: us) _ _ E0 (hr.make C us []) (I2.env0.make C us []) hbb r2 q2) fun r s' hq' => ?_)
 cases r with
 | error ev => exact h0 pins σ _ _ ev s' I2 hq'
 | ok fl =>
  cases fl with
  | ret u =>
   obtain ⟨v, H', I3, rv, ev, d, hd, hE⟩ := I2.after hq'
   subst ev
   obtain ⟨⟨t, sl, hx3⟩, _, _⟩ := I3.hok _ _ hd
   exact ⟨rv, _, t, some d, sl, rfl, I3.bk _ _ hC, hx3, hx pins σ H' s' _ C d I3 hd (Nat.le_trans I1.sz (Nat.le_succ _)) hE⟩
  | next => exact False.elim hq'
  | brk => exact False.elim hq'
  | cont => exact False.elim hq'
theorem Fun.okn {P : Program} {w : World} {K : Frag} {mg : Str → Option Value} {base : Heap} {x qual : Str} {st : Stmt} {f : Addr} {fd : FuncData} {N ps : List Str} {k : Nat} {sp : Sp} (F : Fun K x qual st f fd) (S : FnScope N ps (defScope st)) (len : ∀ vs H Q E, sp vs H Q E → vs.length = ps.length)
  (hbody : ∀ (cdv : Value) (A : Around) (outer : List Env) (s : Shared) (H : Hp) (vs : List V) (Q : VK) (E : XK), Room k (A.deeper (envOfC qual (defScope st) s.heap.objs.size f cdv)) → sp vs H Q E →
   ∃ t, PSs (cxOf (CXN P w base) P w K mg base N qual (defScope st) f cdv A outer s H E) (defBody st) t ∧ t { nx := fun _ H' => Q .non H', rt := Q } (start N vs) H) : FnOk P w K mg base (CXN P w base) (k + 1) f fd ps sp := by
 obtain ⟨oc, od, kV, doc, pm, an, cdv, ct, osl, rfl, lk, hcd⟩ := F.ex
 exact mqW lk hcd S len fun A outer s H vs Q E hr hsp => hbody cdv A outer s H vs Q E hr hsp
def TryB (X : Cx) (body : List Stmt) (t : XK → TS) : Prop := ∀ (pins : List (Addr × Obj)) (s : Shared) (σ : St) (H : Hp) (D : Ends) (Eh : XK), Inv X pins σ H s → t Eh D σ H →
 wpAny (model X.prog X.w) X.A (execs body X.env) (SP X pins D) (fun e s' => ∃ H1 s1, Inv X pins σ H1 s1 ∧ CXN X.prog X.w X.base X.stack H1 s1 Eh e s') s
def tTryCall (sp : Sp) (t : TA) : XK → TS := fun Eh D σ H => t σ H fun vs H1 => sp vs H1 (fun _ H2 => D.nx σ H2) Eh
theorem Inv.sharp {X : Cx} {pins : List (Addr × Obj)} {σ : St} {H : Hp} {s : Shared} {a : Addr} {φ ψ : Heap → Prop} (I : Inv X pins σ (upd H a (.ext φ)) s) (h : ψ s.heap) (st : ∀ h1 h2 : Heap, ψ h1 → (∀ o, h1.get? a = some o → h2.get? a = some o) → ψ h2) : Inv X pins σ (upd H a (.ext ψ)) s := by
 have e : upd H a (.ext φ) a = some (.ext φ) := aqr
 obtain ⟨_, ex, _⟩ := I.hok a _ e
 have := I.write (x := a) (e := a) (o := .ext ψ) (t' := s.toks) (h' := s.heap) (by rw [e]; exact True.intro) (.inl rfl) (fun b u _ q => q) ex ⟨h, ex, st⟩
 rwa [kqg] at this
def tTryN (K : Frag) (t : XK → TS) (W : Addr) (i : Nat) (tb : TS) : TS := fun D σ H => t (fun cls d H2 =>
 ∃ C, cls = .ref C ∧ subIn K (.ref C) (.ref W) = some true ∧ ∀ a, H2 a = none → tb { nx := fun σ' H' => D.nx (σ'.set i none) H', rt := D.rt } (σ.set i (some (.ref a))) (upd H2 a (exC a C d))) { nx := D.nx, rt := D.rt } σ H
theorem nqw {X : Cx} {W : Addr} {x n : Str} {np hpos pos : Pos} {body : List Stmt} {b₀ : Stmt} {suite : List Stmt} {t : XK → TS} {tb : TS} {i : Nat}
  (hb : TryB X body t) (hstk : X.stack = X.env :: X.outer) (hf : X.env.frame = some X.env.locals) (hgW : Gl X x) (hmW : X.mg x = some (.ref W)) (cw : Catch X.K W)
  (nd : X.N.Nodup) (hi : X.N[i]? = some n) (hl : X.env.scope.names.lookup n = some .local) (hbd : ∀ a, PSs (X.handling (.ref a)) (b₀ :: suite) tb) (hdW : (x == ("__debug__" : Str)) = false := by decide) :
  PS X (.Try body [.ExceptHandler (some (.Name x np)) (some n) (b₀ :: suite) hpos] [] [] pos) (tTryN X.K t W i tb) := by
 intro pins s σ H D I h
 refine wpAny_Try_except (wpAny_mono (hb pins s σ H _ _ I h) (fun fl s2 q => ?_) fun ev s2 ⟨H1, s1, I1, hq⟩ => ?_)
 ·cases fl with
  | next => exact wpAny_execs_nil q
  | ret u => exact q
  | brk => obtain ⟨_, _, _, q⟩ := q; exact q.elim
  | cont => obtain ⟨_, _, _, q⟩ := q; exact q.elim
 ·obtain ⟨a, tt, C, d, B, H2, rfl, ⟨C', ce, hsub, hq⟩, Wn⟩ := hq
  cases ce
  have hn : H2 a = none := Wn.f.new (h5 := s.heap) (a0 := .none)
  have fl : Heap.FlyingW B (X.env :: X.outer) a (.ref C) (.ref tt) s2.heap := hstk ▸ Wn.f.fly
  have fr : X.A.frames = some (X.env :: X.outer) := hstk ▸ I1.ok.frames
  refine wpAny_mono (fqd (fqC _ _) (wpAny_looks_onW (E := fun _ _ => False) (Q := fun _ s3 => ∃ h4, s3 = { s2 with heap := h4 } ∧ Heap.HeldW B (X.env :: X.outer) a (.ref C) (.ref tt) X.env.locals h4 ∧ s2.heap.UpToSlots h4) fr hf fl fun h4 held4 sm4 => ⟨h4, rfl, held4, sm4⟩)) (fun _ s3 W' => ?_) fun _ _ z => z.elim
  obtain ⟨⟨h4, e3, held4, sm4⟩, sd4⟩ := W'
  subst e3
  refine wpAny_mono (fqd (dq9 _ _) (wpAny_landsW (E := fun _ _ => False) (s := { s2 with heap := h4 }) (Q := fun _ s3 => ∃ h5, s3 = { s2 with heap := h5 } ∧ Heap.FlyingW B (X.env :: X.outer) a (.ref C) (.ref tt) h5 ∧ h4.UpToSlots h5) held4 fun h5 f5 sm5 => ⟨h5, rfl, f5, sm5⟩)) (fun _ s3 W' => ?_) fun _ _ z => z.elim
  obtain ⟨⟨h5, e3, f5, sm5⟩, sd5⟩ := W'
  subst e3
  have I5 := I1.caught Wn.f (hstk.symm ▸ f5) (sm4.trans sm5)
  refine wpAny_handleBy_cons (codeAny_handlers_test (fqg (X := X.handling (.ref a)) (I5.handling _) hgW hmW ?_ hdW)) (by intro q; cases q)
  obtain ⟨ob, hob, hoc⟩ := f5.there
  refine (iq1 I5.kIn hob hoc cw hsub) _ _ _ _ (fun b o q => q) ?_
  refine codeAny_handlers_suite_as ?_
  refine wpAny_mono (fqd (dq9 _ _) (lands_againW (E := fun _ _ => False) (s := { s2 with heap := h5 }) (Q := fun _ s3 => ∃ h6, s3 = { s2 with heap := h6 } ∧ Heap.FlyingW B (X.env :: X.outer) a (.ref C) (.ref tt) h6 ∧ h5.UpToSlots h6) f5 fun h6 f6 sm6 => ⟨h6, rfl, f6, sm6⟩)) (fun _ s3 W' => ?_) fun _ _ z => z.elim
  obtain ⟨⟨h6, e3, f6, sm6⟩, sd6⟩ := W'
  subst e3
  have I6' := I1.caught Wn.f (hstk.symm ▸ f6) ((sm4.trans sm5).trans sm6)
  obtain ⟨oe, vs6, ho6, hc6, hd6, _⟩ := f6.first
  have I6 : Inv X pins σ (upd H2 a (exC a C d)) { s2 with heap := h6 } := by
   refine I6'.sharp ⟨oe, ho6, hc6, fun y hy => ?_, by unfold notCls; rw [hd6]⟩ fun h1 h2 ⟨o, z, c⟩ k => ⟨o, k o z, c⟩
   obtain ⟨o2, z2, zd⟩ := Wn.dc y hy
   exact (((sd4.trans sd5).trans sd6).get z2 ho6).trans zd
  refine fq0 (X := X.handling (.ref a)) (i := i) (v := .ref a) (I6.handling _) nd hi (.inl hl) rfl (fun s7 I7 => ?_) (.inr hl)
  refine wpAny_mono (hbd a pins s7 _ _ _ I7 (hq a hn)) (fun fl s8 q8 => ?_) fun e s8 z => z.elim
  cases fl with
  | next =>
   obtain ⟨σ', H', I', q'⟩ := q8
   exact (Inv.handled I1.ok I').goes nd hi hl fun s9 I9 => ⟨_, _, I9, q'⟩
  | ret u =>
   obtain ⟨v, σ', H', I', rv, q'⟩ := q8
   exact (Inv.handled I1.ok I').goes nd hi hl fun s9 I9 => ⟨_, _, _, I9, rv, q'⟩
  | brk =>
   obtain ⟨_, _, _, q'⟩ := q8
   exact q'.elim
  | cont =>
   obtain ⟨_, _, _, q'⟩ := q8
   exact q'.elim
theorem nqs {K : Frag} {t : XK → TS} {W : Addr} {i : Nat} {tb : TS} {D : Ends} {σ : St} {H : Hp} : tTryN K t W i tb D σ H ↔ t (fun cls d H2 =>
 ∃ C, cls = .ref C ∧ subIn K (.ref C) (.ref W) = some true ∧ ∀ a, H2 a = none → tb { nx := fun σ' H' => D.nx (σ'.set i none) H', rt := D.rt } (σ.set i (some (.ref a))) (upd H2 a (exC a C d))) { nx := D.nx, rt := D.rt } σ H := Iff.rfl
theorem jqA {sp : Sp} {t : TA} {Eh : XK} {D : Ends} {σ : St} {H : Hp} : (tTryCall sp t Eh D σ H) = (t σ H fun vs H1 => sp vs H1 (fun _ H2 => D.nx σ H2) Eh) := rfl
def rIsX (K : Frag) : List V → Hp → VK → Prop := fun vs H Q => ∃ a c C d b, vs = [.ref a, c] ∧ H a = some (exC a C d) ∧ ExLook K C ∧ KitAns K H C c b ∧ Q (.bl b) H
theorem pq5 {K : Frag} {a : Addr} {c : V} {H : Hp} {Q : VK} : rIsX K [.ref a, c] H Q ↔ ∃ C d b, H a = some (exC a C d) ∧ ExLook K C ∧ KitAns K H C c b ∧ Q (.bl b) H :=
 ⟨fun ⟨_, _, C, d, b, e, h⟩ => by cases e; exact ⟨C, d, b, h⟩, fun ⟨C, d, b, h⟩ => ⟨a, c, C, d, b, rfl, h⟩⟩
end L2
namespace L2
open PySem PySem.Spec PySem.W PySem.Calls PyProof.Rows PySem.Builtin PySem.Builtin.ObjectAttr
section
variable {prog : Program} {w : World} {A : Around} {E : Value → Shared → Prop} {hh : Heap} {g : Array GenState} {dr : Drawn} {t : Nat} {os : OsState} {K : Frag} {a C : Addr} {o : Obj} {od : Option Obj} {name : Str} {v : Value}
theorem hqh {tk : Tok} {Q : Fin → Shared → Prop} (kin : K.In hh) (I : PySem.W.InstAt hh a o C od) (hf : findObj K C od name = some (.value v)) (hq : Q (.done (.ret v)) ⟨hh, g, dr, t, os⟩) :
  wpAny (model prog w) A (Builtin.«object.__getattribute__» ⟨[.ref a, .str name tk], []⟩) Q E ⟨hh, g, dr, t, os⟩ := by
 have L0 := I.type (M := model prog w)
 have L1 := looks_find (M := model prog w) kin I hf
 refine wpAny_bind (wpAny_pure (wpAny_bind (wpAny_pure (wpAny_bind (L0.at (wpAny_bind (L1.at ?_)))))))
 exact wpAny_pure hq
theorem jqK {tk : Tok} {n1 ex : Bool} {Q : Value → Shared → Prop} (kin : K.In hh) (I : PySem.W.InstAt hh a o C od) (hf : findObj K C od name = some (.value v)) (hv : handedIn v = true) (L : ExLook K C) (gb : Slot "ValueError" "__getattribute__" "BaseException.__getattribute__") (hq : Q v ⟨hh, g, dr, t, os⟩) :
  wpAny (model prog w) A (getAttrBy (.ref a) (.str name tk) n1 ex) Q E ⟨hh, g, dr, t, os⟩ := by
 have lt := jqe (M := model prog w) I.at_ I.cls; have lg := looks_findIn (M := model prog w) kin L.ga; have ln := looks_findIn (M := model prog w) kin L.na
 have f3 := gb.bind (.ref a)
 have y2 : (Value.builtin "BaseException.__getattribute__" == Value.builtin "object.__getattribute__") = false := by decide +kernel
 have y1 : (onTheHeap (Value.ref C) && Value.builtin "BaseException.__getattribute__" == Value.builtin "object.__getattribute__") = false := by rw [y2]; rfl
 have y0 : (ex && onTheHeap (Value.builtin "BaseException.__getattribute__")) = false := by cases ex <;> rfl
 repeat (any_goals (first | assumption | with_reducible refine Looks.at lt ?_ | with_reducible refine Looks.at lg ?_ | with_reducible refine Looks.at ln ?_ | rw [y0] | wp_step))
 refine codeAny_call_builtin gb.plain PySem.F.entry_bexc_ga (iqD kin I.at_ I.cls L (hqh kin I hf ?_))
 have hz := handedOut_of hv
 repeat (any_goals (first | assumption | rw [hz] | wp_step))
end
structure ExFld (K : Frag) (C : Addr) (f : Str) : Prop where
 look : ExLook K C
 na : findIn K (.ref C) f = some none
 hd : hasDictIn K C = true
def tFldE (K : Frag) (te : TE) (f : Str) : TE := fun σ H Q => te σ H fun x H1 => ∃ a C d fs v, x = .ref a ∧ H1 a = some (exC a C (some d)) ∧ H1 d = some (.xd fs) ∧ ExFld K C f ∧ fs.lookup f = some v ∧ Q v H1
theorem oqp {K : Frag} {te : TE} {f : Str} {σ : St} {H : Hp} {Q : VK} : (tFldE K te f σ H Q) = (te σ H fun x H1 => ∃ a C d fs v, x = .ref a ∧ H1 a = some (exC a C (some d)) ∧ H1 d = some (.xd fs) ∧ ExFld K C f ∧ fs.lookup f = some v ∧ Q v H1) := rfl
theorem nqe {X : Cx} {e : Expr} {f : Str} {pos : Pos} {te : TE} (he : PE X e te) (hb : attributeBase e f X.env (eval e X.env) = eval e X.env) : PE X (.Attribute e f pos) (tFldE X.K te f) := by
 intro pins s σ H Q I h
 refine kqR hb (thn (he pins s σ H _ I h) fun u s1 W' => ?_)
 obtain ⟨x, H1, I1, rx, a, C, d, fs, v, ex, ea, ed, c, l, q⟩ := W'
 subst ex
 obtain rfl : u = Value.ref a := rx
 obtain ⟨⟨o, ho, hc, hdc, hnc⟩, _, _⟩ := I1.hok a _ ea
 obtain ⟨mA, hN, hR⟩ := I1.hok d _ ed
 obtain ⟨od, hod, hl⟩ := hqY hN
 have dd := hdc d rfl
 have J : PySem.W.InstAt s1.heap a o C (some od) := ⟨ho, hc, hnc, by rw [dd]; exact hod⟩
 obtain ⟨v', hv', rv⟩ := RelO.some_of (v := v) (o := mA f) (by rw [← l]; exact hR f)
 have K1 := I1.kIn
 have fo : findObj X.K C (some od) f = some (.value v') := findObj_own c.hd c.na rfl (by rw [hl, hv'])
 have I2 := I1.tok (s1.toks + 1)
 obtain ⟨hh, g, dr, tk, os⟩ := s1
 unfold getAttr
 refine wpAny_bind (wpAny_mkText ?_)
 refine jqK K1 J fo (iqo rv) c.look PySem.F.attrBase_ValueError.ga ?_
 exact ⟨v, H1, I2, rv, q⟩
end L2
namespace L2
open PySem PySem.Spec PySem.W PySem.Calls PyProof.Rows
theorem FunD.okn {P : Program} {w : World} {K : Frag} {mg : Str → Option Value} {base : Heap} {x qual : Str} {st : Stmt} {f T : Addr} {fd : FuncData} {N ps : List Str} {k : Nat} {sp : Sp} (F : FunD K x qual st f fd T) (S : FnScope N ps (defScope st)) (len : ∀ vs H Q E, sp vs H Q E → vs.length = ps.length)
  (hbody : ∀ (cdv : Value) (A : Around) (outer : List Env) (s : Shared) (H : Hp) (vs : List V) (Q : VK) (E : XK), Room k (A.deeper (envOfC qual (defScope st) s.heap.objs.size f cdv)) → sp vs H Q E →
   ∃ t, PSs (cxOf (CXN P w base) P w K mg base N qual (defScope st) f cdv A outer s H E) (defBody st) t ∧ t { nx := fun _ H' => Q .non H', rt := Q } (start N vs) H) : FnOk P w K mg base (CXN P w base) (k + 1) f fd ps sp := by
 obtain ⟨oc, od, kV, doc, pm, an, cdv, ct, osl, rfl, lk, hcd⟩ := F.ex
 exact mqW lk hcd S len fun A outer s H vs Q E hr hsp => hbody cdv A outer s H vs Q E hr hsp
section
variable {P : Program} {w : World} {K : Frag} {mg : Str → Option Value} {base : Heap} {j k : Nat} {A : Around} {outer : List Env} {s : Shared} {H : Hp} {E : XK}
structure RoomU (k : Nat) (A : Around) : Prop where
 dp : A.depth + 3 * k + 5 < recursionLimit
 un : A.units + 16 * k + 200 < cLine
structure FnU (P : Program) (w : World) (K : Frag) (mg : Str → Option Value) (base : Heap) (k : Nat) (f : Addr) (fd : FuncData) (ps : List Str) (sp : Sp) : Prop where
 len : ∀ vs H Q E, sp vs H Q E → vs.length = ps.length
 go : ∀ (A : Around) (outer : List Env) (s : Shared) (H : Hp) (args : Args) (us : List Value) (vs : List V) (Q : VK) (E : XK), RoomU k A → Env0 P w K mg base A outer s H → BindsTo s fd args (ps.zip us) → Vals vs us → sp vs H Q E →
  codeAny (model P w) A (.call (.ref f) args) (CR CX0 outer P w H s Q E) s
end
section
variable {X : Cx}
def tTryIf (tc : TT) (ta tb : XK → TS) : XK → TS := fun Eh D σ H => tc σ H fun b H1 => if b = true then ta Eh D σ H1 else tb Eh D σ H1
theorem lq1 {tc : TT} {ta tb : XK → TS} {Eh : XK} {D : Ends} {σ : St} {H : Hp} : (tTryIf tc ta tb Eh D σ H) = (tc σ H fun b H1 => if b = true then ta Eh D σ H1 else tb Eh D σ H1) := rfl
def TryE (X : Cx) (e : Expr) (t : XK → TE) : Prop := ∀ (pins : List (Addr × Obj)) (s : Shared) (σ : St) (H : Hp) (Q : VK) (Eh : XK), Inv X pins σ H s → t Eh σ H Q →
 wpAny (model X.prog X.w) X.A (eval e X.env) (EP X pins σ Q) (fun e s' => ∃ H1 s1, Inv X pins σ H1 s1 ∧ CXN X.prog X.w X.base X.stack H1 s1 Eh e s') s
def tTryE (sp : Sp) (t : TA) : XK → TE := fun Eh σ H Q => t σ H fun vs H1 => sp vs H1 Q Eh
theorem lqa {k : Nat} {f : Addr} {fd : FuncData} {ps : List Str} {sp : Sp} {fx : Str} {p cpos : Pos} {e : Expr} {es : List Expr} {t : TA}
  (F : FnOk X.prog X.w X.K X.mg X.base (CXN X.prog X.w X.base) k f fd ps sp) (hr : Room k X.A) (hg : Gl X fx) (hm : X.mg fx = some (.ref f)) (hk : keepIn X.K (.ref f) = true) (hb : Binds X.K fd ps []) (ha : PA X (e :: es) t)
  (hx0 : ∀ e s, X.xe e s → False)
  (hdb : (fx == ("__debug__" : Str)) = false := by decide)
  (he : starEach (e :: es) X.env = (false, eval e X.env) :: starEach es X.env := by rfl) (hpl : (backTo cpos (starEach es X.env)).any (·.1) = false := by rfl) :
  TryE X (.Call (.Name fx p) (e :: es) [] cpos) (tTryE sp t) := by
 intro pins s σ H Q Eh I h
 refine wpAny_Call_Name_kw (fqg I hg hm ?_ hdb)
 refine callWith_K (h₀ := X.base) I.ok.mod.kin hk (wpAny_mono (ha cpos pins s σ H _ I h) (fun us s1 ⟨vs, H1, I1, r, q⟩ => ⟨I1.kIn, ?_⟩) fun e s1 z => (hx0 e s1 z).elim) he hpl
 have hlen : (us ++ []).length = ps.length := by rw [List.append_nil, ← r.length]; exact F.len _ _ _ _ q
 have hbb := hb s1 us I1.kIn hlen
 rw [List.append_nil] at hbb
 refine wpAny_call (codeAny_mono (F.run X.A X.stack s1 H1 ⟨us, []⟩ us vs _ _ hr I1.env0 hbb r q) fun r s2 hq => ?_)
 cases r with
 | ok fl =>
  cases fl with
  | ret u => exact I1.after hq
  | next => exact False.elim hq
  | brk => exact False.elim hq
  | cont => exact False.elim hq
 | error ev => exact ⟨H1, s1, I1, hq⟩
def tTryP (ta : TE) (te : XK → TE) : XK → TE := fun Eh σ H Q => ta σ H fun x H1 => te Eh σ H1 fun y H2 => ∀ p H', H2 p = none → Same H2 H' → H' p = some (.tup [x, y]) → Q (.ref p) H'
theorem lqb {a e : Expr} {ta : TE} {te : XK → TE} {x1} {pos : Pos} (ha : PE X a ta) (he : TryE X e te) (hx0 : ∀ e s, X.xe e s → False)
  (hs1 : starEach [a, e] X.env = (false, eval a X.env) :: starEach [e] X.env := by rfl) (hs2 : starEach [e] X.env = (false, eval e X.env) :: starEach [] X.env := by rfl) : TryE X (.Tuple [a, e] x1 pos) (tTryP ta te) := by
 intro pins s σ H Q Eh I h
 refine wpAny_Tuple_spliced ?_
 rw [hs1]
 show wpAny _ _ (spliced ((false, eval a X.env) :: backTo pos (starEach [e] X.env))) _ _ s
 refine Calls.spliced_cons (wpAny_mono (ha pins s σ H _ I h) (fun u s1 W' => ?_) fun e s1 z => (hx0 e s1 z).elim)
 obtain ⟨x, H1, I1, r1, q1⟩ := W'
 rw [hs2]
 show wpAny _ _ (spliced ((false, eval e X.env) :: backTo pos (starEach [] X.env))) _ _ s1
 refine Calls.spliced_cons (wpAny_mono (he pins s1 σ H1 _ Eh I1 q1) (fun v s2 W' => ?_) fun _ _ z => z)
 obtain ⟨y, H2, I2, r2, q2⟩ := W'
 refine Calls.spliced_nil ⟨by show 2 ≤ sizeLine; decide, ?_⟩
 have hf : H2 s2.heap.objs.size = none := I2.hok.fresh (Nat.le_refl _)
 refine ⟨.ref s2.heap.objs.size, upd H2 s2.heap.objs.size (.tup [x, y]), I2.laid (t' := s2.toks) (fun b u e => Heap.get?_push_of_some _ e) (Nat.le_refl _) ?_, rfl, q2 _ _ hf (cqJ hf) aqr⟩
 exact ⟨by show 2 ≤ sizeLine; decide, [u, v], .cons r1 (.cons r2 .nil), ⟨_, Heap.get?_push_size _ rfl, rfl, _, rfl⟩⟩
def tTryS (i : Nat) (te : XK → TE) : XK → TS := fun Eh D σ H => te Eh σ H fun v H1 => D.nx (σ.set i (some v)) H1
theorem nqU {i : Nat} {x : Str} {e : Expr} {te : XK → TE} {pos pos' : Pos} (hN : X.N.Nodup) (hi : X.N[i]? = some x) (hl : X.env.scope.names.lookup x = some .local) (he : TryE X e te) (hs : swapsWith e (some (.Name x pos')) pos.line X.env = pure false := by rfl) :
  TryB X [.Assign [.Name x pos'] e pos] (tTryS i te) := by
 intro pins s σ H D Eh I h
 refine wpAny_execs_cons (wpAny_Assign_Name (wpAny_mono (he pins s σ H _ Eh I h) (fun v s1 W' => ?_) fun _ _ z => z) hs)
 obtain ⟨y, H1, I1, r1, q1⟩ := W'
 exact fq0 I1 hN hi (.inl hl) r1 (fun s2 I2 => wpAny_execs_nil ⟨_, H1, I2, q1⟩) (.inr hl)
theorem nq5 {sp : Sp} {t : TA} {Eh : XK} {σ : St} {H : Hp} {Q : VK} : (tTryE sp t Eh σ H Q) = (t σ H fun vs H1 => sp vs H1 Q Eh) := rfl
theorem nqV {ta : TE} {te : XK → TE} {Eh : XK} {σ : St} {H : Hp} {Q : VK} : (tTryP ta te Eh σ H Q) = (ta σ H fun x H1 => te Eh σ H1 fun y H2 => ∀ p H', H2 p = none → Same H2 H' → H' p = some (.tup [x, y]) → Q (.ref p) H') := rfl
theorem mq3 {i : Nat} {te : XK → TE} {Eh : XK} {D : Ends} {σ : St} {H : Hp} : (tTryS i te Eh D σ H) = (te Eh σ H fun v H1 => D.nx (σ.set i (some v)) H1) := rfl
end
end L2
namespace L2
open PySem
theorem lqF {X : Cx} {K : PySem.W.Frag} {e : Expr} {f : Str} {pos : Pos} {te : TE} (hk : X.K = K) (he : PE X e te) (hb : attributeBase e f X.env (eval e X.env) = eval e X.env) : PE X (.Attribute e f pos) (tFldE K te f) := by subst hk; exact nqe he hb
end L2
namespace Wm
open PySem L2
abbrev Rs (α : Type) := Except Nat (α × Nat)
def sh {α : Type} (k : Nat) : Rs α → Rs α
 | .ok (a, n) => .ok (a, k + n)
 | .error n => .error (k + n)
def mp {α β : Type} (f : α → β) : Rs α → Rs β
 | .ok (a, n) => .ok (f a, n)
 | .error n => .error n
def pre {α : Type} (c : α) (k : Nat) : Rs (List α) → Rs (List α)
 | .ok (l, n) => .ok (c :: l, k + n)
 | .error n => .error (k + n)
section
variable {α β γ : Type}
theorem jqZ {a b : Nat} {r : Rs α} : sh a (sh b r) = sh (a + b) r := by
 cases r with
 | error n => show Except.error _ = Except.error _; rw [Nat.add_assoc]
 | ok x => show Except.ok _ = Except.ok _; rw [Nat.add_assoc]
theorem qqw {a : Nat} {f : α → β} {r : Rs α} : mp f (sh a r) = sh a (mp f r) := by cases r <;> rfl
theorem qqq {g : β → γ} {f : α → β} {r : Rs α} : mp g (mp f r) = mp (fun x => g (f x)) r := by cases r <;> rfl
theorem sh_0 {r : Rs α} : sh 0 r = r := by
 cases r with
 | error n => show Except.error _ = Except.error _; rw [Nat.zero_add]
 | ok x => show Except.ok _ = Except.ok _; rw [Nat.zero_add]
theorem qqB {r : Rs α} : mp (fun x => x) r = r := by cases r <;> rfl
theorem mqu {c : α} {k : Nat} {r : Rs (List α)} : pre c k r = sh k (mp (fun l => c :: l) r) := by cases r <;> rfl
def Via (tot : Rs γ) (b : Nat) (f : α → γ) (r : Rs α) : Prop := tot = sh b (mp f r)
theorem Via.refl {r : Rs α} : Via r 0 (fun x => x) r := by unfold Via; rw [qqB, sh_0]
theorem Via.step {tot : Rs γ} {b a : Nat} {f : β → γ} {g : α → β} {r : Rs β} {r' : Rs α} (h : Via tot b f r) (e : r = sh a (mp g r')) : Via tot (b + a) (fun x => f (g x)) r' := by
 unfold Via at *
 rw [h, e, qqw, jqZ, qqq]
theorem Via.ok {tot : Rs γ} {b n : Nat} {f : α → γ} {r : Rs α} {x : α} (h : Via tot b f r) (e : r = .ok (x, n)) : tot = .ok (f x, b + n) := by
 unfold Via at h
 rw [h, e]; rfl
theorem Via.err {tot : Rs γ} {b n : Nat} {f : α → γ} {r : Rs α} (h : Via tot b f r) (e : r = .error n) : tot = .error (b + n) := by
 unfold Via at h
 rw [h, e]; rfl
end
theorem take1 {r : List Nat} {c : Nat} : r.take [c].length = [c] ↔ r.head? = some c := by
 cases r with
 | nil => simp
 | cons d r => simp
def dec (mo : Option Nat) : Option Nat := mo.map fun m => m - 1
def Capd (mo : Option Nat) (k : Nat) : Prop := ∀ z, mo = some z → k ≤ z
def fsF : List Nat := [50, 51, 52, 53, 54, 55]
def prM : List Nat → Rs Nat
 | a :: b :: _ => if a ∈ fsF then (match sgO a b with | some c => .ok (c, 2) | none => .error 1) else .error 0
 | [a] => if a ∈ fsF then .error 1 else .error 0
 | [] => .error 0
theorem mqD {r : List Nat} {c n : Nat} (h : prM r = .ok (c, n)) : ∃ a b r', r = a :: b :: r' ∧ sgO a b = some c ∧ n = 2 ∧ a ∈ fsF := by
 match r, h with
 | [], h => cases h
 | [a], h =>
  have h : (if a ∈ fsF then (.error 1 : Rs Nat) else .error 0) = .ok (c, n) := h
  by_cases hf : a ∈ fsF
  ·rw [if_pos hf] at h; cases h
  ·rw [if_neg hf] at h; cases h
 | a :: b :: r', h =>
  have h : (if a ∈ fsF then (match sgO a b with | some c => (.ok (c, 2) : Rs Nat) | none => .error 1) else .error 0) = .ok (c, n) := h
  by_cases hf : a ∈ fsF
  ·rw [if_pos hf] at h
   cases hs : sgO a b with
   | none => rw [hs] at h; cases h
   | some d => rw [hs] at h; cases h; exact ⟨a, b, r', rfl, hs, rfl, hf⟩
  ·rw [if_neg hf] at h; cases h
def txtM (fr : List Nat) (r : List Nat) (mo : Option Nat) : Rs (List Nat) :=
 match r with
 | [] => .ok ([], 0)
 | c :: r' =>
  if mo = some 0 then .ok ([], 0)
  else if c = 126 then (match prM r' with | .error n => .error (n + 1) | .ok (s, n) => pre s (n + 1) (txtM fr (r'.drop n) (dec mo)))
  else if isPl c = true ∨ c ∈ fr then pre c 1 (txtM fr r' (dec mo))
  else .ok ([], 0)
termination_by r.length
decreasing_by
 ·simp only [List.length_drop, List.length_cons]; omega
 ·simp only [List.length_cons]; omega
theorem gqu {fr : List Nat} {mo : Option Nat} : txtM fr [] mo = .ok ([], 0) := by rw [txtM]
theorem fqX {fr r : List Nat} : txtM fr r (some 0) = .ok ([], 0) := by
 cases r with
 | nil => exact gqu
 | cons c r => rw [txtM, if_pos rfl]
theorem eq1 {fr r : List Nat} {mo : Option Nat} (h : mo ≠ some 0) : txtM fr (126 :: r) mo = (match prM r with | .error n => .error (n + 1) | .ok (s, n) => pre s (n + 1) (txtM fr (r.drop n) (dec mo))) := by
 rw [txtM, if_neg h, if_pos rfl]
theorem hqv {fr r : List Nat} {mo : Option Nat} {c : Nat} (h : mo ≠ some 0) (h1 : c ≠ 126) (h2 : isPl c = true ∨ c ∈ fr) : txtM fr (c :: r) mo = pre c 1 (txtM fr r (dec mo)) := by
 rw [txtM, if_neg h, if_neg h1, if_pos h2]
theorem eqO {fr r : List Nat} {mo : Option Nat} (h : Stops fr r) : txtM fr r mo = .ok ([], 0) := by
 cases r with
 | nil => exact gqu
 | cons c r =>
  obtain ⟨h1, h2, h3⟩ := h c rfl
  by_cases h0 : mo = some 0
  ·rw [h0]; exact fqX
  ·rw [txtM, if_neg h0, if_neg h3, if_neg (fun z => z.elim (fun z => by rw [h1] at z; cases z) h2)]
theorem eqK {fr : List Nat} : ∀ (k : Nat) {r : List Nat} {mo : Option Nat} {s : List Nat} {n : Nat}, r.length ≤ k → txtM fr r mo = .ok (s, n) →
  ∃ w r', r = w ++ r' ∧ w.length = n ∧ WrT fr s w ∧ (Stops fr r' ∨ mo = some s.length) ∧ ∀ m, mo = some m → s.length ≤ m := by
 intro k
 induction k with
 | zero =>
  intro r mo s n hk h
  have hr : r = [] := List.length_eq_zero_iff.mp (by omega)
  subst hr
  rw [gqu] at h
  cases h
  exact ⟨[], [], rfl, rfl, .nil, .inl dq1, fun m _ => Nat.zero_le _⟩
 | succ k ih =>
  intro r mo s n hk h
  cases r with
  | nil =>
   rw [gqu] at h
   cases h
   exact ⟨[], [], rfl, rfl, .nil, .inl dq1, fun m _ => Nat.zero_le _⟩
  | cons c r =>
   simp only [List.length_cons] at hk
   by_cases h0 : mo = some 0
   ·subst h0
    rw [fqX] at h
    cases h
    exact ⟨[], _, rfl, rfl, .nil, .inr rfl, fun m _ => Nat.zero_le _⟩
   have hm : ∀ (s' : List Nat) (x : Nat), (∀ m, dec mo = some m → s'.length ≤ m) → ∀ m, mo = some m → (x :: s').length ≤ m := fun s' x hh m e => by
    subst e
    have := hh (m - 1) rfl
    have h1 : m ≠ 0 := fun z => h0 (by rw [z])
    simp only [List.length_cons]; omega
   have hst : ∀ (s' r' : List Nat) (x : Nat), (Stops fr r' ∨ dec mo = some s'.length) → (Stops fr r' ∨ mo = some (x :: s').length) := fun s' r' x hh => hh.imp id fun e => by
    cases mo with
    | none => cases e
    | some m =>
     have e : some (m - 1) = some s'.length := e
     have h1 : m ≠ 0 := fun z => h0 (by rw [z])
     have e := Option.some.inj e
     rw [List.length_cons, ← e]
     congr 1; omega
   by_cases hc : c = 126
   ·subst hc
    rw [eq1 h0] at h
    cases hp : prM r with
    | error e => rw [hp] at h; cases h
    | ok x =>
     obtain ⟨x, nx⟩ := x
     obtain ⟨a, b, r2, rfl, hs, rfl, _⟩ := mqD hp
     rw [hp] at h
     simp only [List.drop_succ_cons, List.drop_zero] at h
     cases ht : txtM fr r2 (dec mo) with
     | error e => rw [ht] at h; cases h
     | ok y =>
      obtain ⟨s', m⟩ := y
      rw [ht] at h
      cases h
      obtain ⟨w, r', e1, e2, e3, e4, e5⟩ := ih (by simp only [List.length_cons] at hk; omega) ht
      refine ⟨126 :: a :: b :: w, r', by rw [e1]; rfl, by simp only [List.length_cons]; omega, .pair hs e3, hst s' r' x e4, hm s' x e5⟩
   ·by_cases hp : isPl c = true ∨ c ∈ fr
    ·rw [hqv h0 hc hp] at h
     cases ht : txtM fr r (dec mo) with
     | error e => rw [ht] at h; cases h
     | ok y =>
      obtain ⟨s', m⟩ := y
      rw [ht] at h
      cases h
      obtain ⟨w, r', e1, e2, e3, e4, e5⟩ := ih (by omega) ht
      exact ⟨c :: w, r', by rw [e1]; rfl, by simp only [List.length_cons]; omega, .self hp hc e3, hst s' r' c e4, hm s' c e5⟩
    ·rw [txtM, if_neg h0, if_neg hc, if_neg hp] at h
     cases h
     refine ⟨[], c :: r, rfl, rfl, .nil, .inl (aqP ⟨?_, fun z => hp (.inr z), hc⟩), fun m _ => Nat.zero_le _⟩
     cases hi : isPl c with
     | false => rfl
     | true => exact absurd (.inl hi) hp
theorem dqQ {fr r s : List Nat} {mo : Option Nat} {n : Nat} (h : txtM fr r mo = .ok (s, n)) : n ≤ r.length ∧ s.length ≤ n ∧ (s ≠ [] → 0 < n) := by
 obtain ⟨w, r', e1, e2, e3, _⟩ := eqK r.length (Nat.le_refl _) h
 have := nq1 e3
 refine ⟨by rw [e1, List.length_append]; omega, by omega, fun z => ?_⟩
 have := List.length_pos_iff.mpr z
 omega
theorem fqs {fr s w r : List Nat} (h : WrT fr s w) : ∀ {mo : Option Nat}, (Stops fr r ∨ mo = some s.length) → (∀ m, mo = some m → s.length ≤ m) → txtM fr (w ++ r) mo = .ok (s, w.length) := by
 induction h with
 | nil =>
  intro mo h1 _
  rcases h1 with h1 | rfl
  ·exact eqO h1
  ·exact fqX
 | self a b _ ih =>
  rename_i c s w _
  intro mo h1 h2
  have h0 : mo ≠ some 0 := fun z => by have := h2 0 z; simp at this
  show txtM fr (c :: (w ++ r)) mo = _
  rw [hqv h0 b a, ih (h1.imp id fun e => by rw [e]; rfl) (fun m e => by
   cases mo with
   | none => cases e
   | some k => cases e; have := h2 k rfl; simp only [List.length_cons] at this; show s.length ≤ k - 1; omega)]
  show Except.ok (c :: s, 1 + w.length) = _
  rw [List.length_cons, Nat.add_comm]
 | pair hs _ ih =>
  rename_i c a b s w _
  intro mo h1 h2
  have h0 : mo ≠ some 0 := fun z => by have := h2 0 z; simp at this
  have hf : a ∈ fsF := by
   have := (iqn hs).1
   rw [show (Str.ofString "234567").cps.toList = fsF by decide +kernel] at this
   exact this
  have hp : prM (a :: b :: (w ++ r)) = .ok (c, 2) := by
   show (if a ∈ fsF then _ else _) = _
   rw [if_pos hf, hs]
  show txtM fr (126 :: (a :: b :: (w ++ r))) mo = _
  rw [eq1 h0, hp]
  show pre c 3 (txtM fr (w ++ r) (dec mo)) = _
  rw [ih (h1.imp id fun e => by rw [e]; rfl) (fun m e => by
   cases mo with
   | none => cases e
   | some k => cases e; have := h2 k rfl; simp only [List.length_cons] at this; show s.length ≤ k - 1; omega)]
  show Except.ok (c :: s, 3 + w.length) = _
  simp only [List.length_cons]
  rw [Nat.add_comm]
def filM (fr r : List Nat) (mo : Option Nat) : Rs (List Nat) := match txtM fr r mo with
 | .error n => .error n
 | .ok (s, n) => if s = [] then .error n else .ok (s, n)
def houM (r : List Nat) : Rs (Option (List Nat)) := if r.take 2 = [47, 47] then sh 2 (mp some (filM [] (r.drop 2) (some 60))) else .ok (none, 0)
def dooG : List Nat → Nat → Nat × Nat
 | [], n => (n, 0)
 | c :: r, n => if 0 < n ∧ 48 ≤ c ∧ c ≤ 57 ∧ n * 10 + (c - 48) ≤ 65535 then ((dooG r (n * 10 + (c - 48))).1, (dooG r (n * 10 + (c - 48))).2 + 1) else (n, 0)
def dooM (r : List Nat) : Rs (Option Int) := if r.head? = some 58 then
  match r.drop 1 with
  | [] => .error 1
  | c :: r' => if 48 ≤ c ∧ c ≤ 57 then .ok (some ((dooG r' (c - 48)).1 : Int), 2 + (dooG r' (c - 48)).2) else .error 1
 else .ok (none, 0)
def stpF : Nat → List Nat → Bool → Rs (List (List Nat) × Bool)
 | 0, _, e => .ok (([], e), 0)
 | f + 1, r, e => match txtM frS r none with
  | .error n => .error n
  | .ok (s, n) => if s = [] then .ok (([], e), n)
   else if (r.drop n).head? = some 47 then sh (n + 1) (mp (fun x => (s :: x.1, x.2)) (stpF f (r.drop (n + 1)) true))
   else sh n (mp (fun x => (s :: x.1, x.2)) (stpF f (r.drop n) false))
def wayM (must : Bool) (r : List Nat) : Rs (Bool × List (List Nat) × Bool) :=
 if r.head? = some 47 then sh 1 (mp (fun x => (true, x)) (stpF (r.length + 1) (r.drop 1) true))
 else if must = true then .ok ((true, [], true), 0)
 else mp (fun x => (false, x)) (stpF (r.length + 1) r false)
def valM (r : List Nat) : Rs (Option (List Nat)) := if r.head? = some 61 then sh 1 (mp some (txtM frQ (r.drop 1) none)) else .ok (none, 0)
def marM (r : List Nat) : Rs (Option (List Nat)) := if r.head? = some 35 then sh 1 (mp some (txtM frM (r.drop 1) none)) else .ok (none, 0)
def bdR {α β : Type} (x : Rs α) (f : α → Nat → Rs β) : Rs β := match x with
 | .error n => .error n
 | .ok (a, n) => sh n (f a n)
def prsF : Nat → List Nat → Rs (List (List Nat × Option (List Nat)))
 | 0, _ => .ok ([], 0)
 | f + 1, r => if r.head? = some 38 then
   sh 1 (bdR (filM frQ (r.drop 1) none) fun s n => bdR (valM (r.drop (1 + n))) fun v m => mp (fun l => (s, v) :: l) (prsF f (r.drop (1 + n + m))))
  else .ok ([], 0)
def queM (r : List Nat) : Rs (Option (List (List Nat × Option (List Nat)))) := if r.head? = some 63 then
  sh 1 (bdR (txtM frQ (r.drop 1) none) fun s n => if s = [] then .ok (some [], 0) else
   bdR (valM (r.drop (1 + n))) fun v m => mp (fun l => some ((s, v) :: l)) (prsF (r.length + 1) (r.drop (1 + n + m))))
 else .ok (none, 0)
def bdA {α β : Type} (x : Rs α) (i : Nat) (f : α → Nat → Except Nat β) : Except Nat β := match x with
 | .error n => .error (i + n)
 | .ok (a, n) => f a (i + n)
theorem gq6 {α β : Type} {a : α} {n i : Nat} {f : α → Nat → Except Nat β} : bdA (.ok (a, n)) i f = f a (i + n) := rfl
theorem fqe {α β : Type} {n i : Nat} {f : α → Nat → Except Nat β} : bdA (.error n : Rs α) i f = .error (i + n) := rfl
def dorM (h : Option (List Nat)) (r : List Nat) : Rs (Option Int) := if h = none then .ok (none, 0) else dooM r
def readM (t : List Nat) : Except Nat Ad :=
 bdA (houM (t.drop (schP t))) (schP t) fun h i => bdA (dorM h (t.drop i)) i fun d i => bdA (wayM (decide (schM t ≠ [] ∨ h ≠ none)) (t.drop i)) i fun w i =>
  bdA (queM (t.drop i)) i fun q i => bdA (marM (t.drop i)) i fun m i => if i = t.length then .ok ⟨schM t, h, d, w.1, w.2.1, w.2.2, q, m⟩ else .error i
section
variable {t : List Nat} {h : Option (List Nat)} {d : Option Int} {w : Bool × List (List Nat) × Bool} {q : Option (List (List Nat × Option (List Nat)))} {m : Option (List Nat)} {n n1 n2 n3 n4 n5 : Nat}
theorem oqw (e1 : houM (t.drop (schP t)) = .error n) : readM t = .error (schP t + n) := by unfold readM; simp only [e1, gq6, fqe]
theorem mqo (e1 : houM (t.drop (schP t)) = .ok (h, n1)) (e2 : dorM h (t.drop (schP t + n1)) = .error n) : readM t = .error (schP t + n1 + n) := by
 unfold readM; simp only [e1, e2, gq6, fqe]
theorem oqO (e1 : houM (t.drop (schP t)) = .ok (h, n1)) (e2 : dorM h (t.drop (schP t + n1)) = .ok (d, n2)) (e3 : wayM (decide (schM t ≠ [] ∨ h ≠ none)) (t.drop (schP t + n1 + n2)) = .error n) : readM t = .error (schP t + n1 + n2 + n) := by
 unfold readM; simp only [e1, e2, e3, gq6, fqe]
theorem pqC (e1 : houM (t.drop (schP t)) = .ok (h, n1)) (e2 : dorM h (t.drop (schP t + n1)) = .ok (d, n2)) (e3 : wayM (decide (schM t ≠ [] ∨ h ≠ none)) (t.drop (schP t + n1 + n2)) = .ok (w, n3)) (e4 : queM (t.drop (schP t + n1 + n2 + n3)) = .error n) : readM t = .error (schP t + n1 + n2 + n3 + n) := by
 unfold readM; simp only [e1, e2, e3, e4, gq6, fqe]
theorem pqh (e1 : houM (t.drop (schP t)) = .ok (h, n1)) (e2 : dorM h (t.drop (schP t + n1)) = .ok (d, n2)) (e3 : wayM (decide (schM t ≠ [] ∨ h ≠ none)) (t.drop (schP t + n1 + n2)) = .ok (w, n3)) (e4 : queM (t.drop (schP t + n1 + n2 + n3)) = .ok (q, n4)) (e5 : marM (t.drop (schP t + n1 + n2 + n3 + n4)) = .error n) : readM t = .error (schP t + n1 + n2 + n3 + n4 + n) := by
 unfold readM; simp only [e1, e2, e3, e4, e5, gq6, fqe]
theorem jqn (e1 : houM (t.drop (schP t)) = .ok (h, n1)) (e2 : dorM h (t.drop (schP t + n1)) = .ok (d, n2)) (e3 : wayM (decide (schM t ≠ [] ∨ h ≠ none)) (t.drop (schP t + n1 + n2)) = .ok (w, n3)) (e4 : queM (t.drop (schP t + n1 + n2 + n3)) = .ok (q, n4)) (e5 : marM (t.drop (schP t + n1 + n2 + n3 + n4)) = .ok (m, n5)) :
  readM t = if schP t + n1 + n2 + n3 + n4 + n5 = t.length then .ok ⟨schM t, h, d, w.1, w.2.1, w.2.2, q, m⟩ else .error (schP t + n1 + n2 + n3 + n4 + n5) := by
 unfold readM; simp only [e1, e2, e3, e4, e5, gq6, fqe]
end
section
variable {r : List Nat} {n : Nat}
theorem hqc {fr : List Nat} {mo : Option Nat} {s : List Nat} (h : filM fr r mo = .ok (s, n)) : txtM fr r mo = .ok (s, n) ∧ s ≠ [] := by
 unfold filM at h
 cases e : txtM fr r mo with
 | error k => rw [e] at h; cases h
 | ok x =>
  obtain ⟨s', k⟩ := x
  rw [e] at h
  have h : (if s' = [] then (.error k : Rs (List Nat)) else .ok (s', k)) = .ok (s, n) := h
  by_cases hs : s' = []
  ·rw [if_pos hs] at h; cases h
  ·rw [if_neg hs] at h; cases h; exact ⟨rfl, hs⟩
theorem gqG {α : Type} {k : Nat} {x : Rs α} {a : α} (h : sh k x = .ok (a, n)) : ∃ m, x = .ok (a, m) ∧ n = k + m := by
 cases x with
 | error e => cases h
 | ok y => obtain ⟨y, m⟩ := y; cases h; exact ⟨m, rfl, rfl⟩
theorem gqc {α β : Type} {f : α → β} {x : Rs α} {b : β} (h : mp f x = .ok (b, n)) : ∃ a, x = .ok (a, n) ∧ b = f a := by
 cases x with
 | error e => cases h
 | ok y => obtain ⟨y, m⟩ := y; cases h; exact ⟨y, rfl, rfl⟩
theorem jqp {α β : Type} {x : Rs α} {f : α → Nat → Rs β} {b : β} (h : bdR x f = .ok (b, n)) : ∃ a k m, x = .ok (a, k) ∧ f a k = .ok (b, m) ∧ n = k + m := by
 cases x with
 | error e => cases h
 | ok y =>
  obtain ⟨y, k⟩ := y
  obtain ⟨m, e, en⟩ := gqG (show sh k (f y k) = _ from h)
  exact ⟨y, k, m, rfl, e, en⟩
theorem dqE {c : Nat} (h : r.head? = some c) : 1 ≤ r.length := by
 cases r with
 | nil => cases h
 | cons d r => simp
theorem mqA {o : Option (List Nat)} (h : houM r = .ok (o, n)) : n ≤ r.length := by
 unfold houM at h
 by_cases h2 : r.take 2 = [47, 47]
 ·rw [if_pos h2] at h
  obtain ⟨m, e, rfl⟩ := gqG h
  obtain ⟨a, e', rfl⟩ := gqc e
  have h1 := (dqQ (hqc e').1).1
  have h3 := congrArg List.length h2
  rw [List.length_take] at h3
  simp only [List.length_cons, List.length_nil] at h3
  rw [List.length_drop] at h1
  omega
 ·rw [if_neg h2] at h; cases h; omega
theorem mqF {o : Option (List Nat)} (h : valM r = .ok (o, n)) : n ≤ r.length := by
 unfold valM at h
 by_cases h2 : r.head? = some 61
 ·rw [if_pos h2] at h
  obtain ⟨m, e, rfl⟩ := gqG h
  obtain ⟨a, e', rfl⟩ := gqc e
  have h1 := (dqQ e').1
  have := dqE h2
  rw [List.length_drop] at h1
  omega
 ·rw [if_neg h2] at h; cases h; omega
theorem pqO {o : Option (List Nat)} (h : marM r = .ok (o, n)) : n ≤ r.length := by
 unfold marM at h
 by_cases h2 : r.head? = some 35
 ·rw [if_pos h2] at h
  obtain ⟨m, e, rfl⟩ := gqG h
  obtain ⟨a, e', rfl⟩ := gqc e
  have h1 := (dqQ e').1
  have := dqE h2
  rw [List.length_drop] at h1
  omega
 ·rw [if_neg h2] at h; cases h; omega
theorem kqG : ∀ (r : List Nat) (k : Nat), k ≤ 65535 → (dooG r k).2 ≤ r.length ∧ (dooG r k).1 ≤ 65535
 | [], k, h => ⟨Nat.zero_le _, h⟩
 | c :: r, k, h => by
  unfold dooG
  by_cases hc : 0 < k ∧ 48 ≤ c ∧ c ≤ 57 ∧ k * 10 + (c - 48) ≤ 65535
  ·rw [if_pos hc]
   have := kqG r _ hc.2.2.2
   simp only [List.length_cons]
   exact ⟨by omega, this.2⟩
  ·rw [if_neg hc]; exact ⟨Nat.zero_le _, h⟩
theorem mqJ {o : Option Int} (h : dooM r = .ok (o, n)) : n ≤ r.length ∧ ∀ i, o = some i → 0 ≤ i ∧ i ≤ 65535 := by
 unfold dooM at h
 by_cases h2 : r.head? = some 58
 ·rw [if_pos h2] at h
  have hl := dqE h2
  cases hd : r.drop 1 with
  | nil => rw [hd] at h; cases h
  | cons c r' =>
   rw [hd] at h
   have h : (if 48 ≤ c ∧ c ≤ 57 then (.ok (some ((dooG r' (c - 48)).1 : Int), 2 + (dooG r' (c - 48)).2) : Rs (Option Int)) else .error 1) = .ok (o, n) := h
   by_cases hc : 48 ≤ c ∧ c ≤ 57
   ·rw [if_pos hc] at h
    cases h
    have := kqG r' (c - 48) (by omega)
    have h3 := congrArg List.length hd
    rw [List.length_drop, List.length_cons] at h3
    exact ⟨by omega, fun i e => by cases e; omega⟩
   ·rw [if_neg hc] at h; cases h
 ·rw [if_neg h2] at h; cases h; exact ⟨Nat.zero_le _, fun i e => by cases e⟩
theorem mqN {ho : Option (List Nat)} {o : Option Int} (h : dorM ho r = .ok (o, n)) : n ≤ r.length ∧ ∀ i, o = some i → (0 ≤ i ∧ i ≤ 65535) ∧ ho ≠ none := by
 unfold dorM at h
 by_cases h2 : ho = none
 ·rw [if_pos h2] at h; cases h; exact ⟨Nat.zero_le _, fun i e => by cases e⟩
 ·rw [if_neg h2] at h
  exact ⟨(mqJ h).1, fun i e => ⟨(mqJ h).2 i e, h2⟩⟩
theorem kqj : ∀ (f : Nat) {r : List Nat} {e : Bool} {ss : List (List Nat)} {e' : Bool} {n : Nat}, stpF f r e = .ok ((ss, e'), n) → n ≤ r.length ∧ (∀ s ∈ ss, ∃ w, s ≠ [] ∧ WrT frS s w ∧ w.length ≤ r.length) ∧ ss.length ≤ n ∧ (ss = [] → e' = e)
 | 0, r, e, ss, e', n, h => by cases h; exact ⟨Nat.zero_le _, (fun s hs => by cases hs), Nat.le_refl _, fun _ => rfl⟩
 | f + 1, r, e, ss, e', n, h => by
  unfold stpF at h
  cases ht : txtM frS r none with
  | error k => rw [ht] at h; cases h
  | ok x =>
   obtain ⟨s, k⟩ := x
   rw [ht] at h
   have h : (if s = [] then (.ok (([], e), k) : Rs (List (List Nat) × Bool)) else if (r.drop k).head? = some 47 then sh (k + 1) (mp (fun x => (s :: x.1, x.2)) (stpF f (r.drop (k + 1)) true)) else sh k (mp (fun x => (s :: x.1, x.2)) (stpF f (r.drop k) false))) = .ok ((ss, e'), n) := h
   obtain ⟨t1, t2, t3⟩ := dqQ ht
   by_cases hs : s = []
   ·rw [if_pos hs] at h; cases h; exact ⟨t1, (fun s hs => by cases hs), Nat.zero_le _, fun _ => rfl⟩
   rw [if_neg hs] at h
   have hk := t3 hs
   obtain ⟨w, r', e1, e2, e3, _⟩ := eqK r.length (Nat.le_refl _) ht
   have fin : ∀ (b : Nat) (en : Bool) (k' : Nat), k ≤ k' → k' ≤ r.length → sh k' (mp (fun x => (s :: x.1, x.2)) (stpF f (r.drop k') en)) = .ok ((ss, e'), n) → n ≤ r.length ∧ (∀ s ∈ ss, ∃ w, s ≠ [] ∧ WrT frS s w ∧ w.length ≤ r.length) ∧ ss.length ≤ n ∧ (ss = [] → e' = e) := fun b en k' hkk hkl h => by
    obtain ⟨m, h2, rfl⟩ := gqG h
    obtain ⟨a, h3, ea⟩ := gqc h2
    obtain ⟨as, ae⟩ := a
    cases ea
    obtain ⟨i1, i2, i3, i4⟩ := kqj f h3
    rw [List.length_drop] at i1 i2
    refine ⟨by omega, fun x hx => ?_, by simp only [List.length_cons]; omega, fun z => by cases z⟩
    rcases List.mem_cons.mp hx with rfl | hx
    ·exact ⟨w, hs, e3, by omega⟩
    ·obtain ⟨w, z1, z2, z3⟩ := i2 x hx
     exact ⟨w, z1, z2, by omega⟩
   by_cases h47 : (r.drop k).head? = some 47
   ·rw [if_pos h47] at h
    have := dqE h47
    rw [List.length_drop] at this
    exact fin 0 true (k + 1) (by omega) (by omega) h
   ·rw [if_neg h47] at h
    exact fin 0 false k (Nat.le_refl _) t1 h
theorem mqG {must : Bool} {w : Bool × List (List Nat) × Bool} (h : wayM must r = .ok (w, n)) : n ≤ r.length ∧ (∀ s ∈ w.2.1, ∃ v, s ≠ [] ∧ WrT frS s v ∧ v.length ≤ r.length) ∧ w.2.1.length ≤ n ∧ (w.2.1 = [] → w.2.2 = w.1) ∧ (must = true → w.1 = true) := by
 unfold wayM at h
 by_cases h1 : r.head? = some 47
 ·rw [if_pos h1] at h
  obtain ⟨m, h2, rfl⟩ := gqG h
  obtain ⟨a, h3, rfl⟩ := gqc h2
  obtain ⟨as, ae⟩ := a
  obtain ⟨i1, i2, i3, i4⟩ := kqj _ h3
  have := dqE h1
  rw [List.length_drop] at i1 i2
  refine ⟨by omega, fun s hs => ?_, by show as.length ≤ _; omega, i4, fun _ => rfl⟩
  obtain ⟨v, z1, z2, z3⟩ := i2 s hs
  exact ⟨v, z1, z2, by omega⟩
 ·rw [if_neg h1] at h
  by_cases h2 : must = true
  ·rw [if_pos h2] at h
   cases h
   exact ⟨Nat.zero_le _, (fun s hs => by cases hs), Nat.zero_le _, fun _ => rfl, fun _ => rfl⟩
  ·rw [if_neg h2] at h
   obtain ⟨a, h3, rfl⟩ := gqc h
   obtain ⟨as, ae⟩ := a
   obtain ⟨i1, i2, i3, i4⟩ := kqj _ h3
   exact ⟨i1, i2, i3, i4, fun z => absurd z h2⟩
end
def Tk {α : Type} (CN : Addr) (H : Hp) (C p : Addr) (t : List Nat) (i : Nat) (r : Rs α) (ok : α → Hp → Prop) (E : XK) : Prop :=
 (∀ a n, r = .ok (a, n) → ∀ H', SameBut p H H' → Cur H' C p t (i + n) → ok a H') ∧
 (∀ n, r = .error n → ∀ d H', SameBut p H H' → H' d = some (.xd [("at", .int ((i + n : Nat) : Int))]) → E (.ref CN) (some d) H')
section
variable {r : List Nat} {n : Nat}
theorem mqS {o : Option (List Nat)} (h : valM r = .ok (o, n)) : n ≤ r.length ∧ ∀ s, o = some s → ∃ w, WrT frQ s w ∧ w.length ≤ r.length := by
 refine ⟨mqF h, fun s es => ?_⟩
 unfold valM at h
 by_cases h2 : r.head? = some 61
 ·rw [if_pos h2] at h
  obtain ⟨m, e, rfl⟩ := gqG h
  obtain ⟨a, e', rfl⟩ := gqc e
  cases es
  obtain ⟨w, r', e1, e2, e3, _⟩ := eqK _ (Nat.le_refl _) e'
  refine ⟨w, e3, ?_⟩
  have := congrArg List.length e1
  rw [List.length_drop, List.length_append] at this
  omega
 ·rw [if_neg h2] at h; cases h; cases es
theorem pq3 {o : Option (List Nat)} (h : marM r = .ok (o, n)) : n ≤ r.length ∧ ∀ s, o = some s → ∃ w, WrT frM s w ∧ w.length ≤ r.length := by
 refine ⟨pqO h, fun s es => ?_⟩
 unfold marM at h
 by_cases h2 : r.head? = some 35
 ·rw [if_pos h2] at h
  obtain ⟨m, e, rfl⟩ := gqG h
  obtain ⟨a, e', rfl⟩ := gqc e
  cases es
  obtain ⟨w, r', e1, e2, e3, _⟩ := eqK _ (Nat.le_refl _) e'
  refine ⟨w, e3, ?_⟩
  have := congrArg List.length e1
  rw [List.length_drop, List.length_append] at this
  omega
 ·rw [if_neg h2] at h; cases h; cases es
theorem oqU {o : Option (List Nat)} (h : houM r = .ok (o, n)) : n ≤ r.length ∧ ∀ s, o = some s → s ≠ [] ∧ s.length ≤ 60 ∧ ∃ w, WrT [] s w := by
 refine ⟨mqA h, fun s es => ?_⟩
 unfold houM at h
 by_cases h2 : r.take 2 = [47, 47]
 ·rw [if_pos h2] at h
  obtain ⟨m, e, rfl⟩ := gqG h
  obtain ⟨a, e', rfl⟩ := gqc e
  cases es
  obtain ⟨e1, e2⟩ := hqc e'
  obtain ⟨w, r', z1, z2, z3, z4, z5⟩ := eqK _ (Nat.le_refl _) e1
  exact ⟨e2, z5 60 rfl, w, z3⟩
 ·rw [if_neg h2] at h; cases h; cases es
def PrOk (k : Nat) (p : List Nat × Option (List Nat)) : Prop := (p.1 ≠ [] ∧ ∃ w, WrT frQ p.1 w ∧ w.length ≤ k) ∧ ∀ s, p.2 = some s → ∃ w, WrT frQ s w ∧ w.length ≤ k
theorem PrOk.mono {k k' : Nat} {p : List Nat × Option (List Nat)} (h : PrOk k p) (z : k ≤ k') : PrOk k' p :=
 ⟨⟨h.1.1, let ⟨w, a, b⟩ := h.1.2; ⟨w, a, Nat.le_trans b z⟩⟩, fun s e => let ⟨w, a, b⟩ := h.2 s e; ⟨w, a, Nat.le_trans b z⟩⟩
theorem mqI : ∀ (f : Nat) {r : List Nat} {l : List (List Nat × Option (List Nat))} {n : Nat}, prsF f r = .ok (l, n) → n ≤ r.length ∧ (∀ p ∈ l, PrOk r.length p) ∧ l.length ≤ n
 | 0, r, l, n, h => by cases h; exact ⟨Nat.zero_le _, (fun s hs => by cases hs), Nat.le_refl _⟩
 | f + 1, r, l, n, h => by
  unfold prsF at h
  by_cases h2 : r.head? = some 38
  ·rw [if_pos h2] at h
   obtain ⟨m, h3, rfl⟩ := gqG h
   obtain ⟨s, k, m2, e1, h4, rfl⟩ := jqp h3
   obtain ⟨v, k2, m3, e2, h5, rfl⟩ := jqp h4
   obtain ⟨l', h6, rfl⟩ := gqc h5
   obtain ⟨i1, i2, i3⟩ := mqI f h6
   obtain ⟨t1, t2⟩ := hqc e1
   obtain ⟨w, r', z1, z2, z3, _⟩ := eqK _ (Nat.le_refl _) t1
   have hh := dqE h2
   have tl := (dqQ t1).1
   have vl := mqS e2
   rw [List.length_drop] at i1 i2 tl vl
   have wl := congrArg List.length z1
   rw [List.length_drop, List.length_append] at wl
   refine ⟨by omega, fun p hp => ?_, by simp only [List.length_cons]; omega⟩
   rcases List.mem_cons.mp hp with rfl | hp
   ·exact ⟨⟨t2, w, z3, by omega⟩, fun s e => let ⟨w, a, b⟩ := vl.2 s e; ⟨w, a, by omega⟩⟩
   ·exact (i2 p hp).mono (by omega)
  ·rw [if_neg h2] at h; cases h; exact ⟨Nat.zero_le _, (fun s hs => by cases hs), Nat.zero_le _⟩
theorem mqR {o : Option (List (List Nat × Option (List Nat)))} (h : queM r = .ok (o, n)) : n ≤ r.length ∧ ∀ l, o = some l → (∀ p ∈ l, PrOk r.length p) ∧ l.length ≤ n := by
 unfold queM at h
 by_cases h2 : r.head? = some 63
 ·rw [if_pos h2] at h
  obtain ⟨m, h3, rfl⟩ := gqG h
  obtain ⟨s, k, m2, e1, h4, rfl⟩ := jqp h3
  have hh := dqE h2
  have tl := (dqQ e1).1
  rw [List.length_drop] at tl
  have h4 : (if s = [] then (.ok (some [], 0) : Rs (Option (List (List Nat × Option (List Nat))))) else bdR (valM (r.drop (1 + k))) fun v m => mp (fun l => some ((s, v) :: l)) (prsF (r.length + 1) (r.drop (1 + k + m)))) = .ok (o, m2) := h4
  by_cases hs : s = []
  ·rw [if_pos hs] at h4
   cases h4
   exact ⟨by omega, fun l e => by cases e; exact ⟨(fun s hs => by cases hs), Nat.zero_le _⟩⟩
  ·rw [if_neg hs] at h4
   obtain ⟨v, k2, m3, e2, h5, rfl⟩ := jqp h4
   obtain ⟨l', h6, rfl⟩ := gqc h5
   obtain ⟨i1, i2, i3⟩ := mqI _ h6
   obtain ⟨w, r', z1, z2, z3, _⟩ := eqK _ (Nat.le_refl _) e1
   have vl := mqS e2
   rw [List.length_drop] at i1 i2 vl
   have wl := congrArg List.length z1
   rw [List.length_drop, List.length_append] at wl
   have hk := (dqQ e1).2.2 hs
   refine ⟨by omega, fun l e => ?_⟩
   cases e
   refine ⟨fun p hp => ?_, by simp only [List.length_cons]; omega⟩
   rcases List.mem_cons.mp hp with rfl | hp
   ·exact ⟨⟨hs, w, z3, by omega⟩, fun s e => let ⟨w, a, b⟩ := vl.2 s e; ⟨w, a, by omega⟩⟩
   ·exact (i2 p hp).mono (by omega)
 ·rw [if_neg h2] at h; cases h; exact ⟨Nat.zero_le _, fun l e => by cases e⟩
end
theorem fq9 {α β : Type} {x : Rs α} {i : Nat} {f : α → Nat → Except Nat β} {b : β} (h : bdA x i f = .ok b) : ∃ a n, x = .ok (a, n) ∧ f a (i + n) = .ok b := by
 cases x with
 | error e => cases h
 | ok y => obtain ⟨a, n⟩ := y; exact ⟨a, n, rfl, h⟩
theorem lqS {t : List Nat} {x : Ad} (e : readM t = .ok x) : ∃ n1 n2 n3 n4 n5, houM (t.drop (schP t)) = .ok (x.house, n1) ∧ dorM x.house (t.drop (schP t + n1)) = .ok (x.door, n2) ∧ wayM (decide (schM t ≠ [] ∨ x.house ≠ none)) (t.drop (schP t + n1 + n2)) = .ok ((x.rooted, x.steps, x.ends), n3) ∧
  queM (t.drop (schP t + n1 + n2 + n3)) = .ok (x.quest, n4) ∧ marM (t.drop (schP t + n1 + n2 + n3 + n4)) = .ok (x.mark, n5) ∧ schP t + n1 + n2 + n3 + n4 + n5 = t.length ∧ x.scheme = schM t := by
 unfold readM at e
 obtain ⟨h, n1, e1, e⟩ := fq9 e
 obtain ⟨d, n2, e2, e⟩ := fq9 e
 obtain ⟨w, n3, e3, e⟩ := fq9 e
 obtain ⟨q, n4, e4, e⟩ := fq9 e
 obtain ⟨m, n5, e5, e⟩ := fq9 e
 by_cases hl : schP t + n1 + n2 + n3 + n4 + n5 = t.length
 ·rw [if_pos hl] at e
  cases e
  exact ⟨n1, n2, n3, n4, n5, e1, e2, e3, e4, e5, hl, rfl⟩
 ·rw [if_neg hl] at e; cases e
theorem oqT : ∀ c ∈ frS, isSg c = true := by decide +kernel
theorem mqs : ∀ c ∈ frQ, isSg c = true := by decide +kernel
theorem pqi : ∀ c ∈ frM, isSg c = true := by decide +kernel
theorem qqn {c : Nat} (h : isPl c = true) : isSg c = true := by
 simp only [isPl, isSg, Bool.or_eq_true, Bool.and_eq_true, decide_eq_true_eq, Bool.not_eq_true', decide_eq_false_iff_not] at *
 omega
theorem hqQ {fr s w : List Nat} (hf : ∀ c ∈ fr, isSg c = true) (h : WrT fr s w) : ∀ c ∈ s, isSg c = true := by
 induction h with
 | nil => intro c hc; cases hc
 | self a _ _ ih =>
  intro c hc
  rcases List.mem_cons.mp hc with rfl | hc
  ·exact a.elim qqn (hf _)
  ·exact ih c hc
 | pair a _ ih =>
  intro c hc
  rcases List.mem_cons.mp hc with rfl | hc
  ·exact (iqn a).2.2.2
  ·exact ih c hc
theorem nqm (t : List Nat) : (schM t).length ≤ 8 ∧ (∀ c ∈ schM t, isAln c = true) ∧ ∀ c ∈ (schM t).take 1, isLet c = true := by
 by_cases h : ahead t ≠ [] ∧ schD (.str ⟨(ahead t).toArray⟩) = true ∧ t[(ahead t).length]? = some 58
 ·rw [(fqZ h.1 h.2.1 h.2.2).1]
  have h2 := h.2.1
  simp only [schD, Bool.and_eq_true, List.all_eq_true, decide_eq_true_eq] at h2
  exact ⟨h2.1.1.2, h2.2, h2.1.2⟩
 ·rw [(dq4 h).1]
  exact ⟨Nat.zero_le _, (fun c hc => by cases hc), fun c hc => by cases hc⟩
theorem kqc (t : List Nat) : schP t ≤ t.length := by
 by_cases h : ahead t ≠ [] ∧ schD (.str ⟨(ahead t).toArray⟩) = true ∧ t[(ahead t).length]? = some 58
 ·rw [(fqZ h.1 h.2.1 h.2.2).2, List.length_append, List.length_singleton]
  have := (List.getElem?_eq_some_iff.mp h.2.2).1
  omega
 ·rw [(dq4 h).2]; exact Nat.zero_le _
theorem oqu {t : List Nat} {x : Ad} (e : readM t = .ok x) : x.Wf := by
 obtain ⟨n1, n2, n3, n4, n5, e1, e2, e3, e4, e5, hl, es⟩ := lqS e
 have w3 := mqG e3
 have q4 := mqR e4
 have m5 := pq3 e5
 refine ⟨by rw [es]; exact nqm t, fun l z => ?_, fun i z => (mqN e2).2 i z, fun s hs => ?_, fun z => ?_, w3.2.2.2.1, fun ps z p hp => ?_, fun l z => ?_⟩
 ·obtain ⟨h1, h2, w, h3⟩ := (oqU e1).2 l z
  exact ⟨⟨List.length_pos_iff.mpr h1, h2⟩, hqQ (fun c hc => by cases hc) h3⟩
 ·obtain ⟨w, h1, h2, _⟩ := w3.2.1 s hs
  exact ⟨List.length_pos_iff.mpr h1, hqQ oqT h2⟩
 ·refine w3.2.2.2.2 (decide_eq_true ?_)
  rw [es] at z
  exact z
 ·obtain ⟨⟨h1, w, h2, _⟩, h3⟩ := (q4.2 ps z).1 p hp
  exact ⟨⟨List.length_pos_iff.mpr h1, hqQ mqs h2⟩, fun v ev => let ⟨w, a, _⟩ := h3 v ev; hqQ mqs a⟩
 ·obtain ⟨w, h1, _⟩ := m5.2 l z
  exact hqQ pqi h1
theorem mqt {o : Option (List Nat)} {w r : List Nat} (h : HouW o w) (h1 : o ≠ none → Stops [] r) (h2 : o = none → ¬ r.take 2 = [47, 47]) : houM (w ++ r) = .ok (o, w.length) := by
 cases o with
 | none =>
  have h : w = [] := h
  subst h
  unfold houM
  rw [List.nil_append, if_neg (h2 rfl)]; rfl
 | some s =>
  obtain ⟨v, rfl, hv, hne, hl⟩ := h
  unfold houM
  rw [if_pos (by simp)]
  have e : txtM [] (v ++ r) (some 60) = .ok (s, v.length) := fqs hv (.inl (h1 (by simp))) (fun m e => by cases e; exact hl)
  have e2 : filM [] (v ++ r) (some 60) = .ok (s, v.length) := by unfold filM; rw [e]; exact if_neg hne
  show sh 2 (mp some (filM [] (v ++ r) (some 60))) = _
  rw [e2]
  show Except.ok (some s, 2 + v.length) = _
  simp only [List.length_cons]
  rw [Nat.add_comm]
theorem kq4 : ∀ (ds dn r : List Nat), (∀ c ∈ ds, 48 ≤ c ∧ c ≤ 57) → (∀ c, r.head? = some c → ¬ (48 ≤ c ∧ c ≤ 57)) → (ds ≠ [] → 0 < valD dn) → valD (dn ++ ds) ≤ 65535 → dooG (ds ++ r) (valD dn) = (valD (dn ++ ds), ds.length)
 | [], dn, r, _, h2, _, _ => by
  rw [List.nil_append, List.append_nil]
  cases r with
  | nil => rfl
  | cons c r => unfold dooG; rw [if_neg (fun z => h2 c rfl ⟨z.2.1, z.2.2.1⟩)]; rfl
 | c :: ds, dn, r, h1, h2, h3, h4 => by
  have hc := h1 c (List.mem_cons_self ..)
  have h0 := h3 (by simp)
  have hle := kqe ds (dn ++ [c])
  rw [List.append_assoc] at hle
  have hle : valD (dn ++ [c]) ≤ valD (dn ++ c :: ds) := hle
  rw [eqp] at hle
  have ih := kq4 ds (dn ++ [c]) r (fun x hx => h1 x (List.mem_cons_of_mem _ hx)) h2 (fun _ => by rw [eqp]; omega) (by rw [List.append_assoc]; exact h4)
  rw [eqp, List.append_assoc] at ih
  show dooG (c :: (ds ++ r)) (valD dn) = _
  unfold dooG
  rw [if_pos ⟨h0, hc.1, hc.2, by omega⟩, ih]
  rfl
theorem oqx {o : Option Int} {w r : List Nat} (h : DooW o w) (h1 : ∀ c, r.head? = some c → ¬ (48 ≤ c ∧ c ≤ 57)) (h2 : o = none → r.head? ≠ some 58) : dooM (w ++ r) = .ok (o, w.length) := by
 cases o with
 | none =>
  have h : w = [] := h
  subst h
  unfold dooM
  rw [List.nil_append, if_neg (h2 rfl)]; rfl
 | some n =>
  obtain ⟨ds, rfl, hne, hf, rfl, hl, hz⟩ := h
  cases ds with
  | nil => exact absurd rfl hne
  | cons c ds =>
   have hc := hf c (List.mem_cons_self ..)
   unfold dooM
   rw [if_pos (by simp)]
   show (if 48 ≤ c ∧ c ≤ 57 then (.ok (some ((dooG (ds ++ r) (c - 48)).1 : Int), 2 + (dooG (ds ++ r) (c - 48)).2) : Rs (Option Int)) else .error 1) = _
   have e0 : valD [c] = c - 48 := by unfold valD; simp
   have e := kq4 ds [c] r (fun x hx => hf x (List.mem_cons_of_mem _ hx)) h1 (fun hd => by
    rcases hz with z | z
    ·cases ds with
     | nil => exact absurd rfl hd
     | cons _ _ => cases z
    ·rw [e0]
     have : c ≠ 48 := fun q => z (by rw [q]; rfl)
     omega) hl
   rw [e0] at e
   rw [if_pos hc, e]
   show Except.ok (some ((valD (c :: ds) : Nat) : Int), 2 + ds.length) = _
   simp only [List.length_cons]
   rw [Nat.add_comm 2 ds.length]
theorem kqF {ss : List (List Nat)} {e : Bool} {v rest : List Nat} (h2 : Stops frS rest) (h3 : rest.head? ≠ some 47) (h : StpW ss e v) : ∀ (f : Nat) (en : Bool), v.length < f → (ss = [] → e = en) → stpF f (v ++ rest) en = .ok ((ss, e), v.length) := by
 have tl : ∀ (ss : List (List Nat)) (e : Bool) (v : List Nat), TlW ss e v → ∀ (s w : List Nat) (f : Nat) (en : Bool), WrT frS s w → s ≠ [] → (w ++ v).length < f → stpF f (w ++ v ++ rest) en = .ok ((s :: ss, e), (w ++ v).length) := by
  intro ss e v ht
  have done : ∀ (f : Nat) (en : Bool), 0 < f → stpF f rest en = .ok (([], en), 0) := fun f en hf => by
   obtain ⟨k, rfl⟩ : ∃ k, f = k + 1 := ⟨f - 1, by omega⟩
   unfold stpF
   rw [eqO h2]; rfl
  have first : ∀ (s w v : List Nat) (f : Nat) (en : Bool), WrT frS s w → s ≠ [] → TlW ss e v → stpF (f + 1) (w ++ v ++ rest) en = if (v ++ rest).head? = some 47 then sh (w.length + 1) (mp (fun x => (s :: x.1, x.2)) (stpF f ((v ++ rest).drop 1) true)) else sh w.length (mp (fun x => (s :: x.1, x.2)) (stpF f (v ++ rest) false)) := fun s w v f en hw hs ht => by
   conv => lhs; unfold stpF
   rw [List.append_assoc, fqs hw (.inl (iq3 ht h2)) (fun m z => by cases z)]
   show (if s = [] then _ else _) = _
   rw [if_neg hs, List.drop_left, show (w ++ (v ++ rest)).drop (w.length + 1) = (v ++ rest).drop 1 by rw [← List.drop_drop, List.drop_left]]
  induction ht with
  | stop =>
   intro s w f en hw hs hf
   obtain ⟨k, rfl⟩ : ∃ k, f = k + 1 := ⟨f - 1, by omega⟩
   obtain ⟨c, r, rfl, _⟩ := jqo hw hs
   rw [first s _ [] k en hw hs .stop, List.nil_append, if_neg h3, done k false (by simp at hf; omega), List.append_nil]
   rfl
  | ends =>
   intro s w f en hw hs hf
   obtain ⟨k, rfl⟩ : ∃ k, f = k + 1 := ⟨f - 1, by omega⟩
   rw [first s w [47] k en hw hs .ends]
   show (if (47 :: rest).head? = some 47 then _ else _) = _
   rw [if_pos List.head?_cons]
   show sh (w.length + 1) (mp _ (stpF k rest true)) = _
   rw [done k true (by simp at hf; omega), List.length_append]
   rfl
  | more hw2 hs2 ht2 ih =>
   rename_i s2 w2 ss2 e2 v2
   intro s w f en hw hs hf
   obtain ⟨k, rfl⟩ : ∃ k, f = k + 1 := ⟨f - 1, by omega⟩
   rw [first s w _ k en hw hs (.more hw2 hs2 ht2)]
   show (if (47 :: (w2 ++ v2 ++ rest)).head? = some 47 then _ else _) = _
   rw [if_pos List.head?_cons]
   show sh (w.length + 1) (mp _ (stpF k (w2 ++ v2 ++ rest) true)) = _
   have ih2 := ih (fun s w v f en a b c => by
    conv => lhs; unfold stpF
    rw [List.append_assoc, fqs a (.inl (iq3 c h2)) (fun m z => by cases z)]
    show (if s = [] then _ else _) = _
    rw [if_neg b, List.drop_left, show (w ++ (v ++ rest)).drop (w.length + 1) = (v ++ rest).drop 1 by rw [← List.drop_drop, List.drop_left]]) s2 w2 k true hw2 hs2 (by simp only [List.length_append, List.length_cons] at hf ⊢; omega)
   rw [ih2]
   show Except.ok ((s :: s2 :: ss2, e2), w.length + 1 + (w2 ++ v2).length) = _
   simp only [List.length_append, List.length_cons]
   rw [show w.length + 1 + (w2.length + v2.length) = w.length + (w2.length + v2.length + 1) by omega]
 intro f en hf hen
 cases h with
 | none =>
  obtain ⟨k, rfl⟩ : ∃ k, f = k + 1 := ⟨f - 1, by omega⟩
  unfold stpF
  rw [List.nil_append, eqO h2, hen rfl]; rfl
 | some hw hs ht => exact tl _ _ _ ht _ _ f en hw hs hf
theorem pqU {ss : List (List Nat)} {e rt must : Bool} {v rest : List Nat} (h : StpW ss e v) (he : ss = [] → e = rt) (hm : must = true → rt = true) (h2 : Stops frS rest) (h3 : rest.head? ≠ some 47) :
  wayM must ((if rt then [47] else []) ++ (v ++ rest)) = .ok ((rt, ss, e), (if rt then [47] else []).length + v.length) := by
 unfold wayM
 cases rt with
 | true =>
  show (if (47 :: (v ++ rest)).head? = some 47 then _ else _) = _
  rw [if_pos List.head?_cons]
  show sh 1 (mp _ (stpF _ (v ++ rest) true)) = _
  rw [kqF h2 h3 h _ true (by simp; omega) he]
  rfl
 | false =>
  show (if (v ++ rest).head? = some 47 then _ else _) = _
  rw [if_neg (jqu h h3), if_neg (fun z => by cases hm z)]
  show mp _ (stpF _ (v ++ rest) false) = _
  rw [kqF h2 h3 h _ false (by simp; omega) he]
  show Except.ok ((false, ss, e), v.length) = Except.ok ((false, ss, e), 0 + v.length)
  rw [Nat.zero_add]
theorem mql {o : Option (List Nat)} {w r : List Nat} (h : ValW o w) (h1 : Stops frQ r) (h2 : r.head? ≠ some 61) : valM (w ++ r) = .ok (o, w.length) := by
 cases o with
 | none =>
  have h : w = [] := h
  subst h
  unfold valM
  rw [List.nil_append, if_neg h2]; rfl
 | some s =>
  obtain ⟨v, rfl, hv⟩ := h
  unfold valM
  rw [if_pos (by simp)]
  show sh 1 (mp some (txtM frQ (v ++ r) none)) = _
  rw [fqs hv (.inl h1) (fun m z => by cases z)]
  show Except.ok (some s, 1 + v.length) = _
  rw [List.length_cons, Nat.add_comm]
theorem pqE {o : Option (List Nat)} {w : List Nat} (h : MarW o w) : marM w = .ok (o, w.length) := by
 cases o with
 | none =>
  have h : w = [] := h
  subst h
  rfl
 | some s =>
  obtain ⟨v, rfl, hv⟩ := h
  unfold marM
  rw [if_pos (by simp)]
  show sh 1 (mp some (txtM frM v none)) = _
  have := fqs (r := []) hv (.inl dq1) (mo := none) (fun m z => by cases z)
  rw [List.append_nil] at this
  rw [this]
  show Except.ok (some s, 1 + v.length) = _
  rw [List.length_cons, Nat.add_comm]
theorem pqQ {rest : List Nat} (hr : rest = [] ∨ ∃ x, rest = 35 :: x) {ps : List (List Nat × Option (List Nat))} {w : List Nat} (h : PrsW ps w) : ∀ f, w.length < f → prsF f (w ++ rest) = .ok (ps, w.length) := by
 induction h with
 | nil =>
  intro f hf
  obtain ⟨k, rfl⟩ : ∃ k, f = k + 1 := ⟨f - 1, by omega⟩
  unfold prsF
  rw [List.nil_append, if_neg (by rcases hr with rfl | ⟨x, rfl⟩ <;> simp)]
  rfl
 | cons hw hn hv hp ih =>
  rename_i n w v o ps r
  intro f hf
  obtain ⟨k, rfl⟩ : ∃ k, f = k + 1 := ⟨f - 1, by omega⟩
  have hst := gqo hp hr
  unfold prsF
  rw [show (38 :: (w ++ (v ++ r)) ++ rest) = 38 :: (w ++ (v ++ (r ++ rest))) by simp, if_pos List.head?_cons]
  have e1 : filM frQ (w ++ (v ++ (r ++ rest))) none = .ok (n, w.length) := by
   unfold filM
   rw [fqs hw (.inl (hq0 hv hst.1)) (fun m z => by cases z)]
   exact if_neg hn
  show sh 1 (bdR (filM frQ (w ++ (v ++ (r ++ rest))) none) _) = _
  rw [e1]
  show sh 1 (sh w.length (bdR (valM ((38 :: (w ++ (v ++ (r ++ rest)))).drop (1 + w.length))) _)) = _
  have d1 : (38 :: (w ++ (v ++ (r ++ rest)))).drop (1 + w.length) = v ++ (r ++ rest) := by rw [Nat.add_comm, List.drop_succ_cons, List.drop_left]
  rw [d1, mql hv hst.1 hst.2]
  show sh 1 (sh w.length (sh v.length (mp _ (prsF k ((38 :: (w ++ (v ++ (r ++ rest)))).drop (1 + w.length + v.length)))))) = _
  rw [← List.drop_drop, d1, List.drop_left, ih k (by simp only [List.length_cons, List.length_append] at hf; omega)]
  show Except.ok ((n, o) :: ps, 1 + (w.length + (v.length + r.length))) = _
  simp only [List.length_cons, List.length_append]
  rw [Nat.add_comm 1]
theorem oqy {rest : List Nat} (hr : rest = [] ∨ ∃ x, rest = 35 :: x) {q : Option (List (List Nat × Option (List Nat)))} {w : List Nat} (h : QueW q w) : queM (w ++ rest) = .ok (q, w.length) := by
 have h63 : rest.head? ≠ some 63 := by rcases hr with rfl | ⟨x, rfl⟩ <;> simp
 match q, h with
 | none, h =>
  have h : w = [] := h
  subst h
  unfold queM
  rw [List.nil_append, if_neg h63]; rfl
 | some [], h =>
  have h : w = [63] := h
  subst h
  unfold queM
  rw [show [63] ++ rest = 63 :: rest from rfl, if_pos List.head?_cons]
  show sh 1 (bdR (txtM frQ rest none) _) = _
  rw [eqO (show Stops frQ rest from (gqo .nil hr).1)]
  rfl
 | some ((n, o) :: ps), h =>
  obtain ⟨a, v, r, rfl, ha, hn, hv, hps⟩ := h
  have hst := gqo hps hr
  unfold queM
  rw [show (63 :: (a ++ (v ++ r)) ++ rest) = 63 :: (a ++ (v ++ (r ++ rest))) by simp, if_pos List.head?_cons]
  show sh 1 (bdR (txtM frQ (a ++ (v ++ (r ++ rest))) none) _) = _
  rw [fqs ha (.inl (hq0 hv hst.1)) (fun m z => by cases z)]
  show sh 1 (sh a.length (if n = [] then _ else bdR (valM ((63 :: (a ++ (v ++ (r ++ rest)))).drop (1 + a.length))) _)) = _
  have d1 : (63 :: (a ++ (v ++ (r ++ rest)))).drop (1 + a.length) = v ++ (r ++ rest) := by rw [Nat.add_comm, List.drop_succ_cons, List.drop_left]
  rw [if_neg hn, d1, mql hv hst.1 hst.2]
  show sh 1 (sh a.length (sh v.length (mp _ (prsF _ ((63 :: (a ++ (v ++ (r ++ rest)))).drop (1 + a.length + v.length)))))) = _
  rw [← List.drop_drop, d1, List.drop_left, pqQ hr hps _ (by simp only [List.length_cons, List.length_append]; omega)]
  show Except.ok (some ((n, o) :: ps), 1 + (a.length + (v.length + r.length))) = _
  simp only [List.length_cons, List.length_append]
  rw [Nat.add_comm 1]
def RdV (x : Ad) (t : List Nat) : Prop := ∃ h d g w q m, t = schT x.scheme ++ (h ++ (d ++ (g ++ (w ++ (q ++ m))))) ∧ schM t = x.scheme ∧ HouW x.house h ∧ DooW x.door d ∧ (g = (if x.rooted then [47] else []) ∨ (g = [] ∧ x.rooted = true ∧ x.steps = [] ∧ (x.scheme ≠ [] ∨ x.house ≠ none))) ∧ StpW x.steps x.ends w ∧ QueW x.quest q ∧ MarW x.mark m
theorem lqA {x : Ad} {t : List Nat} (hw : RdV x t) (wf : x.Wf) : readM t = .ok x := by
 obtain ⟨hT, dT, gT, wT, qT, mT, et, es, hH, hD, hG, hS, hQ, hM⟩ := hw
 have hmr : mT = [] ∨ ∃ y, mT = 35 :: y := by
  cases hm : x.mark with
  | none => rw [hm] at hM; exact .inl hM
  | some s => rw [hm] at hM; obtain ⟨v, e, _⟩ := hM; exact .inr ⟨v, e⟩
 have hrq : qT ++ mT = [] ∨ (∃ y, qT ++ mT = 35 :: y) ∨ ∃ y, qT ++ mT = 63 :: y := by
  cases hq : x.quest with
  | none =>
   rw [hq] at hQ
   have hQ : qT = [] := hQ
   rw [hQ]
   rcases hmr with e | ⟨y, e⟩
   ·exact .inl e
   ·exact .inr (.inl ⟨y, e⟩)
  | some ps =>
   rw [hq] at hQ
   cases ps with
   | nil =>
    have hQ : qT = [63] := hQ
    exact .inr (.inr ⟨mT, by rw [hQ]; rfl⟩)
   | cons a ps =>
    obtain ⟨n, o⟩ := a
    obtain ⟨a, v, r, e, _⟩ := hQ
    exact .inr (.inr ⟨_, by rw [e]; rfl⟩)
 have eP : schP t = (schT x.scheme).length := by unfold schP; rw [es]
 have dr : ∀ {a b : List Nat}, t = a ++ b → t.drop a.length = b := fun {a b} e => by rw [e, List.drop_left]
 have hrt : x.house ≠ none → x.rooted = true := fun z => wf.roo (.inr z)
 have hq47 : (qT ++ mT).head? ≠ some 47 := fun z => by rcases hrq with e | ⟨y, e⟩ | ⟨y, e⟩ <;> rw [e] at z <;> cases z
 have hqS : ∀ fr : List Nat, (35 : Nat) ∉ fr → (63 : Nat) ∉ fr → Stops fr (qT ++ mT) := fun fr h1 h2 => by
  rcases hrq with e | ⟨y, e⟩ | ⟨y, e⟩ <;> rw [e]
  ·exact dq1
  ·exact aqP ⟨by decide, h1, by decide⟩
  ·exact aqP ⟨by decide, h2, by decide⟩
 have h47 := jqu hS hq47
 have omtd : gT = [] ∧ x.rooted = true ∧ x.steps = [] ∧ (x.scheme ≠ [] ∨ x.house ≠ none) → wT = [] := fun z => by
  rw [z.2.2.1] at hS
  generalize x.ends = en at hS
  cases hS
  rfl
 have behind : x.house ≠ none → (∃ y, gT ++ (wT ++ (qT ++ mT)) = 47 :: y) ∨ gT ++ (wT ++ (qT ++ mT)) = qT ++ mT := fun z => by
  rcases hG with e | e
  ·rw [e, hrt z]; exact .inl ⟨_, rfl⟩
  ·rw [e.1, omtd e]; exact .inr rfl
 have e1 : houM (t.drop (schP t)) = .ok (x.house, hT.length) := by
  rw [eP, dr et]
  refine mqt hH (fun hn => ?_) (fun hn => ?_)
  ·cases hdo : x.door with
   | none =>
    rw [hdo] at hD
    have hD : dT = [] := hD
    rw [hD, List.nil_append]
    rcases behind hn with ⟨y, e⟩ | e
    ·rw [e]; exact aqP ⟨by decide, by simp, by decide⟩
    ·rw [e]; exact hqS [] (by simp) (by simp)
   | some n =>
    rw [hdo] at hD
    obtain ⟨ds, rfl, _⟩ := hD
    exact aqP ⟨by decide, by simp, by decide⟩
  ·cases hdo : x.door with
   | some n => exact absurd hn (wf.doo n hdo).2
   | none =>
    rw [hdo] at hD
    have hD : dT = [] := hD
    rw [hD, List.nil_append]
    have no : ∀ l : List Nat, l.head? ≠ some 47 → ¬ l.take 2 = [47, 47] ∧ ¬ (47 :: l).take 2 = [47, 47] := fun l hl => by
     cases l with
     | nil => simp
     | cons c l =>
      have hc : c ≠ 47 := fun z => hl (by rw [z]; rfl)
      simp [hc]
    rcases hG with e | e
    ·rw [e]
     cases x.rooted with
     | true => exact (no _ h47).2
     | false => exact (no _ h47).1
    ·rw [e.1]; exact (no _ h47).1
 have e2 : dorM x.house (t.drop (schP t + hT.length)) = .ok (x.door, dT.length) := by
  rw [eP, ← List.length_append, dr (b := dT ++ (gT ++ (wT ++ (qT ++ mT)))) (by rw [et]; simp)]
  unfold dorM
  by_cases hn : x.house = none
  ·rw [if_pos hn]
   cases hdo : x.door with
   | some n => exact absurd hn (wf.doo n hdo).2
   | none =>
    rw [hdo] at hD
    have hD : dT = [] := hD
    rw [hD]; rfl
  ·rw [if_neg hn]
   refine oqx hD (fun c hc => ?_) (fun _ => ?_)
   ·rcases behind hn with ⟨y, e⟩ | e
    ·rw [e] at hc; cases hc; decide
    ·rw [e] at hc
     rcases hrq with e | ⟨y, e⟩ | ⟨y, e⟩ <;> rw [e] at hc <;> cases hc <;> decide
   ·rcases behind hn with ⟨y, e⟩ | e
    ·rw [e]; simp
    ·rw [e]
     rcases hrq with e | ⟨y, e⟩ | ⟨y, e⟩ <;> rw [e] <;> simp
 have e3 : wayM (decide (schM t ≠ [] ∨ x.house ≠ none)) (t.drop (schP t + hT.length + dT.length)) = .ok ((x.rooted, x.steps, x.ends), gT.length + wT.length) := by
  rw [eP, ← List.length_append, ← List.length_append, dr (b := gT ++ (wT ++ (qT ++ mT))) (by rw [et]; simp), es]
  rcases hG with e | e
  ·rw [e]
   exact pqU hS wf.end_ (fun z => wf.roo (of_decide_eq_true z)) (hqS frS (by decide +kernel) (by decide +kernel)) hq47
  ·rw [e.1, omtd e, List.nil_append, List.nil_append]
   unfold wayM
   rw [if_neg hq47, if_pos (decide_eq_true e.2.2.2), wf.end_ e.2.2.1, e.2.1, e.2.2.1]
   rfl
 have e4 : queM (t.drop (schP t + hT.length + dT.length + (gT.length + wT.length))) = .ok (x.quest, qT.length) := by
  rw [eP, ← List.length_append, ← List.length_append, ← List.length_append, ← List.length_append, dr (b := qT ++ mT) (by rw [et]; simp)]
  exact oqy hmr hQ
 have e5 : marM (t.drop (schP t + hT.length + dT.length + (gT.length + wT.length) + qT.length)) = .ok (x.mark, mT.length) := by
  rw [eP, ← List.length_append, ← List.length_append, ← List.length_append, ← List.length_append, ← List.length_append, dr (b := mT) (by rw [et]; simp)]
  exact pqE hM
 rw [jqn e1 e2 e3 e4 e5, if_pos, es]
 rw [eP]
 have := congrArg List.length et
 simp only [List.length_append] at this
 omega
end Wm
namespace Wm
open PySem PySem.StrLaws PySem.Builtin PySem.Builtin.Str
def blkX (b : Bool) : List Nat := if b then [126, 50, 48] else [98]
def blkY (b : Bool) : List Nat := if b then [32] else [98]
def bX (bs : List Bool) : List Nat := bs.flatMap blkX
def bY (bs : List Bool) : List Nat := bs.flatMap blkY
def bP : List Bool → Nat → List Nat
 | [], _ => []
 | false :: bs, i => bP bs (i + 1)
 | true :: bs, i => i :: bP bs (i + 3)
theorem mqf {s sub : Str} {hi lim a free : Nat} {l : List Nat} {st : Array Nat} (h : ¬ (((st.size < lim ∧ free ≤ a) ∧ a + sub.length ≤ hi) ∧ subAt s sub a = true)) : (forIn (a :: l) (st, free) (occBody s sub hi lim)).run = (forIn l (st, free) (occBody s sub hi lim)).run := by
 have e : occBody s sub hi lim a (st, free) = pure (ForInStep.yield (st, free)) := if_neg h
 rw [List.forIn_cons, e]
 rfl
theorem oqG {s sub : Str} {hi lim a free : Nat} {l : List Nat} {st : Array Nat} (h : ((st.size < lim ∧ free ≤ a) ∧ a + sub.length ≤ hi) ∧ subAt s sub a = true) : (forIn (a :: l) (st, free) (occBody s sub hi lim)).run = (forIn l (st.push a, a + sub.length) (occBody s sub hi lim)).run := by
 have e : occBody s sub hi lim a (st, free) = pure (ForInStep.yield (st.push a, a + sub.length)) := if_pos h
 rw [List.forIn_cons, e]
 rfl
theorem strEq {a b : Str} (h : a.cps = b.cps) : a = b := by cases a; cases b; cases h; rfl
def sub20 : Str := ⟨#[126, 50, 48]⟩
theorem fqp {s : Str} : ∀ (bs : List Bool) (pre : List Nat) (st : Array Nat) (free : Nat), s.cps.toList = pre ++ bX bs → free ≤ pre.length → st.size ≤ pre.length →
  (forIn (List.range' pre.length ((bX bs).length + 1)) (st, free) (occBody s sub20 s.length (s.length + 1))).run.fst.toList = st.toList ++ bP bs pre.length
 | [], pre, st, free, hs, hf, hz => by
  have hn : s.length = pre.length := by
   show s.cps.size = _
   rw [← Array.length_toList, hs]
   simp [bX]
  have : (bX []).length + 1 = 1 := rfl
  rw [this, List.range'_succ, mqf (fun h => by have := h.1.2; rw [hn] at this; exact absurd this (by show ¬ pre.length + 3 ≤ _; omega))]
  show st.toList = st.toList ++ []
  simp
 | false :: bs, pre, st, free, hs, hf, hz => by
  have e : bX (false :: bs) = 98 :: bX bs := rfl
  rw [e] at hs
  have hc : subAt s sub20 pre.length = false := by
   rw [subAt_eq, hs, List.drop_left]
   rfl
  rw [e, List.length_cons, List.range'_succ, mqf (fun h => by rw [hc] at h; exact absurd h.2 (by decide))]
  have := fqp bs (pre ++ [98]) st free (by rw [hs]; simp) (by rw [List.length_append]; omega) (by rw [List.length_append]; omega)
  rw [List.length_append] at this
  exact this
 | true :: bs, pre, st, free, hs, hf, hz => by
  have e : bX (true :: bs) = 126 :: 50 :: 48 :: bX bs := rfl
  rw [e] at hs
  have hn : s.length = pre.length + ((bX bs).length + 3) := by
   show s.cps.size = _
   rw [← Array.length_toList, hs]
   simp
  have hc : subAt s sub20 pre.length = true := by
   rw [subAt_eq, hs, List.drop_left]
   rfl
  have l3 : sub20.length = 3 := rfl
  rw [e, List.length_cons, List.length_cons, List.length_cons, List.range'_succ, oqG ⟨⟨⟨by omega, hf⟩, by rw [l3]; omega⟩, hc⟩, List.range'_succ, mqf (fun h => by have := h.1.1.2; rw [l3] at this; omega), List.range'_succ, mqf (fun h => by have := h.1.1.2; rw [l3] at this; omega)]
  have := fqp bs (pre ++ [126, 50, 48]) (st.push pre.length) (pre.length + 3) (by rw [hs]; simp) (by rw [List.length_append]; simp) (by rw [List.length_append, Array.size_push]; simp; omega)
  rw [List.length_append] at this
  rw [l3]
  refine (show _ = _ from this).trans ?_
  simp [bP]
theorem nqo (bs : List Bool) : occurrences ⟨(bX bs).toArray⟩ sub20 0 (bX bs).length ((bX bs).length + 1) = bP bs 0 := by
 rw [occ_eq]
 have := fqp (s := ⟨(bX bs).toArray⟩) bs [] #[] 0 (by simp) (Nat.le_refl _) (Nat.le_refl _)
 have e : (⟨(bX bs).toArray⟩ : Str).length = (bX bs).length := by show (bX bs).toArray.size = _; simp
 rw [e] at this
 simpa using this
def prt (s : List Nat) : Nat → List Nat → List (List Nat)
 | a, [] => [s.drop a]
 | a, c :: cs => (s.drop a).take (c - a) :: prt s (c + 3) cs
theorem mqQ (s : List Nat) : ∀ (cs : List Nat) (a : Nat), (((a :: cs.map (· + 3)).zip (cs ++ [s.length])).map fun (i, j) => strSub ⟨s.toArray⟩ i j) = (prt s a cs).map fun l => (⟨l.toArray⟩ : Str)
 | [], a => by
  show [strSub _ _ _] = [_]
  congr 1
  apply strEq
  apply Array.toList_inj.mp
  rw [strSub_toList]
  exact List.take_of_length_le (by rw [List.length_drop]; exact Nat.le_refl _)
 | c :: cs, a => by
  show strSub _ _ _ :: _ = _ :: _
  congr 1
  ·apply strEq
   apply Array.toList_inj.mp
   rw [strSub_toList]
  ·exact mqQ s cs (c + 3)
def jn : List (List Nat) → List Nat
 | [] => []
 | [p] => p
 | p :: q :: r => p ++ 32 :: jn (q :: r)
theorem pqp (s : List Nat) (a : Nat) (cs : List Nat) : ∃ q r, prt s a cs = q :: r := by cases cs <;> exact ⟨_, _, rfl⟩
theorem jq5 : ∀ (bs : List Bool) (pre s : List Nat) (a : Nat), s = pre ++ bX bs → a ≤ pre.length → jn (prt s a (bP bs pre.length)) = pre.drop a ++ bY bs
 | [], pre, s, a, hs, ha => by
  subst hs
  show (pre ++ []).drop a = pre.drop a ++ []
  simp
 | false :: bs, pre, s, a, hs, ha => by
  have := jq5 bs (pre ++ [98]) s a (by rw [hs]; simp [bX, blkX]) (by rw [List.length_append]; omega)
  rw [List.length_append] at this
  refine (show _ = _ from this).trans ?_
  rw [List.drop_append_of_le_length ha]
  simp [bY, blkY]
 | true :: bs, pre, s, a, hs, ha => by
  have := jq5 bs (pre ++ [126, 50, 48]) s (pre.length + 3) (by rw [hs]; simp [bX, blkX]) (by rw [List.length_append]; simp)
  rw [List.length_append] at this
  show jn ((s.drop a).take (pre.length - a) :: prt s (pre.length + 3) (bP bs (pre.length + 3))) = _
  obtain ⟨q, r, e⟩ := pqp s (pre.length + 3) (bP bs (pre.length + 3))
  rw [e]
  show (s.drop a).take (pre.length - a) ++ 32 :: jn (q :: r) = _
  rw [← e]
  have this : jn (prt s (pre.length + 3) (bP bs (pre.length + 3))) = bY bs := by
   refine (show _ = _ from this).trans ?_
   rw [List.drop_of_length_le (by rw [List.length_append]; simp)]
   rfl
  rw [this, hs, List.drop_append_of_le_length ha, List.take_append_of_le_length (by rw [List.length_drop]; omega), List.take_of_length_le (by rw [List.length_drop]; omega)]
  rfl
theorem kqm : ∀ (ps : List (List Nat)), Str.join ⟨#[32]⟩ (ps.map fun l => (⟨l.toArray⟩ : Str)) = ⟨(jn ps).toArray⟩
 | [] => rfl
 | [p] => rfl
 | p :: q :: r => by
  have ih := kqm (q :: r)
  show (⟨p.toArray⟩ : Str) ++ ⟨#[32]⟩ ++ Str.join ⟨#[32]⟩ ((q :: r).map fun l => (⟨l.toArray⟩ : Str)) = _
  rw [ih]
  apply strEq
  apply Array.toList_inj.mp
  simp [Str.cps_append, jn]
theorem mqh (bs : List Bool) : glued ⟨#[32]⟩ (partsBetween ⟨(bX bs).toArray⟩ (bP bs 0) 3) = ⟨(bY bs).toArray⟩ := by
 rw [glued_eq_join]
 have e : (⟨(bX bs).toArray⟩ : Str).length = (bX bs).length := by show (bX bs).toArray.size = _; simp
 unfold partsBetween
 rw [e]
 show Str.join _ (((0 :: (bP bs 0).map (· + 3)).zip (bP bs 0 ++ [(bX bs).length])).map fun (i, j) => strSub ⟨(bX bs).toArray⟩ i j) = _
 have := jq5 bs [] (bX bs) 0 rfl (Nat.le_refl _)
 rw [mqQ, kqm, show jn (prt (bX bs) 0 (bP bs 0)) = _ from this]
 rfl
theorem mqk : ∀ (bs : List Bool) (i : Nat), bP bs i = [] → bX bs = bY bs
 | [], _, _ => rfl
 | false :: bs, i, h => by
  have := mqk bs (i + 1) h
  show 98 :: bX bs = 98 :: bY bs
  rw [this]
 | true :: bs, i, h => by cases h
theorem oql (bs : List Bool) : Txt.replace ⟨(bX bs).toArray⟩ sub20 ⟨#[32]⟩ = ⟨(bY bs).toArray⟩ := by
 have e : (⟨(bX bs).toArray⟩ : Str).length = (bX bs).length := by show (bX bs).toArray.size = _; simp
 unfold Txt.replace
 rw [e, nqo]
 cases h : bP bs 0 with
 | nil =>
  rw [if_pos (by simp), mqk bs 0 h]
 | cons a r =>
  rw [if_neg (by show ¬ (false || false) = true; simp), ← h]
  exact mqh bs
end Wm
namespace L2
open PySem PySem.Spec PyProof.Rows
section
variable {X : Cx}
def PE1 (X : Cx) (e : Expr) (t : TE) : Prop := ∀ (pins : List (Addr × Obj)) (s : Shared) (σ : St) (H : Hp) (Q : VK), s.toks ≠ 0 → Inv X pins σ H s → t σ H Q →
  wpAny (model X.prog X.w) X.A (eval e X.env) (EP X pins σ Q) X.xe s
theorem oqD {c : Str} {j : Nat} {cp : Pos} {e : Expr} {es : List Expr} {te : TE} {t : TA} (he : PE1 X e te) (hr : PA X es t)
  (hs : starEach (.Constant (.str c) j cp :: e :: es) X.env = (false, eval (.Constant (.str c) j cp) X.env) :: (false, eval e X.env) :: starEach es X.env := by rfl) : PA X (.Constant (.str c) j cp :: e :: es) (tCons (tC (.str c)) (tCons te t)) := by
 intro at_ pins s σ H Q I h
 rw [hs]
 show wpAny _ _ (spliced ((false, eval (.Constant (.str c) j cp) X.env) :: (false, eval e X.env) :: backTo at_ (starEach es X.env))) _ _ s
 refine Calls.spliced_cons (Calls.Constant_str ?_)
 refine Calls.spliced_cons (thn (he pins _ σ H _ (Nat.succ_ne_zero _) (I.tok _) h) ?_)
 rintro u s1 ⟨x, H1, I1, r1, q1⟩
 refine thn (hr at_ pins s1 σ H1 _ I1 q1) ?_
 rintro us s2 ⟨xs, H2, I2, r2, q2⟩
 exact ⟨.str c :: x :: xs, H2, I2, .cons ⟨_, rfl⟩ (.cons r1 r2), q2⟩
def tRepl (i : Nat) (a b : Str) : TE := fun σ H Q => ∃ z : Str, σ[i]? = some (some (.str z)) ∧ z.length ≤ 100000 ∧ Q (.str (Txt.replace z a b)) H
theorem oqq {i : Nat} {x : Str} {pos : Pos} {v : V} {pins : List (Addr × Obj)} {s : Shared} {σ : St} {H : Hp} {Q : Value → Shared → Prop} (I : Inv X pins σ H s) (hN : X.N[i]? = some x) (e : σ[i]? = some (some v)) (hv : Vis X.env.scope x)
  (hd : (x == ("__debug__" : Str)) = false) (hcd : (x == ("__classdict__" : Str)) = false) (h : ∀ u, RelV v u → Q u s) : wpAny (model X.prog X.w) X.A (eval (.Name x pos) X.env) Q X.xe s := by
 obtain ⟨m, hn, hl⟩ := I.loc
 obtain ⟨u, r, hw | ⟨hk, c, hc, hcell⟩⟩ := hl i x v hN e hv
 ·exact wpAny_Name (wpAny_loadName_local I.ok.kind hw.1 hn hw.2 (h u r)) hd
 ·cases hk with
  | inl hk => exact wpAny_Name (wpAny_loadName_cell I.ok.kind hk hc hcell (h u r)) hd
  | inr hk => exact wpAny_Name (wpAny_loadName_free I.ok.kind hk hc hcell (h u r) hcd) hd
theorem oqh (i : Nat) {x a b : Str} {np apos cpos p1 p2 : Pos} {j1 j2 : Nat} (hab : (a == b) = false) (hb : b.length ≤ 14) (hN : X.N[i]? = some x := by rfl)
  (hv : Vis X.env.scope x := by first | exact Or.inl rfl | exact Or.inr (Or.inl rfl) | exact Or.inr (Or.inr rfl))
  (hd : (x == ("__debug__" : Str)) = false := by decide) (hcd : (x == ("__classdict__" : Str)) = false := by decide)
  (hline : (apos.endLine == cpos.line) = true := by rfl) :
  PE1 X (.Call (.Attribute (.Name x np) "replace" apos) [.Constant (.str a) j1 p1, .Constant (.str b) j2 p2] [] cpos) (tRepl i a b) := by
 intro pins s σ H Q ht I h
 obtain ⟨z, e, hz, q⟩ := h
 refine wpAny_Call_method_late rfl rfl hline rfl (oqq I hN e hv hd hcd fun u r => ?_)
 obtain ⟨t, rfl⟩ := r
 refine ⟨"str", "str.replace", PySem.F.plainAttrs_str, PySem.F.slot_str_replace, PySem.F.type_str_replace, typeIs_str _ _ _, (fun _ e => by cases e), ?_⟩
 refine Calls.callWith_builtin rfl ?_
 show wpAny _ _ (evalArgs _ true ((false, eval (.Constant (.str a) j1 p1) X.env) :: [(false, eval (.Constant (.str b) j2 p2) X.env)]) []) _ _ _
 refine Calls.evalArgs_plain (Calls.spliced_cons (Calls.Constant_str (Calls.spliced_cons (Calls.Constant_str (Calls.spliced_nil ?_)))))
 exact SC.replaceW ht (Nat.succ_ne_zero _) (Nat.ne_of_lt (Nat.lt_succ_self _)) hab (by omega) hb fun t' k => ⟨.str (Txt.replace z a b), H, I.tok _, ⟨t', rfl⟩, q⟩
theorem oqi {i : Nat} {a b : Str} {σ : St} {H : Hp} {Q : VK} : (tRepl i a b σ H Q) = (∃ z : Str, σ[i]? = some (some (.str z)) ∧ z.length ≤ 100000 ∧ Q (.str (Txt.replace z a b)) H) := rfl
end
end L2
namespace Wm
open PySem L2
abbrev tV (l : List Nat) : V := .str ⟨l.toArray⟩
structure TL where
 t : List Nat
 ss : List (List Nat)
 e : Bool
 q : Option (List (List Nat × Option (List Nat)))
 m : Option (List Nat)
def tlAd (x : TL) (s : List Nat) (h : Option (List Nat)) (d : Option Int) : Ad := ⟨s, h, d, true, x.ss, x.e, x.q, x.m⟩
structure TlOk (x : TL) : Prop where
 wr : ∃ g w q m, x.t = g ++ (w ++ (q ++ m)) ∧ (g = [47] ∨ (g = [] ∧ x.ss = [])) ∧ StpW x.ss x.e w ∧ QueW x.q q ∧ MarW x.m m
 end_ : x.ss = [] → x.e = true
 stp : ∀ s ∈ x.ss, StepOk s
 que : ∀ ps, x.q = some ps → ∀ p ∈ ps, PairOk p
 mar : ∀ l, x.m = some l → ∀ c ∈ l, isSg c = true
 hd : ∀ c, x.t.head? = some c → c = 47 ∨ c = 63 ∨ c = 35
 no : 58 ∉ x.t
 len : x.t.length ≤ 5
 sg : ∀ c ∈ x.t, c < 128
def tls16 : List TL := [⟨[], [], true, none, none⟩, ⟨[47], [], true, none, none⟩, ⟨[47, 120], [[120]], false, none, none⟩, ⟨[63], [], true, some [], none⟩, ⟨[35], [], true, none, some []⟩, ⟨[47, 120, 47, 63, 121], [[120]], true, some [([121], none)], none⟩]
theorem iqe {fr : List Nat} {c : Nat} (h : isPl c = true) (h1 : c ≠ 126) : WrT fr [c] [c] := .self (.inl h) h1 .nil
theorem kqY : ∀ x ∈ tls16, TlOk x := fun x hx => by
 have n1 : ∀ s ∈ ([] : List (List Nat)), StepOk s := fun s hs => by cases hs
 have n2 : ∀ s ∈ [[120]], StepOk s := fun s hs => by
  rw [List.mem_singleton.mp hs]
  exact ⟨by decide, by decide⟩
 have n3 : ∀ ps, (none : Option (List (List Nat × Option (List Nat)))) = some ps → ∀ p ∈ ps, PairOk p := fun ps h => by cases h
 have n4 : ∀ l : List Nat, (none : Option (List Nat)) = some l → ∀ c ∈ l, isSg c = true := fun l h => by cases h
 simp only [tls16, List.mem_cons, List.not_mem_nil, or_false] at hx
 rcases hx with rfl | rfl | rfl | rfl | rfl | rfl
 ·exact ⟨⟨[], [], [], [], rfl, .inr ⟨rfl, rfl⟩, .none, rfl, rfl⟩, fun _ => rfl, n1, n3, n4, by decide, by decide, by decide, by decide⟩
 ·exact ⟨⟨[47], [], [], [], rfl, .inl rfl, .none, rfl, rfl⟩, fun _ => rfl, n1, n3, n4, (fun c h => by cases h; decide), by decide, by decide, by decide⟩
 ·exact ⟨⟨[47], [120], [], [], rfl, .inl rfl, .some (v := []) (iqe (by decide) (by decide)) (by decide) .stop, rfl, rfl⟩, (fun h => by cases h), n2, n3, n4, (fun c h => by cases h; decide), by decide, by decide, by decide⟩
 ·exact ⟨⟨[], [], [63], [], rfl, .inr ⟨rfl, rfl⟩, .none, rfl, rfl⟩, fun _ => rfl, n1, (fun ps h p hp => by cases h; cases hp), n4, (fun c h => by cases h; decide), by decide, by decide, by decide⟩
 ·exact ⟨⟨[], [], [], [35], rfl, .inr ⟨rfl, rfl⟩, .none, rfl, ⟨[], rfl, .nil⟩⟩, fun _ => rfl, n1, n3, (fun l h c hc => by cases h; cases hc), (fun c h => by cases h; decide), by decide, by decide, by decide⟩
 ·refine ⟨⟨[47], [120, 47], [63, 121], [], rfl, .inl rfl, .some (v := [47]) (iqe (by decide) (by decide)) (by decide) .ends, ⟨[121], [], [], rfl, iqe (by decide) (by decide), by decide, rfl, .nil⟩, rfl⟩, (fun h => by cases h), n2, fun ps h p hp => ?_, n4, (fun c h => by cases h; decide), by decide, by decide, by decide⟩
  cases h
  rw [List.mem_singleton.mp hp]
  exact ⟨⟨by decide, by decide⟩, fun v h => by cases h⟩
theorem mqU {x : TL} (ok : TlOk x) {s : List Nat} {h : Option (List Nat)} {d : Option Int} (h1 : s.length ≤ 8 ∧ (∀ c ∈ s, isAln c = true) ∧ ∀ c ∈ s.take 1, isLet c = true) (h2 : ∀ l, h = some l → (0 < l.length ∧ l.length ≤ 60) ∧ ∀ c ∈ l, isSg c = true) (h3 : ∀ i, d = some i → (0 ≤ i ∧ i ≤ 65535) ∧ h ≠ none) : (tlAd x s h d).Wf :=
 ⟨h1, h2, h3, ok.stp, fun _ => rfl, ok.end_, ok.que, ok.mar⟩
theorem iqQ {x : TL} (ok : TlOk x) {s hT dT : List Nat} {h : Option (List Nat)} {d : Option Int} (wf : (tlAd x s h d).Wf) (es : schM (schT s ++ (hT ++ (dT ++ x.t))) = s) (hH : HouW h hT) (hD : DooW d dT) (hn : s ≠ [] ∨ h ≠ none) : readM (schT s ++ (hT ++ (dT ++ x.t))) = .ok (tlAd x s h d) := by
 obtain ⟨g, w, q, m, e, hg, hS, hQ, hM⟩ := ok.wr
 refine lqA ⟨hT, dT, g, w, q, m, by rw [e]; rfl, es, hH, hD, ?_, hS, hQ, hM⟩ wf
 rcases hg with hg | ⟨hg, h2⟩
 ·exact .inl hg
 ·exact .inr ⟨hg, rfl, h2, hn⟩
theorem mqn {t : List Nat} {h : Option (List Nat)} {d : Option Int} {n1 n2 c : Nat} {r : List Nat} (e1 : houM (t.drop (schP t)) = .ok (h, n1)) (e2 : dorM h (t.drop (schP t + n1)) = .ok (d, n2)) (hm : schM t ≠ [] ∨ h ≠ none) (hr : t.drop (schP t + n1 + n2) = c :: r) (c1 : c ≠ 47) (c2 : c ≠ 63) (c3 : c ≠ 35) : readM t = .error (schP t + n1 + n2) := by
 have e3 : wayM (decide (schM t ≠ [] ∨ h ≠ none)) (t.drop (schP t + n1 + n2)) = .ok ((true, [], true), 0) := by
  rw [hr, decide_eq_true hm]
  unfold wayM
  rw [if_neg (show ¬ (c :: r).head? = some 47 from fun z => c1 (Option.some.inj z)), if_pos rfl]
 have e4 : queM (t.drop (schP t + n1 + n2 + 0)) = .ok (none, 0) := by
  rw [Nat.add_zero, hr]
  unfold queM
  rw [if_neg (show ¬ (c :: r).head? = some 63 from fun z => c2 (Option.some.inj z))]
 have e5 : marM (t.drop (schP t + n1 + n2 + 0 + 0)) = .ok (none, 0) := by
  rw [Nat.add_zero, hr]
  unfold marM
  rw [if_neg (show ¬ (c :: r).head? = some 35 from fun z => c3 (Option.some.inj z))]
 rw [jqn e1 e2 e3 e4 e5, if_neg]
 ·rfl
 ·intro z
  have := congrArg List.length hr
  rw [List.length_drop, List.length_cons] at this
  omega
theorem jqi {c : Nat} (h : isAln c = true) : c ≠ 58 ∧ c ≠ 47 ∧ c ≠ 126 ∧ c < 128 := by
 simp only [isAln, isLet, Bool.or_eq_true, decide_eq_true_eq] at h
 omega
theorem oqt {c : Nat} (h : isAln c = true) : isPl c = true := by
 simp only [isAln, isLet, Bool.or_eq_true, decide_eq_true_eq] at h
 simp only [isPl, isAln, isLet, Bool.or_eq_true, decide_eq_true_eq]
 omega
theorem mqm {fr : List Nat} : ∀ {s : List Nat}, (∀ c ∈ s, isAln c = true) → WrT fr s s
 | [], _ => .nil
 | c :: s, h => .self (.inl (oqt (h c (List.mem_cons_self ..)))) (jqi (h c (List.mem_cons_self ..))).2.2.1 (mqm fun d hd => h d (List.mem_cons_of_mem _ hd))
theorem kq0 {s : List Nat} (hs : ∀ c ∈ s, isAln c = true) : schD (.str ⟨s.toArray⟩) = true ↔ s.length ≤ 8 ∧ ∀ c ∈ s.take 1, isLet c = true := by
 have e : (⟨s.toArray⟩ : Str).length = s.length := by show s.toArray.size = _; simp
 have a1 : s.all isSg = true := List.all_eq_true.mpr fun c hc => mqM (hs c hc)
 have a2 : s.all isAln = true := List.all_eq_true.mpr hs
 show ((s.toArray.toList.all isSg && decide ((⟨s.toArray⟩ : Str).length ≤ 8) && (s.toArray.toList.take 1).all isLet && s.toArray.toList.all isAln) = true) ↔ _
 rw [e, List.toList_toArray, a1, a2, Bool.true_and, Bool.and_true, Bool.and_eq_true, decide_eq_true_eq, List.all_eq_true]
theorem mqP {s T : List Nat} (hs : ∀ c ∈ s, isAln c = true) : ahead (s ++ 58 :: T) = s ∧ (s ++ 58 :: T)[s.length]? = some 58 :=
 ⟨iqg fun c hc => (jqi (hs c hc)).1, by rw [List.getElem?_append_right (Nat.le_refl _), Nat.sub_self]; rfl⟩
theorem lq9 {x : TL} (ok : TlOk x) {s : List Nat} (hs : ∀ c ∈ s, isAln c = true) (h0 : s ≠ []) (h8 : s.length ≤ 8 ∧ ∀ c ∈ s.take 1, isLet c = true) : readM (s ++ 58 :: x.t) = .ok (tlAd x s none none) := by
 obtain ⟨a1, a2⟩ := mqP (T := x.t) hs
 have e : schT s ++ ([] ++ ([] ++ x.t)) = s ++ 58 :: x.t := by
  unfold schT
  rw [if_neg h0]
  simp
 have := iqQ ok (s := s) (hT := []) (dT := []) (h := none) (d := none) (mqU ok ⟨h8.1, hs, h8.2⟩ (fun l h => by cases h) (fun i h => by cases h)) (by
  rw [e]
  have := (fqZ (t := s ++ 58 :: x.t) (by rw [a1]; exact h0) (by rw [a1]; exact (kq0 hs).mpr h8) (by rw [a1]; exact a2)).1
  rw [this, a1]) rfl rfl (.inl h0)
 rw [e] at this
 exact this
theorem oqa {T s : List Nat} (hs : ∀ c ∈ s, isAln c = true) (h0 : s ≠ []) (hb : ¬ (s.length ≤ 8 ∧ ∀ c ∈ s.take 1, isLet c = true)) : readM (s ++ 58 :: T) = .error s.length := by
 obtain ⟨a1, a2⟩ := mqP (T := T) hs
 obtain ⟨m1, m2⟩ := dq4 (t := s ++ 58 :: T) (fun h => by rw [a1] at h; exact hb ((kq0 hs).mp h.2.1))
 have st : Stops frS (58 :: T) := aqP ⟨by decide, by decide +kernel, by decide⟩
 obtain ⟨c, s', es⟩ : ∃ c s', s = c :: s' := by
  cases s with
  | nil => exact absurd rfl h0
  | cons c s' => exact ⟨c, s', rfl⟩
 have hc : c ≠ 47 := (jqi (hs c (by rw [es]; exact List.mem_cons_self ..))).2.1
 have d0 : (s ++ 58 :: T).drop s.length = 58 :: T := List.drop_left
 have e1 : houM ((s ++ 58 :: T).drop (schP (s ++ 58 :: T))) = .ok (none, 0) := by
  rw [m2, List.drop_zero]
  unfold houM
  rw [if_neg]
  rw [es]
  intro z
  injection z with z
  exact hc z
 have e2 : dorM none ((s ++ 58 :: T).drop (schP (s ++ 58 :: T) + 0)) = .ok (none, 0) := rfl
 have e3 : wayM (decide (schM (s ++ 58 :: T) ≠ [] ∨ (none : Option (List Nat)) ≠ none)) ((s ++ 58 :: T).drop (schP (s ++ 58 :: T) + 0 + 0)) = .ok ((false, [s], false), s.length) := by
  rw [m1, m2, decide_eq_false (by simp)]
  show wayM false (s ++ 58 :: T) = _
  unfold wayM
  rw [if_neg (by rw [es]; intro z; exact hc (Option.some.inj z)), if_neg (by decide)]
  have := kqF (v := s) (rest := 58 :: T) st (by intro z; cases z) (by
   have := StpW.some (v := []) (mqm (fr := frS) hs) h0 .stop
   rw [List.append_nil] at this
   exact this) ((s ++ 58 :: T).length + 1) false (by rw [List.length_append]; omega) (fun z => by cases z)
  rw [this]
  rfl
 have z0 : schP (s ++ 58 :: T) + 0 + 0 + s.length = s.length := by rw [m2]; omega
 have e4 : queM ((s ++ 58 :: T).drop (schP (s ++ 58 :: T) + 0 + 0 + s.length)) = .ok (none, 0) := by
  rw [z0, d0]
  unfold queM
  rw [if_neg (by intro z; cases z)]
 have e5 : marM ((s ++ 58 :: T).drop (schP (s ++ 58 :: T) + 0 + 0 + s.length + 0)) = .ok (none, 0) := by
  rw [Nat.add_zero, z0, d0]
  unfold marM
  rw [if_neg (by intro z; cases z)]
 have z1 : schP (s ++ 58 :: T) + 0 + 0 + s.length + 0 + 0 = s.length := by rw [m2]; omega
 rw [jqn e1 e2 e3 e4 e5, z1, if_neg]
 rw [List.length_append, List.length_cons]
 omega
theorem iq9 : ∀ (bs : List Bool), WrT [] (bY bs) (bX bs)
 | [] => .nil
 | false :: bs => .self (c := 98) (.inl (by decide)) (by decide) (iq9 bs)
 | true :: bs => .pair (c := 32) (a := 50) (b := 48) (by decide +kernel) (iq9 bs)
theorem jqc : ∀ (bs : List Bool), (bY bs).length = bs.length
 | [] => rfl
 | false :: bs => by show (bY bs).length + 1 = _; rw [jqc bs]; rfl
 | true :: bs => by show (bY bs).length + 1 = _; rw [jqc bs]; rfl
theorem nqA : ∀ (bs : List Bool), ∀ c ∈ bY bs, isSg c = true
 | [], c, h => by cases h
 | false :: bs, c, h => by
  rcases List.mem_cons.mp (show c ∈ 98 :: bY bs from h) with rfl | z
  ·decide
  ·exact nqA bs c z
 | true :: bs, c, h => by
  rcases List.mem_cons.mp (show c ∈ 32 :: bY bs from h) with rfl | z
  ·decide
  ·exact nqA bs c z
theorem lqT : ∀ (bs : List Bool), ∀ c ∈ bX bs, c = 98 ∨ c = 126 ∨ c = 50 ∨ c = 48
 | [], c, h => by cases h
 | false :: bs, c, h => by
  rcases List.mem_cons.mp (show c ∈ 98 :: bX bs from h) with rfl | z
  ·exact .inl rfl
  ·exact lqT bs c z
 | true :: bs, c, h => by
  have h : c ∈ [126, 50, 48] ++ bX bs := h
  rcases List.mem_append.mp h with z | z
  ·simp at z; omega
  ·exact lqT bs c z
theorem mqK (a b : List Bool) : bX (a ++ b) = bX a ++ bX b := List.flatMap_append
theorem jql : ∀ (bs : List Bool), (bX bs).length ≤ 3 * bs.length
 | [] => Nat.le_refl _
 | false :: bs => by show (bX bs).length + 1 ≤ 3 * (bs.length + 1); have := jql bs; omega
 | true :: bs => by show (bX bs).length + 3 ≤ 3 * (bs.length + 1); have := jql bs; omega
theorem jqh {t : List Nat} (h : 58 ∉ t) : schM t = [] ∧ schP t = 0 := dq4 fun z => h (List.mem_of_getElem? z.2.2)
theorem mqz {x : TL} (ok : TlOk x) (bs : List Bool) : 58 ∉ 47 :: 47 :: (bX bs ++ x.t) := fun h => by
 rcases List.mem_cons.mp h with z | z
 ·cases z
 rcases List.mem_cons.mp z with z | z
 ·cases z
 rcases List.mem_append.mp z with z | z
 ·have := lqT bs 58 z; omega
 ·exact ok.no z
theorem lqK {x : TL} (ok : TlOk x) {bs : List Bool} (h0 : 0 < bs.length) (h60 : bs.length ≤ 60) : readM (47 :: 47 :: (bX bs ++ x.t)) = .ok (tlAd x [] (some (bY bs)) none) := by
 have hl := jqc bs
 have := iqQ ok (s := []) (hT := 47 :: 47 :: bX bs) (dT := []) (h := some (bY bs)) (d := none) (mqU ok ⟨by decide, by decide, by decide⟩ (fun l h => by cases h; exact ⟨⟨by omega, by omega⟩, nqA bs⟩) (fun i h => by cases h)) (jqh (mqz ok bs)).1 ⟨bX bs, rfl, iq9 bs, fun z => by rw [z] at hl; simp at hl; omega, by omega⟩ rfl (.inr (by simp))
 exact this
theorem oqe {x : TL} (ok : TlOk x) {bs : List Bool} (h60 : 60 < bs.length) : readM (47 :: 47 :: (bX bs ++ x.t)) = .error (2 + (bX (bs.take 60)).length) := by
 obtain ⟨m1, m2⟩ := jqh (mqz ok bs)
 have eb : bX bs = bX (bs.take 60) ++ bX (bs.drop 60) := by rw [← mqK, List.take_append_drop]
 have l60 : (bY (bs.take 60)).length = 60 := by rw [jqc, List.length_take]; omega
 obtain ⟨c, r, hr, hc⟩ : ∃ c r, bX (bs.drop 60) = c :: r ∧ (c = 98 ∨ c = 126) := by
  cases hd : bs.drop 60 with
  | nil => have := congrArg List.length hd; rw [List.length_drop, List.length_nil] at this; omega
  | cons b ds =>
   cases b with
   | false => exact ⟨98, _, rfl, .inl rfl⟩
   | true => exact ⟨126, _, rfl, .inr rfl⟩
 have et : 47 :: 47 :: (bX bs ++ x.t) = 47 :: 47 :: (bX (bs.take 60) ++ (c :: (r ++ x.t))) := by rw [eb, hr, List.append_assoc]; rfl
 rw [et] at m1 m2 ⊢
 have dr : (47 :: 47 :: (bX (bs.take 60) ++ (c :: (r ++ x.t)))).drop (2 + (bX (bs.take 60)).length) = c :: (r ++ x.t) := by
  rw [← List.drop_drop]
  exact List.drop_left
 have e1 : houM ((47 :: 47 :: (bX (bs.take 60) ++ (c :: (r ++ x.t)))).drop (schP (47 :: 47 :: (bX (bs.take 60) ++ (c :: (r ++ x.t)))))) = .ok (some (bY (bs.take 60)), 2 + (bX (bs.take 60)).length) := by
  rw [m2]
  unfold houM
  rw [if_pos (show List.take 2 (List.drop 0 (47 :: 47 :: (bX (bs.take 60) ++ (c :: (r ++ x.t))))) = [47, 47] from rfl)]
  show sh 2 (mp some (filM [] (bX (bs.take 60) ++ (c :: (r ++ x.t))) (some 60))) = _
  have := fqs (r := c :: (r ++ x.t)) (iq9 (bs.take 60)) (mo := some 60) (.inr (by rw [l60])) (fun m h => by cases h; omega)
  unfold filM
  rw [this]
  show sh 2 (mp some (if bY (bs.take 60) = [] then _ else _)) = _
  rw [if_neg (fun z => by rw [z] at l60; cases l60)]
  rfl
 have e2 : dorM (some (bY (bs.take 60))) ((47 :: 47 :: (bX (bs.take 60) ++ (c :: (r ++ x.t)))).drop (schP (47 :: 47 :: (bX (bs.take 60) ++ (c :: (r ++ x.t)))) + (2 + (bX (bs.take 60)).length))) = .ok (none, 0) := by
  rw [m2, Nat.zero_add, dr]
  unfold dorM
  rw [if_neg (by simp)]
  unfold dooM
  rw [if_neg (by intro z; have := Option.some.inj z; omega)]
 have := mqn e1 e2 (.inr (by simp)) (c := c) (r := r ++ x.t) (by rw [m2, Nat.zero_add, Nat.add_zero]; exact dr) (by omega) (by omega) (by omega)
 rw [this, m2]
 simp
structure DrAt (F T : List Nat) (k n : Nat) : Prop where
 dg : ∀ c ∈ F.take k, 48 ≤ c ∧ c ≤ 57
 va : valD (F.take k) = n
 le : n ≤ 65535
 hd : k = 0 ∨ F.take k = [48] ∨ (F.take k).head? ≠ some 48
 rd : 0 < k → dooM (58 :: (F ++ T)) = .ok (some ((dooG (F.drop k ++ T) n).1 : Int), 1 + k + (dooG (F.drop k ++ T) n).2)
theorem DrAt.zero {F T : List Nat} : DrAt F T 0 0 := ⟨(fun c h => by rw [List.take_zero] at h; cases h), rfl, by omega, .inl rfl, fun h => absurd h (by omega)⟩
theorem DrAt.step {F T : List Nat} {k n c : Nat} (h : DrAt F T k n) (hc : F[k]? = some c) (d : 48 ≤ c ∧ c ≤ 57) (h0 : k = 0 ∨ n ≠ 0) (h1 : 10 * n + (c - 48) ≤ 65535) : DrAt F T (k + 1) (10 * n + (c - 48)) := by
 have ht : F.take (k + 1) = F.take k ++ [c] := by rw [List.take_add_one, hc]; rfl
 have hk := (List.getElem?_eq_some_iff.mp hc).1
 refine ⟨fun x hx => ?_, by rw [ht, eqp, h.va, Nat.mul_comm], h1, ?_, fun _ => ?_⟩
 ·rw [ht] at hx
  rcases List.mem_append.mp hx with z | z
  ·exact h.dg x z
  ·rw [List.mem_singleton.mp z]; exact d
 ·right
  rcases Nat.eq_zero_or_pos k with z | z
  ·subst z
   rw [ht, List.take_zero, List.nil_append]
   by_cases hz : c = 48
   ·left; rw [hz]
   ·right; intro y; exact hz (Option.some.inj y)
  ·right
   have hn : n ≠ 0 := by omega
   rcases h.hd with y | y | y
   ·omega
   ·have := h.va; rw [y] at this; exact absurd this.symm hn
   ·rw [ht]
    intro w
    apply y
    cases hh : F.take k with
    | nil => have := congrArg List.length hh; rw [List.length_take, List.length_nil] at this; omega
    | cons a b => rw [hh] at w; exact w
 ·rcases Nat.eq_zero_or_pos k with z | z
  ·subst z
   have hv : n = 0 := by have := h.va; rw [List.take_zero] at this; exact this.symm
   subst hv
   have hF : F = c :: F.drop 1 := by have := gqn hc; rw [List.drop_zero] at this; exact this
   rw [show 58 :: (F ++ T) = 58 :: c :: (F.drop 1 ++ T) by rw [hF]; rfl]
   show (if 48 ≤ c ∧ c ≤ 57 then (.ok (some ((dooG (F.drop 1 ++ T) (c - 48)).1 : Int), 2 + (dooG (F.drop 1 ++ T) (c - 48)).2) : Rs (Option Int)) else .error 1) = _
   rw [if_pos d]
   simp
  ·have hn : n ≠ 0 := by omega
   rw [h.rd z, gqn hc]
   show Except.ok (some ((dooG (c :: (F.drop (k + 1) ++ T)) n).1 : Int), 1 + k + (dooG (c :: (F.drop (k + 1) ++ T)) n).2) = _
   rw [dooG, if_pos ⟨by omega, d.1, d.2, by omega⟩, Nat.mul_comm n 10]
   show Except.ok (some ((dooG (F.drop (k + 1) ++ T) (10 * n + (c - 48))).1 : Int), 1 + k + ((dooG (F.drop (k + 1) ++ T) (10 * n + (c - 48))).2 + 1)) = _
   rw [show 1 + k + ((dooG (F.drop (k + 1) ++ T) (10 * n + (c - 48))).2 + 1) = 1 + (k + 1) + (dooG (F.drop (k + 1) ++ T) (10 * n + (c - 48))).2 by omega]
theorem iqV (r : List Nat) : schM (47 :: 47 :: 104 :: 58 :: r) = [] ∧ schP (47 :: 47 :: 104 :: 58 :: r) = 0 := dq4 fun z => by
 have : ahead (47 :: 47 :: 104 :: 58 :: r) = [47, 47, 104] := iqg (s := [47, 47, 104]) (by decide)
 rw [this] at z
 exact absurd z.2.1 (by decide +kernel)
theorem kqo (r : List Nat) : houM (47 :: 47 :: 104 :: 58 :: r) = .ok (some [104], 3) :=
 mqt (o := some [104]) (w := [47, 47, 104]) (r := 58 :: r) ⟨[104], rfl, iqe (by decide) (by decide), by decide, by decide⟩ (fun _ => aqP ⟨by decide, by simp, by decide⟩) (fun z => by cases z)
theorem jqj {r : List Nat} (h : ∀ c, r.head? = some c → ¬ (48 ≤ c ∧ c ≤ 57)) : readM (47 :: 47 :: 104 :: 58 :: r) = .error 4 := by
 obtain ⟨m1, m2⟩ := iqV r
 have := mqo (t := 47 :: 47 :: 104 :: 58 :: r) (n := 1) (by rw [m2]; exact kqo r) (by
  rw [m2]
  show dooM (58 :: r) = .error 1
  cases r with
  | nil => rfl
  | cons c r =>
   show (if 48 ≤ c ∧ c ≤ 57 then _ else _) = _
   rw [if_neg (h c rfl)])
 rw [this, m2]
theorem DrAt.stop {F T : List Nat} {k n c : Nat} (h : DrAt F T k n) (hc : F[k]? = some c) (hb : ¬ (48 ≤ c ∧ c ≤ 57) ∨ (0 < k ∧ n = 0) ∨ 65535 < 10 * n + (c - 48)) (c1 : c ≠ 47) (c2 : c ≠ 63) (c3 : c ≠ 35) : readM (47 :: 47 :: 104 :: 58 :: (F ++ T)) = .error (4 + k) := by
 obtain ⟨m1, m2⟩ := iqV (F ++ T)
 rcases Nat.eq_zero_or_pos k with z | z
 ·subst z
  have hv : n = 0 := by have := h.va; rw [List.take_zero] at this; exact this.symm
  have hF : F = c :: F.drop 1 := by have := gqn hc; rw [List.drop_zero] at this; exact this
  refine jqj fun d hd => ?_
  rw [hF] at hd
  cases hd
  rcases hb with y | y | y <;> omega
 ·have hg : dooG (F.drop k ++ T) n = (n, 0) := by
   rw [gqn hc]
   show dooG (c :: (F.drop (k + 1) ++ T)) n = _
   rw [dooG, if_neg]
   rintro ⟨y1, y2, y3, y4⟩
   rcases hb with y | y | y <;> omega
  have hd := h.rd z
  rw [hg] at hd
  have hk := (List.getElem?_eq_some_iff.mp hc).1
  have := mqn (t := 47 :: 47 :: 104 :: 58 :: (F ++ T)) (h := some [104]) (n1 := 3) (d := some (n : Int)) (n2 := 1 + k) (c := c) (r := F.drop (k + 1) ++ T) (by rw [m2]; exact kqo _) (by rw [m2]; exact hd) (.inr (by simp)) (by
   rw [m2, show 0 + 3 + (1 + k) = k + 4 by omega]
   show (F ++ T).drop k = _
   rw [List.drop_append_of_le_length (by omega), gqn hc]
   rfl) c1 c2 c3
  rw [this, m2]
  congr 1
  omega
theorem DrAt.fin {F : List Nat} {x : TL} {n : Nat} (ok : TlOk x) (h : DrAt F x.t F.length n) (h0 : F ≠ []) : readM (47 :: 47 :: 104 :: 58 :: (F ++ x.t)) = .ok (tlAd x [] (some [104]) (some (n : Int))) := by
 have hF := List.take_length (l := F)
 obtain ⟨a1, a2, a3, a4, _⟩ := h
 rw [hF] at a1 a2 a4
 have := iqQ ok (s := []) (hT := [47, 47, 104]) (dT := 58 :: F) (h := some [104]) (d := some (n : Int)) (mqU ok ⟨by decide, by decide, by decide⟩ (fun l h => by cases h; exact ⟨⟨by decide, by decide⟩, by decide⟩) (fun i h => by cases h; exact ⟨⟨by omega, by omega⟩, by simp⟩)) (iqV (F ++ x.t)).1 ⟨[104], rfl, iqe (by decide) (by decide), by decide, by decide⟩ ⟨F, rfl, h0, a1, by rw [a2], by omega, by
  rcases a4 with z | z | z
  ·exact absurd (List.length_eq_zero_iff.mp z) h0
  ·exact .inl z
  ·exact .inr z⟩ (.inr (by simp))
 exact this
def dueD : Except Nat Ad → PyData
 | .ok x => .tuple [.str (Str.ofString "read"), x.data]
 | .error n => .tuple [.str (Str.ofString "at"), .int (n : Int)]
theorem kq1 {H : Hp} (o : Option (List Nat)) : IsT H (oD o) (otV o) := by
 cases o with
 | none => exact .non
 | some l => exact .str _
def atM (bs : List Bool) (n : Nat) : Int := if n ≤ bs.length then ((2 + (bX (bs.take 60)).length : Nat) : Int) else -1
theorem lqw (bs : List Bool) (b : Bool) : atM (bs ++ [b]) 61 = atM bs 60 := by
 unfold atM
 rw [List.length_append, List.length_singleton]
 by_cases h : 60 ≤ bs.length
 ·rw [if_pos (by omega), if_pos h, List.take_append_of_le_length h]
 ·rw [if_neg (by omega), if_neg h]
theorem oq2 {bs : List Bool} (h : bs.length = 60) : atM bs 60 = 2 + ((bX bs).length : Int) := by
 unfold atM
 rw [if_pos (by omega), List.take_of_length_le (by omega)]
 omega
theorem pqt {bs : List Bool} (h : bs.length ≠ 60) : atM bs 60 = atM bs 61 := by
 unfold atM
 by_cases h6 : 61 ≤ bs.length
 ·rw [if_pos (by omega), if_pos h6]
 ·rw [if_neg (by omega), if_neg h6]
def FgA (c : Nat) : Prop := (48 ≤ c ∧ c ≤ 57) ∨ c = 120 ∨ c = 97
theorem oq8 {i : Int} (hi : 0 ≤ i) (hi' : i < 1000000) : (dg i).length ≤ 6 ∧ dg i ≠ [] := by
 have := PyProof.Rows.toString_length_le hi (k := 6) (by decide) (by omega)
 refine ⟨by simpa [dg, Str.length] using this, fun z => ?_⟩
 obtain ⟨n, rfl⟩ := Int.eq_ofNat_of_zero_le hi
 unfold dg at z
 rw [PySem.W.KIN.signs_num, List.map_eq_nil_iff] at z
 exact Nat.toDigits_ne_nil z
theorem oqj (r : Except Nat Ad) : PyData.eqv (dueD r) (dueD r) = true := by
 cases r with
 | ok x =>
  show PyData.eqv (.tuple [.str (Str.ofString "read"), x.data]) (.tuple [.str (Str.ofString "read"), x.data]) = true
  simp only [PyData.eqv, PyData.eqvAll, Bool.and_true, beq_self_eq_true, Bool.true_and]
  exact (Ad.eqv_iff _ _).mpr rfl
 | error n => simp [dueD, PyData.eqv, PyData.eqvAll]
theorem kqf {t : List Nat} : SeqAt.shaped (dueD (readM t)) = true := by
 cases h : readM t with
 | ok x =>
  have L := (oqu h).lay
  show SeqAt.shaped (.tuple [.str (Str.ofString "read"), x.data]) = true
  rw [show Str.ofString "read" = ⟨[114, 101, 97, 100].toArray⟩ by decide +kernel]
  refine (LayAt.tup (n := 3) (ds := [st [114, 101, 97, 100], x.data]) fun d hd => ?_).shaped (by decide)
  rcases List.mem_cons.mp hd with z9 | hd
  ·subst z9; exact (LayAt.st (l := [114, 101, 97, 100]) (by decide)).le (Nat.zero_le _)
  ·rw [List.mem_singleton.mp hd]; exact L
 | error n =>
  show SeqAt.shaped (.tuple [.str (Str.ofString "at"), .int (n : Int)]) = true
  rw [show Str.ofString "at" = ⟨[97, 116].toArray⟩ by decide +kernel]
  refine (LayAt.tup (n := 0) (ds := [st [97, 116], .int (n : Int)]) fun d hd => ?_).shaped (by decide)
  rcases List.mem_cons.mp hd with z9 | hd
  ·subst z9; exact LayAt.st (l := [97, 116]) (by decide)
  ·rw [List.mem_singleton.mp hd]; exact ⟨rfl, Nat.le_refl _⟩
def top (i : Nat) : Stmt := PySem.Challenge.pw_waymark_k16_schemes_houses_doors.main.body.getD i (.Pass ⟨0, 0, 0, 0⟩)
abbrev dql : Stmt := top 15
abbrev aq0 : Stmt := top 17
abbrev aq1 : Stmt := top 18
abbrev aqE : Stmt := inClass (top 26) 0
abbrev aqQ : Stmt := inClass (top 29) 0
abbrev aq4 : Stmt := inClass (top 29) 1
abbrev bqA : Stmt := inClass (top 29) 3
abbrev aq2 : Stmt := inClass (top 29) 4
abbrev cqb : Stmt := top 34
abbrev bqR : Stmt := top 44
abbrev cqc : Stmt := top 45
abbrev dqo : Stmt := top 14
abbrev dqq : Stmt := top 16
abbrev bqx : Stmt := inClass (top 29) 2
abbrev bqw : Stmt := top 46
abbrev bqS : Stmt := top 47
abbrev cqg : Stmt := top 48
abbrev cqa : Stmt := top 23
abbrev bqV : Stmt := top 33
abbrev bqU : Stmt := top 41
abbrev bqd : Stmt := top 31
abbrev bqP : Stmt := top 40
abbrev cqe : Stmt := top 35
abbrev bqy : Stmt := top 37
abbrev bqQ : Stmt := top 38
abbrev aqG : Stmt := top 39
abbrev bqu : Stmt := top 32
abbrev aqW : Stmt := top 36
abbrev gq9 : Stmt := top 30
abbrev bqO : Stmt := top 49
abbrev jqQ : Stmt := top 50
abbrev kqJ : V := .str (Str.ofString " !\"#$&'()*+,-./0123456789:;<=>?@ABCDEFGHIJKLMNOPQRSTUVWXYZ[\\]^_`abcdefghijklmnopqrstuvwxyz{|}~")
abbrev jq0 : V := .str (Str.ofString "abcdefghijklmnopqrstuvwxyzABCDEFGHIJKLMNOPQRSTUVWXYZ")
abbrev eqh : V := .str (Str.ofString "abcdefghijklmnopqrstuvwxyzABCDEFGHIJKLMNOPQRSTUVWXYZ0123456789")
abbrev gqb : V := .str (Str.ofString "0123456789")
abbrev kqA : V := .str (Str.ofString "abcdefghijklmnopqrstuvwxyzABCDEFGHIJKLMNOPQRSTUVWXYZ0123456789-_.")
abbrev cq2 : V := .str (Str.ofString "!$'()*,;@&=+")
abbrev aqT : V := .str (Str.ofString "!$'()*,;@+/?:")
abbrev eqb : V := .str (Str.ofString "!$'()*,;@&=+/?:")
abbrev eqC : V := .int 32
abbrev hqm : V := .int 126
abbrev dqt : V := .int 37
abbrev eqq : V := .str (Str.ofString "0123456789abcdef")
abbrev equ : V := .str (Str.ofString "0123456789ABCDEF")
abbrev fqO : V := .int 8
abbrev gqF : V := .int 60
abbrev iq0 : V := .int 65535
abbrev eqt : V := .str (Str.ofString "234567")
set_option genInjectivity false
set_option genSizeOf false
set_option genSizeOfSpec false
structure G (K : W.Frag) (mg : Str → Option Value) where
 eq6 : Addr
 eqz : FuncData
 eqm : Fun K "made_of" "made_of" dql eq6 eqz
 eqP : mg "made_of" = some (.ref eq6)
 eq3 : Binds K eqz ["text", "signs"] []
 bqX : Addr
 bqI : FuncData
 bq4 : Fun K "figure_number" "figure_number" aq0 bqX bqI
 cq0 : mg "figure_number" = some (.ref bqX)
 cqU : Binds K bqI ["figure"] []
 bqZ : Addr
 bqL : FuncData
 cq3 : Fun K "sign_numbered" "sign_numbered" aq1 bqZ bqL
 dq0 : mg "sign_numbered" = some (.ref bqZ)
 eqi : Binds K bqL ["number"] []
 aqZ : Addr
 aqY : FuncData
 cqC : Fun K "__init__" "NoAddress.__init__" aqE aqZ aqY
 aqz : Binds K aqY ["self", "at"] []
 bqv : Addr
 bqi : FuncData
 dqm : Fun K "__init__" "Cursor.__init__" aqQ bqv bqi
 dqs : Binds K bqi ["self", "text"] []
 bq8 : Addr
 bqJ : FuncData
 eqr : Fun K "at_end" "Cursor.at_end" aq4 bq8 bqJ
 cq1 : Binds K bqJ ["self"] []
 cqO : Addr
 cqi : FuncData
 eqV : Fun K "take" "Cursor.take" bqA cqO cqi
 bqt : Binds K cqi ["self"] []
 bq1 : Addr
 bqK : FuncData
 dq5 : Fun K "passes" "Cursor.passes" aq2 bq1 bqK
 aqv : Binds K bqK ["self", "text"] []
 dqw : Addr
 dqf : FuncData
 dqB : Fun K "door_with" "door_with" cqb dqw dqf
 eqL : mg "door_with" = some (.ref dqw)
 eqM : Binds K dqf ["door", "cursor"] []
 dqb : Addr
 cqH : FuncData
 dq7 : Fun K "_law_whole" "_law_whole" bqR dqb cqH
 fqx : mg "_law_whole" = some (.ref dqb)
 fqK : Binds K cqH ["_law_found"] []
 dqM : Addr
 cq7 : FuncData
 cqV : Fun K "_law_tail" "_law_tail" cqc dqM cq7
 dqG : mg "_law_tail" = some (.ref dqM)
 dqy : Binds K cq7 ["_law_cell"] []
 eqY : Addr
 eqx : FuncData
 fq3 : Fun K "is_text" "is_text" dqo eqY eqx
 hqZ : mg "is_text" = some (.ref eqY)
 iqa : Binds K eqx ["thing"] []
 eq5 : Addr
 eqy : FuncData
 gqH : Fun K "sign_of" "sign_of" dqq eq5 eqy
 iqb : mg "sign_of" = some (.ref eq5)
 iqc : Binds K eqy ["figures"] []
 cqE : Addr
 cqk : FuncData
 fqb : Fun K "sees" "Cursor.sees" bqx cqE cqk
 bq5 : Binds K cqk ["self", "signs"] []
 cqI : Addr
 cqh : FuncData
 dqF : Fun K "_law_scheme" "_law_scheme" bqw cqI cqh
 eqQ : mg "_law_scheme" = some (.ref cqI)
 eqX : Binds K cqh ["_law_cell"] []
 cq8 : Addr
 cqF : FuncData
 eqe : Fun K "_law_house" "_law_house" bqS cq8 cqF
 fqB : mg "_law_house" = some (.ref cq8)
 fqL : Binds K cqF ["_law_cell"] []
 dqK : Addr
 dqe : FuncData
 eqN : Fun K "_law_door" "_law_door" cqg dqK dqe
 gqj : mg "_law_door" = some (.ref dqK)
 fq8 : Binds K dqe ["_law_cell"] []
 dqx : Addr
 dqa : FuncData
 eqJ : Fun K "is_scheme" "is_scheme" cqa dqx dqa
 gqd : mg "is_scheme" = some (.ref dqx)
 gqz : Binds K dqa ["thing"] []
 cq9 : Addr
 cqM : FuncData
 eqa : Fun K "taken_door" "taken_door" bqV cq9 cqM
 fqI : mg "taken_door" = some (.ref cq9)
 fqv : Binds K cqM ["cursor"] []
 dqg : Addr
 cqK : FuncData
 dqZ : Fun K "taken_pair" "taken_pair" bqU dqg cqK
 fqG : mg "taken_pair" = some (.ref dqg)
 fqD : Binds K cqK ["cursor"] []
 cqj : Addr
 bq9 : FuncData
 dqj : Fun K "taken_scheme" "taken_scheme" bqd cqj bq9
 eqE : mg "taken_scheme" = some (.ref cqj)
 eqG : Binds K bq9 ["cursor"] []
 dqc : Addr
 bq6 : FuncData
 fqE : Addr
 gqX : Tok
 aq5 : FunD K "taken_text" "taken_text" bqP dqc bq6 fqE
 bqz : Binds K bq6 ["cursor", "free", "most"] [.none]
 bqq : mg "taken_text" = some (.ref dqc)
 fqw : Binds K bq6 ["cursor", "free", "most"] []
 dqN : Addr
 dqd : FuncData
 eqH : Fun K "taken_way" "taken_way" cqe dqN dqd
 gqy : mg "taken_way" = some (.ref dqN)
 fq1 : Binds K dqd ["cursor", "must_be_rooted"] []
 cqG : Addr
 cqm : FuncData
 cqD : Fun K "taken_value" "taken_value" bqy cqG cqm
 dqL : mg "taken_value" = some (.ref cqG)
 dqJ : Binds K cqm ["cursor"] []
 dqh : Addr
 cqN : FuncData
 dq2 : Fun K "taken_mark" "taken_mark" bqQ dqh cqN
 fqJ : mg "taken_mark" = some (.ref dqh)
 fqF : Binds K cqN ["cursor"] []
 aq7 : Addr
 aqN : FuncData
 cqY : Addr
 eqk : Tok
 bqa : FunD K "taken_filled_text" "taken_filled_text" aqG aq7 aqN cqY
 cqB : Binds K aqN ["cursor", "free", "most"] [.none]
 bqN : mg "taken_filled_text" = some (.ref aq7)
 cqS : Binds K aqN ["cursor", "free", "most"] []
 cqL : Addr
 cql : FuncData
 dqI : Fun K "taken_house" "taken_house" bqu cqL cql
 fqc : mg "taken_house" = some (.ref cqL)
 eq8 : Binds K cql ["cursor"] []
 bqH : Addr
 bqB : FuncData
 cqw : Fun K "taken_question" "taken_question" aqW bqH bqB
 dqW : mg "taken_question" = some (.ref bqH)
 dqS : Binds K bqB ["cursor"] []
 jqa : Addr
 hqg : FuncData
 jqV : Fun K "read" "read" gq9 jqa hqg
 mqE : mg "read" = some (.ref jqa)
 mqB : Binds K hqg ["text"] []
 cq6 : Addr
 cqQ : FuncData
 dqX : Fun K "_law_asked" "_law_asked" bqO cq6 cqQ
 fqr : mg "_law_asked" = some (.ref cq6)
 fqA : Binds K cqQ ["_law_text"] []
 lqP : Addr
 hqP : FuncData
 pqT : Fun K "law" "law" jqQ lqP hqP
 qqx : mg "law" = some (.ref lqP)
 qql : Binds K hqP ["_law_script"] []
 aqi : Addr
 aqe : Cls K aqi
 aqO : NoAttr K aqi "text"
 aqh : NoAttr K aqi "place"
 jqm : mg "Cursor" = some (.ref aqi)
 jqf : Mk K aqi bqv
 cqv : Meth K aqi "at_end" bq8
 bqe : Meth K aqi "take" cqO
 aqs : Meth K aqi "passes" bq1
 bqF : Meth K aqi "sees" cqE
 gqx : Tok
 iqS : mg "SIGNS" = some (.str (Str.ofString " !\"#$&'()*+,-./0123456789:;<=>?@ABCDEFGHIJKLMNOPQRSTUVWXYZ[\\]^_`abcdefghijklmnopqrstuvwxyz{|}~") gqx)
 eqs : Tok
 iqA : mg "LETTERS" = some (.str (Str.ofString "abcdefghijklmnopqrstuvwxyzABCDEFGHIJKLMNOPQRSTUVWXYZ") eqs)
 aqK : Tok
 cqp : mg "LETTERS_AND_FIGURES" = some (.str (Str.ofString "abcdefghijklmnopqrstuvwxyzABCDEFGHIJKLMNOPQRSTUVWXYZ0123456789") aqK)
 eqo : Tok
 gqh : mg "FIGURES" = some (.str (Str.ofString "0123456789") eqo)
 gqk : Tok
 kqE : mg "PLAIN" = some (.str (Str.ofString "abcdefghijklmnopqrstuvwxyzABCDEFGHIJKLMNOPQRSTUVWXYZ0123456789-_.") gqk)
 bqr : Tok
 cqZ : mg "FREE_IN_STEPS" = some (.str (Str.ofString "!$'()*,;@&=+") bqr)
 aqS : Tok
 aq6 : mg "FREE_IN_QUESTIONS" = some (.str (Str.ofString "!$'()*,;@+/?:") aqS)
 bqo : Tok
 eqd : mg "FREE_IN_MARKS" = some (.str (Str.ofString "!$'()*,;@&=+/?:") bqo)
 bqG : Tok
 dqk : mg "FIRST_NUMBER" = some (.int 32 bqG)
 bqW : Tok
 eq9 : mg "LAST_NUMBER" = some (.int 126 bqW)
 aq3 : Tok
 cqd : mg "NUMBER_LEFT_OUT" = some (.int 37 aq3)
 bql : Tok
 cq4 : mg "SMALL_FIGURES" = some (.str (Str.ofString "0123456789abcdef") bql)
 bqs : Tok
 cq5 : mg "GREAT_FIGURES" = some (.str (Str.ofString "0123456789ABCDEF") bqs)
 bqc : Tok
 dqR : mg "LONGEST_SCHEME" = some (.int 8 bqc)
 bqn : Tok
 eqw : mg "LONGEST_HOUSE" = some (.int 60 bqn)
 cqX : Tok
 fq5 : mg "LAST_DOOR" = some (.int 65535 cqX)
 bqj : Tok
 eqn : mg "FIRST_FIGURES" = some (.str (Str.ofString "234567") bqj)
 oqK : mg "all" = none
 gqN : mg "len" = none
 jqG : mg "int" = none
 cqt : mg "isinstance" = none
 mqp : mg "bool" = none
 lq8 : mg "str" = none
 hqI : mg "range" = none
 iqO : mg "tuple" = none
 aql : Addr
 bqp : mg "NoAddress" = some (.ref aql)
 gqf : Catch K aql
 iq2 : ExLook K aql
 bqM : Mk1 K aql aqZ
 eql : ExSt K aql "at"
 dqY : ExFld K aql "at"
 cqo : W.subIn K (.ref aql) (.ref aql) = some true
def jqI : Sp := fun vs H Q _ => ∃ x y : Str, vs = [.str x, .str y] ∧ x.length ≤ 100000 ∧ ∀ H', Same H H' → Q (.bl (x.cps.toList.all fun c => decide (c ∈ y.cps.toList))) H'
def dqU : Sp := fun vs H Q _ => ∃ a : Nat, vs = [one a] ∧ a < 128 ∧ Q (figV a) H
def fqS : Sp := fun vs H Q _ => ∃ n : Nat, vs = [.int (n : Int)] ∧ Q (sgV n) H
def cqq (K : W.Frag) (C : Addr) : Sp := fun vs H Q _ => ∃ (a : Addr) (v : V), vs = [.ref a, v] ∧ H a = some (exNew a C) ∧ ∀ d, H d = none → Q .non (upd (upd H a (exSet a C d)) d (.xd [("at", v)]))
theorem cqP {K : W.Frag} {C : Addr} {H : Hp} {E : XK} {v : V} (hE : ∀ d H', Same H H' → H' d = some (.xd [("at", v)]) → E (.ref C) (some d) H') : ∀ a, H a = none → cqq K C [.ref a, v] (upd H a (exNew a C)) (fun u H2 => u = .non ∧ ∃ d, H2 a = some (exSet a C d) ∧ E (.ref C) (some d) (forget H2 a)) E0 := by
 intro a ha
 refine ⟨a, v, rfl, aqr, fun d hd => ?_⟩
 have hda : d ≠ a := fun z => by rw [z, aqr] at hd; cases hd
 rw [aqm hda] at hd
 refine ⟨rfl, d, by rw [aqm hda.symm, aqr], hE d _ (fun b o e => ?_) ?_⟩
 ·have ba : b ≠ a := aqn e ha
  rw [bq3 ba, aqm (aqn e hd), aqm ba, aqm ba]
  exact e
 ·rw [bq3 hda, aqr]
def eq2 (K : W.Frag) (C : Addr) : Sp := fun vs H Q _ => ∃ (p dx : Addr) (t : List Nat), vs = [.ref p, .str ⟨t.toArray⟩] ∧ H p = some (.ins C dx []) ∧ ∀ H', SameBut p H H' → Cur H' C p t 0 → Q .non H'
def fqN (K : W.Frag) (C : Addr) : Sp := fun vs H Q _ => ∃ (p : Addr) (t : List Nat) (i : Nat), vs = [.ref p] ∧ Cur H C p t i ∧ t.length ≤ 100000 ∧ Q (.bl (decide (i = t.length))) H
def gqS (K : W.Frag) (C : Addr) : Sp := fun vs H Q _ => ∃ (p : Addr) (t : List Nat) (i c : Nat), vs = [.ref p] ∧ Cur H C p t i ∧ t[i]? = some c ∧ t.length ≤ 100000 ∧ ∀ H', SameBut p H H' → Cur H' C p t (i + 1) → Q (.str ⟨#[c]⟩) H'
def cqx (K : W.Frag) (C : Addr) : Sp := fun vs H Q _ => ∃ (p : Addr) (t w : List Nat) (i : Nat), vs = [.ref p, .str ⟨w.toArray⟩] ∧ Cur H C p t i ∧ i ≤ t.length ∧ t.length ≤ 100000 ∧ ((t.drop i).take w.length = w → ∀ H', SameBut p H H' → Cur H' C p t (i + w.length) → Q (.bl true) H') ∧ (¬ (t.drop i).take w.length = w → Q (.bl false) H)
def hq7 (K : W.Frag) (C : Addr) : Sp := fun vs H Q _ => ∃ (p : Addr) (t : List Nat) (i c n : Nat), vs = [.int (n : Int), .ref p] ∧ Cur H C p t i ∧ t.length ≤ 100000 ∧ t[i]? = some c ∧ 48 ≤ c ∧ c ≤ 57 ∧ n ≤ 100000 ∧ Q (.int ((n * 10 + (c - 48) : Nat) : Int)) H
def hqs (K : W.Frag) : Sp := fun vs H Q _ => ∃ i : Int, vs = [.int i] ∧ Q (.bl true) H
def iqt (K : W.Frag) : Sp := fun vs H Q _ => ∃ i : Int, vs = [.int i] ∧ ∀ (x : TL) (p pw : Addr) (vq : V) (H' : Hp), x ∈ tls16 → Same H H' → H' p = some (.tup [tV x.t, .ref pw, vq, otV x.m]) → IsT H' (.tuple [.bool true, .tuple (x.ss.map st), .bool x.e]) (.ref pw) → IsT H' (qD x.q) vq → Q (.ref p) H'
def jqT : Sp := fun vs H Q _ => ∃ (d : PyData) (v : V), vs = [v] ∧ Is H d v ∧ smallD d = true ∧ ∀ H', Same H H' → Q (.bl (tx d)) H'
def gq7 : Sp := fun vs H Q _ => ∃ l : List Nat, vs = [.str ⟨l.toArray⟩] ∧ l.length ≤ 1000 ∧ (∀ c ∈ l, c < 128) ∧ Q (signOfL l) H
def gqI (K : W.Frag) (C : Addr) : Sp := fun vs H Q _ => ∃ (p : Addr) (t sg : List Nat) (i : Nat), vs = [.ref p, .str ⟨sg.toArray⟩] ∧ Cur H C p t i ∧ i ≤ t.length ∧ t.length ≤ 100000 ∧ Q (.bl (seesB t sg i)) H
def Due16 (H : Hp) (Q : VK) : Prop := ∀ (t : List Nat) (d : V) (p : Addr) (H' : Hp), t.length ≤ 300 → (∀ c ∈ t, c < 128) → Same H H' → H' p = some (.tup [tV t, d]) → IsT H' (dueD (readM t)) d → Q (.ref p) H'
def gqR (K : W.Frag) : Sp := fun vs H Q _ => ∃ i : Int, vs = [.int i] ∧ Due16 H Q
def hqG (K : W.Frag) : Sp := fun vs H Q _ => ∃ i : Int, vs = [.int i] ∧ Due16 H Q
def hq9 (K : W.Frag) : Sp := fun vs H Q _ => ∃ i : Int, vs = [.int i] ∧ 0 ≤ i ∧ Due16 H Q
def iqG : Sp := fun vs H Q _ => ∃ (d : PyData) (v : V), vs = [v] ∧ Is H d v ∧ smallD d = true ∧ ∀ H', Same H H' → Q (.bl (schD d)) H'
def gqV (K : W.Frag) (C CN : Addr) : Sp := fun vs H Q E => ∃ (p : Addr) (t : List Nat) (i : Nat), vs = [.ref p] ∧ Cur H C p t i ∧ i ≤ t.length ∧ t.length ≤ 100000 ∧ (∀ c ∈ t, c < 128) ∧ Tk CN H C p t i (dooM (t.drop i)) (fun o H' => Q (itV o) H') E
def gq1 (K : W.Frag) (C CN : Addr) : Sp := fun vs H Q E => ∃ (p : Addr) (t : List Nat) (i : Nat), vs = [.ref p] ∧ Cur H C p t i ∧ i ≤ t.length ∧ t.length ≤ 100000 ∧ (∀ c ∈ t, c < 128) ∧ Tk CN H C p t i (prM (t.drop i)) (fun c H' => Q (.str ⟨#[c]⟩) H') E
def gqs (K : W.Frag) (C : Addr) : Sp := fun vs H Q _ => ∃ (p : Addr) (t : List Nat), vs = [.ref p] ∧ Cur H C p t 0 ∧ t.length ≤ 90000 ∧ ∀ H', SameBut p H H' → Cur H' C p t (schP t) → Q (.str ⟨(schM t).toArray⟩) H'
def gqQ (K : W.Frag) (C CN : Addr) : Sp := fun vs H Q E => ∃ (p : Addr) (t fr : List Nat) (i : Nat) (mo : Option Nat), vs = [.ref p, .str ⟨fr.toArray⟩, moV mo] ∧ Cur H C p t i ∧ i ≤ t.length ∧ t.length ≤ 100000 ∧ (∀ c ∈ t, c < 128) ∧ fr.length ≤ 100 ∧ Tk CN H C p t i (txtM fr (t.drop i) mo) (fun s H' => Q (.str ⟨s.toArray⟩) H') E
def eq7 (K : W.Frag) (C CN : Addr) : Sp := fun vs H Q E => ∃ (p : Addr) (t : List Nat) (i : Nat) (must : Bool), vs = [.ref p, .bl must] ∧ Cur H C p t i ∧ i ≤ t.length ∧ t.length ≤ 100000 ∧ (∀ c ∈ t, c < 128) ∧ Tk CN H C p t i (wayM must (t.drop i)) (fun w H' => ∀ u, IsT H' (wayOf w) u → Q u H') E
def gqq (K : W.Frag) (C CN : Addr) : Sp := fun vs H Q E => ∃ (p : Addr) (t : List Nat) (i : Nat), vs = [.ref p] ∧ Cur H C p t i ∧ i ≤ t.length ∧ t.length ≤ 100000 ∧ (∀ c ∈ t, c < 128) ∧ Tk CN H C p t i (valM (t.drop i)) (fun o H' => Q (otV o) H') E
def gq2 (K : W.Frag) (C CN : Addr) : Sp := fun vs H Q E => ∃ (p : Addr) (t : List Nat) (i : Nat), vs = [.ref p] ∧ Cur H C p t i ∧ i ≤ t.length ∧ t.length ≤ 100000 ∧ (∀ c ∈ t, c < 128) ∧ Tk CN H C p t i (marM (t.drop i)) (fun o H' => Q (otV o) H') E
def dq3 (K : W.Frag) (C CN : Addr) : Sp := fun vs H Q E => ∃ (p : Addr) (t fr : List Nat) (i : Nat) (mo : Option Nat), vs = [.ref p, .str ⟨fr.toArray⟩, moV mo] ∧ Cur H C p t i ∧ i ≤ t.length ∧ t.length ≤ 100000 ∧ (∀ c ∈ t, c < 128) ∧ fr.length ≤ 100 ∧ Tk CN H C p t i (filM fr (t.drop i) mo) (fun s H' => Q (.str ⟨s.toArray⟩) H') E
def gqD (K : W.Frag) (C CN : Addr) : Sp := fun vs H Q E => ∃ (p : Addr) (t : List Nat) (i : Nat), vs = [.ref p] ∧ Cur H C p t i ∧ i ≤ t.length ∧ t.length ≤ 100000 ∧ (∀ c ∈ t, c < 128) ∧ Tk CN H C p t i (houM (t.drop i)) (fun o H' => Q (otV o) H') E
def eq4 (K : W.Frag) (C CN : Addr) : Sp := fun vs H Q E => ∃ (p : Addr) (t : List Nat) (i : Nat), vs = [.ref p] ∧ Cur H C p t i ∧ i ≤ t.length ∧ t.length ≤ 100000 ∧ (∀ c ∈ t, c < 128) ∧ Tk CN H C p t i (queM (t.drop i)) (fun o H' => ∀ u, IsT H' (qD o) u → Q u H') E
def lqL (K : W.Frag) (CN : Addr) : Sp := fun vs H Q E => ∃ (v : V), vs = [v] ∧
 ((∃ ty, TyOf K H v ty ∧ W.kitOne K ty (.type "str") = some false ∧ ∀ d H', Same H H' → H' d = some (.xd [("at", .int 0)]) → E (.ref CN) (some d) H') ∨
  ∃ t : List Nat, v = .str ⟨t.toArray⟩ ∧ t.length ≤ 90000 ∧ (∀ c ∈ t, c < 128) ∧ (∀ x, readM t = .ok x → ∀ (u : V) (H' : Hp), Same H H' → IsT H' x.data u → Q u H') ∧
   ∀ k : Nat, readM t = .error k → ∀ d H', Same H H' → H' d = some (.xd [("at", .int (k : Int))]) → E (.ref CN) (some d) H')
def hqo (K : W.Frag) : Sp := fun vs H Q _ => ∃ t : List Nat, vs = [.str ⟨t.toArray⟩] ∧ t.length ≤ 2000 ∧ (∀ c ∈ t, c < 128) ∧ ∀ (u : V) (H' : Hp), Same H H' → IsT H' (dueD (readM t)) u → Q u H'
def iq4 (K : W.Frag) : Sp := fun vs H Q _ => ∃ (a : Addr) (ns : List Int), vs = [.ref a] ∧ SqL K H a (ns.map V.int) ∧ ns.length ≤ 63 ∧ ∀ H', Q (.bl true) H'
section
variable {H : Hp} {Q : VK} {E : XK} {K : W.Frag}
theorem qqf {c : Nat} : dqU [.str ⟨[c].toArray⟩] H Q E ↔ c < 128 ∧ Q (figV c) H :=
 ⟨fun ⟨_, e, h⟩ => by injection e with e; injection e with e; cases gqe.mp e; exact h, fun h => ⟨c, rfl, h⟩⟩
theorem kqL {l : List Nat} : gq7 [.str ⟨l.toArray⟩] H Q E ↔ l.length ≤ 1000 ∧ (∀ c ∈ l, c < 128) ∧ Q (signOfL l) H :=
 ⟨fun ⟨_, e, h⟩ => by injection e with e; injection e with e; cases gqe.mp e; exact h, fun h => ⟨l, rfl, h⟩⟩
end
section
variable {P : Program} {w : World} {K : W.Frag} {mg : Str → Option Value} {base : Heap}
seal PE PA PT PS PSs PG PI PF PO PW
local macro_rules | `(tactic| walk_at "rd") => `(tactic| simp only [L2.start, List.map_cons, List.map_nil, List.length_cons, List.length_nil, Nat.reduceAdd, Nat.reduceSub, Nat.zero_add, List.replicate_succ, List.replicate_zero, L2.pqY, L2.rd_C, L2.kqb, L2.pq8, L2.lqe, L2.pqg, L2.nq4, L2.oqY, L2.mqV, L2.pqj, L2.pqv, L2.oqk, L2.qqd, L2.mq0, L2.rd_B, L2.pqK, L2.qqk, L2.pqf, L2.nq9, L2.oq5, L2.nqy, L2.qqr, L2.lqG, L2.oqJ, L2.nqf, L2.pqM, L2.pqN, L2.nqd, L2.nq7, L2.oqg, L2.mqX, L2.nqX, L2.nqj, L2.oqv, L2.lqJ, L2.mq8, L2.qqs, L2.qqe, L2.oqC, L2.qqA, L2.jqW, L2.oqs, L2.lqv, L2.rd_I, L2.qqb, L2.oqo, L2.fqi, L2.nqP, L2.nqC, L2.nq3, L2.nqS, L2.nqI, L2.nqv, L2.lqD, L2.nqZ, L2.nqt, L2.lqq, L2.oqL, L2.pqW, L2.oqz, L2.pqx, L2.pqz, L2.nqx, L2.lqZ, L2.nqQ, L2.mqb, L2.lq3, L2.jq7, L2.lqU, L2.lqQ, L2.kq3, L2.jqz, L2.fqk, L2.fqT, L2.fqU, L2.fqo, L2.eqS, L2.hqz, L2.iqz, L2.hqR, L2.hql, L2.gq3, L2.iqI, L2.iqW, L2.iqT, L2.hqU, L2.hqF, L2.iqj, L2.iqL, L2.iqN, L2.hqW, L2.hqB, L2.hqq, L2.iqC, L2.iqF, L2.hqD, L2.gq0, L2.gqU, L2.hqk, L2.hqn, L2.gqT, L2.gqA, L2.nql, L2.mqY, L2.lql, L2.oqr, L2.nqn, L2.cx_K, L2.pqw, L2.pq2, L2.pqn, L2.pql, L2.oq1, L2.pqZ, L2.pqd, L2.qqt, L2.pqc, L2.kqp, L2.qqu, L2.qqm, L2.qqp, L2.lqp, L2.mqj, L2.nqD, L2.lqo, Option.getD_some, L2.oqB, L2.qqD, L2.rd_U, L2.pqP, L2.nqF, L2.lqM, L2.nqu, L2.kqN, L2.mq4, L2.oqV, L2.oqQ, L2.nqp, L2.mq6, L2.nq8, L2.nqH, List.getElem?_cons_zero, List.getElem?_cons_succ, List.set_cons_zero, List.set_cons_succ, List.nil_append, List.cons_append, List.append_nil, Option.some.injEq, exists_eq_left, exists_eq_left', true_and, and_true, L2.V.bl.injEq, L2.V.int.injEq, L2.V.str.injEq, L2.V.ref.injEq, List.cons.injEq, reduceCtorEq, false_and, and_false, exists_false, false_or, or_false, decide_eq_true_eq, Bool.not_true, Bool.not_false, ↓reduceIte, if_true, if_false, not_true_eq_false, not_false_eq_true, decide_true, decide_false, Bool.false_eq_true, qqf, kqL, L2.lqW, L2.mqZ, L2.lqN, L2.lqk, L2.pqH, oqR, L2.oqW, L2.lqd, L2.qqh, L2.mq2, L2.lq5, L2.mqc, L2.mqg, L2.qqi, L2.kqv, L2.nqK, L2.pqR, L2.iq8, L2.oqN, L2.pqk, L2.nqk, L2.pq6, L2.mqw, L2.oqM, L2.oqf, L2.nqO, L2.nqb, L2.nqc, L2.nq2, L2.kq8, L2.kqV, L2.mqy, L2.iq8, L2.kq9, L2.nqs, L2.jqA, L2.pq5, L2.oqp, L2.mqT, L2.lq1, L2.nq5, L2.nqV, L2.mq3, L2.oqi, oqE, lqR, oqP, eqD, kqw, nqM, List.drop_succ_cons, List.drop_zero, L2.lqr, L2.pqo, L2.pqL, L2.pqJ, Bool.not_eq_true', decide_eq_false_iff_not])
theorem jqB : FnScope ["text", "signs"] ["text", "signs"] (defScope dql) := ⟨rfl, rfl, rfl, by decide +kernel, rfl, by decide +kernel, by decide +kernel⟩
theorem fqM : FnScope ["figure"] ["figure"] (defScope aq0) := ⟨rfl, rfl, rfl, by decide +kernel, rfl, by decide +kernel, by decide +kernel⟩
theorem cqu : FnScope ["number", "place"] ["number"] (defScope aq1) := ⟨rfl, rfl, rfl, by decide +kernel, rfl, by decide +kernel, by decide +kernel⟩
theorem dq8 : FnScope ["self", "at"] ["self", "at"] (defScope aqE) := ⟨rfl, rfl, rfl, by decide +kernel, rfl, by decide +kernel, by decide +kernel⟩
theorem eqZ : FnScope ["self", "text"] ["self", "text"] (defScope aqQ) := ⟨rfl, rfl, rfl, by decide +kernel, rfl, by decide +kernel, by decide +kernel⟩
theorem fqP : FnScope ["self"] ["self"] (defScope aq4) := ⟨rfl, rfl, rfl, by decide +kernel, rfl, by decide +kernel, by decide +kernel⟩
theorem eqF : FnScope ["self", "sign"] ["self"] (defScope bqA) := ⟨rfl, rfl, rfl, by decide +kernel, rfl, by decide +kernel, by decide +kernel⟩
theorem fqQ : FnScope ["self", "text"] ["self", "text"] (defScope aq2) := ⟨rfl, rfl, rfl, by decide +kernel, rfl, by decide +kernel, by decide +kernel⟩
theorem iqB : FnScope ["door", "cursor"] ["door", "cursor"] (defScope cqb) := ⟨rfl, rfl, rfl, by decide +kernel, rfl, by decide +kernel, by decide +kernel⟩
theorem hqf : FnScope ["_law_found"] ["_law_found"] (defScope bqR) := ⟨rfl, rfl, rfl, by decide +kernel, rfl, by decide +kernel, by decide +kernel⟩
theorem cqs : FnScope ["_law_cell", "_law_root", "_law_some"] ["_law_cell"] (defScope cqc) := ⟨rfl, rfl, rfl, by decide +kernel, rfl, by decide +kernel, by decide +kernel⟩
theorem jqE : FnScope ["thing"] ["thing"] (defScope dqo) := ⟨rfl, rfl, rfl, by decide +kernel, rfl, by decide +kernel, by decide +kernel⟩
theorem fqq : FnScope ["figures", "high", "low"] ["figures"] (defScope dqq) := ⟨rfl, rfl, rfl, by decide +kernel, rfl, by decide +kernel, by decide +kernel⟩
theorem gqW : FnScope ["self", "signs"] ["self", "signs"] (defScope bqx) := ⟨rfl, rfl, rfl, by decide +kernel, rfl, by decide +kernel, by decide +kernel⟩
theorem aqw : FnScope ["_law_cell", "_law_letters", "_law_found", "_law_k", "_law_number", "_law_text", "_law_way", "_law_question", "_law_mark", "_law_due"] ["_law_cell"] (defScope bqw) := ⟨rfl, rfl, rfl, by decide +kernel, rfl, by decide +kernel, by decide +kernel⟩
theorem aqB : FnScope ["_law_cell", "_law_many", "_law_found", "_law_at", "_law_k", "_law_number", "_law_text", "_law_way", "_law_question", "_law_mark"] ["_law_cell"] (defScope bqS) := ⟨rfl, rfl, rfl, by decide +kernel, rfl, by decide +kernel, by decide +kernel⟩
theorem aqJ : FnScope ["_law_cell", "_law_figures", "_law_text", "_law_way", "_law_question", "_law_mark", "_law_whole_here", "_law_door_here", "_law_k"] ["_law_cell"] (defScope cqg) := ⟨rfl, rfl, rfl, by decide +kernel, rfl, by decide +kernel, by decide +kernel⟩
theorem iqq : FnScope ["thing"] ["thing"] (defScope cqa) := ⟨rfl, rfl, rfl, by decide +kernel, rfl, by decide +kernel, by decide +kernel⟩
theorem dqC : FnScope ["cursor", "door"] ["cursor"] (defScope bqV) := ⟨rfl, rfl, rfl, by decide +kernel, rfl, by decide +kernel, by decide +kernel⟩
theorem dqD : FnScope ["cursor", "figures", "sign"] ["cursor"] (defScope bqU) := ⟨rfl, rfl, rfl, by decide +kernel, rfl, by decide +kernel, by decide +kernel⟩
theorem eqg : FnScope ["cursor", "scheme"] ["cursor"] (defScope bqd) := ⟨rfl, rfl, rfl, by decide +kernel, rfl, by decide +kernel, by decide +kernel⟩
theorem dqP : FnScope ["cursor", "free", "most", "signs", "allowed"] ["cursor", "free", "most"] (defScope bqP) := ⟨rfl, rfl, rfl, by decide +kernel, rfl, by decide +kernel, by decide +kernel⟩
theorem bqk : FnScope ["cursor", "must_be_rooted", "rooted", "steps", "ends", "step"] ["cursor", "must_be_rooted"] (defScope cqe) := ⟨rfl, rfl, rfl, by decide +kernel, rfl, by decide +kernel, by decide +kernel⟩
theorem gqL : FnScope ["cursor"] ["cursor"] (defScope bqy) := ⟨rfl, rfl, rfl, by decide +kernel, rfl, by decide +kernel, by decide +kernel⟩
theorem hqA : FnScope ["cursor"] ["cursor"] (defScope bqQ) := ⟨rfl, rfl, rfl, by decide +kernel, rfl, by decide +kernel, by decide +kernel⟩
theorem cqA : FnScope ["cursor", "free", "most", "text"] ["cursor", "free", "most"] (defScope aqG) := ⟨rfl, rfl, rfl, by decide +kernel, rfl, by decide +kernel, by decide +kernel⟩
theorem gqO : FnScope ["cursor"] ["cursor"] (defScope bqu) := ⟨rfl, rfl, rfl, by decide +kernel, rfl, by decide +kernel, by decide +kernel⟩
theorem bqC : FnScope ["cursor", "name", "pairs"] ["cursor"] (defScope aqW) := ⟨rfl, rfl, rfl, by decide +kernel, rfl, by decide +kernel, by decide +kernel⟩
theorem eqc : FnScope ["text", "cursor", "scheme", "house", "door", "way", "question", "mark"] ["text"] (defScope gq9) := ⟨rfl, rfl, rfl, by decide +kernel, rfl, by decide +kernel, by decide +kernel⟩
theorem bq7 : FnScope ["_law_text", "_law_heard", "e"] ["_law_text"] (defScope bqO) := ⟨rfl, rfl, rfl, by decide +kernel, rfl, by decide +kernel, by decide +kernel⟩
theorem hqd : FnScope ["_law_script", "_law_cell", "_law_number", "_law_text", "_law_due", "_law_heard"] ["_law_script"] (defScope jqQ) := ⟨rfl, rfl, rfl, by decide +kernel, rfl, by decide +kernel, by decide +kernel⟩
theorem fql (g : G K mg) : FnOk P w K mg base CX0 1 g.eq6 g.eqz ["text", "signs"] jqI := by
 refine g.eqm.ok jqB (fun vs H Q E h => ?_) (fun cdv A outer s H vs Q E hr h => ?_)
 ·obtain ⟨x, y, rfl, _⟩ := h; rfl
 ·obtain ⟨x, y, rfl, hx, k⟩ := h
  refine ⟨_, (aqg (aqy (bqh (kqd (K := K) rfl rfl) rfl g.oqK PyProof.Rows.boot_all (aqa (oqd (fx := ["signs"]) (fr := [1]) rfl rfl (by decide +kernel) rfl (by decide +kernel) rfl (by decide +kernel) rfl (.cons rfl rfl rfl rfl .nil) rfl (oq3 (pv 0)) (fun _ _ _ => pq1) (fun _ _ _ => (gqB hqX (pv 0) (pv 1) (by with_unfolding_all rfl)))) aqb)))), ?_⟩
  walk_at "rd"
  intro p hp
  refine lqj (z := x) (aqp hx) hp (fun c => .bl (decide (c ∈ y.cps.toList))) (fun c hc H' R hR => ?_) (fun H' sm hp' => ?_)
  ·walk_at "rd"
   exact hR H' (Same.refl _)
  ·refine kqN.mpr ⟨x.cps.toList.map fun c => decide (c ∈ y.cps.toList), SqL.of (by rw [hp', List.map_map]; rfl), ?_⟩
   rw [List.all_map]
   exact k H' sm
theorem dqV (g : G K mg) : FnOk P w K mg base CX0 1 g.bqX g.bqI ["figure"] dqU := by
 refine g.bq4.ok fqM (fun vs H Q E h => ?_) (fun cdv A outer s H vs Q E hr h => ?_)
 ·obtain ⟨c, rfl, _⟩ := h; rfl
 ·obtain ⟨a, rfl, ha, k⟩ := h
  refine ⟨_, (aqc (cqf (aqA hqX (pv 0) (aqL (v := eqq) rfl g.cq4 ⟨_, rfl⟩) (by with_unfolding_all rfl))
    (aqg (aqy (fqt (K := K) rfl PySem.F.plainAttrs_str PySem.F.slot_str_index PySem.F.type_str_index jqg (aqL (v := eqq) rfl g.cq4 ⟨_, rfl⟩) (aqa (pv 0) aqb)))) aqH)
   (aqc (cqf (aqA hqX (pv 0) (aqL (v := equ) rfl g.cq5 ⟨_, rfl⟩) (by with_unfolding_all rfl))
    (aqg (aqy (fqt (K := K) rfl PySem.F.plainAttrs_str PySem.F.slot_str_index PySem.F.type_str_index jqg (aqL (v := equ) rfl g.cq5 ⟨_, rfl⟩) (aqa (pv 0) aqb)))) aqH)
   (aqg (aqy aqV)))), ?_⟩
  walk_at "rd"
  refine ite2 (fun h => ?_) (fun h => ?_)
  ·obtain ⟨e1, e2⟩ := lqg a ha h
   obtain ⟨n, hn⟩ := Option.isSome_iff_exists.mp e2
   rw [hn] at e1
   rw [eqf hn] at k
   exact ⟨n, [], e1, k⟩
  ·refine ite2 (fun h2 => ?_) (fun h2 => ?_)
   ·obtain ⟨e1, e2⟩ := lqn a ha h h2
    obtain ⟨n, hn⟩ := Option.isSome_iff_exists.mp e2
    rw [hn] at e1
    rw [eqf hn] at k
    exact ⟨n, [], e1, k⟩
   ·rw [fq2 (qqo a ha h h2)] at k
    exact k
theorem fqR (g : G K mg) : FnOk P w K mg base CX0 1 g.bqZ g.bqL ["number"] fqS := by
 refine g.cq3.ok cqu (fun vs H Q E h => ?_) (fun cdv A outer s H vs Q E hr h => ?_)
 ·obtain ⟨c, rfl, _⟩ := h; rfl
 ·obtain ⟨n, rfl, k⟩ := h
  refine ⟨_, (aqc (cqf (PW.pt (fq7 (aqA oqH (pv 0) (aqL (v := eqC) rfl g.dqk ⟨_, rfl⟩) (nomark _)) (fq7 (aqA iqP (pv 0) (aqL (v := hqm) rfl g.eq9 ⟨_, rfl⟩) (nomark _)) (fqz (aqA gqZ (pv 0) (aqL (v := dqt) rfl g.cqd ⟨_, rfl⟩) (nomark _))))))
    (aqg (aqy aqV)) aqH)
   (aqc (aqo (i := 1) cqu.nd rfl (Or.inl rfl) (aqu mqq (pv 0) (aqL (v := eqC) rfl g.dqk ⟨_, rfl⟩)))
   (aqc (cqf (aqA iqP (pv 0) (aqL (v := dqt) rfl g.cqd ⟨_, rfl⟩) (nomark _))
    (aqg (aqo (i := 1) cqu.nd rfl (Or.inl rfl) (aqu mqq (pv 1) aqj))) aqH)
   (aqg (aqy (dqA (aq8 (K := K) rfl) (aqL (v := kqJ) rfl g.iqS ⟨_, rfl⟩) (pv 1) (fun _ _ => rfl))))))), ?_⟩
  walk_at "rd"
  refine ite2 (fun h => ?_) (fun h => ?_)
  ·rw [kqh (fun q => by have := fqm q; omega)] at k
   exact k
  ·refine ite2 (fun h1 => ?_) (fun h1 => ?_)
   ·rw [kqh (fun q => by have := fqm q; omega)] at k
    exact k
   ·refine ite2 (fun h2 => ?_) (fun h2 => ?_)
    ·rw [kqh (fun q => by have := fqm q; omega)] at k
     exact k
    ·have hs : isSg n = true := nq6 (by omega) (by omega) (by omega)
     rw [nqG hs] at k
     have hat := mqe n (by omega) hs
     refine ite2 (fun h3 => ?_) (fun h3 => ?_)
     ·rw [if_pos (show 37 < n by omega)] at hat
      refine ⟨n, hqO, ?_, k⟩
      rw [show (n : Int) - 32 - 1 = ((n - 32 - 1 : Nat) : Int) by omega]
      exact bqm hat
     ·rw [if_neg (show ¬ 37 < n by omega)] at hat
      refine ⟨n, hqO, ?_, k⟩
      rw [show (n : Int) - 32 = ((n - 32 - 0 : Nat) : Int) by omega]
      exact bqm hat
theorem aqC (g : G K mg) : FnOk P w K mg base CX0 1 g.aqZ g.aqY ["self", "at"] (cqq K g.aql) := by
 refine g.cqC.ok dq8 (fun vs H Q E h => ?_) (fun cdv A outer s H vs Q E hr h => ?_)
 ·obtain ⟨a, v, rfl, _⟩ := h; rfl
 ·obtain ⟨a, v, rfl, ha, k⟩ := h
  refine ⟨_, (aqg (oqn (pv 0) (pv 1) rfl)), ?_⟩
  walk_at "rd"
  exact ⟨a, _, rfl, ha, g.eql, fun d hd => k d hd⟩
theorem fqa (g : G K mg) : FnOk P w K mg base CX0 1 g.bqv g.bqi ["self", "text"] (eq2 K g.aqi) := by
 refine g.dqm.ok eqZ (fun vs H Q E h => ?_) (fun cdv A outer s H vs Q E hr h => ?_)
 ·obtain ⟨p, dx, t, rfl, _⟩ := h; rfl
 ·obtain ⟨p, dx, t, rfl, hp, k⟩ := h
  refine ⟨_, (aqc (jqb (pv 0) (pv 1) rfl)
   (aqg (jqb (pv 0) aqj rfl))), ?_⟩
  walk_at "rd"
  refine ⟨p, _, dx, _, rfl, hp, g.aqe, g.aqO, by show 0 < 1000; decide, ?_⟩
  refine ⟨p, _, dx, _, rfl, aqr, g.aqe, g.aqh, by show 1 < 1000; decide, ?_⟩
  have h : Str.ofString "text" ≠ Str.ofString "place" := by decide +kernel
  rw [kqg]
  refine k _ gqm ⟨dx, ?_⟩
  rw [aqr]
  simp only [putF, if_neg h]
  rfl
theorem dqT (g : G K mg) : FnOk P w K mg base CX0 1 g.bq8 g.bqJ ["self"] (fqN K g.aqi) := by
 refine g.eqr.ok fqP (fun vs H Q E h => ?_) (fun cdv A outer s H vs Q E hr h => ?_)
 ·obtain ⟨p, t, i, rfl, _⟩ := h; rfl
 ·obtain ⟨p, t, i, rfl, ⟨dx, hp⟩, hl, k⟩ := h
  refine ⟨_, (aqg (aqy (gqB gqZ (bqE (pv 0) rfl) (bqh (bq2 (K := K) rfl) rfl g.gqN PySem.boot_len (aqa (bqE (pv 0) rfl) aqb)) (nomark _)))), ?_⟩
  have hcur : Cur H g.aqi p t i := ⟨dx, hp⟩
  walk_at "rd"
  refine aqI hcur g.aqe g.aqh (dqH hcur g.aqe g.aqO ?_)
  walk_at "rd"
  refine ⟨aqp hl, ?_⟩
  rw [show decide ((i : Int) = (t.length : Int)) = decide (i = t.length) from decide_eq_decide.mpr (by omega)]
  exact k
theorem bqD (g : G K mg) : FnOk P w K mg base CX0 1 g.cqO g.cqi ["self"] (gqS K g.aqi) := by
 refine g.eqV.ok eqF (fun vs H Q E h => ?_) (fun cdv A outer s H vs Q E hr h => ?_)
 ·obtain ⟨p, t, i, c, rfl, _⟩ := h; rfl
 ·obtain ⟨p, t, i, c, rfl, ⟨dx, hp⟩, hc, hl, k⟩ := h
  refine ⟨_, (aqc (aqo (i := 1) eqF.nd rfl (Or.inl rfl) (dqA (aq8 (K := K) rfl) (bqE (pv 0) rfl) (bqE (pv 0) rfl) (fun _ _ => rfl)))
   (aqc (jqb (pv 0) (aqu (dqv (K := K) rfl) (bqE (pv 0) rfl) aqj) rfl)
   (aqg (aqy (pv 1))))), ?_⟩
  have hcur : Cur H g.aqi p t i := ⟨dx, hp⟩
  walk_at "rd"
  refine dqH hcur g.aqe g.aqO (aqI hcur g.aqe g.aqh ?_)
  walk_at "rd"
  refine ⟨c, aqp hl, bqm hc, ?_⟩
  refine aqI hcur g.aqe g.aqh ?_
  walk_at "rd"
  exact iqk hcur g.aqe g.aqh (i + 1) (by omega) fun H' sb h => k H' sb h
theorem mqi {K : W.Frag} {C p : Addr} {H : Hp} {Q : VK} {E : XK} {t w r : List Nat} {i : Nat} (h : Cur H C p t i) (hi : i ≤ t.length) (hl : t.length ≤ 100000) (hd : t.drop i = w ++ r) (k : ∀ H', SameBut p H H' → Cur H' C p t (i + w.length) → i + w.length ≤ t.length → t.drop (i + w.length) = r → Q (.bl true) H') : cqx K C [.ref p, .str ⟨w.toArray⟩] H Q E :=
 ⟨p, t, w, i, rfl, h, hi, hl, fun _ H' s c => k H' s c (by have := congrArg List.length hd; rw [List.length_drop, List.length_append] at this; omega) (by rw [← List.drop_drop, hd, List.drop_left]), fun z => absurd (by rw [hd, List.take_left]) z⟩
theorem nqJ {K : W.Frag} {C p : Addr} {H : Hp} {Q : VK} {E : XK} {t w : List Nat} {i : Nat} (h : Cur H C p t i) (hi : i ≤ t.length) (hl : t.length ≤ 100000) (hn : ¬ (t.drop i).take w.length = w) (k : Q (.bl false) H) : cqx K C [.ref p, .str ⟨w.toArray⟩] H Q E :=
 ⟨p, t, w, i, rfl, h, hi, hl, fun z => absurd z hn, fun _ => k⟩
theorem aqx (g : G K mg) : FnOk P w K mg base CX0 1 g.bq1 g.bqK ["self", "text"] (cqx K g.aqi) := by
 refine g.dq5.ok fqQ (fun vs H Q E h => ?_) (fun cdv A outer s H vs Q E hr h => ?_)
 ·obtain ⟨p, t, w, i, rfl, _⟩ := h; rfl
 ·obtain ⟨p, t, w, i, rfl, ⟨dx, hp⟩, hi, hl, k1, k2⟩ := h
  refine ⟨_, (aqc (cqf (dqn (bqT (fqt (K := K) rfl PySem.F.plainAttrs_str PySem.F.slot_str_startswith PySem.F.type_str_startswith jqC (bqE (pv 0) rfl) (aqa (pv 1) (aqa (bqE (pv 0) rfl) aqb)))))
    (aqg (aqy fqn)) aqH)
   (aqc (jqb (pv 0) (aqu (dqv (K := K) rfl) (bqE (pv 0) rfl) (bqh (bq2 (K := K) rfl) rfl g.gqN PySem.boot_len (aqa (pv 1) aqb))) rfl)
   (aqg (aqy fqn)))), ?_⟩
  have hcur : Cur H g.aqi p t i := ⟨dx, hp⟩
  walk_at "rd"
  refine dqH hcur g.aqe g.aqO ⟨rfl, aqI hcur g.aqe g.aqh ?_⟩
  walk_at "rd"
  have e := mqH t w i hi
  rw [eqD, eqD] at e
  rw [e]
  by_cases h : (t.drop i).take w.length = w
  ·rw [decide_eq_true h, if_neg (by decide)]
   refine aqI hcur g.aqe g.aqh ?_
   walk_at "rd"
   exact ⟨aqp (by have := congrArg List.length h; rw [List.length_take, List.length_drop] at this; omega), iqk hcur g.aqe g.aqh (i + w.length) (by omega) fun H' sb h' => k1 h H' sb h'⟩
  ·rw [decide_eq_false h, if_pos rfl]
   exact k2 h
theorem fqy (g : G K mg) : FnOk P w K mg base CX0 1 g.dqw g.dqf ["door", "cursor"] (hq7 K g.aqi) := by
 refine g.dqB.ok iqB (fun vs H Q E h => ?_) (fun cdv A outer s H vs Q E hr h => ?_)
 ·obtain ⟨p, t, i, c, n, rfl, _⟩ := h; rfl
 ·obtain ⟨p, t, i, c, n, rfl, hcur, hl, hc, h48, h57, hn, k⟩ := h
  refine ⟨_, (aqg (aqy (aqu (dqv (K := K) rfl) (aqu cqy (pv 0) aqj) (cqT eqU rfl g.jqG iqw (aqa (dqA (aq8 (K := K) rfl) (bqE (pv 1) rfl) (bqE (pv 1) rfl) (fun _ _ => rfl)) aqb))))), ?_⟩
  walk_at "rd"
  refine ⟨.inl ⟨by omega, by omega⟩, dqH hcur g.aqe g.aqO (aqI hcur g.aqe g.aqh ?_)⟩
  walk_at "rd"
  refine ⟨c, aqp hl, bqm hc, _, by show 1 ≤ 640; decide, iqX c (by omega) h48, ?_⟩
  rw [show (n : Int) * 10 + ((c - 48 : Nat) : Int) = ((n * 10 + (c - 48) : Nat) : Int) by omega]
  exact k
theorem hqr (g : G K mg) : FnOk P w K mg base CX0 1 g.dqb g.cqH ["_law_found"] (hqs K) := by
 refine g.dq7.ok hqf (fun vs H Q E h => ?_) (fun cdv A outer s H vs Q E hr h => ?_)
 ·obtain ⟨i, rfl, _⟩ := h; rfl
 ·obtain ⟨i, rfl, k⟩ := h
  refine ⟨_, (aqg (aqy (jqs (bqh gqC rfl g.cqt bqY (aqa (pv 0) (aqa (hqE (v := .ty "int") rfl g.jqG iqw rfl) aqb))) (iqd (mqr (bqh gqC rfl g.cqt bqY (aqa (pv 0) (aqa (hqE (v := .ty "bool") rfl g.mqp nqR rfl) aqb)))))))), ?_⟩
  walk_at "rd"
  exact k
theorem eqj (g : G K mg) : FnOk P w K mg base CX0 1 g.dqM g.cq7 ["_law_cell"] (iqt K) := by
 refine g.cqV.ok cqs (fun vs H Q E h => ?_) (fun cdv A outer s H vs Q E hr h => ?_)
 ·obtain ⟨i, rfl, _⟩ := h; rfl
 ·obtain ⟨i, rfl, k⟩ := h
  refine ⟨_, (aqc (aqo (i := 1) cqs.nd rfl (Or.inl rfl) (aqq (aqa fqn (aqa (aqq aqb) (aqa fqn aqb)))))
   (aqc (aqo (i := 2) cqs.nd rfl (Or.inl rfl) (dqi (aqa (aqq (aqa aqk (aqa (pv 1) (aqa aqV (aqa aqV aqb))))) (aqa (aqq (aqa aqk (aqa (pv 1) (aqa aqV (aqa aqV aqb))))) (aqa (aqq (aqa aqk (aqa (aqq (aqa fqn (aqa (aqq (aqa aqk aqb)) (aqa fqn aqb)))) (aqa aqV (aqa aqV aqb))))) aqb)))))
   (aqc (aqo (i := 2) cqs.nd rfl (Or.inl rfl) (aqu (aqR (K := K)) (pv 2) (dqi (aqa (aqq (aqa aqk (aqa (pv 1) (aqa (aqq aqb) (aqa aqV aqb))))) (aqa (aqq (aqa aqk (aqa (pv 1) (aqa aqV (aqa aqk aqb))))) aqb)))))
   (aqc (aqo (i := 2) cqs.nd rfl (Or.inl rfl) (aqu (aqR (K := K)) (pv 2) (dqi (aqa (aqq (aqa aqk (aqa (aqq (aqa fqn (aqa (aqq (aqa aqk aqb)) (aqa fqn aqb)))) (aqa (aqq (aqa (aqq (aqa aqk (aqa aqV aqb))) aqb)) (aqa aqV aqb))))) aqb))))
   (aqg (aqy (dqA (aq8 (K := K) rfl) (pv 2) (aqu cqW (pv 0) aqj) (fun _ _ => rfl)))))))), ?_⟩
  have c1 : Str.ofString "/" = ⟨[47].toArray⟩ := by decide +kernel
  have c2 : Str.ofString "x" = ⟨[120].toArray⟩ := by decide +kernel
  have c3 : Str.ofString "/x" = ⟨[47, 120].toArray⟩ := by decide +kernel
  have c4 : Str.ofString "?" = ⟨[63].toArray⟩ := by decide +kernel
  have c5 : Str.ofString "#" = ⟨[35].toArray⟩ := by decide +kernel
  have c6 : Str.ofString "y" = ⟨[121].toArray⟩ := by decide +kernel
  have c7 : Str.ofString "/x/?y" = ⟨[47, 120, 47, 63, 121].toArray⟩ := by decide +kernel
  rw [c1, c2, c3, c4, c5, c6, c7]
  walk_at "rd"
  refine ⟨by decide, fun p1 H1 n1 s1 e1 => ⟨by decide, fun p2 H2 n2 s2 e2 => ⟨by decide, fun p3 H3 n3 s3 e3 => ⟨by decide, fun p4 H4 n4 s4 e4 => ⟨by decide, fun p5 H5 n5 s5 e5 => ⟨by decide, fun p6 H6 n6 s6 e6 => ⟨by decide, fun p7 H7 n7 s7 e7 => ⟨by decide, fun p8 H8 n8 s8 e8 => ?_⟩⟩⟩⟩⟩⟩⟩⟩
  refine ⟨by decide, fun p9 H9 n9 s9 e9 => ⟨by decide, fun p10 H10 n10 s10 e10 => ⟨by decide, fun p11 H11 n11 s11 e11 => ⟨by decide, fun p12 H12 n12 s12 e12 => .inl ⟨_, _, (((s9.trans s10).trans s11).trans s12) _ _ e8, e12, (show 5 ≤ sizeLine by decide), fun p13 H13 n13 s13 e13 => ?_⟩⟩⟩⟩⟩
  refine ⟨by decide, fun p14 H14 n14 s14 e14 => ⟨by decide, fun p15 H15 n15 s15 e15 => ⟨by decide, fun p16 H16 n16 s16 e16 => ⟨by decide, fun p17 H17 n17 s17 e17 => ⟨by decide, fun p18 H18 n18 s18 e18 => ⟨by decide, fun p19 H19 n19 s19 e19 => .inl ⟨_, _, (((s14.trans s15).trans s16).trans ((s17.trans s18).trans s19)) _ _ e13, e19, (show 6 ≤ sizeLine by decide), fun p20 H20 n20 s20 e20 => ?_⟩⟩⟩⟩⟩⟩⟩
  have w18 := s19.trans s20
  have w17 := s18.trans w18
  have w16 := s17.trans w17
  have w15 := s16.trans w16
  have w14 := s15.trans w15
  have w13 := s14.trans w14
  have w12 := s13.trans w13
  have w11 := s12.trans w12
  have w10 := s11.trans w11
  have w9 := s10.trans w10
  have w8 := s9.trans w9
  have w7 := s8.trans w8
  have w6 := s7.trans w7
  have w5 := s6.trans w6
  have w4 := s5.trans w5
  have w3 := s4.trans w4
  have w2 := s3.trans w3
  have w1 := s2.trans w2
  have w0 := s1.trans w1
  obtain ⟨j, hj, ej⟩ : ∃ j : Nat, j < 6 ∧ i % 6 = (j : Int) := ⟨(i % 6).toNat, by omega, by omega⟩
  rw [ej]
  have root : IsT H20 (.tuple [.bool true, .tuple [], .bool true]) (.ref p2) := .tup (w2 _ _ e2) (.cons (.bl _) (.cons (.tup (w1 _ _ e1) .nil) (.cons (.bl _) .nil)))
  have wx : ∀ {q p5 : Addr} {b : Bool}, H20 q = some (.tup [.bl true, .ref p5, .bl b]) → H20 p5 = some (.tup [.str ⟨#[120]⟩]) → IsT H20 (.tuple [.bool true, .tuple [st [120]], .bool b]) (.ref q) := fun h1 h2 => .tup h1 (.cons (.bl _) (.cons (.tup h2 (.cons (.str _) .nil)) (.cons (.bl _) .nil)))
  have got : ∀ {v : V}, [V.ref p3, V.ref p4, V.ref p7, V.ref p10, V.ref p11, V.ref p18][j]? = some v → Q v H20 → rIx K (.ref p20) (.int (j : Int)) H20 Q := fun h q => .inl ⟨p20, _, _, _, rfl, rfl, .of e20, bqm h, q⟩
  refine (show (0 : Int) < 6 ∧ rIx K (.ref p20) (.int (j : Int)) H20 Q from ⟨by decide, ?_⟩)
  match j, hj with
  | 0, _ => exact got rfl (k ⟨[], [], true, none, none⟩ p3 p2 .non H20 (List.mem_of_getElem? (l := tls16) (i := 0) rfl) w0 (w3 _ _ e3) root .non)
  | 1, _ => exact got rfl (k ⟨[47], [], true, none, none⟩ p4 p2 .non H20 (List.mem_of_getElem? (l := tls16) (i := 1) rfl) w0 (w4 _ _ e4) root .non)
  | 2, _ => exact got rfl (k ⟨[47, 120], [[120]], false, none, none⟩ p7 p6 .non H20 (List.mem_of_getElem? (l := tls16) (i := 2) rfl) w0 (w7 _ _ e7) (wx (w6 _ _ e6) (w5 _ _ e5)) .non)
  | 3, _ => exact got rfl (k ⟨[63], [], true, some [], none⟩ p10 p2 (.ref p9) H20 (List.mem_of_getElem? (l := tls16) (i := 3) rfl) w0 (w10 _ _ e10) root (.tup (w9 _ _ e9) .nil))
  | 4, _ => exact got rfl (k ⟨[35], [], true, none, some []⟩ p11 p2 .non H20 (List.mem_of_getElem? (l := tls16) (i := 4) rfl) w0 (w11 _ _ e11) root .non)
  | 5, _ => exact got rfl (k ⟨[47, 120, 47, 63, 121], [[120]], true, some [([121], none)], none⟩ p18 p15 (.ref p17) H20 (List.mem_of_getElem? (l := tls16) (i := 5) rfl) w0 (w18 _ _ e18) (wx (w15 _ _ e15) (w14 _ _ e14)) (.tup (w17 _ _ e17) (.cons (.tup (w16 _ _ e16) (.cons (.str _) (.cons .non .nil))) .nil)))
theorem jqM (g : G K mg) : FnOk P w K mg base CX0 2 g.eqY g.eqx ["thing"] jqT := by
 refine g.fq3.ok jqE (fun vs H Q E h => ?_) (fun cdv A outer s H vs Q E hr h => ?_)
 ·obtain ⟨d, v, rfl, _⟩ := h; rfl
 ·obtain ⟨d, v, rfl, hv, hs, k⟩ := h
  refine ⟨_, (aqg (aqy (jqs (bqh gqC rfl g.cqt bqY (aqa (pv 0) (aqa (hqE (v := .ty "str") rfl g.lq8 jq4 rfl) aqb))) (iqd (aqt (fql g) (hr.mono (by decide)) rfl g.eqP g.eqm.kp g.eq3 .nil pass0 (aqa (pv 0) (aqa (aqL (v := kqJ) rfl g.iqS ⟨_, rfl⟩) aqb))))))), ?_⟩
  cases hv with
  | lst hp r => walk_at "rd"; simp only [lqh hp]; walk_at "rd"; exact k H (Same.refl _)
  | tup hp r => walk_at "rd"; simp only [lq0 hp]; walk_at "rd"; exact k H (Same.refl _)
  | str x =>
   walk_at "rd"
   refine ⟨x, _, rfl, iqs hs, fun H' sm => ?_⟩
   simp only [pq4]
   exact k H' sm
  | _ => walk_at "rd"; exact k H (Same.refl _)
theorem jqD (g : G K mg) : FnOk P w K mg base CX0 2 g.eq5 g.eqy ["figures"] gq7 := by
 refine g.gqH.ok fqq (fun vs H Q E h => ?_) (fun cdv A outer s H vs Q E hr h => ?_)
 ·obtain ⟨c, rfl, _⟩ := h; rfl
 ·obtain ⟨l, rfl, hl, ha, k⟩ := h
  refine ⟨_, (aqc (cqf (aqA nqE (bqh (bq2 (K := K) rfl) rfl g.gqN PySem.boot_len (aqa (pv 0) aqb)) aqj (nomark _))
    (aqg (aqy aqV)) aqH)
   (aqc (aqo (i := 1) fqq.nd rfl (Or.inl rfl) (aqt (dqV g) (hr.mono (by decide)) rfl g.cq0 g.bq4.kp g.cqU .nil pass0 (aqa (dqA (aq8 (K := K) rfl) (pv 0) aqj (fun _ _ => rfl)) aqb)))
   (aqc (aqo (i := 2) fqq.nd rfl (Or.inl rfl) (aqt (dqV g) (hr.mono (by decide)) rfl g.cq0 g.bq4.kp g.cqU .nil pass0 (aqa (dqA (aq8 (K := K) rfl) (pv 0) aqj (fun _ _ => rfl)) aqb)))
   (aqc (cqf (PW.pt (fq7 (aqA gqw (pv 1) aqV (nomark _)) (fqz (aqA gqw (pv 2) aqV (nomark _)))))
    (aqg (aqy aqV)) aqH)
   (aqg (aqy (aqt (fqR g) (hr.mono (by decide)) rfl g.dq0 g.cq3.kp g.eqi .nil pass0 (aqa (aqu (dqv (K := K) rfl) (aqu cqy (pv 1) aqj) (pv 2)) aqb)))))))), ?_⟩
  walk_at "rd"
  have hz : l.length ≤ sizeLine := aqp (by omega)
  refine ⟨hz, ite2 (fun h => ?_) (fun h => ?_)⟩
  ·rw [jqH (by omega)] at k
   exact k
  ·obtain ⟨a, b, rfl⟩ := pq9 (l := l) (by omega)
   refine ⟨a, hz, rfl, ha a (by simp), b, hz, rfl, ha b (by simp), ?_⟩
   have k : Q (signOf a b) H := k
   unfold signOf at k
   cases e1 : fig a with
   | none =>
    rw [e1] at k
    rw [fq2 e1]
    exact k
   | some x =>
    cases e2 : fig b with
    | none =>
     rw [e1, e2] at k
     rw [eqf e1, fq2 e2]
     exact k
    | some y =>
     rw [e1, e2] at k
     rw [eqf e1, eqf e2]
     walk_at "rd"
     exact ⟨.inr ⟨by decide, by decide⟩, x * 16 + y, by rw [Int.natCast_add, Int.natCast_mul]; rfl, k⟩
theorem cqn (g : G K mg) : FnOk P w K mg base CX0 2 g.cqE g.cqk ["self", "signs"] (gqI K g.aqi) := by
 refine g.fqb.ok gqW (fun vs H Q E h => ?_) (fun cdv A outer s H vs Q E hr h => ?_)
 ·obtain ⟨p, t, sg, i, rfl, _⟩ := h; rfl
 ·obtain ⟨p, t, sg, i, rfl, ⟨dx, hp⟩, hi, hl, k⟩ := h
  refine ⟨_, (aqg (aqy (jqs (mqr (dqO (pv 0) g.aqe g.cqv (dqT g) (hr.mono (by decide)) g.cq1 .nil pass0)) (iqd (gqB hqX (dqA (aq8 (K := K) rfl) (bqE (pv 0) rfl) (bqE (pv 0) rfl) (fun _ _ => rfl)) (pv 1) (by with_unfolding_all rfl)))))), ?_⟩
  have hcur : Cur H g.aqi p t i := ⟨dx, hp⟩
  walk_at "rd"
  refine aqF hcur ⟨p, t, i, rfl, hcur, hl, _, rfl, ?_⟩
  by_cases he : i = t.length
  ·rw [decide_eq_true he, if_neg (by decide)]
   rw [dqr (by rw [he]; exact List.getElem?_eq_none (Nat.le_refl _))] at k
   exact k
  rw [decide_eq_false he, if_pos rfl]
  refine dqH hcur g.aqe g.aqO (aqI hcur g.aqe g.aqh ?_)
  have hc : t[i]? = some t[i] := List.getElem?_eq_getElem (by omega)
  walk_at "rd"
  refine ⟨t[i], aqp hl, bqm hc, ?_⟩
  rw [dqu hc] at k
  exact k
theorem gqJ (g : G K mg) : FnOk P w K mg base CX0 2 g.cqI g.cqh ["_law_cell"] (gqR K) := by
 refine g.dqF.ok aqw (fun vs H Q E h => ?_) (fun cdv A outer s H vs Q E hr h => ?_)
 ·obtain ⟨i, rfl, _⟩ := h; rfl
 ·obtain ⟨i, rfl, k⟩ := h
  refine ⟨_, (aqc (aqo (i := 1) aqw.nd rfl (Or.inl rfl) aqk)
   (aqc (aqo (i := 2) aqw.nd rfl (Or.inl rfl) aqk)
   (aqc (iq5 PassesOwn.never rfl (gqp rfl g.hqI (aqa (aqu (aqR (K := K)) aqj (aqu cqW (pv 0) aqj)) aqb)) (bqb (i := 3) aqw.nd rfl (Or.inl rfl))
   (aqc (aqo (i := 4) aqw.nd rfl (Or.inl rfl) (aqu cqW (aqu cqy (aqu (aqR (K := K)) (pv 0) (aqu cqy (aqu cqy aqj (pv 3)) (pv 3))) aqj) aqj))
   (aqg (aqo (i := 2) aqw.nd rfl (Or.inl rfl) (aqu (aqR (K := K)) (pv 2) (dqA (aq8 (K := K) rfl) (pv 1) (aqu cqW (aqu dqz (aqu cqW (aqu cqy (pv 4) (aqu (aqR (K := K)) (pv 4) aqj)) aqj) aqj) aqj) (fun _ _ => rfl)))))))
   (aqc (iq6 (aqt (eqj g) (hr.mono (by decide)) rfl g.dqG g.cqV.kp g.dqy .nil pass0 (aqa (aqu dqz (pv 0) aqj) aqb)) (hqL (n := 4) (K := K) rfl rfl (bqg (bqb (i := 5) aqw.nd rfl (Or.inl rfl)) (bqg (bqb (i := 6) aqw.nd rfl (Or.inl rfl)) (bqg (bqb (i := 7) aqw.nd rfl (Or.inl rfl)) (bqg (bqb (i := 8) aqw.nd rfl (Or.inl rfl)) hqK))))))
   (aqc (aqo (i := 9) aqw.nd rfl (Or.inl rfl) (aqq (aqa aqk (aqa (aqq (aqa (pv 2) (aqa aqV (aqa aqV (aqa (pv 6) (aqa (pv 7) (aqa (pv 8) aqb))))))) aqb))))
   (aqc (cqf (PW.pt (fq7 (aqA hqX (dqA (aq8 (K := K) rfl) (pv 2) aqj (fun _ _ => rfl)) aqk (by with_unfolding_all rfl)) (fqz (aqA iqP (bqh (bq2 (K := K) rfl) rfl g.gqN PySem.boot_len (aqa (pv 2) aqb)) aqj (nomark _)))))
    (aqg (aqo (i := 9) aqw.nd rfl (Or.inl rfl) (aqq (aqa aqk (aqa (bqh (bq2 (K := K) rfl) rfl g.gqN PySem.boot_len (aqa (pv 2) aqb)) aqb))))) aqH)
   (aqg (aqy (aqq (aqa (aqu (aqR (K := K)) (aqu (aqR (K := K)) (pv 2) aqk) (pv 5)) (aqa (pv 9) aqb))))))))))), ?_⟩
  have eL : Str.ofString "abcdefghijklmnopqrstuvwxyzABCDEFGHIJKLMNOPQRSTUVWXYZ0123456789" = ⟨AL.toArray⟩ := by unfold AL; simp
  have eF : Str.ofString "0123456789" = ⟨fgS.toArray⟩ := by unfold fgS; simp
  have eC : Str.ofString ":" = ⟨[58].toArray⟩ := by decide +kernel
  rw [eL, eF, eC]
  walk_at "rd"
  obtain ⟨m, hm, em⟩ : ∃ m : Nat, m ≤ 10 ∧ i % 11 = (m : Int) := ⟨(i % 11).toNat, by omega, by omega⟩
  rw [em, show (1 + (m : Int)).toNat = m + 1 by omega]
  refine ⟨by decide, by omega, by omega, ?_⟩
  refine fqj (fun j σ H' => H' = H ∧ ∃ (s : List Nat) (v3 v4 : Option V), σ = [some (.int i), some (.str ⟨AL.toArray⟩), some (tV s), v3, v4, none, none, none, none, none] ∧ s.length = j ∧ ∀ c ∈ s, isAln c = true) ⟨rfl, [], none, none, rfl, rfl, by simp⟩ ?_ ?_
  ·rintro j σ H1 hj ⟨rfl, s, v3, v4, rfl, hs, ha⟩
   walk_at "rd"
   obtain ⟨n, hn⟩ : ∃ n : Int, n = (i + 31 * (0 + (j : Int)) * (0 + (j : Int))) * 48271 % 2147483647 := ⟨_, rfl⟩
   rw [← hn]
   have n0 : 0 ≤ n ∧ n < 2147483647 := by rw [hn]; omega
   obtain ⟨x, hx⟩ : ∃ x : Int, x = n * (n + 69621) % 2147483629 / 4 % 62 := ⟨_, rfl⟩
   rw [← hx]
   have x0 : 0 ≤ x ∧ x < 62 := by rw [hx]; omega
   obtain ⟨c, hc, hca⟩ := qqa AL x0.1 (by rw [mqx]; omega)
   refine ⟨.inl ⟨by decide, by decide⟩, .inr ⟨by omega, by omega⟩, .inr ⟨by decide, by decide⟩, by decide, .inl ⟨by omega, by omega⟩, by decide, ⟨by decide, by decide⟩, by decide, c, aqp (by rw [mqx]; decide), hca, aqp (by omega), s ++ [c], _, _, ⟨rfl, rfl, rfl⟩, by rw [List.length_append, List.length_singleton, hs], fun e he => ?_⟩
   rcases List.mem_append.mp he with z | z
   ·exact ha e z
   ·rw [List.mem_singleton.mp z]; exact pqe c hc
  rintro σ H1 ⟨rfl, s, v3, v4, rfl, hs, ha⟩
  walk_at "rd"
  refine ⟨⟨by decide, by decide⟩, i / 11, rfl, fun x p pw vq H2 hx s2 hp hw hq => ⟨p, _, rfl, .of hp, rfl, _, _, rfl, _, _, rfl, _, _, rfl, _, _, rfl, rfl, by decide, fun p3 H3 n3 s3 e3 => ⟨by decide, fun p4 H4 n4 s4 e4 => ?_⟩⟩⟩
  have ok := kqY x hx
  have xl := ok.len
  obtain ⟨c, s', rfl⟩ : ∃ c s', s = c :: s' := by
   cases s with
   | nil => simp at hs
   | cons c s' => exact ⟨c, s', rfl⟩
  have ca := ha c (List.mem_cons_self ..)
  have t128 : ∀ z ∈ (c :: s') ++ [58] ++ x.t, z < 128 := fun z hz => by
   rcases List.mem_append.mp hz with y | y
   ·rcases List.mem_append.mp y with y | y
    ·exact (jqi (ha z y)).2.2.2
    ·rw [List.mem_singleton.mp y]; decide
   ·exact ok.sg z y
  have et : (c :: s') ++ [58] ++ x.t = (c :: s') ++ 58 :: x.t := by rw [List.append_assoc]; rfl
  have tlen : ((c :: s') ++ [58] ++ x.t).length ≤ 300 := by rw [List.length_append, List.length_append, hs, List.length_singleton]; omega
  have bad : ¬ ((c :: s').length ≤ 8 ∧ ∀ z ∈ (c :: s').take 1, isLet z = true) → ∀ (d p7 : Addr) (H7 : Hp), Same H4 H7 → H7 d = some (.tup [.str (Str.ofString "at"), .int ((c :: s').length : Int)]) → H7 p7 = some (.tup [tV ((c :: s') ++ [58] ++ x.t), .ref d]) → Q (.ref p7) H7 := fun hb d p7 H7 s7 hd h7 => by
   refine k _ _ p7 H7 tlen t128 ((s2.trans s3).trans (s4.trans s7)) h7 ?_
   rw [et, oqa ha (by simp) hb]
   exact .tup hd (.cons (.str _) (.cons (.int _) .nil))
  refine ⟨c, aqp (by omega), bqm (j := 0) rfl, ?_⟩
  walk_at "rd"
  have lc : s'.length + 1 = m + 1 := by rw [← hs]; rfl
  have dig : c ∈ fgS → ¬ ((c :: s').length ≤ 8 ∧ ∀ z ∈ (c :: s').take 1, isLet z = true) := fun h z => by
   have h1 := fqu.mp h
   have h2 := z.2 c (by simp)
   simp only [isLet, Bool.or_eq_true, decide_eq_true_eq] at h2
   omega
  have l1 : (s' ++ [58]).length + 1 + x.t.length ≤ sizeLine := aqp (by rw [List.length_append, List.length_singleton]; omega)
  refine ite2 (fun hd => ⟨aqp (by omega), by decide, fun p5 H5 n5 s5 e5 => ⟨aqp (by omega), l1, by decide, fun p6 H6 n6 s6 e6 => bad (dig hd) p5 p6 H6 (s5.trans s6) (s6 _ _ e5) e6⟩⟩) (fun hd => ⟨aqp (by omega), ite2 (fun h8 => ⟨aqp (by omega), by decide, fun p5 H5 n5 s5 e5 => ⟨aqp (by omega), l1, by decide, fun p6 H6 n6 s6 e6 => bad (fun z => by have := z.1; rw [hs] at this; omega) p5 p6 H6 (s5.trans s6) (s6 _ _ e5) e6⟩⟩) (fun h8 => ⟨aqp (by omega), l1, by decide, fun p6 H6 n6 s6 e6 => ?_⟩)⟩)
  refine k _ _ p6 H6 tlen t128 ((s2.trans s3).trans (s4.trans s6)) e6 ?_
  have good : (c :: s').length ≤ 8 ∧ ∀ z ∈ (c :: s').take 1, isLet z = true := ⟨by rw [hs]; omega, fun z hz => by
   have ez : z = c := by simpa using hz
   rw [ez]
   have h1 : ¬ (48 ≤ c ∧ c ≤ 57) := fun y => hd (fqu.mpr y)
   simp only [isAln, Bool.or_eq_true, decide_eq_true_eq] at ca
   rcases ca with y | y
   ·exact y
   ·exact absurd y h1⟩
  rw [et, lq9 ok ha (by simp) good]
  have u26 := s3.trans (s4.trans s6)
  exact .tup (s6 _ _ e4) (.cons (.str _) (.cons (.tup ((s4.trans s6) _ _ e3) (.cons (.str _) (.cons .non (.cons .non (.cons (hw.mono u26.toT) (.cons (hq.mono u26.toT) (.cons (kq1 _) .nil))))))) .nil))
theorem hqJ (g : G K mg) : FnOk P w K mg base CX0 2 g.cq8 g.cqF ["_law_cell"] (hqG K) := by
 refine g.eqe.ok aqB (fun vs H Q E h => ?_) (fun cdv A outer s H vs Q E hr h => ?_)
 ·obtain ⟨i, rfl, _⟩ := h; rfl
 ·obtain ⟨i, rfl, k⟩ := h
  refine ⟨_, (aqc (aqo (i := 1) aqB.nd rfl (Or.inl rfl) (aqu (aqR (K := K)) aqj (aqu cqW (pv 0) aqj)))
   (aqc (aqo (i := 2) aqB.nd rfl (Or.inl rfl) aqk)
   (aqc (aqo (i := 3) aqB.nd rfl (Or.inl rfl) (qqv oq4 aqj))
   (aqc (iq5 PassesOwn.never rfl (gqp rfl g.hqI (aqa (pv 1) aqb)) (bqb (i := 4) aqB.nd rfl (Or.inl rfl))
   (cqz (cqf (aqA gqZ (pv 4) aqj (nomark _))
    (aqg (aqo (i := 3) aqB.nd rfl (Or.inl rfl) (aqu (aqR (K := K)) aqj (bqh (bq2 (K := K) rfl) rfl g.gqN PySem.boot_len (aqa (pv 2) aqb))))) aqH)
   (aqc (aqo (i := 5) aqB.nd rfl (Or.inl rfl) (aqu cqW (aqu cqy (aqu (aqR (K := K)) (pv 0) (aqu cqy (aqu cqy aqj (pv 4)) (pv 4))) aqj) aqj))
   (aqg (aqo (i := 2) aqB.nd rfl (Or.inl rfl) (aqu (aqR (K := K)) (pv 2) (dqA (aq8 (K := K) rfl) (dqi (aqa aqk (aqa aqk aqb))) (aqu cqW (aqu dqz (aqu cqW (aqu cqy (pv 5) (aqu (aqR (K := K)) (pv 5) aqj)) aqj) aqj) aqj) (fun _ _ => rfl))))))))
   (aqc (iq6 (aqt (eqj g) (hr.mono (by decide)) rfl g.dqG g.cqV.kp g.dqy .nil pass0 (aqa (aqu dqz (pv 0) aqj) aqb)) (hqL (n := 4) (K := K) rfl rfl (bqg (bqb (i := 6) aqB.nd rfl (Or.inl rfl)) (bqg (bqb (i := 7) aqB.nd rfl (Or.inl rfl)) (bqg (bqb (i := 8) aqB.nd rfl (Or.inl rfl)) (bqg (bqb (i := 9) aqB.nd rfl (Or.inl rfl)) hqK))))))
   (aqc (cqf (aqA qqc (pv 3) aqj (nomark _))
    (aqg (aqy (aqq (aqa (aqu (aqR (K := K)) (aqu (aqR (K := K)) aqk (pv 2)) (pv 6)) (aqa (aqq (aqa aqk (aqa (pv 3) aqb))) aqb))))) aqH)
   (aqg (aqy (aqq (aqa (aqu (aqR (K := K)) (aqu (aqR (K := K)) aqk (pv 2)) (pv 6)) (aqa (aqq (aqa aqk (aqa (aqq (oqD (oqh 2 (by decide +kernel) (by decide +kernel)) (aqa aqV (aqa (pv 7) (aqa (pv 8) (aqa (pv 9) aqb)))))) aqb))) aqb))))))))))), ?_⟩
  have r1 : Str.ofString "~20" = sub20 := by decide +kernel
  have r2 : Str.ofString " " = ⟨#[32]⟩ := by decide +kernel
  have r3 : Str.ofString "b" = ⟨[98].toArray⟩ := by decide +kernel
  have r4 : Str.ofString "//" = ⟨[47, 47].toArray⟩ := by decide +kernel
  have r5 : sub20 = ⟨[126, 50, 48].toArray⟩ := rfl
  rw [r1, r2, r3, r4]
  walk_at "rd"
  obtain ⟨m, hm, em⟩ : ∃ m : Nat, m ≤ 6 ∧ i % 7 = (m : Int) := ⟨(i % 7).toNat, by omega, by omega⟩
  rw [em, show (57 + (m : Int)).toNat = 57 + m by omega]
  refine ⟨by decide, by omega, by omega, ?_⟩
  refine fqj (fun j σ H' => Same H H' ∧ ∃ (bs : List Bool) (v4 v5 : Option V), σ = [some (.int i), some (.int (57 + (m : Int))), some (tV (bX bs)), some (.int (atM bs 61)), v4, v5, none, none, none, none] ∧ bs.length = j) ⟨Same.refl _, [], none, none, rfl, rfl⟩ ?_ ?_
  ·rintro j σ H1 hj ⟨s1, bs, v4, v5, rfl, hb⟩
   have hbl := jql bs
   walk_at "rd"
   refine ⟨fun σ H2 => H2 = H1 ∧ σ = [some (.int i), some (.int (57 + (m : Int))), some (tV (bX bs)), some (.int (atM bs 60)), some (.int (0 + (j : Int))), v5, none, none, none, none], ?_, ?_⟩
   ·refine ite2 (fun h => ⟨aqp (by omega), rfl, ?_⟩) (fun h => ⟨rfl, ?_⟩)
    ·rw [oq2 (by omega)]
    ·rw [pqt (by omega)]
   rintro σ H2 ⟨rfl, rfl⟩
   walk_at "rd"
   obtain ⟨n, hn⟩ : ∃ n : Int, n = (i + 17 * (0 + (j : Int)) * (0 + (j : Int))) * 69621 % 2147483629 := ⟨_, rfl⟩
   rw [← hn]
   have n0 : 0 ≤ n ∧ n < 2147483629 := by rw [hn]; omega
   obtain ⟨x, hx⟩ : ∃ x : Int, x = n * (n + 48271) % 2147483587 / 4 % 2 := ⟨_, rfl⟩
   rw [← hx]
   have x0 : x = ((0 : Nat) : Int) ∨ x = ((1 : Nat) : Int) := by omega
   refine ⟨.inl ⟨by decide, by decide⟩, .inr ⟨by omega, by omega⟩, .inr ⟨by decide, by decide⟩, by decide, by decide, fun p3 H3 n3 s3 e3 => ⟨.inl ⟨by omega, by omega⟩, by decide, ⟨by decide, by decide⟩, by decide, ?_⟩⟩
   have key : ∀ b : Bool, atI [V.str ⟨#[98]⟩, V.str sub20] x = some (tV (blkX b)) → ∃ xs v, (SqL K H3 p3 xs ∨ SqT K H3 p3 xs) ∧ atI xs x = some v ∧ rAddS K (tV (bX bs)) v H3 fun y H1 => Same H H1 ∧ ∃ (bs_1 : List Bool) (v4 v5 : Option V), (y = tV (bX bs_1) ∧ atM bs 60 = atM bs_1 61 ∧ some (V.int (0 + (j : Int))) = v4 ∧ some (V.int n) = v5) ∧ bs_1.length = j + 1 := fun b hx' => by
    refine ⟨_, _, .inl (.of e3), hx', ?_⟩
    walk_at "rd"
    have hbk : (blkX b).length ≤ 3 := by cases b <;> decide
    refine ⟨aqp (by omega), s1.trans s3, bs ++ [b], _, _, ⟨?_, (lqw bs b).symm, rfl, rfl⟩, by rw [List.length_append, List.length_singleton, hb]⟩
    rw [mqK, show bX [b] = blkX b by cases b <;> rfl]
   rcases x0 with h | h
   ·exact key false (by rw [h]; exact bqm (j := 0) rfl)
   ·exact key true (by rw [h]; exact bqm (j := 1) rfl)
  rintro σ H1 ⟨s1, bs, v4, v5, rfl, hb⟩
  have hbl := jql bs
  walk_at "rd"
  refine ⟨⟨by decide, by decide⟩, i / 7, rfl, fun x p pw vq H2 hx s2 hp hw hq => ⟨p, _, rfl, .of hp, rfl, _, _, rfl, _, _, rfl, _, _, rfl, _, _, rfl, rfl, ?_⟩⟩
  have ok := kqY x hx
  have xl := ok.len
  have t128 : ∀ z ∈ 47 :: 47 :: (bX bs ++ x.t), z < 128 := fun z hz => by
   rcases List.mem_cons.mp hz with y | y
   ·rw [y]; decide
   rcases List.mem_cons.mp y with y | y
   ·rw [y]; decide
   rcases List.mem_append.mp y with y | y
   ·have := lqT bs z y; omega
   ·exact ok.sg z y
  have tlen : (47 :: 47 :: (bX bs ++ x.t)).length ≤ 300 := by rw [List.length_cons, List.length_cons, List.length_append]; omega
  walk_at "rd"
  refine ite2 (fun h0 => ⟨aqp (by omega), aqp (by omega), by decide, fun p3 H3 n3 s3 e3 => ⟨by decide, fun p4 H4 n4 s4 e4 => ?_⟩⟩) (fun h0 => ⟨aqp (by omega), aqp (by omega), by omega, by decide, fun p3 H3 n3 s3 e3 => ⟨by decide, fun p4 H4 n4 s4 e4 => ⟨by decide, fun p5 H5 n5 s5 e5 => ?_⟩⟩⟩)
  ·have hb61 : 61 ≤ bs.length := by
    by_cases h : 61 ≤ bs.length
    ·exact h
    ·unfold atM at h0
     rw [if_neg h] at h0
     omega
   refine k _ _ p4 H4 tlen t128 ((s1.trans s2).trans (s3.trans s4)) e4 ?_
   rw [oqe ok (by omega)]
   have e3' := s4 _ _ e3
   rw [show atM bs 61 = ((2 + (bX (bs.take 60)).length : Nat) : Int) by unfold atM; rw [if_pos hb61]] at e3'
   exact .tup e3' (.cons (.str _) (.cons (.int _) .nil))
  ·have hb60 : bs.length ≤ 60 := by
    by_cases h : 61 ≤ bs.length
    ·unfold atM at h0
     rw [if_pos h] at h0
     omega
    ·omega
   rw [oql] at e3
   refine k _ _ p5 H5 tlen t128 ((s1.trans s2).trans (s3.trans (s4.trans s5))) e5 ?_
   rw [lqK ok (by omega) hb60]
   have u25 := s3.trans (s4.trans s5)
   exact .tup (s5 _ _ e4) (.cons (.str _) (.cons (.tup ((s4.trans s5) _ _ e3) (.cons (.str _) (.cons (.str _) (.cons .non (.cons (hw.mono u25.toT) (.cons (hq.mono u25.toT) (.cons (kq1 _) .nil))))))) .nil))
theorem hq2 (g : G K mg) : FnOk P w K mg base CX0 2 g.dqK g.dqe ["_law_cell"] (hq9 K) := by
 refine g.eqN.ok aqJ (fun vs H Q E h => ?_) (fun cdv A outer s H vs Q E hr h => ?_)
 ·obtain ⟨i, rfl, _⟩ := h; rfl
 ·obtain ⟨i, rfl, i0, k⟩ := h
  refine ⟨_, (cqz (aqo (i := 1) aqJ.nd rfl (Or.inl rfl) (cqT iqh rfl g.lq8 jq4 (aqa (aqu cqW (aqu dqz (pv 0) aqj) (dqA (aq8 (K := K) rfl) (dqi (aqa aqj (aqa aqj (aqa aqj (aqa aqj aqb))))) (aqu cqW (pv 0) aqj) (fun _ _ => rfl))) aqb)))
   (cqz (cqf (aqA gqZ (aqu cqW (aqu dqz (pv 0) aqj) aqj) aqj (nomark _))
    (aqg (aqo (i := 1) aqJ.nd rfl (Or.inl rfl) (dqA (aq8 (K := K) rfl) (dqi (aqa aqk (aqa aqk (aqa aqk (aqa aqk (aqa aqk (aqa aqk (aqa aqk (aqa aqk aqb))))))))) (aqu cqW (aqu dqz (pv 0) aqj) aqj) (fun _ _ => rfl)))) aqH)
   (aqc (iq6 (aqt (eqj g) (hr.mono (by decide)) rfl g.dqG g.cqV.kp g.dqy .nil pass0 (aqa (aqu dqz (pv 0) aqj) aqb)) (hqL (n := 4) (K := K) rfl rfl (bqg (bqb (i := 2) aqJ.nd rfl (Or.inl rfl)) (bqg (bqb (i := 3) aqJ.nd rfl (Or.inl rfl)) (bqg (bqb (i := 4) aqJ.nd rfl (Or.inl rfl)) (bqg (bqb (i := 5) aqJ.nd rfl (Or.inl rfl)) hqK))))))
   (aqc (aqo (i := 6) aqJ.nd rfl (Or.inl rfl) (aqu (aqR (K := K)) (aqu (aqR (K := K)) aqk (pv 1)) (pv 2)))
   (cqz (cqf (aqA gqZ (pv 1) aqk (nomark _))
    (aqg (aqy (aqq (aqa (pv 6) (aqa (aqq (aqa aqk (aqa aqj aqb))) aqb))))) aqH)
   (aqc (aqo (i := 7) aqJ.nd rfl (Or.inl rfl) aqj)
   (aqc (iq5 PassesOwn.never rfl (gqp rfl g.hqI (aqa (bqh (bq2 (K := K) rfl) rfl g.gqN PySem.boot_len (aqa (pv 1) aqb)) aqb)) (bqb (i := 8) aqJ.nd rfl (Or.inl rfl))
   (aqc (cqf (PW.pt (fq7 (aqA kqi (dqA (aq8 (K := K) rfl) (pv 1) (pv 8) (fun _ _ => rfl)) aqk (by with_unfolding_all rfl)) (fq7 (PW.pt (hqb (aqA iqP (pv 8) aqj (nomark _)) (gqr (aqA gqZ (pv 7) aqj (nomark _))))) (fqz (aqA iqP (aqu (aqR (K := K)) (aqu cqy aqj (pv 7)) (cqT eqU rfl g.jqG iqw (aqa (dqA (aq8 (K := K) rfl) (pv 1) (pv 8) (fun _ _ => rfl)) aqb))) aqj (nomark _))))))
    (aqg (aqy (aqq (aqa (pv 6) (aqa (aqq (aqa aqk (aqa (aqu (aqR (K := K)) aqj (pv 8)) aqb))) aqb))))) aqH)
   (aqg (aqo (i := 7) aqJ.nd rfl (Or.inl rfl) (aqu (aqR (K := K)) (aqu cqy aqj (pv 7)) (cqT eqU rfl g.jqG iqw (aqa (dqA (aq8 (K := K) rfl) (pv 1) (pv 8) (fun _ _ => rfl)) aqb)))))))
   (aqg (aqy (aqq (aqa (pv 6) (aqa (aqq (aqa aqk (aqa (aqq (aqa aqk (aqa aqk (aqa (pv 7) (aqa (pv 3) (aqa (pv 4) (aqa (pv 5) aqb))))))) aqb))) aqb)))))))))))), ?_⟩
  have q0 : Str.ofString "0" = ⟨[48].toArray⟩ := by decide +kernel
  have q1 : Str.ofString "00" = ⟨[48, 48].toArray⟩ := by decide +kernel
  have q2 : Str.ofString "065" = ⟨[48, 54, 53].toArray⟩ := by decide +kernel
  have q3 : Str.ofString "65535" = ⟨[54, 53, 53, 51, 53].toArray⟩ := by decide +kernel
  have q4 : Str.ofString "65536" = ⟨[54, 53, 53, 51, 54].toArray⟩ := by decide +kernel
  have q5 : Str.ofString "0x" = ⟨[48, 120].toArray⟩ := by decide +kernel
  have q6 : Str.ofString "6553a" = ⟨[54, 53, 53, 51, 97].toArray⟩ := by decide +kernel
  have q7 : Str.ofString "//h:" = ⟨[47, 47, 104, 58].toArray⟩ := by decide +kernel
  have eF : Str.ofString "0123456789" = ⟨fgS.toArray⟩ := by unfold fgS; simp
  have eH : Str.ofString "h" = ⟨[104].toArray⟩ := by decide +kernel
  rw [q0, q1, q2, q3, q4, q5, q6, q7, eF, eH]
  walk_at "rd"
  refine ⟨fun σ H1 => Same H H1 ∧ ∃ F : List Nat, σ = [some (.int i), some (tV F), none, none, none, none, none, none, none] ∧ F.length ≤ 6 ∧ ∀ c ∈ F, FgA c, ⟨⟨by decide, by decide⟩, by decide, fun p1 H1 n1 s1 e1 => ⟨by decide, ?_⟩⟩, ?_⟩
  ·obtain ⟨j, hj, ej⟩ : ∃ j : Nat, j < 4 ∧ i % 4 = (j : Int) := ⟨(i % 4).toNat, by omega, by omega⟩
   rw [ej]
   obtain ⟨z, hz, z0, z1⟩ : ∃ z : Int, [V.int 100, V.int 10000, V.int 65540, V.int 700000][j]? = some (.int z) ∧ 0 < z ∧ z ≤ 700000 := by
    match j, hj with
    | 0, _ => exact ⟨_, rfl, by decide, by decide⟩
    | 1, _ => exact ⟨_, rfl, by decide, by decide⟩
    | 2, _ => exact ⟨_, rfl, by decide, by decide⟩
    | 3, _ => exact ⟨_, rfl, by decide, by decide⟩
   have h1 := Int.emod_nonneg (i / 6) (show z ≠ 0 by omega)
   have h2 := Int.emod_lt_of_pos (i / 6) z0
   refine ⟨_, _, .inl (.of e1), bqm hz, rd_I.mpr ⟨z0, _, rfl, ?_, ?_⟩⟩
   ·by_cases h0 : (i / 6 % z).natAbs = 0
    ·rw [h0]; decide
    ·rw [Nat.log2_lt h0]
     exact Nat.lt_of_lt_of_le (show (i / 6 % z).natAbs < 2 ^ 20 by omega) (Nat.pow_le_pow_right (by decide) (by decide))
   ·have d6 := oq8 (i := i / 6 % z) h1 (by omega)
    exact ⟨s1, dg (i / 6 % z), rfl, d6.1, fun c hc => .inl (oq6 h1 c hc)⟩
  rintro σ H1 ⟨s1, F, rfl, hF, hFa⟩
  walk_at "rd"
  refine ⟨fun σ H1 => Same H H1 ∧ ∃ F : List Nat, σ = [some (.int i), some (tV F), none, none, none, none, none, none, none] ∧ F.length ≤ 6 ∧ ∀ c ∈ F, FgA c, ⟨⟨by decide, by decide⟩, by decide, ite2 (fun _ => ⟨by decide, fun p2 H2 n2 s2 e2 => ⟨⟨by decide, by decide⟩, by decide, ?_⟩⟩) (fun _ => ⟨s1, F, rfl, hF, hFa⟩)⟩, ?_⟩
  ·obtain ⟨j, hj, ej⟩ : ∃ j : Nat, j < 8 ∧ i / 256 % 8 = (j : Int) := ⟨(i / 256 % 8).toNat, by omega, by omega⟩
   rw [ej]
   obtain ⟨F', hF', l', a'⟩ : ∃ F' : List Nat, [V.str ⟨#[]⟩, V.str ⟨#[48]⟩, V.str ⟨#[48, 48]⟩, V.str ⟨#[48, 54, 53]⟩, V.str ⟨#[54, 53, 53, 51, 53]⟩, V.str ⟨#[54, 53, 53, 51, 54]⟩, V.str ⟨#[48, 120]⟩, V.str ⟨#[54, 53, 53, 51, 97]⟩][j]? = some (tV F') ∧ F'.length ≤ 6 ∧ ∀ c ∈ F', FgA c := by
    have go : ∀ l : List Nat, (l.all fun c => (decide (48 ≤ c) && decide (c ≤ 57)) || decide (c = 120) || decide (c = 97)) = true → ∀ c ∈ l, FgA c := fun l h c hc => by
     have := List.all_eq_true.mp h c hc
     simp only [Bool.or_eq_true, Bool.and_eq_true, decide_eq_true_eq] at this
     unfold FgA
     omega
    match j, hj with
    | 0, _ => exact ⟨[], rfl, by decide, go _ (by decide)⟩
    | 1, _ => exact ⟨[48], rfl, by decide, go _ (by decide)⟩
    | 2, _ => exact ⟨[48, 48], rfl, by decide, go _ (by decide)⟩
    | 3, _ => exact ⟨[48, 54, 53], rfl, by decide, go _ (by decide)⟩
    | 4, _ => exact ⟨[54, 53, 53, 51, 53], rfl, by decide, go _ (by decide)⟩
    | 5, _ => exact ⟨[54, 53, 53, 51, 54], rfl, by decide, go _ (by decide)⟩
    | 6, _ => exact ⟨[48, 120], rfl, by decide, go _ (by decide)⟩
    | 7, _ => exact ⟨[54, 53, 53, 51, 97], rfl, by decide, go _ (by decide)⟩
   exact ⟨_, _, .inl (.of e2), bqm hF', s1.trans s2, F', rfl, l', a'⟩
  clear hF hFa s1 F H1
  rintro σ H1 ⟨s1, F, rfl, hF, hFa⟩
  walk_at "rd"
  refine ⟨⟨by decide, by decide⟩, i / 2048, rfl, fun x p pw vq H2 hx s2 hp hw hq => ⟨p, _, rfl, .of hp, rfl, _, _, rfl, _, _, rfl, _, _, rfl, _, _, rfl, rfl, ?_⟩⟩
  have ok := kqY x hx
  have xl := ok.len
  have f128 : ∀ c ∈ F, c < 128 ∧ c ≠ 47 ∧ c ≠ 63 ∧ c ≠ 35 := fun c hc => by
   have := hFa c hc
   unfold FgA at this
   omega
  have t128 : ∀ z ∈ 47 :: 47 :: 104 :: 58 :: (F ++ x.t), z < 128 := fun z hz => by
   rcases List.mem_append.mp (show z ∈ [47, 47, 104, 58] ++ (F ++ x.t) from hz) with y | y
   ·simp at y; omega
   rcases List.mem_append.mp y with y | y
   ·exact (f128 z y).1
   ·exact ok.sg z y
  have tlen : (47 :: 47 :: 104 :: 58 :: (F ++ x.t)).length ≤ 300 := by simp only [List.length_cons, List.length_append]; omega
  walk_at "rd"
  have s02 := s1.trans s2
  refine ⟨aqp (by omega), aqp (by omega), fun σ H3 => H3 = H2 ∧ σ = [some (.int i), some (tV F), some (tV x.t), some (.ref pw), some vq, some (otV x.m), some (tV (47 :: 47 :: 104 :: 58 :: (F ++ x.t))), none, none] ∧ F ≠ [], ite2 (fun h0 => ⟨by decide, fun p3 H3 n3 s3 e3 => ⟨by decide, fun p4 H4 n4 s4 e4 => k _ _ p4 H4 tlen t128 (s02.trans (s3.trans s4)) e4 ?_⟩⟩) (fun h0 => ⟨rfl, rfl, fun z => h0 (by rw [z])⟩), ?_⟩
  ·have hF0 : F = [] := gqe.mp (show (⟨F.toArray⟩ : Str) = ⟨([] : List Nat).toArray⟩ from h0)
   subst hF0
   rw [jqj (r := [] ++ x.t) (fun c hc => by rcases ok.hd c hc with z | z | z <;> omega)]
   exact .tup (s4 _ _ e3) (.cons (.str _) (.cons (.int _) .nil))
  rintro σ H3 ⟨rfl, rfl, hne⟩
  walk_at "rd"
  refine ⟨aqp (by omega), by omega, by omega, ?_⟩
  rw [Int.toNat_natCast]
  refine fqj (fun j σ H' => H' = H3 ∧ ∃ (n : Nat) (v8 : Option V), σ = [some (.int i), some (tV F), some (tV x.t), some (.ref pw), some vq, some (otV x.m), some (tV (47 :: 47 :: 104 :: 58 :: (F ++ x.t))), some (.int (n : Int)), v8] ∧ DrAt F x.t j n) ⟨rfl, 0, none, rfl, .zero⟩ ?_ ?_
  ·rintro j σ H4 hj ⟨rfl, n, v8, rfl, hd⟩
   obtain ⟨c, hc⟩ : ∃ c, F[j]? = some c := ⟨_, List.getElem?_eq_getElem hj⟩
   obtain ⟨c1, c2, c3, c4⟩ := f128 c (List.mem_of_getElem? hc)
   walk_at "rd"
   have stop : (¬ (48 ≤ c ∧ c ≤ 57) ∨ (0 < j ∧ n = 0) ∨ 65535 < 10 * n + (c - 48)) → 2 ≤ sizeLine ∧ ∀ (p : Addr) (H' : Hp), H4 p = none → Same H4 H' → H' p = some (HO.tup [V.str (Str.ofString "at"), V.int (4 + (0 + (j : Int)))]) → 2 ≤ sizeLine ∧ ∀ (p_1 : Addr) (H'_1 : Hp), H' p_1 = none → Same H' H'_1 → H'_1 p_1 = some (HO.tup [tV (47 :: 47 :: 104 :: 58 :: (F ++ x.t)), V.ref p]) → Q (V.ref p_1) H'_1 := fun hb => ⟨by decide, fun p5 H5 n5 s5 e5 => ⟨by decide, fun p6 H6 n6 s6 e6 => k _ _ p6 H6 tlen t128 (s02.trans (s5.trans s6)) e6 (by
    rw [hd.stop hc hb c2 c3 c4]
    rw [show (4 : Int) + (0 + (j : Int)) = ((4 + j : Nat) : Int) by omega] at e5
    exact .tup (s6 _ _ e5) (.cons (.str _) (.cons (.int _) .nil)))⟩⟩
   have hca : atI F (0 + (j : Int)) = some c := by rw [Int.zero_add]; exact bqm hc
   refine ⟨c, aqp (by omega), hca, ite2 (fun h => stop (.inl fun z => h (fqu.mpr z))) (fun h => ?_)⟩
   have hdg : 48 ≤ c ∧ c ≤ 57 := fqu.mp (Classical.not_not.mp h)
   have i1 := iqX c (by omega) hdg.1
   refine ite2 (fun hj0 => ite2 (fun hn0 => stop (.inr (.inl ⟨by omega, by omega⟩))) (fun hn0 => ⟨.inl ⟨by decide, by decide⟩, c, aqp (by omega), hca, _, by decide, i1, ite2 (fun hgt => stop (.inr (.inr (by omega)))) (fun hle => ?_)⟩)) (fun hj0 => ⟨.inl ⟨by decide, by decide⟩, c, aqp (by omega), hca, _, by decide, i1, ite2 (fun hgt => stop (.inr (.inr (by omega)))) (fun hle => ?_)⟩)
   ·exact ⟨.inl ⟨by decide, by decide⟩, c, aqp (by omega), hca, _, by decide, i1, 10 * n + (c - 48), _, ⟨by omega, rfl⟩, hd.step hc hdg (.inr (by omega)) (by omega)⟩
   ·exact ⟨.inl ⟨by decide, by decide⟩, c, aqp (by omega), hca, _, by decide, i1, 10 * n + (c - 48), _, ⟨by omega, rfl⟩, hd.step hc hdg (.inl (by omega)) (by omega)⟩
  rintro σ H4 ⟨rfl, n, v8, rfl, hd⟩
  walk_at "rd"
  refine ⟨by decide, fun p3 H3 n3 s3 e3 => ⟨by decide, fun p4 H5 n4 s4 e4 => ⟨by decide, fun p5 H6 n5 s5 e5 => k _ _ p5 H6 tlen t128 (s02.trans (s3.trans (s4.trans s5))) e5 ?_⟩⟩⟩
  rw [hd.fin ok hne]
  have u25 := s3.trans (s4.trans s5)
  exact .tup (s5 _ _ e4) (.cons (.str _) (.cons (.tup ((s4.trans s5) _ _ e3) (.cons (.str _) (.cons (.str _) (.cons (.int _) (.cons (hw.mono u25.toT) (.cons (hq.mono u25.toT) (.cons (kq1 _) .nil))))))) .nil))
theorem hqT (g : G K mg) : FnOk P w K mg base CX0 3 g.dqx g.dqa ["thing"] iqG := by
 refine g.eqJ.ok iqq (fun vs H Q E h => ?_) (fun cdv A outer s H vs Q E hr h => ?_)
 ·obtain ⟨d, v, rfl, _⟩ := h; rfl
 ·obtain ⟨d, v, rfl, hv, hs, k⟩ := h
  refine ⟨_, (aqc (cqf (PW.pt (fq7 (dqn (bqT (aqt (jqM g) (hr.mono (by decide)) rfl g.hqZ g.fq3.kp g.iqa .nil pass0 (aqa (pv 0) aqb)))) (fqz (aqA iqP (bqh (bq2 (K := K) rfl) rfl g.gqN PySem.boot_len (aqa (pv 0) aqb)) (aqL (v := fqO) rfl g.dqR ⟨_, rfl⟩) (nomark _)))))
    (aqg (aqy fqn)) aqH)
   (aqg (aqy (jqs (aqt (fql g) (hr.mono (by decide)) rfl g.eqP g.eqm.kp g.eq3 .nil pass0 (aqa (hqt (jq6 (K := K) rfl) (pv 0) kqy (hqM aqj)) (aqa (aqL (v := jq0) rfl g.iqA ⟨_, rfl⟩) aqb))) (iqd (aqt (fql g) (hr.mono (by decide)) rfl g.eqP g.eqm.kp g.eq3 .nil pass0 (aqa (pv 0) (aqa (aqL (v := eqh) rfl g.cqp ⟨_, rfl⟩) aqb)))))))), ?_⟩
  walk_at "rd"
  refine ⟨d, v, rfl, hv, hs, fun H1 s1 => ?_⟩
  walk_at "rd"
  have k1 := k H1 s1
  cases hv with
  | str x =>
   have hx := iqs hs
   refine ite2 (fun h => ?_) (fun h => ?_)
   ·rw [show schD (.str x) = false by simp only [schD]; rw [show x.cps.toList.all isSg = false from h]; rfl] at k1
    exact k1
   have h : x.cps.toList.all isSg = true := (Bool.not_eq_false _).mp h
   walk_at "rd"
   refine ⟨aqp hx, ite2 (fun h2 => ?_) (fun h2 => ?_)⟩
   ·rw [show schD (.str x) = false by simp only [schD, h, Bool.true_and]; rw [decide_eq_false (by omega)]; rfl] at k1
    exact k1
   have e : x = ⟨x.cps.toList.toArray⟩ := by simp
   refine ⟨aqp hx, ?_⟩
   have e1 : Txt.slice x none (some 1) = ⟨(x.cps.toList.take 1).toArray⟩ := by
    conv => lhs; rw [e]
    exact lqm x.cps.toList 1
   rw [e1]
   refine ⟨⟨(x.cps.toList.take 1).toArray⟩, _, rfl, by rw [eqD, List.length_take]; omega, fun H2 s2 => ?_⟩
   have hsg := List.all_eq_true.mp h
   have f1 : ((⟨(x.cps.toList.take 1).toArray⟩ : Str).cps.toList.all fun c => decide (c ∈ (Str.ofString "abcdefghijklmnopqrstuvwxyzABCDEFGHIJKLMNOPQRSTUVWXYZ").cps.toList)) = (x.cps.toList.take 1).all isLet := by
    rw [kqw, Bool.eq_iff_iff, List.all_eq_true, List.all_eq_true]
    refine forall_congr' fun c => forall_congr' fun hc => ?_
    rw [oqS c (by have := fqm (hsg c (List.mem_of_mem_take hc)); omega)]
   have f2 : (x.cps.toList.all fun c => decide (c ∈ (Str.ofString "abcdefghijklmnopqrstuvwxyzABCDEFGHIJKLMNOPQRSTUVWXYZ0123456789").cps.toList)) = x.cps.toList.all isAln := by
    rw [Bool.eq_iff_iff, List.all_eq_true, List.all_eq_true]
    refine forall_congr' fun c => forall_congr' fun hc => ?_
    rw [oqZ c (by have := fqm (hsg c hc); omega)]
   rw [f1]
   walk_at "rd"
   refine ite2 (fun h3 => ?_) (fun h3 => ?_)
   ·refine ⟨x, _, rfl, hx, fun H3 s3 => ?_⟩
    have k3 := k H3 (s1.trans (s2.trans s3))
    rw [f2]
    simp only [schD, h, h3, Bool.true_and, decide_eq_true (show x.length ≤ 8 by omega)] at k3
    exact k3
   ·have k3 := k H2 (s1.trans s2)
    simp only [schD, h, (Bool.not_eq_true _).mp h3, Bool.false_and, Bool.and_false, Bool.true_and] at k3
    exact k3
  | _ => exact k1
theorem gqK (g : G K mg) : FnOk P w K mg base (CXN P w base) 3 g.cq9 g.cqM ["cursor"] (gqV K g.aqi g.aql) := by
 refine g.eqa.okn dqC (fun vs H Q E h => ?_) (fun cdv A outer s H vs Q E hr h => ?_)
 ·obtain ⟨p, t, i, rfl, _⟩ := h; rfl
 ·obtain ⟨p, t, i, rfl, hcur, hi, hl, h128, k1, k2⟩ := h
  refine ⟨_, (aqc (cqf (dqn (bqT (bq0 (pv 0) g.aqe g.aqs (aqx g) (hr.mono (by decide)) g.aqv .nil pass0 (aqa aqk aqb))))
    (aqg (aqy aqV)) aqH)
   (aqc (cqf (dqn (bqT (bq0 (pv 0) g.aqe g.bqF (cqn g) (hr.mono (by decide)) g.bq5 .nil pass0 (aqa (aqL (v := gqb) rfl g.gqh ⟨_, rfl⟩) aqb))))
    (aqg (dqp cqR rfl g.bqp g.bqM (aqC g) (hr.mono (by decide)) g.aqz rfl pass0 rfl (aqa (bqE (pv 0) rfl) aqb))) aqH)
   (aqc (aqo (i := 1) dqC.nd rfl (Or.inl rfl) (cqT eqU rfl g.jqG iqw (aqa (dqO (pv 0) g.aqe g.bqe (bqD g) (hr.mono (by decide)) g.bqt .nil pass0) aqb)))
   (aqc (fqY PassesOwn.leaving (PW.pt (hqb (aqA iqP (pv 1) aqj (nomark _)) (hqb (bqT (bq0 (pv 0) g.aqe g.bqF (cqn g) (hr.mono (by decide)) g.bq5 .nil pass0 (aqa (aqL (v := gqb) rfl g.gqh ⟨_, rfl⟩) aqb))) (gqr (aqA qqj (aqt (fqy g) (hr.mono (by decide)) rfl g.eqL g.dqB.kp g.eqM .nil pass0 (aqa (pv 1) (aqa (pv 0) aqb))) (aqL (v := iq0) rfl g.fq5 ⟨_, rfl⟩) (nomark _))))))
   (aqc (aqo (i := 1) dqC.nd rfl (Or.inl rfl) (aqt (fqy g) (hr.mono (by decide)) rfl g.eqL g.dqB.kp g.eqM .nil pass0 (aqa (pv 1) (aqa (pv 0) aqb))))
   (aqg (gqE (dqO (pv 0) g.aqe g.bqe (bqD g) (hr.mono (by decide)) g.bqt .nil pass0)))))
   (aqg (aqy (pv 1))))))), ?_⟩
  have eF : gqb = .str ⟨fgS.toArray⟩ := by
   show V.str (Str.ofString _) = _
   unfold fgS; simp
  have e1 : Str.ofString ":" = ⟨[58].toArray⟩ := by decide +kernel
  rw [eF, e1]
  walk_at "rd"
  refine aqF hcur ⟨p, t, [58], i, rfl, hcur, hi, hl, fun hp H1 s1 c1 => ⟨_, rfl, ?_⟩, fun hp => ⟨_, rfl, ?_⟩⟩
  ·rw [if_neg (by decide)]
   have h1 := take1.mp hp
   have hi1 : i + 1 ≤ t.length := by
    have := congrArg List.length hp
    rw [List.length_take, List.length_drop] at this
    simp only [List.length_singleton] at this
    omega
   have em : dooM (t.drop i) = (match t.drop (i + 1) with | [] => (.error 1 : Rs (Option Int)) | c :: r' => if 48 ≤ c ∧ c ≤ 57 then .ok (some ((dooG r' (c - 48)).1 : Int), 2 + (dooG r' (c - 48)).2) else .error 1) := by
    unfold dooM
    rw [if_pos h1, List.drop_drop]
    all_goals (cases t.drop (i + 1) <;> rfl)
   refine aqF c1 ⟨p, t, fgS, i + 1, rfl, c1, hi1, hl, _, rfl, ?_⟩
   cases hd : t.drop (i + 1) with
   | nil =>
    have hn : t[i + 1]? = none := by rw [← List.head?_drop, hd]; rfl
    rw [dqr hn, if_pos rfl]
    exact aqI c1 g.aqe g.aqh (cqP fun d H' sm hx => k2 1 (by rw [em, hd]) d H' (s1.trans sm.but) hx)
   | cons c r =>
    obtain ⟨hx, hxl⟩ := gqa hd
    rw [dqu hx]
    by_cases hf : 48 ≤ c ∧ c ≤ 57
    ·rw [decide_eq_true (fqu.mpr hf), if_neg (by decide)]
     rw [hd] at em
     have em : dooM (t.drop i) = .ok (some ((dooG r (c - 48)).1 : Int), 2 + (dooG r (c - 48)).2) := by rw [em]; exact if_pos hf
     refine aqF c1 ⟨p, t, i + 1, c, rfl, c1, hx, hl, fun H2 s2 c2 => ⟨_, _, rfl, by show 1 ≤ 640; decide, iqX c (by omega) hf.1, ?_⟩⟩
     refine hqu (fun m σ H' => ∃ (n k : Nat), m = t.length - (i + 2 + k) ∧ i + 2 + k ≤ t.length ∧ σ = [some (.ref p), some (.int (n : Nat))] ∧ n ≤ 65535 ∧ SameBut p H H' ∧ Cur H' g.aqi p t (i + 2 + k) ∧ (dooG r (c - 48)).1 = (dooG (t.drop (i + 2 + k)) n).1 ∧ (dooG r (c - 48)).2 = k + (dooG (t.drop (i + 2 + k)) n).2) (t.length - (i + 2)) ⟨c - 48, 0, rfl, by omega, rfl, by omega, s1.trans s2, c2, ?_, ?_⟩ ?_
     ·rw [show t.drop (i + 2 + 0) = r by rw [Nat.add_zero, show i + 2 = i + 1 + 1 by omega, ← List.drop_drop, hd]; rfl]
     ·rw [show t.drop (i + 2 + 0) = r by rw [Nat.add_zero, show i + 2 = i + 1 + 1 by omega, ← List.drop_drop, hd]; rfl, Nat.zero_add]
     rintro m σ H3 ⟨n, k, rfl, hk, rfl, hn, s3, c3, g1, g2⟩
     have fin : dooG (t.drop (i + 2 + k)) n = (n, 0) → Q (.int (n : Nat)) H3 := fun e => by
      rw [e] at g1 g2
      have := k1 (some ((dooG r (c - 48)).1 : Int)) _ em H3 s3 (by rw [g2, show i + (2 + (k + 0)) = i + 2 + k by omega]; exact c3)
      rw [g1] at this
      exact this
     walk_at "rd"
     by_cases h0 : n = 0
     ·rw [if_neg (by omega)]
      refine fin ?_
      cases t.drop (i + 2 + k) with
      | nil => rfl
      | cons d r => unfold dooG; rw [if_neg (by omega)]
     rw [if_pos (by omega)]
     refine aqF c3 ⟨p, t, fgS, i + 2 + k, rfl, c3, hk, hl, _, rfl, ?_⟩
     cases hd3 : t.drop (i + 2 + k) with
     | nil =>
      have hn3 : t[i + 2 + k]? = none := by rw [← List.head?_drop, hd3]; rfl
      rw [dqr hn3, if_neg (by decide)]
      exact fin (by rw [hd3]; rfl)
     | cons d r3 =>
      obtain ⟨hx3, hxl3⟩ := gqa hd3
      rw [dqu hx3]
      by_cases hf3 : 48 ≤ d ∧ d ≤ 57
      ·rw [decide_eq_true (fqu.mpr hf3), if_pos rfl]
       refine ⟨p, t, _, d, n, rfl, c3, hl, hx3, hf3.1, hf3.2, by omega, _, _, rfl, rfl, _, rfl, ?_⟩
       by_cases hle : n * 10 + (d - 48) ≤ 65535
       ·rw [decide_eq_true (by omega), if_pos rfl]
        refine ⟨_, fun _ _ h => h, p, t, _, d, n, rfl, c3, hl, hx3, hf3.1, hf3.2, by omega, aqF c3 ⟨p, t, _, d, rfl, c3, hx3, hl, fun H4 s4 c4 => ⟨t.length - (i + 2 + (k + 1)), by omega, n * 10 + (d - 48), k + 1, rfl, by omega, rfl, hle, s3.trans s4, c4, ?_, ?_⟩⟩⟩
        ·have hd4 : t.drop (i + 2 + (k + 1)) = r3 := by rw [← Nat.add_assoc, ← List.drop_drop, hd3]; rfl
         rw [g1, hd3, hd4]
         conv => lhs; unfold dooG
         rw [if_pos ⟨by omega, hf3.1, hf3.2, hle⟩]
        ·have hd4 : t.drop (i + 2 + (k + 1)) = r3 := by rw [← Nat.add_assoc, ← List.drop_drop, hd3]; rfl
         rw [g2, hd3, hd4]
         conv => lhs; unfold dooG
         rw [if_pos ⟨by omega, hf3.1, hf3.2, hle⟩]
         show k + (_ + 1) = _
         omega
       ·rw [decide_eq_false (by omega), if_neg (by decide)]
        exact fin (by rw [hd3]; unfold dooG; rw [if_neg (fun z => hle z.2.2.2)])
      ·rw [decide_eq_false (fun z => hf3 (fqu.mp z)), if_neg (by decide)]
       exact fin (by rw [hd3]; unfold dooG; rw [if_neg (fun z => hf3 ⟨z.2.1, z.2.2.1⟩)])
    ·rw [decide_eq_false (fun z => hf (fqu.mp z)), if_pos rfl]
     exact aqI c1 g.aqe g.aqh (cqP fun d H' sm hx => k2 1 (by rw [em, hd]; exact if_neg hf) d H' (s1.trans sm.but) hx)
  ·rw [if_pos rfl]
   exact k1 none 0 (by unfold dooM; rw [if_neg (fun z => hp (take1.mpr z))]) H (SameBut.refl _ _) hcur
theorem gqY (g : G K mg) : FnOk P w K mg base (CXN P w base) 3 g.dqg g.cqK ["cursor"] (gq1 K g.aqi g.aql) := by
 refine g.dqZ.okn dqD (fun vs H Q E h => ?_) (fun cdv A outer s H vs Q E hr h => ?_)
 ·obtain ⟨p, t, i, rfl, _⟩ := h; rfl
 ·obtain ⟨p, t, i, rfl, hcur, hi, hl, h128, k1, k2⟩ := h
  refine ⟨_, (aqc (cqf (dqn (bqT (bq0 (pv 0) g.aqe g.bqF (cqn g) (hr.mono (by decide)) g.bq5 .nil pass0 (aqa (aqL (v := eqt) rfl g.eqn ⟨_, rfl⟩) aqb))))
    (aqg (dqp cqR rfl g.bqp g.bqM (aqC g) (hr.mono (by decide)) g.aqz rfl pass0 rfl (aqa (bqE (pv 0) rfl) aqb))) aqH)
   (aqc (aqo (i := 1) dqD.nd rfl (Or.inl rfl) (aqu (dqv (K := K) rfl) (dqO (pv 0) g.aqe g.bqe (bqD g) (hr.mono (by decide)) g.bqt .nil pass0) (hqt (jq6 (K := K) rfl) (bqE (pv 0) rfl) (hqM (bqE (pv 0) rfl)) (hqM (aqu (dqv (K := K) rfl) (bqE (pv 0) rfl) aqj)))))
   (aqc (aqo (i := 2) dqD.nd rfl (Or.inl rfl) (aqt (jqD g) (hr.mono (by decide)) rfl g.iqb g.gqH.kp g.iqc .nil pass0 (aqa (pv 1) aqb)))
   (aqc (cqf (aqA gqw (pv 2) aqV (nomark _))
    (aqg (dqp cqR rfl g.bqp g.bqM (aqC g) (hr.mono (by decide)) g.aqz rfl pass0 rfl (aqa (bqE (pv 0) rfl) aqb))) aqH)
   (aqc (gqE (dqO (pv 0) g.aqe g.bqe (bqD g) (hr.mono (by decide)) g.bqt .nil pass0))
   (aqg (aqy (pv 2)))))))), ?_⟩
  have eF : eqt = .str ⟨fsF.toArray⟩ := by
   show V.str (Str.ofString "234567") = _
   rw [show Str.ofString "234567" = ⟨fsF.toArray⟩ by decide +kernel]
  walk_at "rd"
  rw [eF]
  refine aqF hcur ⟨p, t, _, i, rfl, hcur, hi, hl, _, rfl, ?_⟩
  cases hd : t.drop i with
  | nil =>
   have hn : t[i]? = none := by rw [← List.head?_drop, hd]; rfl
   rw [dqr hn, if_pos rfl]
   exact aqI hcur g.aqe g.aqh (cqP fun d H' sm hx => k2 0 (by rw [hd]; rfl) d H' sm.but hx)
  | cons a r =>
   obtain ⟨hia, hil⟩ := gqa hd
   rw [dqu hia]
   have ha := h128 a (List.mem_of_getElem? hia)
   by_cases hf : a ∈ fsF
   ·rw [decide_eq_true hf, if_neg (by decide)]
    refine aqF hcur ⟨p, t, i, a, rfl, hcur, hia, hl, fun H1 s1 c1 => ?_⟩
    refine dqH c1 g.aqe g.aqO (aqI c1 g.aqe g.aqh ⟨_, rfl, aqI c1 g.aqe g.aqh ?_⟩)
    walk_at "rd"
    rw [show ((i + 1 : Nat) : Int) + 1 = ((i + 2 : Nat) : Int) by omega, kqn, show i + 2 - (i + 1) = 1 by omega, ← List.drop_drop, hd]
    cases r with
    | nil =>
     rw [show List.take 1 (List.drop 1 [a]) = [] from rfl]
     walk_at "rd"
     refine ⟨aqp hl, by decide, by decide, fun d hd' => ?_, ?_⟩
     ·simp only [List.mem_cons, List.not_mem_nil, or_false] at hd'
      rw [hd']; exact ha
     rw [show signOfL [a] = V.non from rfl, if_pos rfl]
     exact aqI c1 g.aqe g.aqh (cqP fun d H' sm hx => k2 1 (by rw [hd]; show (if a ∈ fsF then _ else _) = _; rw [if_pos hf]) d H' (s1.trans sm.but) hx)
    | cons b r =>
     rw [show List.take 1 (List.drop 1 (a :: b :: r)) = [b] from rfl]
     have hd2 : t.drop (i + 1) = b :: r := by rw [← List.drop_drop, hd]; rfl
     obtain ⟨hib, _⟩ := gqa hd2
     have hb := h128 b (List.mem_of_getElem? hib)
     walk_at "rd"
     refine ⟨aqp hl, by decide, by decide, fun d hd' => ?_, ?_⟩
     ·simp only [List.mem_cons, List.not_mem_nil, or_false] at hd'
      rcases hd' with rfl | rfl
      ·exact ha
      ·exact hb
     rw [show signOfL [a, b] = signOf a b from rfl, kqQ]
     cases hs : sgO a b with
     | none =>
      rw [if_pos (show oV none = V.non from rfl)]
      exact aqI c1 g.aqe g.aqh (cqP fun d H' sm hx => k2 1 (by rw [hd]; show (if a ∈ fsF then _ else _) = _; rw [if_pos hf, hs]) d H' (s1.trans sm.but) hx)
     | some c =>
      rw [if_neg (by intro z; cases z)]
      refine aqF c1 ⟨p, t, i + 1, b, rfl, c1, hib, hl, fun H2 s2 c2 => k1 c 2 ?_ H2 (s1.trans s2) c2⟩
      rw [hd]
      show (if a ∈ fsF then _ else _) = _
      rw [if_pos hf, hs]
   ·rw [decide_eq_false hf, if_pos rfl]
    refine aqI hcur g.aqe g.aqh (cqP fun d H' sm hx => k2 0 ?_ d H' sm.but hx)
    rw [hd]
    cases r with
    | nil => show (if a ∈ fsF then _ else _) = _; rw [if_neg hf]
    | cons b r => show (if a ∈ fsF then _ else _) = _; rw [if_neg hf]
theorem gqg (g : G K mg) : FnOk P w K mg base CX0 4 g.cqj g.bq9 ["cursor"] (gqs K g.aqi) := by
 refine g.dqj.ok eqg (fun vs H Q E h => ?_) (fun cdv A outer s H vs Q E hr h => ?_)
 ·obtain ⟨p, t, rfl, _⟩ := h; rfl
 ·obtain ⟨p, t, rfl, hcur, hl, k⟩ := h
  refine ⟨_, (aqc (aqo (i := 1) eqg.nd rfl (Or.inl rfl) (dqA (aq8 (K := K) rfl) (fqt (K := K) rfl PySem.F.plainAttrs_str PySem.F.slot_str_partition PySem.F.type_str_partition hq4 (bqE (pv 0) rfl) (aqa aqk aqb)) aqj (fun _ _ => rfl)))
   (aqc (cqf (PW.pt (fq7 (aqA gqZ (pv 1) aqk (nomark _)) (fq7 (dqn (bqT (aqt (hqT g) (hr.mono (by decide)) rfl g.gqd g.eqJ.kp g.gqz .nil pass0 (aqa (pv 1) aqb)))) (fqz (dqn (bqT (bq0 (pv 0) g.aqe g.aqs (aqx g) (hr.mono (by decide)) g.aqv .nil pass0 (aqa (aqu (dqv (K := K) rfl) (pv 1) aqk) aqb))))))))
    (aqg (aqy aqk)) aqH)
   (aqg (aqy (pv 1))))), ?_⟩
  have e1 : Str.ofString ":" = ⟨[58].toArray⟩ := by decide +kernel
  rw [e1]
  walk_at "rd"
  refine dqH hcur g.aqe g.aqO ⟨rfl, mqw.mpr ⟨by decide, aqp (show t.length ≤ 100000 by omega), fun q hq => ?_⟩⟩
  rw [show (⟨#[58]⟩ : Str) = ⟨[58].toArray⟩ from rfl, jqw]
  have sm1 := cqJ (o := .tup [.str ⟨(ahead t).toArray⟩, .str (Txt.partition ⟨t.toArray⟩ ⟨[58].toArray⟩).2.1, .str (Txt.partition ⟨t.toArray⟩ ⟨[58].toArray⟩).2.2]) hq
  have hq1 : (upd H q (.tup [.str ⟨(ahead t).toArray⟩, .str (Txt.partition ⟨t.toArray⟩ ⟨[58].toArray⟩).2.1, .str (Txt.partition ⟨t.toArray⟩ ⟨[58].toArray⟩).2.2])) q = some (.tup [.str ⟨(ahead t).toArray⟩, .str (Txt.partition ⟨t.toArray⟩ ⟨[58].toArray⟩).2.1, .str (Txt.partition ⟨t.toArray⟩ ⟨[58].toArray⟩).2.2]) := aqr
  generalize upd H q (.tup [.str ⟨(ahead t).toArray⟩, .str (Txt.partition ⟨t.toArray⟩ ⟨[58].toArray⟩).2.1, .str (Txt.partition ⟨t.toArray⟩ ⟨[58].toArray⟩).2.2]) = H1 at sm1 hq1 ⊢
  have c1 := hcur.same sm1
  have hal := jqY t
  walk_at "rd"
  refine ⟨_, _, .inr (.of hq1), rfl, ?_⟩
  rw [L2.fqi]
  refine ⟨_, rfl, ?_⟩
  by_cases h1 : ahead t = []
  ·rw [decide_eq_true (by rw [h1]), if_pos rfl]
   obtain ⟨z1, z2⟩ := dq4 (t := t) (fun z => z.1 h1)
   have := k H1 sm1.but (by rw [z2]; exact c1)
   rw [z1] at this
   exact this
  rw [decide_eq_false (fun z => h1 (fqH.mp z)), if_neg (by decide)]
  refine ⟨.str ⟨(ahead t).toArray⟩, _, rfl, .str _, by simp [smallD, Str.length]; omega, fun H2 s2 => ⟨_, rfl, ?_⟩⟩
  have c2 := c1.same s2
  have sm2 := sm1.trans s2
  cases h2 : schD (.str ⟨(ahead t).toArray⟩) with
  | false =>
   rw [if_pos rfl]
   obtain ⟨z1, z2⟩ := dq4 (t := t) (fun z => by rw [h2] at z; cases z.2.1)
   have := k H2 sm2.but (by rw [z2]; exact c2)
   rw [z1] at this
   exact this
  | true =>
   rw [if_neg (by decide)]
   refine aqF c2 ?_
   rw [show (⟨#[58]⟩ : Str) = ⟨[58].toArray⟩ from rfl]
   walk_at "rd"
   refine ⟨aqp (by simp; omega), ?_⟩
   by_cases h3 : t[(ahead t).length]? = some 58
   ·obtain ⟨z1, z2⟩ := fqZ h1 h2 h3
    have ht := (gq8 t).mpr h3
    refine mqi (w := ahead t ++ [58]) (r := t.drop (ahead t ++ [58]).length) c2 (Nat.zero_le _) (by omega) ?_ fun H3 s3 c3 _ _ => ⟨_, rfl, ?_⟩
    ·rw [List.drop_zero]
     conv => lhs; rw [← List.take_append_drop (ahead t ++ [58]).length t, ht]
    rw [if_neg (by decide)]
    have := k H3 (sm2.but.trans s3) (by rw [z2]; rw [Nat.zero_add] at c3; exact c3)
    rw [z1] at this
    exact this
   ·obtain ⟨z1, z2⟩ := dq4 (t := t) (fun z => h3 z.2.2)
    refine nqJ (w := ahead t ++ [58]) c2 (Nat.zero_le _) (by omega) (by rw [List.drop_zero]; exact fun z => h3 ((gq8 t).mp z)) ⟨_, rfl, ?_⟩
    rw [if_pos rfl]
    have := k H2 sm2.but (by rw [z2]; exact c2)
    rw [z1] at this
    exact this
theorem bqf (g : G K mg) : FnOk P w K mg base (CXN P w base) 4 g.dqc g.bq6 ["cursor", "free", "most"] (gqQ K g.aqi g.aql) := by
 refine g.aq5.okn dqP (fun vs H Q E h => ?_) (fun cdv A outer s H vs Q E hr h => ?_)
 ·obtain ⟨p, t, fr, i, mo, rfl, _⟩ := h; rfl
 ·obtain ⟨p, t, fr, i, mo, rfl, hcur, hi, hl, h128, hfl, k1, k2⟩ := h
  refine ⟨_, (aqc (aqo (i := 3) dqP.nd rfl (Or.inl rfl) (pqB aqb))
   (aqc (aqo (i := 4) dqP.nd rfl (Or.inl rfl) (aqu (dqv (K := K) rfl) (aqu (dqv (K := K) rfl) (aqL (v := kqA) rfl g.kqE ⟨_, rfl⟩) (pv 1)) aqk))
   (aqc (fqY PassesOwn.leaving (PW.pt (hqb (PW.pt (fq7 (aqA gqw (pv 2) aqV (nomark _)) (fqz (aqA oqH (bqh (bq2 (K := K) rfl) rfl g.gqN PySem.boot_len (aqa (pv 3) aqb)) (pv 2) (nomark _))))) (gqr (bqT (bq0 (pv 0) g.aqe g.bqF (cqn g) (hr.mono (by decide)) g.bq5 .nil pass0 (aqa (pv 4) aqb))))))
   (aqg (gqE (fqt (K := K) rfl PySem.F.plainAttrs_list PySem.F.slot_list_append PySem.F.type_list_append eqT (pv 3) (aqa (fqV (bqT (bq0 (pv 0) g.aqe g.aqs (aqx g) (hr.mono (by decide)) g.aqv .nil pass0 (aqa aqk aqb))) (aqt (gqY g) (hr.mono (by decide)) rfl g.fqG g.dqZ.kp g.fqD .nil aqD (aqa (pv 0) aqb)) (dqO (pv 0) g.aqe g.bqe (bqD g) (hr.mono (by decide)) g.bqt .nil pass0)) aqb)))))
   (aqg (aqy (fqt (K := K) rfl PySem.F.plainAttrs_str PySem.F.slot_str_join PySem.F.type_str_join (lqV (K := K) rfl) aqk (aqa (pv 3) aqb))))))), ?_⟩
  have eP : kqA = .str ⟨plS.toArray⟩ := by
   show V.str (Str.ofString _) = _
   unfold plS; simp
  rw [eP]
  walk_at "rd"
  refine ⟨by decide, fun q hq => ⟨aqp (by rw [kqI]; omega), aqp (by rw [List.length_append, kqI]; omega), ?_⟩⟩
  have hqp : q ≠ p := by obtain ⟨dx, hp⟩ := hcur; exact (aqn hp hq).symm
  refine hqu (fun m σ H' => ∃ (dn : List Nat) (n : Nat) (mo' : Option Nat), m = t.length - (i + n) ∧ i + n ≤ t.length ∧ dn.length ≤ n ∧ mo' = mo.map (fun z => z - dn.length) ∧ Capd mo dn.length ∧ σ = [some (.ref p), some (.str ⟨fr.toArray⟩), some (moV mo), some (.ref q), some (.str ⟨(plS ++ fr ++ [126]).toArray⟩)] ∧ H' q = some (.lst (dn.map one)) ∧ SameBut p H H' ∧ Cur H' g.aqi p t (i + n) ∧ Via (txtM fr (t.drop i) mo) n (fun l => dn ++ l) (txtM fr (t.drop (i + n)) mo')) (t.length - i) ⟨[], 0, mo, rfl, hi, Nat.le_refl _, by cases mo <;> rfl, fun z _ => Nat.zero_le _, rfl, aqr, (cqJ hq).but, ?_, Via.refl⟩ ?_
  ·obtain ⟨dx, hp⟩ := hcur
   exact ⟨dx, by rw [aqm hqp.symm]; exact hp⟩
  rintro m σ H' ⟨dn, n, mo', rfl, hin, hdn, emo, hmo, rfl, hq', sb, cur, via⟩
  have hlen : (dn.map one).length < sizeLine := by
   rw [List.length_map]
   exact Nat.lt_of_le_of_lt (show dn.length ≤ 100000 by omega) (by decide)
  have fin : txtM fr (t.drop (i + n)) mo' = .ok ([], 0) → ∃ ys : List Str, SqL K H' q (ys.map V.str) ∧ (ys.map fun x => x.length).sum + ys.length * 0 ≤ 16777216 ∧ Q (V.str (Txt.join ⟨#[]⟩ ys)) H' := fun e => by
   have e2 := via.ok e
   rw [List.append_nil, Nat.add_zero] at e2
   refine ⟨dn.map fun c => ⟨[c].toArray⟩, SqL.of (by rw [hq', List.map_map]; rfl), ?_, ?_⟩
   ·rw [kqk]
    simp only [List.length_map, Nat.mul_zero, Nat.add_zero]
    omega
   ·rw [show (⟨#[]⟩ : Str) = ⟨([] : List Nat).toArray⟩ from rfl, lqs, jqv]
    exact k1 dn n e2 H' sb cur
  have decE : ∀ c : Nat, dec mo' = mo.map (fun z => z - (dn ++ [c]).length) := fun c => by
   rw [emo]
   cases mo with
   | none => rfl
   | some z => show some (z - dn.length - 1) = some _; rw [List.length_append, List.length_singleton, Nat.sub_sub]
  have decL : mo' ≠ some 0 → ∀ c : Nat, Capd mo (dn ++ [c]).length := fun h0 c z e => by
   have := hmo z e
   subst e
   rw [List.length_append, List.length_singleton]
   have : z - dn.length ≠ 0 := fun w => h0 (by rw [emo]; show some (z - dn.length) = _; rw [w])
   omega
  cases mo
  case' none =>
   walk_at "rd"
   rw [if_pos (show moV none = V.non from rfl)]
   have h0 : mo' ≠ some 0 := by rw [emo]; intro z; cases z
  case' some mm =>
   walk_at "rd"
   rw [if_neg (by intro z; cases z)]
   refine ⟨_, .inl (.of hq'), ?_⟩
   show rI0 (fun i j => V.bl (decide (i < j))) (V.int _) (V.int (mm : Int)) H' _
   walk_at "rd"
   refine ite2 (fun hlt0 => ?_) (fun hge => fin (by
    rw [List.length_map] at hge
    have e0 : mo' = some 0 := by rw [emo]; show some (mm - dn.length) = some 0; congr 1; omega
    rw [e0]; exact fqX))
   rw [List.length_map] at hlt0
   have h0 : mo' ≠ some 0 := by
    rw [emo]
    intro z
    have z : some (mm - dn.length) = some 0 := z
    have := Option.some.inj z
    omega
  all_goals
   refine aqF cur ⟨p, t, _, i + n, rfl, cur, hin, hl, _, rfl, ?_⟩
   cases hd : t.drop (i + n) with
   | nil =>
    have hn : t[i + n]? = none := by rw [← List.head?_drop, hd]; rfl
    rw [dqr hn, if_neg (by decide)]
    exact fin (by rw [hd]; exact gqu)
   | cons c r =>
    obtain ⟨hx, hlt⟩ := gqa hd
    have hc := h128 c (List.mem_of_getElem? hx)
    rw [dqu hx]
    by_cases hin2 : c ∈ plS ++ fr ++ [126]
    ·rw [decide_eq_true hin2, if_pos rfl]
     by_cases h126 : c = 126
     ·subst h126
      have hd3 : t.drop (i + n + 1) = r := by rw [← List.drop_drop, hd]; rfl
      refine ⟨_, fun _ _ h => h, ⟨_, .of hq'⟩, aqF cur ⟨p, t, [126], i + n, rfl, cur, hin, hl, fun _ H1 s1 c1 => ⟨_, rfl, ?_⟩, fun hp1 => absurd (by rw [hd]; rfl) hp1⟩⟩
      rw [if_pos rfl]
      refine ⟨p, t, i + n + 1, rfl, c1, by omega, hl, h128, fun c m e H2 s2 c2 => ?_, fun m e d H2 s2 hx => ?_⟩
      ·rw [hd3] at e
       obtain ⟨a, b, r2, rfl, hs, rfl, _⟩ := mqD e
       have hl2 : i + n + 3 ≤ t.length := by have := congrArg List.length hd; rw [List.length_drop] at this; simp only [List.length_cons] at this; omega
       refine ⟨_, (s1.trans s2) _ _ hqp hq', hlen, t.length - (i + (n + 3)), by omega, dn ++ [c], n + 3, dec mo', rfl, by omega, by rw [List.length_append, List.length_singleton]; omega, decE c, decL h0 c, rfl, ?_, ?_, ?_, ?_⟩
       ·rw [aqr, List.map_append]; rfl
       ·exact ((sb.trans s1).trans s2).upd hq
       ·obtain ⟨dx, hpp⟩ := c2
        exact ⟨dx, by rw [aqm hqp.symm]; exact hpp⟩
       ·have hd4 : t.drop (i + (n + 3)) = r2 := by rw [show i + (n + 3) = i + n + 3 by omega, ← List.drop_drop, hd]; rfl
        have := via.step (a := 3) (g := fun l => c :: l) (r' := txtM fr r2 (dec mo')) (by rw [hd, eq1 h0, e]; exact mqu)
        rw [hd4]
        simpa using this
      ·rw [hd3] at e
       refine k2 (n + (m + 1)) (via.err ?_) d H2 ((sb.trans s1).trans s2) (by rw [hx, show i + n + 1 + m = i + (n + (m + 1)) by omega])
       rw [hd, eq1 h0, e]
     ·have hpl : isPl c = true ∨ c ∈ fr := by
       rcases List.mem_append.mp hin2 with z | z
       ·exact (List.mem_append.mp z).imp (mqO hc).mp id
       ·exact absurd (List.mem_singleton.mp z) h126
      refine ⟨_, fun _ _ h => h, ⟨_, .of hq'⟩, aqF cur ⟨p, t, [126], i + n, rfl, cur, hin, hl, fun hp1 => ?_, fun _ => ⟨_, rfl, ?_⟩⟩⟩
      ·rw [hd] at hp1
       exact absurd (List.cons.inj hp1).1 h126
      rw [if_neg (by decide)]
      refine aqF cur ⟨p, t, i + n, c, rfl, cur, hx, hl, fun H1 s1 c1 => ⟨_, s1 _ _ hqp hq', hlen, t.length - (i + (n + 1)), by omega, dn ++ [c], n + 1, dec mo', rfl, by omega, by rw [List.length_append, List.length_singleton]; omega, decE c, decL h0 c, rfl, ?_, ?_, ?_, ?_⟩⟩
      ·rw [aqr, List.map_append]; rfl
      ·exact (sb.trans s1).upd hq
      ·obtain ⟨dx, hpp⟩ := c1
       exact ⟨dx, by rw [aqm hqp.symm]; exact hpp⟩
      ·have hd4 : t.drop (i + (n + 1)) = r := by rw [← Nat.add_assoc, ← List.drop_drop, hd]; rfl
       have := via.step (a := 1) (g := fun l => c :: l) (r' := txtM fr r (dec mo')) (by rw [hd, hqv h0 h126 hpl]; exact mqu)
       rw [hd4]
       simpa using this
    ·rw [decide_eq_false hin2, if_neg (by decide)]
     refine fin (eqO ?_)
     rw [hd]
     refine aqP ⟨?_, fun z => hin2 (List.mem_append.mpr (.inl (List.mem_append.mpr (.inr z)))), fun z => hin2 (List.mem_append.mpr (.inr (List.mem_singleton.mpr z)))⟩
     cases hi2 : isPl c with
     | false => rfl
     | true => exact absurd (List.mem_append.mpr (.inl (List.mem_append.mpr (.inl ((mqO hc).mpr hi2))))) hin2
theorem hqi (g : G K mg) : FnOk P w K mg base (CXN P w base) 5 g.dqN g.dqd ["cursor", "must_be_rooted"] (eq7 K g.aqi g.aql) := by
 refine g.eqH.okn bqk (fun vs H Q E h => ?_) (fun cdv A outer s H vs Q E hr h => ?_)
 ·obtain ⟨p, t, i, must, rfl, _⟩ := h; rfl
 ·obtain ⟨p, t, i, must, rfl, hcur, hi, hl, h128, k1, k2⟩ := h
  refine ⟨_, (cqz (aqo (i := 2) bqk.nd rfl (Or.inl rfl) (bq0 (pv 0) g.aqe g.aqs (aqx g) (hr.mono (by decide)) g.aqv .nil pass0 (aqa aqk aqb)))
   (cqz (cqf (PW.pt (hqb (bqT (pv 1)) (gqr (dqn (bqT (pv 2))))))
    (aqg (aqy (aqq (aqa fqn (aqa (aqq aqb) (aqa fqn aqb)))))) aqH)
   (aqc (aqo (i := 3) bqk.nd rfl (Or.inl rfl) (dqi aqb))
   (aqc (aqo (i := 4) bqk.nd rfl (Or.inl rfl) (pv 2))
   (cqz (aqo (i := 5) bqk.nd rfl (Or.inl rfl) (aqt (dvs := [.non]) (bqf g) (hr.mono (by decide)) rfl g.bqq g.aq5.kp g.bqz (.cons rfl .nil) aqD (aqa (pv 0) (aqa (aqL (v := cq2) rfl g.cqZ ⟨_, rfl⟩) aqb))))
   (aqc (fqY PassesOwn.leaving (aqA nqE (pv 5) aqk (nomark _))
   (aqc (gqE (fqt (K := K) rfl PySem.F.plainAttrs_list PySem.F.slot_list_append PySem.F.type_list_append eqT (pv 3) (aqa (pv 5) aqb)))
   (aqc (aqo (i := 4) bqk.nd rfl (Or.inl rfl) (bq0 (pv 0) g.aqe g.aqs (aqx g) (hr.mono (by decide)) g.aqv .nil pass0 (aqa aqk aqb)))
   (aqg (aqo (i := 5) bqk.nd rfl (Or.inl rfl) (aqt (dvs := [.non]) (bqf g) (hr.mono (by decide)) rfl g.bqq g.aq5.kp g.bqz (.cons rfl .nil) aqD (aqa (pv 0) (aqa (aqL (v := cq2) rfl g.cqZ ⟨_, rfl⟩) aqb))))))))
   (aqg (aqy (aqq (aqa (pv 2) (aqa (cqT (gqv (K := K) rfl) rfl g.iqO jqq (aqa (pv 3) aqb)) (aqa (pv 4) aqb)))))))))))), ?_⟩
  have eF : cq2 = .str ⟨frS.toArray⟩ := by
   show V.str (Str.ofString _) = _
   unfold frS; simp
  have e1 : Str.ofString "/" = ⟨[47].toArray⟩ := by decide +kernel
  rw [eF, e1]
  walk_at "rd"
  refine ⟨fun σ H1 => SameBut p H H1 ∧ ∃ (j : Nat) (r : Bool), σ = [some (.ref p), some (.bl must), some (.bl r), none, none, none] ∧ Cur H1 g.aqi p t j ∧ j ≤ t.length ∧ ((r = true ∧ (t.drop i).head? = some 47 ∧ j = i + 1) ∨ (r = false ∧ ¬ (t.drop i).head? = some 47 ∧ j = i)), ?_, ?_⟩
  ·refine aqF hcur ⟨p, t, [47], i, rfl, hcur, hi, hl, fun hp H1 s1 c1 => ⟨s1, i + 1, true, rfl, c1, ?_, .inl ⟨rfl, take1.mp hp, rfl⟩⟩, fun hp => ⟨SameBut.refl _ _, i, false, rfl, hcur, hi, .inr ⟨rfl, fun z => hp (take1.mpr z), rfl⟩⟩⟩
   have := congrArg List.length hp
   rw [List.length_take, List.length_drop] at this
   simp only [List.length_singleton] at this
   omega
  rintro σ H1 ⟨s1, j, r, rfl, c1, hj, hr⟩
  walk_at "rd"
  refine ⟨fun σ H2 => H2 = H1 ∧ ¬ (must = true ∧ r = false) ∧ σ = [some (.ref p), some (.bl must), some (.bl r), none, none, none], ?_, ?_⟩
  ·have fin : must = true → r = false → (∀ u H', SameBut p H H' → Cur H' g.aqi p t j → IsT H' (wayOf (true, [], true)) u → Q u H') := fun hm h0 u H' sb cu hu => by
    rcases hr with ⟨z, _⟩ | ⟨_, hh, rfl⟩
    ·rw [h0] at z; cases z
    ·exact k1 (true, [], true) 0 (by unfold wayM; rw [if_neg hh, if_pos hm]) H' sb cu u hu
   cases must with
   | true =>
    rw [if_pos rfl]
    cases r with
    | true => exact ⟨rfl, by simp, rfl⟩
    | false =>
     rw [if_pos rfl]
     exact ⟨by decide, fun pt Ha n1 sa hpt => ⟨by decide, fun pw Hb nb sb' hpw => fin rfl rfl _ Hb ((s1.trans sa.but).trans sb'.but) ((c1.same sa).same sb') (wayT' (ss := []) hpw (sb' _ _ hpt))⟩⟩
   | false =>
    rw [if_neg (by decide)]
    exact ⟨rfl, by simp, rfl⟩
  rintro σ H2 ⟨rfl, hmr, rfl⟩
  walk_at "rd"
  obtain ⟨tot, htot⟩ : ∃ tot, tot = stpF ((t.drop i).length + 1) (t.drop j) r := ⟨_, rfl⟩
  have ew : wayM must (t.drop i) = sh (j - i) (mp (fun x => (r, x)) tot) := by
   unfold wayM
   rcases hr with ⟨rfl, hh, rfl⟩ | ⟨rfl, hh, rfl⟩
   ·rw [if_pos hh, htot, show i + 1 - i = 1 by omega, List.drop_drop]
   ·rw [if_neg hh, if_neg (fun z => hmr ⟨z, rfl⟩), htot, Nat.sub_self, sh_0]
  have hij : i ≤ j := by rcases hr with ⟨_, _, rfl⟩ | ⟨_, _, rfl⟩ <;> omega
  have hk1 : ∀ x n, tot = .ok (x, n) → ∀ u H', SameBut p H H' → Cur H' g.aqi p t (j + n) → IsT H' (wayOf (r, x)) u → Q u H' := fun x n e u H' sb cu hu =>
   k1 (r, x) (j - i + n) (by rw [ew, e]; rfl) H' sb (by rw [show i + (j - i + n) = j + n by omega]; exact cu) u hu
  have hk2 : ∀ n, tot = .error n → ∀ d H', SameBut p H H' → H' d = some (.xd [("at", .int ((j + n : Nat) : Int))]) → E (.ref g.aql) (some d) H' := fun n e d H' sb hx =>
   k2 (j - i + n) (by rw [ew, e]; rfl) d H' sb (by rw [hx, show i + (j - i + n) = j + n by omega])
  refine ⟨by decide, fun q H3 hq s3 hq3 => ?_⟩
  have hqp : q ≠ p := by obtain ⟨dx, hp⟩ := c1; exact (aqn hp hq).symm
  have c3 := c1.same s3
  have sb3 : SameBut p H H3 := s1.trans s3.but
  have hqH : H q = none := s1.free hq hqp
  obtain ⟨W, hW⟩ : ∃ W : Nat → St → Hp → Prop, W = fun m σ H' => ∃ (dn : List (List Nat)) (s : List Nat) (b n : Nat) (en : Bool), σ = [some (.ref p), some (.bl must), some (.bl r), some (.ref q), some (.bl en), some (.str ⟨s.toArray⟩)] ∧ txtM frS (t.drop (j + b)) none = .ok (s, n) ∧ j + b + n ≤ t.length ∧ dn.length ≤ b ∧ (t.drop (j + b)).length ≤ m ∧ Via tot b (fun x => (dn ++ x.1, x.2)) (stpF (m + 1) (t.drop (j + b)) en) ∧ H' q = some (.lst (dn.map sV)) ∧ SameBut p H H' ∧ Cur H' g.aqi p t (j + b + n) := ⟨_, rfl⟩
  have txn : ∀ {b n : Nat} {s : List Nat}, j + b ≤ t.length → txtM frS (t.drop (j + b)) none = .ok (s, n) → j + b + n ≤ t.length := fun {b n s} hb e => by
   have := (dqQ e).1
   rw [List.length_drop] at this
   omega
  refine ⟨fun σ H4 => ∃ m, W m σ H4, ?_, ?_⟩
  ·refine ⟨p, t, frS, j, none, rfl, c3, hj, hl, h128, iqK, fun s n e H4 s4 c4 => ⟨(t.drop i).length, ?_⟩, fun n e d H4 s4 hx => hk2 n ?_ d H4 (sb3.trans s4) hx⟩
   ·rw [hW]
    refine ⟨[], s, 0, n, r, rfl, e, txn hj e, Nat.le_refl _, by simp only [List.length_drop]; omega, ?_, s4 _ _ hqp hq3, sb3.trans s4, c4⟩
    show Via tot 0 (fun x => x) _
    rw [htot]
    exact Via.refl
   ·rw [htot]
    unfold stpF
    rw [e]
  rintro σ H4 ⟨m, hm⟩
  unfold L2.Later
  rw [L2.kqb]
  refine hqu W m hm ?_
  rintro m σ H5 hm
  rw [hW] at hm
  obtain ⟨dn, s, b, n, en, rfl, etx, hbn, hdn, hfu, via, hq5, sb5, c5⟩ := hm
  walk_at "rd"
  by_cases hs : s = []
  ·refine ite2 (fun z => absurd (fqH.mpr hs) z) (fun _ => ?_)
   have e2 : stpF (m + 1) (t.drop (j + b)) en = .ok (([], en), n) := by
    conv => lhs; unfold stpF
    rw [etx]; exact if_pos hs
   have e3 := via.ok e2
   exact ⟨_, .inl (.of hq5), fun pt Ha sa hpt => ⟨by decide, fun pw Hb nb sb' hpw => hk1 _ _ e3 _ Hb ((sb5.trans sa.but).trans sb'.but) (by rw [← Nat.add_assoc]; exact (c5.same sa).same sb') (by rw [List.append_nil]; exact wayT' hpw (sb' _ _ hpt))⟩⟩
  ·have hpos := (dqQ etx).2.2 hs
   have hm0 : ∃ m', m = m' + 1 := by
    refine ⟨m - 1, ?_⟩
    rw [List.length_drop] at hfu
    omega
   obtain ⟨m', rfl⟩ := hm0
   refine ite2 (fun _ => ⟨_, fun _ _ h => h, ⟨_, .of hq5⟩, _, hq5, ?_, ?_⟩) (fun z => absurd (fqH.mp (Classical.not_not.mp z)) hs)
   ·rw [List.length_map]
    exact Nat.lt_of_le_of_lt (show dn.length ≤ 100000 by omega) (by decide)
   have c6 : Cur (upd H5 q (.lst (dn.map sV ++ [sV s]))) g.aqi p t (j + b + n) := by
    obtain ⟨dx, hp⟩ := c5
    exact ⟨dx, by rw [aqm hqp.symm]; exact hp⟩
   have sb6 : SameBut p H (upd H5 q (.lst (dn.map sV ++ [sV s]))) := sb5.upd hqH
   have hq6 : (upd H5 q (.lst (dn.map sV ++ [sV s]))) q = some (.lst ((dn ++ [s]).map sV)) := by rw [aqr, List.map_append]; rfl
   generalize upd H5 q (.lst (dn.map sV ++ [sV s])) = H6 at c6 sb6 hq6 ⊢
   have hdd : (t.drop (j + b)).drop n = t.drop (j + b + n) := List.drop_drop
   refine aqF c6 ⟨p, t, [47], j + b + n, rfl, c6, hbn, hl, fun hp H7 s7 c7 => ?_, fun hp => ?_⟩
   ·have hh : ((t.drop (j + b)).drop n).head? = some 47 := by rw [hdd]; exact take1.mp hp
    have e2 : stpF (m' + 1 + 1) (t.drop (j + b)) en = sh (n + 1) (mp (fun x => (s :: x.1, x.2)) (stpF (m' + 1) (t.drop (j + (b + (n + 1)))) true)) := by
     conv => lhs; unfold stpF
     rw [etx]
     show (if s = [] then _ else _) = _
     rw [if_neg hs, if_pos hh, List.drop_drop, Nat.add_assoc j b (n + 1)]
    have via2 := via.step e2
    have hb7 : j + (b + (n + 1)) ≤ t.length := by
     have := congrArg List.length hp
     rw [List.length_take, List.length_drop] at this
     simp only [List.length_singleton] at this
     omega
    refine ⟨p, t, frS, j + (b + (n + 1)), none, rfl, by rw [show j + (b + (n + 1)) = j + b + n + 1 by omega]; exact c7, hb7, hl, h128, iqK, fun s' n' e' H8 s8 c8 => ⟨m', by omega, ?_⟩, fun n' e' d H8 s8 hx => hk2 (b + (n + 1) + n') (via2.err (by unfold stpF; rw [e'])) d H8 ((sb6.trans s7).trans s8) (by rw [hx, show j + (b + (n + 1)) + n' = j + (b + (n + 1) + n') by omega])⟩
    rw [hW]
    refine ⟨dn ++ [s], s', b + (n + 1), n', true, rfl, e', txn hb7 e', by rw [List.length_append, List.length_singleton]; omega, by rw [List.length_drop] at hfu ⊢; omega, ?_, (s7.trans s8) _ _ hqp hq6, (sb6.trans s7).trans s8, c8⟩
    simpa using via2
   ·have hh : ¬ ((t.drop (j + b)).drop n).head? = some 47 := by rw [hdd]; exact fun z => hp (take1.mpr z)
    have e2 : stpF (m' + 1 + 1) (t.drop (j + b)) en = sh n (mp (fun x => (s :: x.1, x.2)) (stpF (m' + 1) (t.drop (j + (b + n))) false)) := by
     conv => lhs; unfold stpF
     rw [etx]
     show (if s = [] then _ else _) = _
     rw [if_neg hs, if_neg hh, List.drop_drop, Nat.add_assoc j b n]
    have via2 := via.step e2
    have hb7 : j + (b + n) ≤ t.length := by omega
    refine ⟨p, t, frS, j + (b + n), none, rfl, by rw [← Nat.add_assoc]; exact c6, hb7, hl, h128, iqK, fun s' n' e' H8 s8 c8 => ⟨m', by omega, ?_⟩, fun n' e' d H8 s8 hx => hk2 (b + n + n') (via2.err (by unfold stpF; rw [e'])) d H8 (sb6.trans s8) (by rw [hx, show j + (b + n) + n' = j + (b + n + n') by omega])⟩
    rw [hW]
    refine ⟨dn ++ [s], s', b + n, n', false, rfl, e', txn hb7 e', by rw [List.length_append, List.length_singleton]; omega, by rw [List.length_drop] at hfu ⊢; omega, ?_, s8 _ _ hqp hq6, sb6.trans s8, c8⟩
    simpa using via2
theorem dq6 (g : G K mg) : FnOk P w K mg base (CXN P w base) 5 g.cqG g.cqm ["cursor"] (gqq K g.aqi g.aql) := by
 refine g.cqD.okn gqL (fun vs H Q E h => ?_) (fun cdv A outer s H vs Q E hr h => ?_)
 ·obtain ⟨p, t, i, rfl, _⟩ := h; rfl
 ·obtain ⟨p, t, i, rfl, hcur, hi, hl, h128, k1, k2⟩ := h
  refine ⟨_, (aqg (aqy (fqV (bqT (bq0 (pv 0) g.aqe g.aqs (aqx g) (hr.mono (by decide)) g.aqv .nil pass0 (aqa aqk aqb))) (aqt (dvs := [.non]) (bqf g) (hr.mono (by decide)) rfl g.bqq g.aq5.kp g.bqz (.cons rfl .nil) aqD (aqa (pv 0) (aqa (aqL (v := aqT) rfl g.aq6 ⟨_, rfl⟩) aqb))) aqV))), ?_⟩
  have eF : aqT = .str ⟨frQ.toArray⟩ := by
   show V.str (Str.ofString _) = _
   unfold frQ; simp
  have e1 : Str.ofString "=" = ⟨[61].toArray⟩ := by decide +kernel
  rw [eF, e1]
  walk_at "rd"
  refine aqF hcur ⟨p, t, [61], i, rfl, hcur, hi, hl, fun hp H1 s1 c1 => ⟨_, rfl, ?_⟩, fun hp => ⟨_, rfl, ?_⟩⟩
  ·rw [if_pos rfl]
   have h1 := take1.mp hp
   have hi1 : i + 1 ≤ t.length := by
    have := congrArg List.length hp
    rw [List.length_take, List.length_drop] at this
    simp only [List.length_singleton] at this
    omega
   have em : valM (t.drop i) = sh 1 (mp some (txtM frQ (t.drop (i + 1)) none)) := by unfold valM; rw [if_pos h1, List.drop_drop]
   refine ⟨p, t, frQ, i + 1, none, rfl, c1, hi1, hl, h128, iqU, fun s n e H2 s2 c2 => k1 (some s) (1 + n) (by rw [em, e]; rfl) H2 (s1.trans s2) (by rw [← Nat.add_assoc]; exact c2), fun n e d H2 s2 hx => k2 (1 + n) (by rw [em, e]; rfl) d H2 (s1.trans s2) (by rw [hx, Nat.add_assoc])⟩
  ·rw [if_neg (by decide)]
   exact k1 none 0 (by unfold valM; rw [if_neg (fun z => hp (take1.mpr z))]) H (SameBut.refl _ _) hcur
theorem gqM (g : G K mg) : FnOk P w K mg base (CXN P w base) 5 g.dqh g.cqN ["cursor"] (gq2 K g.aqi g.aql) := by
 refine g.dq2.okn hqA (fun vs H Q E h => ?_) (fun cdv A outer s H vs Q E hr h => ?_)
 ·obtain ⟨p, t, i, rfl, _⟩ := h; rfl
 ·obtain ⟨p, t, i, rfl, hcur, hi, hl, h128, k1, k2⟩ := h
  refine ⟨_, (aqg (aqy (fqV (bqT (bq0 (pv 0) g.aqe g.aqs (aqx g) (hr.mono (by decide)) g.aqv .nil pass0 (aqa aqk aqb))) (aqt (dvs := [.non]) (bqf g) (hr.mono (by decide)) rfl g.bqq g.aq5.kp g.bqz (.cons rfl .nil) aqD (aqa (pv 0) (aqa (aqL (v := eqb) rfl g.eqd ⟨_, rfl⟩) aqb))) aqV))), ?_⟩
  have eF : eqb = .str ⟨frM.toArray⟩ := by
   show V.str (Str.ofString _) = _
   unfold frM; simp
  have e1 : Str.ofString "#" = ⟨[35].toArray⟩ := by decide +kernel
  rw [eF, e1]
  walk_at "rd"
  refine aqF hcur ⟨p, t, [35], i, rfl, hcur, hi, hl, fun hp H1 s1 c1 => ⟨_, rfl, ?_⟩, fun hp => ⟨_, rfl, ?_⟩⟩
  ·rw [if_pos rfl]
   have h1 := take1.mp hp
   have hi1 : i + 1 ≤ t.length := by
    have := congrArg List.length hp
    rw [List.length_take, List.length_drop] at this
    simp only [List.length_singleton] at this
    omega
   have em : marM (t.drop i) = sh 1 (mp some (txtM frM (t.drop (i + 1)) none)) := by unfold marM; rw [if_pos h1, List.drop_drop]
   refine ⟨p, t, frM, i + 1, none, rfl, c1, hi1, hl, h128, nqB, fun s n e H2 s2 c2 => k1 (some s) (1 + n) (by rw [em, e]; rfl) H2 (s1.trans s2) (by rw [← Nat.add_assoc]; exact c2), fun n e d H2 s2 hx => k2 (1 + n) (by rw [em, e]; rfl) d H2 (s1.trans s2) (by rw [hx, Nat.add_assoc])⟩
  ·rw [if_neg (by decide)]
   exact k1 none 0 (by unfold marM; rw [if_neg (fun z => hp (take1.mpr z))]) H (SameBut.refl _ _) hcur
theorem cqr (g : G K mg) : FnOk P w K mg base (CXN P w base) 5 g.aq7 g.aqN ["cursor", "free", "most"] (dq3 K g.aqi g.aql) := by
 refine g.bqa.okn cqA (fun vs H Q E h => ?_) (fun cdv A outer s H vs Q E hr h => ?_)
 ·obtain ⟨p, t, fr, i, mo, rfl, _⟩ := h; rfl
 ·obtain ⟨p, t, fr, i, mo, rfl, hcur, hi, hl, h128, hfl, k1, k2⟩ := h
  refine ⟨_, (aqc (aqo (i := 3) cqA.nd rfl (Or.inl rfl) (aqt (bqf g) (hr.mono (by decide)) rfl g.bqq g.aq5.kp g.fqw .nil aqD (aqa (pv 0) (aqa (pv 1) (aqa (pv 2) aqb)))))
   (aqc (cqf (aqA gqZ (pv 3) aqk (nomark _))
    (aqg (dqp cqR rfl g.bqp g.bqM (aqC g) (hr.mono (by decide)) g.aqz rfl pass0 rfl (aqa (bqE (pv 0) rfl) aqb))) aqH)
   (aqg (aqy (pv 3))))), ?_⟩
  walk_at "rd"
  refine ⟨p, t, fr, i, mo, rfl, hcur, hi, hl, h128, hfl, fun s n e H1 s1 c1 => ?_, fun n e d H1 s1 hx => k2 n (by unfold filM; rw [e]) d H1 s1 hx⟩
  walk_at "rd"
  by_cases hs : s = []
  ·rw [if_pos (fqH.mpr hs)]
   exact aqI c1 g.aqe g.aqh (cqP fun d H' sm hx => k2 n (by unfold filM; rw [e]; exact if_pos hs) d H' (s1.trans sm.but) hx)
  ·rw [if_neg (fun z => hs (fqH.mp z))]
   exact k1 s n (by unfold filM; rw [e]; exact if_neg hs) H1 s1 c1
theorem fq4 (g : G K mg) : FnOk P w K mg base (CXN P w base) 6 g.cqL g.cql ["cursor"] (gqD K g.aqi g.aql) := by
 refine g.dqI.okn gqO (fun vs H Q E h => ?_) (fun cdv A outer s H vs Q E hr h => ?_)
 ·obtain ⟨p, t, i, rfl, _⟩ := h; rfl
 ·obtain ⟨p, t, i, rfl, hcur, hi, hl, h128, k1, k2⟩ := h
  refine ⟨_, (aqc (cqf (dqn (bqT (bq0 (pv 0) g.aqe g.aqs (aqx g) (hr.mono (by decide)) g.aqv .nil pass0 (aqa aqk aqb))))
    (aqg (aqy aqV)) aqH)
   (aqg (aqy (aqt (cqr g) (hr.mono (by decide)) rfl g.bqN g.bqa.kp g.cqS .nil aqD (aqa (pv 0) (aqa aqk (aqa (aqL (v := gqF) rfl g.eqw ⟨_, rfl⟩) aqb))))))), ?_⟩
  have e1 : Str.ofString "//" = ⟨[47, 47].toArray⟩ := by decide +kernel
  rw [e1]
  walk_at "rd"
  refine aqF hcur ⟨p, t, [47, 47], i, rfl, hcur, hi, hl, fun hp H1 s1 c1 => ⟨_, rfl, ?_⟩, fun hp => ⟨_, rfl, ?_⟩⟩
  ·rw [if_neg (by decide)]
   have h1 : (t.drop i).take 2 = [47, 47] := hp
   have hi1 : i + 2 ≤ t.length := by
    have := congrArg List.length h1
    rw [List.length_take, List.length_drop] at this
    simp only [List.length_cons, List.length_nil] at this
    omega
   have em : houM (t.drop i) = sh 2 (mp some (filM [] (t.drop (i + 2)) (some 60))) := by unfold houM; rw [if_pos h1, List.drop_drop]
   refine ⟨p, t, [], i + 2, some 60, rfl, c1, hi1, hl, h128, by decide, fun s n e H2 s2 c2 => k1 (some s) (2 + n) (by rw [em, e]; rfl) H2 (s1.trans s2) (by rw [← Nat.add_assoc]; exact c2), fun n e d H2 s2 hx => k2 (2 + n) (by rw [em, e]; rfl) d H2 (s1.trans s2) (by rw [hx, Nat.add_assoc])⟩
  ·rw [if_pos rfl]
   exact k1 none 0 (by unfold houM; exact if_neg hp) H (SameBut.refl _ _) hcur
theorem eqW (g : G K mg) : FnOk P w K mg base (CXN P w base) 6 g.bqH g.bqB ["cursor"] (eq4 K g.aqi g.aql) := by
 refine g.cqw.okn bqC (fun vs H Q E h => ?_) (fun cdv A outer s H vs Q E hr h => ?_)
 ·obtain ⟨p, t, i, rfl, _⟩ := h; rfl
 ·obtain ⟨p, t, i, rfl, hcur, hi, hl, h128, k1, k2⟩ := h
  refine ⟨_, (aqc (cqf (dqn (bqT (bq0 (pv 0) g.aqe g.aqs (aqx g) (hr.mono (by decide)) g.aqv .nil pass0 (aqa aqk aqb))))
    (aqg (aqy aqV)) aqH)
   (aqc (aqo (i := 1) bqC.nd rfl (Or.inl rfl) (aqt (dvs := [.non]) (bqf g) (hr.mono (by decide)) rfl g.bqq g.aq5.kp g.bqz (.cons rfl .nil) aqD (aqa (pv 0) (aqa (aqL (v := aqT) rfl g.aq6 ⟨_, rfl⟩) aqb))))
   (cqz (cqf (aqA gqZ (pv 1) aqk (nomark _))
    (aqg (aqy (aqq aqb))) aqH)
   (cqz (aqo (i := 2) bqC.nd rfl (Or.inl rfl) (dqi (aqa (aqq (aqa (pv 1) (aqa (aqt (dq6 g) (hr.mono (by decide)) rfl g.dqL g.cqD.kp g.dqJ .nil aqD (aqa (pv 0) aqb)) aqb))) aqb)))
   (aqc (fqY PassesOwn.leaving (bqT (bq0 (pv 0) g.aqe g.aqs (aqx g) (hr.mono (by decide)) g.aqv .nil pass0 (aqa aqk aqb)))
   (aqc (aqo (i := 1) bqC.nd rfl (Or.inl rfl) (aqt (dvs := [.non]) (cqr g) (hr.mono (by decide)) rfl g.bqN g.bqa.kp g.cqB (.cons rfl .nil) aqD (aqa (pv 0) (aqa (aqL (v := aqT) rfl g.aq6 ⟨_, rfl⟩) aqb))))
   (aqg (gqE (fqt (K := K) rfl PySem.F.plainAttrs_list PySem.F.slot_list_append PySem.F.type_list_append eqT (pv 2) (aqa (aqq (aqa (pv 1) (aqa (aqt (dq6 g) (hr.mono (by decide)) rfl g.dqL g.cqD.kp g.dqJ .nil aqD (aqa (pv 0) aqb)) aqb))) aqb))))))
   (aqg (aqy (cqT (gqv (K := K) rfl) rfl g.iqO jqq (aqa (pv 2) aqb))))))))), ?_⟩
  have eF : aqT = .str ⟨frQ.toArray⟩ := by
   show V.str (Str.ofString _) = _
   unfold frQ; simp
  have e1 : Str.ofString "?" = ⟨[63].toArray⟩ := by decide +kernel
  have e2 : Str.ofString "&" = ⟨[38].toArray⟩ := by decide +kernel
  rw [eF, e1, e2]
  have pl : ∀ {j c : Nat}, (t.drop j).take [c].length = [c] → j + 1 ≤ t.length := fun {j c} hp => by
   have := congrArg List.length hp
   rw [List.length_take, List.length_drop] at this
   simp only [List.length_singleton] at this
   omega
  have tl : ∀ {j n : Nat} {s fr : List Nat}, j ≤ t.length → txtM fr (t.drop j) none = .ok (s, n) → j + n ≤ t.length := fun {j n s fr} hb e => by
   have := (dqQ e).1
   rw [List.length_drop] at this
   omega
  have vl : ∀ {j n : Nat} {o : Option (List Nat)}, j ≤ t.length → valM (t.drop j) = .ok (o, n) → j + n ≤ t.length := fun {j n o} hb e => by
   have := mqF e
   rw [List.length_drop] at this
   omega
  walk_at "rd"
  refine aqF hcur ⟨p, t, [63], i, rfl, hcur, hi, hl, fun hp H1 s1 c1 => ⟨_, rfl, ?_⟩, fun hp => ⟨_, rfl, ?_⟩⟩
  ·rw [if_neg (by decide)]
   have hi1 := pl hp
   have em : queM (t.drop i) = sh 1 (bdR (txtM frQ (t.drop (i + 1)) none) fun s n => if s = [] then .ok (some [], 0) else bdR (valM (t.drop (i + (1 + n)))) fun v m => mp (fun l => some ((s, v) :: l)) (prsF ((t.drop i).length + 1) (t.drop (i + (1 + n + m))))) := by
    unfold queM
    rw [if_pos (take1.mp hp)]
    simp only [List.drop_drop]
   refine ⟨p, t, frQ, i + 1, none, rfl, c1, hi1, hl, h128, iqU, fun s n e H2 s2 c2 => ?_, fun n e d H2 s2 hx => k2 (1 + n) (by rw [em, e]; rfl) d H2 (s1.trans s2) (by rw [hx, Nat.add_assoc])⟩
   have s12 := s1.trans s2
   have hi2 := tl hi1 e
   by_cases hs : s = []
   ·refine ⟨fun _ _ => False, ?_, fun _ _ z => z.elim⟩
    rw [L2.fqi, decide_eq_true (fqH.mpr hs)]
    refine ⟨_, rfl, ?_⟩
    rw [if_pos rfl]
    refine ⟨by decide, fun pt Ha n1 sa hp1 => k1 (some []) (1 + n) ?_ Ha (s12.trans sa.but) (by rw [← Nat.add_assoc]; exact c2.same sa) _ (.tup hp1 .nil)⟩
    rw [em, e]
    show sh 1 (sh n (if s = [] then _ else _)) = _
    rw [if_pos hs]
    rfl
   refine ⟨fun σ H' => H' = H2 ∧ σ = [some (.ref p), some (.str ⟨s.toArray⟩), none], ?_, ?_⟩
   ·rw [L2.fqi]
    refine ⟨_, rfl, ?_⟩
    rw [if_neg (by rw [decide_eq_false (fun z => hs (fqH.mp z))]; decide)]
    exact ⟨rfl, rfl⟩
   rintro σ H' ⟨rfl, rfl⟩
   have em2 : queM (t.drop i) = sh (1 + n) (bdR (valM (t.drop (i + (1 + n)))) fun v m => mp (fun l => some ((s, v) :: l)) (prsF ((t.drop i).length + 1) (t.drop (i + (1 + n + m))))) := by
    rw [em, e]
    show sh 1 (sh n (if s = [] then _ else _)) = _
    rw [if_neg hs, jqZ]
   walk_at "rd"
   obtain ⟨W, hW⟩ : ∃ W : Nat → St → Hp → Prop, W = fun m σ H4 => ∃ (dn : List (List Nat × Option (List Nat))) (b : Nat) (q : Addr) (v1 : Option V) (vs : List V), σ = [some (.ref p), v1, some (.ref q)] ∧ Cur H4 g.aqi p t (i + b) ∧ i + b ≤ t.length ∧ dn.length ≤ b ∧ (t.drop (i + b)).length < m ∧ Via (queM (t.drop i)) b (fun l => some (dn ++ l)) (prsF m (t.drop (i + b))) ∧ H4 q = some (.lst vs) ∧ PrL H4 vs dn ∧ SameBut p H H4 ∧ H q = none ∧ q ≠ p := ⟨_, rfl⟩
   refine ⟨fun σ H4 => ∃ m, W m σ H4, ?_, ?_⟩
   ·refine ⟨p, t, i + 1 + n, rfl, c2, hi2, hl, h128, fun o m e' H3 s3 c3 => ⟨by decide, fun p1 Ha n1 sa hp1 => ⟨by decide, fun q Hb nq sb hq => ⟨(t.drop i).length + 1, ?_⟩⟩⟩, fun m e' d H3 s3 hx => k2 (1 + n + m) (by rw [em2, ← Nat.add_assoc, e']; rfl) d H3 (s12.trans s3) (by rw [hx, show i + 1 + n + m = i + (1 + n + m) by omega])⟩
    rw [hW]
    have hi3 := vl hi2 e'
    have hqp : q ≠ p := by obtain ⟨dx, hp⟩ := c3.same sa; exact (aqn hp nq).symm
    have sbA : SameBut p H Ha := (s12.trans s3).trans sa.but
    have hk := (dqQ e).2.2 hs
    refine ⟨[(s, o)], 1 + n + m, q, _, _, rfl, by rw [show i + (1 + n + m) = i + 1 + n + m by omega]; exact (c3.same sa).same sb, by omega, by show 1 ≤ _; omega, by simp only [List.length_drop]; omega, ?_, hq, ⟨rfl, fun i' a' y z1 z2 => ?_⟩, sbA.trans sb.but, sbA.free nq hqp, hqp⟩
    ·show _ = sh _ (mp _ _)
     rw [em2, ← Nat.add_assoc, e']
     show sh (1 + n) (sh m (mp _ _)) = _
     rw [jqZ]
     rfl
    ·cases i' with
     | zero =>
      cases z1
      cases z2
      exact .tup (sb _ _ hp1) (.cons (.str _) (.cons (lqE _) .nil))
     | succ j => cases z1
   rintro σ H4 ⟨m, hm⟩
   unfold L2.Later
   rw [L2.kqb]
   refine hqu W m hm ?_
   rintro m σ H5 hm
   rw [hW] at hm
   obtain ⟨dn, b, q, v1, vs, rfl, c5, hj5, hdn, hfu, via, hq5, hpl, sb5, hqH, hqp⟩ := hm
   have hdl : dn.length ≤ 100000 := by omega
   obtain ⟨m', rfl⟩ : ∃ m', m = m' + 1 := ⟨m - 1, by omega⟩
   walk_at "rd"
   refine aqF c5 ⟨p, t, [38], i + b, rfl, c5, hj5, hl, fun hp H6 s6 c6 => ⟨_, rfl, ?_⟩, fun hp => ⟨_, rfl, ?_⟩⟩
   ·rw [if_pos rfl]
    have hi6 := pl hp
    have ep : prsF (m' + 1) (t.drop (i + b)) = sh 1 (bdR (filM frQ (t.drop (i + b + 1)) none) fun s n => bdR (valM (t.drop (i + b + (1 + n)))) fun v m => mp (fun l => (s, v) :: l) (prsF m' (t.drop (i + b + (1 + n + m))))) := by
     conv => lhs; unfold prsF
     rw [if_pos (take1.mp hp)]
     simp only [List.drop_drop]
    refine ⟨_, fun _ _ h => h, p, t, frQ, i + b + 1, none, rfl, c6, hi6, hl, h128, iqU, fun s2 n2 e6 H7 s7 c7 => ⟨⟨_, .of ((s6.trans s7) _ _ hqp hq5)⟩, ?_⟩, fun n2 e6 d H7 s7 hx => k2 (b + (1 + n2)) (via.err (by rw [ep, e6]; rfl)) d H7 ((sb5.trans s6).trans s7) (by rw [hx, show i + b + 1 + n2 = i + (b + (1 + n2)) by omega])⟩
    have hi7 := tl hi6 (hqc e6).1
    have hk2 := (dqQ (hqc e6).1).2.2 (hqc e6).2
    refine ⟨p, t, i + b + 1 + n2, rfl, c7, hi7, hl, h128, fun o2 k3 e7 H8 s8 c8 => ⟨by decide, fun p1 Ha n1 sa hp1 => ⟨vs, sa _ _ (((s6.trans s7).trans s8) _ _ hqp hq5), ?_, m', Nat.lt_succ_self _, ?_⟩⟩, fun k3 e7 d H8 s8 hx => k2 (b + (1 + (n2 + k3))) (via.err ?_) d H8 (((sb5.trans s6).trans s7).trans s8) (by rw [hx, show i + b + 1 + n2 + k3 = i + (b + (1 + (n2 + k3))) by omega])⟩
    ·rw [hpl.1]
     exact Nat.lt_of_le_of_lt hdl (by decide)
    ·rw [hW]
     have hi8 := vl hi7 e7
     have hqa : Ha q = some (.lst vs) := sa _ _ (((s6.trans s7).trans s8) _ _ hqp hq5)
     refine ⟨dn ++ [(s2, o2)], b + (1 + n2 + k3), q, _, _, rfl, ?_, by omega, by rw [List.length_append, List.length_singleton]; omega, by rw [List.length_drop] at hfu ⊢; omega, ?_, aqr, ?_, ?_, hqH, hqp⟩
     ·obtain ⟨dx, hp⟩ := c8.same sa
      exact ⟨dx, by rw [aqm hqp.symm, show i + (b + (1 + n2 + k3)) = i + b + 1 + n2 + k3 by omega]; exact hp⟩
     ·have := via.step (a := 1 + n2 + k3) (g := fun l => (s2, o2) :: l) (r' := prsF m' (t.drop (i + b + (1 + n2 + k3)))) (by
       rw [ep, e6]
       show sh 1 (sh n2 (bdR _ _)) = _
       rw [show i + b + (1 + n2) = i + b + 1 + n2 by omega, e7]
       show sh 1 (sh n2 (sh k3 _)) = _
       rw [jqZ, jqZ])
      rw [Nat.add_assoc i b] at this
      simpa using this
     ·refine PrL.mono (PrL.snoc ((((hpl.mono (c5.toT s6)).mono (c6.toT s7)).mono (c7.toT s8)).mono sa.toT) ?_) (kq5 hqa)
      exact .tup hp1 (.cons (.str _) (.cons (lqE _) .nil))
     ·exact ((((sb5.trans s6).trans s7).trans s8).trans sa.but).upd hqH
    ·rw [ep, e6]
     show sh 1 (sh n2 (bdR _ _)) = _
     rw [show i + b + (1 + n2) = i + b + 1 + n2 by omega, e7]
     rfl
   ·rw [if_neg (by decide)]
    have ep : prsF (m' + 1) (t.drop (i + b)) = .ok ([], 0) := by
     unfold prsF
     rw [if_neg (fun z => hp (take1.mpr z))]
    have e3 := via.ok ep
    rw [List.append_nil] at e3
    refine ⟨vs, .inl (.of hq5), fun l Ha sa hla => k1 (some dn) b e3 Ha (sb5.trans sa.but) (c5.same sa) _ ?_⟩
    exact .tup hla (gq5 (g := pD) hpl.1 fun i' a' y z1 z2 => (hpl.2 i' a' y z1 z2).mono sa.toT)
  ·rw [if_pos rfl]
   exact k1 none 0 (by unfold queM; rw [if_neg (fun z => hp (take1.mpr z))]) H (SameBut.refl _ _) hcur _ .non
theorem lqt (g : G K mg) : FnOk P w K mg base (CXN P w base) 7 g.jqa g.hqg ["text"] (lqL K g.aql) := by
 refine g.jqV.okn eqc (fun vs H Q E h => ?_) (fun cdv A outer s H vs Q E hr h => ?_)
 ·obtain ⟨v, rfl, _⟩ := h; rfl
 ·obtain ⟨v, rfl, h⟩ := h
  refine ⟨_, (aqc (cqf (dqn (bqT (bqh jqd rfl g.cqt bqY (aqa (pv 0) (aqa (hqE (v := .ty "str") rfl g.lq8 jq4 rfl) aqb)))))
    (aqg (dqp cqR rfl g.bqp g.bqM (aqC g) (hr.mono (by decide)) g.aqz rfl pass0 rfl (aqa aqj aqb))) aqH)
   (aqc (aqo (i := 1) eqc.nd rfl (Or.inl rfl) (nqL g.jqf (fqa g) (hr.mono (by decide)) rfl g.jqm g.dqs .nil pass0 (aqa (pv 0) aqb)))
   (aqc (aqo (i := 2) eqc.nd rfl (Or.inl rfl) (aqt (gqg g) (hr.mono (by decide)) rfl g.eqE g.dqj.kp g.eqG .nil pass0 (aqa (pv 1) aqb)))
   (aqc (aqo (i := 3) eqc.nd rfl (Or.inl rfl) (aqt (fq4 g) (hr.mono (by decide)) rfl g.fqc g.dqI.kp g.eq8 .nil aqD (aqa (pv 1) aqb)))
   (cqz (aqo (i := 4) eqc.nd rfl (Or.inl rfl) (fqV (aqA gqw (pv 3) aqV (nomark _)) aqV (aqt (gqK g) (hr.mono (by decide)) rfl g.fqI g.eqa.kp g.fqv .nil aqD (aqa (pv 1) aqb))))
   (cqz (aqo (i := 5) eqc.nd rfl (Or.inl rfl) (aqt (hqi g) (hr.mono (by decide)) rfl g.gqy g.eqH.kp g.fq1 .nil aqD (aqa (pv 1) (aqa (qqz (gqB nqE (pv 2) aqk (nomark _)) (iqd (gqB lqO (pv 3) aqV (nomark _)))) aqb))))
   (aqc (aqo (i := 6) eqc.nd rfl (Or.inl rfl) (aqt (eqW g) (hr.mono (by decide)) rfl g.dqW g.cqw.kp g.dqS .nil aqD (aqa (pv 1) aqb)))
   (aqc (aqo (i := 7) eqc.nd rfl (Or.inl rfl) (aqt (gqM g) (hr.mono (by decide)) rfl g.fqJ g.dq2.kp g.fqF .nil aqD (aqa (pv 1) aqb)))
   (aqc (cqf (dqn (bqT (dqO (pv 1) g.aqe g.cqv (dqT g) (hr.mono (by decide)) g.cq1 .nil pass0)))
    (aqg (dqp cqR rfl g.bqp g.bqM (aqC g) (hr.mono (by decide)) g.aqz rfl pass0 rfl (aqa (bqE (pv 1) rfl) aqb))) aqH)
   (aqg (aqy (aqq (aqa (pv 2) (aqa (pv 3) (aqa (pv 4) (aqa (pv 5) (aqa (pv 6) (aqa (pv 7) aqb)))))))))))))))))), ?_⟩
  walk_at "rd"
  rcases h with ⟨ty, hty, hkit, kE⟩ | ⟨t, rfl, hl, h128, k1, k2⟩
  ·refine ⟨_, _, _, _, rfl, hty, hkit, ?_⟩
   refine ⟨_, rfl, ?_⟩
   rw [if_pos rfl]
   exact cqP fun d H' sm hx => kE d H' sm hx
  refine ⟨_, _, _, _, rfl, .str _, jq9 K "str" (by decide) "str" (by decide), ?_⟩
  refine ⟨_, rfl, ?_⟩
  rw [if_neg (by decide)]
  intro p dx hp hdx hne
  have sb0 : SameBut p H (upd (upd H dx (.own p)) p (.ins g.aqi dx [])) := fun b o n e => by
   rw [aqm n, aqm (aqn e hdx)]
   exact e
  refine ⟨p, dx, t, rfl, aqr, fun H1 s1 c1 => ⟨rfl, ?_⟩⟩
  have sb1 := sb0.trans s1
  have hl' : t.length ≤ 100000 := by omega
  refine ⟨p, t, rfl, c1, hl, fun H2 s2 c2 => ?_⟩
  have sb2 := sb1.trans s2
  refine ⟨p, t, schP t, rfl, c2, kqc t, hl', h128, fun h n1 e1 H3 s3 c3 => ?_, fun n e d H3 s3 hx => k2 _ (oqw e) d H3 ((sb2.trans s3).same hp) hx⟩
  have sb3 := sb2.trans s3
  have hi3 : schP t + n1 ≤ t.length := by have := mqA e1; have := kqc t; rw [List.length_drop] at *; omega
  refine ⟨fun σ H4 => SameBut p H H4 ∧ ∃ d n2, dorM h (t.drop (schP t + n1)) = .ok (d, n2) ∧ Cur H4 g.aqi p t (schP t + n1 + n2) ∧ σ = [some (.str ⟨t.toArray⟩), some (.ref p), some (.str ⟨(schM t).toArray⟩), some (otV h), some (itV d), none, none, none], ?_, ?_⟩
  ·cases hho : h with
   | none =>
    rw [if_pos (show otV none = V.non from rfl)]
    exact ⟨sb3, none, 0, by unfold dorM; rw [if_pos rfl], c3, rfl⟩
   | some l =>
    rw [if_neg (by simp [otV])]
    have ed : dorM (some l) (t.drop (schP t + n1)) = dooM (t.drop (schP t + n1)) := by unfold dorM; rw [if_neg (by simp)]
    rw [hho] at e1
    exact ⟨p, t, schP t + n1, rfl, c3, hi3, hl', h128, fun d n2 e2 H4 s4 c4 => ⟨sb3.trans s4, d, n2, ed.trans e2, c4, rfl⟩, fun n e d H4 s4 hx => k2 _ (mqo e1 (ed.trans e)) d H4 ((sb3.trans s4).same hp) hx⟩
  rintro σ H4 ⟨sb4, d, n2, e2, c4, rfl⟩
  have hi4 : schP t + n1 + n2 ≤ t.length := by have := (mqN e2).1; rw [List.length_drop] at this; omega
  walk_at "rd"
  obtain ⟨must, hmust⟩ : ∃ b : Bool, b = decide (schM t ≠ [] ∨ h ≠ none) := ⟨_, rfl⟩
  have hway : ∀ (b : Bool) (Q' : VK), b = must → (∀ w n3, wayM must (t.drop (schP t + n1 + n2)) = .ok (w, n3) → ∀ u H5, SameBut p H H5 → Cur H5 g.aqi p t (schP t + n1 + n2 + n3) → IsT H5 (wayOf w) u → Q' u H5) → eq7 K g.aqi g.aql [V.ref p, V.bl b] H4 Q' E := fun b Q' hb hk =>
   ⟨p, t, schP t + n1 + n2, must, by rw [hb], c4, hi4, hl', h128, fun w n3 e3 H5 s5 c5 u hu => hk w n3 e3 u H5 (sb4.trans s5) c5 hu, fun n e d H5 s5 hx => k2 _ (oqO e1 e2 (by rw [← hmust]; exact e)) d H5 ((sb4.trans s5).same hp) hx⟩
  refine ⟨fun σ H5 => ∃ w n3 u, wayM must (t.drop (schP t + n1 + n2)) = .ok (w, n3) ∧ SameBut p H H5 ∧ Cur H5 g.aqi p t (schP t + n1 + n2 + n3) ∧ IsT H5 (wayOf w) u ∧ σ = [some (.str ⟨t.toArray⟩), some (.ref p), some (.str ⟨(schM t).toArray⟩), some (otV h), some (itV d), some u, none, none], ?_, ?_⟩
  ·refine ite2 (fun z => ?_) (fun z => ?_)
   ·have hm : must = true := by rw [hmust]; exact decide_eq_true (.inl fun e => z (by rw [e]))
    exact hway true _ hm.symm (fun w n3 e3 u H5 sb c hu => ⟨w, n3, u, e3, sb, c, hu, rfl⟩)
   ·have hs : schM t = [] := fqH.mp (Classical.not_not.mp z)
    have hm : must = !decide (otV h = V.non) := by
     rw [hmust]
     cases h with
     | none => simp [hs, otV]
     | some l => simp [otV]
    exact hway _ _ hm.symm (fun w n3 e3 u H5 sb c hu => ⟨w, n3, u, e3, sb, c, hu, rfl⟩)
  rintro σ H5 ⟨w, n3, u, e3, sb5, c5, hu, rfl⟩
  have e3' := e3
  rw [hmust] at e3'
  have hi5 : schP t + n1 + n2 + n3 ≤ t.length := by have := (mqG e3).1; rw [List.length_drop] at this; omega
  walk_at "rd"
  refine ⟨p, t, schP t + n1 + n2 + n3, rfl, c5, hi5, hl', h128, fun q n4 e4 H6 s6 c6 uq huq => ?_, fun n e d H6 s6 hx => k2 _ (pqC e1 e2 e3' e) d H6 ((sb5.trans s6).same hp) hx⟩
  have hi6 : schP t + n1 + n2 + n3 + n4 ≤ t.length := by have := (mqR e4).1; rw [List.length_drop] at this; omega
  refine ⟨p, t, schP t + n1 + n2 + n3 + n4, rfl, c6, hi6, hl', h128, fun m n5 e5 H7 s7 c7 => ?_, fun n e d H7 s7 hx => k2 _ (pqh e1 e2 e3' e4 e) d H7 (((sb5.trans s6).trans s7).same hp) hx⟩
  have er := jqn e1 e2 e3' e4 e5
  have sb7 := (sb5.trans s6).trans s7
  refine aqF c7 ⟨p, t, _, rfl, c7, hl', _, rfl, ?_⟩
  by_cases hend : schP t + n1 + n2 + n3 + n4 + n5 = t.length
  ·rw [decide_eq_true hend, if_neg (by decide)]
   rw [if_pos hend] at er
   refine ⟨by decide, fun pr H8 _ s8 h8 => k1 _ er _ H8 ((sb7.same hp).trans s8) ?_⟩
   exact adT h8 ((((hu.mono (c5.toT s6)).mono (c6.toT s7))).mono s8.toT) ((huq.mono (c6.toT s7)).mono s8.toT)
  ·rw [decide_eq_false hend, if_pos rfl]
   rw [if_neg hend] at er
   exact aqI c7 g.aqe g.aqh (cqP fun d H' sm hx => k2 _ er d H' ((sb7.trans sm.but).same hp) hx)
theorem hqj (g : G K mg) : FnOk P w K mg base CX0 8 g.cq6 g.cqQ ["_law_text"] (hqo K) := by
 refine g.dqX.ok bq7 (fun vs H Q E h => ?_) (fun cdv A outer s H vs Q E hr h => ?_)
 ·obtain ⟨t, rfl, _⟩ := h; rfl
 ·obtain ⟨t, rfl, hl, h128, k⟩ := h
  refine ⟨_, (aqc (aqo (i := 1) bq7.nd rfl (Or.inl rfl) aqV)
   (aqc (nqw (i := 2) (nqU (i := 1) bq7.nd rfl rfl (lqb aqk (lqa (lqt g) (hr.mono (by decide)) rfl g.mqE g.jqV.kp g.mqB (aqa (pv 0) aqb) (fun _ _ h => h)) (fun _ _ h => h))) rfl rfl rfl g.bqp g.gqf bq7.nd rfl rfl (fun _ => (aqg (aqo (i := 1) bq7.nd rfl (Or.inl rfl) (aqq (aqa aqk (aqa (lqF (K := K) rfl (pv 2) rfl) aqb)))))))
   (aqg (aqy (pv 1))))), ?_⟩
  walk_at "rd"
  refine ⟨_, rfl, .inr ⟨t, rfl, by omega, h128, fun x e u H1 s1 hu p H2 n2 s2 hp => k _ H2 (s1.trans s2) (by rw [e]; exact .tup hp (.cons (.str _) (.cons (hu.mono s2.toT) .nil))), fun n e d H1 s1 hx => ⟨_, rfl, g.cqo, fun a ha => ?_⟩⟩⟩
  refine ⟨a, _, d, _, _, rfl, aqr, (by rw [aqm (aqn hx ha)]; exact hx), g.dqY, (by rw [List.lookup_cons, beq_self_eq_true]), ?_⟩
  exact ⟨by decide, fun p H3 hn s3 hp => k _ H3 ((s1.trans (cqJ ha)).trans s3) (by rw [e]; exact .tup hp (.cons (.str _) (.cons (.int _) .nil)))⟩
theorem pqr (g : G K mg) : FnOk P w K mg base CX0 9 g.lqP g.hqP ["_law_script"] (iq4 K) := by
 refine g.pqT.ok hqd (fun vs H Q E h => ?_) (fun cdv A outer s H vs Q E hr h => ?_)
 ·obtain ⟨a, ns, rfl, _⟩ := h; rfl
 ·obtain ⟨a, ns, rfl, hS, hn, k⟩ := h
  refine ⟨_, (aqc (iq5 PassesOwn.never rfl (lq7 (K := K) rfl (aqu (aqR (K := K)) (hqt (lqz (K := K) rfl) (pv 0) kqy (hqM aqj)) (dqi (aqa aqj (aqa aqj (aqa aqj aqb)))))) (bqb (i := 1) hqd.nd rfl (Or.inl rfl))
   (aqc (aqo (i := 2) hqd.nd rfl (Or.inl rfl) (aqu cqW (aqu dqz (pv 1) aqj) (aqu pqD aqj aqj)))
   (cqz (iq6 (dqA (aq8 (K := K) rfl) (dqi (aqa (aqt (gqJ g) (hr.mono (by decide)) rfl g.eqQ g.dqF.kp g.eqX .nil pass0 (aqa (pv 2) aqb)) (aqa (aqt (hqJ g) (hr.mono (by decide)) rfl g.fqB g.eqe.kp g.fqL .nil pass0 (aqa (pv 2) aqb)) (aqa (aqt (hq2 g) (hr.mono (by decide)) rfl g.gqj g.eqN.kp g.fq8 .nil pass0 (aqa (pv 2) aqb)) aqb)))) (aqu cqW (pv 1) aqj) (fun _ _ => rfl)) (hqL (n := 2) (K := K) rfl rfl (bqg (bqb (i := 3) hqd.nd rfl (Or.inl rfl)) (bqg (bqb (i := 4) hqd.nd rfl (Or.inl rfl)) hqK))))
   (aqc (aqo (i := 5) hqd.nd rfl (Or.inl rfl) (aqt (hqj g) (hr.mono (by decide)) rfl g.fqr g.dqX.kp g.fqA .nil pass0 (aqa (pv 3) aqb)))
   (aqg (cqf (PW.pt (fq7 (aqA (pqq hr.units) (pv 5) (pv 4) (nomark _)) (fqz (PW.pt (hqb (aqA gqZ (dqA (aq8 (K := K) rfl) (pv 5) aqj (fun _ _ => rfl)) aqk (nomark _)) (gqr (dqn (bqT (aqt (hqr g) (hr.mono (by decide)) rfl g.fqx g.dq7.kp g.fqK .nil pass0 (aqa (dqA (aq8 (K := K) rfl) (pv 5) aqj (fun _ _ => rfl)) aqb))))))))))
    (aqg (aqy fqn)) aqH))))))
   (aqg (aqy fqn))), ?_⟩
  walk_at "rd"
  refine ⟨_, hS, fun p1 H1 n1 s1 e1 => ⟨by decide, fun p2 H2 n2 s2 e2 => ?_⟩⟩
  rw [lqH] at e1
  have c1 := lqI ns none (some 30)
  refine .inl ⟨_, _, s2 _ _ e1, e2, aqp (by rw [List.length_map]; simp only [List.length_cons, List.length_nil]; omega), fun p3 H3 n3 s3 e3 => ⟨p3, rfl, ⟨_, .of e3⟩, ?_⟩⟩
  rw [show ([V.int 0, V.int 1, V.int 2] : List V) = [0, 1, 2].map V.int from rfl, ← List.map_append] at e3
  generalize cutA ns none (some 30) ++ [0, 1, 2] = zs at e3
  refine jq1 (xs := zs.map V.int) (fun i σ H' => Same H3 H' ∧ ∃ v1 v2 v3 v4 v5 : Option V, σ = [some (.ref a), v1, v2, v3, v4, v5]) ⟨Same.refl _, _, _, _, _, _, rfl⟩ (fun i σ H' _ h => .of (h.1 _ _ e3)) ?_ ?_
  rotate_left
  ·rintro σ H4 ⟨s4, v1, v2, v3, v4, v5, rfl⟩
   walk_at "rd"
   exact k H4
  rintro i y σ H4 hy ⟨s4, v1, v2, v3, v4, v5, rfl⟩
  obtain ⟨c, _, rfl⟩ := List.mem_map.mp (List.mem_of_getElem? hy)
  walk_at "rd"
  obtain ⟨n, hn⟩ : ∃ n : Int, n = c / 3 % 10 ^ Int.toNat 12 := ⟨_, rfl⟩
  rw [← hn]
  have n0 : 0 ≤ n := by rw [hn]; exact Int.emod_nonneg _ (by decide +kernel)
  refine ⟨⟨by decide, by decide⟩, ⟨by decide, by decide, by decide⟩, by decide +kernel, fun σ H5 => Same H4 H5 ∧ ∃ (t : List Nat) (d : V), σ = [some (.ref a), some (.int c), some (.int n), some (tV t), some d, v5] ∧ t.length ≤ 300 ∧ (∀ z ∈ t, z < 128) ∧ IsT H5 (dueD (readM t)) d, ?_, ?_⟩
  ·refine ⟨n, rfl, fun t1 d1 q1 G1 l1 a1 u1 h1 i1 => ⟨n, rfl, fun t2 d2 q2 G2 l2 a2 u2 h2 i2 => ⟨n, rfl, n0, fun t3 d3 q3 G3 l3 a3 u3 h3 i3 => ⟨by decide, fun q4 G4 n4 u4 h4 => ⟨by decide, ?_⟩⟩⟩⟩⟩
   obtain ⟨j, hj, ej⟩ : ∃ j : Nat, j < 3 ∧ c % 3 = (j : Int) := ⟨(c % 3).toNat, by omega, by omega⟩
   rw [ej]
   have w := (u1.trans u2).trans (u3.trans u4)
   have got : ∀ (t : List Nat) (d : V) (q : Addr), [V.ref q1, V.ref q2, V.ref q3][j]? = some (.ref q) → t.length ≤ 300 → (∀ z ∈ t, z < 128) → G4 q = some (.tup [tV t, d]) → IsT G4 (dueD (readM t)) d → ∃ xs v, (SqL K G4 q4 xs ∨ SqT K G4 q4 xs) ∧ atI xs (j : Int) = some v ∧ ∃ a_8 ys, v = V.ref a_8 ∧ SqT K G4 a_8 ys ∧ ys.length = 2 ∧ ∃ v_1 r, ys = v_1 :: r ∧ ∃ v_2 r_1, r = v_2 :: r_1 ∧ r_1 = [] ∧ (fun σ H5 => Same H4 H5 ∧ ∃ (t : List Nat) (d : V), σ = [some (.ref a), some (.int c), some (.int n), some (tV t), some d, v5] ∧ t.length ≤ 300 ∧ (∀ z ∈ t, z < 128) ∧ IsT H5 (dueD (readM t)) d) [some (.ref a), some (.int c), some (.int n), some v_1, some v_2, v5] G4 := fun t d q hq hl h128 hg hi => ⟨_, _, .inl (.of h4), bqm hq, q, _, rfl, .of hg, rfl, _, _, rfl, _, _, rfl, rfl, w, t, d, rfl, hl, h128, hi⟩
   match j, hj with
   | 0, _ => exact got t1 d1 q1 rfl l1 a1 ((u2.trans (u3.trans u4)) _ _ h1) (i1.mono (u2.trans (u3.trans u4)).toT)
   | 1, _ => exact got t2 d2 q2 rfl l2 a2 ((u3.trans u4) _ _ h2) (i2.mono (u3.trans u4).toT)
   | 2, _ => exact got t3 d3 q3 rfl l3 a3 (u4 _ _ h3) (i3.mono u4.toT)
  rintro σ H5 ⟨s5, t, d, rfl, tl, t128, hd⟩
  walk_at "rd"
  refine ⟨t, rfl, by omega, t128, fun u H6 s6 hu => ?_⟩
  refine ⟨dueD (readM t), dueD (readM t), hu.is, (hd.mono s6.toT).is, kqf, kqf, _, rfl, ?_⟩
  rw [oqj]
  refine ite2 (fun z => by cases z) (fun _ => ?_)
  have w6 : Same H3 H6 := s4.trans (s5.trans s6)
  cases hr : readM t with
  | ok x =>
   rw [hr] at hu
   cases hu with
   | tup hp hxs =>
    cases hxs with
    | cons h1 hxs =>
     cases h1
     walk_at "rd"
     refine ⟨_, _, .inr (.of hp), bqm (j := 0) rfl, fqi.mpr ⟨_, rfl, ?_⟩⟩
     rw [decide_eq_false (show ¬ (Str.ofString "read" = Str.ofString "at") by decide +kernel)]
     exact ite2 (fun z => by cases z) (fun _ => ⟨w6, _, _, _, _, _, rfl, rfl, rfl, rfl, rfl⟩)
  | error m =>
   rw [hr] at hu
   cases hu with
   | tup hp hxs =>
    cases hxs with
    | cons h1 hxs =>
     cases h1
     cases hxs with
     | cons h2 hxs =>
      cases h2
      cases hxs
      walk_at "rd"
      refine ⟨_, _, .inr (.of hp), bqm (j := 0) rfl, fqi.mpr ⟨_, rfl, ?_⟩⟩
      rw [decide_eq_true rfl]
      exact ite2 (fun _ => ⟨_, _, .inr (.of hp), bqm (j := 1) rfl, _, rfl, _, rfl, ite2 (fun z => by cases z) (fun _ => ⟨w6, _, _, _, _, _, rfl, rfl, rfl, rfl, rfl⟩)⟩) (fun z => absurd rfl z)
end
theorem aqd {a b : Bool} (h : (a && b) = true) : a = true := by cases a; cases h; rfl
theorem aqf {a b : Bool} (h : (a && b) = true) : b = true := by cases a; cases h; exact h
theorem usl1 {us : List Value} (h : us.length = 1) : ∃ x0, us = [x0] := List.length_eq_one_iff.mp h
local macro_rules | `(tactic| walk_at "b1") => `(tactic| exact fun _ _ _ _ _ _ us hl => by obtain ⟨x0, e⟩ := usl1 hl; subst e; rfl)
theorem usl2 {us : List Value} (h : us.length = 2) : ∃ x0 x1, us = [x0, x1] := by
 cases us with
 | nil => cases h
 | cons x0 l =>
  obtain ⟨x1, rfl⟩ := usl1 (Nat.succ.inj h)
  exact ⟨_, _, rfl⟩
local macro_rules | `(tactic| walk_at "b2") => `(tactic| exact fun _ _ _ _ _ _ us hl => by obtain ⟨x0, x1, e⟩ := usl2 hl; subst e; rfl)
theorem usl3 {us : List Value} (h : us.length = 3) : ∃ x0 x1 x2, us = [x0, x1, x2] := by
 cases us with
 | nil => cases h
 | cons x0 l =>
  obtain ⟨x1, x2, rfl⟩ := usl2 (Nat.succ.inj h)
  exact ⟨_, _, _, rfl⟩
local macro_rules | `(tactic| walk_at "b3") => `(tactic| exact fun _ _ _ _ _ _ us hl => by obtain ⟨x0, x1, x2, e⟩ := usl3 hl; subst e; rfl)
theorem pqX {l : PySem.W.OpenLaw} {w : World} {K : W.Frag} {h : Heap} {mg : Str → Option Value} {fa : Addr} (X : K.In h) (Gl : h.Ns mainGlobals mg) (hfa : mg "law" = some (.ref fa))
  {kC_Cursor : Addr} (aC_Cursor : W.nsIn K mainGlobals "Cursor" = some (some (.ref kC_Cursor)))
  {eC_NoAddress : Addr} (en_NoAddress : W.nsIn K mainGlobals "NoAddress" = some (some (.ref eC_NoAddress)))
  (a1 : W.nsIn K mainGlobals "made_of" = some (some (.ref f1))) (l1 : K.lookup f1 = some ⟨oc1, od1, .func (W.fnOf "made_of" "made_of" (defArgs dql) (defBody dql) (defScope dql) .none kV1 dc1 pm1 an1 cd1 ct1), sl1⟩)
  (a2 : W.nsIn K mainGlobals "figure_number" = some (some (.ref f2))) (l2 : K.lookup f2 = some ⟨oc2, od2, .func (W.fnOf "figure_number" "figure_number" (defArgs aq0) (defBody aq0) (defScope aq0) .none kV2 dc2 pm2 an2 cd2 ct2), sl2⟩)
  (a3 : W.nsIn K mainGlobals "sign_numbered" = some (some (.ref f3))) (l3 : K.lookup f3 = some ⟨oc3, od3, .func (W.fnOf "sign_numbered" "sign_numbered" (defArgs aq1) (defBody aq1) (defScope aq1) .none kV3 dc3 pm3 an3 cd3 ct3), sl3⟩)
  (a4 : W.findIn K (.ref eC_NoAddress) "__init__" = some (some (.ref f4))) (i4 : W.isFn K (.ref f4) = true) (l4 : K.lookup f4 = some ⟨oc4, od4, .func (W.fnOf "__init__" "NoAddress.__init__" (defArgs aqE) (defBody aqE) (defScope aqE) .none kV4 dc4 pm4 an4 cd4 ct4), sl4⟩)
  (a5 : W.findIn K (.ref kC_Cursor) "__init__" = some (some (.ref f5))) (i5 : W.isFn K (.ref f5) = true) (l5 : K.lookup f5 = some ⟨oc5, od5, .func (W.fnOf "__init__" "Cursor.__init__" (defArgs aqQ) (defBody aqQ) (defScope aqQ) .none kV5 dc5 pm5 an5 cd5 ct5), sl5⟩)
  (a6 : W.findIn K (.ref kC_Cursor) "at_end" = some (some (.ref f6))) (i6 : W.isFn K (.ref f6) = true) (l6 : K.lookup f6 = some ⟨oc6, od6, .func (W.fnOf "at_end" "Cursor.at_end" (defArgs aq4) (defBody aq4) (defScope aq4) .none kV6 dc6 pm6 an6 cd6 ct6), sl6⟩)
  (a7 : W.findIn K (.ref kC_Cursor) "take" = some (some (.ref f7))) (i7 : W.isFn K (.ref f7) = true) (l7 : K.lookup f7 = some ⟨oc7, od7, .func (W.fnOf "take" "Cursor.take" (defArgs bqA) (defBody bqA) (defScope bqA) .none kV7 dc7 pm7 an7 cd7 ct7), sl7⟩)
  (a8 : W.findIn K (.ref kC_Cursor) "passes" = some (some (.ref f8))) (i8 : W.isFn K (.ref f8) = true) (l8 : K.lookup f8 = some ⟨oc8, od8, .func (W.fnOf "passes" "Cursor.passes" (defArgs aq2) (defBody aq2) (defScope aq2) .none kV8 dc8 pm8 an8 cd8 ct8), sl8⟩)
  (a9 : W.nsIn K mainGlobals "door_with" = some (some (.ref f9))) (l9 : K.lookup f9 = some ⟨oc9, od9, .func (W.fnOf "door_with" "door_with" (defArgs cqb) (defBody cqb) (defScope cqb) .none kV9 dc9 pm9 an9 cd9 ct9), sl9⟩)
  (a10 : W.nsIn K mainGlobals "_law_whole" = some (some (.ref f10))) (l10 : K.lookup f10 = some ⟨oc10, od10, .func (W.fnOf "_law_whole" "_law_whole" (defArgs bqR) (defBody bqR) (defScope bqR) .none kV10 dc10 pm10 an10 cd10 ct10), sl10⟩)
  (a11 : W.nsIn K mainGlobals "_law_tail" = some (some (.ref f11))) (l11 : K.lookup f11 = some ⟨oc11, od11, .func (W.fnOf "_law_tail" "_law_tail" (defArgs cqc) (defBody cqc) (defScope cqc) .none kV11 dc11 pm11 an11 cd11 ct11), sl11⟩)
  (a12 : W.nsIn K mainGlobals "is_text" = some (some (.ref f12))) (l12 : K.lookup f12 = some ⟨oc12, od12, .func (W.fnOf "is_text" "is_text" (defArgs dqo) (defBody dqo) (defScope dqo) .none kV12 dc12 pm12 an12 cd12 ct12), sl12⟩)
  (a13 : W.nsIn K mainGlobals "sign_of" = some (some (.ref f13))) (l13 : K.lookup f13 = some ⟨oc13, od13, .func (W.fnOf "sign_of" "sign_of" (defArgs dqq) (defBody dqq) (defScope dqq) .none kV13 dc13 pm13 an13 cd13 ct13), sl13⟩)
  (a14 : W.findIn K (.ref kC_Cursor) "sees" = some (some (.ref f14))) (i14 : W.isFn K (.ref f14) = true) (l14 : K.lookup f14 = some ⟨oc14, od14, .func (W.fnOf "sees" "Cursor.sees" (defArgs bqx) (defBody bqx) (defScope bqx) .none kV14 dc14 pm14 an14 cd14 ct14), sl14⟩)
  (a15 : W.nsIn K mainGlobals "_law_scheme" = some (some (.ref f15))) (l15 : K.lookup f15 = some ⟨oc15, od15, .func (W.fnOf "_law_scheme" "_law_scheme" (defArgs bqw) (defBody bqw) (defScope bqw) .none kV15 dc15 pm15 an15 cd15 ct15), sl15⟩)
  (a16 : W.nsIn K mainGlobals "_law_house" = some (some (.ref f16))) (l16 : K.lookup f16 = some ⟨oc16, od16, .func (W.fnOf "_law_house" "_law_house" (defArgs bqS) (defBody bqS) (defScope bqS) .none kV16 dc16 pm16 an16 cd16 ct16), sl16⟩)
  (a17 : W.nsIn K mainGlobals "_law_door" = some (some (.ref f17))) (l17 : K.lookup f17 = some ⟨oc17, od17, .func (W.fnOf "_law_door" "_law_door" (defArgs cqg) (defBody cqg) (defScope cqg) .none kV17 dc17 pm17 an17 cd17 ct17), sl17⟩)
  (a18 : W.nsIn K mainGlobals "is_scheme" = some (some (.ref f18))) (l18 : K.lookup f18 = some ⟨oc18, od18, .func (W.fnOf "is_scheme" "is_scheme" (defArgs cqa) (defBody cqa) (defScope cqa) .none kV18 dc18 pm18 an18 cd18 ct18), sl18⟩)
  (a19 : W.nsIn K mainGlobals "taken_door" = some (some (.ref f19))) (l19 : K.lookup f19 = some ⟨oc19, od19, .func (W.fnOf "taken_door" "taken_door" (defArgs bqV) (defBody bqV) (defScope bqV) .none kV19 dc19 pm19 an19 cd19 ct19), sl19⟩)
  (a20 : W.nsIn K mainGlobals "taken_pair" = some (some (.ref f20))) (l20 : K.lookup f20 = some ⟨oc20, od20, .func (W.fnOf "taken_pair" "taken_pair" (defArgs bqU) (defBody bqU) (defScope bqU) .none kV20 dc20 pm20 an20 cd20 ct20), sl20⟩)
  (a21 : W.nsIn K mainGlobals "taken_scheme" = some (some (.ref f21))) (l21 : K.lookup f21 = some ⟨oc21, od21, .func (W.fnOf "taken_scheme" "taken_scheme" (defArgs bqd) (defBody bqd) (defScope bqd) .none kV21 dc21 pm21 an21 cd21 ct21), sl21⟩)
  {dt22_0 : Tok}
  (a22 : W.nsIn K mainGlobals "taken_text" = some (some (.ref f22))) (l22 : K.lookup f22 = some ⟨oc22, od22, .func (W.fnOf "taken_text" "taken_text" (defArgs bqP) (defBody bqP) (defScope bqP) (.ref T22) kV22 dc22 pm22 an22 cd22 ct22), sl22⟩)
  (d22 : K.lookup T22 = some ⟨ocT22, odT22, .seq #[.none] nT22, slT22⟩)
  (a23 : W.nsIn K mainGlobals "taken_way" = some (some (.ref f23))) (l23 : K.lookup f23 = some ⟨oc23, od23, .func (W.fnOf "taken_way" "taken_way" (defArgs cqe) (defBody cqe) (defScope cqe) .none kV23 dc23 pm23 an23 cd23 ct23), sl23⟩)
  (a24 : W.nsIn K mainGlobals "taken_value" = some (some (.ref f24))) (l24 : K.lookup f24 = some ⟨oc24, od24, .func (W.fnOf "taken_value" "taken_value" (defArgs bqy) (defBody bqy) (defScope bqy) .none kV24 dc24 pm24 an24 cd24 ct24), sl24⟩)
  (a25 : W.nsIn K mainGlobals "taken_mark" = some (some (.ref f25))) (l25 : K.lookup f25 = some ⟨oc25, od25, .func (W.fnOf "taken_mark" "taken_mark" (defArgs bqQ) (defBody bqQ) (defScope bqQ) .none kV25 dc25 pm25 an25 cd25 ct25), sl25⟩)
  {dt26_0 : Tok}
  (a26 : W.nsIn K mainGlobals "taken_filled_text" = some (some (.ref f26))) (l26 : K.lookup f26 = some ⟨oc26, od26, .func (W.fnOf "taken_filled_text" "taken_filled_text" (defArgs aqG) (defBody aqG) (defScope aqG) (.ref T26) kV26 dc26 pm26 an26 cd26 ct26), sl26⟩)
  (d26 : K.lookup T26 = some ⟨ocT26, odT26, .seq #[.none] nT26, slT26⟩)
  (a27 : W.nsIn K mainGlobals "taken_house" = some (some (.ref f27))) (l27 : K.lookup f27 = some ⟨oc27, od27, .func (W.fnOf "taken_house" "taken_house" (defArgs bqu) (defBody bqu) (defScope bqu) .none kV27 dc27 pm27 an27 cd27 ct27), sl27⟩)
  (a28 : W.nsIn K mainGlobals "taken_question" = some (some (.ref f28))) (l28 : K.lookup f28 = some ⟨oc28, od28, .func (W.fnOf "taken_question" "taken_question" (defArgs aqW) (defBody aqW) (defScope aqW) .none kV28 dc28 pm28 an28 cd28 ct28), sl28⟩)
  (a29 : W.nsIn K mainGlobals "read" = some (some (.ref f29))) (l29 : K.lookup f29 = some ⟨oc29, od29, .func (W.fnOf "read" "read" (defArgs gq9) (defBody gq9) (defScope gq9) .none kV29 dc29 pm29 an29 cd29 ct29), sl29⟩)
  (a30 : W.nsIn K mainGlobals "_law_asked" = some (some (.ref f30))) (l30 : K.lookup f30 = some ⟨oc30, od30, .func (W.fnOf "_law_asked" "_law_asked" (defArgs bqO) (defBody bqO) (defScope bqO) .none kV30 dc30 pm30 an30 cd30 ct30), sl30⟩)
  (a31 : W.nsIn K mainGlobals "law" = some (some (.ref f31))) (l31 : K.lookup f31 = some ⟨oc31, od31, .func (W.fnOf "law" "law" (defArgs jqQ) (defBody jqQ) (defScope jqQ) .none kV31 dc31 pm31 an31 cd31 ct31), sl31⟩)
  {gqx : Tok} (e_SIGNS : W.nsIn K mainGlobals "SIGNS" = some (some (.str (Str.ofString " !\"#$&'()*+,-./0123456789:;<=>?@ABCDEFGHIJKLMNOPQRSTUVWXYZ[\\]^_`abcdefghijklmnopqrstuvwxyz{|}~") gqx)))
  {eqs : Tok} (e_LETTERS : W.nsIn K mainGlobals "LETTERS" = some (some (.str (Str.ofString "abcdefghijklmnopqrstuvwxyzABCDEFGHIJKLMNOPQRSTUVWXYZ") eqs)))
  {aqK : Tok} (e_LETTERS_AND_FIGURES : W.nsIn K mainGlobals "LETTERS_AND_FIGURES" = some (some (.str (Str.ofString "abcdefghijklmnopqrstuvwxyzABCDEFGHIJKLMNOPQRSTUVWXYZ0123456789") aqK)))
  {eqo : Tok} (e_FIGURES : W.nsIn K mainGlobals "FIGURES" = some (some (.str (Str.ofString "0123456789") eqo)))
  {gqk : Tok} (e_PLAIN : W.nsIn K mainGlobals "PLAIN" = some (some (.str (Str.ofString "abcdefghijklmnopqrstuvwxyzABCDEFGHIJKLMNOPQRSTUVWXYZ0123456789-_.") gqk)))
  {bqr : Tok} (e_FREE_IN_STEPS : W.nsIn K mainGlobals "FREE_IN_STEPS" = some (some (.str (Str.ofString "!$'()*,;@&=+") bqr)))
  {aqS : Tok} (e_FREE_IN_QUESTIONS : W.nsIn K mainGlobals "FREE_IN_QUESTIONS" = some (some (.str (Str.ofString "!$'()*,;@+/?:") aqS)))
  {bqo : Tok} (e_FREE_IN_MARKS : W.nsIn K mainGlobals "FREE_IN_MARKS" = some (some (.str (Str.ofString "!$'()*,;@&=+/?:") bqo)))
  {bqG : Tok} (e_FIRST_NUMBER : W.nsIn K mainGlobals "FIRST_NUMBER" = some (some (.int 32 bqG)))
  {bqW : Tok} (e_LAST_NUMBER : W.nsIn K mainGlobals "LAST_NUMBER" = some (some (.int 126 bqW)))
  {aq3 : Tok} (e_NUMBER_LEFT_OUT : W.nsIn K mainGlobals "NUMBER_LEFT_OUT" = some (some (.int 37 aq3)))
  {bql : Tok} (e_SMALL_FIGURES : W.nsIn K mainGlobals "SMALL_FIGURES" = some (some (.str (Str.ofString "0123456789abcdef") bql)))
  {bqs : Tok} (e_GREAT_FIGURES : W.nsIn K mainGlobals "GREAT_FIGURES" = some (some (.str (Str.ofString "0123456789ABCDEF") bqs)))
  {bqc : Tok} (e_LONGEST_SCHEME : W.nsIn K mainGlobals "LONGEST_SCHEME" = some (some (.int 8 bqc)))
  {bqn : Tok} (e_LONGEST_HOUSE : W.nsIn K mainGlobals "LONGEST_HOUSE" = some (some (.int 60 bqn)))
  {cqX : Tok} (e_LAST_DOOR : W.nsIn K mainGlobals "LAST_DOOR" = some (some (.int 65535 cqX)))
  {bqj : Tok} (e_FIRST_FIGURES : W.nsIn K mainGlobals "FIRST_FIGURES" = some (some (.str (Str.ofString "234567") bqj)))
  (z_all : W.nsIn K mainGlobals "all" = some none)
  (z_len : W.nsIn K mainGlobals "len" = some none)
  (z_int : W.nsIn K mainGlobals "int" = some none)
  (z_isinstance : W.nsIn K mainGlobals "isinstance" = some none)
  (z_bool : W.nsIn K mainGlobals "bool" = some none)
  (z_str : W.nsIn K mainGlobals "str" = some none)
  (z_range : W.nsIn K mainGlobals "range" = some none)
  (z_tuple : W.nsIn K mainGlobals "tuple" = some none)
  (ew1_NoAddress : W.typeIn K (.ref eC_NoAddress) = some (.type "type"))
  (ew2_NoAddress : W.subIn K (.ref eC_NoAddress) (.type "BaseException") = some true)
  (ew3_NoAddress : (W.clsIn K eC_NoAddress).isSome = true)
  (el0_NoAddress : W.findIn K (.ref eC_NoAddress) "__getattribute__" = some (some (.builtin "BaseException.__getattribute__")))
  (el1_NoAddress : W.findIn K (.ref eC_NoAddress) "__class__" = some (some (.builtin "object.__class__")))
  (el2_NoAddress : W.findIn K (.ref eC_NoAddress) "__getattr__" = some none)
  (el3_NoAddress : W.mroIn K eC_NoAddress (.type "object") = some true)
  (el4_NoAddress : W.mroIn K eC_NoAddress (.type "BaseException") = some true)
  (el5_NoAddress : (W.clsIn K eC_NoAddress).isSome = true)
  (ey_NoAddress : excInI K eC_NoAddress vErr vNew f4 = true)
  (ek_NoAddress : W.keepIn K (.ref eC_NoAddress) = true)
  (es_NoAddress : W.findIn K (.ref eC_NoAddress) "__setattr__" = some (some (.builtin "object.__setattr__")))
  (eo_NoAddress : overErr K eC_NoAddress = true)
  (eh_NoAddress : W.hasDictIn K eC_NoAddress = true)
  (ef_NoAddress_at : W.findIn K (.ref eC_NoAddress) "at" = some none)
  (eu_NoAddress_NoAddress : W.subIn K (.ref eC_NoAddress) (.ref eC_NoAddress) = some true)
  (pg_Cursor : W.plainGet K kC_Cursor Str.empty = true)
  (hd_Cursor : W.hasDictIn K kC_Cursor = true)
  (po_Cursor : W.plainOver K kC_Cursor = true)
  (sa_Cursor : W.findIn K (.ref kC_Cursor) "__setattr__" = some (some (.builtin "object.__setattr__")))
  (mk_Cursor : W.makesIn K kC_Cursor = true)
  (kc_Cursor : W.keepIn K (.ref kC_Cursor) = true)
  (nf_Cursor_text : W.findIn K (.ref kC_Cursor) "text" = some none)
  (nf_Cursor_place : W.findIn K (.ref kC_Cursor) "place" = some none)
  (kk : (((((W.keepIn K (.ref f1) && W.keepIn K (.ref f2)) && (W.keepIn K (.ref f3) && W.keepIn K (.ref f4))) && ((W.keepIn K (.ref f5) && W.keepIn K (.ref f6)) && (W.keepIn K (.ref f7) && W.keepIn K (.ref f8)))) && (((W.keepIn K (.ref f9) && W.keepIn K (.ref f10)) && (W.keepIn K (.ref f11) && W.keepIn K (.ref f12))) && ((W.keepIn K (.ref f13) && W.keepIn K (.ref f14)) && (W.keepIn K (.ref f15) && W.keepIn K (.ref f16))))) && ((((W.keepIn K (.ref f17) && W.keepIn K (.ref f18)) && (W.keepIn K (.ref f19) && W.keepIn K (.ref f20))) && ((W.keepIn K (.ref f21) && W.keepIn K (.ref f22)) && (W.keepIn K (.ref f23) && W.keepIn K (.ref f24)))) && (((W.keepIn K (.ref f25) && W.keepIn K (.ref f26)) && (W.keepIn K (.ref f27) && W.keepIn K (.ref f28))) && ((W.keepIn K (.ref f29) && W.keepIn K (.ref f30)) && W.keepIn K (.ref f31))))) = true)
  (cc : (((((W.codeIn K cd1 "made_of" && W.codeIn K cd2 "figure_number") && (W.codeIn K cd3 "sign_numbered" && W.codeIn K cd4 "NoAddress.__init__")) && ((W.codeIn K cd5 "Cursor.__init__" && W.codeIn K cd6 "Cursor.at_end") && (W.codeIn K cd7 "Cursor.take" && W.codeIn K cd8 "Cursor.passes"))) && (((W.codeIn K cd9 "door_with" && W.codeIn K cd10 "_law_whole") && (W.codeIn K cd11 "_law_tail" && W.codeIn K cd12 "is_text")) && ((W.codeIn K cd13 "sign_of" && W.codeIn K cd14 "Cursor.sees") && (W.codeIn K cd15 "_law_scheme" && W.codeIn K cd16 "_law_house")))) && ((((W.codeIn K cd17 "_law_door" && W.codeIn K cd18 "is_scheme") && (W.codeIn K cd19 "taken_door" && W.codeIn K cd20 "taken_pair")) && ((W.codeIn K cd21 "taken_scheme" && W.codeIn K cd22 "taken_text") && (W.codeIn K cd23 "taken_way" && W.codeIn K cd24 "taken_value"))) && (((W.codeIn K cd25 "taken_mark" && W.codeIn K cd26 "taken_filled_text") && (W.codeIn K cd27 "taken_house" && W.codeIn K cd28 "taken_question")) && ((W.codeIn K cd29 "read" && W.codeIn K cd30 "_law_asked") && W.codeIn K cd31 "law")))) = true) :
  ∃ fd : FuncData, (∀ (s : Shared) (v : Value), BindsTo s fd ⟨[v], []⟩ [("_law_script", v)]) ∧ ∀ base : Heap, K.In base → base.Ns mainGlobals mg → FnOk l.prog w K mg base CX0 9 fa fd ["_law_script"] (iq4 K) := by
 have e := hfa.symm.trans (W.mg_of X Gl a31)
 have e2 : f31 = fa := by cases e; rfl
 subst e2
 have M : ∀ {x : Str} {v : Value}, W.nsIn K mainGlobals x = some (some v) → mg x = some v := fun a => W.mg_of X Gl a
 have F1 := aqX (st := dql) l1 (aqd (aqd (aqd (aqd (aqd cc))))) (aqd (aqd (aqd (aqd (aqd kk)))))
 have F2 := aqX (st := aq0) l2 (aqf (aqd (aqd (aqd (aqd cc))))) (aqf (aqd (aqd (aqd (aqd kk)))))
 have F3 := aqX (st := aq1) l3 (aqd (aqf (aqd (aqd (aqd cc))))) (aqd (aqf (aqd (aqd (aqd kk)))))
 have F4 := aqX (st := aqE) l4 (aqf (aqf (aqd (aqd (aqd cc))))) (aqf (aqf (aqd (aqd (aqd kk)))))
 have F5 := aqX (st := aqQ) l5 (aqd (aqd (aqf (aqd (aqd cc))))) (aqd (aqd (aqf (aqd (aqd kk)))))
 have F6 := aqX (st := aq4) l6 (aqf (aqd (aqf (aqd (aqd cc))))) (aqf (aqd (aqf (aqd (aqd kk)))))
 have F7 := aqX (st := bqA) l7 (aqd (aqf (aqf (aqd (aqd cc))))) (aqd (aqf (aqf (aqd (aqd kk)))))
 have F8 := aqX (st := aq2) l8 (aqf (aqf (aqf (aqd (aqd cc))))) (aqf (aqf (aqf (aqd (aqd kk)))))
 have F9 := aqX (st := cqb) l9 (aqd (aqd (aqd (aqf (aqd cc))))) (aqd (aqd (aqd (aqf (aqd kk)))))
 have F10 := aqX (st := bqR) l10 (aqf (aqd (aqd (aqf (aqd cc))))) (aqf (aqd (aqd (aqf (aqd kk)))))
 have F11 := aqX (st := cqc) l11 (aqd (aqf (aqd (aqf (aqd cc))))) (aqd (aqf (aqd (aqf (aqd kk)))))
 have F12 := aqX (st := dqo) l12 (aqf (aqf (aqd (aqf (aqd cc))))) (aqf (aqf (aqd (aqf (aqd kk)))))
 have F13 := aqX (st := dqq) l13 (aqd (aqd (aqf (aqf (aqd cc))))) (aqd (aqd (aqf (aqf (aqd kk)))))
 have F14 := aqX (st := bqx) l14 (aqf (aqd (aqf (aqf (aqd cc))))) (aqf (aqd (aqf (aqf (aqd kk)))))
 have F15 := aqX (st := bqw) l15 (aqd (aqf (aqf (aqf (aqd cc))))) (aqd (aqf (aqf (aqf (aqd kk)))))
 have F16 := aqX (st := bqS) l16 (aqf (aqf (aqf (aqf (aqd cc))))) (aqf (aqf (aqf (aqf (aqd kk)))))
 have F17 := aqX (st := cqg) l17 (aqd (aqd (aqd (aqd (aqf cc))))) (aqd (aqd (aqd (aqd (aqf kk)))))
 have F18 := aqX (st := cqa) l18 (aqf (aqd (aqd (aqd (aqf cc))))) (aqf (aqd (aqd (aqd (aqf kk)))))
 have F19 := aqX (st := bqV) l19 (aqd (aqf (aqd (aqd (aqf cc))))) (aqd (aqf (aqd (aqd (aqf kk)))))
 have F20 := aqX (st := bqU) l20 (aqf (aqf (aqd (aqd (aqf cc))))) (aqf (aqf (aqd (aqd (aqf kk)))))
 have F21 := aqX (st := bqd) l21 (aqd (aqd (aqf (aqd (aqf cc))))) (aqd (aqd (aqf (aqd (aqf kk)))))
 have F22 := kqa (st := bqP) l22 (aqf (aqd (aqf (aqd (aqf cc))))) (aqf (aqd (aqf (aqd (aqf kk)))))
 have F23 := aqX (st := cqe) l23 (aqd (aqf (aqf (aqd (aqf cc))))) (aqd (aqf (aqf (aqd (aqf kk)))))
 have F24 := aqX (st := bqy) l24 (aqf (aqf (aqf (aqd (aqf cc))))) (aqf (aqf (aqf (aqd (aqf kk)))))
 have F25 := aqX (st := bqQ) l25 (aqd (aqd (aqd (aqf (aqf cc))))) (aqd (aqd (aqd (aqf (aqf kk)))))
 have F26 := kqa (st := aqG) l26 (aqf (aqd (aqd (aqf (aqf cc))))) (aqf (aqd (aqd (aqf (aqf kk)))))
 have F27 := aqX (st := bqu) l27 (aqd (aqf (aqd (aqf (aqf cc))))) (aqd (aqf (aqd (aqf (aqf kk)))))
 have F28 := aqX (st := aqW) l28 (aqf (aqf (aqd (aqf (aqf cc))))) (aqf (aqf (aqd (aqf (aqf kk)))))
 have F29 := aqX (st := gq9) l29 (aqd (aqd (aqf (aqf (aqf cc))))) (aqd (aqd (aqf (aqf (aqf kk)))))
 have F30 := aqX (st := bqO) l30 (aqf (aqd (aqf (aqf (aqf cc))))) (aqf (aqd (aqf (aqf (aqf kk)))))
 have F31 := aqX (st := jqQ) l31 (aqf (aqf (aqf (aqf cc)))) (aqf (aqf (aqf (aqf kk))))
 let g : G K mg := {
  eq6 := f1, eqz := _, eqm := F1, eqP := M a1,
  eq3 := F1.binds (by walk_at "b2"),
  bqX := f2, bqI := _, bq4 := F2, cq0 := M a2,
  cqU := F2.binds (by walk_at "b1"),
  bqZ := f3, bqL := _, cq3 := F3, dq0 := M a3,
  eqi := F3.binds (by walk_at "b1"),
  aqZ := f4, aqY := _, cqC := F4,
  aqz := F4.binds (by walk_at "b2"),
  bqv := f5, bqi := _, dqm := F5,
  dqs := F5.binds (by walk_at "b2"),
  bq8 := f6, bqJ := _, eqr := F6, cqv := ⟨a6, i6, F6.kp⟩,
  cq1 := F6.binds (by walk_at "b1"),
  cqO := f7, cqi := _, eqV := F7, bqe := ⟨a7, i7, F7.kp⟩,
  bqt := F7.binds (by walk_at "b1"),
  bq1 := f8, bqK := _, dq5 := F8, aqs := ⟨a8, i8, F8.kp⟩,
  aqv := F8.binds (by walk_at "b2"),
  dqw := f9, dqf := _, dqB := F9, eqL := M a9,
  eqM := F9.binds (by walk_at "b2"),
  dqb := f10, cqH := _, dq7 := F10, fqx := M a10,
  fqK := F10.binds (by walk_at "b1"),
  dqM := f11, cq7 := _, cqV := F11, dqG := M a11,
  dqy := F11.binds (by walk_at "b1"),
  eqY := f12, eqx := _, fq3 := F12, hqZ := M a12,
  iqa := F12.binds (by walk_at "b1"),
  eq5 := f13, eqy := _, gqH := F13, iqb := M a13,
  iqc := F13.binds (by walk_at "b1"),
  cqE := f14, cqk := _, fqb := F14, bqF := ⟨a14, i14, F14.kp⟩,
  bq5 := F14.binds (by walk_at "b2"),
  cqI := f15, cqh := _, dqF := F15, eqQ := M a15,
  eqX := F15.binds (by walk_at "b1"),
  cq8 := f16, cqF := _, eqe := F16, fqB := M a16,
  fqL := F16.binds (by walk_at "b1"),
  dqK := f17, dqe := _, eqN := F17, gqj := M a17,
  fq8 := F17.binds (by walk_at "b1"),
  dqx := f18, dqa := _, eqJ := F18, gqd := M a18,
  gqz := F18.binds (by walk_at "b1"),
  cq9 := f19, cqM := _, eqa := F19, fqI := M a19,
  fqv := F19.binds (by walk_at "b1"),
  dqg := f20, cqK := _, dqZ := F20, fqG := M a20,
  fqD := F20.binds (by walk_at "b1"),
  cqj := f21, bq9 := _, dqj := F21, eqE := M a21,
  eqG := F21.binds (by walk_at "b1"),
  dqc := f22, bq6 := _, fqE := T22, gqX := dt22_0, aq5 := F22, bqq := M a22,
  fqw := F22.binds (ps := ["cursor", "free", "most"]) (ds := []) d22 fun _ _ _ _ _ _ us hl => match us, hl with | [_, _, _], _ => ⟨_, rfl, rfl⟩,
  bqz := F22.binds (ps := ["cursor", "free", "most"]) (ds := [.none]) d22 fun _ _ _ _ _ _ us hl => by obtain ⟨x, y, rfl⟩ := kqD hl; exact ⟨_, rfl, rfl⟩,
  dqN := f23, dqd := _, eqH := F23, gqy := M a23,
  fq1 := F23.binds (by walk_at "b2"),
  cqG := f24, cqm := _, cqD := F24, dqL := M a24,
  dqJ := F24.binds (by walk_at "b1"),
  dqh := f25, cqN := _, dq2 := F25, fqJ := M a25,
  fqF := F25.binds (by walk_at "b1"),
  aq7 := f26, aqN := _, cqY := T26, eqk := dt26_0, bqa := F26, bqN := M a26,
  cqS := F26.binds (ps := ["cursor", "free", "most"]) (ds := []) d26 fun _ _ _ _ _ _ us hl => match us, hl with | [_, _, _], _ => ⟨_, rfl, rfl⟩,
  cqB := F26.binds (ps := ["cursor", "free", "most"]) (ds := [.none]) d26 fun _ _ _ _ _ _ us hl => by obtain ⟨x, y, rfl⟩ := kqD hl; exact ⟨_, rfl, rfl⟩,
  cqL := f27, cql := _, dqI := F27, fqc := M a27,
  eq8 := F27.binds (by walk_at "b1"),
  bqH := f28, bqB := _, cqw := F28, dqW := M a28,
  dqS := F28.binds (by walk_at "b1"),
  jqa := f29, hqg := _, jqV := F29, mqE := M a29,
  mqB := F29.binds (by walk_at "b1"),
  cq6 := f30, cqQ := _, dqX := F30, fqr := M a30,
  fqA := F30.binds (by walk_at "b1"),
  lqP := f31, hqP := _, pqT := F31, qqx := M a31,
  qql := F31.binds (by walk_at "b1"),
  gqx := gqx, iqS := W.mg_of X Gl e_SIGNS,
  eqs := eqs, iqA := W.mg_of X Gl e_LETTERS,
  aqK := aqK, cqp := W.mg_of X Gl e_LETTERS_AND_FIGURES,
  eqo := eqo, gqh := W.mg_of X Gl e_FIGURES,
  gqk := gqk, kqE := W.mg_of X Gl e_PLAIN,
  bqr := bqr, cqZ := W.mg_of X Gl e_FREE_IN_STEPS,
  aqS := aqS, aq6 := W.mg_of X Gl e_FREE_IN_QUESTIONS,
  bqo := bqo, eqd := W.mg_of X Gl e_FREE_IN_MARKS,
  bqG := bqG, dqk := W.mg_of X Gl e_FIRST_NUMBER,
  bqW := bqW, eq9 := W.mg_of X Gl e_LAST_NUMBER,
  aq3 := aq3, cqd := W.mg_of X Gl e_NUMBER_LEFT_OUT,
  bql := bql, cq4 := W.mg_of X Gl e_SMALL_FIGURES,
  bqs := bqs, cq5 := W.mg_of X Gl e_GREAT_FIGURES,
  bqc := bqc, dqR := W.mg_of X Gl e_LONGEST_SCHEME,
  bqn := bqn, eqw := W.mg_of X Gl e_LONGEST_HOUSE,
  cqX := cqX, fq5 := W.mg_of X Gl e_LAST_DOOR,
  bqj := bqj, eqn := W.mg_of X Gl e_FIRST_FIGURES,
  oqK := W.mg_none_of X Gl z_all,
  gqN := W.mg_none_of X Gl z_len,
  jqG := W.mg_none_of X Gl z_int,
  cqt := W.mg_none_of X Gl z_isinstance,
  mqp := W.mg_none_of X Gl z_bool,
  lq8 := W.mg_none_of X Gl z_str,
  hqI := W.mg_none_of X Gl z_range,
  iqO := W.mg_none_of X Gl z_tuple,
  aql := eC_NoAddress, bqp := W.mg_of X Gl en_NoAddress,
  gqf := ⟨ew1_NoAddress, ew2_NoAddress, ew3_NoAddress⟩,
  iq2 := ⟨el0_NoAddress, el1_NoAddress, el2_NoAddress, el3_NoAddress, el4_NoAddress, el5_NoAddress⟩,
  bqM := ⟨ey_NoAddress, i4, ek_NoAddress⟩,
  eql := ⟨es_NoAddress, eo_NoAddress, ef_NoAddress_at, eh_NoAddress⟩,
  dqY := ⟨⟨el0_NoAddress, el1_NoAddress, el2_NoAddress, el3_NoAddress, el4_NoAddress, el5_NoAddress⟩, ef_NoAddress_at, eh_NoAddress⟩,
  cqo := eu_NoAddress_NoAddress,
  aqi := kC_Cursor, aqe := ⟨pg_Cursor, hd_Cursor, po_Cursor, sa_Cursor⟩, jqm := W.mg_of X Gl aC_Cursor,
  aqO := nf_Cursor_text,
  aqh := nf_Cursor_place,
  jqf := ⟨mk_Cursor, a5, i5, kc_Cursor⟩ }
 exact ⟨g.hqP, fun s v => .of_eq rfl, fun base _ _ => pqr g⟩
theorem walk {l : PySem.W.OpenLaw} {q : Program} {loose : List Str} {XP : (Str → Option Value) → Heap → Prop} {YP : World → Heap → Prop} {d : DefRec} {K : Params → W.Frag} (hn : l.most = some 63) (hdf : d.params.defaults = [])
  (hY : ∀ (w : World) (h : Heap), YP w h → (K w.params).In h)
  (F : ∀ (w : World) (mg : Str → Option Value) (fa : Addr) (h : Heap), (K w.params).In h → h.Ns mainGlobals mg → mg d.name = some (.ref fa) →
   ∃ fd : FuncData, (∀ (s : Shared) (u : Value), BindsTo s fd ⟨[u], []⟩ [("_law_script", u)]) ∧ ∀ base : Heap, (K w.params).In base → base.Ns mainGlobals mg → FnOk l.prog w (K w.params) mg base CX0 9 fa fd ["_law_script"] (iq4 (K w.params))) :
  PySem.W.WalkO q loose XP YP l.row.toRowW d [] (fun f vs => PySem.call f vs) :=
 L2.nqi (n := 63) (k := 9) (x := "_law_script") (CX := fun _ => CX0) (sp := fun w => iq4 (K w.params)) hn (by decide) hdf ⟨rfl, by decide, by decide⟩ hY F (fun _ _ a ns hl _ hS => ⟨a, ns, rfl, hS, hl, fun _ => rfl⟩) fun _ _ _ _ _ z => z
end Wm
theorem PySem.W.Fast.tw18119393436065489536 : True := trivial
theorem PySem.W.Fast.tw15701070632629448114 : True := trivial
theorem PySem.W.Fast.tw8986316932559492909 : True := trivial
theorem PySem.W.Fast.tw5301504105982338371 : True := trivial
theorem PySem.W.Fast.tw7349435052116867277 : True := trivial
theorem PySem.W.Fast.tw199630136164538609 : True := trivial
theorem PySem.W.Fast.tw1187677241378310137 : True := trivial
theorem PySem.W.Fast.tw12478491072972111485 : True := trivial
theorem PySem.W.Fast.tw6498131987623723811 : True := trivial
theorem PySem.W.Fast.tw5041033562208516350 : True := trivial
theorem PySem.W.Fast.tw14300096311194566844 : True := trivial
theorem PySem.W.Fast.tw2403299484060876637 : True := trivial
theorem PySem.W.Fast.tw8985727545395447935 : True := trivial
theorem PySem.W.Fast.tw7261304418936274628 : True := trivial
theorem PySem.W.Fast.tw11979030989799664357 : True := trivial
theorem PySem.W.Fast.tw9257652231103363114 : True := trivial
theorem PySem.W.Fast.tw4403739595114125067 : True := trivial
theorem PySem.W.Fast.tw10304141133862024822 : True := trivial
theorem PySem.W.Fast.tw783801969559508432 : True := trivial
theorem PySem.W.Fast.tw17653652010763425658 : True := trivial
theorem PySem.W.Fast.tw16301002463747275977 : True := trivial
theorem PySem.W.Fast.tw13591298509275497248 : True := trivial
theorem PySem.W.Fast.tw6937691458140618972 : True := trivial
theorem PySem.W.Fast.tw9903478376302376019 : True := trivial
theorem PySem.W.Fast.tw14475604328634588533 : True := trivial
theorem PySem.W.Fast.tw13968248615520272697 : True := trivial
theorem PySem.W.Fast.tw27100352365088541 : True := trivial
theorem PySem.W.Fast.tw4669407418234179386 : True := trivial
theorem PySem.W.Fast.tw7353920577721407412 : True := trivial
theorem PySem.W.Fast.tw14542603345147660863 : True := trivial
theorem PySem.W.Fast.tw4599123522574490240 : True := trivial
theorem PySem.W.Fast.tw184446784351434484 : True := trivial
theorem PySem.W.Fast.tw18101673494051418662 : True := trivial
theorem PySem.W.Fast.tw9322911292118615408 : True := trivial
theorem PySem.W.Fast.tw6881261494542381497 : True := trivial
theorem PySem.W.Fast.tw6802363355428080957 : True := trivial
theorem PySem.W.Fast.tw11897675215529433075 : True := trivial
theorem PySem.W.Fast.tw3266364338198459768 : True := trivial
theorem PySem.W.Fast.tw6593956373624819382 : True := trivial
theorem PySem.W.Fast.tw9575310818699861824 : True := trivial
theorem PySem.W.Fast.tw10363236558070780911 : True := trivial
theorem PySem.W.Fast.tw9013609516838080411 : True := trivial
theorem PySem.W.Fast.tw8713962219755473848 : True := trivial
theorem PySem.W.Fast.tw11736268207711083148 : True := trivial
theorem PySem.W.Fast.tw15176808349391385260 : True := trivial
theorem PySem.W.Fast.tw11453037312736710580 : True := trivial
theorem PySem.W.Fast.tw9412719589747879367 : True := trivial
theorem PySem.W.Fast.tw5774298518182072357 : True := trivial
theorem PySem.W.Fast.tw12484571031877384750 : True := trivial
theorem PySem.W.Fast.tw9681669321701661449 : True := trivial
theorem PySem.W.Fast.tw16295137909075719329 : True := trivial
theorem PySem.W.Fast.tw13583391829700875817 : True := trivial
theorem PySem.W.Fast.tw15322662510626690597 : True := trivial
theorem PySem.W.Fast.tw14069914400065811227 : True := trivial
theorem PySem.W.Fast.tw5580997920246788287 : True := trivial
theorem PySem.W.Fast.tw3805945418222107497 : True := trivial
theorem PySem.W.Fast.tw9580335311764776170 : True := trivial
theorem PySem.W.Fast.tw1918222625462414120 : True := trivial
theorem PySem.W.Fast.tw307178374974871054 : True := trivial
theorem PySem.W.Fast.tw7845366920118229623 : True := trivial
theorem PySem.W.Fast.tw271752857433185575 : True := trivial
theorem PySem.W.Fast.tw12972563222985396141 : True := trivial
theorem PySem.W.Fast.tw56311171647231313 : True := trivial
theorem PySem.W.Fast.tw17340530676807983060 : True := trivial
theorem PySem.W.Fast.tw17489076931252674815 : True := trivial
theorem PySem.W.Fast.tw10883566080907089749 : True := trivial
theorem PySem.W.Fast.tw6021913645171714210 : True := trivial
theorem PySem.W.Fast.tw9045864204071933890 : True := trivial
theorem PySem.W.Fast.tw4734854101529132052 : True := trivial
theorem PySem.W.Fast.tw11419462885822909735 : True := trivial
theorem PySem.W.Fast.tw3868180600636240064 : True := trivial
theorem PySem.W.Fast.tw13691984587627765901 : True := trivial
theorem PySem.W.Fast.tw1704713713160628763 : True := trivial
theorem PySem.W.Fast.tw3043859170416674614 : True := trivial
theorem PySem.W.Fast.tw11683020094261834333 : True := trivial
theorem PySem.W.Fast.tw758406991696535784 : True := trivial
theorem PySem.W.Fast.tw6037035365997194188 : True := trivial
theorem PySem.W.Fast.tw10517988769426280529 : True := trivial
theorem PySem.W.Fast.tw10252103464380887207 : True := trivial
theorem PySem.W.Fast.tw15395376077373322784 : True := trivial
open PySem PySem.W PyProof.Rows
set_option maxRecDepth 100000 in
set_option maxHeartbeats 0 in
theorem PySem.Challenge.cw_waymark_k16_schemes_houses_doors_holds : PySem.Challenge.rw_waymark_k16_schemes_houses_doors.Holds := by
 w_on; o_law; k_head; (case hw => w_witness2)
 k_fill
 refine Wm.walk (l := PySem.Challenge.rw_waymark_k16_schemes_houses_doors) rfl rfl (fun w h Y => PySem.W.kIn_of Y) ?F
 case F =>
  intro w mg fa h KX G hmg
  refine' Wm.pqX (dt22_0 := 0) (dt26_0 := 0) KX G hmg ?aC_Cursor ?en_NoAddress ?a1 ?l1 ?a2 ?l2 ?a3 ?l3 ?a4 ?i4 ?l4 ?a5 ?i5 ?l5 ?a6 ?i6 ?l6 ?a7 ?i7 ?l7 ?a8 ?i8 ?l8 ?a9 ?l9 ?a10 ?l10 ?a11 ?l11 ?a12 ?l12 ?a13 ?l13 ?a14 ?i14 ?l14 ?a15 ?l15 ?a16 ?l16 ?a17 ?l17 ?a18 ?l18 ?a19 ?l19 ?a20 ?l20 ?a21 ?l21 ?a22 ?l22 ?d22 ?a23 ?l23 ?a24 ?l24 ?a25 ?l25 ?a26 ?l26 ?d26 ?a27 ?l27 ?a28 ?l28 ?a29 ?l29 ?a30 ?l30 ?a31 ?l31 ?e_SIGNS ?e_LETTERS ?e_LETTERS_AND_FIGURES ?e_FIGURES ?e_PLAIN ?e_FREE_IN_STEPS ?e_FREE_IN_QUESTIONS ?e_FREE_IN_MARKS ?e_FIRST_NUMBER ?e_LAST_NUMBER ?e_NUMBER_LEFT_OUT ?e_SMALL_FIGURES ?e_GREAT_FIGURES ?e_LONGEST_SCHEME ?e_LONGEST_HOUSE ?e_LAST_DOOR ?e_FIRST_FIGURES ?z_all ?z_len ?z_int ?z_isinstance ?z_bool ?z_str ?z_range ?z_tuple ?ew1_NoAddress ?ew2_NoAddress ?ew3_NoAddress ?el0_NoAddress ?el1_NoAddress ?el2_NoAddress ?el3_NoAddress ?el4_NoAddress ?el5_NoAddress ?ey_NoAddress ?ek_NoAddress ?es_NoAddress ?eo_NoAddress ?eh_NoAddress ?ef_NoAddress_at ?eu_NoAddress_NoAddress ?pg_Cursor ?hd_Cursor ?po_Cursor ?sa_Cursor ?mk_Cursor ?kc_Cursor ?nf_Cursor_text ?nf_Cursor_place ?kk ?cc
  (case aC_Cursor => k_is)
  (case en_NoAddress => first | k_is | kit_is | with_unfolding_all kernel_rfl | with_unfolding_all rfl)
  (case a1 | l1 | a2 | l2 | a3 | l3 | a4 | i4 | l4 | a5 | i5 | l5 | a6 | i6 | l6 | a7 | i7 | l7 | a8 | i8 | l8 | a9 | l9 | a10 | l10 | a11 | l11 | a12 | l12 | a13 | l13 | a14 | i14 | l14 | a15 | l15 | a16 | l16 | a17 | l17 | a18 | l18 | a19 | l19 | a20 | l20 | a21 | l21 | a22 | l22 | d22 | a23 | l23 | a24 | l24 | a25 | l25 | a26 | l26 | d26 | a27 | l27 | a28 | l28 | a29 | l29 | a30 | l30 | a31 | l31 | e_SIGNS | e_LETTERS | e_LETTERS_AND_FIGURES | e_FIGURES | e_PLAIN | e_FREE_IN_STEPS | e_FREE_IN_QUESTIONS | e_FREE_IN_MARKS | e_FIRST_NUMBER | e_LAST_NUMBER | e_NUMBER_LEFT_OUT | e_SMALL_FIGURES | e_GREAT_FIGURES | e_LONGEST_SCHEME | e_LONGEST_HOUSE | e_LAST_DOOR | e_FIRST_FIGURES | z_all | z_len | z_int | z_isinstance | z_bool | z_str | z_range | z_tuple => k_is)
  (case ew1_NoAddress | ew2_NoAddress | ew3_NoAddress | el0_NoAddress | el1_NoAddress | el2_NoAddress | el3_NoAddress | el4_NoAddress | el5_NoAddress | ey_NoAddress | ek_NoAddress | es_NoAddress | eo_NoAddress | eh_NoAddress | ef_NoAddress_at | eu_NoAddress_NoAddress => first | k_is | kit_is | with_unfolding_all kernel_rfl | with_unfolding_all rfl)
  (case pg_Cursor | hd_Cursor | po_Cursor | sa_Cursor | mk_Cursor | kc_Cursor | nf_Cursor_text | nf_Cursor_place => k_is)
  (case kk | cc => first | k_is | with_unfolding_all kernel_rfl | with_unfolding_all rfl)
