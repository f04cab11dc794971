import PyProof.Rows.All
import Wide.All
import OpenK.AllK
import Wide.FinOn
import Lean
import PyProof.EqAt
import PyProof.EqKinds
import PyProof.TupleCall
import PySem.Challenge.RW_waymark_k30_told_relative
set_option Elab.async false
set_option linter.all false
set_option maxRecDepth 100000
/-! THE HAND LAYER, for ints, bools, texts, own classes, LISTS and tuples (index, slices, in, append, pop ..), calls, loops. Paste it whole ahead of your own text; what your proof does not reach may be deleted. -/
namespace L2
open PySem PySem.Spec PyProof.Rows

/-- a key: an int or a str -/
abbrev Key := Sum Int Str
def keyIs : Key → Value → Bool
  | .inl k, v => Value.isInt k v
  | .inr x, v => Value.isStrOf x v
def keyH (w : World) : Key → Int
  | .inl k => hashInt k
  | .inr x => hashStr w x
theorem keyIs_shape : ∀ {k : Key} {v : Value}, keyIs k v = true → (∃ i t, k = Sum.inl i ∧ v = Value.int i t) ∨ (∃ x t, k = Sum.inr x ∧ v = Value.str x t)
  | .inl i, v, h => by
    obtain ⟨t, e⟩ := Value.isInt_shape (k := i) (v := v) h
    exact .inl ⟨i, t, rfl, e⟩
  | .inr x, v, h => by
    obtain ⟨t, e⟩ := Value.isStrOf_shape (x := x) (v := v) h
    exact .inr ⟨x, t, rfl, e⟩
theorem key_ll (a b : Int) : decide ((Sum.inl a : Key) = Sum.inl b) = (a == b) := by
  by_cases e : a = b
  · subst e; simp
  · have h : ¬ (Sum.inl a : Key) = Sum.inl b := fun q => e (Sum.inl.inj q)
    rw [decide_eq_false h]
    exact (beq_eq_false_iff_ne.mpr e).symm
theorem key_rr (a b : Str) : decide ((Sum.inr a : Key) = Sum.inr b) = decide (a = b) := by
  by_cases e : a = b
  · subst e; simp
  · have h : ¬ (Sum.inr a : Key) = Sum.inr b := fun q => e (Sum.inr.inj q)
    rw [decide_eq_false h, decide_eq_false e]
theorem key_lr (a : Int) (b : Str) : decide ((Sum.inl a : Key) = Sum.inr b) = false := decide_eq_false (fun q => nomatch q)
theorem key_rl (a : Str) (b : Int) : decide ((Sum.inr a : Key) = Sum.inl b) = false := decide_eq_false (fun q => nomatch q)

def mixKind (prog : Program) (w : World) : PySem.KeyKind prog w Key where
  is := keyIs
  hash := keyH w
  inj := fun v a b ha hb => by
    rcases keyIs_shape ha with ⟨i, t, rfl, rfl⟩ | ⟨x, t, rfl, rfl⟩
    · rcases keyIs_shape hb with ⟨j, u, rfl, e⟩ | ⟨y, u, rfl, e⟩
      · injection e with e1 _; rw [e1]
      · exact nomatch e
    · rcases keyIs_shape hb with ⟨j, u, rfl, e⟩ | ⟨y, u, rfl, e⟩
      · exact nomatch e
      · injection e with e1 _; rw [e1]
  byValue := fun k v h => by
    rcases keyIs_shape h with ⟨i, t, rfl, rfl⟩ | ⟨x, t, rfl, rfl⟩ <;> rfl
  pyHash := fun hv h => by
    rcases keyIs_shape hv with ⟨i, t, rfl, rfl⟩ | ⟨x, t, rfl, rfl⟩
    · exact wpAny_pyHash_int h
    · exact wpAny_pyHash_str h
  eqBool := fun hu hv h => by
    rcases keyIs_shape hu with ⟨i, t, rfl, rfl⟩ | ⟨x, t, rfl, rfl⟩
    · rcases keyIs_shape hv with ⟨j, u, rfl, rfl⟩ | ⟨y, u, rfl, rfl⟩
      · rw [key_ll] at h; exact wpAny_eqBool_int h
      · rw [key_lr] at h; exact SeqAt.EqAt.int_str i t y u _ _ _ _ h
    · rcases keyIs_shape hv with ⟨j, u, rfl, rfl⟩ | ⟨y, u, rfl, rfl⟩
      · rw [key_rl] at h; exact SeqAt.EqAt.str_int x t j u _ _ _ _ h
      · rw [key_rr] at h; exact wpAny_eqBool_str h
  «strs» := fun k x t v h => by
    rcases keyIs_shape h with ⟨i, u, rfl, e⟩ | ⟨y, u, rfl, e⟩
    · exact nomatch e
    · injection e with e1 _
      subst e1
      cases v <;> rfl

end L2

namespace L2
open PySem PySem.Spec PyProof.Rows

/-- a value, without the heap -/
inductive V where
  | non | bl (b : Bool) | int (i : Int) | str (x : Str) | byt (b : Array UInt8) | flt (b : UInt64) | ref (a : Addr) | ty (n : String)
  deriving DecidableEq

def RelV : V → Value → Prop
  | .non, u => u = Value.none
  | .bl b, u => u = Value.bool b
  | .int i, u => ∃ t, u = Value.int i t
  | .str x, u => ∃ t, u = Value.str x t
  | .byt b, u => ∃ t, u = Value.bytes b t
  | .flt b, u => ∃ t, u = Value.float b t
  | .ref a, u => u = Value.ref a
  | .ty n, u => u = Value.type n

abbrev Vals : List V → List Value → Prop := Paired RelV
theorem Vals.length {xs : List V} {us : List Value} (r : Vals xs us) : xs.length = us.length := Paired.length r
theorem Vals.get : ∀ {xs : List V} {us : List Value} {i : Nat} {x : V}, Vals xs us → xs[i]? = some x → ∃ u, us[i]? = some u ∧ RelV x u
  | _, _, _, _, .nil, e => by simp at e
  | _, _, 0, _, .cons r _, e => by simp at e; subst e; exact ⟨_, rfl, r⟩
  | _, _, i + 1, x, .cons _ t, e => by
    obtain ⟨u, h1, h2⟩ := Vals.get (i := i) (x := x) t (by simpa using e)
    exact ⟨u, by simpa using h1, h2⟩
theorem Vals.set {x : V} {u : Value} (r : RelV x u) : ∀ {xs : List V} {us : List Value} (i : Nat), Vals xs us → Vals (xs.set i x) (us.set i u)
  | _, _, _, .nil => .nil
  | _, _, 0, .cons _ t => .cons r t
  | _, _, i + 1, .cons q t => .cons q (Vals.set r i t)
theorem Vals.append : ∀ {xs ys : List V} {us ws : List Value}, Vals xs us → Vals ys ws → Vals (xs ++ ys) (us ++ ws)
  | _, _, _, _, .nil, s => s
  | _, _, _, _, .cons r t, s => .cons r (Vals.append t s)
theorem Vals.take : ∀ {xs : List V} {us : List Value} (n : Nat), Vals xs us → Vals (xs.take n) (us.take n)
  | _, _, 0, _ => .nil
  | _, _, _ + 1, .nil => .nil
  | _, _, n + 1, .cons r t => .cons r (Vals.take n t)
theorem Vals.drop : ∀ {xs : List V} {us : List Value} (n : Nat), Vals xs us → Vals (xs.drop n) (us.drop n)
  | _, _, 0, r => r
  | _, _, _ + 1, .nil => .nil
  | _, _, n + 1, .cons _ t => Vals.drop n t
def RelO : Option V → Option Value → Prop
  | some v, some u => RelV v u
  | none, none => True
  | _, _ => False
def KV {κ : Type} : List (κ × V) → List (κ × Value) → Prop := Paired fun (p : κ × V) (q : κ × Value) => p.1 = q.1 ∧ RelV p.2 q.2

/-- a key of a dict (00_mix): an int or a text -/
def kV : Key → V
  | .inl i => .int i
  | .inr x => .str x

/-- what stands at a tracked address -/
inductive HO where
  /-- a list -/
  | lst (xs : List V)
  /-- a tuple (never changes) -/
  | tup (xs : List V)
  /-- a dict whose keys are ints and texts; one whose keys are tuples of ints and texts (the empty one is both) -/
  | dK (kvs : List (Key × V)) | dT (kvs : List (List Key × V))
  /-- a set of ints: its members, its size -/
  | set (S : Int → Bool) (n : Nat)
  /-- an instance of the class at C, its dict at dx, its attributes -/
  | ins (C dx : Addr) (fs : List (Str × V))
  /-- the dict of the instance at x -/
  | own (x : Addr)
  /-- the dict of an exception -/
  | xd (fs : List (Str × V))
  /-- a bound method, f of x -/
  | met (f x : Addr)
  /-- a range object lo, lo + 1, .. below hi -/
  | rng (lo hi : Int)
  /-- a thing that is known to the object (the script; a dict while a loop walks it): read, never written while it is so -/
  | frz (o : Obj) (u : HO)
  /-- a code object's table -/
  | tbl (ps : Array Value)
  /-- any other thing, by what is true of its one object (a def of one's own: SetO a S n := HO.ext fun h => ..) -/
  | ext (φ : Heap → Prop)

abbrev Hp := Addr → Option HO
def upd (H : Hp) (a : Addr) (o : HO) : Hp := fun b => if b = a then some o else H b
theorem upd_same {H : Hp} {a : Addr} {o : HO} : upd H a o a = some o := by unfold upd; rw [if_pos rfl]
theorem upd_ne {H : Hp} {a b : Addr} {o : HO} (h : b ≠ a) : upd H a o b = H b := by unfold upd; rw [if_neg h]
/-- two objects of different content stand apart -/
theorem ne_of {H : Hp} {a b : Addr} {o u : HO} (h : H a = some o) (h' : H b = some u) (d : o ≠ u) : a ≠ b := by
  intro e; subst e; rw [h] at h'; exact d (Option.some.inj h')
theorem ne_of_none {H : Hp} {a b : Addr} {o : HO} (h : H a = some o) (h' : H b = none) : a ≠ b := by
  intro e; subst e; rw [h] at h'; cases h'

section
variable (P : Program) (w : World)
def ObjOk (H : Hp) (h : Heap) (a : Addr) : HO → Prop
  | .lst xs => xs.length ≤ sizeLine ∧ ∃ (its : List Value) (n : Nat), Vals xs its ∧ h.get? a = some { cls := .type "list", data := .seq its.toArray n }
  | .tup xs => xs.length ≤ sizeLine ∧ ∃ its : List Value, Vals xs its ∧ IsTup h a its.toArray
  | .dK kvs => kvs.length ≤ sizeLine ∧ (a == sysModules) = false ∧ ∃ vs, KV kvs vs ∧ h.DictOf (mixKind P w) a vs
  | .dT kvs => kvs.length ≤ sizeLine ∧ (a == sysModules) = false ∧ ∃ xs : List (List Key × Addr × Value),
      Paired (fun (p : List Key × V) (q : List Key × Addr × Value) => p.1 = q.1 ∧ H q.2.1 = some (.tup (p.1.map kV)) ∧ RelV p.2 q.2.2) kvs xs ∧
      ∃ o es ep, h.get? a = some o ∧ o.ExactDict ∧ o.data = .dict es ep ∧ es.toList = xs.map (entryOfKey (tupleKind (mixKind P w))) ∧ (xs.map (·.1)).Nodup
  | .set S n => h.SetOf (intKind P w) a S n
  | .ins C dx fs => H dx = some (.own a) ∧ fs.length ≤ 1000 ∧ dx ≠ a ∧ h.get? a = some (PySem.W.instObj C dx) ∧
      ∃ mA, h.Ns1 dx mA ∧ (∀ f, RelO (fs.lookup f) (mA f)) ∧ PySem.Within mA (fs.map (·.1))
  | .own _ => ∃ o, h.get? a = some o
  | .xd fs => ∃ mA, h.Ns1 a mA ∧ ∀ f, RelO (fs.lookup f) (mA f)
  | .rng lo hi => ∃ t u v, h.get? a = some { cls := .type "range", data := .fields #[.int lo t, .int hi u, .int 1 v] }
  | .frz o u => h.get? a = some o ∧ ObjOk H h a u
  | .tbl ps => h.get? a = some { cls := .none, data := .fields ps }
  | .met f x => h.get? a = some (PySem.W.methodObj (.ref f) (.ref x))
  | .ext φ => φ h ∧ (∃ o, h.get? a = some o) ∧ ∀ h1 h2 : Heap, φ h1 → (∀ o, h1.get? a = some o → h2.get? a = some o) → φ h2
/-- the abstract heap is held -/
def HOk (H : Hp) (h : Heap) : Prop := ∀ a o, H a = some o → ObjOk P w H h a o
end

section
variable {P : Program} {w : World} {H H' : Hp} {h h' : Heap} {a : Addr} {o : HO}
theorem ObjOk.lt (x : ObjOk P w H h a o) : a < h.objs.size := by
  cases o with
  | lst xs => obtain ⟨_, _, _, _, e⟩ := x; exact Heap.lt_size e
  | tup xs => obtain ⟨_, _, _, p⟩ := x; exact p.lt
  | dK kvs => obtain ⟨_, _, _, _, o, _, _, e, _⟩ := x; exact Heap.lt_size e
  | dT kvs => obtain ⟨_, _, _, _, o, _, _, e, _⟩ := x; exact Heap.lt_size e
  | set S n => obtain ⟨o, _, _, _, e, _⟩ := x; exact Heap.lt_size e
  | ins C dx fs => obtain ⟨_, _, _, e, _⟩ := x; exact Heap.lt_size e
  | own y => obtain ⟨_, e⟩ := x; exact Heap.lt_size e
  | xd fs => obtain ⟨_, ⟨_, _, _, e, _⟩, _⟩ := x; exact Heap.lt_size e
  | rng lo hi => obtain ⟨_, _, _, e⟩ := x; exact Heap.lt_size e
  | frz ob u => obtain ⟨e, _⟩ := x; exact Heap.lt_size e
  | tbl ps => exact Heap.lt_size (show h.get? a = some _ from x)
  | met f y => exact Heap.lt_size (show h.get? a = some _ from x)
  | ext φ => obtain ⟨_, ⟨_, e⟩, _⟩ := x; exact Heap.lt_size e
theorem Paired.mapP {α β : Type} {F G : α → β → Prop} : ∀ {l₁ : List α} {l₂ : List β}, Paired F l₁ l₂ → (∀ a b, F a b → G a b) → Paired G l₁ l₂
  | _, _, .nil, _ => .nil
  | _, _, .cons r t, f => .cons (f _ _ r) (Paired.mapP t f)
/-- what an object's description leans on: its own object, its own dict, the tuples -/
theorem ObjOk.stay (x : ObjOk P w H h a o) (k : ∀ b u, (b = a ∨ H b = some (.own a)) → h.get? b = some u → h'.get? b = some u)
    (ho : ∀ b, H b = some (.own a) → H' b = some (.own a)) (ht : ∀ b xs, H b = some (.tup xs) → H' b = some (.tup xs)) : ObjOk P w H' h' a o := by
  induction o with
  | lst xs => obtain ⟨z, its, n, r, e⟩ := x; exact ⟨z, its, n, r, k _ _ (.inl rfl) e⟩
  | tup xs => obtain ⟨z, its, r, ob, e, c⟩ := x; exact ⟨z, its, r, ob, k _ _ (.inl rfl) e, c⟩
  | dK kvs => obtain ⟨z, y, vs, r, ob, es, ep, e, c⟩ := x; exact ⟨z, y, vs, r, ob, es, ep, k _ _ (.inl rfl) e, c⟩
  | dT kvs =>
    obtain ⟨z, y, xs, r, ob, es, ep, e, c⟩ := x
    exact ⟨z, y, xs, Paired.mapP r fun p q z => ⟨z.1, ht _ _ z.2.1, z.2.2⟩, ob, es, ep, k _ _ (.inl rfl) e, c⟩
  | set S n => obtain ⟨ob, es, ep, t, e, c⟩ := x; exact ⟨ob, es, ep, t, k _ _ (.inl rfl) e, c⟩
  | ins C dx fs =>
    obtain ⟨d, z, ne, e, mA, ⟨od, es, ep, e2, c⟩, r⟩ := x
    exact ⟨ho _ d, z, ne, k _ _ (.inl rfl) e, mA, ⟨od, es, ep, k _ _ (.inr d) e2, c⟩, r⟩
  | own y => obtain ⟨ob, e⟩ := x; exact ⟨ob, k _ _ (.inl rfl) e⟩
  | xd fs => obtain ⟨mA, ⟨od, es, ep, e, c⟩, r⟩ := x; exact ⟨mA, ⟨od, es, ep, k _ _ (.inl rfl) e, c⟩, r⟩
  | rng lo hi => obtain ⟨t, u, v, e⟩ := x; exact ⟨t, u, v, k _ _ (.inl rfl) e⟩
  | frz ob u ih => obtain ⟨e, q⟩ := x; exact ⟨k _ _ (.inl rfl) e, ih q⟩
  | tbl ps =>
    have e : h.get? a = some { cls := .none, data := .fields ps } := x
    show h'.get? a = some { cls := .none, data := .fields ps }
    exact k a _ (.inl rfl) e
  | met f y =>
    have e : h.get? a = some (PySem.W.methodObj (.ref f) (.ref y)) := x
    show h'.get? a = some (PySem.W.methodObj (.ref f) (.ref y))
    exact k a _ (.inl rfl) e
  | ext φ => obtain ⟨p, ⟨o, e⟩, st⟩ := x; exact ⟨st _ _ p fun o q => k _ _ (.inl rfl) q, ⟨o, k _ _ (.inl rfl) e⟩, st⟩
theorem HOk.lt (x : HOk P w H h) (e : H a = some o) : a < h.objs.size := (x a o e).lt
theorem HOk.fresh (x : HOk P w H h) (e : h.objs.size ≤ a) : H a = none := by
  cases q : H a with
  | none => rfl
  | some u => exact absurd (Nat.lt_of_lt_of_le (x.lt q) e) (Nat.lt_irrefl _)
/-- every object of the heap is kept -/
theorem HOk.kept (x : HOk P w H h) (k : ∀ b u, h.get? b = some u → h'.get? b = some u) : HOk P w H h' := fun a o e =>
  (x a o e).stay (fun b u _ q => k b u q) (fun _ q => q) fun _ _ q => q
/-- a new object is laid and tracked -/
theorem HOk.laid (x : HOk P w H h) (k : ∀ b u, h.get? b = some u → h'.get? b = some u) (hp : h.objs.size ≤ a) (new : ObjOk P w (upd H a o) h' a o) : HOk P w (upd H a o) h' := fun b u e => by
  have hn := x.fresh hp
  by_cases hb : b = a
  · subst hb; rw [upd_same] at e; cases e; exact new
  · rw [upd_ne hb] at e
    exact (x b u e).stay (fun c v _ q => k c v q) (fun c q => by rw [upd_ne (ne_of_none q hn)]; exact q) fun c xs q => by rw [upd_ne (ne_of_none q hn)]; exact q
end

/-- what may be read as u: it is u, or a known u -/
def Rd (H : Hp) (a : Addr) (u : HO) : Prop := H a = some u ∨ ∃ o, H a = some (.frz o u)
theorem Rd.of {H : Hp} {a : Addr} {u : HO} (h : H a = some u) : Rd H a u := .inl h
theorem Rd.ok {P : Program} {w : World} {H : Hp} {h : Heap} {a : Addr} {u : HO} (r : Rd H a u) (x : HOk P w H h) : ObjOk P w H h a u := by
  rcases r with r | ⟨o, r⟩
  · exact x a u r
  · obtain ⟨_, q⟩ := x a _ r
    exact q
/-- what may be written -/
def Mut : Option HO → Prop
  | some (.lst _) => True
  | some (.dK _) => True
  | some (.dT _) => True
  | some (.set _ _) => True
  | some (.ins _ _ _) => True
  | some (.ext _) => True
  | _ => False
section
variable {P : Program} {w : World} {H : Hp} {h h' : Heap} {x e : Addr} {o' : HO}
/-- the object at e is changed: x itself, or the dict of the instance x -/
theorem HOk.write (ok : HOk P w H h) (mu : Mut (H x)) (he : e = x ∨ H e = some (.own x)) (k : ∀ b u, b ≠ e → h.get? b = some u → h'.get? b = some u) (heo : ∃ u, h'.get? e = some u)
    (new : ObjOk P w (upd H x o') h' x o') : HOk P w (upd H x o') h' := fun b u q => by
  have nown : ∀ c y, H c = some (.own y) → c ≠ x := fun c y r z => by subst z; rw [r] at mu; exact mu
  have ntup : ∀ c xs, H c = some (.tup xs) → c ≠ x := fun c xs r z => by subst z; rw [r] at mu; exact mu
  by_cases hb : b = x
  · subst hb; rw [upd_same] at q; cases q; exact new
  · rw [upd_ne hb] at q
    by_cases hbe : b = e
    · have q' : H b = some (.own x) := by
        rcases he with z | z
        · exact absurd (hbe.trans z) hb
        · rw [hbe]; exact z
      rw [q] at q'; cases q'
      obtain ⟨v, hv⟩ := heo
      exact ⟨v, by rw [hbe]; exact hv⟩
    · refine (ok b u q).stay (fun c v hc r => k c v ?_ r) (fun c r => by rw [upd_ne (nown c b r)]; exact r) fun c xs r => by rw [upd_ne (ntup c xs r)]; exact r
      rcases hc with rfl | hc
      · exact hbe
      · rintro rfl
        rcases he with z | z
        · exact nown c b hc z
        · rw [hc] at z; cases z; exact hb rfl
end

/-! ### kept unless tracked; of the frames at fs (the callers') the slots may change (an exception that passes writes there); of the records at ex (iterators) nothing is said -/
structure Un (fs ex : List Addr) (H H' : Hp) (h h' : Heap) : Prop where
  keep : ∀ b o, h.get? b = some o → H b = none → b ∉ fs → b ∉ ex → h'.get? b = some o
  slot : ∀ b o, h.get? b = some o → H b = none → b ∈ fs → b ∉ ex → ∃ sl, h'.get? b = some { o with slots := sl }
  free : ∀ b o, h.get? b = some o → H b = none → b ∉ ex → H' b = none
  there : ∀ b o, h.get? b = some o → b ∉ ex → ∃ o', h'.get? b = some o'
  tups : ∀ b xs, H b = some (.tup xs) → H' b = some (.tup xs)
  frzs : ∀ b o u, H b = some (.frz o u) → H' b = some (.frz o u)
  tbls : ∀ b ps, H b = some (.tbl ps) → ∃ more, H' b = some (.tbl (ps ++ more))
section
variable {fs fs' ex ex' : List Addr} {H H1 H2 : Hp} {h h1 h2 h' : Heap} {a x e : Addr} {o : HO}
theorem Un.any (u : Un fs ex H H1 h h1) {b : Addr} {ob : Obj} (q : h.get? b = some ob) (n : H b = none) (hx : b ∉ ex) : ∃ sl, h1.get? b = some { ob with slots := sl } := by
  by_cases hb : b ∈ fs
  · exact u.slot b ob q n hb hx
  · exact ⟨ob.slots, u.keep b ob q n hb hx⟩
theorem Un.trans (a : Un fs ex H H1 h h1) (b : Un fs ex H1 H2 h1 h2) : Un fs ex H H2 h h2 where
  keep := fun c ob q n hc hx => b.keep c ob (a.keep c ob q n hc hx) (a.free c ob q n hx) hc hx
  slot := fun c ob q n hc hx => by
    obtain ⟨sl, e1⟩ := a.slot c ob q n hc hx
    obtain ⟨sl', e2⟩ := b.slot c _ e1 (a.free c ob q n hx) hc hx
    exact ⟨sl', e2⟩
  free := fun c ob q n hx => by
    obtain ⟨o', e1⟩ := a.there c ob q hx
    exact b.free c o' e1 (a.free c ob q n hx) hx
  there := fun c ob q hx => by
    obtain ⟨o', e1⟩ := a.there c ob q hx
    exact b.there c o' e1 hx
  tups := fun c xs q => b.tups c xs (a.tups c xs q)
  frzs := fun c ob xs q => b.frzs c ob xs (a.frzs c ob xs q)
  tbls := fun c ps q => by
    obtain ⟨m1, e1⟩ := a.tbls c ps q
    obtain ⟨m2, e2⟩ := b.tbls c _ e1
    exact ⟨m1 ++ m2, by rw [e2, Array.append_assoc]⟩
theorem Un.kept (k : ∀ b u, h.get? b = some u → h'.get? b = some u) : Un fs ex H H h h' :=
  ⟨fun b ob q _ _ _ => k b ob q, fun b ob q _ _ _ => ⟨ob.slots, k b ob q⟩, fun _ _ _ n _ => n, fun b ob q _ => ⟨ob, k b ob q⟩, fun _ _ q => q, fun _ _ _ q => q, fun _ ps q => ⟨#[], by rw [q]; simp⟩⟩
theorem Un.refl : Un fs ex H H h h := Un.kept fun _ _ q => q
theorem Un.laid (k : ∀ b u, h.get? b = some u → h'.get? b = some u) (hp : h.objs.size ≤ a) (hn : H a = none) : Un fs ex H (upd H a o) h h' where
  keep := fun b u q _ _ _ => k b u q
  slot := fun b u q _ _ _ => ⟨u.slots, k b u q⟩
  free := fun b u q n _ => by rw [upd_ne (Nat.ne_of_lt (Nat.lt_of_lt_of_le (Heap.lt_size q) hp))]; exact n
  there := fun b u q _ => ⟨u, k b u q⟩
  tups := fun b xs q => by rw [upd_ne (ne_of_none q hn)]; exact q
  frzs := fun b u xs q => by rw [upd_ne (ne_of_none q hn)]; exact q
  tbls := fun b ps q => ⟨#[], by rw [upd_ne (ne_of_none q hn), q]; simp⟩
theorem Un.write (mu : Mut (H x)) (he : e = x ∨ H e = some (.own x)) (k : ∀ b u, b ≠ e → h.get? b = some u → h'.get? b = some u) (heo : ∃ u, h'.get? e = some u) : Un fs ex H (upd H x o) h h' := by
  have hx : ∀ b, H b = none → b ≠ x := fun b n z => by subst z; rw [n] at mu; exact mu
  have hb : ∀ b, H b = none → b ≠ e := fun b n z => by
    subst z
    rcases he with r | r
    · exact hx b n r
    · rw [n] at r; cases r
  have hm : ∀ b u, H b = some u → ¬ Mut (some u) → b ≠ x := fun b u q nm z => by subst z; rw [q] at mu; exact nm mu
  refine ⟨fun b u q n _ _ => k b u (hb b n) q, fun b u q n _ _ => ⟨u.slots, k b u (hb b n) q⟩, fun b u q n _ => by rw [upd_ne (hx b n)]; exact n, fun b u q _ => ?_,
    fun b xs q => by rw [upd_ne (hm b _ q fun z => z)]; exact q, fun b u xs q => by rw [upd_ne (hm b _ q fun z => z)]; exact q, fun b ps q => ⟨#[], by rw [upd_ne (hm b _ q fun z => z), q]; simp⟩⟩
  by_cases hbe : b = e
  · subst hbe; exact heo
  · exact ⟨u, k b u hbe q⟩
theorem Un.mono (u : Un fs ex H H1 h h1) (hs : ∀ b ∈ fs, b ∈ fs') (hx : ∀ b ∈ ex, b ∈ ex') : Un fs' ex' H H1 h h1 :=
  ⟨fun b ob q n hb he => u.keep b ob q n (fun z => hb (hs b z)) fun z => he (hx b z), fun _ _ q n _ he => u.any q n fun z => he (hx _ z), fun b ob q n he => u.free b ob q n fun z => he (hx b z), fun b ob q he => u.there b ob q fun z => he (hx b z), u.tups, u.frzs, u.tbls⟩
end

/-! ### the heap without what is tracked -/
def trk (h : Heap) (H : Hp) : List Addr := (List.range h.objs.size).filter fun a => (H a).isSome
def hidT (h : Heap) (H : Hp) : Heap := PySem.W.hideAll h (trk h H)
theorem hidT_size (h : Heap) (H : Hp) : (hidT h H).objs.size = h.objs.size := PySem.W.hideAll_size _ _
theorem hidT_get {h : Heap} {H : Hp} {b : Addr} {o : Obj} (e : h.get? b = some o) (n : H b = none) : (hidT h H).get? b = some o :=
  PySem.W.hideAll_get _ e fun hm => by
    have q : (H b).isSome = true := (List.mem_filter.mp hm).2
    rw [n] at q; simp at q
theorem of_hidT {h : Heap} {H : Hp} {b : Addr} {o : Obj} (e : (hidT h H).get? b = some o) : h.get? b = some o ∧ H b = none := by
  have e' : h.get? b = some o := PySem.W.of_hideAll (trk h H) e
  refine ⟨e', ?_⟩
  cases q : H b with
  | none => rfl
  | some x =>
    have hm : b ∈ trk h H := List.mem_filter.mpr ⟨List.mem_range.mpr (Heap.lt_size e'), by simp [q]⟩
    have z : (hidT h H).get? b = none := PySem.W.hideAll_none (trk h H) hm
    rw [z] at e; cases e

/-! ### OpenK's ledger, filled with every new object but one -/
def allNews (g h : Heap) (L : Addr) : List (Addr × Obj) := (List.range h.objs.size).filterMap fun a => if a = L ∨ (g.get? a).isSome = true then none else (h.get? a).map fun o => (a, o)
def rest (g h : Heap) (L d : Addr) : List (Addr × Obj) := (allNews g h L).filter fun p => decide (p.1 ≠ d)
end L2

namespace L2
open PySem PySem.Spec PyProof.Rows

/-- the module's facts, over the base: the heap at the law's entry without what is tracked there -/
structure Mod (K : PySem.W.Frag) (mg : Str → Option Value) (base : Heap) : Prop where
  kin : K.In base
  glob : base.Ns mainGlobals mg
  blt : ∃ mb, base.Ns builtinsNs mb ∧ ∀ x : Str, x ≠ "__name__" → mb x = bootBuiltins x
  nolimit : base.NoLimit

/-- the context: a def's body (or a comprehension's block) running. base: fixed through the whole law; s₀, H₀: the entry; outer: the frames whose slots others may change (a def's callers); stack: all frames that run;
   ex: iterators that were made ahead of the entry and are walked here (a comprehension's); fn: the names whose cells were made at the entry (a def: all; a comprehension's block: its own); calm: not within an except suite; pn: pins that every state bears; xe: what is wanted of an exception that leaves the code -/
structure Cx where
  prog : Program
  w : World
  K : PySem.W.Frag
  mg : Str → Option Value
  base : Heap
  A : Around
  N : List Str
  s₀ : Shared
  H₀ : Hp
  env : Env
  outer : List Env
  stack : List Env
  ex : List Addr
  fn : Str → Bool
  calm : Bool
  pn : List (Addr × Obj)
  xe : Value → Shared → Prop
/-- the callers' frames -/
def frs (l : List Env) : List Addr := l.filterMap (·.frame)
abbrev Cx.fs (X : Cx) : List Addr := frs X.outer

def Vis (sc : Scope) (x : Str) : Prop := sc.names.lookup x = some .local ∨ sc.names.lookup x = some .cell ∨ sc.names.lookup x = some .free
def Loc (sc : Scope) (x : Str) : Prop := sc.names.lookup x = some .local ∨ sc.names.lookup x = some .cell
def Look (env : Env) (h : Heap) (m : Str → Option Value) (x : Str) (u : Value) : Prop :=
  (env.kindOf x = some .local ∧ m x = some u) ∨ ((env.kindOf x = some .cell ∨ env.kindOf x = some .free) ∧ ∃ c, env.cells.lookup x = some c ∧ h.IsCell c (some u))

structure Cx.Ok (X : Cx) : Prop where
  mod : Mod X.K X.mg X.base
  kind : X.env.scope.kind = .function
  glob : X.env.globals = mainGlobals
  blt : X.env.builtins = builtinsNs
  above : X.s₀.heap.objs.size ≤ X.env.locals
  inj : ∀ x y c, X.env.cells.lookup x = some c → X.env.cells.lookup y = some c → x = y
  has : ∀ x, (X.env.kindOf x = some .cell ∨ X.env.kindOf x = some .free) → ∃ c, X.env.cells.lookup x = some c
  cab : ∀ x c, X.fn x = true → X.env.cells.lookup x = some c → X.s₀.heap.objs.size ≤ c
  hd : X.calm = true → X.A.handled = none
  frames : X.A.frames = some X.stack
  stk : X.stack = X.outer ∨ (X.stack = X.env :: X.outer ∧ X.env.frame = some X.env.locals)
  exf : ∀ b ∈ X.ex, b ≠ X.env.locals ∧ ∀ x c, X.env.cells.lookup x = some c → c ≠ b
  bs : ∀ b o, X.base.get? b = some o → X.s₀.heap.get? b = some o ∧ X.H₀ b = none
  bsz : X.base.objs.size ≤ X.s₀.heap.objs.size
  noex : ∀ b o, X.base.get? b = some o → b ∉ X.ex
  exfs : ∀ b ∈ X.ex, b ∉ X.fs
  funs : X.s₀.heap.FunFrames X.base X.outer
  frf : ∀ b ∈ X.fs, X.H₀ b = none

structure Inv (X : Cx) (pins : List (Addr × Obj)) (σ : List (Option V)) (H : Hp) (s : Shared) : Prop where
  ok : X.Ok
  os : s.os = X.s₀.os
  bare : AllBare s.gens
  base : Un X.fs X.ex X.H₀ H X.s₀.heap s.heap
  loc : ∃ m, s.heap.Ns X.env.locals m ∧ ∀ (i : Nat) (x : Str) (v : V), X.N[i]? = some x → σ[i]? = some (some v) → Vis X.env.scope x → ∃ u, RelV v u ∧ Look X.env s.heap m x u
  cell : ∀ x c, X.env.cells.lookup x = some c → ∃ v, s.heap.IsCell c v
  free : H X.env.locals = none
  freeC : ∀ x c, X.env.cells.lookup x = some c → H c = none
  pin : ∀ p ∈ X.pn ++ pins, s.heap.get? p.1 = some p.2 ∧ H p.1 = none ∧ p.1 ≠ X.env.locals ∧ p.1 ∉ X.fs ∧ ∀ v, p.2.data ≠ .cell v
  hok : HOk X.prog X.w H s.heap
  len : σ.length = X.N.length

section
variable {X : Cx} {pins : List (Addr × Obj)} {σ : List (Option V)} {H H' : Hp} {s : Shared} {h' : Heap}

theorem Cx.Ok.nofr (ok : X.Ok) {b : Addr} {o : Obj} (e : X.base.get? b = some o) : b ∉ X.fs := fun hb => by
  have := (ok.funs.mem hb).1
  rw [e] at this; cases this
theorem Inv.bs (I : Inv X pins σ H s) : ∀ b o, X.base.get? b = some o → s.heap.get? b = some o ∧ H b = none := fun b o e =>
  ⟨I.base.keep b o (I.ok.bs b o e).1 (I.ok.bs b o e).2 (I.ok.nofr e) (I.ok.noex b o e), I.base.free b o (I.ok.bs b o e).1 (I.ok.bs b o e).2 (I.ok.noex b o e)⟩
theorem Inv.bk (I : Inv X pins σ H s) : ∀ b o, X.base.get? b = some o → s.heap.get? b = some o := fun b o e => (I.bs b o e).1
theorem Inv.mod (I : Inv X pins σ H s) : Mod X.K X.mg X.base := I.ok.mod
theorem Inv.kIn (I : Inv X pins σ H s) : X.K.In s.heap := I.ok.mod.kin.keeps I.bk
theorem Inv.nolimit (I : Inv X pins σ H s) : s.heap.NoLimit := I.ok.mod.nolimit.keeps I.bk
/-- the frame over the base: for OpenK's rules (K.In X.base is I.mod.kin) -/
theorem Inv.fr (I : Inv X pins σ H s) : ∃ m, Fr X.base X.env.locals s.heap m :=
  let ⟨m, hn, _⟩ := I.loc
  ⟨m, hn, I.bk, Nat.le_trans I.ok.bsz I.ok.above⟩
theorem Inv.lt (I : Inv X pins σ H s) : X.env.locals < s.heap.objs.size := let ⟨_, hn, _⟩ := I.loc; hn.lt
theorem Inv.sz (I : Inv X pins σ H s) : X.s₀.heap.objs.size ≤ s.heap.objs.size := Nat.le_trans I.ok.above (Nat.le_of_lt I.lt)
theorem Inv.nofs (I : Inv X pins σ H s) {a : Addr} (h : s.heap.objs.size ≤ a) : a ∉ X.fs := fun hb => by
  obtain ⟨_, o, ho, _⟩ := I.ok.funs.mem hb
  exact absurd (Nat.lt_of_lt_of_le (Heap.lt_size ho) (Nat.le_trans I.sz h)) (Nat.lt_irrefl _)
theorem Inv.cne (I : Inv X pins σ H s) : ∀ x c, X.env.cells.lookup x = some c → c ≠ X.env.locals := fun x c e z => by
  obtain ⟨v, o, ho, hd⟩ := I.cell x c e
  obtain ⟨m, ⟨o', es, ep, ho', hd', _⟩, _⟩ := I.loc
  rw [z, ho'] at ho; cases ho; rw [hd'] at hd; cases hd
theorem Inv.funs (I : Inv X pins σ H s) : s.heap.FunFrames X.base X.outer := by
  have all : ∀ (l : List Env), (∀ b ∈ frs l, b ∈ X.fs) → X.s₀.heap.FunFrames X.base l → s.heap.FunFrames X.base l := by
    intro l
    induction l with
    | nil => intro _ _; trivial
    | cons env r ih =>
      intro hs hl
      obtain ⟨hk, ⟨L, o, hf, hn, ho, hd⟩, hr⟩ := hl
      have hL : L ∈ X.fs := hs L (by unfold frs; rw [List.filterMap_cons, hf]; exact List.mem_cons_self)
      obtain ⟨sl, e⟩ := I.base.slot L o ho (I.ok.frf L hL) hL fun z => I.ok.exfs L z hL
      exact ⟨hk, ⟨L, _, hf, hn, e, hd⟩, ih (fun b hb => hs b (by unfold frs; rw [List.filterMap_cons, hf]; exact List.mem_cons_of_mem _ hb)) hr⟩
  exact all X.outer (fun _ hb => hb) I.ok.funs

/-- the frames that run, for a call -/
theorem Inv.stack (I : Inv X pins σ H s) : s.heap.FunFrames X.base X.stack := by
  rcases I.ok.stk with e | ⟨e, hf⟩
  · rw [e]; exact I.funs
  · rw [e]
    obtain ⟨m, hn, _⟩ := I.loc
    refine .cons (by rw [I.ok.kind]; decide) hf hn ?_ I.funs
    exact Heap.get?_none_of_le (Nat.le_trans I.ok.bsz I.ok.above)
theorem Inv.stkSub (I : Inv X pins σ H s) : ∀ b ∈ frs X.stack, b ∈ X.env.locals :: X.fs := fun b hb => by
  rcases I.ok.stk with e | ⟨e, hf⟩
  · rw [e] at hb; exact List.mem_cons_of_mem _ hb
  · rw [e] at hb
    unfold frs at hb
    rw [List.filterMap_cons, hf] at hb
    exact hb
theorem Inv.stkFree (I : Inv X pins σ H s) : ∀ b ∈ frs X.stack, H b = none := fun b hb => by
  rcases List.mem_cons.mp (I.stkSub b hb) with e | hb
  · rw [e]; exact I.free
  · obtain ⟨_, o, ho, _⟩ := I.ok.funs.mem hb
    exact I.base.free b o ho (I.ok.frf b hb) fun z => I.ok.exfs b z hb

/-- THE STEP: the untracked objects but the frame and the records at ch are kept (the callers' frames up to slots), the frame's map is kept, the new abstract heap is held -/
theorem Inv.step {g' : Array GenState} {t' : Nat} {d' : Drawn} {ch : List Addr} (I : Inv X pins σ H s)
    (hch : ∀ b ∈ ch, (b ∈ X.ex ∨ X.s₀.heap.objs.size ≤ b) ∧ b ≠ X.env.locals ∧ (∀ x c, X.env.cells.lookup x = some c → c ≠ b) ∧ ∀ p ∈ X.pn ++ pins, p.1 ≠ b)
    (keep : ∀ b o, b ≠ X.env.locals → b ∉ X.fs → b ∉ ch → s.heap.get? b = some o → H b = none → h'.get? b = some o)
    (slot : ∀ b o, b ≠ X.env.locals → b ∈ X.fs → b ∉ ch → s.heap.get? b = some o → H b = none → ∃ sl, h'.get? b = some { o with slots := sl }) (free : ∀ b o, b ∉ ch → s.heap.get? b = some o → H b = none → H' b = none)
    (there : ∀ b o, b ∉ ch → s.heap.get? b = some o → ∃ o', h'.get? b = some o')
    (tups : ∀ b xs, H b = some (.tup xs) → H' b = some (.tup xs)) (frzs : ∀ b o u, H b = some (.frz o u) → H' b = some (.frz o u)) (tbls : ∀ b ps, H b = some (.tbl ps) → ∃ more, H' b = some (.tbl (ps ++ more)))
    (ns : ∀ m, s.heap.Ns X.env.locals m → h'.Ns X.env.locals m) (hok : HOk X.prog X.w H' h') (hg : AllBare g') :
    Inv X pins σ H' { s with heap := h', gens := g', drawn := d', toks := t' } := by
  have neL : ∀ b o, X.s₀.heap.get? b = some o → b ≠ X.env.locals := fun b o e => Nat.ne_of_lt (Nat.lt_of_lt_of_le (Heap.lt_size e) I.ok.above)
  have neC : ∀ b o, X.s₀.heap.get? b = some o → b ∉ X.ex → b ∉ ch := fun b o e hx hb => by
    rcases (hch b hb).1 with z | z
    · exact hx z
    · exact absurd (Nat.lt_of_lt_of_le (Heap.lt_size e) z) (Nat.lt_irrefl _)
  have cellK : ∀ x c, X.env.cells.lookup x = some c → ∀ v, s.heap.IsCell c v → h'.IsCell c v := fun x c e v ⟨o, ho, hd⟩ => by
    have nch : c ∉ ch := fun z => (hch c z).2.2.1 x c e rfl
    by_cases hc : c ∈ X.fs
    · obtain ⟨sl, q⟩ := slot c o (I.cne x c e) hc nch ho (I.freeC x c e)
      exact ⟨_, q, hd⟩
    · exact ⟨o, keep c o (I.cne x c e) hc nch ho (I.freeC x c e), hd⟩
  refine ⟨I.ok, I.os, hg, ⟨fun b o e n hb hx => ?_, fun b o e n hb hx => ?_, fun b o e n hx => ?_, fun b o e hx => ?_, fun b xs e => tups b xs (I.base.tups b xs e), fun b o xs e => frzs b o xs (I.base.frzs b o xs e), fun b ps e => ?_⟩, ?_, fun x c e => ?_, ?_, fun x c e => ?_, fun p hp => ?_, hok, I.len⟩
  · exact keep b o (neL b o e) hb (neC b o e hx) (I.base.keep b o e n hb hx) (I.base.free b o e n hx)
  · obtain ⟨sl, e1⟩ := I.base.slot b o e n hb hx
    obtain ⟨sl', e2⟩ := slot b _ (neL b o e) hb (neC b o e hx) e1 (I.base.free b o e n hx)
    exact ⟨sl', e2⟩
  · obtain ⟨o', e1⟩ := I.base.there b o e hx
    exact free b o' (neC b o e hx) e1 (I.base.free b o e n hx)
  · obtain ⟨o', e1⟩ := I.base.there b o e hx
    exact there b o' (neC b o e hx) e1
  · obtain ⟨m1, e1⟩ := I.base.tbls b ps e
    obtain ⟨m2, e2⟩ := tbls b _ e1
    exact ⟨m1 ++ m2, by rw [e2, Array.append_assoc]⟩
  · obtain ⟨m, hn, hl⟩ := I.loc
    refine ⟨m, ns m hn, fun i x v e1 e2 e3 => ?_⟩
    obtain ⟨u, r, l⟩ := hl i x v e1 e2 e3
    refine ⟨u, r, ?_⟩
    rcases l with l | ⟨k, c, e, z⟩
    · exact .inl l
    · exact .inr ⟨k, c, e, cellK x c e _ z⟩
  · obtain ⟨v, z⟩ := I.cell x c e
    exact ⟨v, cellK x c e v z⟩
  · obtain ⟨m, ⟨o, _, _, ho, _⟩, _⟩ := I.loc
    exact free _ o (fun z => (hch _ z).2.1 rfl) ho I.free
  · obtain ⟨v, o, ho, hd⟩ := I.cell x c e
    exact free c o (fun z => (hch c z).2.2.1 x c e rfl) ho (I.freeC x c e)
  · obtain ⟨e, n, ne, nf, d⟩ := I.pin p hp
    have nch : p.1 ∉ ch := fun z => (hch p.1 z).2.2.2 p hp rfl
    exact ⟨keep p.1 p.2 ne nf nch e n, free p.1 p.2 nch e n, ne, nf, d⟩
/-- .. where the frame's own object is kept too -/
theorem Inv.un {t' : Nat} (I : Inv X pins σ H s) (u : Un X.fs [] H H' s.heap h') (hok : HOk X.prog X.w H' h') : Inv X pins σ H' { s with heap := h', toks := t' } := by
  obtain ⟨m, ⟨o, es, ep, ho, r⟩, _⟩ := id I.loc
  obtain ⟨sl, hL⟩ := u.any ho I.free (by simp)
  exact I.step (g' := s.gens) (d' := s.drawn) (ch := []) (fun _ z => nomatch z) (fun b o _ hb _ e n => u.keep b o e n hb (by simp)) (fun b o _ hb _ e n => u.slot b o e n hb (by simp)) (fun b o _ e n => u.free b o e n (by simp)) (fun b o _ e => u.there b o e (by simp)) u.tups u.frzs u.tbls (fun m' hm => by
    obtain ⟨o', es', ep', ho', r'⟩ := hm
    rw [ho] at ho'; cases ho'
    exact ⟨_, es', ep', hL, r'⟩) hok I.bare
/-- behind a call (or a comprehension's block): the slots of this frame may have changed too, the records at ch may have turned -/
theorem Inv.call {g' : Array GenState} {t' : Nat} {d' : Drawn} {ch : List Addr} (I : Inv X pins σ H s) (u : Un (frs X.stack) ch H H' s.heap h') (hok : HOk X.prog X.w H' h') (hg : AllBare g')
    (hch : ∀ b ∈ ch, (b ∈ X.ex ∨ X.s₀.heap.objs.size ≤ b) ∧ b ≠ X.env.locals ∧ (∀ x c, X.env.cells.lookup x = some c → c ≠ b) ∧ ∀ p ∈ X.pn ++ pins, p.1 ≠ b) :
    Inv X pins σ H' { s with heap := h', gens := g', drawn := d', toks := t' } := by
  obtain ⟨m, ⟨o, es, ep, ho, r⟩, _⟩ := id I.loc
  obtain ⟨sl, hL⟩ := u.any ho I.free fun z => (hch _ z).2.1 rfl
  exact I.step (ch := ch) hch (fun b o hL hb hc e n => u.keep b o e n (fun z => (List.mem_cons.mp (I.stkSub b z)).elim hL hb) hc) (fun b o _ _ hc e n => u.any e n hc) (fun b o hc e n => u.free b o e n hc) (fun b o hc e => u.there b o e hc) u.tups u.frzs u.tbls (fun m' hm => by
    obtain ⟨o', es', ep', ho', r'⟩ := hm
    rw [ho] at ho'; cases ho'
    exact ⟨_, es', ep', hL, r'⟩) hok hg
/-- an untracked record of ours (an iterator) has turned -/
theorem Inv.turned {t' : Nat} {it : Addr} (I : Inv X pins σ H s) (k : ∀ b o, b ≠ it → s.heap.get? b = some o → h'.get? b = some o) (hn : H it = none) (hL : it ≠ X.env.locals)
    (h1 : it ∈ X.ex ∨ X.s₀.heap.objs.size ≤ it) (h2 : ∀ x c, X.env.cells.lookup x = some c → c ≠ it) (h3 : ∀ p ∈ X.pn ++ pins, p.1 ≠ it) : Inv X pins σ H { s with heap := h', toks := t' } := by
  have nit : ∀ b u, H b = some u → b ≠ it := fun b u e z => by rw [z, hn] at e; cases e
  refine I.step (g' := s.gens) (d' := s.drawn) (ch := [it]) (fun b hb => ?_) (fun b o _ _ hc e _ => k b o (fun z => hc (by simp [z])) e) (fun b o _ _ hc e _ => ⟨o.slots, k b o (fun z => hc (by simp [z])) e⟩) (fun _ _ _ _ n => n)
    (fun b o hc e => ⟨o, k b o (fun z => hc (by simp [z])) e⟩) (fun _ _ e => e) (fun _ _ _ e => e) (fun b ps e => ⟨#[], by rw [e]; simp⟩) (fun m hm => ?_) (fun b u e => ?_) I.bare
  · have e : b = it := by simpa using hb
    subst e
    exact ⟨h1, hL, h2, h3⟩
  · obtain ⟨o, es, ep, ho, r⟩ := hm
    exact ⟨o, es, ep, k _ o (Ne.symm hL) ho, r⟩
  · refine (I.hok b u e).stay (fun c v hc q => k c v ?_ q) (fun _ q => q) fun _ _ q => q
    rcases hc with z | z
    · rw [z]; exact nit b u e
    · exact nit c _ z
theorem Inv.tok (I : Inv X pins σ H s) (t : Nat) : Inv X pins σ H { s with toks := t } := I.un (h' := s.heap) (t' := t) Un.refl I.hok
/-- all objects kept -/
theorem Inv.kept {t' : Nat} (I : Inv X pins σ H s) (k : ∀ b u, s.heap.get? b = some u → h'.get? b = some u) : Inv X pins σ H { s with heap := h', toks := t' } := I.un (Un.kept k) (I.hok.kept k)
/-- a new object laid and tracked -/
theorem Inv.laid {a : Addr} {o : HO} {t' : Nat} (I : Inv X pins σ H s) (k : ∀ b u, s.heap.get? b = some u → h'.get? b = some u) (hp : s.heap.objs.size ≤ a) (new : ObjOk X.prog X.w (upd H a o) h' a o) :
    Inv X pins σ (upd H a o) { s with heap := h', toks := t' } := I.un (Un.laid k hp (I.hok.fresh hp)) (I.hok.laid k hp new)
/-- an object written -/
theorem Inv.write {x e : Addr} {o : HO} {t' : Nat} (I : Inv X pins σ H s) (mu : Mut (H x)) (he : e = x ∨ H e = some (.own x)) (k : ∀ b u, b ≠ e → s.heap.get? b = some u → h'.get? b = some u) (heo : ∃ u, h'.get? e = some u)
    (new : ObjOk X.prog X.w (upd H x o) h' x o) : Inv X pins σ (upd H x o) { s with heap := h', toks := t' } := I.un (Un.write mu he k heo) (I.hok.write mu he k heo new)
theorem Inv.pins_of {pins' : List (Addr × Obj)} (I : Inv X pins σ H s) (h : ∀ p ∈ pins', s.heap.get? p.1 = some p.2 ∧ H p.1 = none ∧ p.1 ≠ X.env.locals ∧ p.1 ∉ X.fs ∧ ∀ v, p.2.data ≠ .cell v) : Inv X pins' σ H s :=
  ⟨I.ok, I.os, I.bare, I.base, I.loc, I.cell, I.free, I.freeC, fun p hp => (List.mem_append.mp hp).elim (fun z => I.pin p (List.mem_append_left _ z)) (h p), I.hok, I.len⟩

theorem nodup_ix {N : List Str} (hN : N.Nodup) {i j : Nat} {x : Str} (a : N[i]? = some x) (b : N[j]? = some x) : i = j := by
  obtain ⟨h1, e1⟩ := List.getElem?_eq_some_iff.mp a
  obtain ⟨h2, e2⟩ := List.getElem?_eq_some_iff.mp b
  exact (List.getElem_inj hN).mp (e1.trans e2.symm)

/-- a name is stored; what changed -/
theorem store_ok2 {M : Model} {A : Around} {E : Value → Shared → Prop} {i : Nat} {x : Str} {v : V} {u : Value} {Q : Unit → Shared → Prop} (I : Inv X pins σ H s) (hN : X.N.Nodup) (hi : X.N[i]? = some x) (hx : Loc X.env.scope x) (r : RelV v u)
    (h : ∀ s', Inv X pins (σ.set i (some v)) H s' → (∃ a, Heap.SameBut a s.heap s'.heap ∧ (a = X.env.locals ∨ X.env.cells.lookup x = some a)) → Q () s') (hf : X.fn x = true ∨ X.env.scope.names.lookup x = some .local := by first | exact .inl rfl | exact .inr rfl | assumption) : wpAny M A (storeName X.env x u) Q E s := by
  obtain ⟨m, hn, hl⟩ := id I.loc
  have hcls : (X.env.scope.kind == .class || (X.env.scope.kind == .module && X.env.locals != X.env.globals)) = false := by rw [I.ok.kind]; rfl
  have hiσ : i < σ.length := by rw [I.len]; exact (List.getElem?_eq_some_iff.mp hi).1
  have cne := I.cne
  have tracked : ∀ {a : Addr} {h' : Heap}, (∃ o, s.heap.get? a = some o ∧ H a = none) → Heap.SameBut a s.heap h' → HOk X.prog X.w H h' := fun {a h'} ha hs b ob e => by
    obtain ⟨_, _, hfree⟩ := ha
    refine (I.hok b ob e).stay (fun c w' hc q => (hs.2 c ?_).trans q) (fun _ q => q) fun _ _ q => q
    rintro rfl
    rcases hc with rfl | hc
    · rw [hfree] at e; cases e
    · rw [hfree] at hc; cases hc
  rcases hx with hk | hk
  · refine wpAny_storeName_local hk hn (fun h' hn' hs => ?_) hcls
    obtain ⟨oL, _, _, hoL, _⟩ := id hn
    refine h _ ⟨I.ok, I.os, I.bare, ⟨fun b o e n hb hx => ?_, fun b o e n hb hx => ?_, I.base.free, fun b o e hx => ?_, I.base.tups, I.base.frzs, I.base.tbls⟩, ⟨_, hn', fun j y v' e1 e2 e3 => ?_⟩, fun y c e => ?_, I.free, I.freeC, fun p hp => ?_, tracked ⟨oL, hoL, I.free⟩ hs, by simpa using I.len⟩ ⟨_, hs, .inl rfl⟩
    · exact (hs.2 b (Nat.ne_of_lt (Nat.lt_of_lt_of_le (Heap.lt_size e) I.ok.above))).trans (I.base.keep b o e n hb hx)
    · obtain ⟨sl, e1⟩ := I.base.slot b o e n hb hx
      exact ⟨sl, (hs.2 b (Nat.ne_of_lt (Nat.lt_of_lt_of_le (Heap.lt_size e) I.ok.above))).trans e1⟩
    · obtain ⟨o', e1⟩ := I.base.there b o e hx
      exact ⟨o', (hs.2 b (Nat.ne_of_lt (Nat.lt_of_lt_of_le (Heap.lt_size e) I.ok.above))).trans e1⟩
    · by_cases hj : j = i
      · subst hj
        rw [hi] at e1; cases e1
        rw [List.getElem?_set_self hiσ] at e2
        cases e2
        exact ⟨u, r, .inl ⟨hk, by simp⟩⟩
      · rw [List.getElem?_set_ne (Ne.symm hj)] at e2
        obtain ⟨u', r', q⟩ := hl j y v' e1 e2 e3
        refine ⟨u', r', ?_⟩
        rcases q with ⟨k, e⟩ | ⟨k, c, e, z⟩
        · refine .inl ⟨k, ?_⟩
          have : y ≠ x := fun e => hj (nodup_ix hN e1 (e ▸ hi))
          simp [this, e]
        · exact .inr ⟨k, c, e, z.sameBut hs (cne y c e)⟩
    · obtain ⟨w', z⟩ := I.cell y c e
      exact ⟨w', z.sameBut hs (cne y c e)⟩
    · obtain ⟨e, n, ne, nf, d⟩ := I.pin p hp
      exact ⟨(hs.2 p.1 ne).trans e, n, ne, nf, d⟩
  · have hfn : X.fn x = true := by
      rcases hf with z | z
      · exact z
      · rw [z] at hk; cases hk
    obtain ⟨c, hc⟩ := I.ok.has x (.inl hk)
    obtain ⟨w', z⟩ := I.cell x c hc
    refine wpAny_storeName_cell I.ok.kind hk hc z (fun h' hc' hs => ?_)
    obtain ⟨oc, hoc, hocd⟩ := id z
    refine h { s with heap := h' } ⟨I.ok, I.os, I.bare, ⟨fun b o e n hb hx => ?_, fun b o e n hb hx => ?_, I.base.free, fun b o e hx => ?_, I.base.tups, I.base.frzs, I.base.tbls⟩, ⟨m, hn.sameBut hs (Ne.symm (cne x c hc)), fun j y v' e1 e2 e3 => ?_⟩, fun y c' e => ?_, I.free, I.freeC, fun p hp => ?_, tracked ⟨oc, hoc, I.freeC x c hc⟩ hs, by simpa using I.len⟩ ⟨c, hs, .inr hc⟩
    · exact (hs.2 b (Nat.ne_of_lt (Nat.lt_of_lt_of_le (Heap.lt_size e) (I.ok.cab x c hfn hc)))).trans (I.base.keep b o e n hb hx)
    · obtain ⟨sl, e1⟩ := I.base.slot b o e n hb hx
      exact ⟨sl, (hs.2 b (Nat.ne_of_lt (Nat.lt_of_lt_of_le (Heap.lt_size e) (I.ok.cab x c hfn hc)))).trans e1⟩
    · obtain ⟨o', e1⟩ := I.base.there b o e hx
      exact ⟨o', (hs.2 b (Nat.ne_of_lt (Nat.lt_of_lt_of_le (Heap.lt_size e) (I.ok.cab x c hfn hc)))).trans e1⟩
    · by_cases hj : j = i
      · subst hj
        rw [hi] at e1; cases e1
        rw [List.getElem?_set_self hiσ] at e2
        cases e2
        exact ⟨u, r, .inr ⟨.inl hk, c, hc, hc'⟩⟩
      · rw [List.getElem?_set_ne (Ne.symm hj)] at e2
        obtain ⟨u', r', q⟩ := hl j y v' e1 e2 e3
        refine ⟨u', r', ?_⟩
        rcases q with q | ⟨k, c', e, z'⟩
        · exact .inl q
        · refine .inr ⟨k, c', e, z'.sameBut hs ?_⟩
          rintro rfl
          exact hj (nodup_ix hN e1 (I.ok.inj _ _ _ e hc ▸ hi))
    · by_cases hcc : c' = c
      · subst hcc; exact ⟨_, hc'⟩
      · obtain ⟨w2, z2⟩ := I.cell y c' e
        exact ⟨w2, z2.sameBut hs hcc⟩
    · obtain ⟨e, n, ne, nf, d⟩ := I.pin p hp
      refine ⟨(hs.2 p.1 ?_).trans e, n, ne, nf, d⟩
      intro q
      rw [q, hoc] at e
      have q' : oc = p.2 := Option.some.inj e
      exact d w' (by rw [← q']; exact hocd)
theorem store_ok {M : Model} {A : Around} {E : Value → Shared → Prop} {i : Nat} {x : Str} {v : V} {u : Value} {Q : Unit → Shared → Prop} (I : Inv X pins σ H s) (hN : X.N.Nodup) (hi : X.N[i]? = some x) (hx : Loc X.env.scope x) (r : RelV v u)
    (h : ∀ s', Inv X pins (σ.set i (some v)) H s' → Q () s') (hf : X.fn x = true ∨ X.env.scope.names.lookup x = some .local := by first | exact .inl rfl | exact .inr rfl | assumption) : wpAny M A (storeName X.env x u) Q E s :=
  store_ok2 I hN hi hx r (fun s' I' _ => h s' I') hf
end

/-! ### the judgements -/
/-- an exception: its class, its own dict's address (where it has one), the abstract heap behind it -/
abbrev XK := Value → Option Addr → Hp → Prop
abbrev St := List (Option V)
abbrev VK := V → Hp → Prop
/-- an expression's reading; a test's; an argument list's -/
abbrev TE := St → Hp → VK → Prop
abbrev TT := St → Hp → (Bool → Hp → Prop) → Prop
abbrev TA := St → Hp → (List V → Hp → Prop) → Prop
/-- what is wanted behind a statement -/
structure Ends where
  nx : St → Hp → Prop
  rt : VK
  bk : St → Hp → Prop := fun _ _ => False
  ct : St → Hp → Prop := fun _ _ => False
abbrev TS := Ends → St → Hp → Prop

def EP (X : Cx) (pins : List (Addr × Obj)) (σ : St) (Q : VK) (u : Value) (s' : Shared) : Prop := ∃ v H', Inv X pins σ H' s' ∧ RelV v u ∧ Q v H'
def TP (X : Cx) (pins : List (Addr × Obj)) (σ : St) (Q : Bool → Hp → Prop) (b : Bool) (s' : Shared) : Prop := ∃ H', Inv X pins σ H' s' ∧ Q b H'
def AP (X : Cx) (pins : List (Addr × Obj)) (σ : St) (Q : List V → Hp → Prop) (us : List Value) (s' : Shared) : Prop := ∃ vs H', Inv X pins σ H' s' ∧ Vals vs us ∧ Q vs H'
def SP (X : Cx) (pins : List (Addr × Obj)) (D : Ends) (f : Flow) (s' : Shared) : Prop :=
  match f with
  | .next => ∃ σ' H', Inv X pins σ' H' s' ∧ D.nx σ' H'
  | .brk => ∃ σ' H', Inv X pins σ' H' s' ∧ D.bk σ' H'
  | .cont => ∃ σ' H', Inv X pins σ' H' s' ∧ D.ct σ' H'
  | .ret u => ∃ v σ' H', Inv X pins σ' H' s' ∧ RelV v u ∧ D.rt v H'

def PE (X : Cx) (e : Expr) (t : TE) : Prop :=
  ∀ (pins : List (Addr × Obj)) (s : Shared) (σ : St) (H : Hp) (Q : VK), Inv X pins σ H s → t σ H Q → wpAny (model X.prog X.w) X.A (eval e X.env) (EP X pins σ Q) X.xe s
def PT (X : Cx) (e : Expr) (t : TT) : Prop :=
  ∀ (pins : List (Addr × Obj)) (s : Shared) (σ : St) (H : Hp) (Q : Bool → Hp → Prop), Inv X pins σ H s → t σ H Q → wpAny (model X.prog X.w) X.A (isTrue e X.env (eval e X.env)) (TP X pins σ Q) X.xe s
/-- a test whatever its 'whole' is (and, or) -/
def PW (X : Cx) (e : Expr) (t : TT) : Prop :=
  ∀ (whole : Sem Value) (pins : List (Addr × Obj)) (s : Shared) (σ : St) (H : Hp) (Q : Bool → Hp → Prop), Inv X pins σ H s → t σ H Q → wpAny (model X.prog X.w) X.A (isTrue e X.env whole) (TP X pins σ Q) X.xe s
theorem PW.pt {X : Cx} {e : Expr} {t : TT} (h : PW X e t) : PT X e t := h _
/-- an argument list (no star), from the left -/
def PA (X : Cx) (es : List Expr) (t : TA) : Prop :=
  ∀ (pos : Pos) (pins : List (Addr × Obj)) (s : Shared) (σ : St) (H : Hp) (Q : List V → Hp → Prop), Inv X pins σ H s → t σ H Q → wpAny (model X.prog X.w) X.A (spliced (backTo pos (starEach es X.env))) (AP X pins σ Q) X.xe s
def PS (X : Cx) (st : Stmt) (t : TS) : Prop :=
  ∀ (pins : List (Addr × Obj)) (s : Shared) (σ : St) (H : Hp) (D : Ends), Inv X pins σ H s → t D σ H → wpAny (model X.prog X.w) X.A (exec st X.env) (SP X pins D) X.xe s
def PSs (X : Cx) (st : List Stmt) (t : TS) : Prop :=
  ∀ (pins : List (Addr × Obj)) (s : Shared) (σ : St) (H : Hp) (D : Ends), Inv X pins σ H s → t D σ H → wpAny (model X.prog X.w) X.A (execs st X.env) (SP X pins D) X.xe s
/-- weaken the end -/
theorem thn {α : Type} {t : Sem α} {Q Q' : α → Shared → Prop} {M : Model} {A : Around} {E : Value → Shared → Prop} {s : Shared} (h : wpAny M A t Q E s) (hQ : ∀ a s, Q a s → Q' a s) : wpAny M A t Q' E s := wpAny_mono h hQ fun _ _ x => x
end L2

namespace L2
open PySem PySem.Spec PyProof.Rows
section
variable {X : Cx}

/-! ### names and constants -/
def tVar (i : Nat) : TE := fun σ H Q => ∃ v, σ[i]? = some (some v) ∧ Q v H
def tC (v : V) : TE := fun _ H Q => Q v H
theorem pe_var {i : Nat} {x : Str} {pos : Pos} (hN : X.N[i]? = some x) (hv : Vis X.env.scope x) (hd : (x == ("__debug__" : Str)) = false := by decide) (hcd : (x == ("__classdict__" : Str)) = false := by decide) : PE X (.Name x pos) (tVar i) := by
  intro pins s σ H Q I h
  obtain ⟨v, e, h⟩ := h
  obtain ⟨m, hn, hl⟩ := I.loc
  obtain ⟨u, r, l⟩ := hl i x v hN e hv
  have fin : EP X pins σ Q u s := ⟨v, H, I, r, h⟩
  rcases l with ⟨hk, hm⟩ | ⟨hk, c, hc, hcell⟩
  · exact wpAny_Name (wpAny_loadName_local I.ok.kind hk hn hm fin) hd
  · rcases hk with hk | hk
    · exact wpAny_Name (wpAny_loadName_cell I.ok.kind hk hc hcell fin) hd
    · exact wpAny_Name (wpAny_loadName_free I.ok.kind hk hc hcell fin hcd) hd
theorem pe_int {i j pos} : PE X (.Constant (.int i) j pos) (tC (.int i)) := fun _ _ _ H _ I h => wpAny_Constant_int ⟨.int i, H, I.tok _, ⟨_, rfl⟩, h⟩
theorem pe_bl {b j pos} : PE X (.Constant (.bool b) j pos) (tC (.bl b)) := fun _ _ _ H _ I h => Constant_bool ⟨.bl b, H, I, rfl, h⟩
theorem pe_non {j pos} : PE X (.Constant .none j pos) (tC .non) := fun _ _ _ H _ I h => Constant_none ⟨.non, H, I, rfl, h⟩
theorem pe_str {x j pos} : PE X (.Constant (.str x) j pos) (tC (.str x)) := fun _ _ _ H _ I h => Calls.Constant_str ⟨.str x, H, I.tok _, ⟨_, rfl⟩, h⟩

/-- a global name of the def -/
def Gl (X : Cx) (x : Str) : Prop := X.env.kindOf x = some .globalImplicit
theorem ld_glob {E : Value → Shared → Prop} {pins : List (Addr × Obj)} {s : Shared} {σ : St} {H : Hp} {x : Str} {u : Value} {pos : Pos} {Q : Value → Shared → Prop} (I : Inv X pins σ H s) (hg : Gl X x) (hm : X.mg x = some u) (h : Q u s)
    (hd : (x == ("__debug__" : Str)) = false := by decide) : wpAny (model X.prog X.w) X.A (eval (.Name x pos) X.env) Q E s :=
  Calls.Name_function_global I.ok.kind hg (Calls.loadGlobal_global (by rw [I.ok.glob]; exact I.mod.glob.keeps I.bk) hm h) hd
theorem ld_blt {E : Value → Shared → Prop} {pins : List (Addr × Obj)} {s : Shared} {σ : St} {H : Hp} {x : Str} {u : Value} {pos : Pos} {Q : Value → Shared → Prop} (I : Inv X pins σ H s) (hg : Gl X x) (hm : X.mg x = none) (hv : bootBuiltins x = some u) (h : Q u s)
    (hn : x ≠ "__name__" := by decide) (hd : (x == ("__debug__" : Str)) = false := by decide) : wpAny (model X.prog X.w) X.A (eval (.Name x pos) X.env) Q E s := by
  obtain ⟨mb, h1, h2⟩ := I.mod.blt
  exact Calls.Name_function_global I.ok.kind hg (Calls.loadGlobal_builtin (by rw [I.ok.glob]; exact I.mod.glob.keeps I.bk) hm (by rw [I.ok.blt]; exact h1.keeps I.bk) ((h2 x hn).trans hv) h) hd
/-- a module's constant, a class, a function, as a value -/
theorem pe_glob {x : Str} {v : V} {u : Value} {pos : Pos} (hg : Gl X x) (hm : X.mg x = some u) (r : RelV v u) (hd : (x == ("__debug__" : Str)) = false := by decide) : PE X (.Name x pos) (tC v) :=
  fun _ _ _ H _ I h => ld_glob I hg hm ⟨v, H, I, r, h⟩ hd
theorem pe_bltn {x : Str} {v : V} {u : Value} {pos : Pos} (hg : Gl X x) (hm : X.mg x = none) (hv : bootBuiltins x = some u) (r : RelV v u) (hn : x ≠ "__name__" := by decide) (hd : (x == ("__debug__" : Str)) = false := by decide) : PE X (.Name x pos) (tC v) :=
  fun _ _ _ H _ I h => ld_blt I hg hm hv ⟨v, H, I, r, h⟩ hn hd

/-! ### arithmetic -/
variable {a b : Expr} {ta tb : TE} {pos : Pos}
/-! ### comparisons -/
/-- a comparison as a value, as a test -/
def tB (t : TE) : TT := fun σ H Q => t σ H fun x H1 => ∃ c, x = .bl c ∧ Q c H1
/-- an expression whose value is a bool, as a test -/
theorem pt_val {e : Expr} {t : TE} (h : PE X e t) (he : ∀ whole, isTrue e X.env whole = (do let v ← whole; standAt e.pos; holding [v] (truthy v)) := by intro _; rfl) : PT X e (tB t) := by
  intro pins s σ H Q I hw
  refine isTrue_plain (thn (h pins s σ H _ I hw) fun v s1 ⟨x, H1, I1, r1, q1⟩ => ?_) (he _)
  obtain ⟨d, rfl, q⟩ := q1
  cases r1
  exact wpAny_truthy_bool ⟨H1, I1, q⟩

/-! ### and, or, not -/
variable {tA tB' : TT} {rest : List Expr}
def tAnd (t u : TT) : TT := fun σ H Q => t σ H fun c H1 => if c = true then u σ H1 Q else Q false H1
def tOr (t u : TT) : TT := fun σ H Q => t σ H fun c H1 => if c = true then Q true H1 else u σ H1 Q
def tNot (t : TT) : TT := fun σ H Q => t σ H fun c H1 => Q (!c) H1
theorem pw_and1 (ha : PT X a tA) : PW X (.BoolOp .And [a] pos) tA := by
  intro wh pins s σ H Q I h
  refine isTrue_and (thn (ha pins s σ H Q I h) fun c s1 e => ?_)
  cases c with
  | true => exact isTrue_and_nil e
  | false => exact e
theorem pw_or1 (ha : PT X a tA) : PW X (.BoolOp .Or [a] pos) tA := by
  intro wh pins s σ H Q I h
  refine isTrue_or (thn (ha pins s σ H Q I h) fun c s1 e => ?_)
  cases c with
  | false => exact isTrue_or_nil e
  | true => exact e
theorem pw_and (ha : PT X a tA) (hb : PW X (.BoolOp .And (b :: rest) pos) tB') : PW X (.BoolOp .And (a :: b :: rest) pos) (tAnd tA tB') := by
  intro wh pins s σ H Q I h
  refine isTrue_and (thn (ha pins s σ H _ I h) fun c s1 ⟨H1, I1, q1⟩ => ?_)
  cases c with
  | true => exact hb wh pins s1 σ H1 Q I1 q1
  | false => exact ⟨H1, I1, q1⟩
theorem pw_or (ha : PT X a tA) (hb : PW X (.BoolOp .Or (b :: rest) pos) tB') : PW X (.BoolOp .Or (a :: b :: rest) pos) (tOr tA tB') := by
  intro wh pins s σ H Q I h
  refine isTrue_or (thn (ha pins s σ H _ I h) fun c s1 ⟨H1, I1, q1⟩ => ?_)
  cases c with
  | true => exact ⟨H1, I1, q1⟩
  | false => exact hb wh pins s1 σ H1 Q I1 q1
theorem pt_not (ha : PT X a tA) : PT X (.UnaryOp .Not a pos) (tNot tA) := by
  intro pins s σ H Q I h
  exact isTrue_not (ha pins s σ H (fun c H1 => Q (!c) H1) I h)
/-- .. as values (bools) -/
def tAndV (ta tb : TE) : TE := fun σ H Q => ta σ H fun x H1 => ∃ c, x = .bl c ∧ if c = true then tb σ H1 Q else Q (.bl false) H1
def tOrV (ta tb : TE) : TE := fun σ H Q => ta σ H fun x H1 => ∃ c, x = .bl c ∧ if c = true then Q (.bl true) H1 else tb σ H1 Q
def tNotV (ta : TE) : TE := fun σ H Q => ta σ H fun x H1 => ∃ c, x = .bl c ∧ Q (.bl (!c)) H1
theorem pe_one {op} {t : TE} (h : PE X a t) : PE X (.BoolOp op [a] pos) t := fun pins s σ H Q I hw => BoolOp_one (h pins s σ H Q I hw)
theorem pe_and (ha : PE X a ta) (hb : PE X (.BoolOp .And (b :: rest) pos) tb) : PE X (.BoolOp .And (a :: b :: rest) pos) (tAndV ta tb) := by
  intro pins s σ H Q I h
  refine BoolOp_and (thn (ha pins s σ H _ I h) fun v s1 ⟨x, H1, I1, r1, q1⟩ => ?_)
  obtain ⟨c, rfl, q1⟩ := q1
  cases r1
  refine wpAny_truthy_bool ?_
  cases c with
  | true => exact hb pins s1 σ H1 Q I1 q1
  | false => exact ⟨.bl false, H1, I1, rfl, q1⟩
theorem pe_or (ha : PE X a ta) (hb : PE X (.BoolOp .Or (b :: rest) pos) tb) : PE X (.BoolOp .Or (a :: b :: rest) pos) (tOrV ta tb) := by
  intro pins s σ H Q I h
  refine BoolOp_or (thn (ha pins s σ H _ I h) fun v s1 ⟨x, H1, I1, r1, q1⟩ => ?_)
  obtain ⟨c, rfl, q1⟩ := q1
  cases r1
  refine wpAny_truthy_bool ?_
  cases c with
  | false => exact hb pins s1 σ H1 Q I1 q1
  | true => exact ⟨.bl true, H1, I1, rfl, q1⟩
/-- a if t else b -/
def tIf (t : TT) (ta tb : TE) : TE := fun σ H Q => t σ H fun c H1 => if c = true then ta σ H1 Q else tb σ H1 Q
theorem pe_ifExp {c : Expr} (hc : PT X c tA) (ha : PE X a ta) (hb : PE X b tb) : PE X (.IfExp c a b pos) (tIf tA ta tb) := by
  intro pins s σ H Q I h
  refine wpAny_IfExp (thn (hc pins s σ H _ I h) fun d s1 ⟨H1, I1, q1⟩ => ?_)
  cases d with
  | true => exact ha pins s1 σ H1 Q I1 q1
  | false => exact hb pins s1 σ H1 Q I1 q1
end
end L2

namespace L2
open PySem PySem.Spec PyProof.Rows

/-! ### a list, a tuple that is read: tracked, frozen, or an object of the module -/
def SqL (K : PySem.W.Frag) (H : Hp) (a : Addr) (xs : List V) : Prop :=
  Rd H a (.lst xs) ∨
    ∃ (o : Obj) (its : Array Value) (n : Nat), K.lookup a = some o ∧ o.cls = .type "list" ∧ o.dict = none ∧ o.data = .seq its n ∧ its.size ≤ sizeLine ∧ Vals xs its.toList
def SqT (K : PySem.W.Frag) (H : Hp) (a : Addr) (xs : List V) : Prop :=
  Rd H a (.tup xs) ∨
    ∃ (o : Obj) (its : Array Value) (n : Nat), K.lookup a = some o ∧ o.cls = .type "tuple" ∧ o.data = .seq its n ∧ its.size ≤ sizeLine ∧ Vals xs its.toList
def absV : Value → Option V
  | .none => some .non
  | .bool b => some (.bl b)
  | .int i _ => some (.int i)
  | .str x _ => some (.str x)
  | .bytes b _ => some (.byt b)
  | .float b _ => some (.flt b)
  | .ref a => some (.ref a)
  | .type n => some (.ty n)
  | _ => none
theorem RelV.abs {x : V} {u : Value} (r : RelV x u) : absV u = some x := by
  cases x with
  | non => cases r; rfl
  | bl _ => cases r; rfl
  | int _ => obtain ⟨t, rfl⟩ := r; rfl
  | str _ => obtain ⟨t, rfl⟩ := r; rfl
  | byt _ => obtain ⟨t, rfl⟩ := r; rfl
  | flt _ => obtain ⟨t, rfl⟩ := r; rfl
  | ref _ => cases r; rfl
  | ty _ => cases r; rfl
theorem RelV.inj {x y : V} {u : Value} (r : RelV x u) (q : RelV y u) : x = y := Option.some.inj (r.abs.symm.trans q.abs)
theorem Vals.inj : ∀ {xs ys : List V} {us : List Value}, Vals xs us → Vals ys us → xs = ys
  | _, _, _, .nil, .nil => rfl
  | _, _, _, .cons r t, .cons r' t' => by rw [r.inj r', Vals.inj t t']
section
variable {X : Cx} {pins : List (Addr × Obj)} {σ : St} {H : Hp} {s : Shared} {a : Addr} {xs ys : List V}
theorem SqL.of {K : PySem.W.Frag} (h : H a = some (.lst xs)) : SqL K H a xs := .inl (.inl h)
theorem SqT.of {K : PySem.W.Frag} (h : H a = some (.tup xs)) : SqT K H a xs := .inl (.inl h)
theorem Inv.list (I : Inv X pins σ H s) (h : SqL X.K H a xs) : ∃ its : List Value, Vals xs its ∧ PlainL s.heap a its.toArray ∧ xs.length ≤ sizeLine := by
  rcases h with h | ⟨o, its, n, hk, hc, hd, hs, hz, r⟩
  · obtain ⟨z, its, n, r, e⟩ := h.ok I.hok
    exact ⟨its, r, ⟨_, n, e, rfl, rfl, rfl⟩, z⟩
  · refine ⟨its.toList, r, ⟨o, n, I.kIn a o hk, hc, hd, by simpa using hs⟩, ?_⟩
    have e := r.length
    simp only [Array.length_toList] at e
    omega
theorem Inv.tuple (I : Inv X pins σ H s) (h : SqT X.K H a xs) : ∃ its : List Value, Vals xs its ∧ IsTup s.heap a its.toArray ∧ xs.length ≤ sizeLine := by
  rcases h with h | ⟨o, its, n, hk, hc, hs, hz, r⟩
  · obtain ⟨z, its, r, p⟩ := h.ok I.hok
    exact ⟨its, r, p, z⟩
  · refine ⟨its.toList, r, ⟨o, I.kIn a o hk, hc, n, by simpa using hs⟩, ?_⟩
    have e := r.length
    simp only [Array.length_toList] at e
    omega
theorem Inv.list_inj (I : Inv X pins σ H s) (h : SqL X.K H a xs) (h' : SqL X.K H a ys) : xs = ys := by
  obtain ⟨its, r, ⟨o, n, e, _, _, d⟩, _⟩ := I.list h
  obtain ⟨its', r', ⟨o', n', e', _, _, d'⟩, _⟩ := I.list h'
  rw [e] at e'; cases e'
  rw [d] at d'
  injection d' with d1 _
  have : its = its' := by simpa using congrArg Array.toList d1
  subst this
  exact r.inj r'
theorem Inv.tuple_inj (I : Inv X pins σ H s) (h : SqT X.K H a xs) (h' : SqT X.K H a ys) : xs = ys := by
  obtain ⟨its, r, ⟨o, e, _, n, d⟩, _⟩ := I.tuple h
  obtain ⟨its', r', ⟨o', e', _, n', d'⟩, _⟩ := I.tuple h'
  rw [e] at e'; cases e'
  rw [d] at d'
  injection d' with d1 _
  have : its = its' := by simpa using congrArg Array.toList d1
  subst this
  exact r.inj r'
end

/-! ### another wish about exceptions -/
abbrev Cx.wish (X : Cx) (E : Value → Shared → Prop) : Cx := { X with xe := E }
/-- no exception leaves -/
abbrev Cx.nox (X : Cx) : Cx := X.wish fun _ _ => False
theorem Cx.Ok.wish {X : Cx} (ok : X.Ok) (E : Value → Shared → Prop) : (X.wish E).Ok :=
  ⟨ok.mod, ok.kind, ok.glob, ok.blt, ok.above, ok.inj, ok.has, ok.cab, ok.hd, ok.frames, ok.stk, ok.exf, ok.bs, ok.bsz, ok.noex, ok.exfs, ok.funs, ok.frf⟩
theorem Cx.Ok.unwish {X : Cx} {E : Value → Shared → Prop} (ok : (X.wish E).Ok) : X.Ok :=
  ⟨ok.mod, ok.kind, ok.glob, ok.blt, ok.above, ok.inj, ok.has, ok.cab, ok.hd, ok.frames, ok.stk, ok.exf, ok.bs, ok.bsz, ok.noex, ok.exfs, ok.funs, ok.frf⟩
section
variable {X : Cx} {pins : List (Addr × Obj)} {σ : St} {H : Hp} {s : Shared} {E : Value → Shared → Prop}
theorem Inv.wish (I : Inv X pins σ H s) (E : Value → Shared → Prop) : Inv (X.wish E) pins σ H s := ⟨I.ok.wish E, I.os, I.bare, I.base, I.loc, I.cell, I.free, I.freeC, I.pin, I.hok, I.len⟩
theorem Inv.unwish (I : Inv (X.wish E) pins σ H s) : Inv X pins σ H s := ⟨I.ok.unwish, I.os, I.bare, I.base, I.loc, I.cell, I.free, I.freeC, I.pin, I.hok, I.len⟩
theorem SP.unwish {D : Ends} {f : Flow} {s' : Shared} (h : SP (X.wish E) pins D f s') : SP X pins D f s' := by
  cases f with
  | next => obtain ⟨σ', H', I, q⟩ := h; exact ⟨σ', H', I.unwish, q⟩
  | brk => obtain ⟨σ', H', I, q⟩ := h; exact ⟨σ', H', I.unwish, q⟩
  | cont => obtain ⟨σ', H', I, q⟩ := h; exact ⟨σ', H', I.unwish, q⟩
  | ret u => obtain ⟨v, σ', H', I, r, q⟩ := h; exact ⟨v, σ', H', I.unwish, r, q⟩
theorem PE.nox {e : Expr} {t : TE} (h : PE X.nox e t) : PE X e t := fun pins s σ H Q I hw =>
  wpAny_mono (h pins s σ H Q (I.wish _) hw) (fun _ _ ⟨v, H', I', r, q⟩ => ⟨v, H', I'.unwish, r, q⟩) fun _ _ z => False.elim z
theorem PT.nox {e : Expr} {t : TT} (h : PT X.nox e t) : PT X e t := fun pins s σ H Q I hw =>
  wpAny_mono (h pins s σ H Q (I.wish _) hw) (fun _ _ ⟨H', I', q⟩ => ⟨H', I'.unwish, q⟩) fun _ _ z => False.elim z
theorem PSs.nox {st : List Stmt} {t : TS} (h : PSs X.nox st t) : PSs X st t := fun pins s σ H D I hw =>
  wpAny_mono (h pins s σ H D (I.wish _) hw) (fun _ _ q => q.unwish) fun _ _ z => False.elim z
end

/-! ### blocks and small statements -/
section
variable {X : Cx} {st : Stmt} {rest : List Stmt} {t u : TS} {e : Expr} {te : TE} {pos : Pos}
def tNext : TS := fun D σ H => D.nx σ H
def tSeq (t u : TS) : TS := fun D σ H => t { D with nx := u D } σ H
theorem pss_nil : PSs X [] tNext := fun _ _ σ H _ I h => wpAny_execs_nil ⟨σ, H, I, h⟩
theorem pss_cons (h1 : PS X st t) (h2 : PSs X rest u) : PSs X (st :: rest) (tSeq t u) := by
  intro pins s σ H D I h
  refine wpAny_execs_cons (thn (h1 pins s σ H { D with nx := u D } I h) fun f s1 q => ?_)
  cases f with
  | next =>
    obtain ⟨σ', H', I', q⟩ := q
    exact h2 pins s1 σ' H' D I' q
  | ret v => exact q
  | brk => exact q
  | cont => exact q
theorem pss_one (h1 : PS X st t) : PSs X [st] t := by
  intro pins s σ H D I h
  refine wpAny_execs_cons (thn (h1 pins s σ H D I h) fun f s1 q => ?_)
  cases f with
  | next => exact wpAny_execs_nil q
  | ret v => exact q
  | brk => exact q
  | cont => exact q
def tBreak : TS := fun D σ H => D.bk σ H
/-- in a def's body nothing is shown -/
theorem Inv.quiet {pins : List (Addr × Obj)} {σ : St} {H : Hp} {s : Shared} (I : Inv X pins σ H s) : interactive X.env = false := by simp [interactive, I.ok.kind]
/-- an expression whose value is dropped -/
def tDrop (te : TE) : TS := fun D σ H => te σ H fun _ H1 => D.nx σ H1
theorem ps_expr (he : PE X e te) (hs : swapsWith e none pos.line X.env = pure false := by rfl) : PS X (.Expr e pos) (tDrop te) := by
  intro pins s σ H D I h
  exact wpAny_Expr_any (thn (he pins s σ H _ I h) fun v s1 ⟨x, H1, I1, r1, q1⟩ => ⟨σ, H1, I1, q1⟩) I.quiet hs
def tRet (te : TE) : TS := fun D σ H => te σ H D.rt
theorem ps_ret (he : PE X e te) : PS X (.Return (some e) pos) (tRet te) := by
  intro pins s σ H D I h
  exact wpAny_Return_some (thn (he pins s σ H _ I h) fun v s1 ⟨x, H1, I1, r1, q1⟩ => ⟨x, σ, H1, I1, r1, q1⟩)
def tIfS (c : TT) (t u : TS) : TS := fun D σ H => c σ H fun b H1 => if b = true then t D σ H1 else u D σ H1
theorem ps_if {c : Expr} {a b : List Stmt} {tc : TT} (hc : PT X c tc) (ha : PSs X a t) (hb : PSs X b u) : PS X (.If c a b pos) (tIfS tc t u) := by
  intro pins s σ H D I h
  refine wpAny_If (thn (hc pins s σ H _ I h) fun d s1 ⟨H1, I1, q1⟩ => ?_)
  cases d with
  | true => exact ha pins s1 σ H1 D I1 q1
  | false => exact hb pins s1 σ H1 D I1 q1
/-- code that the proof never comes to -/
def tNever : TS := fun _ _ _ => False
theorem ps_never : PS X st tNever := fun _ _ _ _ _ _ h => h.elim
end

/-! ### targets -/
abbrev TG := V → St → Hp → (St → Hp → Prop) → Prop
abbrev TGs := List V → St → Hp → (St → Hp → Prop) → Prop
def PG (X : Cx) (target : Expr) (t : TG) : Prop :=
  ∀ (pins : List (Addr × Obj)) (s : Shared) (σ : St) (H : Hp) (v : V) (u : Value) (Q : St → Hp → Prop), Inv X pins σ H s → RelV v u → t v σ H Q →
    wpAny (model X.prog X.w) X.A (assign target X.env u) (fun _ s' => ∃ σ' H', Inv X pins σ' H' s' ∧ Q σ' H') X.xe s
/-- several targets, one after another -/
def PGs (X : Cx) (ts : List Expr) (t : TGs) : Prop :=
  ∀ (pins : List (Addr × Obj)) (s : Shared) (σ : St) (H : Hp) (vs : List V) (us : List Value) (Q : St → Hp → Prop), Inv X pins σ H s → Vals vs us → t vs σ H Q →
    wpAny (model X.prog X.w) X.A (assignInOrder ((assignEach ts X.env).map (·.2)) us) (fun _ s' => ∃ σ' H', Inv X pins σ' H' s' ∧ Q σ' H') X.xe s
/-- o[i] = v, by values -/
abbrev TSet := V → V → V → Hp → (Hp → Prop) → Prop
section
variable {X : Cx} {pos : Pos}
def gName (i : Nat) : TG := fun v σ H Q => Q (σ.set i (some v)) H
theorem pg_name {i : Nat} {x : Str} (hN : X.N.Nodup) (hi : X.N[i]? = some x) (hx : Loc X.env.scope x) (hf : X.fn x = true ∨ X.env.scope.names.lookup x = some .local := by first | exact .inl rfl | exact .inr rfl | assumption) : PG X (.Name x pos) (gName i) := by
  intro pins s σ H v u Q I r h
  exact wpAny_assign_Name (store_ok I hN hi hx r (fun s' I' => ⟨_, H, I', h⟩) hf)
def gNil : TGs := fun vs σ H Q => vs = [] ∧ Q σ H
def gCons (t : TG) (u : TGs) : TGs := fun vs σ H Q => ∃ v r, vs = v :: r ∧ t v σ H fun σ' H' => u r σ' H' Q
theorem pgs_nil : PGs X [] gNil := by
  intro pins s σ H vs us Q I r h
  obtain ⟨e, h⟩ := h
  subst e
  cases r
  exact assignInOrder_nil ⟨σ, H, I, h⟩
theorem pgs_cons {e : Expr} {es : List Expr} {t : TG} {u : TGs} (h1 : PG X e t) (h2 : PGs X es u)
    (hs : (assignEach (e :: es) X.env).map (·.2) = assign e X.env :: (assignEach es X.env).map (·.2) := by rfl) : PGs X (e :: es) (gCons t u) := by
  intro pins s σ H vs us Q I r h
  obtain ⟨v, vr, e1, h⟩ := h
  subst e1
  cases r with
  | cons r rr =>
    rw [hs]
    refine assignInOrder_cons (thn (h1 pins s σ H _ _ _ I r h) fun _ s1 ⟨σ1, H1, I1, q1⟩ => ?_)
    exact h2 pins s1 σ1 H1 _ _ Q I1 rr q1
/-- (a, b, ..) = a tuple of that length -/
def gTup (K : PySem.W.Frag) (n : Nat) (t : TGs) : TG := fun v σ H Q => ∃ a xs, v = .ref a ∧ SqT K H a xs ∧ xs.length = n ∧ t xs σ H Q
theorem pg_tup {es : List Expr} {k : Nat} {t : TGs} {n : Nat} (hc : X.calm = true) (h : PGs X es t)
    (hn : (assignEach es X.env).length = n := by rfl) (hst : (assignEach es X.env).findIdx? (·.1) = none := by rfl) : PG X (.Tuple es k pos) (gTup X.K n t) := by
  intro pins s σ H v u Q I r hw
  obtain ⟨a, xs, e1, hq, hl, hw⟩ := hw
  subst e1
  cases r
  obtain ⟨its, rv, ht, hz⟩ := I.tuple hq
  refine assign_Tuple_tuple (I.ok.hd hc) ht (by simp [hn, ← hl, rv.length]) hst fun h' hx => ?_
  have I1 : Inv X pins σ H { s with heap := h' } := I.kept (t' := s.toks) fun b o e => hx b o (Nat.ne_of_lt (Heap.lt_size e)) e
  exact h pins _ σ H xs _ Q I1 (by simpa using rv) hw
/-- o[i] = .. -/
def gSub (to ti : TE) (t : TSet) : TG := fun v σ H Q => to σ H fun o H1 => ti σ H1 fun i H2 => t o i v H2 fun H3 => Q σ H3
/-- target = value -/
def tAsg (te : TE) (g : TG) : TS := fun D σ H => te σ H fun x H1 => g x σ H1 D.nx
theorem ps_asg {tg e : Expr} {te : TE} {g : TG} (he : PE X e te) (hg : PG X tg g) (hs : swapsWithSole [tg] e pos.line X.env = pure false := by rfl) (hw : swappedStores [tg] e X.env = pure none := by rfl)
    (h1 : (assignEach [tg] X.env).map (·.2) = [assign tg X.env] := by rfl) : PS X (.Assign [tg] e pos) (tAsg te g) := by
  intro pins s σ H D I h
  refine wpAny_Assign_stores (thn (he pins s σ H _ I h) fun v s1 ⟨x, H1, I1, r1, q1⟩ => ?_) hs hw
  rw [h1]
  exact thn (hg pins s1 σ H1 x v _ I1 r1 q1) fun _ s2 q => q
/-- name = value -/
theorem ps_set {i : Nat} {x : Str} {e : Expr} {te : TE} {pos' : Pos} (hN : X.N.Nodup) (hi : X.N[i]? = some x) (hx : Loc X.env.scope x) (he : PE X e te) (hs : swapsWith e (some (.Name x pos')) pos.line X.env = pure false := by rfl) (hf : X.fn x = true ∨ X.env.scope.names.lookup x = some .local := by first | exact .inl rfl | exact .inr rfl | assumption) :
    PS X (.Assign [.Name x pos'] e pos) (tAsg te (gName i)) := by
  intro pins s σ H D I h
  refine wpAny_Assign_Name (thn (he pins s σ H _ I h) fun v s1 ⟨y, H1, I1, r1, q1⟩ => ?_) hs
  exact store_ok I1 hN hi hx r1 (fun s2 I2 => ⟨_, H1, I2, q1⟩) hf
end

/-! ### while -/
section
variable {X : Cx} {pos : Pos}
/-- the invariant W with its measure -/
def tWhile (c : TT) (tb : TS) : TS := fun D σ H => ∃ W : Nat → St → Hp → Prop, (∃ m, W m σ H) ∧ ∀ m σ H, W m σ H →
  c σ H fun b H1 => if b = true then ∃ N : St → Hp → Prop, (∀ σ' H', N σ' H' → ∃ m', m' < m ∧ W m' σ' H') ∧ tb { D with nx := N, ct := N, bk := D.nx } σ H1 else D.nx σ H1
theorem ps_while {c : Expr} {body : List Stmt} {tc : TT} {tb : TS} (hp : PassesOwn (model X.prog X.w) X.A X.env X.xe) (hc : PT X c tc) (hb : PSs X body tb) : PS X (.While c body [] pos) (tWhile tc tb) := by
  intro pins s σ H D I h
  obtain ⟨W, ⟨m0, w0⟩, turn⟩ := h
  refine wpAny_While (codeAny_whileLoop (fun n s' => ∃ σ' H', Inv X pins σ' H' s' ∧ W n σ' H') ?_ m0 ⟨σ, H, I, w0⟩)
  rintro n s1 ⟨σ1, H1, I1, w1⟩
  refine wpAny_passesOwn hp (thn (hc pins s1 σ1 H1 _ I1 (turn n σ1 H1 w1)) fun b s2 ⟨H2, I2, q2⟩ => ?_)
  cases b with
  | true =>
    obtain ⟨N, hN, q2⟩ := q2
    rw [if_pos rfl]
    refine wpAny_passesOwn hp (thn (hb pins s2 σ1 H2 _ I2 q2) fun f s3 q3 => ?_)
    cases f with
    | next =>
      obtain ⟨σ3, H3, I3, n3⟩ := q3
      obtain ⟨m', hm, w3⟩ := hN σ3 H3 n3
      exact ⟨m', hm, σ3, H3, I3, w3⟩
    | cont =>
      obtain ⟨σ3, H3, I3, n3⟩ := q3
      obtain ⟨m', hm, w3⟩ := hN σ3 H3 n3
      exact ⟨m', hm, σ3, H3, I3, w3⟩
    | brk => exact q3
    | ret v => exact q3
  | false =>
    rw [if_neg Bool.false_ne_true]
    exact wpAny_execs_nil ⟨σ1, H2, I2, q2⟩
end

/-! ### what a loop or a comprehension walks -/
/-- at turn i: it yields x (the heap may grow), or it stops -/
structure It where
  go : Nat → Hp → Prop
  yld : Nat → Hp → V → Hp → Prop
  stop : Nat → Hp → Prop
/-- the iterator's own objects may turn: they are not the frame's, not pinned, younger than the entry (or a comprehension's own) -/
def FpOk (X : Cx) (pins : List (Addr × Obj)) (H : Hp) (b : Addr) : Prop :=
  H b = none ∧ b ≠ X.env.locals ∧ b ∉ X.fs ∧ (b ∈ X.ex ∨ X.s₀.heap.objs.size ≤ b) ∧ (∀ x c, X.env.cells.lookup x = some c → c ≠ b) ∧ ∀ p ∈ X.pn ++ pins, p.1 ≠ b
theorem Inv.fpOk {X : Cx} {pins : List (Addr × Obj)} {σ : St} {H H' : Hp} {s : Shared} {b : Addr} (I : Inv X pins σ H s) (hb : s.heap.objs.size ≤ b) (hn : H' b = none) : FpOk X pins H' b := by
  refine ⟨hn, Nat.ne_of_gt (Nat.lt_of_lt_of_le I.lt hb), I.nofs hb, .inr (Nat.le_trans I.sz hb), fun x c e z => ?_, fun p hp z => ?_⟩
  · obtain ⟨v, q⟩ := I.cell x c e
    exact absurd (Nat.lt_of_lt_of_le q.lt (by rw [z]; exact hb)) (Nat.lt_irrefl _)
  · exact absurd (Nat.lt_of_lt_of_le (Heap.lt_size (I.pin p hp).1) (by rw [z]; exact hb)) (Nat.lt_irrefl _)
structure Turn (P : Program) (w : World) (K : PySem.W.Frag) (tg : Expr) (J : It) (fp : List Addr) (it : Addr) (tn : Nat → Heap → Prop) : Prop where
  mem : it ∈ fp
  obj : ∀ i h, tn i h → ∀ b ∈ fp, ∃ o, h.get? b = some o ∧ ∀ v, o.data ≠ .cell v
  keep : ∀ i h h', tn i h → (∀ b ∈ fp, ∀ o, h.get? b = some o → h'.get? b = some o) → tn i h'
  item : ∀ (X : Cx), X.prog = P → X.w = w → X.K = K → X.calm = true → ∀ (i : Nat) (pins : List (Addr × Obj)) (s : Shared) (σ : St) (H : Hp) (E : Value → Shared → Prop), Inv X pins σ H s → (∀ b ∈ fp, FpOk X pins H b) → tn i s.heap → J.go i H →
    wpAny (model P w) X.A (pyNext (.ref it)) (fun r s1 => ∃ u, r = some u ∧
      wpAny (model P w) X.A (letOwnedTupleGo tg (.ref it) u) (fun _ s2 => ∃ x H', Inv X pins σ H' s2 ∧ RelV x u ∧ J.yld i H x H' ∧ tn (i + 1) s2.heap ∧ ∀ b ∈ fp, H' b = none) E s1) E s
  done : ∀ (X : Cx), X.prog = P → X.w = w → X.K = K → X.calm = true → ∀ (i : Nat) (pins : List (Addr × Obj)) (s : Shared) (σ : St) (H : Hp) (E : Value → Shared → Prop), Inv X pins σ H s → (∀ b ∈ fp, FpOk X pins H b) → tn i s.heap → J.stop i H →
    wpAny (model P w) X.A (pyNext (.ref it)) (fun r s1 => r = none ∧ Inv X pins σ H s1) E s
  self : ∀ (A : Around) (i : Nat) (s : Shared) (Q : Value → Shared → Prop) (E : Value → Shared → Prop), tn i s.heap → Q (.ref it) s → wpAny (model P w) A (pyIter (.ref it)) Q E s
abbrev TI := St → Hp → (It → Hp → Prop) → Prop
/-- an iterator has come -/
def PIE (X : Cx) (pins : List (Addr × Obj)) (σ : St) (tg : Expr) (R : It → Hp → Prop) (itv : Value) (s2 : Shared) : Prop :=
  ∃ (it : Addr) (fp : List Addr) (tn : Nat → Heap → Prop) (J : It) (H' : Hp), itv = .ref it ∧ Inv X pins σ H' s2 ∧ Turn X.prog X.w X.K tg J fp it tn ∧ tn 0 s2.heap ∧ (∀ b ∈ fp, FpOk X pins H' b) ∧ R J H'
def PI (X : Cx) (tg iter : Expr) (wi : TI) : Prop :=
  ∀ (pins : List (Addr × Obj)) (s : Shared) (σ : St) (H : Hp) (R : It → Hp → Prop), Inv X pins σ H s → wi σ H R →
    wpAny (model X.prog X.w) X.A (eval iter X.env) (fun v s1 => wpAny (model X.prog X.w) X.A (pyIter v) (PIE X pins σ tg R) X.xe s1) X.xe s

/-- the step ahead of the store is nothing for an iterator that keeps no tuple -/
theorem go_of {M : Model} {A : Around} {E : Value → Shared → Prop} {s : Shared} {tg : Expr} {it : Addr} {u : Value} {o : Obj} {n : String} {vs : Array Value} {Q : Unit → Shared → Prop} (ho : s.heap.get? it = some o) (hc : o.cls = .type n) (hd : o.data = .fields vs)
    (hn : ["enumerate", "zip", "dict_itemiterator", "dict_reverseitemiterator", "odict_iterator", "itertools.zip_longest", "itertools.pairwise"].contains n = false) (hQ : Q () s) : wpAny M A (letOwnedTupleGo tg (.ref it) u) Q E s := by
  unfold letOwnedTupleGo
  cases tg <;> first
    | exact wpAny_pure hQ
    | (cases u <;> first
        | exact wpAny_pure hQ
        | (refine wpAny_bind (wpAny_load ho ?_)
           rw [hc, hd]
           show wpAny M A (if (["enumerate", "zip", "dict_itemiterator", "dict_reverseitemiterator", "odict_iterator", "itertools.zip_longest", "itertools.pairwise"].contains n && vs[0]? == some (rawInt _)) = true then _ else _) Q E s
           rw [if_neg (by intro h; rw [hn, Bool.false_and] at h; cases h)]
           exact wpAny_pure hQ))

/-- the list at a, as it stands at each turn (a loop may append to it) -/
def Itl (K : PySem.W.Frag) (a : Addr) : It :=
  ⟨fun i H => ∃ xs x, SqL K H a xs ∧ xs[i]? = some x, fun i H x H' => H' = H ∧ ∀ xs, SqL K H a xs → xs[i]? = some x, fun i H => ∃ xs, SqL K H a xs ∧ xs.length ≤ i⟩
def Itt (K : PySem.W.Frag) (a : Addr) : It :=
  ⟨fun i H => ∃ xs x, SqT K H a xs ∧ xs[i]? = some x, fun i H x H' => H' = H ∧ ∀ xs, SqT K H a xs → xs[i]? = some x, fun i H => ∃ xs, SqT K H a xs ∧ xs.length ≤ i⟩
/-- lo, lo + 1, .. (n of them) -/
def Itr (lo : Int) (n : Nat) : It := ⟨fun i _ => i < n, fun i H x H' => H' = H ∧ x = .int (lo + i), fun i _ => n ≤ i⟩
theorem turn_list {P : Program} {w : World} {K : PySem.W.Frag} {tg : Expr} (a it : Addr) : Turn P w K tg (Itl K a) [it] it (fun i h => h.IsListIter it a i) where
  mem := by simp
  obj := fun i h st b hb => by
    have e : b = it := by simpa using hb
    subst e
    obtain ⟨o, e, c, d⟩ := st
    exact ⟨o, e, fun v z => by rw [d] at z; cases z⟩
  keep := fun i h h' st k => st.at fun o e => k it (by simp) o e
  item := by
    intro X hP hw hK hc i pins s σ H E I hf st hg
    subst hP hw hK
    obtain ⟨xs, x, hq, hx⟩ := hg
    obtain ⟨its, rv, p, hz⟩ := I.list hq
    obtain ⟨u, hu, ru⟩ := rv.get hx
    obtain ⟨f0, f1, f2, f3, f4, f5⟩ := hf it (by simp)
    refine wpAny_pyNext_list_item st p.isList (x := u) (by simpa using hu) fun h' st' sb => ?_
    have I1 : Inv X pins σ H { s with heap := h' } := I.turned (t' := s.toks) (fun b o hb e => (sb.2 b hb).trans e) f0 f1 f3 f4 f5
    obtain ⟨o, e, c, d⟩ := id st'
    exact ⟨u, rfl, go_of (s := { s with heap := h' }) e c d (by decide) ⟨x, H, I1, ru, ⟨rfl, fun ys hy => by rw [I.list_inj hy hq]; exact hx⟩, st', fun b hb => (hf b hb).1⟩⟩
  done := by
    intro X hP hw hK hc i pins s σ H E I hf st hg
    subst hP hw hK
    obtain ⟨xs, hq, hx⟩ := hg
    obtain ⟨its, rv, p, hz⟩ := I.list hq
    obtain ⟨f0, f1, f2, f3, f4, f5⟩ := hf it (by simp)
    have hl := rv.length
    exact wpAny_pyNext_list_end (I.ok.hd hc) st p.isList (by simp; omega) fun h' eb => ⟨rfl, I.turned (t' := s.toks) (fun b o hb e => eb b o hb e) f0 f1 f3 f4 f5⟩
  self := fun _ _ _ _ _ st h => wpAny_pyIter_listiter st h
theorem turn_tuple {P : Program} {w : World} {K : PySem.W.Frag} {tg : Expr} (a it : Addr) : Turn P w K tg (Itt K a) [it] it (fun i h => h.IsTupleIter it a i) where
  mem := by simp
  obj := fun i h st b hb => by
    have e : b = it := by simpa using hb
    subst e
    obtain ⟨o, e, c, d⟩ := st
    exact ⟨o, e, fun v z => by rw [d] at z; cases z⟩
  keep := fun i h h' st k => st.at fun o e => k it (by simp) o e
  item := by
    intro X hP hw hK hc i pins s σ H E I hf st hg
    subst hP hw hK
    obtain ⟨xs, x, hq, hx⟩ := hg
    obtain ⟨its, rv, p, hz⟩ := I.tuple hq
    obtain ⟨u, hu, ru⟩ := rv.get hx
    obtain ⟨f0, f1, f2, f3, f4, f5⟩ := hf it (by simp)
    refine wpAny_pyNext_tuple_item st (show s.heap.IsTuple a its.toArray from p) (x := u) (by simpa using hu) fun h' st' sb => ?_
    have I1 : Inv X pins σ H { s with heap := h' } := I.turned (t' := s.toks) (fun b o hb e => (sb.2 b hb).trans e) f0 f1 f3 f4 f5
    obtain ⟨o, e, c, d⟩ := id st'
    exact ⟨u, rfl, go_of (s := { s with heap := h' }) e c d (by decide) ⟨x, H, I1, ru, ⟨rfl, fun ys hy => by rw [I.tuple_inj hy hq]; exact hx⟩, st', fun b hb => (hf b hb).1⟩⟩
  done := by
    intro X hP hw hK hc i pins s σ H E I hf st hg
    subst hP hw hK
    obtain ⟨xs, hq, hx⟩ := hg
    obtain ⟨its, rv, p, hz⟩ := I.tuple hq
    obtain ⟨f0, f1, f2, f3, f4, f5⟩ := hf it (by simp)
    have hl := rv.length
    exact wpAny_pyNext_tuple_end (I.ok.hd hc) st (show s.heap.IsTuple a its.toArray from p) (by simp; omega) fun h' eb => ⟨rfl, I.turned (t' := s.toks) (fun b o hb e => eb b o hb e) f0 f1 f3 f4 f5⟩
  self := fun _ _ _ _ _ st h => wpAny_pyIter_tupleiter st h
theorem turn_range {P : Program} {w : World} {K : PySem.W.Frag} {tg : Expr} (it : Addr) (lo : Int) (n : Nat) : Turn P w K tg (Itr lo n) [it] it (fun i h => IsRangeIter h it (lo + (i : Nat) * 1) ((n : Int) - (i : Nat)) 1) where
  mem := by simp
  obj := fun i h st b hb => by
    have e : b = it := by simpa using hb
    subst e
    exact ⟨_, st, fun v z => by
      have z' : Data.fields _ = Data.cell v := z
      cases z'⟩
  keep := fun i h h' st k => k it (by simp) _ st
  item := by
    intro X hP hw hK hc i pins s σ H E I hf st hg
    subst hP hw hK
    obtain ⟨f0, f1, f2, f3, f4, f5⟩ := hf it (by simp)
    have W := Walks.range (prog := X.prog) (w := X.w) (I.ok.hd hc) it lo 1 n
    refine W.item i s _ _ hg st fun v h' tk hv st' kk => ?_
    obtain ⟨t, rfl⟩ := hv
    have I1 : Inv X pins σ H { s with heap := h', toks := tk } := I.turned (fun b o hb e => kk b o (by simpa using hb) e) f0 f1 f3 f4 f5
    refine ⟨_, rfl, go_of (s := { s with heap := h', toks := tk }) (n := "range_iterator") st' rfl rfl (by decide) ⟨.int (lo + i), H, I1, ⟨t, ?_⟩, ⟨rfl, rfl⟩, st', fun b hb => (hf b hb).1⟩⟩
    rw [Int.mul_one]
  done := by
    intro X hP hw hK hc i pins s σ H E I hf st hg
    subst hP hw hK
    obtain ⟨f0, f1, f2, f3, f4, f5⟩ := hf it (by simp)
    exact wpAny_pyNext_range_end (I.ok.hd hc) st (by have : n ≤ i := hg; omega) fun h' eb => ⟨rfl, I.turned (t' := s.toks) (fun b o hb e => eb b o hb e) f0 f1 f3 f4 f5⟩
  self := fun _ _ _ _ _ st h => wpAny_pyIter_rangeiter st h
end L2

namespace L2
open PySem PySem.Spec PyProof.Rows
section
variable {X : Cx} {tg : Expr}
def iList (K : PySem.W.Frag) (tl : TE) : TI := fun σ H R => tl σ H fun x H1 => ∃ a, x = .ref a ∧ (∃ xs, SqL K H1 a xs) ∧ R (Itl K a) H1
def iTup (K : PySem.W.Frag) (tl : TE) : TI := fun σ H R => tl σ H fun x H1 => ∃ a, x = .ref a ∧ (∃ xs, SqT K H1 a xs) ∧ R (Itt K a) H1
theorem pi_list {l : Expr} {tl : TE} (hl : PE X l tl) : PI X tg l (iList X.K tl) := by
  intro pins s σ H R I h
  refine thn (hl pins s σ H _ I h) fun v s1 ⟨x, H1, I1, r1, q1⟩ => ?_
  obtain ⟨a, e, ⟨xs, hq⟩, q⟩ := q1
  subst e
  cases r1
  obtain ⟨its, rv, p, hz⟩ := I1.list hq
  refine wpAny_pyIter_list p.isList ?_
  refine ⟨s1.heap.objs.size, [s1.heap.objs.size], _, _, H1, rfl, I1.kept (t' := s1.toks) fun b o e => Heap.get?_push_of_some _ e, turn_list a _, ⟨_, Heap.get?_push_size _ rfl, rfl, rfl⟩, fun b hb => ?_, q⟩
  have e : b = s1.heap.objs.size := by simpa using hb
  subst e
  exact I1.fpOk (Nat.le_refl _) (I1.hok.fresh (Nat.le_refl _))
theorem pi_tup {l : Expr} {tl : TE} (hl : PE X l tl) : PI X tg l (iTup X.K tl) := by
  intro pins s σ H R I h
  refine thn (hl pins s σ H _ I h) fun v s1 ⟨x, H1, I1, r1, q1⟩ => ?_
  obtain ⟨a, e, ⟨xs, hq⟩, q⟩ := q1
  subst e
  cases r1
  obtain ⟨its, rv, p, hz⟩ := I1.tuple hq
  refine wpAny_pyIter_tuple (show s1.heap.IsTuple a its.toArray from p) ?_
  refine ⟨s1.heap.objs.size, [s1.heap.objs.size], _, _, H1, rfl, I1.kept (t' := s1.toks) fun b o e => Heap.get?_push_of_some _ e, turn_tuple a _, ⟨_, Heap.get?_push_size _ rfl, rfl, rfl⟩, fun b hb => ?_, q⟩
  have e : b = s1.heap.objs.size := by simpa using hb
  subst e
  exact I1.fpOk (Nat.le_refl _) (I1.hok.fresh (Nat.le_refl _))
/-- a range object just made, walked -/
theorem range_it {pins : List (Addr × Obj)} {σ : St} {H : Hp} {s : Shared} {R : It → Hp → Prop} {E : Value → Shared → Prop} {lo hi : Int} {t u v : Tok} {tk : Nat} (I : Inv X pins σ H s) (h1 : -(2 ^ 62) ≤ lo) (h2 : lo < 2 ^ 62) (h3 : -(2 ^ 62) ≤ hi) (h4 : hi < 2 ^ 62)
    (q : R (Itr lo (hi - lo).toNat) H) : wpAny (model X.prog X.w) X.A (pyIter (.ref s.heap.objs.size)) (PIE X pins σ tg R) E { s with heap := s.heap.push { cls := .type "range", data := .fields #[.int lo t, .int hi u, .int 1 v] }, toks := tk } := by
  refine wpAny_pyIter_range (IsRange.new ..) (small_one h1 h2 h3 h4) ?_
  have I1 : Inv X pins σ H { s with heap := s.heap.push { cls := .type "range", data := .fields #[.int lo t, .int hi u, .int 1 v] }, toks := tk } := I.kept fun b o e => Heap.get?_push_of_some _ e
  refine ⟨(s.heap.push { cls := .type "range", data := .fields #[.int lo t, .int hi u, .int 1 v] }).objs.size, [(s.heap.push { cls := .type "range", data := .fields #[.int lo t, .int hi u, .int 1 v] }).objs.size], _, _, H, rfl,
    I1.kept (t' := tk) fun b o e => Heap.get?_push_of_some _ e, turn_range _ lo (hi - lo).toNat, ?_, fun b hb => ?_, q⟩
  · have e1 : lo + ((0 : Nat) : Int) * 1 = lo := by simp
    have e2 : (((hi - lo).toNat : Nat) : Int) - ((0 : Nat) : Int) = Builtin.Range.rangeSize lo hi 1 := by rw [rangeSize_one]; split <;> omega
    show IsRangeIter _ _ (lo + ((0 : Nat) : Int) * 1) ((((hi - lo).toNat : Nat) : Int) - ((0 : Nat) : Int)) 1
    rw [e1, e2]
    exact Heap.get?_push_size _ rfl
  · have e : b = (s.heap.push { cls := .type "range", data := .fields #[.int lo t, .int hi u, .int 1 v] }).objs.size := by simpa using hb
    subst e
    exact I1.fpOk (Nat.le_refl _) (I1.hok.fresh (Nat.le_refl _))
def iRng1 (ta : TA) : TI := fun σ H R => ta σ H fun vs H1 => ∃ j : Int, vs = [.int j] ∧ -(2 ^ 62) ≤ j ∧ j < 2 ^ 62 ∧ R (Itr 0 j.toNat) H1
theorem pi_range1 {a : Expr} {ta : TA} {p pos : Pos} (hg : Gl X "range") (hm : X.mg "range" = none) (ha : PA X [a] ta) (hs : starEach [a] X.env = [(false, eval a X.env)] := by rfl) : PI X tg (.Call (.Name "range" p) [a] [] pos) (iRng1 ta) := by
  intro pins s σ H R I h
  refine Call_ (ld_blt I hg hm boot_range (PyProof.Rows.callWith_type1 (thn (ha pos pins s σ H _ I h) fun us s1 ⟨vs, H1, I1, r1, q1⟩ => ?_) hs rfl))
  obtain ⟨j, e, q1, q2, q⟩ := q1
  subst e
  cases r1 with
  | cons r rr =>
    cases rr
    obtain ⟨t, rfl⟩ := r
    exact call_range_1 (range_it I1 (by omega) (by omega) q1 q2 (by simpa using q))
/-! ### for -/
/-- W: the invariant by the turn and a measure; N: what the body is to reach -/
def tFor (wi : TI) (g : TG) (tb : TS) : TS := fun D σ H => wi σ H fun J H1 => ∃ W : Nat → Nat → St → Hp → Prop, (∃ m, W 0 m σ H1) ∧ ∀ i m σ H, W i m σ H →
  (J.stop i H ∧ D.nx σ H) ∨ (J.go i H ∧ ∃ N : St → Hp → Prop, (∀ σ' H', N σ' H' → ∃ m', m' < m ∧ W (i + 1) m' σ' H') ∧ ∀ x H', J.yld i H x H' → g x σ H' fun σ2 H2 => tb { D with nx := N, ct := N, bk := D.nx } σ2 H2)
/-- the records at fp as they stand -/
def pinsAt (fp : List Addr) (h : Heap) : List (Addr × Obj) := fp.filterMap fun b => (h.get? b).map fun o => (b, o)
theorem mem_pinsAt {fp : List Addr} {h : Heap} {b : Addr} {o : Obj} (hb : b ∈ fp) (e : h.get? b = some o) : (b, o) ∈ pinsAt fp h := List.mem_filterMap.mpr ⟨b, hb, by rw [e]; rfl⟩
theorem of_pinsAt {fp : List Addr} {h : Heap} {p : Addr × Obj} (hp : p ∈ pinsAt fp h) : p.1 ∈ fp ∧ h.get? p.1 = some p.2 := by
  obtain ⟨b, hb, e⟩ := List.mem_filterMap.mp hp
  cases q : h.get? b with
  | none => rw [q] at e; cases e
  | some o =>
    rw [q] at e
    have e' : (b, o) = p := Option.some.inj e
    subst e'
    exact ⟨hb, q⟩
theorem Inv.pinned {pins : List (Addr × Obj)} {σ : St} {H : Hp} {s : Shared} {fp : List Addr} (I : Inv X pins σ H s) (hf : ∀ b ∈ fp, FpOk X pins H b) (ho : ∀ b ∈ fp, ∃ o, s.heap.get? b = some o ∧ ∀ v, o.data ≠ .cell v) : Inv X (pins ++ pinsAt fp s.heap) σ H s :=
  I.pins_of fun p hp => (List.mem_append.mp hp).elim (fun z => I.pin p (List.mem_append_right _ z)) fun z => by
    obtain ⟨hb, e⟩ := of_pinsAt z
    obtain ⟨f0, f1, f2, _⟩ := hf p.1 hb
    obtain ⟨o, e', d⟩ := ho p.1 hb
    rw [e] at e'; cases e'
    exact ⟨e, f0, f1, f2, d⟩
theorem Inv.unpinned {pins pl : List (Addr × Obj)} {σ : St} {H : Hp} {s : Shared} (I : Inv X (pins ++ pl) σ H s) : Inv X pins σ H s := I.pins_of fun p hp => I.pin p (List.mem_append_right _ (List.mem_append_left _ hp))
theorem ps_for {iter : Expr} {body : List Stmt} {wi : TI} {g : TG} {tb : TS} {pos : Pos} (hp : PassesOwn (model X.prog X.w) X.A X.env X.xe) (hc : X.calm = true) (hi : PI X tg iter wi) (hg : PG X tg g) (hb : PSs X body tb)
    (hs : ∀ x, foldedSetIterable iter X.env x = pure x := by intro _; rfl) : PS X (.For tg iter body [] pos) (tFor wi g tb) := by
  intro pins s σ H D I h
  refine wpAny_For (thn (hi pins s σ H _ I h) fun v s1 h1 => thn h1 fun itv s2 h2 => ?_) hs
  obtain ⟨it, fp, tn, J, H2, e, I2, T, st2, f2, W, ⟨m0, w0⟩, turn⟩ := h2
  subst e
  -- what stays true of the iterator's objects through the loop
  have stat : ∀ {H' : Hp}, (∀ b ∈ fp, H' b = none) → ∀ b ∈ fp, FpOk X pins H' b := fun hn b hb => ⟨hn b hb, (f2 b hb).2⟩
  refine codeAny_forLoop_any (fun n s' => ∃ i σ' H', Inv X pins σ' H' s' ∧ tn i s'.heap ∧ (∀ b ∈ fp, H' b = none) ∧ W i n σ' H') ?_ m0 ⟨0, σ, H2, I2, st2, fun b hb => (f2 b hb).1, w0⟩
  rintro n s3 ⟨i, σ3, H3, I3, st3, fr3, w3⟩
  rcases turn i n σ3 H3 w3 with ⟨stop, qn⟩ | ⟨go, N, hN, step⟩
  · refine wpAny_passesOwn hp (thn (T.done X rfl rfl rfl hc i pins s3 σ3 H3 X.xe I3 (stat fr3) st3 stop) fun r s4 ⟨hr, I4⟩ => ?_)
    subst hr
    exact wpAny_execs_nil ⟨σ3, H3, I4, qn⟩
  · refine wpAny_passesOwn hp (thn (T.item X rfl rfl rfl hc i pins s3 σ3 H3 X.xe I3 (stat fr3) st3 go) fun r s4 ⟨u, hr, h4⟩ => ?_)
    subst hr
    refine wpAny_passesOwn hp (thn h4 fun _ s5 ⟨x, H5, I5, r5, y5, st5, fr5⟩ => ?_)
    have I5' := I5.pinned (stat fr5) (T.obj _ _ st5)
    refine wpAny_passesOwn hp (thn (hg _ s5 σ3 H5 x u _ I5' r5 (step x H5 y5)) fun _ s6 ⟨σ6, H6, I6, q6⟩ => ?_)
    refine wpAny_passesOwn hp (thn (hb _ s6 σ6 H6 _ I6 q6) fun f s7 q7 => ?_)
    have again : ∀ {σ7 : St} {H7 : Hp}, Inv X (pins ++ pinsAt fp s5.heap) σ7 H7 s7 → N σ7 H7 → ∃ m, m < n ∧ ∃ i σ' H', Inv X pins σ' H' s7 ∧ tn i s7.heap ∧ (∀ b ∈ fp, H' b = none) ∧ W i m σ' H' := fun {σ7 H7} I7 n7 => by
      obtain ⟨m', hm, w7⟩ := hN σ7 H7 n7
      refine ⟨m', hm, i + 1, σ7, H7, I7.unpinned, T.keep _ _ _ st5 fun b hb o e => (I7.pin (b, o) (List.mem_append_right _ (List.mem_append_right _ (mem_pinsAt hb e)))).1, fun b hb => ?_, w7⟩
      obtain ⟨o, e, d⟩ := T.obj _ _ st5 b hb
      exact (I7.pin (b, o) (List.mem_append_right _ (List.mem_append_right _ (mem_pinsAt hb e)))).2.1
    cases f with
    | next => obtain ⟨σ7, H7, I7, n7⟩ := q7; exact again I7 n7
    | cont => obtain ⟨σ7, H7, I7, n7⟩ := q7; exact again I7 n7
    | brk => obtain ⟨σ7, H7, I7, q7⟩ := q7; exact ⟨σ7, H7, I7.unpinned, q7⟩
    | ret v => obtain ⟨x7, σ7, H7, I7, r7, q7⟩ := q7; exact ⟨x7, σ7, H7, I7.unpinned, r7, q7⟩
end

/-! ### the forms one uses -/
/-- over a list that the body leaves as it is -/
theorem for_list {K : PySem.W.Frag} {a : Addr} {xs : List V} {g : TG} {tb : TS} {D : Ends} {σ : St} {H : Hp} (Pv : Nat → St → Hp → Prop) (h0 : Pv 0 σ H) (hl : ∀ i σ H, i ≤ xs.length → Pv i σ H → SqL K H a xs)
    (hs : ∀ i x σ H, xs[i]? = some x → Pv i σ H → g x σ H fun σ2 H2 => tb { D with nx := Pv (i + 1), ct := Pv (i + 1), bk := D.nx } σ2 H2) (hd : ∀ σ H, Pv xs.length σ H → D.nx σ H) :
    ∃ W : Nat → Nat → St → Hp → Prop, (∃ m, W 0 m σ H) ∧ ∀ i m σ H, W i m σ H →
      ((Itl K a).stop i H ∧ D.nx σ H) ∨ ((Itl K a).go i H ∧ ∃ N : St → Hp → Prop, (∀ σ' H', N σ' H' → ∃ m', m' < m ∧ W (i + 1) m' σ' H') ∧ ∀ x H', (Itl K a).yld i H x H' → g x σ H' fun σ2 H2 => tb { D with nx := N, ct := N, bk := D.nx } σ2 H2) := by
  refine ⟨fun i m σ H => m = xs.length - i ∧ i ≤ xs.length ∧ Pv i σ H, ⟨xs.length, by simp, Nat.zero_le _, h0⟩, ?_⟩
  rintro i m σ H ⟨rfl, hi, p⟩
  have q := hl i σ H hi p
  by_cases hlt : i < xs.length
  · refine .inr ⟨⟨xs, xs[i], q, by simp [hlt]⟩, Pv (i + 1), fun σ' H' p' => ⟨xs.length - (i + 1), by omega, rfl, hlt, p'⟩, fun x H' y => ?_⟩
    obtain ⟨e, y⟩ := y
    subst e
    exact hs i x σ _ (y xs q) p
  · have e : i = xs.length := by omega
    subst e
    exact .inl ⟨⟨xs, q, Nat.le_refl _⟩, hd σ H p⟩
theorem for_tup {K : PySem.W.Frag} {a : Addr} {xs : List V} {g : TG} {tb : TS} {D : Ends} {σ : St} {H : Hp} (Pv : Nat → St → Hp → Prop) (h0 : Pv 0 σ H) (hl : ∀ i σ H, i ≤ xs.length → Pv i σ H → SqT K H a xs)
    (hs : ∀ i x σ H, xs[i]? = some x → Pv i σ H → g x σ H fun σ2 H2 => tb { D with nx := Pv (i + 1), ct := Pv (i + 1), bk := D.nx } σ2 H2) (hd : ∀ σ H, Pv xs.length σ H → D.nx σ H) :
    ∃ W : Nat → Nat → St → Hp → Prop, (∃ m, W 0 m σ H) ∧ ∀ i m σ H, W i m σ H →
      ((Itt K a).stop i H ∧ D.nx σ H) ∨ ((Itt K a).go i H ∧ ∃ N : St → Hp → Prop, (∀ σ' H', N σ' H' → ∃ m', m' < m ∧ W (i + 1) m' σ' H') ∧ ∀ x H', (Itt K a).yld i H x H' → g x σ H' fun σ2 H2 => tb { D with nx := N, ct := N, bk := D.nx } σ2 H2) := by
  refine ⟨fun i m σ H => m = xs.length - i ∧ i ≤ xs.length ∧ Pv i σ H, ⟨xs.length, by simp, Nat.zero_le _, h0⟩, ?_⟩
  rintro i m σ H ⟨rfl, hi, p⟩
  have q := hl i σ H hi p
  by_cases hlt : i < xs.length
  · refine .inr ⟨⟨xs, xs[i], q, by simp [hlt]⟩, Pv (i + 1), fun σ' H' p' => ⟨xs.length - (i + 1), by omega, rfl, hlt, p'⟩, fun x H' y => ?_⟩
    obtain ⟨e, y⟩ := y
    subst e
    exact hs i x σ _ (y xs q) p
  · have e : i = xs.length := by omega
    subst e
    exact .inl ⟨⟨xs, q, Nat.le_refl _⟩, hd σ H p⟩
theorem for_range {lo : Int} {n : Nat} {g : TG} {tb : TS} {D : Ends} {σ : St} {H : Hp} (Pv : Nat → St → Hp → Prop) (h0 : Pv 0 σ H)
    (hs : ∀ i σ H, i < n → Pv i σ H → g (.int (lo + i)) σ H fun σ2 H2 => tb { D with nx := Pv (i + 1), ct := Pv (i + 1), bk := D.nx } σ2 H2) (hd : ∀ σ H, Pv n σ H → D.nx σ H) :
    ∃ W : Nat → Nat → St → Hp → Prop, (∃ m, W 0 m σ H) ∧ ∀ i m σ H, W i m σ H →
      ((Itr lo n).stop i H ∧ D.nx σ H) ∨ ((Itr lo n).go i H ∧ ∃ N : St → Hp → Prop, (∀ σ' H', N σ' H' → ∃ m', m' < m ∧ W (i + 1) m' σ' H') ∧ ∀ x H', (Itr lo n).yld i H x H' → g x σ H' fun σ2 H2 => tb { D with nx := N, ct := N, bk := D.nx } σ2 H2) := by
  refine ⟨fun i m σ H => m = n - i ∧ i ≤ n ∧ Pv i σ H, ⟨n, by simp, Nat.zero_le _, h0⟩, ?_⟩
  rintro i m σ H ⟨rfl, hi, p⟩
  by_cases hlt : i < n
  · refine .inr ⟨hlt, Pv (i + 1), fun σ' H' p' => ⟨n - (i + 1), by omega, rfl, hlt, p'⟩, fun x H' y => ?_⟩
    obtain ⟨e, y⟩ := y
    subst e y
    exact hs i σ _ hlt p
  · have e : i = n := by omega
    subst e
    exact .inl ⟨Nat.le_refl _, hd σ H p⟩
end L2

namespace L2
open PySem PySem.Spec PyProof.Rows

abbrev R2 := V → V → Hp → VK → Prop
/-- a two-place operation on values: f is binaryOp op, inplaceOp op or compareOp op -/
def OpR (X : Cx) (f : Value → Value → Sem Value) (r : R2) : Prop :=
  ∀ (pins : List (Addr × Obj)) (s : Shared) (σ : St) (H : Hp) (x y : V) (v u : Value) (Q : VK), Inv X pins σ H s → RelV x v → RelV y u → r x y H Q →
    wpAny (model X.prog X.w) X.A (f v u) (EP X pins σ Q) X.xe s
/-- a one-place operation -/
def UnR (X : Cx) (f : Value → Sem Value) (r : V → Hp → VK → Prop) : Prop :=
  ∀ (pins : List (Addr × Obj)) (s : Shared) (σ : St) (H : Hp) (x : V) (v : Value) (Q : VK), Inv X pins σ H s → RelV x v → r x H Q →
    wpAny (model X.prog X.w) X.A (f v) (EP X pins σ Q) X.xe s
/-- a call of a value that is known (a builtin, a type) with values -/
def CallR (X : Cx) (f : Value) (r : List V → Hp → VK → Prop) : Prop :=
  ∀ (pins : List (Addr × Obj)) (s : Shared) (σ : St) (H : Hp) (xs : List V) (us : List Value) (Q : VK), Inv X pins σ H s → Vals xs us → r xs H Q →
    wpAny (model X.prog X.w) X.A (call f us) (EP X pins σ Q) X.xe s
def tOp (r : R2) (ta tb : TE) : TE := fun σ H Q => ta σ H fun x H1 => tb σ H1 fun y H2 => r x y H2 Q
def tUn (r : V → Hp → VK → Prop) (ta : TE) : TE := fun σ H Q => ta σ H fun x H1 => r x H1 Q
/-- ints in, under C, and a value out -/
def rI (C : Int → Int → Prop) (g : Int → Int → V) : R2 := fun x y H Q => ∃ i j, x = .int i ∧ y = .int j ∧ C i j ∧ Q (g i j) H
def rI0 (g : Int → Int → V) : R2 := fun x y H Q => ∃ i j, x = .int i ∧ y = .int j ∧ Q (g i j) H
def rU (g : Int → V) : V → Hp → VK → Prop := fun x H Q => ∃ i, x = .int i ∧ Q (g i) H

section
variable {X : Cx} {a b c : Expr} {ta tb tc : TE} {pos : Pos}

theorem binT (ha : PE X a ta) (hb : PE X b tb) {pins : List (Addr × Obj)} {s : Shared} {σ : St} {H : Hp} {R : V → V → Hp → Prop} (I : Inv X pins σ H s)
    (h : ta σ H fun x H1 => tb σ H1 fun y H2 => R x y H2) {Q : Value → Shared → Prop} {f : Value → Value → Sem Value}
    (hf : ∀ v u s2 x y H2, Inv X pins σ H2 s2 → RelV x v → RelV y u → R x y H2 → wpAny (model X.prog X.w) X.A (f v u) Q X.xe s2) :
    wpAny (model X.prog X.w) X.A (eval a X.env) (fun v s₁ => wpAny (model X.prog X.w) X.A (eval b X.env) (fun u s₂ => wpAny (model X.prog X.w) X.A (f v u) Q X.xe s₂) X.xe s₁) X.xe s := by
  refine thn (ha pins s σ H _ I h) fun v s1 ⟨x, H1, I1, r1, q1⟩ => ?_
  refine thn (hb pins s1 σ H1 _ I1 q1) fun u s2 ⟨y, H2, I2, r2, q2⟩ => ?_
  exact hf v u s2 x y H2 I2 r1 r2 q2

theorem pe_op {op : Operator} {r : R2} (ho : OpR X (binaryOp op) r) (ha : PE X a ta) (hb : PE X b tb) : PE X (.BinOp a op b pos) (tOp r ta tb) := by
  intro pins s σ H Q I h
  exact wpAny_BinOp (binT ha hb I h fun v u s2 x y H2 I2 rx ry q => ho pins s2 σ H2 x y v u Q I2 rx ry q)
theorem pe_un {op : UnaryOp} {r : V → Hp → VK → Prop} (ho : UnR X (unaryOp op) r) (ha : PE X a ta) : PE X (.UnaryOp op a pos) (tUn r ta) := by
  intro pins s σ H Q I h
  exact UnaryOp_ (thn (ha pins s σ H _ I h) fun v s1 ⟨x, H1, I1, r1, q1⟩ => ho pins s1 σ H1 x v Q I1 r1 q1)
/-! ### ints -/
theorem opI {f : Value → Value → Sem Value} {C : Int → Int → Prop} {g : Int → Int → Int}
    (rule : ∀ (i j : Int) (t u : Tok) (s : Shared) (Q : Value → Shared → Prop) (E : Value → Shared → Prop), C i j → Q (.int (g i j) s.toks) { s with toks := s.toks + 1 } → wpAny (model X.prog X.w) X.A (f (.int i t) (.int j u)) Q E s) :
    OpR X f (rI C fun i j => .int (g i j)) := by
  intro pins s σ H x y v u Q I rx ry h
  obtain ⟨i, j, rfl, rfl, hc, q⟩ := h
  obtain ⟨t, rfl⟩ := rx
  obtain ⟨t', rfl⟩ := ry
  exact rule i j t t' s _ _ hc ⟨.int (g i j), H, I.tok _, ⟨_, rfl⟩, q⟩
theorem opI0 {f : Value → Value → Sem Value} {g : Int → Int → Int}
    (rule : ∀ (i j : Int) (t u : Tok) (s : Shared) (Q : Value → Shared → Prop) (E : Value → Shared → Prop), Q (.int (g i j) s.toks) { s with toks := s.toks + 1 } → wpAny (model X.prog X.w) X.A (f (.int i t) (.int j u)) Q E s) :
    OpR X f (rI0 fun i j => .int (g i j)) := by
  intro pins s σ H x y v u Q I rx ry h
  obtain ⟨i, j, rfl, rfl, q⟩ := h
  obtain ⟨t, rfl⟩ := rx
  obtain ⟨t', rfl⟩ := ry
  exact rule i j t t' s _ _ ⟨.int (g i j), H, I.tok _, ⟨_, rfl⟩, q⟩
theorem opB0 {f : Value → Value → Sem Value} {g : Int → Int → Bool}
    (rule : ∀ (i j : Int) (t u : Tok) (s : Shared) (Q : Value → Shared → Prop) (E : Value → Shared → Prop), Q (.bool (g i j)) s → wpAny (model X.prog X.w) X.A (f (.int i t) (.int j u)) Q E s) :
    OpR X f (rI0 fun i j => .bl (g i j)) := by
  intro pins s σ H x y v u Q I rx ry h
  obtain ⟨i, j, rfl, rfl, q⟩ := h
  obtain ⟨t, rfl⟩ := rx
  obtain ⟨t', rfl⟩ := ry
  exact rule i j t t' s _ _ ⟨.bl (g i j), H, I, rfl, q⟩

def CDiv (i j : Int) : Prop := 0 < j ∧ j < 1073741824
def CMul (i j : Int) : Prop := (-(2 ^ 64) < i ∧ i < 2 ^ 64) ∨ (-(2 ^ 64) < j ∧ j < 2 ^ 64)
theorem CMul.ok {i j : Int} (h : CMul i j) : IntMulOk i j := by
  rcases h with ⟨h1, h2⟩ | ⟨h1, h2⟩
  · exact .of_left (intBits_le_64 h1 h2)
  · exact .of_right (intBits_le_64 h1 h2)
theorem op_add : OpR X (binaryOp .Add) (rI0 fun i j => .int (i + j)) := opI0 fun _ _ _ _ _ _ _ q => add_int q
theorem op_sub : OpR X (binaryOp .Sub) (rI0 fun i j => .int (i - j)) := opI0 fun _ _ _ _ _ _ _ q => sub_int q
theorem op_mul : OpR X (binaryOp .Mult) (rI CMul fun i j => .int (i * j)) := opI fun _ _ _ _ _ _ _ hc q => mul_int q hc.ok
/-- // by a positive divisor -/
theorem op_fdiv : OpR X (binaryOp .FloorDiv) (rI CDiv fun i j => .int (i / j)) := opI fun i j _ _ _ _ _ hc q => by
  have h1 : (0 : Int) < j := hc.1
  have h2 : j < 1073741824 := hc.2
  exact floordiv_int (by omega) (by rw [Int.fdiv_eq_ediv_of_nonneg i (by omega)]; exact q) (.inl (PyProof.noPylong_small (by omega)))
/-- % by a positive divisor of any size -/
theorem op_mod : OpR X (binaryOp .Mod) (rI (fun _ j => 0 < j) fun i j => .int (i % j)) := opI fun i j _ _ _ _ _ hc q => by
  have h1 : (0 : Int) < j := hc
  exact mod_int' (by omega) (by rw [Int.fmod_eq_emod_of_nonneg i (by omega)]; exact q)
theorem unI {f : Value → Sem Value} {g : Int → Int}
    (rule : ∀ (i : Int) (t : Tok) (s : Shared) (Q : Value → Shared → Prop) (E : Value → Shared → Prop), Q (.int (g i) s.toks) { s with toks := s.toks + 1 } → wpAny (model X.prog X.w) X.A (f (.int i t)) Q E s) :
    UnR X f (rU fun i => .int (g i)) := by
  intro pins s σ H x v Q I rx h
  obtain ⟨i, rfl, q⟩ := h
  obtain ⟨t, rfl⟩ := rx
  exact rule i t s _ _ ⟨.int (g i), H, I.tok _, ⟨_, rfl⟩, q⟩
theorem un_neg : UnR X (unaryOp .USub) (rU fun i => .int (-i)) := unI fun _ _ _ _ _ q => neg_int q
/-! ### bools among ints: n += (a < b) -/
end

/-! ### comparisons -/
/-- the scalars that == tells apart as data does -/
def scal : V → V → Bool
  | .non, .non => true | .non, .int _ => true | .int _, .non => true | .non, .bl _ => true | .bl _, .non => true | .non, .str _ => true | .str _, .non => true
  | .int _, .int _ => true | .bl _, .bl _ => true | .str _, .str _ => true | .byt _, .byt _ => true
  | .int _, .str _ => true | .str _, .int _ => true | .bl _, .str _ => true | .str _, .bl _ => true
  | _, _ => false
def rEq : R2 := fun x y H Q => scal x y = true ∧ Q (.bl (decide (x = y))) H
def rNe : R2 := fun x y H Q => scal x y = true ∧ Q (.bl (!decide (x = y))) H

theorem dec_int {i j : Int} : decide (V.int i = V.int j) = (i == j) := by
  rw [Bool.eq_iff_iff]
  simp
theorem dec_bl {i j : Bool} : decide (V.bl i = V.bl j) = (i == j) := by
  rw [Bool.eq_iff_iff]
  simp
theorem dec_str {i j : Str} : decide (V.str i = V.str j) = (i == j) := by
  rw [Bool.eq_iff_iff]
  simp
theorem dec_byt {i j : Array UInt8} : decide (V.byt i = V.byt j) = (i.toList == j.toList) := by
  rw [Bool.eq_iff_iff]
  cases i
  cases j
  simp

section
variable {X : Cx} {a b c : Expr} {ta tb tc : TE} {pos : Pos}
theorem fin_bl {pins : List (Addr × Obj)} {σ : St} {H : Hp} {s : Shared} {Q : VK} {k k' : Bool} (I : Inv X pins σ H s) (q : Q (.bl k) H) (e : k = k') : EP X pins σ Q (.bool k') s := by
  subst e
  exact ⟨.bl k, H, I, rfl, q⟩
theorem op_eq : OpR X (compareOp .Eq) rEq := by
  intro pins s σ H x y v u Q I rx ry h
  obtain ⟨hs, q⟩ := h
  cases x with
  | non =>
    cases rx
    cases y with
    | non => cases ry; exact PySem.EqNone.eq_none_none (fin_bl I q (by simp))
    | bl j => cases ry; exact PySem.EqNone.eq_none_bool (fin_bl I q (by simp))
    | int j => obtain ⟨t', rfl⟩ := ry; exact PySem.EqNone.eq_none_int (fin_bl I q (by simp))
    | str j => obtain ⟨t', rfl⟩ := ry; exact PySem.EqNone.eq_none_str (fin_bl I q (by simp))
    | _ => exact absurd (show false = true from hs) Bool.false_ne_true
  | bl i =>
    cases rx
    cases y with
    | non => cases ry; exact PySem.EqNone.eq_bool_none (fin_bl I q (by simp))
    | bl j => cases ry; exact eq_bool (fin_bl I q dec_bl)
    | str j => obtain ⟨t', rfl⟩ := ry; exact PySem.EqMixed.eq_bool_str (fin_bl I q (by simp))
    | _ => exact absurd (show false = true from hs) Bool.false_ne_true
  | int i =>
    obtain ⟨t, rfl⟩ := rx
    cases y with
    | non => cases ry; exact PySem.EqNone.eq_int_none (fin_bl I q (by simp))
    | int j => obtain ⟨t', rfl⟩ := ry; exact eq_int (fin_bl I q dec_int)
    | str j => obtain ⟨t', rfl⟩ := ry; exact PySem.EqMixed.eq_int_str (fin_bl I q (by simp))
    | _ => exact absurd (show false = true from hs) Bool.false_ne_true
  | str i =>
    obtain ⟨t, rfl⟩ := rx
    cases y with
    | non => cases ry; exact PySem.EqNone.eq_str_none (fin_bl I q (by simp))
    | bl j => cases ry; exact PySem.EqMixed.eq_str_bool (fin_bl I q (by simp))
    | int j => obtain ⟨t', rfl⟩ := ry; exact PySem.EqMixed.eq_str_int (fin_bl I q (by simp))
    | str j => obtain ⟨t', rfl⟩ := ry; exact eq_str (fin_bl I q dec_str)
    | _ => exact absurd (show false = true from hs) Bool.false_ne_true
  | byt i =>
    obtain ⟨t, rfl⟩ := rx
    cases y with
    | byt j => obtain ⟨t', rfl⟩ := ry; exact PySem.W.eq_bytes (fin_bl I q dec_byt)
    | _ => exact absurd (show false = true from hs) Bool.false_ne_true
  | _ => cases y <;> exact absurd (show false = true from hs) Bool.false_ne_true
theorem op_ne : OpR X (compareOp .NotEq) rNe := by
  intro pins s σ H x y v u Q I rx ry h
  obtain ⟨hs, q⟩ := h
  cases x with
  | non =>
    cases rx
    cases y with
    | non => cases ry; exact PySem.EqNone.ne_none_none (fin_bl I q (by simp))
    | bl j => cases ry; exact PySem.EqNone.ne_none_bool (fin_bl I q (by simp))
    | int j => obtain ⟨t', rfl⟩ := ry; exact PySem.EqNone.ne_none_int (fin_bl I q (by simp))
    | str j => obtain ⟨t', rfl⟩ := ry; exact PySem.EqNone.ne_none_str (fin_bl I q (by simp))
    | _ => exact absurd (show false = true from hs) Bool.false_ne_true
  | bl i =>
    cases rx
    cases y with
    | non => cases ry; exact PySem.EqNone.ne_bool_none (fin_bl I q (by simp))
    | bl j => cases ry; exact ne_bool (fin_bl I q (congrArg not dec_bl))
    | str j => obtain ⟨t', rfl⟩ := ry; exact PySem.EqMixed.ne_bool_str (fin_bl I q (by simp))
    | _ => exact absurd (show false = true from hs) Bool.false_ne_true
  | int i =>
    obtain ⟨t, rfl⟩ := rx
    cases y with
    | non => cases ry; exact PySem.EqNone.ne_int_none (fin_bl I q (by simp))
    | int j => obtain ⟨t', rfl⟩ := ry; exact ne_int (fin_bl I q (congrArg not dec_int))
    | str j => obtain ⟨t', rfl⟩ := ry; exact PySem.EqMixed.ne_int_str (fin_bl I q (by simp))
    | _ => exact absurd (show false = true from hs) Bool.false_ne_true
  | str i =>
    obtain ⟨t, rfl⟩ := rx
    cases y with
    | non => cases ry; exact PySem.EqNone.ne_str_none (fin_bl I q (by simp))
    | bl j => cases ry; exact PySem.EqMixed.ne_str_bool (fin_bl I q (by simp))
    | int j => obtain ⟨t', rfl⟩ := ry; exact PySem.EqMixed.ne_str_int (fin_bl I q (by simp))
    | str j => obtain ⟨t', rfl⟩ := ry; exact ne_str (fin_bl I q (congrArg not dec_str))
    | _ => exact absurd (show false = true from hs) Bool.false_ne_true
  | byt i =>
    obtain ⟨t, rfl⟩ := rx
    cases y with
    | byt j => obtain ⟨t', rfl⟩ := ry; exact PySem.W.ne_bytes (fin_bl I q (congrArg not dec_byt))
    | _ => exact absurd (show false = true from hs) Bool.false_ne_true
  | _ => cases y <;> exact absurd (show false = true from hs) Bool.false_ne_true

theorem op_lt : OpR X (compareOp .Lt) (rI0 fun i j => .bl (decide (i < j))) := opB0 fun _ _ _ _ _ _ _ q => lt_int q
theorem op_gt : OpR X (compareOp .Gt) (rI0 fun i j => .bl (decide (j < i))) := opB0 fun _ _ _ _ _ _ _ q => gt_int q
/-- is None, is not None: the right side a value none -/
theorem op_isN : OpR X (compareOp .Is) (fun x y H Q => y = .non ∧ Q (.bl (decide (x = .non))) H) := by
  intro pins s σ H x y v u Q I rx ry h
  obtain ⟨rfl, q⟩ := h
  cases ry
  refine is_none_gen (fin_bl I q ?_)
  cases x <;> first
    | (cases rx; rfl)
    | (obtain ⟨t, rfl⟩ := rx; rfl)
theorem op_notN : OpR X (compareOp .IsNot) (fun x y H Q => y = .non ∧ Q (.bl (!decide (x = .non))) H) := by
  intro pins s σ H x y v u Q I rx ry h
  obtain ⟨rfl, q⟩ := h
  cases ry
  refine isnot_none_gen (fin_bl I q ?_)
  cases x <;> first
    | (cases rx; rfl)
    | (obtain ⟨t, rfl⟩ := rx; rfl)

/-- two rules for one operation: by cases -/
theorem OpR.or {f : Value → Value → Sem Value} {r r' : R2} (h : OpR X f r) (h' : OpR X f r') : OpR X f (fun x y H Q => r x y H Q ∨ r' x y H Q) := by
  intro pins s σ H x y v u Q I rx ry q
  rcases q with q | q
  · exact h pins s σ H x y v u Q I rx ry q
  · exact h' pins s σ H x y v u Q I rx ry q

theorem nomark (b : Expr) {op : CmpOp} (h : op ≠ .In := by decide) (h2 : op ≠ .NotIn := by decide) : behindInMarks op b = false := by
  have e1 : (op == CmpOp.In) = false := by cases op <;> first | rfl | exact absurd rfl h
  have e2 : (op == CmpOp.NotIn) = false := by cases op <;> first | rfl | exact absurd rfl h2
  cases b <;> simp [behindInMarks, e1, e2]
/-- a comparison as a value; hm: nomark b, or (for in, not in) by with_unfolding_all rfl -/
theorem pe_cmpR {op : CmpOp} {r : R2} (ho : OpR X (compareOp op) r) (ha : PE X a ta) (hb : PE X b tb) (hm : behindInMarks op b = false) : PE X (.Compare a [op] [b] pos) (tOp r ta tb) := by
  intro pins s σ H Q I h
  exact wpAny_Compare1 (binT ha hb I h fun v u s2 x y H2 I2 rx ry q => ho pins s2 σ H2 x y v u Q I2 rx ry q) hm
/-- a reading of a value as a test -/
def tTest (t : TE) : TT := fun σ H Q => t σ H fun x H' => ∃ k, x = .bl k ∧ Q k H'
theorem pt_cmpR {op : CmpOp} {r : R2} (ho : OpR X (compareOp op) r) (ha : PE X a ta) (hb : PE X b tb) (hm : behindInMarks op b = false) : PT X (.Compare a [op] [b] pos) (tTest (tOp r ta tb)) := by
  intro pins s σ H Q I h
  refine wpAny_isTrue_Compare1 (thn (ha pins s σ H _ I h) fun v s1 ⟨x, H1, I1, r1, q1⟩ => thn (hb pins s1 σ H1 _ I1 q1) fun u s2 ⟨y, H2, I2, r2, q2⟩ =>
    thn (ho pins s2 σ H2 x y v u _ I2 r1 r2 q2) fun c s3 ⟨z, H3, I3, r3, k, e, q3⟩ => ?_) hm
  subst e
  cases r3
  exact wpAny_truthy_bool ⟨H3, I3, q3⟩
/-- a op1 b op2 c -/
def tChain (r r' : R2) (ta tb tc : TE) : TE := fun σ H Q => ta σ H fun x H1 => tb σ H1 fun y H2 => r x y H2 fun z H3 => ∃ k, z = .bl k ∧
  (if k = true then tc σ H3 fun w' H4 => r' y w' H4 Q else Q (.bl false) H3)
/-! ### truth -/
theorem line63 : (sizeLine : Nat) < 2 ^ 63 := by rw [sizeLine_eq]; decide
/-! ### strs and bytes -/
theorem op_add_str : OpR X (binaryOp .Add) (fun x y H Q => ∃ i j, x = .str i ∧ y = .str j ∧ i.length + j.length ≤ sizeLine ∧ Q (.str (i ++ j)) H) := by
  intro pins s σ H x y v u Q I rx ry h
  obtain ⟨i, j, rfl, rfl, hz, q⟩ := h
  obtain ⟨t, rfl⟩ := rx
  obtain ⟨t', rfl⟩ := ry
  exact add_str (fun t' tk => ⟨.str (i ++ j), H, I.tok _, ⟨_, rfl⟩, q⟩) hz
/-! ### scalar builtins, by CallR -/
theorem vals1 {x : V} {us : List Value} (r : Vals [x] us) : ∃ u, us = [u] ∧ RelV x u := by
  cases r with
  | cons r1 r2 => cases r2; exact ⟨_, rfl, r1⟩
theorem vals2 {x y : V} {us : List Value} (r : Vals [x, y] us) : ∃ u w', us = [u, w'] ∧ RelV x u ∧ RelV y w' := by
  cases r with
  | cons r1 r2 =>
    cases r2 with
    | cons r3 r4 => cases r4; exact ⟨_, _, rfl, r1, r3⟩
theorem call_min2 (hc : X.calm = true) : CallR X (.builtin "min") (fun xs H Q => ∃ i j, xs = [.int i, .int j] ∧ Q (.int (if j < i then j else i)) H) := by
  intro pins s σ H xs us Q I r h
  obtain ⟨i, j, rfl, q⟩ := h
  obtain ⟨u, w', rfl, ⟨t, rfl⟩, ⟨t', rfl⟩⟩ := vals2 r
  refine min_two_ints (I.ok.hd hc) fun h' tk k => ⟨_, H, I.kept k, ?_, q⟩
  by_cases hj : j < i
  · rw [if_pos hj, if_pos hj]; exact ⟨_, rfl⟩
  · rw [if_neg hj, if_neg hj]; exact ⟨_, rfl⟩
theorem call_int1 : CallR X (.type "int") (fun xs H Q => (∃ i, xs = [.int i] ∧ Q (.int i) H) ∨ ∃ k, xs = [.bl k] ∧ Q (.int (if k then 1 else 0)) H) := by
  intro pins s σ H xs us Q I r h
  rcases h with ⟨i, rfl, q⟩ | ⟨k, rfl, q⟩
  · obtain ⟨u, rfl, t, rfl⟩ := vals1 r
    exact call_int_int ⟨.int i, H, I, ⟨_, rfl⟩, q⟩
  · obtain ⟨u, rfl, r1⟩ := vals1 r
    cases r1
    exact call_int_bool ⟨.int (if k then 1 else 0), H, I.tok _, ⟨_, rfl⟩, q⟩
end
end L2

namespace L2
open PySem PySem.Spec PyProof.Rows

/-! ### an instance, its attributes a map -/
structure ObjM (h : Heap) (x dx C : Addr) (mA : Str → Option Value) : Prop where
  obj : h.get? x = some (PySem.W.instObj C dx)
  ns : h.Ns1 dx mA
  ne : dx ≠ x

theorem lookIn_ns {h : Heap} {dx : Addr} {mA : Str → Option Value} (n : h.Ns1 dx mA) : ∃ od, h.get? dx = some od ∧ ∀ name, PySem.W.lookIn name od = some (mA name) := by
  obtain ⟨o, es, ep, ho, hd, hk, _, hm⟩ := n
  refine ⟨o, ho, fun name => ?_⟩
  have e := hm name
  unfold nsFind findBy at e
  rw [← Array.find?_toList] at e
  unfold PySem.W.lookIn
  rw [hd]
  dsimp only
  split
  · rename_i y q
    rw [q] at e
    exact congrArg some e
  · rename_i q
    rw [q] at e
    have a : es.toList.any (·.refKey) = false := by
      rw [List.any_eq_false]
      intro y hy
      obtain ⟨z, t, hkey⟩ := hk y (Array.mem_toList_iff.mp hy)
      simp [DictEntry.refKey, hkey]
    have a' : ¬ es.toList.any (·.refKey) = true := by rw [a]; exact Bool.false_ne_true
    rw [if_neg a']
    exact congrArg some e

theorem ObjM.look {h : Heap} {x dx C : Addr} {mA : Str → Option Value} (I : ObjM h x dx C mA) : ∃ od, PySem.W.InstAt h x (PySem.W.instObj C dx) C (some od) ∧ ∀ name, PySem.W.lookIn name od = some (mA name) :=
  let ⟨od, ho, hl⟩ := lookIn_ns I.ns
  ⟨od, ⟨I.obj, rfl, rfl, ho⟩, hl⟩

section
variable {prog : Program} {w : World} {A : Around} {E : Value → Shared → Prop} {s : Shared} {K : PySem.W.Frag} {x dx C f : Addr} {mA : Str → Option Value} {name : Str} {v : Value}

end

/-! ### the attributes as a list of pairs -/
section
variable {P : Program} {w : World} {H H' : Hp} {h h' : Heap} {a C dx : Addr} {fs fs' : List (Str × V)}
theorem ins_get (hok : HOk P w H h) (e : H a = some (.ins C dx fs)) : ∃ mA, ObjM h a dx C mA ∧ (∀ f, RelO (fs.lookup f) (mA f)) ∧ PySem.Within mA (fs.map (·.1)) ∧ fs.length ≤ 1000 ∧ H dx = some (.own a) := by
  obtain ⟨d, z, ne, ob, mA, n, r, q⟩ := (show ObjOk P w H h a (.ins C dx fs) from hok a _ e)
  exact ⟨mA, ⟨ob, n, ne⟩, r, q, z, d⟩
end

/-! ### what of the text a class must have -/
structure Cls (K : PySem.W.Frag) (C : Addr) : Prop where
  pg : PySem.W.plainGet K C Str.empty = true
  hd : PySem.W.hasDictIn K C = true
  po : PySem.W.plainOver K C = true
  sa : PySem.W.findIn K (.ref C) "__setattr__" = some (some (.builtin "object.__setattr__"))
theorem Cls.get {K : PySem.W.Frag} {C : Addr} (c : Cls K C) (f : Str) : PySem.W.plainGet K C f = true := c.pg
/-- a constant of the class -/
structure Con (K : PySem.W.Frag) (C : Addr) (f : Str) (v : V) (u : Value) : Prop where
  at_ : PySem.W.findIn K (.ref C) f = some (some u)
  rel : RelV v u
  get : PySem.W.specialIn K u "__get__" = some none
  cp : PySem.W.copiedNames.contains f = false
/-- a method: a plain def of the class or of one above it -/
structure Meth (K : PySem.W.Frag) (C : Addr) (m : Str) (f : Addr) : Prop where
  at_ : PySem.W.findIn K (.ref C) m = some (some (.ref f))
  fn : PySem.W.isFn K (.ref f) = true
  kp : PySem.W.keepIn K (.ref f) = true

section
variable {X : Cx} {pins : List (Addr × Obj)} {σ : St} {H : Hp} {s : Shared} {a C dx : Addr} {fs : List (Str × V)} {f : Str} {v : V} {A : Around} {E : Value → Shared → Prop}

/-- a new instance, tracked, without attributes -/
theorem Inv.made (I : Inv X pins σ H s) : Inv X pins σ (upd (upd H s.heap.objs.size (.own (s.heap.objs.size + 1))) (s.heap.objs.size + 1) (.ins C s.heap.objs.size []))
    { s with heap := (s.heap.push PySem.W.emptyDict).push (PySem.W.instObj C s.heap.objs.size) } := by
  have e1 : (s.heap.push PySem.W.emptyDict).get? s.heap.objs.size = some PySem.W.emptyDict := Heap.get?_push_size s.heap rfl
  have e2 : ((s.heap.push PySem.W.emptyDict).push (PySem.W.instObj C s.heap.objs.size)).get? (s.heap.objs.size + 1) = some (PySem.W.instObj C s.heap.objs.size) := by
    have := Heap.get?_push_size (s.heap.push PySem.W.emptyDict) (o := PySem.W.instObj C s.heap.objs.size) rfl
    rwa [Heap.size_push] at this
  have e3 : (s.heap.push PySem.W.emptyDict).Ns s.heap.objs.size (fun _ => none) := ⟨PySem.W.emptyDict, #[], _, e1, rfl, (fun e he => absurd he (by simp)), fun _ => rfl⟩
  have I1 := I.laid (a := s.heap.objs.size) (o := .own (s.heap.objs.size + 1)) (h' := s.heap.push PySem.W.emptyDict) (t' := s.toks) (fun b u q => Heap.get?_push_of_some _ q) (Nat.le_refl _) ⟨_, e1⟩
  refine I1.laid (a := s.heap.objs.size + 1) (o := .ins C s.heap.objs.size []) (t' := s.toks) (fun b u q => Heap.get?_push_of_some _ q) (Nat.le_of_eq (Heap.size_push _ _)) ?_
  have ne : s.heap.objs.size ≠ s.heap.objs.size + 1 := Nat.ne_of_lt (Nat.lt_succ_self _)
  refine ⟨by rw [upd_ne ne, upd_same], Nat.zero_le _, ne, e2, fun _ => none, (Heap.Ns1.of_empty e3).at fun o q => Heap.get?_push_of_some _ q, fun _ => True.intro, fun y hy => absurd rfl hy⟩

end

/-! ### readings and rules -/
section
variable {X : Cx} {o e value : Expr} {f : Str} {pos pos' tpos : Pos} {ta tv : TE}
end

/-! ### isinstance -/
section
variable {X : Cx} {pins : List (Addr × Obj)} {σ : St} {H : Hp} {s : Shared} {A : Around} {E : Value → Shared → Prop} {Q : Value → Shared → Prop} {c : Value} {b : Bool}
/-- the type of a value, as the fragment's deciders take it; for an instance its class -/
inductive TyOf (K : PySem.W.Frag) (H : Hp) : V → Value → Prop where
  | non : TyOf K H .non (.type "NoneType")
  | bl (x : Bool) : TyOf K H (.bl x) (.type "bool")
  | int (i : Int) : TyOf K H (.int i) (.type "int")
  | str (x : Str) : TyOf K H (.str x) (.type "str")
  | flt (x : UInt64) : TyOf K H (.flt x) (.type "float")
  | lst {a : Addr} {xs : List V} (e : H a = some (.lst xs)) : TyOf K H (.ref a) (.type "list")
  | frz {a : Addr} {o : Obj} {xs : List V} (e : H a = some (.frz o (.lst xs))) : TyOf K H (.ref a) (.type "list")
  | tup {a : Addr} {xs : List V} (e : H a = some (.tup xs)) : TyOf K H (.ref a) (.type "tuple")
  | dK {a : Addr} {kvs : List (Key × V)} (e : H a = some (.dK kvs)) : TyOf K H (.ref a) (.type "dict")
  | dT {a : Addr} {kvs : List (List Key × V)} (e : H a = some (.dT kvs)) : TyOf K H (.ref a) (.type "dict")
  | ins {a C dx : Addr} {fs : List (Str × V)} (e : H a = some (.ins C dx fs)) (cl : Cls K C) (ha : PySem.W.findIn K (.ref C) "__class__" = some (some (.builtin "object.__class__")))
      (hn : PySem.W.specialIn K (.builtin "object.__class__") "__get__" = some (some (.builtin "getset_descriptor.__get__"))) (htk : PySem.W.takesIn K (.builtin "object.__class__") = some true)
      (hm : PySem.W.mroIn K C (.type "object") = some true) : TyOf K H (.ref a) (.ref C)
/-- isinstance(x, c) for one class c, a built-in or an own one: kitOne's answer -/
theorem isinst_ok {x : V} {u t : Value} (I : Inv X pins σ H s) (rx : RelV x u) (ty : TyOf X.K H x t) (e : PySem.W.kitOne X.K t c = some b) (h : ∀ tk, Q (.bool b) { s with toks := tk }) :
    wpAny (model X.prog X.w) A (call (.builtin "isinstance") [u, c]) Q E s := by
  cases ty with
  | non => cases (show u = Value.none from rx); exact PySem.W.kia_one PySem.W.kitx_none I.kIn True.intro e (fun z => nomatch z) h
  | bl y => cases (show u = Value.bool y from rx); exact PySem.W.kia_one PySem.W.kitx_bool I.kIn True.intro e (fun z => nomatch z) h
  | int i => obtain ⟨t, q⟩ := (show ∃ t, u = Value.int i t from rx); cases q; exact PySem.W.kia_one PySem.W.kitx_int I.kIn True.intro e (fun z => nomatch z) h
  | str y => obtain ⟨t, q⟩ := (show ∃ t, u = Value.str y t from rx); cases q; exact PySem.W.kia_one PySem.W.kitx_str I.kIn True.intro e (fun z => nomatch z) h
  | flt y => obtain ⟨t, q⟩ := (show ∃ t, u = Value.float y t from rx); cases q; exact PySem.W.kia_one PySem.W.kitx_float I.kIn True.intro e (fun z => nomatch z) h
  | @lst a xs ea =>
    cases (show u = Value.ref a from rx)
    obtain ⟨_, _, n, _, h1⟩ := (show ObjOk X.prog X.w H s.heap a (.lst xs) from I.hok a _ ea)
    exact PySem.W.kia_one PySem.W.kitx_list I.kIn ⟨_, h1, rfl⟩ e (fun z => nomatch z) h
  | @frz a ob xs ea =>
    cases (show u = Value.ref a from rx)
    obtain ⟨_, _, _, n, _, h1⟩ := (show ObjOk X.prog X.w H s.heap a (.frz ob (.lst xs)) from I.hok a _ ea)
    exact PySem.W.kia_one PySem.W.kitx_list I.kIn ⟨_, h1, rfl⟩ e (fun z => nomatch z) h
  | @tup a xs ea =>
    cases (show u = Value.ref a from rx)
    obtain ⟨_, _, _, p⟩ := (show ObjOk X.prog X.w H s.heap a (.tup xs) from I.hok a _ ea)
    obtain ⟨o, h1, h2, _⟩ := p
    exact PySem.W.kia_one PySem.W.kitx_tuple I.kIn ⟨o, h1, h2⟩ e (fun z => nomatch z) h
  | @dK a kvs ea =>
    cases (show u = Value.ref a from rx)
    obtain ⟨_, _, vs, _, p⟩ := (show ObjOk X.prog X.w H s.heap a (.dK kvs) from I.hok a _ ea)
    obtain ⟨o, es, ep, h1, h2, _⟩ := p
    exact PySem.W.kia_one PySem.W.kitx_dict I.kIn ⟨o, h1, h2.1⟩ e (fun z => nomatch z) h
  | @dT a kvs ea =>
    cases (show u = Value.ref a from rx)
    obtain ⟨_, _, xs, _, o, es, ep, h1, h2, _⟩ := (show ObjOk X.prog X.w H s.heap a (.dT kvs) from I.hok a _ ea)
    exact PySem.W.kia_one PySem.W.kitx_dict I.kIn ⟨o, h1, h2.1⟩ e (fun z => nomatch z) h
  | @ins a C dx fs ea cl ha hn htk hm =>
    cases (show u = Value.ref a from rx)
    obtain ⟨mA, O, _⟩ := ins_get I.hok ea
    obtain ⟨od, J, _⟩ := O.look
    exact PySem.W.kia_one (PySem.W.kitx_own (cl.get _) cl.hd ha hn htk hm) I.kIn J e (fun z => nomatch z) h
end
end L2

namespace L2
open PySem PySem.Spec PyProof.Rows

/-! ### room -/
structure Room (k : Nat) (A : Around) : Prop where
  hd : A.handled = none
  dp : A.depth + 3 * k + 5 < recursionLimit
  un : A.units + 16 * k + 200 < cLine
theorem Room.mono {j k : Nat} {A : Around} (r : Room k A) (h : j ≤ k) : Room j A := ⟨r.hd, by have := r.dp; omega, by have := r.un; omega⟩
theorem Room.deeper {k : Nat} {A : Around} (r : Room (k + 1) A) (env : Env) : Room k (A.deeper env) :=
  ⟨r.hd, by have := r.dp; show A.depth + 1 + 3 * k + 5 < _; omega, by have := r.un; show A.units + 3 + 16 * k + 200 < _; omega⟩
theorem Room.in1 {k : Nat} {A : Around} (r : Room (k + 1) A) : Room k A.in1 :=
  ⟨r.hd, by have := r.dp; show A.depth + 3 * k + 5 < _; omega, by have := r.un; show A.units + 1 + 16 * k + 200 < _; omega⟩
theorem Room.depth {k : Nat} {A : Around} (r : Room k A) : A.depth < recursionLimit := by have := r.dp; omega
theorem Room.units {k : Nat} {A : Around} (r : Room k A) : A.units + 64 < cLine := by have := r.un; omega
/-! ### argument lists and displays -/
def tNil : TA := fun _ H Q => Q [] H
def tCons (ta : TE) (tr : TA) : TA := fun σ H Q => ta σ H fun x H1 => tr σ H1 fun xs H2 => Q (x :: xs) H2
section
variable {X : Cx} {e : Expr} {es : List Expr} {te : TE} {t : TA} {pos : Pos}
theorem pa_nil : PA X [] tNil := fun _ _ _ _ H Q I h => Calls.spliced_nil ⟨[], H, I, .nil, h⟩
theorem pa_cons (ha : PE X e te) (hr : PA X es t) (hs : starEach (e :: es) X.env = (false, eval e X.env) :: starEach es X.env := by rfl) : PA X (e :: es) (tCons te t) := by
  intro pos pins s σ H Q I h
  rw [hs]
  show wpAny _ _ (spliced ((false, eval e X.env) :: backTo pos (starEach es X.env))) _ _ s
  refine Calls.spliced_cons (thn (ha pins s σ H _ I h) fun u s1 ⟨x, H1, I1, r1, q1⟩ => ?_)
  exact thn (hr pos pins s1 σ H1 _ I1 q1) fun us s2 ⟨xs, H2, I2, r2, q2⟩ => ⟨x :: xs, H2, I2, .cons r1 r2, q2⟩

/-- a tuple, a list of written items -/
def tTup (t : TA) : TE := fun σ H Q => t σ H fun xs H1 => xs.length ≤ sizeLine ∧ ∀ p, H1 p = none → Q (.ref p) (upd H1 p (.tup xs))
def tLst (t : TA) : TE := fun σ H Q => t σ H fun xs H1 => xs.length ≤ sizeLine ∧ ∀ p, H1 p = none → Q (.ref p) (upd H1 p (.lst xs))
theorem pe_lst (h : PA X es t) : PE X (.List es pos) (tLst t) := by
  intro pins s σ H Q I hq
  refine wpAny_List_spliced (thn (h pos pins s σ H _ I hq) fun us s1 ⟨xs, H1, I1, r, z, q⟩ => ⟨by rw [← r.length]; exact z, ?_⟩)
  have hf : H1 s1.heap.objs.size = none := I1.hok.fresh (Nat.le_refl _)
  refine ⟨.ref s1.heap.objs.size, upd H1 s1.heap.objs.size (.lst xs), I1.laid (t' := s1.toks) (fun b u e => Heap.get?_push_of_some _ e) (Nat.le_refl _) ?_, rfl, q _ hf⟩
  exact ⟨z, us, 0, r, Heap.get?_push_size _ rfl⟩
end

/-! ### what a def promises -/
/-- a def's promise: the bound arguments in the parameters' order, the heap, the wanted end, the wanted exception -/
abbrev Sp := List V → Hp → VK → XK → Prop
/-- how an exception lies behind a call (file 08 gives it): the callers' frames, abstract heap and state ahead of the call, the wish, the exception, the state -/
abbrev CXT := List Env → Hp → Shared → XK → Value → Shared → Prop

/-- the state at a call -/
structure Env0 (P : Program) (w : World) (K : PySem.W.Frag) (mg : Str → Option Value) (base : Heap) (A : Around) (outer : List Env) (s : Shared) (H : Hp) : Prop where
  frames : A.frames = some outer
  mod : Mod K mg base
  bs : ∀ b o, base.get? b = some o → s.heap.get? b = some o ∧ H b = none
  bsz : base.objs.size ≤ s.heap.objs.size
  funs : s.heap.FunFrames base outer
  frf : ∀ b ∈ frs outer, H b = none
  hok : HOk P w H s.heap
  bare : AllBare s.gens
/-- a call's end -/
def CE (outer : List Env) (P : Program) (w : World) (H : Hp) (s : Shared) (Q : VK) (u : Value) (s' : Shared) : Prop :=
  ∃ v H', s'.os = s.os ∧ AllBare s'.gens ∧ Un (frs outer) [] H H' s.heap s'.heap ∧ HOk P w H' s'.heap ∧ RelV v u ∧ Q v H'
def CR (CX : CXT) (outer : List Env) (P : Program) (w : World) (H : Hp) (s : Shared) (Q : VK) (E : XK) (r : Result) (s' : Shared) : Prop :=
  match r with
  | .ok (.ret u) => CE outer P w H s Q u s'
  | .ok _ => False
  | .error e => CX outer H s E e s'
structure FnOk (P : Program) (w : World) (K : PySem.W.Frag) (mg : Str → Option Value) (base : Heap) (CX : CXT) (k : Nat) (f : Addr) (fd : FuncData) (ps : List Str) (sp : Sp) : Prop where
  len : ∀ vs H Q E, sp vs H Q E → vs.length = ps.length
  run : ∀ (A : Around) (outer : List Env) (s : Shared) (H : Hp) (args : Args) (us : List Value) (vs : List V) (Q : VK) (E : XK), Room k A → Env0 P w K mg base A outer s H → BindsTo s fd args (ps.zip us) → Vals vs us → sp vs H Q E →
    codeAny (model P w) A (.call (.ref f) args) (CR CX outer P w H s Q E) s
theorem FnOk.mono {P : Program} {w : World} {K : PySem.W.Frag} {mg : Str → Option Value} {base : Heap} {CX : CXT} {j k : Nat} {f : Addr} {fd : FuncData} {ps : List Str} {sp : Sp} (F : FnOk P w K mg base CX j f fd ps sp) (h : j ≤ k) :
    FnOk P w K mg base CX k f fd ps sp := ⟨F.len, fun A outer s H args us vs Q E hr => F.run A outer s H args us vs Q E (hr.mono h)⟩
theorem Env0.in1 {P : Program} {w : World} {K : PySem.W.Frag} {mg : Str → Option Value} {base : Heap} {A : Around} {outer : List Env} {s : Shared} {H : Hp} (e : Env0 P w K mg base A outer s H) :
    Env0 P w K mg base A.in1 outer s H := ⟨e.frames, e.mod, e.bs, e.bsz, e.funs, e.frf, e.hok, e.bare⟩

section
variable {X : Cx} {pins : List (Addr × Obj)} {σ : St} {H : Hp} {s s' : Shared}
/-- from a body: what a callee wants -/
theorem Inv.env0 (I : Inv X pins σ H s) : Env0 X.prog X.w X.K X.mg X.base X.A X.stack s H :=
  ⟨I.ok.frames, I.ok.mod, I.bs, Nat.le_trans I.ok.bsz I.sz, I.stack, I.stkFree, I.hok, I.bare⟩
/-- behind a call -/
theorem Inv.after {Q : VK} {u : Value} (I : Inv X pins σ H s) (h : CE X.stack X.prog X.w H s Q u s') : EP X pins σ Q u s' := by
  obtain ⟨v, H', os, bare, un, hok, r, q⟩ := h
  obtain ⟨hh, g, d, t, os'⟩ := s'
  obtain rfl : os' = s.os := os
  exact ⟨v, H', I.call (h' := hh) (g' := g) (d' := d) (t' := t) (ch := []) un hok bare (fun b z => absurd z (by simp)), r, q⟩
end

/-! ### calls -/
/-- f(..): the written arguments, then the defaults dvs; E: what is wanted of an exception -/
def tCall (sp : Sp) (dvs : List V) (E : XK) (t : TA) : TE := fun σ H Q => t σ H fun vs H1 => sp (vs ++ dvs) H1 Q E
/-- how the parameters are bound: us the positional arguments, kw the keywords' values by name, ds the defaults that fill up -/
def Binds (K : PySem.W.Frag) (fd : FuncData) (ps : List Str) (ds : List Value) : Prop :=
  ∀ (s : Shared) (us : List Value), K.In s.heap → (us ++ ds).length = ps.length → BindsTo s fd ⟨us, []⟩ (ps.zip (us ++ ds))
/-- every parameter is given -/
theorem Binds.all {K : PySem.W.Frag} {fd : FuncData} {ps : List Str} (h : ∀ us : List Value, us.length = ps.length → bindArgs fd ⟨us, []⟩ = pure (ps.zip us)) : Binds K fd ps [] := fun s us _ hl => by
  rw [List.append_nil] at hl ⊢
  exact .of_eq (h us hl)

/-- an exception of a callee reaches what this body wants of exceptions -/
def Passes (CX : CXT) (X : Cx) (E : XK) : Prop := ∀ (pins : List (Addr × Obj)) (σ : St) (H : Hp) (s : Shared) (e : Value) (s' : Shared), Inv X pins σ H s → CX X.stack H s E e s' → X.xe e s'

section
variable {X : Cx} {CX : CXT} {k : Nat} {f C : Addr} {fd : FuncData} {ps : List Str} {sp : Sp} {dvs : List V} {ds : List Value} {E : XK} {x m : Str} {p pos apos : Pos} {e o : Expr} {es : List Expr} {ta : TE} {t : TA}

/-- the callee runs -/
theorem run_fn {pins : List (Addr × Obj)} {σ : St} {H : Hp} {s : Shared} {Q : VK} {us : List Value} {vs : List V} (F : FnOk X.prog X.w X.K X.mg X.base CX k f fd ps sp) (hr : Room k X.A) (hb : Binds X.K fd ps ds) (hd : Vals dvs ds) (hx : Passes CX X E)
    (I : Inv X pins σ H s) (r : Vals vs us) (h : sp (vs ++ dvs) H Q E) : wpAny (model X.prog X.w) X.A (call (.ref f) us) (EP X pins σ Q) X.xe s := by
  have r2 : Vals (vs ++ dvs) (us ++ ds) := r.append hd
  have hl : (us ++ ds).length = ps.length := by rw [← r2.length]; exact F.len _ _ _ _ h
  refine wpAny_call (codeAny_mono (F.run X.A X.stack s H ⟨us, []⟩ (us ++ ds) (vs ++ dvs) Q E hr I.env0 (hb s us I.kIn hl) r2 h) fun r s' hq => ?_)
  cases r with
  | error e => exact hx pins σ H s e s' I hq
  | ok fl =>
    cases fl with
    | ret u => exact I.after hq
    | next => exact False.elim hq
    | brk => exact False.elim hq
    | cont => exact False.elim hq

theorem pe_call (F : FnOk X.prog X.w X.K X.mg X.base CX k f fd ps sp) (hr : Room k X.A) (hg : Gl X x) (hm : X.mg x = some (.ref f)) (hk : PySem.W.keepIn X.K (.ref f) = true) (hb : Binds X.K fd ps ds) (hd : Vals dvs ds) (hx : Passes CX X E)
    (ha : PA X (e :: es) t) (hdb : (x == ("__debug__" : Str)) = false := by decide) (he : starEach (e :: es) X.env = (false, eval e X.env) :: starEach es X.env := by rfl) (hpl : (backTo pos (starEach es X.env)).any (·.1) = false := by rfl) :
    PE X (.Call (.Name x p) (e :: es) [] pos) (tCall sp dvs E t) := by
  intro pins s σ H Q I h
  refine wpAny_Call_Name_kw (ld_glob I hg hm ?_ hdb)
  refine PySem.W.callWith_K (h₀ := X.base) I.ok.mod.kin hk (thn (ha pos pins s σ H _ I h) fun us s1 ⟨vs, H1, I1, r, q⟩ => ⟨I1.kIn, ?_⟩) he hpl
  exact run_fn F hr hb hd hx I1 r q
/-- what a class must have to be made -/
structure Mk (K : PySem.W.Frag) (C f : Addr) : Prop where
  makes : PySem.W.makesIn K C = true
  init : PySem.W.findIn K (.ref C) "__init__" = some (some (.ref f))
  fn : PySem.W.isFn K (.ref f) = true
  kp : PySem.W.keepIn K (.ref C) = true

end

/-! ### keywords -/
section
variable {X : Cx} {CX : CXT} {k : Nat} {f C : Addr} {fd : FuncData} {ps ks : List Str} {sp : Sp} {E : XK} {x m : Str} {p pos apos kpos : Pos} {e o : Expr} {es : List Expr} {kws : List Keyword} {te ta : TE} {t tk : TA} {nm : Option Str}
/-- how a call with keywords binds: g puts the positional values us and the keywords' values ws (names ks) in the parameters' order, defaults among them -/
structure KBinds (K : PySem.W.Frag) (fd : FuncData) (ps ks : List Str) (g : List Value → List Value → List Value) (gV : List V → List V → List V) : Prop where
  to : ∀ (s : Shared) (us ws : List Value), K.In s.heap → (g us ws).length = ps.length → BindsTo s fd ⟨us, ks.zip ws⟩ (ps.zip (g us ws))
  rel : ∀ {vs : List V} {us : List Value} {zs : List V} {ws : List Value}, Vals vs us → Vals zs ws → Vals (gV vs zs) (g us ws)
variable {g : List Value → List Value → List Value} {gV : List V → List V → List V}
end

/-! ### a def's body keeps its promise -/
/-- names: the parameters first -/
structure FnScope (N P : List Str) (sc : Scope) : Prop where
  kind : sc.kind = .function
  co : sc.isCoroutine = false
  gen : sc.isGenerator = false
  nd : N.Nodup
  pre : N.take P.length = P
  par : ∀ x ∈ P, sc.names.lookup x = some .local ∨ sc.names.lookup x = some .cell
  nofree : ∀ y ∈ sc.names, y.2 ≠ .free

theorem bindL_out {kindOf : Str → Option NameKind} {x : Str} : ∀ {binds : List (Str × Value)} {m : Str → Option Value}, (∀ v, (x, v) ∉ binds) → bindL kindOf binds m x = m x
  | [], _, _ => rfl
  | (n, v) :: r, m, h => by
    unfold bindL
    rw [bindL_out fun w hw => h w (List.mem_cons_of_mem _ hw)]
    split
    · have : x ≠ n := by rintro rfl; exact h v List.mem_cons_self
      simp [this]
    · rfl
theorem bindC_out {kindOf : Str → Option NameKind} {x : Str} : ∀ {binds : List (Str × Value)} {m : Str → Option Value}, (∀ v, (x, v) ∉ binds) → bindC kindOf binds m x = m x
  | [], _, _ => rfl
  | (n, v) :: r, m, h => by
    unfold bindC
    rw [bindC_out fun w hw => h w (List.mem_cons_of_mem _ hw)]
    split
    · rfl
    · have : x ≠ n := by rintro rfl; exact h v List.mem_cons_self
      simp [this]
theorem bindL_get {kindOf : Str → Option NameKind} {x : Str} {v : Value} : ∀ {P : List Str} {vs : List Value} {i : Nat} {m : Str → Option Value}, P.Nodup → P[i]? = some x → vs[i]? = some v → kindOf x = some .local →
    bindL kindOf (P.zip vs) m x = some v
  | [], _, _, _, _, h, _, _ => by simp at h
  | _ :: _, [], _, _, _, _, h, _ => by simp at h
  | p :: P, w :: vs, 0, m, nd, h1, h2, hk => by
    simp at h1 h2; subst h1; subst h2
    show bindL kindOf ((p, w) :: P.zip vs) m p = _
    unfold bindL
    rw [bindL_out fun v hv => (List.nodup_cons.mp nd).1 (List.of_mem_zip hv).1, if_pos hk]
    simp
  | p :: P, w :: vs, i + 1, m, nd, h1, h2, hk => by
    show bindL kindOf ((p, w) :: P.zip vs) m x = _
    unfold bindL
    exact bindL_get (i := i) (List.nodup_cons.mp nd).2 (by simpa using h1) (by simpa using h2) hk
theorem bindC_get {kindOf : Str → Option NameKind} {x : Str} {v : Value} : ∀ {P : List Str} {vs : List Value} {i : Nat} {m : Str → Option Value}, P.Nodup → P[i]? = some x → vs[i]? = some v → kindOf x ≠ some .local →
    bindC kindOf (P.zip vs) m x = some v
  | [], _, _, _, _, h, _, _ => by simp at h
  | _ :: _, [], _, _, _, _, h, _ => by simp at h
  | p :: P, w :: vs, 0, m, nd, h1, h2, hk => by
    simp at h1 h2; subst h1; subst h2
    show bindC kindOf ((p, w) :: P.zip vs) m p = _
    unfold bindC
    rw [bindC_out fun v hv => (List.nodup_cons.mp nd).1 (List.of_mem_zip hv).1, if_neg hk]
    simp
  | p :: P, w :: vs, i + 1, m, nd, h1, h2, hk => by
    show bindC kindOf ((p, w) :: P.zip vs) m x = _
    unfold bindC
    exact bindC_get (i := i) (List.nodup_cons.mp nd).2 (by simpa using h1) (by simpa using h2) hk

/-- the names' values at the entry -/
def start (N : List Str) (vs : List V) : St := vs.map some ++ List.replicate (N.length - vs.length) none

/-- the context of a def's body, at its entry; an exception leaves the frame, then lies as CX says -/
def cxOf (CX : CXT) (P : Program) (w : World) (K : PySem.W.Frag) (mg : Str → Option Value) (base : Heap) (N : List Str) (qual : Str) (scope : Scope) (f : Addr) (cd : Value) (A : Around) (outer : List Env) (s : Shared) (H : Hp) (E : XK) : Cx where
  prog := P
  w := w
  K := K
  mg := mg
  base := base
  A := A.deeper (envOfC qual scope s.heap.objs.size f cd)
  N := N
  s₀ := s
  H₀ := H
  env := envOfC qual scope s.heap.objs.size f cd
  outer := outer
  stack := envOfC qual scope s.heap.objs.size f cd :: outer
  ex := []
  calm := true
  fn := fun _ => true
  pn := []
  xe := fun e s' => wpAny (model P w) (A.deeper (envOfC qual scope s.heap.objs.size f cd)) (leaving (envOfC qual scope s.heap.objs.size f cd) e) (fun _ s'' => CX outer H s E e s'') (fun e' s'' => CX outer H s E e' s'') s'

theorem cell_has {sc : Scope} {n : Nat} {x : Str} (h : sc.names.lookup x = some .cell) : ∃ c, (cellsFrom n sc.names []).lookup x = some c := by
  have q := PySem.W.cellsFrom_some sc.names n [] (.inl h)
  exact Option.isSome_iff_exists.mp q

theorem inv_start {CX : CXT} {P : Program} {w : World} {K : PySem.W.Frag} {mg : Str → Option Value} {base : Heap} {N ps : List Str} {qual : Str} {scope : Scope} {f : Addr} {cd : Value} {A : Around} {outer : List Env} {s s1 : Shared} {H : Hp} {E : XK} {us : List Value} {vs : List V}
    (S : FnScope N ps scope) (hd : A.handled = none) (e0 : Env0 P w K mg base A outer s H) (hl : vs.length = ps.length) (r : Vals vs us)
    (x : InCallC s s.heap.objs.size (bindL (envOfC qual scope s.heap.objs.size f cd).kindOf (ps.zip us) fun _ => none) (cellsFrom (s.heap.objs.size + 1) scope.names []) (bindC (envOfC qual scope s.heap.objs.size f cd).kindOf (ps.zip us) fun _ => none) s1) :
    Inv (cxOf CX P w K mg base N qual scope f cd A outer s H E) [] (start N vs) H s1 := by
  have hpl : ps.length ≤ N.length := by have := congrArg List.length S.pre; rw [List.length_take] at this; omega
  obtain ⟨h1, tk, rfl, hk⟩ := x.done
  have noA : ∀ b : Addr, b ∉ (cxOf CX P w K mg base N qual scope f cd A outer s H E).ex := fun b z => absurd (show b ∈ ([] : List Addr) from z) (by simp)
  refine ⟨⟨e0.mod, S.kind, rfl, rfl, Nat.le_refl _, fun y z c h1 h2 => ?_, fun y hy => ?_, fun y c _ h => ?_, fun _ => hd, Around.frames_deeper e0.frames, .inr ⟨rfl, rfl⟩, fun b z => absurd z (noA b), e0.bs, e0.bsz, fun b _ _ => noA b, fun b z => absurd z (noA b), e0.funs, e0.frf⟩,
    rfl, e0.bare, Un.kept hk, ⟨_, x.toInCall.ns, fun i y v h1 h2 h3 => ?_⟩, fun y c h => ⟨_, x.cell y c h⟩, e0.hok.fresh (Nat.le_refl _), fun y c h => ?_, fun p hp => absurd (show p ∈ ([] : List (Addr × Obj)) from hp) (by simp), e0.hok.kept hk, ?_⟩
  · exact name_of_addr x.apart (PySem.mem_of_lookup h1) (PySem.mem_of_lookup h2)
  · have hy : scope.names.lookup y = some .cell ∨ scope.names.lookup y = some .free := hy
    rcases hy with hy | hy
    · exact cell_has hy
    · exact absurd rfl (S.nofree _ (PySem.mem_of_lookup hy))
  · exact Nat.le_of_lt (x.above y c (PySem.mem_of_lookup h))
  · have hi : i < vs.length := by
      unfold start at h2
      by_cases hi : i < vs.length
      · exact hi
      · rw [List.getElem?_append_right (by simpa using hi)] at h2
        rw [List.getElem?_replicate] at h2
        split at h2 <;> cases h2
    have ha : vs[i]? = some v := by
      unfold start at h2
      rw [List.getElem?_append_left (by simpa using hi), List.getElem?_map] at h2
      cases e : vs[i]? with
      | none => rw [e] at h2; cases h2
      | some a => rw [e] at h2; cases h2; rfl
    obtain ⟨u, hu, rv⟩ := r.get ha
    have hp : ps[i]? = some y := by
      rw [← S.pre, List.getElem?_take_of_lt (by omega)]; exact h1
    have ndP : ps.Nodup := by rw [← S.pre]; exact S.nd.sublist (List.take_sublist _ _)
    refine ⟨u, rv, ?_⟩
    rcases S.par y (List.mem_of_getElem? hp) with k | k
    · exact .inl ⟨k, bindL_get ndP hp hu k⟩
    · obtain ⟨c, e⟩ := cell_has (n := s.heap.objs.size + 1) k
      refine .inr ⟨.inl k, c, e, ?_⟩
      have q := x.cell y c e
      rw [bindC_get ndP hp hu (by show scope.names.lookup y ≠ _; rw [k]; decide)] at q
      exact q
  · exact e0.hok.fresh (Nat.le_of_lt (x.above y c (PySem.mem_of_lookup h)))
  · unfold start
    show _ = N.length
    rw [List.length_append, List.length_map, List.length_replicate]
    omega

/-- THE RULE: a def (or a method) of the text, by its body. The body's reading t is chosen for each entry; it is run at the parameters' values -/
theorem fn_of {CX : CXT} {P : Program} {w : World} {K : PySem.W.Frag} {mg : Str → Option Value} {base : Heap} {k : Nat} {f : Addr} {name qual : Str} {params : Arguments} {body : List Stmt} {scope : Scope} {dV kV doc pm cdv ct oc : Value} {an od : Option Addr}
    {osl : Array (Option Value)} {N ps : List Str} {sp : Sp} (lk : K.lookup f = some ⟨oc, od, .func (PySem.W.fnOf name qual params body scope dV kV doc pm an cdv ct), osl⟩) (hcd : PySem.W.codeIn K cdv qual = true) (S : FnScope N ps scope)
    (len : ∀ vs H Q E, sp vs H Q E → vs.length = ps.length)
    (hbody : ∀ (A : Around) (outer : List Env) (s : Shared) (H : Hp) (vs : List V) (Q : VK) (E : XK), Room k (A.deeper (envOfC qual scope s.heap.objs.size f cdv)) → sp vs H Q E →
      ∃ t, PSs (cxOf CX P w K mg base N qual scope f cdv A outer s H E) body t ∧ t { nx := fun _ H' => Q .non H', rt := Q } (start N vs) H) :
    FnOk P w K mg base CX (k + 1) f (PySem.W.fnOf name qual params body scope dV kV doc pm an cdv ct) ps sp := by
  refine ⟨len, fun A outer s H args us vs Q E hr e0 hb r hsp => ?_⟩
  have hl := len _ _ _ _ hsp
  have KX : K.In s.heap := e0.mod.kin.keeps fun b o e => (e0.bs b o e).1
  have lim : s.heap.NoLimit := e0.mod.nolimit.keeps fun b o e => (e0.bs b o e).1
  have hkind : ∀ y ∈ ps.zip us, scope.names.lookup y.1 = some .local ∨ (scope.names.lookup y.1 = some .cell ∧ ((cellsFrom (s.heap.objs.size + 1) scope.names []).lookup y.1).isSome = true) := fun ⟨n, v⟩ hy => by
    rcases S.par n (List.of_mem_zip hy).1 with q | q
    · exact .inl q
    · exact .inr ⟨q, PySem.W.cellsFrom_some _ _ _ (.inl q)⟩
  refine codeAny_call_function hr.depth (KX _ _ lk) rfl S.co S.gen rfl (PySem.W.codeRec_of KX hcd) (hb _ _ _ _ ?_)
  refine wpAny_newFunctionEnv_cells S.kind hkind fun env he s1 x => ?_
  subst he
  refine ⟨lim.keeps x.toInCall.keep, codeAny_func ?_⟩
  obtain ⟨t, ht, hq⟩ := hbody A outer s H vs Q E (hr.deeper _) hsp
  have I : Inv (cxOf CX P w K mg base N qual scope f cdv A outer s H E) [] (start N vs) H s1 := inv_start S hr.hd e0 hl r x
  refine wpAny_mono (ht [] s1 (start N vs) H _ I hq) (fun fl s' hs => ?_) fun e s' hs => hs
  have fin : ∀ {σ' : St} {H' : Hp} {v : V} {u : Value}, Inv (cxOf CX P w K mg base N qual scope f cdv A outer s H E) [] σ' H' s' → RelV v u → Q v H' → CE outer P w H s Q u s' :=
    fun {σ' H' v u} J rv q => ⟨v, H', J.os, J.bare, J.base, J.hok, rv, q⟩
  cases fl with
  | ret u =>
    obtain ⟨v, σ', H', J, rv, q⟩ := hs
    exact fin J rv q
  | next =>
    obtain ⟨σ', H', J, q⟩ := hs
    exact fin (v := V.non) (u := Value.none) J rfl q
  | brk =>
    obtain ⟨_, _, _, q⟩ := hs
    exact False.elim q
  | cont =>
    obtain ⟨_, _, _, q⟩ := hs
    exact False.elim q
end L2

namespace L2
open PySem PySem.Spec PyProof.Rows
section
variable {X : Cx} {x : Str} {p pos : Pos} {e : Expr} {es : List Expr} {t : TA} {id T : String} {r : List V → Hp → VK → Prop}

def tCB (r : List V → Hp → VK → Prop) (t : TA) : TE := fun σ H Q => t σ H fun vs H1 => r vs H1 Q
/-- f(e, ..), f a built-in function -/
theorem pe_callB (hc : CallR X (.builtin id) r) (hg : Gl X x) (hm : X.mg x = none) (hv : bootBuiltins x = some (.builtin id)) (ha : PA X (e :: es) t) (hn : x ≠ "__name__" := by decide) (hdb : (x == ("__debug__" : Str)) = false := by decide)
    (he : starEach (e :: es) X.env = (false, eval e X.env) :: starEach es X.env := by rfl) (hpl : (backTo pos (starEach es X.env)).any (·.1) = false := by rfl) : PE X (.Call (.Name x p) (e :: es) [] pos) (tCB r t) := by
  intro pins s σ H Q I h
  refine wpAny_Call_Name_kw (ld_blt I hg hm hv ?_ hn hdb)
  exact PyProof.Rows.callWith_builtin1 (thn (ha pos pins s σ H _ I h) fun us s1 ⟨vs, H1, I1, r1, q1⟩ => hc pins s1 σ H1 vs us Q I1 r1 q1) he hpl
/-- T(e, ..), T a built-in type -/
theorem pe_callTy (hc : CallR X (.type T) r) (hg : Gl X x) (hm : X.mg x = none) (hv : bootBuiltins x = some (.type T)) (ha : PA X (e :: es) t) (hn : x ≠ "__name__" := by decide) (hdb : (x == ("__debug__" : Str)) = false := by decide)
    (he : starEach (e :: es) X.env = (false, eval e X.env) :: starEach es X.env := by rfl) (hpl : (backTo pos (starEach es X.env)).any (·.1) = false := by rfl) : PE X (.Call (.Name x p) (e :: es) [] pos) (tCB r t) := by
  intro pins s σ H Q I h
  refine wpAny_Call_Name_kw (ld_blt I hg hm hv ?_ hn hdb)
  exact PyProof.Rows.callWith_type1 (thn (ha pos pins s σ H _ I h) fun us s1 ⟨vs, H1, I1, r1, q1⟩ => hc pins s1 σ H1 vs us Q I1 r1 q1) he hpl
end
end L2

namespace HT
open PySem PyProof.Rows

section
open PySem.SeqAt
open PySem.AutoSeq1 (wpAny_loadPart')
open PySem.MeetsSeq PySem.MeetsSeq2 PySem.MeetsSeq3

end

section
variable {prog : Program} {w : World} {A : Around} {E : Value → Shared → Prop} {s : Shared}

/-- t + u, t not empty -/
theorem cat_tup {t b : Addr} {vs ws : List Value} {Q : Value → Shared → Prop} (ht : IsTup s.heap t vs.toArray) (hb : IsTup s.heap b ws.toArray) (hv : vs ≠ [])
    (h1 : ws = [] → Q (.ref t) s) (h2 : ws ≠ [] → Q (.ref s.heap.objs.size) { s with heap := s.heap.push { cls := .type "tuple", data := .seq (vs ++ ws).toArray } })
    (hsz : vs.length + ws.length ≤ sizeLine) : wpAny (model prog w) A (binaryOp .Add (.ref t) (.ref b)) Q E s := by
  obtain ⟨⟨cls, dd, data, sl⟩, ho, hc, n, hd⟩ := id ht
  obtain ⟨⟨cls2, dd2, data2, sl2⟩, ho2, hc2, n2, hd2⟩ := id hb
  simp only at hc hd hc2 hd2
  subst hc hd hc2 hd2
  have e : vs.toArray ++ ws.toArray = (vs ++ ws).toArray := by simp
  by_cases hw : ws = []
  · exact concat_meets ⟨_, ho, rfl⟩ ⟨_, ho2, rfl⟩ noFill_tuple_add seq_tuple_add PySem.F.slot_tuple_add PySem.F.entry_tuple_add (PySem.F.args_tuple_add_2 _ _)
      (tuple_addW1 t b vs.toArray ws.toArray n n2 dd dd2 sl sl2 (by simpa using hv) (by simp [hw])) ⟨ho, ho2, h1 hw⟩
  · refine concat_meets ⟨_, ho, rfl⟩ ⟨_, ho2, rfl⟩ noFill_tuple_add seq_tuple_add PySem.F.slot_tuple_add PySem.F.entry_tuple_add (PySem.F.args_tuple_add_2 _ _)
      (tuple_addW2 t b vs.toArray ws.toArray n n2 dd dd2 sl sl2 (by simpa using hv) (by simpa using hw) (by rw [List.size_toArray, List.size_toArray]; exact hsz)) ⟨ho, ho2, ?_⟩
    rw [e]
    exact h2 hw

/-! ### t[a:b], not the whole -/
/-- a slice's bound as a place among n (d where it is left out) -/
def sIx (n d : Nat) : Option Int → Nat
  | none => d
  | some v => if v < 0 then (v + (n : Int)).toNat else min v.toNat n
theorem sIx_nat (n d k : Nat) : sIx n d (some (k : Int)) = min k n := by
  show (if (k : Int) < 0 then ((k : Int) + (n : Int)).toNat else min (k : Int).toNat n) = min k n
  rw [if_neg (by omega), Int.toNat_natCast]
theorem sIx_le (n d : Nat) (hd : d ≤ n) (o : Option Int) : sIx n d o ≤ n := by
  cases o with
  | none => exact hd
  | some v =>
    show (if v < 0 then (v + (n : Int)).toNat else min v.toNat n) ≤ n
    by_cases hv : v < 0
    · rw [if_pos hv]; omega
    · rw [if_neg hv]; exact Nat.min_le_right _ _
theorem clip_eq (v : Int) (n d : Nat) : (if v < 0 then max (v + (n : Int)) 0 else min v (n : Int)) = ((sIx n d (some v) : Nat) : Int) := by
  show (if v < 0 then max (v + (n : Int)) 0 else min v (n : Int)) = (((if v < 0 then (v + (n : Int)).toNat else min v.toNat n) : Nat) : Int)
  by_cases hv : v < 0
  · simp only [if_pos hv]; omega
  · simp only [if_neg hv]; omega
theorem adjust_gen (lo hi : Option Int) (n : Nat) : Builtin.Slice.sliceAdjust lo hi 1 (n : Int) = (((sIx n 0 lo : Nat) : Int), ((sIx n n hi : Nat) : Int)) := by
  have h1 : ¬ ((1 : Int) < 0) := by omega
  unfold Builtin.Slice.sliceAdjust
  simp only [h1, if_false]
  refine Prod.ext ?_ ?_
  · cases lo with
    | none => rfl
    | some v => exact clip_eq v n 0
  · cases hi with
    | none => rfl
    | some v => exact clip_eq v n n
theorem places_gen (i j : Nat) : Builtin.Slice.slicePlaces (i : Int) (j : Int) 1 = j - i := by
  unfold Builtin.Slice.slicePlaces
  have h1 : (1 : Int) > 0 := by omega
  simp only [h1, if_true, Int.ediv_one]
  split <;> omega
theorem slicePart_ {v : Value} {o : Option Int} {Q : Option Int → Shared → Prop} (p : IsPart v o) (h : Q o s) : wpAny (model prog w) A (Builtin.Slice.slicePartIndex v) Q E s := by
  cases p with
  | none => exact slicePart_none h
  | int i t => exact slicePart_int h
theorem sliceApplied_gen {sl : Addr} {vl vu : Value} {lo hi : Option Int} {n : Nat} {Q : Int × Int × Nat → Shared → Prop} (hs : s.heap.IsSliceOf sl vl vu .none) (pl : IsPart vl lo) (pu : IsPart vu hi)
    (h : Q (((sIx n 0 lo : Nat) : Int), 1, sIx n n hi - sIx n 0 lo) s) : wpAny (model prog w) A (Builtin.Slice.sliceApplied (.ref sl) (pure (n : Int))) Q E s := by
  obtain ⟨os, hos, hcs, hds⟩ := id hs
  unfold Builtin.Slice.sliceApplied Builtin.Slice.sliceFields
  refine wpAny_bind (wpAny_bind (wpAny_field hos hds (x := vl) rfl (wpAny_bind (wpAny_field hos hds (x := vu) rfl (wpAny_bind (wpAny_field hos hds (x := .none) rfl (wpAny_pure ?_)))))))
  refine wpAny_bind (slicePart_none ?_)
  show wpAny _ _ (if ((1 : Int) == 0) = true then _ else _) _ _ s
  rw [if_neg (by decide)]
  refine wpAny_bind (slicePart_ pl (wpAny_bind (slicePart_ pu (wpAny_bind (wpAny_pure ?_)))))
  show wpAny _ _ (match Builtin.Slice.sliceAdjust lo hi 1 (n : Int) with | (lo, hi) => pure (lo, (1 : Int), Builtin.Slice.slicePlaces lo hi 1)) _ _ s
  rw [adjust_gen lo hi n]
  show wpAny _ _ (pure (((sIx n 0 lo : Nat) : Int), (1 : Int), Builtin.Slice.slicePlaces ((sIx n 0 lo : Nat) : Int) ((sIx n n hi : Nat) : Int) 1)) _ _ s
  rw [places_gen]
  exact wpAny_pure h
theorem pick_gen (xs : Array Value) (i k : Nat) : ((List.range k).filterMap fun (m : Nat) => xs[((i : Int) + (m : Int) * 1).toNat]?).toArray = ((xs.toList.drop i).take k).toArray := by
  have e : (fun (m : Nat) => xs[((i : Int) + (m : Int) * 1).toNat]?) = fun m => xs[i + m]? := by
    funext m
    have : ((i : Int) + (m : Int) * 1).toNat = i + m := by omega
    rw [this]
  rw [e]
  have := pick_run xs i k
  rw [List.filterMap_map] at this
  have e2 : ((fun x => xs[x]?) ∘ fun x => i + x) = fun m => xs[i + m]? := rfl
  rw [e2] at this
  rw [this]

theorem getItem_tuple_cut {t sl : Addr} {items : Array Value} {vl vu : Value} {lo hi : Option Int} {Q : Value → Shared → Prop} (ht : IsTup s.heap t items) (hs : s.heap.IsSliceOf sl vl vu .none) (pl : IsPart vl lo) (pu : IsPart vu hi)
    (hw : ¬ (sIx items.size 0 lo = 0 ∧ sIx items.size items.size hi = items.size))
    (h : Q (.ref s.heap.objs.size) { s with heap := s.heap.push { cls := .type "tuple", data := .seq ((items.toList.drop (sIx items.size 0 lo)).take (sIx items.size items.size hi - sIx items.size 0 lo)).toArray } })
    (hsz : items.size ≤ sizeLine) : wpAny (model prog w) A (getItem (.ref t) (.ref sl)) Q E s := by
  have htake : sizeOk (.seq ((items.toList.drop (sIx items.size 0 lo)).take (sIx items.size items.size hi - sIx items.size 0 lo)).toArray) := by
    show ((items.toList.drop (sIx items.size 0 lo)).take (sIx items.size items.size hi - sIx items.size 0 lo)).toArray.size ≤ sizeLine
    rw [List.size_toArray, List.length_take, List.length_drop, Array.length_toList]
    omega
  have hj : sIx items.size items.size hi ≤ items.size := sIx_le _ _ (Nat.le_refl _) hi
  obtain ⟨os, hos, hcs, hds⟩ := id hs
  have hTs : s.TypeIs (.ref sl) "slice" := ⟨os, hos, hcs⟩
  unfold getItem
  try with_reducible refine wpAny_holding ?_
  first | refine wpAny_bind (wpAny_pure ?_) | skip
  refine wpAny_bind (wpAny_sequenceKey ht.typeIs (by decide) ?_)
  refine wpAny_bind (wpAny_callSpecial?_slot (name := Str.ofString "__getitem__") ht.typeIs PyProof.Rows.slot_tuple_getitem
    (wpAny_call_entry PyProof.Rows.slot_tuple_getitem ht.typeIs entry_tuple_getitem ?_ (args_tuple_getitem _ _)))
  show wpAny _ _ (Builtin.Tuple.tupleItemsOf (.ref t) >>= _) _ _ s
  refine wpAny_bind (tupleItemsOf_ ht ?_)
  refine wpAny_bind (wpAny_typeOf hTs ?_)
  rw [if_pos (by decide)]
  refine wpAny_bind (sliceApplied_gen hs pl pu ?_)
  have hno : ¬ ((((sIx items.size 0 lo : Nat) : Int) == 0 && (1 : Int) == 1 && (sIx items.size items.size hi - sIx items.size 0 lo) == items.size) = true) := by
    intro q
    rw [Bool.and_eq_true, Bool.and_eq_true] at q
    have q1 : ((sIx items.size 0 lo : Nat) : Int) = 0 := eq_of_beq q.1.1
    have q2 : sIx items.size items.size hi - sIx items.size 0 lo = items.size := eq_of_beq q.2
    exact hw ⟨by omega, by omega⟩
  show wpAny _ _ (if (((sIx items.size 0 lo : Nat) : Int) == 0 && (1 : Int) == 1 && (sIx items.size items.size hi - sIx items.size 0 lo) == items.size) = true then _ else _) _ _ s
  rw [if_neg hno, pick_gen]
  first
    | exact wpAny_bind (m := Builtin.Tuple.tupleExact _) (wpAny_newObj_type (wpAny_pure ⟨_, rfl, wpAny_pure h⟩) htake)
    | exact wpAny_bind (m := Builtin.Tuple.tupleExact _) (wpAny_newObj_type (wpAny_bind (wpAny_pure (wpAny_pure ⟨_, rfl, wpAny_pure h⟩))) htake)
    | exact wpAny_bind (wpAny_bind (m := Builtin.Tuple.tupleExact _) (wpAny_newObj_type (wpAny_pure (wpAny_pure ⟨_, rfl, wpAny_pure h⟩)) htake))
    | exact wpAny_bind (wpAny_bind (m := Builtin.Tuple.tupleExact _) (wpAny_newObj_type (wpAny_pure ⟨_, rfl, wpAny_pure h⟩) htake))
end
end HT

namespace L2
open PySem PySem.Spec PyProof.Rows

/-! ### the parts of a slice -/
abbrev TO := St → Hp → (Option Int → Hp → Prop) → Prop
/-- a slice's part (left out, or an int) -/
def PO (X : Cx) (e : Option Expr) (t : TO) : Prop :=
  ∀ (pins : List (Addr × Obj)) (s : Shared) (σ : St) (H : Hp) (Q : Option Int → Hp → Prop), Inv X pins σ H s → t σ H Q →
    wpAny (model X.prog X.w) X.A (evalPart e X.env) (fun u s' => ∃ o H', Inv X pins σ H' s' ∧ IsPart u o ∧ Q o H') X.xe s
def tNoPart : TO := fun _ H Q => Q none H
def tPart (t : TE) : TO := fun σ H Q => t σ H fun x H1 => ∃ i, x = .int i ∧ Q (some i) H1

section
variable {X : Cx} {e : Expr} {te : TE} {lo hi : Option Expr} {tl th : TO} {pos p2 : Pos}

theorem po_none : PO X none tNoPart := by
  intro pins s σ H Q I h
  rw [evalPart_none]
  exact wpAny_pure ⟨none, H, I, .none, h⟩
theorem po_some (h : PE X e te) : PO X (some e) (tPart te) := by
  intro pins s σ H Q I hw
  rw [evalPart_some]
  refine thn (h pins s σ H _ I hw) fun u s1 ⟨x, H1, I1, r1, q1⟩ => ?_
  obtain ⟨i, rfl, q⟩ := q1
  obtain ⟨t, rfl⟩ := r1
  exact ⟨some i, H1, I1, .int i t, q⟩

/-- what a slice of a value is, by values: the slice object stands at sl -/
def SlR (X : Cx) (r : V → Option Int → Option Int → Hp → VK → Prop) : Prop :=
  ∀ (pins : List (Addr × Obj)) (s : Shared) (σ : St) (H : Hp) (x : V) (v vl vu : Value) (lo hi : Option Int) (sl : Addr) (Q : VK), Inv X pins σ H s → RelV x v → s.heap.IsSliceOf sl vl vu .none → IsPart vl lo → IsPart vu hi → r x lo hi H Q →
    ∃ T id, typeLookup (.type T) "__getitem__" = pure (some (.builtin id)) ∧ s.TypeIs v T ∧ wpAny (model X.prog X.w) X.A (getItem v (.ref sl)) (EP X pins σ Q) X.xe s
theorem SlR.or {r r' : V → Option Int → Option Int → Hp → VK → Prop} (h : SlR X r) (h' : SlR X r') : SlR X (fun x lo hi H Q => r x lo hi H Q ∨ r' x lo hi H Q) := by
  intro pins s σ H x v vl vu lo hi sl Q I rx hs pl pu q
  rcases q with q | q
  · exact h pins s σ H x v vl vu lo hi sl Q I rx hs pl pu q
  · exact h' pins s σ H x v vl vu lo hi sl Q I rx hs pl pu q
def tSl (r : V → Option Int → Option Int → Hp → VK → Prop) (te : TE) (tl th : TO) : TE := fun σ H Q => te σ H fun x H1 => tl σ H1 fun l H2 => th σ H2 fun u H3 => r x l u H3 Q
/-- a[lo:hi], any a -/
theorem pe_slice {r : V → Option Int → Option Int → Hp → VK → Prop} (hr : SlR X r) (he : PE X e te) (hl : PO X lo tl) (hu : PO X hi th) : PE X (.Subscript e (.Slice lo hi none p2) pos) (tSl r te tl th) := by
  intro pins s σ H Q I h
  refine Subscript_ (thn (he pins s σ H _ I h) fun v s1 ⟨x, H1, I1, r1, q1⟩ => ?_)
  refine wpAny_Slice (thn (hl pins s1 σ H1 _ I1 q1) fun vl s2 ⟨l, H2, I2, pl, q2⟩ => thn (hu pins s2 σ H2 _ I2 q2) fun vu s3 ⟨u, H3, I3, pu, q3⟩ => ?_)
  rw [evalPart_none]
  refine wpAny_pure ?_
  have I4 : Inv X pins σ H3 { s3 with heap := s3.heap.push { cls := .type "slice", data := .fields #[vl, vu, .none] } } := I3.kept (t' := s3.toks) fun b ob q => Heap.get?_push_of_some _ q
  obtain ⟨T, id, hT, ht, hg⟩ := hr pins { s3 with heap := s3.heap.push { cls := .type "slice", data := .fields #[vl, vu, .none] } } σ H3 x v vl vu l u s3.heap.objs.size Q I4 r1 (Heap.IsSliceOf.new ..) pl pu q3
  show wpAny (model X.prog X.w) X.A (subscriptTail e (.Slice lo hi none p2) v (.ref s3.heap.objs.size)) (EP X pins σ Q) X.xe { s3 with heap := s3.heap.push { cls := .type "slice", data := .fields #[vl, vu, .none] } }
  exact tail_any (ops := [.ref s3.heap.objs.size, v]) ht hT hg (by with_unfolding_all rfl)

/-- the items of xs[lo:hi] -/
def cutV (xs : List V) (lo hi : Option Int) : List V := (xs.drop (HT.sIx xs.length 0 lo)).take (HT.sIx xs.length xs.length hi - HT.sIx xs.length 0 lo)
theorem cutV_length (xs : List V) (lo hi : Option Int) : (cutV xs lo hi).length ≤ xs.length := by
  unfold cutV
  rw [List.length_take, List.length_drop]
  omega
/-- t[lo:hi], not the whole of it (the whole would be t itself) -/
def rSlT (K : PySem.W.Frag) : V → Option Int → Option Int → Hp → VK → Prop := fun x lo hi H Q => ∃ a xs, x = .ref a ∧ SqT K H a xs ∧
  ¬ (HT.sIx xs.length 0 lo = 0 ∧ HT.sIx xs.length xs.length hi = xs.length) ∧ ∀ p, H p = none → Q (.ref p) (upd H p (.tup (cutV xs lo hi)))
theorem sl_tup : SlR X (rSlT X.K) := by
  intro pins s σ H x v vl vu lo hi sl Q I rx hs pl pu h
  obtain ⟨a, xs, rfl, hx, hw, q⟩ := h
  cases rx
  obtain ⟨its, r, ht, hz⟩ := I.tuple hx
  have hlen : its.toArray.size = xs.length := by rw [List.size_toArray]; exact r.length.symm
  refine ⟨"tuple", _, PyProof.Rows.slot_tuple_getitem.lookup, ht.typeIs, ?_⟩
  refine HT.getItem_tuple_cut ht hs pl pu (by rw [hlen]; exact hw) ?_ (by rw [hlen]; exact hz)
  rw [hlen]
  refine ⟨.ref s.heap.objs.size, _, I.laid (t' := s.toks) (o := .tup (cutV xs lo hi)) (fun b ob q => Heap.get?_push_of_some _ q) (Nat.le_refl _) ?_, rfl, q _ (I.hok.fresh (Nat.le_refl _))⟩
  exact ⟨Nat.le_trans (cutV_length xs lo hi) hz, _, (r.drop (HT.sIx xs.length 0 lo)).take (HT.sIx xs.length xs.length hi - HT.sIx xs.length 0 lo), IsTup.new _ _⟩

/-! ### t < u, t + u -/
/-- t + u, t not empty: u empty gives t itself -/
def rCatT (K : PySem.W.Frag) : R2 := fun x y H Q => ∃ a b xs ys, x = .ref a ∧ y = .ref b ∧ SqT K H a xs ∧ SqT K H b ys ∧ xs ≠ [] ∧ xs.length + ys.length ≤ sizeLine ∧
  (ys = [] → Q (.ref a) H) ∧ (ys ≠ [] → ∀ p, H p = none → Q (.ref p) (upd H p (.tup (xs ++ ys))))
theorem Vals.nil_iff {xs : List V} {us : List Value} (r : Vals xs us) : us = [] ↔ xs = [] := by
  cases r with
  | nil => simp
  | cons _ _ => simp
theorem op_catT : OpR X (binaryOp .Add) (rCatT X.K) := by
  intro pins s σ H x y v u Q I rx ry h
  obtain ⟨a, b, xs, ys, rfl, rfl, ha, hb, hx, hz, q1, q2⟩ := h
  cases rx
  cases ry
  obtain ⟨its, r1, p1, _⟩ := I.tuple ha
  obtain ⟨its2, r2, p2, _⟩ := I.tuple hb
  refine HT.cat_tup p1 p2 (fun z => hx (r1.nil_iff.mp z)) (fun z => ⟨.ref a, H, I, rfl, q1 (r2.nil_iff.mp z)⟩) (fun z => ?_) (by rw [← r1.length, ← r2.length]; exact hz)
  refine ⟨.ref s.heap.objs.size, _, I.laid (t' := s.toks) (o := .tup (xs ++ ys)) (fun b ob q => Heap.get?_push_of_some _ q) (Nat.le_refl _) ?_, rfl, q2 (fun w => z (r2.nil_iff.mpr w)) _ (I.hok.fresh (Nat.le_refl _))⟩
  exact ⟨by rw [List.length_append]; exact hz, _, r1.append r2, IsTup.new _ _⟩
end
end L2

namespace L2
open PySem PySem.Spec PyProof.Rows

/-! ### places -/
/-- the place that an index of any sign means -/
def ixN (n : Nat) (i : Int) : Option Nat := if 0 ≤ i then (if i < n then some i.toNat else none) else if -(n : Int) ≤ i then some (i + n).toNat else none
def atI {α : Type} (xs : List α) (i : Int) : Option α := (ixN xs.length i).bind fun j => xs[j]?
theorem ixN_seq {n : Nat} {i : Int} {j : Nat} (h : ixN n i = some j) : seqIndex? i n = some j ∧ j < n ∧ -(n : Int) ≤ i ∧ i < n := by
  unfold ixN at h
  by_cases h0 : 0 ≤ i
  · rw [if_pos h0] at h
    by_cases h1 : i < n
    · rw [if_pos h1] at h
      have e : i.toNat = j := Option.some.inj h
      exact ⟨by rw [seqIndex_of h0 h1, e], by omega, by omega, h1⟩
    · rw [if_neg h1] at h; cases h
  · rw [if_neg h0] at h
    by_cases h1 : -(n : Int) ≤ i
    · rw [if_pos h1] at h
      have e : (i + n).toNat = j := Option.some.inj h
      exact ⟨by rw [seqIndex_neg (by omega) h1, e], by omega, h1, by omega⟩
    · rw [if_neg h1] at h; cases h
theorem atI_get {α : Type} {xs : List α} {i : Int} {v : α} (h : atI xs i = some v) : ∃ j, seqIndex? i xs.length = some j ∧ xs[j]? = some v ∧ j < xs.length ∧ -(xs.length : Int) ≤ i ∧ i < xs.length := by
  unfold atI at h
  cases e : ixN xs.length i with
  | none => rw [e] at h; cases h
  | some j =>
    rw [e] at h
    obtain ⟨h1, h2, h3, h4⟩ := ixN_seq e
    exact ⟨j, h1, h, h2, h3, h4⟩
theorem atI_nat {α : Type} {xs : List α} {j : Nat} {v : α} (h : xs[j]? = some v) : atI xs (j : Int) = some v := by
  have hj : j < xs.length := (List.getElem?_eq_some_iff.mp h).1
  have e : ixN xs.length (j : Int) = some j := by
    unfold ixN
    rw [if_pos (by omega), if_pos (by omega)]; simp
  unfold atI; rw [e]; exact h
theorem atI_last {α : Type} (xs : List α) (v : α) : atI (xs ++ [v]) (-1) = some v := by
  have hl : (xs ++ [v]).length = xs.length + 1 := by simp
  have e : ixN (xs ++ [v]).length (-1) = some xs.length := by
    unfold ixN
    rw [hl, if_neg (by decide), if_pos (by omega)]
    congr 1
    omega
  unfold atI
  rw [e]
  show (xs ++ [v])[xs.length]? = some v
  simp

/-! ### what may be subscripted -/
/-- what stands as an index of a plain subscript -/
def PlainIx (b : Expr) : Prop := ∀ o i, subscripted b false o i = operate [o, i] (getItem o i)
/-- a subscript by values -/
def IxR (X : Cx) (r : R2) : Prop :=
  ∀ (value slice : Expr) (pins : List (Addr × Obj)) (s : Shared) (σ : St) (H : Hp) (x y : V) (v u : Value) (Q : VK), Inv X pins σ H s → RelV x v → RelV y u → r x y H Q →
    subscripted slice false v u = operate [v, u] (getItem v u) → wpAny (model X.prog X.w) X.A (subscriptTail value slice v u) (EP X pins σ Q) X.xe s
/-- a call of a builtin's method by values: the receiver, the arguments -/
def MtR (X : Cx) (id : String) (r : V → List V → Hp → VK → Prop) : Prop :=
  ∀ (pins : List (Addr × Obj)) (s : Shared) (σ : St) (H : Hp) (x : V) (xs : List V) (v : Value) (us : List Value) (Q : VK), Inv X pins σ H s → RelV x v → Vals xs us → r x xs H Q →
    wpAny (model X.prog X.w) X.A (call (.builtin id) (v :: us)) (EP X pins σ Q) X.xe s
section
variable {X : Cx} {a b : Expr} {ta tb : TE} {pos : Pos}
theorem IxR.or {r r' : R2} (h : IxR X r) (h' : IxR X r') : IxR X (fun x y H Q => r x y H Q ∨ r' x y H Q) := by
  intro value slice pins s σ H x y v u Q I rx ry q hs
  rcases q with q | q
  · exact h value slice pins s σ H x y v u Q I rx ry q hs
  · exact h' value slice pins s σ H x y v u Q I rx ry q hs
theorem MtR.or {id : String} {r r' : V → List V → Hp → VK → Prop} (h : MtR X id r) (h' : MtR X id r') : MtR X id (fun x xs H Q => r x xs H Q ∨ r' x xs H Q) := by
  intro pins s σ H x xs v us Q I rx rs q
  rcases q with q | q
  · exact h pins s σ H x xs v us Q I rx rs q
  · exact h' pins s σ H x xs v us Q I rx rs q
/-- a[b] -/
theorem pe_ix {r : R2} (hr : IxR X r) (ha : PE X a ta) (hb : PE X b tb) (hs : PlainIx b) : PE X (.Subscript a b pos) (tOp r ta tb) := by
  intro pins s σ H Q I h
  exact Subscript_ (binT ha hb I h fun v u s2 x y H2 I2 rx ry q => hr a b pins s2 σ H2 x y v u Q I2 rx ry q (hs _ _))

def rIxL (K : PySem.W.Frag) : R2 := fun x y H Q => ∃ p xs i v, x = .ref p ∧ y = .int i ∧ SqL K H p xs ∧ atI xs i = some v ∧ Q v H
def rIxT (K : PySem.W.Frag) : R2 := fun x y H Q => ∃ p xs i v, x = .ref p ∧ y = .int i ∧ SqT K H p xs ∧ atI xs i = some v ∧ Q v H
def rIxS : R2 := fun x y H Q => ∃ z i c, x = .str z ∧ y = .int i ∧ z.length ≤ sizeLine ∧ atI z.cps.toList i = some c ∧ Q (.str ⟨#[c]⟩) H
theorem ix_list : IxR X (rIxL X.K) := by
  intro value slice pins s σ H x y v u Q I rx ry h hs
  obtain ⟨p, xs, i, z, rfl, rfl, hq, he, q⟩ := h
  cases rx
  obtain ⟨t, rfl⟩ := ry
  obtain ⟨its, r, pl, hz⟩ := I.list hq
  obtain ⟨j, h1, h2, h3, h4, h5⟩ := atI_get he
  obtain ⟨w, ew, rw'⟩ := r.get h2
  have hl := r.length
  have hn := line63
  have fin : EP X pins σ Q w s := ⟨z, H, I, rw', q⟩
  by_cases h0 : 0 ≤ i
  · have hj : i.toNat = j := by
      rw [seqIndex_of h0 h5] at h1
      exact Option.some.inj h1
    exact item_listR pl.isList h0 (by omega) (by rw [hj]; simpa using ew) fin hs
  · have hj : (i + (its.toArray.size : Int)).toNat = j := by
      rw [seqIndex_neg (by omega) h4] at h1
      rw [List.size_toArray, ← hl]
      exact Option.some.inj h1
    exact subscriptTail_builtinR (x := w) pl.isList.typeIs slot_list_getitem.lookup
      (wpAny_getItem_list_neg (Q := fun r s' => r = w ∧ EP X pins σ Q r s') pl.isList (by omega) (by rw [List.size_toArray] <;> omega) (by omega) (by rw [hj]; simpa using ew) ⟨rfl, fin⟩) hs
theorem ix_tup : IxR X (rIxT X.K) := by
  intro value slice pins s σ H x y v u Q I rx ry h hs
  obtain ⟨p, xs, i, z, rfl, rfl, hq, he, q⟩ := h
  cases rx
  obtain ⟨t, rfl⟩ := ry
  obtain ⟨its, r, pl, hz⟩ := I.tuple hq
  obtain ⟨j, h1, h2, h3, h4, h5⟩ := atI_get he
  obtain ⟨w, ew, rw'⟩ := r.get h2
  have hl := r.length
  have hn := line63
  have fin : EP X pins σ Q w s := ⟨z, H, I, rw', q⟩
  exact subscriptTail_builtinR (x := w) pl.typeIs slot_tuple_getitem.lookup
    (getItem_tuple (j := j) (Q := fun r s' => r = w ∧ EP X pins σ Q r s') pl (by omega) (by omega) (by rw [List.size_toArray, ← hl]; exact h1) (by simpa using ew) ⟨rfl, fin⟩) hs
theorem ix_str : IxR X rIxS := by
  intro value slice pins s σ H x y v u Q I rx ry h hs
  obtain ⟨z, i, c, rfl, rfl, hz, he, q⟩ := h
  obtain ⟨t, rfl⟩ := rx
  obtain ⟨t', rfl⟩ := ry
  obtain ⟨j, h1, h2, h3, h4, h5⟩ := atI_get he
  have hl : z.cps.toList.length = z.length := by simp [Str.length]
  rw [hl] at h1 h4 h5
  have hn := line63
  exact tail_any (typeIs_str s z t) slot_str_getitem.lookup (getItem_str (c := c) (by
    have e1 : decide (i < -(2 ^ 63 : Int)) = false := decide_eq_false (by omega)
    have e2 : decide (i ≥ 2 ^ 63) = false := decide_eq_false (by omega)
    rw [e1, e2, Bool.or_false]) (by rw [h1]; simpa using h2) ⟨.str ⟨#[c]⟩, H, I.tok _, ⟨_, rfl⟩, q⟩) hs
/-- list, tuple or str -/
def rIx (K : PySem.W.Frag) : R2 := fun x y H Q => rIxL K x y H Q ∨ rIxT K x y H Q ∨ rIxS x y H Q
theorem ix_seq : IxR X (rIx X.K) := ix_list.or (ix_tup.or ix_str)

/-! ### xs[i] = v, any sign -/
theorem Inv.lst {pins : List (Addr × Obj)} {σ : St} {H : Hp} {s : Shared} {p : Addr} {xs : List V} (I : Inv X pins σ H s) (h : H p = some (.lst xs)) :
    ∃ (its : List Value) (n : Nat), Vals xs its ∧ s.heap.get? p = some { cls := .type "list", data := .seq its.toArray n } ∧ xs.length ≤ sizeLine := by
  obtain ⟨z, its, n, r, e⟩ := I.hok p _ h
  exact ⟨its, n, r, e, z⟩
def rSetL : V → V → V → Hp → (Hp → Prop) → Prop := fun o i v H Q => ∃ p xs k j, o = .ref p ∧ i = .int k ∧ H p = some (.lst xs) ∧ ixN xs.length k = some j ∧ Q (upd H p (.lst (xs.set j v)))
/-! ### slices -/
theorem slice_bounds (lo hi : Option Int) (n : Nat) : (sliceBounds lo hi none n).1 = ((HT.sIx n 0 lo : Nat) : Int) ∧ (sliceBounds lo hi none n).2.1 = ((HT.sIx n n hi : Nat) : Int) ∧ (sliceBounds lo hi none n).2.2 = 1 := by
  refine ⟨?_, ?_, rfl⟩
  · cases lo with
    | none => simp [sliceBounds, HT.sIx]
    | some i =>
      simp only [sliceBounds, HT.sIx, Option.getD_none, show (1 : Int) > 0 by decide, if_true]
      by_cases h : i < 0
      · simp only [h, if_true] <;> omega
      · simp only [h, if_false] <;> omega
  · cases hi with
    | none => simp [sliceBounds, HT.sIx]
    | some i =>
      simp only [sliceBounds, HT.sIx, Option.getD_none, show (1 : Int) > 0 by decide, if_true]
      by_cases h : i < 0
      · simp only [h, if_true] <;> omega
      · simp only [h, if_false] <;> omega
theorem slicePick_cut (its : List Value) (lo hi : Option Int) : slicePick its.toArray lo hi none = ((its.drop (HT.sIx its.length 0 lo)).take (HT.sIx its.length its.length hi - HT.sIx its.length 0 lo)).toArray := by
  obtain ⟨h1, h2, h3⟩ := slice_bounds lo hi its.toArray.size
  unfold slicePick
  rw [h1, h2, h3]
  simp only [sliceRange_one, pick_run, List.size_toArray] <;> rfl
/-- xs[lo:hi] of a list: a new list -/
def rSlL (K : PySem.W.Frag) : V → Option Int → Option Int → Hp → VK → Prop := fun x lo hi H Q => ∃ a xs, x = .ref a ∧ SqL K H a xs ∧ ∀ p, H p = none → Q (.ref p) (upd H p (.lst (cutV xs lo hi)))
theorem sl_list : SlR X (rSlL X.K) := by
  intro pins s σ H x v vl vu lo hi sl Q I rx hs pl pu h
  obtain ⟨a, xs, rfl, hx, q⟩ := h
  cases rx
  obtain ⟨its, r, ht, hz⟩ := I.list hx
  have hlen := r.length
  refine ⟨"list", _, slot_list_getitem.lookup, ht.isList.typeIs, ?_⟩
  refine wpAny_getItem_list_slice ht.isList hs pl pu .none (by simp) ?_ (by rw [List.size_toArray] <;> omega)
  rw [slicePick_cut, ← hlen]
  refine ⟨.ref s.heap.objs.size, _, I.laid (t' := s.toks) (o := .lst (cutV xs lo hi)) (fun b ob q => Heap.get?_push_of_some _ q) (Nat.le_refl _) ?_, rfl, q _ (I.hok.fresh (Nat.le_refl _))⟩
  exact ⟨Nat.le_trans (cutV_length xs lo hi) hz, _, 0, (r.drop (HT.sIx xs.length 0 lo)).take (HT.sIx xs.length xs.length hi - HT.sIx xs.length 0 lo), Heap.get?_push_size _ rfl⟩

/-! ### in, not in: flat items -/
def flatV : V → Bool
  | .non => true
  | .bl _ => true
  | .int _ => true
  | .str _ => true
  | _ => false
/-- == of flat values -/
def eqV : V → V → Bool
  | .non, .non => true
  | .bl a, .bl b => a == b
  | .bl a, .int b => (if a then 1 else 0) == b
  | .int a, .bl b => a == (if b then 1 else 0)
  | .int a, .int b => a == b
  | .str a, .str b => a == b
  | _, _ => false
theorem eqAt_V {A : Around} {s : Shared} {y x : V} {u v : Value} (ry : RelV y u) (rx : RelV x v) (fy : flatV y = true) (fx : flatV x = true) : SeqAt.EqAt A s u v (eqV y x) := by
  cases y with
  | non =>
    cases ry
    cases x with
    | non => cases rx; exact SeqAt.EqAt.same _
    | bl b => cases rx; exact SeqAt.EqAt.none_bool b
    | int b => obtain ⟨t, rfl⟩ := rx; exact SeqAt.EqAt.none_int b t
    | str b => obtain ⟨t, rfl⟩ := rx; exact SeqAt.EqAt.none_str b t
    | _ => exact absurd (show false = true from fx) Bool.false_ne_true
  | bl a =>
    cases ry
    cases x with
    | non => cases rx; exact SeqAt.EqAt.bool_none a
    | bl b => cases rx; exact SeqAt.EqAt.bool_bool a b
    | int b => obtain ⟨t, rfl⟩ := rx; exact SeqAt.EqAt.bool_int a b t
    | str b => obtain ⟨t, rfl⟩ := rx; exact SeqAt.EqAt.bool_str a b t
    | _ => exact absurd (show false = true from fx) Bool.false_ne_true
  | int a =>
    obtain ⟨t', rfl⟩ := ry
    cases x with
    | non => cases rx; exact SeqAt.EqAt.int_none a t'
    | bl b => cases rx; exact SeqAt.EqAt.int_bool a t' b
    | int b => obtain ⟨t, rfl⟩ := rx; exact SeqAt.EqAt.int_int a t' b t
    | str b => obtain ⟨t, rfl⟩ := rx; exact SeqAt.EqAt.int_str a t' b t
    | _ => exact absurd (show false = true from fx) Bool.false_ne_true
  | str a =>
    obtain ⟨t', rfl⟩ := ry
    cases x with
    | non => cases rx; exact SeqAt.EqAt.str_none a t'
    | bl b => cases rx; exact SeqAt.EqAt.str_bool a t' b
    | int b => obtain ⟨t, rfl⟩ := rx; exact SeqAt.EqAt.str_int a t' b t
    | str b => obtain ⟨t, rfl⟩ := rx; exact SeqAt.EqAt.str_str a t' b t
    | _ => exact absurd (show false = true from fx) Bool.false_ne_true
  | _ => exact absurd (show false = true from fy) Bool.false_ne_true
/-- the items' answers, read off the values (a value's own answer does not lean on its token) -/
def eqU (x : V) (u : Value) : Bool := match u with
  | .none => eqV .non x
  | .bool b => eqV (.bl b) x
  | .int i _ => eqV (.int i) x
  | .str z _ => eqV (.str z) x
  | _ => false
theorem eqU_of {x y : V} {u : Value} (r : RelV y u) (f : flatV y = true) : eqU x u = eqV y x := by
  cases y with
  | non => cases r; rfl
  | bl b => cases r; rfl
  | int i => obtain ⟨t, rfl⟩ := r; rfl
  | str z => obtain ⟨t, rfl⟩ := r; rfl
  | _ => exact absurd (show false = true from f) Bool.false_ne_true
theorem any_eqU {x : V} : ∀ {xs : List V} {us : List Value}, Vals xs us → xs.all flatV = true → us.any (eqU x) = xs.any fun y => eqV y x
  | _, _, .nil, _ => rfl
  | y :: xs, u :: us, .cons r t, f => by
    rw [List.all_cons, Bool.and_eq_true] at f
    rw [List.any_cons, List.any_cons, eqU_of r f.1, any_eqU t f.2]
theorem mem_eqAt {A : Around} {s : Shared} {x : V} {v : Value} (rx : RelV x v) (fx : flatV x = true) : ∀ {xs : List V} {us : List Value}, Vals xs us → xs.all flatV = true → ∀ u ∈ us, SeqAt.EqAt A s u v (eqU x u)
  | _, _, .nil, _ => fun u hu => by cases hu
  | y :: xs, u :: us, .cons r t, f => fun u' hu => by
    rw [List.all_cons, Bool.and_eq_true] at f
    rcases List.mem_cons.mp hu with rfl | hu
    · rw [eqU_of r f.1]; exact eqAt_V r rx f.1 fx
    · exact mem_eqAt rx fx t f.2 u' hu
def inV (x : V) (xs : List V) : Bool := xs.any fun y => eqV y x
/-- x in a list or tuple of flat items -/
def rIn (K : PySem.W.Frag) (neg : Bool) : R2 := fun x y H Q => ∃ p xs, y = .ref p ∧ (SqL K H p xs ∨ SqT K H p xs) ∧ flatV x = true ∧ xs.all flatV = true ∧ Q (.bl (if neg then !inV x xs else inV x xs)) H
theorem op_in_seq : OpR X (compareOp .In) (rIn X.K false) := by
  intro pins s σ H x y v u Q I rx ry h
  obtain ⟨p, xs, rfl, hq, fx, fs, q⟩ := h
  cases ry
  rcases hq with hq | hq
  · obtain ⟨its, r, pl, hz⟩ := I.list hq
    refine SeqAt.in_listAt (eqU x) pl.isList (fun w hw => mem_eqAt rx fx r fs w (by simpa using hw)) ⟨.bl _, H, I, rfl, ?_⟩
    rw [show its.toArray.any (eqU x) = its.any (eqU x) by simp, any_eqU r fs]
    exact q
  · obtain ⟨its, r, pl, hz⟩ := I.tuple hq
    refine SeqAt.in_tupleAt (eqU x) pl (fun w hw => mem_eqAt rx fx r fs w (by simpa using hw)) ⟨.bl _, H, I, rfl, ?_⟩
    rw [show its.toArray.any (eqU x) = its.any (eqU x) by simp, any_eqU r fs]
    exact q
/-! ### len, list(x), tuple(x) of any list or tuple that is read -/
theorem call_len_seq : CallR X (.builtin "len") (fun xs H Q => ∃ p ys, xs = [.ref p] ∧ (SqL X.K H p ys ∨ SqT X.K H p ys) ∧ Q (.int ys.length) H) := by
  intro pins s σ H xs us Q I r h
  obtain ⟨p, ys, rfl, hq, q⟩ := h
  obtain ⟨u, rfl, rx⟩ := vals1 r
  cases rx
  have hn := line63
  rcases hq with hq | hq
  · obtain ⟨its, r', pl, hz⟩ := I.list hq
    have hlen := r'.length
    exact Calls.call_len_list pl.isList (by simp only [List.size_toArray] <;> omega) ⟨.int ys.length, H, I.tok _, ⟨s.toks + 1, by rw [List.size_toArray, hlen]⟩, q⟩
  · obtain ⟨its, r', pl, hz⟩ := I.tuple hq
    have hlen := r'.length
    exact len_tuple pl (by simp only [List.size_toArray] <;> omega) ⟨.int ys.length, H, I.tok _, ⟨s.toks + 1, by rw [List.size_toArray, hlen]⟩, q⟩
theorem call_len_str : CallR X (.builtin "len") (fun xs H Q => ∃ z, xs = [.str z] ∧ z.length ≤ sizeLine ∧ Q (.int z.length) H) := by
  intro pins s σ H xs us Q I r h
  obtain ⟨z, rfl, hz, q⟩ := h
  obtain ⟨u, rfl, t, rfl⟩ := vals1 r
  have hn := line63
  exact len_str (by omega) ⟨.int z.length, H, I.tok _, ⟨_, rfl⟩, q⟩
theorem CallR.or {f : Value} {r r' : List V → Hp → VK → Prop} (h : CallR X f r) (h' : CallR X f r') : CallR X f (fun xs H Q => r xs H Q ∨ r' xs H Q) := by
  intro pins s σ H xs us Q I rs q
  rcases q with q | q
  · exact h pins s σ H xs us Q I rs q
  · exact h' pins s σ H xs us Q I rs q
theorem call_list_of : CallR X (.type "list") (fun xs H Q => ∃ p ys, xs = [.ref p] ∧ (SqL X.K H p ys ∨ SqT X.K H p ys) ∧ ∀ l, H l = none → Q (.ref l) (upd H l (.lst ys))) := by
  intro pins s σ H xs us Q I r h
  obtain ⟨p, ys, rfl, hq, q⟩ := h
  obtain ⟨u, rfl, rx⟩ := vals1 r
  cases rx
  have fin : ∀ (its : List Value), Vals ys its → ys.length ≤ sizeLine → ∀ (h' : Heap) (c' : Nat), (∀ b o', s.heap.get? b = some o' → h'.get? b = some o') →
      h'.get? s.heap.objs.size = some { cls := .type "list", dict := none, data := .seq its.toArray c', slots := #[] } → EP X pins σ Q (.ref s.heap.objs.size) { s with heap := h' } := fun its r' hz h' c' kp e =>
    ⟨.ref s.heap.objs.size, _, I.laid (t' := s.toks) kp (Nat.le_refl _) (show ObjOk X.prog X.w _ h' _ (.lst ys) from ⟨hz, its, c', r', e⟩), rfl, q _ (I.hok.fresh (Nat.le_refl _))⟩
  rcases hq with hq | hq
  · obtain ⟨its, r', pl, hz⟩ := I.list hq
    have hlen := r'.length
    obtain ⟨o, ho, hc, n, hd⟩ := pl.isList
    exact call_list_seq p (.inl rfl) ho hc hd (fun h' c' kp e => fin its r' hz h' c' kp e) (by simp only [List.size_toArray] <;> omega)
  · obtain ⟨its, r', pl, hz⟩ := I.tuple hq
    have hlen := r'.length
    obtain ⟨o, ho, hc, n, hd⟩ := pl
    exact call_list_seq p (.inr rfl) ho hc hd (fun h' c' kp e => fin its r' hz h' c' kp e) (by simp only [List.size_toArray] <;> omega)
theorem call_tuple_of : CallR X (.type "tuple") (fun xs H Q => ∃ p ys, xs = [.ref p] ∧ ((SqL X.K H p ys ∧ ∀ l, H l = none → Q (.ref l) (upd H l (.tup ys))) ∨ (SqT X.K H p ys ∧ Q (.ref p) H))) := by
  intro pins s σ H xs us Q I r h
  obtain ⟨p, ys, rfl, h⟩ := h
  obtain ⟨u, rfl, rx⟩ := vals1 r
  cases rx
  rcases h with ⟨hq, q⟩ | ⟨hq, q⟩
  · obtain ⟨its, r', pl, hz⟩ := I.list hq
    have hlen := r'.length
    refine call_tuple_list pl.isList (fun h' kp => ?_) (by simp only [List.size_toArray] <;> omega)
    have I1 : Inv X pins σ H { s with heap := h' } := I.kept (t' := s.toks) kp
    have I2 : Inv X pins σ (upd H h'.objs.size (.tup ys)) { s with heap := h'.push { cls := .type "tuple", data := .seq its.toArray } } :=
      I1.laid (t' := s.toks) (fun b o e => Heap.get?_push_of_some _ e) (Nat.le_refl _) (show ObjOk X.prog X.w _ _ _ (.tup ys) from ⟨hz, its, r', IsTup.new _ _⟩)
    exact ⟨.ref h'.objs.size, _, I2, rfl, q _ (I1.hok.fresh (Nat.le_refl _))⟩
  · obtain ⟨its, r', pl, hz⟩ := I.tuple hq
    exact call_tuple_same pl ⟨.ref p, H, I, rfl, q⟩

/-! ### the call of a builtin's method: o.m(..) -/
/-- the value is of that builtin type -/
def tyV (K : PySem.W.Frag) (T : String) (x : V) (H : Hp) : Prop := match x with
  | .str _ => T = "str"
  | .int _ => T = "int"
  | .ref p => (T = "list" ∧ ∃ xs, SqL K H p xs) ∨ (T = "tuple" ∧ ∃ o, K.lookup p = some o ∧ o.cls = .type "tuple" ∧ o.dict = none) ∨
      (T = "dict" ∧ ((∃ kvs, H p = some (.dK kvs)) ∨ ∃ kvs, H p = some (.dT kvs))) ∨ (T = "set" ∧ ∃ S n, H p = some (.set S n))
  | _ => False
theorem tyV_is {pins : List (Addr × Obj)} {σ : St} {H : Hp} {s : Shared} {T : String} {x : V} {v : Value} (I : Inv X pins σ H s) (r : RelV x v) (ty : tyV X.K T x H) :
    s.TypeIs v T ∧ ∀ a, v = .ref a → ∃ ob, s.heap.get? a = some ob ∧ ob.dict = none := by
  cases x with
  | str z =>
    obtain ⟨t, rfl⟩ := r
    cases (show T = "str" from ty)
    exact ⟨typeIs_str s z t, fun _ e => nomatch e⟩
  | int i =>
    obtain ⟨t, rfl⟩ := r
    cases (show T = "int" from ty)
    exact ⟨typeIs_int s i t, fun _ e => nomatch e⟩
  | ref p =>
    cases r
    rcases ty with ⟨rfl, xs, hq⟩ | ⟨rfl, o, hk, hc, hd⟩ | ⟨rfl, hk⟩ | ⟨rfl, S, n, hk⟩
    · obtain ⟨its, _, pl, _⟩ := I.list hq
      refine ⟨pl.isList.typeIs, fun a e => ?_⟩
      cases e
      obtain ⟨o, n, e, c, hd, _⟩ := pl
      exact ⟨o, e, hd⟩
    · refine ⟨⟨o, I.kIn p o hk, hc⟩, fun a e => ?_⟩
      cases e
      exact ⟨o, I.kIn _ o hk, hd⟩
    · have z : ∃ o, s.heap.get? p = some o ∧ o.ExactDict := by
        rcases hk with ⟨kvs, hk⟩ | ⟨kvs, hk⟩
        · obtain ⟨_, _, _, _, o, _, _, e, ex, _⟩ := I.hok p _ hk
          exact ⟨o, e, ex⟩
        · obtain ⟨_, _, _, _, o, _, _, e, ex, _⟩ := I.hok p _ hk
          exact ⟨o, e, ex⟩
      obtain ⟨o, e, ex⟩ := z
      refine ⟨⟨o, e, ex.1⟩, fun a e2 => ?_⟩
      cases e2
      exact ⟨o, e, ex.2.1⟩
    · obtain ⟨o, _, _, _, e, ex, _⟩ := I.hok p _ hk
      refine ⟨⟨o, e, ex.1⟩, fun a e2 => ?_⟩
      cases e2
      exact ⟨o, e, ex.2.1⟩
  | _ => exact False.elim ty
def tBM0 (K : PySem.W.Frag) (T : String) (r : V → List V → Hp → VK → Prop) (to : TE) : TE := fun σ H Q => to σ H fun x H1 => tyV K T x H1 ∧ r x [] H1 Q
def tBM (K : PySem.W.Frag) (T : String) (r : V → List V → Hp → VK → Prop) (to : TE) (t : TA) : TE := fun σ H Q => to σ H fun x H1 => tyV K T x H1 ∧ t σ H1 fun xs H2 => r x xs H2 Q
variable {o e : Expr} {es : List Expr} {to : TE} {t : TA} {name : Str} {apos cpos : Pos} {T id : String} {r : V → List V → Hp → VK → Prop}
theorem pe_bm0 (pa : PlainAttrs T) (slot : Slot T name id) (hty : typeOf (.builtin id) = pure (.type "method_descriptor")) (hm : MtR X id r) (ho : PE X o to)
    (hbase : attributeBase o name X.env (eval o X.env) = eval o X.env := by rfl) (hline : (apos.endLine == cpos.line) = true := by rfl) : PE X (.Call (.Attribute o name apos) [] [] cpos) (tBM0 X.K T r to) := by
  intro pins s σ H Q I h
  refine wpAny_Call_method0_late hbase hline (thn (ho pins s σ H _ I h) fun v s1 ⟨x, H1, I1, r1, ty, q1⟩ => ?_)
  obtain ⟨h1, h2⟩ := tyV_is I1 r1 ty
  exact ⟨T, id, pa, slot, hty, h1, h2, Calls.callWith_builtin rfl (PySem.evalArgs_none (hm pins s1 σ H1 x [] v [] Q I1 r1 .nil q1))⟩
theorem pe_bm (pa : PlainAttrs T) (slot : Slot T name id) (hty : typeOf (.builtin id) = pure (.type "method_descriptor")) (hm : MtR X id r) (ho : PE X o to) (ha : PA X (e :: es) t)
    (hbase : attributeBase o name X.env (eval o X.env) = eval o X.env := by rfl)
    (hfew : ((backTo cpos (starEach (e :: es) X.env)).all (fun x => !x.1) && (backToKw cpos (keywordEach [] X.env)).all (fun x => x.1.isSome)
      && decide ((e :: es).length + ([] : List Keyword).length + (if ([] : List Keyword).isEmpty then 0 else 1) < 30)) = true := by rfl)
    (hline : (apos.endLine == cpos.line) = true := by rfl) (hs : starEach (e :: es) X.env = (false, eval e X.env) :: starEach es X.env := by rfl) (hplain : (backTo cpos (starEach es X.env)).any (·.1) = false := by rfl) :
    PE X (.Call (.Attribute o name apos) (e :: es) [] cpos) (tBM X.K T r to t) := by
  intro pins s σ H Q I h
  refine wpAny_Call_method_late hbase hfew hline rfl (thn (ho pins s σ H _ I h) fun v s1 ⟨x, H1, I1, r1, ty, q1⟩ => ?_)
  obtain ⟨h1, h2⟩ := tyV_is I1 r1 ty
  refine ⟨T, id, pa, slot, hty, h1, h2, ?_⟩
  have hA := ha cpos pins s1 σ H1 _ I1 q1
  rw [hs] at hA ⊢
  refine Calls.callWith_builtin (by show (false || (backTo cpos (starEach es X.env)).any (·.1)) = false; rw [hplain] <;> rfl) (Calls.evalArgs_plain ?_)
  exact thn hA fun us s2 ⟨vs, H2, I2, r2, q2⟩ => hm pins s2 σ H2 x vs v us Q I2 r1 r2 q2
/- xs.append(e), list.index on a module's tuple .. are MtR facts of 06m -/
end
end L2

namespace L2
open PySem PySem.Spec PyProof.Rows

def MtM (X : Cx) (id : String) (r : V → List V → Hp → VK → Prop) : Prop :=
  ∀ (pins : List (Addr × Obj)) (s : Shared) (σ : St) (H : Hp) (x : V) (xs : List V) (v : Value) (us : List Value) (Q : VK), Inv X pins σ H s → RelV x v → Vals xs us → r x xs H Q →
    wpAny (model X.prog X.w) X.A (call (.builtin id) (v :: us)) (EP X pins σ Q) X.xe s

/-! ### lists of values -/
theorem Vals.one : ∀ {x : V} {us : List Value}, Vals [x] us → ∃ u, us = [u] ∧ RelV x u
  | _, _, .cons r .nil => ⟨_, rfl, r⟩
theorem Vals.two : ∀ {x y : V} {us : List Value}, Vals [x, y] us → ∃ u v, us = [u, v] ∧ RelV x u ∧ RelV y v
  | _, _, _, .cons r (.cons q .nil) => ⟨_, _, rfl, r, q⟩
theorem Vals.zero : ∀ {us : List Value}, Vals [] us → us = []
  | _, .nil => rfl
theorem Vals.dropLast {xs : List V} {us : List Value} (h : Vals xs us) : Vals xs.dropLast us.dropLast := by
  induction h with
  | nil => exact .nil
  | cons r t ih =>
    cases t with
    | nil => exact .nil
    | cons q t' => exact .cons r ih
theorem Vals.eraseIdx : ∀ {xs : List V} {us : List Value} (i : Nat), Vals xs us → Vals (xs.eraseIdx i) (us.eraseIdx i)
  | _, _, _, .nil => .nil
  | _, _, 0, .cons _ t => t
  | _, _, i + 1, .cons r t => .cons r (Vals.eraseIdx i t)
theorem Vals.reverse {xs : List V} {us : List Value} (h : Vals xs us) : Vals xs.reverse us.reverse := by
  induction h with
  | nil => exact .nil
  | cons r t ih => rw [List.reverse_cons, List.reverse_cons]; exact Vals.append ih (.cons r .nil)
theorem Vals.rep {xs : List V} {us : List Value} (h : Vals xs us) : ∀ k : Nat, Vals (List.replicate k xs).flatten (List.replicate k us).flatten
  | 0 => .nil
  | k + 1 => by
    rw [List.replicate_succ, List.replicate_succ, List.flatten_cons, List.flatten_cons]
    exact Vals.append h (Vals.rep h k)
theorem erase_last {α : Type} (l : List α) : l.eraseIdx (l.length - 1) = l.dropLast := by
  induction l with
  | nil => rfl
  | cons a r ih =>
    cases r with
    | nil => rfl
    | cons b r =>
      have e : (a :: b :: r).length - 1 = ((b :: r).length - 1) + 1 := by
        have h1 : (a :: b :: r).length = r.length + 2 := rfl
        have h2 : (b :: r).length = r.length + 1 := rfl
        omega
      rw [e, List.eraseIdx_cons_succ, ih]
      all_goals rfl
theorem len_erase {α : Type} : ∀ (l : List α) (i : Nat), (l.eraseIdx i).length ≤ l.length
  | [], _ => Nat.le_refl _
  | _ :: _, 0 => Nat.le_succ _
  | _ :: r, i + 1 => Nat.succ_le_succ (len_erase r i)
theorem foldl_rep (its : List Value) : ∀ (k : Nat) (acc : List Value),
    List.foldl (fun x1 x2 => x1 ++ x2) acc.toArray (List.replicate k its.toArray) = (acc ++ (List.replicate k its).flatten).toArray
  | 0, acc => by simp
  | k + 1, acc => by
    have e : acc.toArray ++ its.toArray = (acc ++ its).toArray := by simp
    have e2 : (acc ++ its) ++ (List.replicate k its).flatten = acc ++ (List.replicate (k + 1) its).flatten := by
      rw [List.replicate_succ, List.flatten_cons, List.append_assoc]
    rw [← e2, ← foldl_rep its k (acc ++ its), ← e, List.replicate_succ, List.foldl_cons]

section
variable {X : Cx} {pins : List (Addr × Obj)} {σ : St} {H : Hp} {s : Shared} {l b : Addr} {xs ys zs : List V}

/-! ### the two steps: a tracked list is rewritten, a new list is laid -/
theorem Inv.lset {its its' : List Value} {n : Nat} {f : Array Value → Array Value} {t' : Nat} (I : Inv X pins σ H s) (hH : H l = some (.lst xs))
    (e : s.heap.get? l = some { cls := .type "list", data := .seq its.toArray n }) (hf : f its.toArray = its'.toArray) (hv : Vals ys its') (hz : ys.length ≤ sizeLine) :
    Inv X pins σ (upd H l (.lst ys)) { s with heap := s.heap.update l (Obj.mapSeq f), toks := t' } := by
  have q := PySem.IsL.update e f
  rw [hf] at q
  refine I.write (x := l) (e := l) (by rw [hH]; exact trivial) (.inl rfl) (fun b' u hb hu => (Heap.get?_update_other s.heap (Obj.mapSeq f) (Ne.symm hb)).trans hu) ⟨_, q⟩ ?_
  exact ⟨hz, its', _, hv, q⟩
theorem Inv.lnew {its : List Value} {t' : Nat} (I : Inv X pins σ H s) (hv : Vals ys its) (hz : ys.length ≤ sizeLine) :
    Inv X pins σ (upd H s.heap.objs.size (.lst ys)) { s with heap := s.heap.push { cls := .type "list", data := .seq its.toArray }, toks := t' } :=
  I.laid (fun _ _ q => Heap.get?_push_of_some _ q) (Nat.le_refl _) ⟨hz, its, 0, hv, Heap.get?_push_size _ rfl⟩
theorem Inv.fresh (I : Inv X pins σ H s) : H s.heap.objs.size = none := I.hok.fresh (Nat.le_refl _)
theorem Inv.lstM (I : Inv X pins σ H s) (hH : H l = some (.lst xs)) : xs.length ≤ sizeLine ∧ ∃ (its : List Value) (n : Nat), Vals xs its ∧ xs.length = its.length ∧ s.heap.get? l = some { cls := .type "list", data := .seq its.toArray n } := by
  obtain ⟨z, its, n, r, e⟩ := I.hok l _ hH
  exact ⟨z, its, n, r, r.length, e⟩

theorem notLongL {n : Nat} (h : n ≤ sizeLine) : Builtin.List.listTooLong n = false := by
  unfold Builtin.List.listTooLong
  exact decide_eq_false (by omega)
end

section
variable {X : Cx}

/-! ### methods -/
def rAppend : V → List V → Hp → VK → Prop := fun x vs H Q => ∃ l xs y, x = .ref l ∧ vs = [y] ∧ H l = some (.lst xs) ∧ xs.length < sizeLine ∧ Q .non (upd H l (.lst (xs ++ [y])))
theorem mt_append : MtM X "list.append" rAppend := by
  intro pins s σ H x vs v us Q I rx rv h
  obtain ⟨l, xs, y, rfl, rfl, hH, hz, q⟩ := h
  cases rx
  obtain ⟨u, rfl, ru⟩ := rv.one
  obtain ⟨z, its, n, r, hl, e⟩ := I.lstM hH
  refine call_meets F.slot_list_append ⟨_, e, rfl⟩ F.entry_list_append (F.args_list_append_2 _ _) (PySem.list_append l its.toArray n u (by rw [List.size_toArray]; omega)) ⟨e, ?_⟩
  refine ⟨.non, _, I.lset (its' := its ++ [u]) hH e (by simp) (r.append (.cons ru .nil)) ?_, rfl, q⟩
  rw [List.length_append, List.length_singleton]
  omega

def rPop : V → List V → Hp → VK → Prop := fun x vs H Q => ∃ l xs y, x = .ref l ∧ vs = [] ∧ H l = some (.lst xs) ∧ xs[xs.length - 1]? = some y ∧ Q y (upd H l (.lst xs.dropLast))
theorem mt_pop : MtM X "list.pop" rPop := by
  intro pins s σ H x vs v us Q I rx rv h
  obtain ⟨l, xs, y, rfl, rfl, hH, hy, q⟩ := h
  cases rx
  have hus := rv.zero
  subst hus
  obtain ⟨z, its, n, r, hl, e⟩ := I.lstM hH
  obtain ⟨u, hu, ru⟩ := r.get hy
  have hy' : its.toArray[its.toArray.size - 1]? = some u := by
    show its.toArray[its.length - 1]? = some u
    rw [← Array.getElem?_toList, ← hl]
    exact hu
  refine call_meets F.slot_list_pop ⟨_, e, rfl⟩ F.entry_list_pop (F.args_list_pop_1 _) (MeetsSeq.list_pop_last l its.toArray n u hy' (by rw [List.size_toArray]; omega)) ⟨e, ?_⟩
  refine ⟨y, _, I.lset (its' := its.dropLast) hH e ?_ r.dropLast ?_, ru, q⟩
  · show its.toArray.eraseIdxIfInBounds (its.toArray.size - 1) = its.dropLast.toArray
    rw [List.size_toArray, List.eraseIdxIfInBounds_toArray, erase_last]
  · rw [List.length_dropLast]
    omega

def rPopAt : V → List V → Hp → VK → Prop := fun x vs H Q => ∃ l xs i k y, x = .ref l ∧ vs = [.int i] ∧ H l = some (.lst xs) ∧ -(2 ^ 63) ≤ i ∧ i < 2 ^ 63 ∧ seqIndex? i xs.length = some k ∧ xs[k]? = some y ∧ Q y (upd H l (.lst (xs.eraseIdx k)))
theorem mt_popAt : MtM X "list.pop" rPopAt := by
  intro pins s σ H x vs v us Q I rx rv h
  obtain ⟨l, xs, i, k, y, rfl, rfl, hH, h1, h2, hk, hy, q⟩ := h
  cases rx
  obtain ⟨u, rfl, ru⟩ := rv.one
  obtain ⟨t, rfl⟩ := ru
  obtain ⟨z, its, n, r, hl, e⟩ := I.lstM hH
  obtain ⟨w, hw, rw'⟩ := r.get hy
  refine call_meets F.slot_list_pop ⟨_, e, rfl⟩ F.entry_list_pop (F.args_list_pop_2 _ _)
    (MeetsSeq.list_pop_at l its.toArray n i t k w (fitsIndex_both h1 h2) (by rw [List.size_toArray, ← hl]; exact hk) (by rw [← Array.getElem?_toList]; exact hw) (by rw [List.size_toArray]; omega)) ⟨e, ?_⟩
  refine ⟨y, _, I.lset (its' := its.eraseIdx k) hH e ?_ (r.eraseIdx k) ?_, rw', q⟩
  · show its.toArray.eraseIdxIfInBounds k = (its.eraseIdx k).toArray
    rw [List.eraseIdxIfInBounds_toArray]
  · have := len_erase xs k
    omega

def rReverse : V → List V → Hp → VK → Prop := fun x vs H Q => ∃ l xs, x = .ref l ∧ vs = [] ∧ H l = some (.lst xs) ∧ Q .non (upd H l (.lst xs.reverse))
theorem mt_reverse : MtM X "list.reverse" rReverse := by
  intro pins s σ H x vs v us Q I rx rv h
  obtain ⟨l, xs, rfl, rfl, hH, q⟩ := h
  cases rx
  have hus := rv.zero
  subst hus
  obtain ⟨z, its, n, r, hl, e⟩ := I.lstM hH
  refine call_meets F.slot_list_reverse ⟨_, e, rfl⟩ F.entry_list_reverse (F.args_list_reverse_1 _) (AutoSeq1.list_reverse_list_0 l its.toArray n (by rw [List.size_toArray]; omega)) ⟨e, ?_⟩
  refine ⟨.non, _, I.lset (its' := its.reverse) hH e (by simp) r.reverse ?_, rfl, q⟩
  rw [List.length_reverse]
  omega

/-! ### list + list, list += list, list * int -/
def rCat : R2 := fun x y H Q => ∃ l b xs zs, x = .ref l ∧ y = .ref b ∧ H l = some (.lst xs) ∧ H b = some (.lst zs) ∧ xs.length + zs.length ≤ sizeLine ∧ ∀ p, H p = none → Q (.ref p) (upd H p (.lst (xs ++ zs)))
theorem op_cat : OpR X (binaryOp .Add) rCat := by
  intro pins s σ H x y v u Q I rx ry h
  obtain ⟨l, b, xs, zs, rfl, rfl, hH, hB, hz, q⟩ := h
  cases rx
  cases ry
  obtain ⟨z, its, n, r, hl, e⟩ := I.lstM hH
  obtain ⟨z2, its2, n2, r2, hl2, e2⟩ := I.lstM hB
  refine PySem.P.add_list e e2 ?_ (by rw [List.size_toArray, List.size_toArray]; omega)
  have ea : its.toArray ++ its2.toArray = (its ++ its2).toArray := by simp
  rw [ea]
  exact ⟨.ref _, _, I.lnew (t' := s.toks) (r.append r2) (by rw [List.length_append]; omega), rfl, q _ I.fresh⟩
/-- a list times an int (a negative one is nothing) -/
def rRep : R2 := fun x y H Q => ∃ l k xs, x = .ref l ∧ y = .int k ∧ H l = some (.lst xs) ∧ -(2 ^ 63) ≤ k ∧ k < 2 ^ 63 ∧ xs.length * k.toNat ≤ sizeLine ∧
  ∀ p, H p = none → Q (.ref p) (upd H p (.lst (List.replicate k.toNat xs).flatten))
theorem len_rep {α : Type} (xs : List α) (k : Nat) : (List.replicate k xs).flatten.length = k * xs.length := by
  induction k with
  | zero => simp
  | succ k ih => rw [List.replicate_succ, List.flatten_cons, List.length_append, ih, Nat.succ_mul, Nat.add_comm]
theorem op_rep : OpR X (binaryOp .Mult) rRep := by
  intro pins s σ H x y v u Q I rx ry h
  obtain ⟨l, k, xs, rfl, rfl, hH, h1, h2, hz, q⟩ := h
  cases rx
  obtain ⟨t, rfl⟩ := ry
  obtain ⟨z, its, n, r, hl, e⟩ := I.lstM hH
  have hlen : its.toArray.size * k.toNat ≤ sizeLine := by rw [List.size_toArray, ← hl]; exact hz
  have hcap : ¬ its.toArray.size * k.toNat > (2 ^ 63 - 1) / 8 := by
    have : (sizeLine : Nat) ≤ (2 ^ 63 - 1) / 8 := by decide
    omega
  have hfit : ¬ (!Builtin.List.listFitsIndex k) = true := by
    rw [fitsIndex_both h1 h2]
    exact Bool.false_ne_true
  have hlong : ¬ Builtin.List.listTooLong (its.toArray.size * k.toNat) = true := by
    rw [notLongL hlen]
    exact Bool.false_ne_true
  have hnew : List.foldl (fun x1 x2 => x1 ++ x2) #[] (List.replicate (if its.toArray.isEmpty = true then 0 else k.toNat) its.toArray) = (List.replicate k.toNat its).flatten.toArray := by
    have f0 : ∀ m : Nat, List.foldl (fun x1 x2 => x1 ++ x2) #[] (List.replicate m its.toArray) = (List.replicate m its).flatten.toArray := fun m => by
      have := foldl_rep its m []
      rw [List.nil_append] at this
      exact this
    rw [f0]
    cases its with
    | nil => simp
    | cons a r' => rw [if_neg (by simp)]
  refine wpAny_binaryOp_repeat_ref (T := "list") (U := "int") (by decide) ⟨_, e, rfl⟩ (fun s' => typeIs_int s' k t) noFill_list_mul F.fills_int_mul F.slot_int_rmul repeat_list F.slot_int_index.lookup
    (call_meets F.slot_int_rmul (typeIs_int s k t) F.entry_int_rmul (F.args_int_rmul_2 _ _) (int___rmul___int_list k t l its.toArray n)
      ⟨e, rfl, ⟨_, e, rfl⟩, call_meets F.slot_list_mul ⟨_, e, rfl⟩ F.entry_list_mul (F.args_list_mul_2 _ _) (AutoListH.list___mul___list_int_3 l its.toArray n k t hfit hcap hlong) ⟨e, ?_⟩⟩)
  rw [hnew]
  exact ⟨.ref _, _, I.lnew (t' := s.toks) (r.rep k.toNat) (by rw [len_rep, Nat.mul_comm]; exact hz), rfl, q _ I.fresh⟩

/-! ### del xs[i] -/
end

/-! ### xs[a:b] = ys -/
section
variable {prog : Program} {w : World} {A : Around} {E : Value → Shared → Prop} {s : Shared}
set_option maxRecDepth 100000 in
end

section
variable {X : Cx}
end
end L2

namespace Att
open PySem PySem.W PySem.Calls PyProof.Rows

/-! ### the script -/
theorem ints_of_wellAll {P : Params} {h : Heap} : ∀ (ns : List Int) (vs : List Value), WellAll P h vs (ns.map WData.int) → IntsAre vs ns := by
  intro ns
  induction ns with
  | nil =>
    intro vs w
    rw [List.map_nil] at w
    cases w
    exact .nil
  | cons n ns ih =>
    intro vs w
    rw [List.map_cons] at w
    cases w with
    | cons a b =>
      cases a
      exact .cons _ _ (ih _ b)

theorem script_of {l : OpenLaw} {n : Nat} (hn : l.most = some n) {P : Params} {h : Heap} {args : List WData} {vals : List Value}
    (hpre : l.row.toRowW.claim.pre args = true) (hwl : WellAll P h vals args) :
    ∃ a vs ns, vals = [Value.ref a] ∧ args = [WData.list (ns.map WData.int)] ∧ h.get? a = some { cls := .type "list", data := .seq vs.toArray } ∧ IntsAre vs ns ∧ ns.length ≤ n := by
  have hsh : WShape.hasAll [] args [.list .int] = true := (pre_splitW hpre).1
  have hc : l.pre.holds [] { args := args } = true := (pre_splitW hpre).2
  obtain ⟨d, r, rfl, h1, h2⟩ := hasAllW_cons hsh
  obtain rfl := hasAllW_nil h2
  obtain ⟨xs, rfl, h3⟩ := hasW_list h1
  obtain ⟨ns, rfl⟩ := items_int h3
  have hlen : ns.length ≤ n := by
    unfold OpenLaw.pre at hc
    have h4 : (WTm.not (.lt (.lit (.int (n : Int))) (.len (.arg 0)))).holds [] { args := [.list (ns.map .int)] } = true := by
      have h4 := (holds_andW hc).1
      rw [hn] at h4
      exact h4
    have h5 := condW_of h4 (w_not (w_lt w_lit (w_len_list (w_arg rfl))))
    rw [List.length_map] at h5
    refine Nat.le_of_not_lt fun q => ?_
    have q' : (n : Int) < ((ns.length : Nat) : Int) := by omega
    first
      | (rw [decide_eq_true q'] at h5; exact absurd h5 (by decide))
      | (simp at h5; omega)
  cases hwl with
  | cons w1 w2 =>
    cases w2
    cases w1 with
    | list ho hall => exact ⟨_, _, ns, rfl, rfl, ho, ints_of_wellAll ns _ hall, hlen⟩

theorem post_true (l : OpenLaw) (args : List WData) : l.row.toRowW.claim.post args (.bool true) args = true :=
  postW_of (r := l.row.toRowW) (X := (true == true))
    (show WShape.has [] (.bool true) .bool = true by first | rfl | decide | simp [WShape.has, WShape.arms, WShape.armsAll])
    (show (WTm.eq .res (.lit (.bool true))).value [] { args := args, res := some (.bool true), after := args } = some (.bool (true == true)) from w_eq_bool (w_res rfl) w_lit) rfl

/-! ### the attachment: holds_open's last premise (the goal 'hc' behind k_head) from a wpAny of the law's body -/
/-- the same from a codeAny of the CALL (for a layer whose function contracts speak of calls) -/
theorem attach_call {l : OpenLaw} {n : Nat} {q : Program} {loose : List Str} {XP : (Str → Option Value) → Heap → Prop} {YP : World → Heap → Prop} {d : DefRec}
    (hn : l.most = some n) (hdf : d.params.defaults = [])
    (call : ∀ (w : World) (s₀ s₁ : Shared) (mg mb : Str → Option Value) (fa : Addr) (o : Obj) (pm cd doc : Value) (a : Addr) (vs : List Value) (ns : List Int),
      Ground q loose [] XP w s₀ mg mb s₁.heap → YP w s₁.heap →
      s₁.heap.get? fa = some o → o.data = .func (docDef d.name d.params d.body d.scope pm cd doc) → s₁.heap.CodeRec cd d.name → mg d.name = some (.ref fa) →
      s₁.heap.get? a = some { cls := .type "list", data := .seq vs.toArray } → IntsAre vs ns → ns.length ≤ n → s₁.gens = #[] →
      codeAny (model l.prog w) callerA (.call (.ref fa) ⟨[.ref a], []⟩) (fun r s' => r = .ok (.ret (.bool true)) ∧ OldK s₁.heap s'.heap ∧ s'.os = s₁.os ∧ AllBare s'.gens) s₁) :
    WalkO q loose XP YP l.row.toRowW d [] (fun f vs => PySem.call f vs) := by
  intro w s₀ s₁ mg mb G Y fa o pm cd doc dV kV ho hd hcd hD hmg hg args vals as hpre hlay hrd hwl hlo
  obtain rfl : dV = .none := Dflts.none hD hdf
  obtain rfl : kV = .none := Dflts.noKw hD
  obtain ⟨a, vs, ns, rfl, rfl, hobj, hints, hlen⟩ := script_of hn hpre hwl
  refine enter_call (codeAny_mono (call w s₀ s₁ mg mb fa o pm cd doc a vs ns G Y ho (fd_plain hd) hcd hmg hobj hints hlen hg) fun r s' hq => ?_)
  obtain ⟨rfl, h2, h3, h4⟩ := hq
  exact ⟨.inl ⟨.bool true, .bool true, [], rfl, fun _ => rfl, .bool true, post_true l _, fun _ => ⟨List.Pairwise.nil, fun _ hm => (nomatch hm)⟩⟩, h2, h3, h4⟩

/-! ### rules over ANY heap (no ledger) from facts about the written part K: the library's own take a ledger (News) for what they write -/
section
variable {prog : Program} {w : World} {A : Around} {E : Value → Shared → Prop} {s : Shared} {K : Frag}

/-! the whole heap as the ledger: makes every rule that writes through a ledger a rule over any heap -/
def ledger (h : Heap) (L d : Addr) : List (Addr × Obj) := (List.range h.objs.size).filterMap fun a => if a = L ∨ a = d then none else (h.get? a).map fun o => (a, o)
end
end Att

namespace L2
open PySem PySem.Spec PyProof.Rows

theorem vals_ints : ∀ {vs : List Value} {ns : List Int}, IntsAre vs ns → Vals (ns.map V.int) vs
  | _, _, .nil => .nil
  | _, _, .cons n t h => .cons ⟨t, rfl⟩ (vals_ints h)

/-- nothing is tracked but the script, known to the object (or it is an object of the module) -/
def Only (H : Hp) : Prop := ∀ b, H b = none ∨ ∃ o xs, H b = some (.frz o (.lst xs))

/-- THE HEAD: the law's promise, at the heap behind the top. F, the promise of the law's def, may use that base is part of the heap (so K.In base, base.Ns mainGlobals mg stand in Mod) -/
theorem law_call {P : Program} {w : World} {K : PySem.W.Frag} {mg mb : Str → Option Value} {CX : CXT} {k : Nat} {fa a : Addr} {fd : FuncData} {x : Str} {sp : Sp} {s₁ : Shared} {vs : List Value} {ns : List Int}
    (KX : K.In s₁.heap) (hns : s₁.heap.Ns mainGlobals mg) (hb : s₁.heap.Ns builtinsNs mb) (hbb : ∀ x : Str, x ≠ "__name__" → mb x = bootBuiltins x) (hlim : s₁.heap.NoLimit) (hg : s₁.gens = #[])
    (ha : s₁.heap.get? a = some { cls := .type "list", data := .seq vs.toArray }) (hi : IntsAre vs ns) (hl : ns.length ≤ sizeLine) (hr : Room k callerA)
    (F : ∀ base : Heap, K.In base → base.Ns mainGlobals mg → FnOk P w K mg base CX k fa fd [x] sp) (hbind : ∀ (s : Shared) (u : Value), BindsTo s fd ⟨[u], []⟩ [(x, u)])
    (hsp : ∀ H : Hp, Only H → SqL K H a (ns.map V.int) → sp [.ref a] H (fun v _ => v = .bl true) fun _ _ _ => False)
    (hCX : ∀ H e s', CX [] H s₁ (fun _ _ _ => False) e s' → False) :
    codeAny (model P w) callerA (.call (.ref fa) ⟨[.ref a], []⟩) (fun r s' => r = .ok (.ret (.bool true)) ∧ OldK s₁.heap s'.heap ∧ s'.os = s₁.os ∧ AllBare s'.gens) s₁ := by
  have rv := vals_ints hi
  have lenV := hi.length
  -- from an abstract heap in which nothing but the script may be tracked
  have core : ∀ H : Hp, Only H → SqL K H a (ns.map V.int) → HOk P w H s₁.heap → (∀ b, H b ≠ none → b = a) → (H a ≠ none → K.lookup a = none) →
      codeAny (model P w) callerA (.call (.ref fa) ⟨[.ref a], []⟩) (fun r s' => r = .ok (.ret (.bool true)) ∧ OldK s₁.heap s'.heap ∧ s'.os = s₁.os ∧ AllBare s'.gens) s₁ := by
    intro H hO hS hok hA hK
    have base_of : ∀ {b : Addr} {o : Obj}, s₁.heap.get? b = some o → H b = none → (hidT s₁.heap H).get? b = some o := fun e n => hidT_get e n
    have noA : ∀ {b : Addr} {o : Obj} {es : Array DictEntry} {ep : Nat}, s₁.heap.get? b = some o → o.data = .dict es ep → H b = none := fun {b o es ep} e d => by
      cases q : H b with
      | none => rfl
      | some u =>
        have e' : b = a := hA b (by rw [q]; simp)
        subst e'
        rw [ha] at e; cases e
        have d' : Data.seq vs.toArray _ = Data.dict es ep := d
        cases d'
    have nsK : ∀ {b : Addr} {m : Str → Option Value}, s₁.heap.Ns b m → (hidT s₁.heap H).Ns b m := fun {b m} ⟨o, es, ep, e, d, r⟩ => ⟨o, es, ep, base_of e (noA e d), d, r⟩
    have hKb : K.In (hidT s₁.heap H) := fun b o e => base_of (KX b o e) (by
      cases q : H b with
      | none => rfl
      | some u =>
        have e' : b = a := hA b (by rw [q]; simp)
        subst e'
        rw [hK (by rw [q]; simp)] at e; cases e)
    have hM : Mod K mg (hidT s₁.heap H) := ⟨hKb, nsK hns, ⟨mb, nsK hb, hbb⟩, let ⟨mc, h1, h2⟩ := hlim; ⟨mc, nsK h1, h2⟩⟩
    have e0 : Env0 P w K mg (hidT s₁.heap H) callerA [] s₁ H := ⟨rfl, hM, fun b o e => of_hidT e, Nat.le_of_eq (hidT_size _ _), trivial, fun b hb => absurd (show b ∈ ([] : List Addr) from hb) (by simp), hok, .of_eq hg⟩
    refine codeAny_mono ((F _ hKb (nsK hns)).run callerA [] s₁ H ⟨[.ref a], []⟩ [.ref a] [.ref a] _ _ hr e0 (hbind s₁ (.ref a)) (.cons rfl .nil) (hsp H hO hS)) fun r s' h => ?_
    cases r with
    | error e => exact (hCX H e s' h).elim
    | ok fl =>
      cases fl with
      | next => exact False.elim h
      | brk => exact False.elim h
      | cont => exact False.elim h
      | ret u =>
        obtain ⟨v, H', os, bare, un, hok', r', q⟩ := h
        have q' : v = .bl true := q
        subst q'
        obtain rfl : u = Value.bool true := r'
        refine ⟨rfl, OldK.of_keep fun b o e => ?_, os, bare⟩
        cases q : H b with
        | none => exact un.keep b o e q (by intro z; exact absurd (show b ∈ ([] : List Addr) from z) (by simp)) (by simp)
        | some u =>
          rcases hO b with z | ⟨ob, xs, z⟩
          · rw [q] at z; cases z
          · have z2 := un.frzs b ob _ z
            obtain ⟨e1, _⟩ := hok b _ z
            obtain ⟨e2, _⟩ := hok' b _ z2
            rw [e] at e1; cases e1
            exact e2
  cases hk : K.lookup a with
  | some o =>
    -- the script is one of the module's own objects
    have e := KX a o hk
    rw [ha] at e
    cases e
    refine core (fun _ => none) (fun _ => .inl rfl) (.inr ⟨_, vs.toArray, _, hk, rfl, rfl, rfl, by rw [List.size_toArray, lenV]; exact hl, by simpa using rv⟩) (fun b u z => by have z' : (none : Option HO) = some u := z; cases z') (fun b z => absurd rfl z) fun z => absurd rfl z
  | none =>
    refine core (fun b => if b = a then some (.frz { cls := .type "list", data := .seq vs.toArray } (.lst (ns.map V.int))) else none) (fun b => ?_) (.inl (.inr ⟨{ cls := .type "list", data := .seq vs.toArray }, if_pos rfl⟩)) (fun b u z => ?_) (fun b z => ?_) fun _ => hk
    · by_cases hb : b = a
      · exact .inr ⟨_, _, if_pos hb⟩
      · exact .inl (if_neg hb)
    · by_cases hb : b = a
      · have z' := (if_pos hb).symm.trans z
        cases z'
        subst hb
        exact ⟨ha, by rw [List.length_map]; exact hl, vs, _, rv, ha⟩
      · have z' := (if_neg hb).symm.trans z
        cases z'
    · by_cases hb : b = a
      · exact hb
      · exact absurd (if_neg hb) z
end L2

namespace L2
open PySem PySem.Spec PyProof.Rows

abbrev KOf {K : PySem.W.Frag} {h : Heap} (_ : K.In h) : PySem.W.Frag := K

/-- the goal that k_head leaves (case hc), from the law's promise. F gives the function object fd (K's own) once, then the promise over every base -/
theorem walk_of {l : PySem.W.OpenLaw} {n k : Nat} {q : Program} {loose : List Str} {XP : (Str → Option Value) → Heap → Prop} {YP : World → Heap → Prop} {d : DefRec} {K : Params → PySem.W.Frag} {CX : World → CXT} {sp : World → Sp} {x : Str}
    (hn : l.most = some n) (hn2 : n ≤ sizeLine) (hdf : d.params.defaults = []) (hr : Room k callerA)
    (hY : ∀ (w : World) (h : Heap), YP w h → (K w.params).In h)
    (F : ∀ (w : World) (mg : Str → Option Value) (fa : Addr) (h : Heap), (K w.params).In h → h.Ns mainGlobals mg → mg d.name = some (.ref fa) →
      ∃ fd : FuncData, (∀ (s : Shared) (u : Value), BindsTo s fd ⟨[u], []⟩ [(x, u)]) ∧
        ∀ base : Heap, (K w.params).In base → base.Ns mainGlobals mg → FnOk l.prog w (K w.params) mg base (CX w) k fa fd [x] (sp w))
    (hsp : ∀ (w : World) (H : Hp) (a : Addr) (ns : List Int), ns.length ≤ n → Only H → SqL (K w.params) H a (ns.map V.int) → sp w [.ref a] H (fun v _ => v = .bl true) fun _ _ _ => False)
    (hCX : ∀ (w : World) (H : Hp) (s : Shared) (e : Value) (s' : Shared), CX w [] H s (fun _ _ _ => False) e s' → False) :
    PySem.W.WalkO q loose XP YP l.row.toRowW d [] (fun f vs => PySem.call f vs) := by
  refine Att.attach_call hn hdf fun w s₀ s₁ mg mb fa o pm cd doc a vs ns G Y ho hd hcd hmg hobj hints hlen hg => ?_
  have KX := hY w _ Y
  obtain ⟨fd, hb, hF⟩ := F w mg fa _ KX G.T.g hmg
  exact law_call KX G.T.g G.T.b G.T.builtins G.T.nolimit hg hobj hints (Nat.le_trans hlen hn2) hr hF hb (fun H hO hS => hsp w H a ns hlen hO hS) fun H e s' => hCX w H s₁ e s'
end L2

/- THE LAST THEOREM (shape; LID, My.* are yours):
   My.Adr: a structure of the addresses that your layer names (classes, functions); My.Txt K t: a structure (Prop) of the equations over K;
   My.txt_mk : {K} {implicit addresses ..} (e1 : nsIn K mainGlobals "law" = some (some (.ref f))) (e2 : K.lookup f = some ⟨oc, od, .func (fnOf "law" "law" params body scope dV kV doc pm an cdv ct), sl⟩) (e3 : codeIn K cdv "law" = true) .. : ∃ t, My.Txt K t

set_option maxRecDepth 100000 in
set_option maxHeartbeats 0 in
theorem PySem.Challenge.cw_LID_holds : PySem.Challenge.rw_LID.Holds := by
  w_on; o_law; k_head; (case hw => w_witness2)
  k_fill
  refine L2.walk_of (l := PySem.Challenge.rw_LID) (n := 63) (k := 40) (x := "script") (CX := fun w => ..) (sp := fun _ => My.sp_law) rfl (by decide) rfl ⟨rfl, by decide, by decide⟩ (fun w h Y => PySem.W.kIn_of Y) ?F ?S ?C
  case F =>
    intro w mg fa h KX G hmg
    have T : ∃ t, My.Txt (L2.KOf KX) t := by
      dsimp only [L2.KOf]                          -- K must stand as «<heap const> w.params» for k_is
      refine' My.txt_mk ?e1 ?e2 ?e3 ..
      (case e1 => PySem.W.k_is)                    -- in the order: a name -> its address -> its object -> its parts
      (case e2 => PySem.W.k_is)
      ..
    obtain ⟨t, T⟩ := T
    have e0 := hmg.symm.trans (PySem.W.mg_of KX G T.law)
    cases e0                                       -- fa is the law's own address
    exact ⟨_, fun s u => .of_eq rfl, fun base kb nb => My.law_fn T kb nb⟩     -- if «.of_eq rfl» comes too early: refine' ⟨_, ?b, fun base kb nb => My.law_fn T kb nb⟩; exact fun s u => .of_eq rfl
  case S => exact fun w H a ns hl hO hS => ..
  case C => exact ..
(the tactic k_is has no namespace: write k_is) -/

/-! SHORT WORDS over the layer: a def of the text, its body, what a loop and a test want. -/
namespace L2
open PySem PySem.Spec PyProof.Rows

/-! ### the text by places -/
def defArgs (s : Stmt) : Arguments := match s with
  | .FunctionDef _ a _ _ _ _ _ _ _ _ => a
  | _ => { posonlyargs := [], args := [], vararg := none, kwonlyargs := [], kw_defaults := [], kwarg := none, defaults := [] }
def defBody (s : Stmt) : List Stmt := match s with
  | .FunctionDef _ _ b _ _ _ _ _ _ _ => b
  | _ => []
def defScope (s : Stmt) : Scope := match s with
  | .FunctionDef _ _ _ _ _ _ sc _ _ _ => sc
  | _ => { kind := .function, names := [], isGenerator := false, isCoroutine := false }

/-! ### no exception leaves a def -/
abbrev CX0 : CXT := fun _ _ _ _ _ _ => False
abbrev E0 : XK := fun _ _ _ => False
theorem pass0 {X : Cx} : Passes CX0 X E0 := fun _ _ _ _ _ _ _ h => h.elim

/-! ### a def (or method) of the text as it stands behind the top -/
structure Fun (K : PySem.W.Frag) (x qual : Str) (st : Stmt) (f : Addr) (fd : FuncData) : Prop where
  ex : ∃ (oc : Value) (od : Option Addr) (kV doc pm : Value) (an : Option Addr) (cdv ct : Value) (osl : Array (Option Value)),
    fd = PySem.W.fnOf x qual (defArgs st) (defBody st) (defScope st) .none kV doc pm an cdv ct ∧ K.lookup f = some ⟨oc, od, .func fd, osl⟩ ∧ PySem.W.codeIn K cdv qual = true
  kp : PySem.W.keepIn K (.ref f) = true
section
variable {P : Program} {w : World} {K : PySem.W.Frag} {mg : Str → Option Value} {base : Heap}
/-- THE RULE for a def: its body as a term of rules, and the reading of that term -/
theorem Fun.ok {x qual : Str} {st : Stmt} {f : Addr} {fd : FuncData} {N ps : List Str} {k : Nat} {sp : Sp} (F : Fun K x qual st f fd) (S : FnScope N ps (defScope st)) (len : ∀ vs H Q E, sp vs H Q E → vs.length = ps.length)
    (hbody : ∀ (cdv : Value) (A : Around) (outer : List Env) (s : Shared) (H : Hp) (vs : List V) (Q : VK) (E : XK), Room k (A.deeper (envOfC qual (defScope st) s.heap.objs.size f cdv)) → sp vs H Q E →
      ∃ t, PSs (cxOf CX0 P w K mg base N qual (defScope st) f cdv A outer s H E).nox (defBody st) t ∧ t { nx := fun _ H' => Q .non H', rt := Q } (start N vs) H) : FnOk P w K mg base CX0 (k + 1) f fd ps sp := by
  obtain ⟨oc, od, kV, doc, pm, an, cdv, ct, osl, rfl, lk, hcd⟩ := F.ex
  refine fn_of lk hcd S len fun A outer s H vs Q E hr hsp => ?_
  obtain ⟨t, h, q⟩ := hbody cdv A outer s H vs Q E hr hsp
  exact ⟨t, h.nox, q⟩
/-- how its arguments bind (no defaults): h is «fun _ _ _ _ _ _ us hl => match us, hl with | [_, _], _ => rfl», one _ a parameter -/
theorem Fun.binds {x qual : Str} {st : Stmt} {f : Addr} {fd : FuncData} {ps : List Str} (F : Fun K x qual st f fd)
    (h : ∀ (kV doc pm : Value) (an : Option Addr) (cdv ct : Value) (us : List Value), us.length = ps.length → bindArgs (PySem.W.fnOf x qual (defArgs st) (defBody st) (defScope st) .none kV doc pm an cdv ct) ⟨us, []⟩ = pure (ps.zip us)) : Binds K fd ps [] := by
  obtain ⟨oc, od, kV, doc, pm, an, cdv, ct, osl, rfl, lk, hcd⟩ := F.ex
  exact .all (h kV doc pm an cdv ct)
theorem fun_mk {x qual : Str} {st : Stmt} {f : Addr} {oc : Value} {od an : Option Addr} {osl : Array (Option Value)} {kV doc pm cdv ct : Value} (l : K.lookup f = some ⟨oc, od, .func (PySem.W.fnOf x qual (defArgs st) (defBody st) (defScope st) .none kV doc pm an cdv ct), osl⟩)
    (c : PySem.W.codeIn K cdv qual = true) (k : PySem.W.keepIn K (.ref f) = true) : Fun K x qual st f (PySem.W.fnOf x qual (defArgs st) (defBody st) (defScope st) .none kV doc pm an cdv ct) := ⟨⟨oc, od, kV, doc, pm, an, cdv, ct, osl, rfl, l, c⟩, k⟩
end
/-! ### expressions in short: the name that stands in the i-th slot -/
section
variable {X : Cx}
theorem pv (i : Nat) {x : Str} {pos : Pos} (hN : X.N[i]? = some x := by rfl) (hv : Vis X.env.scope x := by first | exact Or.inl rfl | exact Or.inr (Or.inl rfl) | exact Or.inr (Or.inr rfl)) (hd : (x == ("__debug__" : Str)) = false := by decide)
    (hcd : (x == ("__classdict__" : Str)) = false := by decide) : PE X (.Name x pos) (tVar i) := pe_var hN hv hd hcd
end

/-! ### tests -/
theorem ite2 {c A B : Prop} [Decidable c] (h1 : c → A) (h2 : ¬ c → B) : if c then A else B := by
  by_cases h : c
  · rw [if_pos h]
    exact h1 h
  · rw [if_neg h]
    exact h2 h
/-! ### heaps -/
/-- all that was tracked is as it was -/
def Same (H H' : Hp) : Prop := ∀ b o, H b = some o → H' b = some o
theorem Same.refl (H : Hp) : Same H H := fun _ _ h => h
theorem Same.trans {H H1 H2 : Hp} (a : Same H H1) (b : Same H1 H2) : Same H H2 := fun c o h => b c o (a c o h)
theorem Same.free {H H' : Hp} (e : Same H H') {l : Addr} (h : H' l = Option.none) : H l = Option.none := by
  cases q : H l with
  | none => rfl
  | some o =>
    rw [e l o q] at h
    cases h
theorem Same.seq {K : PySem.W.Frag} {H H' : Hp} {a : Addr} {xs : List V} (e : Same H H') (h : SqL K H a xs) : SqL K H' a xs := by
  rcases h with (h | ⟨o, h⟩) | h
  · exact .inl (.inl (e _ _ h))
  · exact .inl (.inr ⟨o, e _ _ h⟩)
  · exact .inr h

end L2
set_option maxHeartbeats 4000000
/-! TEXTS over the hand layer: walks over the signs, slices, methods; one rule for each operation, told by the kinds of its values. -/
namespace L2
open PySem PySem.Spec PyProof.Rows

/-! ### walking a text -/
def Its (z : Str) : It := ⟨fun i _ => i < z.length, fun i H x H' => H' = H ∧ ∃ c, z.cps.toList[i]? = some c ∧ x = .str ⟨#[c]⟩, fun i _ => z.length ≤ i⟩
section
variable {X : Cx} {tg : Expr}
def iStr (tl : TE) : TI := fun σ H R => tl σ H fun x H1 => ∃ z, x = .str z ∧ R (Its z) H1
end
section
variable {X : Cx}
/-! ### slices of a text -/
def rSlS : V → Option Int → Option Int → Hp → VK → Prop := fun x lo hi H Q => ∃ z, x = .str z ∧ z.length ≤ sizeLine ∧ Q (.str (Txt.slice z lo hi)) H
theorem sl_str : SlR X rSlS := by
  intro pins s σ H x v vl vu lo hi sl Q I rx hs pl pu h
  obtain ⟨z, rfl, hz, q⟩ := h
  obtain ⟨t, rfl⟩ := rx
  refine ⟨"str", _, F.slot_str_getitem.lookup, typeIs_str _ _ _, ?_⟩
  obtain ⟨o, ho, hc, hd⟩ := hs
  cases pl with
  | none =>
    cases pu with
    | none => exact wpAny_getItem_str_slice (l := none) (u := none) (st := none) ⟨o, ho, hc, hd⟩ rfl (post_val_or_str ⟨Nat.le_trans (Txt.slice_le z none none) hz, fun t' k => ⟨.str (Txt.slice z none none), H, I.tok k, ⟨t', rfl⟩, q⟩⟩)
    | int j uj => exact wpAny_getItem_str_slice (l := none) (u := some (j, uj)) (st := none) ⟨o, ho, hc, hd⟩ rfl (post_val_or_str ⟨Nat.le_trans (Txt.slice_le z none (some j)) hz, fun t' k => ⟨.str (Txt.slice z none (some j)), H, I.tok k, ⟨t', rfl⟩, q⟩⟩)
  | int i ui =>
    cases pu with
    | none => exact wpAny_getItem_str_slice (l := some (i, ui)) (u := none) (st := none) ⟨o, ho, hc, hd⟩ rfl (post_val_or_str ⟨Nat.le_trans (Txt.slice_le z (some i) none) hz, fun t' k => ⟨.str (Txt.slice z (some i) none), H, I.tok k, ⟨t', rfl⟩, q⟩⟩)
    | int j uj => exact wpAny_getItem_str_slice (l := some (i, ui)) (u := some (j, uj)) (st := none) ⟨o, ho, hc, hd⟩ rfl (post_val_or_str ⟨Nat.le_trans (Txt.slice_le z (some i) (some j)) hz, fun t' k => ⟨.str (Txt.slice z (some i) (some j)), H, I.tok k, ⟨t', rfl⟩, q⟩⟩)
/-- of a list or a text -/
def rSl (K : PySem.W.Frag) : V → Option Int → Option Int → Hp → VK → Prop := fun x lo hi H Q => rSlL K x lo hi H Q ∨ rSlS x lo hi H Q
theorem sl_any : SlR X (rSl X.K) := sl_list.or sl_str

/-! ### methods of a text -/
def rIndex : V → List V → Hp → VK → Prop := fun x vs H Q => match x, vs with
  | .str z, [.str y] => ∃ i r, Builtin.Str.occurrences z y 0 z.length 1 = i :: r ∧ Q (.int (i : Nat)) H
  | _, _ => False
theorem ix_index {z y : Str} {H : Hp} {Q : VK} : rIndex (.str z) [.str y] H Q ↔ ∃ i r, Builtin.Str.occurrences z y 0 z.length 1 = i :: r ∧ Q (.int (i : Nat)) H := Iff.rfl
theorem notTooLong {n : Nat} (h : n ≤ 1000000) : Builtin.Str.tooLong n = false := by
  unfold Builtin.Str.tooLong
  rw [sizeLine_eq]
  exact decide_eq_false (by omega)
def rUpper : V → List V → Hp → VK → Prop := fun x vs H Q => match x, vs with
  | .str z, [] => (∀ c ∈ z.cps.toList, c < 128) ∧ z.length ≤ 1000000 ∧ Q (.str ⟨z.cps.map up1⟩) H
  | _, _ => False
theorem up_str {z : Str} {H : Hp} {Q : VK} : rUpper (.str z) [] H Q ↔ (∀ c ∈ z.cps.toList, c < 128) ∧ z.length ≤ 1000000 ∧ Q (.str ⟨z.cps.map up1⟩) H := Iff.rfl
def rLower : V → List V → Hp → VK → Prop := fun x vs H Q => match x, vs with
  | .str z, [] => (∀ c ∈ z.cps.toList, c < 128) ∧ z.length ≤ 1000000 ∧ Q (.str ⟨z.cps.map lo1⟩) H
  | _, _ => False
theorem lo_str {z : Str} {H : Hp} {Q : VK} : rLower (.str z) [] H Q ↔ (∀ c ∈ z.cps.toList, c < 128) ∧ z.length ≤ 1000000 ∧ Q (.str ⟨z.cps.map lo1⟩) H := Iff.rfl
def rAlnum : V → List V → Hp → VK → Prop := fun x vs H Q => match x, vs with
  | .str z, [] => Q (.bl (Txt.isalnum z)) H
  | _, _ => False
theorem an_str {z : Str} {H : Hp} {Q : VK} : rAlnum (.str z) [] H Q ↔ Q (.bl (Txt.isalnum z)) H := Iff.rfl
/-- sep.join(list of texts) -/
def rJoin (K : PySem.W.Frag) : V → List V → Hp → VK → Prop := fun x vs H Q => ∃ z p ys, x = .str z ∧ vs = [.ref p] ∧ SqL K H p (ys.map V.str) ∧ (ys.map (·.length)).sum + ys.length * z.length ≤ 16777216 ∧ Q (.str (Txt.join z ys)) H
/-! ### isinstance -/
def rIsi (K : PySem.W.Frag) : List V → Hp → VK → Prop := fun vs H Q => ∃ x T t b, vs = [x, .ty T] ∧ TyOf K H x t ∧ PySem.W.kitOne K t (.type T) = some b ∧ Q (.bl b) H
theorem call_isi : CallR X (.builtin "isinstance") (rIsi X.K) := by
  intro pins s σ H xs us Q I r h
  obtain ⟨x, T, t, b, rfl, ty, e, q⟩ := h
  obtain ⟨u, v, rfl, ru, rv⟩ := vals2 r
  cases (show v = Value.type T from rv)
  exact isinst_ok I ru ty e fun tk => ⟨.bl b, H, I.tok tk, rfl, q⟩

/-! ### one rule for + -/
/-- t + u: a tuple of both, a new one or one that is there -/
def rCatD : R2 := fun x y H Q => ∃ a b xs ys, x = .ref a ∧ y = .ref b ∧ H a = some (.tup xs) ∧ H b = some (.tup ys) ∧ xs.length + ys.length ≤ sizeLine ∧ ∀ p H', Same H H' → H' p = some (.tup (xs ++ ys)) → Q (.ref p) H'
theorem op_catD : OpR X (binaryOp .Add) rCatD := by
  intro pins s σ H x y v u Q I rx ry h
  obtain ⟨a, b, xs, ys, rfl, rfl, ha, hb, hz, q⟩ := h
  by_cases hx : xs = []
  · subst hx
    cases rx
    cases ry
    obtain ⟨its, r1, p1, _⟩ := I.tuple (SqT.of ha)
    obtain ⟨its2, r2, p2, _⟩ := I.tuple (SqT.of hb)
    cases r1
    obtain ⟨⟨cls, dd, data, sl⟩, ho, hc, n, hd⟩ := id p1
    obtain ⟨⟨cls2, dd2, data2, sl2⟩, ho2, hc2, n2, hd2⟩ := id p2
    simp only at hc hd hc2 hd2
    subst hc hd hc2 hd2
    exact concat_meets ⟨_, ho, rfl⟩ ⟨_, ho2, rfl⟩ noFill_tuple_add seq_tuple_add PySem.F.slot_tuple_add PySem.F.entry_tuple_add (PySem.F.args_tuple_add_2 _ _)
      (tuple_addW0 a b ([] : List Value).toArray its2.toArray n n2 dd dd2 sl sl2 rfl) ⟨ho, ho2, ⟨.ref b, H, I, rfl, q b H (Same.refl _) hb⟩⟩
  · refine op_catT pins s σ H _ _ v u Q I rx ry ⟨a, b, xs, ys, rfl, rfl, SqT.of ha, SqT.of hb, hx, hz, fun e => q a H (Same.refl _) (by rw [e, List.append_nil]; exact ha), fun _ p hp => q p _ (fun b o e => by rw [upd_ne (ne_of_none e hp)]; exact e) upd_same⟩
def rAddU (K : PySem.W.Frag) : R2 := fun x y H Q => match x, y with
  | .int i, .int j => Q (.int (i + j)) H
  | .str i, .str j => i.length + j.length ≤ sizeLine ∧ Q (.str (i ++ j)) H
  | .ref a, .ref b => (∃ xs zs, H a = some (.lst xs) ∧ H b = some (.lst zs) ∧ xs.length + zs.length ≤ sizeLine ∧ ∀ p, H p = none → Q (.ref p) (upd H p (.lst (xs ++ zs)))) ∨
      (∃ xs ys, H a = some (.tup xs) ∧ H b = some (.tup ys) ∧ xs.length + ys.length ≤ sizeLine ∧ ∀ p H', Same H H' → H' p = some (.tup (xs ++ ys)) → Q (.ref p) H')
  | _, _ => False
theorem op_addU : OpR X (binaryOp .Add) (rAddU X.K) := by
  intro pins s σ H x y v u Q I rx ry h
  cases x with
  | int i =>
    cases y with
    | int j => exact op_add pins s σ H _ _ v u Q I rx ry ⟨i, j, rfl, rfl, h⟩
    | _ => exact h.elim
  | str i =>
    cases y with
    | str j => exact op_add_str pins s σ H _ _ v u Q I rx ry ⟨i, j, rfl, rfl, h.1, h.2⟩
    | _ => exact h.elim
  | ref a =>
    cases y with
    | ref b =>
      rcases h with ⟨xs, zs, h1, h2, h3, h4⟩ | ⟨xs, ys, h1, h2, h3, h4⟩
      · exact op_cat pins s σ H _ _ v u Q I rx ry ⟨a, b, xs, zs, rfl, rfl, h1, h2, h3, h4⟩
      · exact op_catD pins s σ H _ _ v u Q I rx ry ⟨a, b, xs, ys, rfl, rfl, h1, h2, h3, h4⟩
    | _ => exact h.elim
  | _ => exact h.elim
theorem ad_int {K : PySem.W.Frag} {i j : Int} {H : Hp} {Q : VK} : rAddU K (.int i) (.int j) H Q ↔ Q (.int (i + j)) H := Iff.rfl
theorem ad_str {K : PySem.W.Frag} {i j : Str} {H : Hp} {Q : VK} : rAddU K (.str i) (.str j) H Q ↔ i.length + j.length ≤ sizeLine ∧ Q (.str (i ++ j)) H := Iff.rfl
end

/-! ### one rule for *, len, ord, int, in, isinstance -/
section
variable {X : Cx}
def rMulU : R2 := fun x y H Q => match x, y with
  | .int i, .int j => CMul i j ∧ Q (.int (i * j)) H
  | .str z, .int k => MulOk z k ∧ Q (.str (Txt.mul z k)) H
  | _, _ => False
theorem op_mulU : OpR X (binaryOp .Mult) rMulU := by
  intro pins s σ H x y v u Q I rx ry h
  cases x with
  | int i =>
    cases y with
    | int j => exact op_mul pins s σ H _ _ v u Q I rx ry ⟨i, j, rfl, rfl, h.1, h.2⟩
    | _ => exact h.elim
  | str z =>
    cases y with
    | int k =>
      obtain ⟨t, rfl⟩ := rx
      obtain ⟨t', rfl⟩ := ry
      exact SB.mul h.1 fun t' k' => ⟨.str (Txt.mul z k), H, I.tok k', ⟨t', rfl⟩, h.2⟩
    | _ => exact h.elim
  | _ => exact h.elim
theorem mu_int {i j : Int} {H : Hp} {Q : VK} : rMulU (.int i) (.int j) H Q ↔ CMul i j ∧ Q (.int (i * j)) H := Iff.rfl
theorem mu_str {z : Str} {k : Int} {H : Hp} {Q : VK} : rMulU (.str z) (.int k) H Q ↔ MulOk z k ∧ Q (.str (Txt.mul z k)) H := Iff.rfl

def rLenU (K : PySem.W.Frag) : List V → Hp → VK → Prop := fun xs H Q => match xs with
  | [.str z] => z.length ≤ sizeLine ∧ Q (.int z.length) H
  | [.ref p] => ∃ ys, (SqL K H p ys ∨ SqT K H p ys) ∧ Q (.int ys.length) H
  | _ => False
theorem call_lenU : CallR X (.builtin "len") (rLenU X.K) := by
  intro pins s σ H xs us Q I r h
  unfold rLenU at h
  split at h
  · exact call_len_str pins s σ H _ us Q I r ⟨_, rfl, h.1, h.2⟩
  · obtain ⟨ys, h1, h2⟩ := h
    exact call_len_seq pins s σ H _ us Q I r ⟨_, ys, rfl, h1, h2⟩
  · exact h.elim
theorem le_str {K : PySem.W.Frag} {z : Str} {H : Hp} {Q : VK} : rLenU K [.str z] H Q ↔ z.length ≤ sizeLine ∧ Q (.int z.length) H := Iff.rfl
theorem le_ref {K : PySem.W.Frag} {p : Addr} {H : Hp} {Q : VK} : rLenU K [.ref p] H Q ↔ ∃ ys, (SqL K H p ys ∨ SqT K H p ys) ∧ Q (.int ys.length) H := Iff.rfl

def rOrdU : List V → Hp → VK → Prop := fun xs H Q => match xs with
  | [.str z] => z.length = 1 ∧ Q (.int (z.cps.getD 0 0 : Nat)) H
  | _ => False
theorem or_one {c : Nat} {H : Hp} {Q : VK} : rOrdU [.str ⟨#[c]⟩] H Q ↔ Q (.int (c : Nat)) H := ⟨fun h => h.2, fun h => ⟨rfl, h⟩⟩
theorem bt_int : bootBuiltins "int" = some (.type "int") := by decide +kernel
theorem bt_str : bootBuiltins "str" = some (.type "str") := by decide +kernel
theorem bt_bool : bootBuiltins "bool" = some (.type "bool") := by decide +kernel
theorem bt_tuple : bootBuiltins "tuple" = some (.type "tuple") := by decide +kernel
theorem bt_list : bootBuiltins "list" = some (.type "list") := by decide +kernel
theorem boot_isinstance : bootBuiltins "isinstance" = some (.builtin "isinstance") := by decide +kernel

def rIntU : List V → Hp → VK → Prop := fun xs H Q => match xs with
  | [.int i] => Q (.int i) H
  | [.bl k] => Q (.int (if k then 1 else 0)) H
  | _ => False
theorem call_intU : CallR X (.type "int") rIntU := by
  intro pins s σ H xs us Q I r h
  unfold rIntU at h
  split at h
  · exact call_int1 pins s σ H _ us Q I r (.inl ⟨_, rfl, h⟩)
  · exact call_int1 pins s σ H _ us Q I r (.inr ⟨_, rfl, h⟩)
  · exact h.elim
theorem in_bl {k : Bool} {H : Hp} {Q : VK} : rIntU [.bl k] H Q ↔ Q (.int (if k then 1 else 0)) H := Iff.rfl

def rInU : R2 := fun x y H Q => match x, y with
  | .str i, .str j => Q (.bl (!(Builtin.Str.occurrences j i 0 j.length 1).isEmpty)) H
  | _, _ => False
def rNotInU : R2 := fun x y H Q => match x, y with
  | .str i, .str j => Q (.bl (!(!(Builtin.Str.occurrences j i 0 j.length 1).isEmpty))) H
  | _, _ => False
theorem in_one {c : Nat} {j : Str} {H : Hp} {Q : VK} : rInU (.str ⟨#[c]⟩) (.str j) H Q ↔ Q (.bl (decide (c ∈ j.cps.toList))) H := by
  show Q (.bl (!(Builtin.Str.occurrences j ⟨#[c]⟩ 0 j.length 1).isEmpty)) H ↔ _
  rw [StrLaws.found_one]
theorem notin_one {c : Nat} {j : Str} {H : Hp} {Q : VK} : rNotInU (.str ⟨#[c]⟩) (.str j) H Q ↔ Q (.bl (!decide (c ∈ j.cps.toList))) H := by
  show Q (.bl (!(!(Builtin.Str.occurrences j ⟨#[c]⟩ 0 j.length 1).isEmpty))) H ↔ _
  rw [StrLaws.found_one]

def rIsN (neg : Bool) : R2 := fun x y H Q => y = .non ∧ Q (.bl (if neg then !decide (x = .non) else decide (x = .non))) H
theorem op_isNU : OpR X (compareOp .Is) (rIsN false) := fun pins s σ H x y v u Q I rx ry h => op_isN pins s σ H x y v u Q I rx ry h
theorem op_notNU : OpR X (compareOp .IsNot) (rIsN true) := fun pins s σ H x y v u Q I rx ry h => op_notN pins s σ H x y v u Q I rx ry h
theorem isN_f {x : V} {H : Hp} {Q : VK} : rIsN false x .non H Q ↔ Q (.bl (decide (x = .non))) H := ⟨fun h => h.2, fun h => ⟨rfl, h⟩⟩
theorem isN_t {x : V} {H : Hp} {Q : VK} : rIsN true x .non H Q ↔ Q (.bl (!decide (x = .non))) H := ⟨fun h => h.2, fun h => ⟨rfl, h⟩⟩

/-- the kind of a value -/
def kindV (x : V) (H : Hp) : Option String := match x with
  | .non => some "NoneType"
  | .bl _ => some "bool"
  | .int _ => some "int"
  | .str _ => some "str"
  | .ref a => match H a with
    | some (.lst _) => some "list"
    | some (.tup _) => some "tuple"
    | _ => none
  | _ => none
def subT (a b : String) : Bool := a == b || (a == "bool" && b == "int")
theorem kit_tab (K : PySem.W.Frag) : ∀ a ∈ ["NoneType", "bool", "int", "str", "list", "tuple"], ∀ b ∈ ["bool", "int", "str", "list", "tuple"], PySem.W.kitOne K (.type a) (.type b) = some (subT a b) := by
  intro a ha b hb
  simp only [List.mem_cons, List.not_mem_nil, or_false] at ha hb
  rcases ha with rfl | rfl | rfl | rfl | rfl | rfl <;> rcases hb with rfl | rfl | rfl | rfl | rfl <;> with_unfolding_all kernel_rfl
def rIsiU : List V → Hp → VK → Prop := fun vs H Q => match vs with
  | [x, .ty T] => ∃ k, kindV x H = some k ∧ T ∈ ["bool", "int", "str", "list", "tuple"] ∧ Q (.bl (subT k T)) H
  | _ => False
theorem call_isiU : CallR X (.builtin "isinstance") rIsiU := by
  intro pins s σ H xs us Q I r h
  unfold rIsiU at h
  split at h
  · rename_i x T
    obtain ⟨k, hk, hT, q⟩ := h
    have key : TyOf X.K H x (.type k) ∧ k ∈ ["NoneType", "bool", "int", "str", "list", "tuple"] := by
      unfold kindV at hk
      split at hk
      · cases hk; exact ⟨.non, by decide⟩
      · cases hk; exact ⟨.bl _, by decide⟩
      · cases hk; exact ⟨.int _, by decide⟩
      · cases hk; exact ⟨.str _, by decide⟩
      · split at hk
        · rename_i e; cases hk; exact ⟨.lst e, by decide⟩
        · rename_i e; cases hk; exact ⟨.tup e, by decide⟩
        · cases hk
      · cases hk
    exact call_isi pins s σ H _ us Q I r ⟨x, T, .type k, subT k T, rfl, key.1, kit_tab X.K k key.2 T hT, q⟩
  · exact h.elim
end

/-! ### the readings, in full -/
section
variable {σ : St} {H : Hp} {Q : VK} {D : Ends} {K : PySem.W.Frag} {ta tb te : TE} {tt tu : TT} {t u : TS} {aa ab : TA} {v x y : V} {r r' : R2}
theorem rd_var {i : Nat} : tVar i σ H Q ↔ ∃ v, σ[i]? = some (some v) ∧ Q v H := Iff.rfl
theorem rd_C : tC v σ H Q ↔ Q v H := Iff.rfl
theorem rd_seq : tSeq t u D σ H ↔ t { D with nx := u D } σ H := Iff.rfl
theorem rd_asg {g : TG} : tAsg te g D σ H ↔ te σ H fun x H1 => g x σ H1 D.nx := Iff.rfl
theorem rd_name {i : Nat} {R : St → Hp → Prop} : gName i v σ H R ↔ R (σ.set i (some v)) H := Iff.rfl
theorem rd_ifS : tIfS tt t u D σ H ↔ tt σ H fun b H1 => if b = true then t D σ H1 else u D σ H1 := Iff.rfl
theorem rd_next : tNext D σ H ↔ D.nx σ H := Iff.rfl
theorem rd_brk : tBreak D σ H ↔ D.bk σ H := Iff.rfl
theorem rd_ret : tRet te D σ H ↔ te σ H D.rt := Iff.rfl
theorem rd_drop : tDrop te D σ H ↔ te σ H fun _ H1 => D.nx σ H1 := Iff.rfl
theorem rd_op : tOp r ta tb σ H Q ↔ ta σ H fun x H1 => tb σ H1 fun y H2 => r x y H2 Q := Iff.rfl
theorem rd_test {R : Bool → Hp → Prop} : tTest te σ H R ↔ te σ H fun x H' => ∃ k, x = .bl k ∧ R k H' := Iff.rfl
theorem rd_B {R : Bool → Hp → Prop} : tB te σ H R ↔ te σ H fun x H' => ∃ k, x = .bl k ∧ R k H' := Iff.rfl
theorem rd_and {R : Bool → Hp → Prop} : tAnd tt tu σ H R ↔ tt σ H fun c H1 => if c = true then tu σ H1 R else R false H1 := Iff.rfl
theorem rd_or {R : Bool → Hp → Prop} : tOr tt tu σ H R ↔ tt σ H fun c H1 => if c = true then R true H1 else tu σ H1 R := Iff.rfl
theorem rd_not {R : Bool → Hp → Prop} : tNot tt σ H R ↔ tt σ H fun c H1 => R (!c) H1 := Iff.rfl
theorem rd_andV : tAndV ta tb σ H Q ↔ ta σ H fun x H1 => ∃ c, x = .bl c ∧ if c = true then tb σ H1 Q else Q (.bl false) H1 := Iff.rfl
theorem rd_orV : tOrV ta tb σ H Q ↔ ta σ H fun x H1 => ∃ c, x = .bl c ∧ if c = true then Q (.bl true) H1 else tb σ H1 Q := Iff.rfl
theorem rd_notV : tNotV ta σ H Q ↔ ta σ H fun x H1 => ∃ c, x = .bl c ∧ Q (.bl (!c)) H1 := Iff.rfl
theorem rd_if : tIf tt ta tb σ H Q ↔ tt σ H fun c H1 => if c = true then ta σ H1 Q else tb σ H1 Q := Iff.rfl
theorem rd_chain {tc : TE} : tChain r r' ta tb tc σ H Q ↔ ta σ H fun x H1 => tb σ H1 fun y H2 => r x y H2 fun z H3 => ∃ k, z = .bl k ∧ (if k = true then tc σ H3 fun w' H4 => r' y w' H4 Q else Q (.bl false) H3) := Iff.rfl
theorem rd_nil {R : List V → Hp → Prop} : tNil σ H R ↔ R [] H := Iff.rfl
theorem rd_cons {R : List V → Hp → Prop} : tCons te aa σ H R ↔ te σ H fun x H1 => aa σ H1 fun xs H2 => R (x :: xs) H2 := Iff.rfl
theorem rd_lst : tLst aa σ H Q ↔ aa σ H fun xs H1 => xs.length ≤ sizeLine ∧ ∀ p, H1 p = none → Q (.ref p) (upd H1 p (.lst xs)) := Iff.rfl
theorem rd_tup : tTup aa σ H Q ↔ aa σ H fun xs H1 => xs.length ≤ sizeLine ∧ ∀ p, H1 p = none → Q (.ref p) (upd H1 p (.tup xs)) := Iff.rfl
theorem rd_call {sp : Sp} {dvs : List V} {E : XK} : tCall sp dvs E aa σ H Q ↔ aa σ H fun vs H1 => sp (vs ++ dvs) H1 Q E := Iff.rfl
theorem rd_cb {c : List V → Hp → VK → Prop} : tCB c aa σ H Q ↔ aa σ H fun vs H1 => c vs H1 Q := Iff.rfl
theorem rd_bm {T : String} {m : V → List V → Hp → VK → Prop} : tBM K T m te aa σ H Q ↔ te σ H fun x H1 => tyV K T x H1 ∧ aa σ H1 fun xs H2 => m x xs H2 Q := Iff.rfl
theorem rd_bm0 {T : String} {m : V → List V → Hp → VK → Prop} : tBM0 K T m te σ H Q ↔ te σ H fun x H1 => tyV K T x H1 ∧ m x [] H1 Q := Iff.rfl
theorem rd_sl {m : V → Option Int → Option Int → Hp → VK → Prop} {tl th : TO} : tSl m te tl th σ H Q ↔ te σ H fun x H1 => tl σ H1 fun l H2 => th σ H2 fun u H3 => m x l u H3 Q := Iff.rfl
theorem rd_noPart {R : Option Int → Hp → Prop} : tNoPart σ H R ↔ R none H := Iff.rfl
theorem rd_part {R : Option Int → Hp → Prop} : tPart te σ H R ↔ te σ H fun x H1 => ∃ i, x = .int i ∧ R (some i) H1 := Iff.rfl
theorem rd_tyStr {z : Str} : tyV K "str" (.str z) H ↔ True := ⟨fun _ => trivial, fun _ => rfl⟩
theorem rd_I {C : Int → Int → Prop} {g : Int → Int → V} {i j : Int} : rI C g (.int i) (.int j) H Q ↔ C i j ∧ Q (g i j) H :=
  ⟨fun ⟨_, _, h1, h2, h3⟩ => by cases h1; cases h2; exact h3, fun h => ⟨i, j, rfl, rfl, h⟩⟩
theorem rd_I0 {g : Int → Int → V} {i j : Int} : rI0 g (.int i) (.int j) H Q ↔ Q (g i j) H :=
  ⟨fun ⟨_, _, h1, h2, h3⟩ => by cases h1; cases h2; exact h3, fun h => ⟨i, j, rfl, rfl, h⟩⟩
theorem rd_eqII {i j : Int} : rEq (.int i) (.int j) H Q ↔ Q (.bl (decide (i = j))) H := by
  unfold rEq scal; simp only [true_and, V.int.injEq]
theorem rd_eqSS {i j : Str} : rEq (.str i) (.str j) H Q ↔ Q (.bl (decide (i = j))) H := by
  unfold rEq scal; simp only [true_and, V.str.injEq]
theorem rd_eqBB {i j : Bool} : rEq (.bl i) (.bl j) H Q ↔ Q (.bl (decide (i = j))) H := by
  unfold rEq scal; simp only [true_and, V.bl.injEq]
theorem rd_neII {i j : Int} : rNe (.int i) (.int j) H Q ↔ Q (.bl (!decide (i = j))) H := by
  unfold rNe scal; simp only [true_and, V.int.injEq]
theorem rd_neSS {i j : Str} : rNe (.str i) (.str j) H Q ↔ Q (.bl (!decide (i = j))) H := by
  unfold rNe scal; simp only [true_and, V.str.injEq]
theorem rd_neBB {i j : Bool} : rNe (.bl i) (.bl j) H Q ↔ Q (.bl (!decide (i = j))) H := by
  unfold rNe scal; simp only [true_and, V.bl.injEq]
theorem rd_neNN : rNe .non .non H Q ↔ Q (.bl false) H := ⟨fun h => h.2, fun h => ⟨rfl, h⟩⟩
theorem rd_neSN {i : Str} : rNe (.str i) .non H Q ↔ Q (.bl true) H := ⟨fun h => h.2, fun h => ⟨rfl, h⟩⟩
theorem rd_neNSx {i : Str} : rNe .non (.str i) H Q ↔ Q (.bl true) H := ⟨fun h => h.2, fun h => ⟨rfl, h⟩⟩
theorem rd_eqNN : rEq .non .non H Q ↔ Q (.bl true) H := ⟨fun h => h.2, fun h => ⟨rfl, h⟩⟩
theorem rd_eqSN {i : Str} : rEq (.str i) .non H Q ↔ Q (.bl false) H := ⟨fun h => h.2, fun h => ⟨rfl, h⟩⟩
theorem rd_eqNSx {i : Str} : rEq .non (.str i) H Q ↔ Q (.bl false) H := ⟨fun h => h.2, fun h => ⟨rfl, h⟩⟩
/-- None or a text -/
def NS (x : V) : Prop := x = .non ∨ ∃ z, x = .str z
theorem rd_neNS (hx : NS x) (hy : NS y) : rNe x y H Q ↔ Q (.bl (!decide (x = y))) H := by
  have e : scal x y = true := by
    rcases hx with rfl | ⟨z, rfl⟩ <;> rcases hy with rfl | ⟨z', rfl⟩ <;> rfl
  unfold rNe; rw [e]; simp only [true_and]
theorem rd_ixS {z : Str} {i : Int} : rIx K (.str z) (.int i) H Q ↔ ∃ c, z.length ≤ sizeLine ∧ atI z.cps.toList i = some c ∧ Q (.str ⟨#[c]⟩) H := by
  constructor
  · rintro (⟨p, xs, j, v, h, _⟩ | ⟨p, xs, j, v, h, _⟩ | ⟨z', j, c, h1, h2, h3, h4, h5⟩)
    · cases h
    · cases h
    · cases h1; cases h2; exact ⟨c, h3, h4, h5⟩
  · rintro ⟨c, h3, h4, h5⟩
    exact .inr (.inr ⟨z, i, c, rfl, rfl, h3, h4, h5⟩)
theorem rd_slS {z : Str} {lo hi : Option Int} : rSl K (.str z) lo hi H Q ↔ z.length ≤ sizeLine ∧ Q (.str (Txt.slice z lo hi)) H := by
  constructor
  · rintro (⟨a, xs, h, _⟩ | ⟨z', h1, h2, h3⟩)
    · cases h
    · cases h1; exact ⟨h2, h3⟩
  · rintro ⟨h2, h3⟩
    exact .inr ⟨z, rfl, h2, h3⟩
end
section
variable {σ : St} {H : Hp} {Q : VK} {K : PySem.W.Frag}
theorem rd_slL {a : Addr} {lo hi : Option Int} : rSl K (.ref a) lo hi H Q ↔ ∃ xs, SqL K H a xs ∧ ∀ p, H p = none → Q (.ref p) (upd H p (.lst (cutV xs lo hi))) := by
  constructor
  · rintro (⟨a', xs, h, h2⟩ | ⟨z', h1, _⟩)
    · cases h; exact ⟨xs, h2⟩
    · cases h1
  · rintro ⟨xs, h2⟩
    exact .inl ⟨a, xs, rfl, h2⟩
theorem rd_ixR {p : Addr} {i : Int} : rIx K (.ref p) (.int i) H Q ↔ ∃ xs v, (SqL K H p xs ∨ SqT K H p xs) ∧ atI xs i = some v ∧ Q v H := by
  constructor
  · rintro (⟨p', xs, j, v, h, h2, h3, h4⟩ | ⟨p', xs, j, v, h, h2, h3, h4⟩ | ⟨z', j, c, h1, _⟩)
    · cases h; cases h2; exact ⟨xs, v, .inl h3, h4⟩
    · cases h; cases h2; exact ⟨xs, v, .inr h3, h4⟩
    · cases h1
  · rintro ⟨xs, v, h | h, h2⟩
    · exact .inl ⟨p, xs, i, v, rfl, rfl, h, h2⟩
    · exact .inr (.inl ⟨p, xs, i, v, rfl, rfl, h, h2⟩)
theorem ad_ref {a b : Addr} : rAddU K (.ref a) (.ref b) H Q ↔ (∃ xs zs, H a = some (.lst xs) ∧ H b = some (.lst zs) ∧ xs.length + zs.length ≤ sizeLine ∧ ∀ p, H p = none → Q (.ref p) (upd H p (.lst (xs ++ zs)))) ∨
      (∃ xs ys, H a = some (.tup xs) ∧ H b = some (.tup ys) ∧ xs.length + ys.length ≤ sizeLine ∧ ∀ p H', Same H H' → H' p = some (.tup (xs ++ ys)) → Q (.ref p) H') := Iff.rfl
theorem cx_K {CX : CXT} {P : Program} {w : World} {mg : Str → Option Value} {base : Heap} {N : List Str} {qual : Str} {scope : Scope} {f : Addr} {cd : Value} {A : Around} {outer : List Env} {s : Shared} {E : XK} :
    (cxOf CX P w K mg base N qual scope f cd A outer s H E).K = K := rfl
end
/-! ### loops as one word -/
def LoopI (J : It) (g : TG) (tb : TS) (D : Ends) (σ : St) (H : Hp) : Prop := ∃ W : Nat → Nat → St → Hp → Prop, (∃ m, W 0 m σ H) ∧ ∀ i m σ H, W i m σ H →
  (J.stop i H ∧ D.nx σ H) ∨ (J.go i H ∧ ∃ N : St → Hp → Prop, (∀ σ' H', N σ' H' → ∃ m', m' < m ∧ W (i + 1) m' σ' H') ∧ ∀ x H', J.yld i H x H' → g x σ H' fun σ2 H2 => tb { D with nx := N, ct := N, bk := D.nx } σ2 H2)
section
variable {σ : St} {H : Hp} {D : Ends} {K : PySem.W.Frag} {te : TE} {g : TG} {tb : TS} {aa : TA}
theorem rd_forS : tFor (iStr te) g tb D σ H ↔ te σ H fun x H1 => ∃ z, x = .str z ∧ LoopI (Its z) g tb D σ H1 := Iff.rfl
theorem rd_forL : tFor (iList K te) g tb D σ H ↔ te σ H fun x H1 => ∃ a, x = .ref a ∧ (∃ xs, SqL K H1 a xs) ∧ LoopI (Itl K a) g tb D σ H1 := Iff.rfl
theorem rd_forR : tFor (iRng1 aa) g tb D σ H ↔ aa σ H fun vs H1 => ∃ j : Int, vs = [.int j] ∧ -(2 ^ 62) ≤ j ∧ j < 2 ^ 62 ∧ LoopI (Itr 0 j.toNat) g tb D σ H1 := Iff.rfl
theorem loop_list {a : Addr} {xs : List V} (Pv : Nat → St → Hp → Prop) (h0 : Pv 0 σ H) (hl : ∀ i σ H, i ≤ xs.length → Pv i σ H → SqL K H a xs)
    (hs : ∀ i x σ H, xs[i]? = some x → Pv i σ H → g x σ H fun σ2 H2 => tb { D with nx := Pv (i + 1), ct := Pv (i + 1), bk := D.nx } σ2 H2) (hd : ∀ σ H, Pv xs.length σ H → D.nx σ H) : LoopI (Itl K a) g tb D σ H := for_list Pv h0 hl hs hd
theorem loop_range {lo : Int} {n : Nat} (Pv : Nat → St → Hp → Prop) (h0 : Pv 0 σ H)
    (hs : ∀ i σ H, i < n → Pv i σ H → g (.int (lo + i)) σ H fun σ2 H2 => tb { D with nx := Pv (i + 1), ct := Pv (i + 1), bk := D.nx } σ2 H2) (hd : ∀ σ H, Pv n σ H → D.nx σ H) : LoopI (Itr lo n) g tb D σ H := for_range Pv h0 hs hd
end
end L2
/-! COMPREHENSIONS of one for over the hand layer: the block has a context of its own, its free names are cells of the def around it. -/
namespace L2
open PySem PySem.Spec PyProof.Rows

section
variable {prog : Program} {w : World} {A : Around} {R : Result → Shared → Prop} {s : Shared}
theorem compLoop_any {elt target iter : Expr} {ifs : List Expr} {scope : Scope} {pos : Pos} {it acc : Value} {env : Env} (I : Nat → Shared → Prop)
    (turn : ∀ n s, I n s → wpAny (model prog w) A (pyNext it) (fun r s₁ => match r with
      | none => R (.ok .next) s₁
      | some v => wpAny (model prog w) A (letOwnedTupleGo target it v) (fun _ s₁' => wpAny (model prog w) A (assign target env v) (fun _ s₂ =>
          wpAny (model prog w) A (forIn ifs true fun c r => if r = true then do let ok ← isTrue c env (eval c env); pure (ForInStep.yield ok) else pure (ForInStep.yield r)) (fun ok s₃ =>
            if ok = true then wpAny (model prog w) A (eval elt env) (fun x s₄ =>
              wpAny (model prog w) A (call (.builtin "list.append") [acc, x]) (fun _ s₅ => ∃ m, m < n ∧ I m s₅) (fun _ _ => False) s₄) (fun _ _ => False) s₃
            else ∃ m, m < n ∧ I m s₃) (fun _ _ => False) s₂) (fun _ _ => False) s₁') (fun _ _ => False) s₁) (fun _ _ => False) s)
    (n : Nat) (h : I n s) : codeAny (model prog w) A (.compLoop (.ListComp elt [⟨target, iter, ifs, 0⟩] scope pos) 0 it acc env) R s := by
  refine codeAny_loop rfl I (fun n s hI => ?_) n h
  show wpAny _ A ((compTurn (.ListComp elt [⟨target, iter, ifs, 0⟩] scope pos) 0 it acc env).onRaise (fun x => do noteFrame x env; theTreesLotGoes x)) _ _ s
  refine wpAny_noted ?_
  rw [compTurn_list]
  refine wpAny_bind (wpAny_standAt (wpAny_bind (wpAny_mono (turn n s hI) (fun r s₁ h₁ => ?_) fun _ _ h' => h'.elim)))
  cases r with
  | none => exact wpAny_pure h₁
  | some v =>
    refine wpAny_bind (wpAny_mono h₁ (fun _ s₁' h₁' => wpAny_bind (wpAny_mono h₁' (fun _ s₂ h₂ => wpAny_bind (wpAny_mono h₂ (fun ok s₃ h₃ => ?_) fun _ _ h' => h'.elim)) fun _ _ h' => h'.elim)) fun _ _ h' => h'.elim)
    cases ok with
    | false => exact wpAny_pure ⟨rfl, h₃⟩
    | true =>
      exact wpAny_bind (wpAny_bind (wpAny_mono h₃ (fun x s₄ h₄ => wpAny_bind (wpAny_mono h₄ (fun _ s₅ h₅ => wpAny_pure (wpAny_pure ⟨rfl, h₅⟩)) fun _ _ h' => h'.elim)) fun _ _ h' => h'.elim))
end

/-- the context of the block -/
def compCx (X : Cx) (N' : List Str) (scope : Scope) (cl : List (Str × Addr)) (s : Shared) (H : Hp) (fp : List Addr) : Cx :=
  { X with N := N', s₀ := s, H₀ := H, env := compEnvC scope cl s.heap.objs.size X.env, outer := X.stack, stack := X.stack, ex := fp, fn := fun _ => false, pn := [], xe := fun _ _ => False }
/-- the free names of the block: where they stand in the def around it -/
inductive Frees (X : Cx) (rs : Scope) (cl : List (Str × Addr)) : List Str → List Nat → Prop where
  | nil : Frees X rs cl [] []
  | cons {y : Str} {i : Nat} {fx : List Str} {fr : List Nat} (h1 : X.N[i]? = some y) (h2 : X.env.kindOf y = some .cell) (h3 : rs.names.lookup y = some .cell) (h4 : cl.lookup y = X.env.cells.lookup y) (r : Frees X rs cl fx fr) : Frees X rs cl (y :: fx) (i :: fr)
def frV (σ : St) (fr : List Nat) : St := fr.map fun i => (σ[i]?).getD none
theorem Frees.len {X : Cx} {rs : Scope} {cl : List (Str × Addr)} {fx : List Str} {fr : List Nat} (F : Frees X rs cl fx fr) : fr.length = fx.length := by
  induction F with
  | nil => rfl
  | cons _ _ _ _ _ ih => simp [ih]
theorem Frees.at {X : Cx} {rs : Scope} {cl : List (Str × Addr)} {σ : St} : ∀ {fx : List Str} {fr : List Nat}, Frees X rs cl fx fr → ∀ (j : Nat) (y : Str) (v : V), fx[j]? = some y → (frV σ fr)[j]? = some (some v) →
    ∃ i : Nat, X.N[i]? = some y ∧ σ[i]? = some (some v) ∧ X.env.kindOf y = some .cell ∧ rs.names.lookup y = some .cell ∧ cl.lookup y = X.env.cells.lookup y
  | _, _, .nil, j, y, v, h, _ => by simp at h
  | _, _, .cons (y := z) (i := i) h1 h2 h3 h4 r, 0, y, v, h, hv => by
    simp only [List.getElem?_cons_zero, Option.some.injEq] at h
    subst h
    simp only [frV, List.map_cons, List.getElem?_cons_zero, Option.some.injEq] at hv
    refine ⟨i, h1, ?_, h2, h3, h4⟩
    cases e : σ[i]? with
    | none => rw [e] at hv; cases hv
    | some o => rw [e] at hv; exact congrArg some hv
  | _, _, .cons h1 h2 h3 h4 r, j + 1, y, v, h, hv => by
    simp only [List.getElem?_cons_succ] at h
    simp only [frV, List.map_cons, List.getElem?_cons_succ] at hv
    exact r.at j y v h hv
theorem Frees.mem {X : Cx} {rs : Scope} {cl : List (Str × Addr)} : ∀ {fx : List Str} {fr : List Nat}, Frees X rs cl fx fr → ∀ y ∈ fx, X.env.kindOf y = some .cell ∧ cl.lookup y = X.env.cells.lookup y
  | _, _, .nil, y, h => by simp at h
  | _, _, .cons h1 h2 h3 h4 r, y, h => by
    rcases List.mem_cons.mp h with rfl | h
    · exact ⟨h2, h4⟩
    · exact r.mem y h

section
variable {X : Cx} {pins : List (Addr × Obj)} {σ : St} {H1 : Hp} {s3 : Shared} {x : Str} {fx : List Str} {fr : List Nat} {scope : Scope} {cl : List (Str × Addr)} {fp : List Addr}
theorem comp_ok (I : Inv X pins σ H1 s3) (hkind : scope.kind = .function) (hcl : ∀ y c, cl.lookup y = some c → X.env.cells.lookup y = some c)
    (F : Frees X (relabel scope X.env) cl fx fr) (hfx : ((relabel scope X.env).names.all fun p => if (p.2 == .cell || p.2 == .free) then fx.contains p.1 else true) = true)
    (ffp : ∀ b ∈ fp, FpOk X pins H1 b) (flt : ∀ b ∈ fp, b < s3.heap.objs.size) : (compCx X (x :: fx) scope cl s3 H1 fp).Ok where
  mod := I.ok.mod
  kind := hkind
  glob := I.ok.glob
  blt := I.ok.blt
  above := Nat.le_refl _
  inj := fun y z c h1 h2 => I.ok.inj y z c (hcl y c h1) (hcl z c h2)
  has := fun y h => by
    have h : (relabel scope X.env).names.lookup y = some .cell ∨ (relabel scope X.env).names.lookup y = some .free := h
    have key : y ∈ fx := by
      rcases h with h | h
      · have q := List.all_eq_true.mp hfx _ (PySem.mem_of_lookup h)
        simpa using q
      · have q := List.all_eq_true.mp hfx _ (PySem.mem_of_lookup h)
        simpa using q
    obtain ⟨k1, k2⟩ := F.mem y key
    obtain ⟨c, e⟩ := I.ok.has y (.inl k1)
    exact ⟨c, k2.trans e⟩
  cab := fun y c h => by cases (show false = true from h)
  hd := I.ok.hd
  frames := I.ok.frames
  stk := .inl rfl
  exf := fun b hb => ⟨Nat.ne_of_lt (flt b hb), fun y c e => (ffp b hb).2.2.2.2.1 y c (hcl y c e)⟩
  bs := I.bs
  bsz := Nat.le_trans I.ok.bsz I.sz
  noex := fun b o e hb => by
    rcases (ffp b hb).2.2.2.1 with z | z
    · exact I.ok.noex b o e z
    · exact absurd (Nat.lt_of_lt_of_le (Heap.lt_size (I.ok.bs b o e).1) z) (Nat.lt_irrefl _)
  exfs := fun b hb z => by
    rcases List.mem_cons.mp (I.stkSub b z) with q | q
    · exact (ffp b hb).2.1 q
    · exact (ffp b hb).2.2.1 q
  funs := I.stack
  frf := I.stkFree
theorem comp_start (I : Inv X pins σ H1 s3) (hkind : scope.kind = .function) (hcl : ∀ y c, cl.lookup y = some c → X.env.cells.lookup y = some c)
    (F : Frees X (relabel scope X.env) cl fx fr) (hfx : ((relabel scope X.env).names.all fun p => if (p.2 == .cell || p.2 == .free) then fx.contains p.1 else true) = true)
    (ffp : ∀ b ∈ fp, FpOk X pins H1 b) (flt : ∀ b ∈ fp, b < s3.heap.objs.size) {h1 : Heap} {t : Nat} {m : Str → Option Value} (hn : h1.Ns s3.heap.objs.size m)
    (keep : ∀ b u, s3.heap.get? b = some u → h1.get? b = some u) : Inv (compCx X (x :: fx) scope cl s3 H1 fp) [] (none :: frV σ fr) H1 { s3 with heap := h1, toks := t } := by
  refine ⟨comp_ok I hkind hcl F hfx ffp flt, rfl, I.bare, Un.kept keep, ⟨m, hn, fun i y v e1 e2 e3 => ?_⟩, fun y c e => ?_, I.hok.fresh (Nat.le_refl _), fun y c e => I.freeC y c (hcl y c e), fun p hp => absurd (show p ∈ ([] : List (Addr × Obj)) from hp) (by simp), I.hok.kept keep, ?_⟩
  · cases i with
    | zero => simp at e2
    | succ j =>
      obtain ⟨i0, k1, k2, k3, k4, k5⟩ := F.at (σ := σ) j y v (by simpa [compCx] using e1) (by simpa using e2)
      obtain ⟨m0, hn0, hl0⟩ := I.loc
      obtain ⟨u, r, l⟩ := hl0 i0 y v k1 k2 (.inr (.inl k3))
      refine ⟨u, r, ?_⟩
      rcases l with ⟨z, _⟩ | ⟨_, c, e, o, ho, hd⟩
      · rw [k3] at z; cases z
      · exact .inr ⟨.inl k4, c, k5.trans e, o, keep c o ho, hd⟩
  · obtain ⟨v, o, ho, hd⟩ := I.cell y c (hcl y c e)
    exact ⟨v, o, keep c o ho, hd⟩
  · show (none :: frV σ fr).length = (x :: fx).length
    simp [frV, F.len]
theorem comp_done {N' : List Str} {pins' : List (Addr × Obj)} {σ' : St} {H2 : Hp} {s' : Shared} {h' : Heap} (I : Inv X pins σ H1 s3) (J : Inv (compCx X N' scope cl s3 H1 fp) pins' σ' H2 s') (ffp : ∀ b ∈ fp, FpOk X pins H1 b)
    (sb : Heap.SameBut s3.heap.objs.size s'.heap h') : Inv X pins σ H2 { s' with heap := h' } := by
  have k : ∀ b u, b ≠ s3.heap.objs.size → s'.heap.get? b = some u → h'.get? b = some u := fun b u hb e => sb.extBut b u hb e
  have lt : ∀ b u, s3.heap.get? b = some u → b ≠ s3.heap.objs.size := fun b u e => Nat.ne_of_lt (Heap.lt_size e)
  have u : Un (frs X.stack) fp H1 H2 s3.heap s'.heap := J.base
  have u' : Un (frs X.stack) fp H1 H2 s3.heap h' :=
    ⟨fun b o q n hb hx => k b o (lt b o q) (u.keep b o q n hb hx), fun b o q n hb hx => by
        obtain ⟨sl, e⟩ := u.slot b o q n hb hx
        exact ⟨sl, k b _ (lt b o q) e⟩, u.free, fun b o q hx => by
        obtain ⟨o', e⟩ := u.there b o q hx
        exact ⟨o', k b _ (lt b o q) e⟩, u.tups, u.frzs, u.tbls⟩
  have nC : H2 s3.heap.objs.size = none := J.free
  have hok : HOk X.prog X.w H2 h' := fun b uo e => by
    refine (J.hok b uo e).stay (fun c v hc q => k c v ?_ q) (fun _ q => q) fun _ _ q => q
    rintro rfl
    rcases hc with z | z
    · rw [← z, nC] at e; cases e
    · rw [nC] at z; cases z
  have os : s'.os = s3.os := J.os
  have bare := J.bare
  obtain ⟨hh, g, d, t, os'⟩ := s'
  obtain rfl : os' = s3.os := os
  have fin := I.call (h' := h') (g' := g) (d' := d) (t' := t) (ch := fp) u' hok bare fun b hb => by
    obtain ⟨f0, f1, f2, f3, f4, f5⟩ := ffp b hb
    exact ⟨f3, f1, f4, f5⟩
  exact fin
end

/-- the tests behind a for -/
def PF (X : Cx) (ifs : List Expr) (t : TT) : Prop :=
  ∀ (pins : List (Addr × Obj)) (s : Shared) (σ : St) (H : Hp) (Q : Bool → Hp → Prop), Inv X pins σ H s → t σ H Q →
    wpAny (model X.prog X.w) X.A (forIn ifs true fun c r => if r = true then do let ok ← isTrue c X.env (eval c X.env); pure (ForInStep.yield ok) else pure (ForInStep.yield r)) (TP X pins σ Q) X.xe s
def tYes : TT := fun _ H Q => Q true H
theorem pf_nil {X : Cx} : PF X [] tYes := fun _ _ _ H _ I h => wpAny_tests_nil ⟨H, I, h⟩
theorem pf_one {X : Cx} {c : Expr} {t : TT} (h : PT X c t) : PF X [c] t := fun pins s σ H Q I q => wpAny_tests_one (h pins s σ H Q I q)

/-- the walk of a comprehension: J what is walked, p the list that is made, fv the free names' values -/
def CompI (J : It) (p : Addr) (fv : St) (tt : TT) (te : TE) (Q : VK) (H1 : Hp) : Prop :=
  ∃ W : Nat → Nat → List V → Hp → Prop, (∃ m, W 0 m [] (upd H1 p (.lst []))) ∧ ∀ i m ys H2, W i m ys H2 → H2 p = some (.lst ys) ∧
    ((J.stop i H2 ∧ Q (.ref p) H2) ∨ (J.go i H2 ∧ ys.length < sizeLine ∧ ∀ x H3, J.yld i H2 x H3 → tt (some x :: fv) H3 fun b H4 =>
      if b = true then te (some x :: fv) H4 fun y H5 => H5 p = some (.lst ys) ∧ ∃ m', m' < m ∧ W (i + 1) m' (ys ++ [y]) (upd H5 p (.lst (ys ++ [y])))
      else ∃ m', m' < m ∧ W (i + 1) m' ys H4))
def tComp (wi : TI) (fr : List Nat) (tt : TT) (te : TE) : TE := fun σ H Q => wi σ H fun J H1 => ∀ p, H1 p = none → CompI J p (frV σ fr) tt te Q H1

section
variable {X : Cx} {elt iter : Expr} {x : Str} {px pos : Pos} {ifs : List Expr} {scope : Scope} {cl : List (Str × Addr)} {fx : List Str} {fr : List Nat} {wi : TI} {tt : TT} {te : TE}
theorem comp_block {pins : List (Addr × Obj)} {σ : St} {H3 : Hp} {s3 : Shared} {it p : Addr} {fp : List Addr} {tn : Nat → Heap → Prop} {J : It} {Q : VK} {W : Nat → Nat → List V → Hp → Prop} {m0 t : Nat} {h₁ : Heap} {m : Str → Option Value} {RR : Result → Shared → Prop}
    (hc : X.calm = true) (hkind : scope.kind = .function) (hx : scope.names.lookup x = some .local) (hnd : (x :: fx).Nodup)
    (hcl : ∀ y c, cl.lookup y = some c → X.env.cells.lookup y = some c) (F : Frees X (relabel scope X.env) cl fx fr)
    (hfx : ((relabel scope X.env).names.all fun p => if (p.2 == .cell || p.2 == .free) then fx.contains p.1 else true) = true)
    (ht : ∀ s H fp, PF (compCx X (x :: fx) scope cl s H fp) ifs tt) (he : ∀ s H fp, PE (compCx X (x :: fx) scope cl s H fp) elt te)
    (I3 : Inv X pins σ H3 s3) (T : Turn X.prog X.w X.K (.Name x px) J fp it tn) (st3 : tn 0 s3.heap) (ffp : ∀ b ∈ fp, FpOk X pins H3 b) (flt3 : ∀ b ∈ fp, b < s3.heap.objs.size)
    (w0 : W 0 m0 [] H3) (turn : ∀ i m ys H2, W i m ys H2 → H2 p = some (.lst ys) ∧
      ((J.stop i H2 ∧ Q (.ref p) H2) ∨ (J.go i H2 ∧ ys.length < sizeLine ∧ ∀ x H3, J.yld i H2 x H3 → tt (some x :: frV σ fr) H3 fun b H4 =>
        if b = true then te (some x :: frV σ fr) H4 fun y H5 => H5 p = some (.lst ys) ∧ ∃ m', m' < m ∧ W (i + 1) m' (ys ++ [y]) (upd H5 p (.lst (ys ++ [y])))
        else ∃ m', m' < m ∧ W (i + 1) m' ys H4)))
    (hns : h₁.Ns s3.heap.objs.size m) (keep1 : ∀ b u, s3.heap.get? b = some u → h₁.get? b = some u)
    (fin : ∀ s6 H5 o, Inv (compCx X (x :: fx) scope cl s3 H3 fp) [] (o :: frV σ fr) H5 s6 → Q (.ref p) H5 → RR (.ok .next) s6) :
    codeAny (model X.prog X.w) X.A (.compStart (.ListComp elt [⟨.Name x px, iter, ifs, 0⟩] scope pos) 0 (.ref it) (.ref p) (compEnvC scope cl s3.heap.objs.size X.env))
      RR { s3 with heap := h₁, toks := t } := by
  have I4 := comp_start (x := x) (t := t) I3 hkind hcl F hfx ffp flt3 hns keep1
  have st4 : tn 0 h₁ := T.keep _ _ _ st3 fun b hb o e => keep1 b o e
  have fp0 : ∀ b ∈ fp, H3 b = none := fun b hb => (ffp b hb).1
  have hcal : (compCx X (x :: fx) scope cl s3 H3 fp).calm = true := hc
  have stat : ∀ {H' : Hp}, (∀ b ∈ fp, H' b = none) → ∀ b ∈ fp, FpOk (compCx X (x :: fx) scope cl s3 H3 fp) [] H' b := fun {H'} hn b hb => by
    obtain ⟨f0, f1, f2, f3, f4, f5⟩ := ffp b hb
    exact ⟨hn b hb, Nat.ne_of_lt (flt3 b hb), I4.ok.exfs b hb, .inl hb, fun y c e => f4 y c (hcl y c e), fun q hq => absurd (show q ∈ ([] : List (Addr × Obj)) from hq) (by simp)⟩
  have hxl : (relabel scope X.env).names.lookup x = some .local := lookup_relabel_local hx
  have pg : PG (compCx X (x :: fx) scope cl s3 H3 fp) (.Name x px) (gName 0) := pg_name (i := 0) hnd rfl (.inl hxl) (.inr hxl)
  have loop : codeAny (model X.prog X.w) X.A (.compLoop (.ListComp elt [⟨.Name x px, iter, ifs, 0⟩] scope pos) 0 (.ref it) (.ref p) (compEnvC scope cl s3.heap.objs.size X.env))
        RR { s3 with heap := h₁, toks := t } := by
    refine compLoop_any (fun n s' => ∃ i ys H' o, Inv (compCx X (x :: fx) scope cl s3 H3 fp) [] (o :: frV σ fr) H' s' ∧ tn i s'.heap ∧ (∀ b ∈ fp, H' b = none) ∧ W i n ys H') ?_ m0 ⟨0, [], _, none, I4, st4, fp0, w0⟩
    rintro n s5 ⟨i, ys, H5, o, I5, st5, fr5, w5⟩
    obtain ⟨hp5, alt⟩ := turn i n ys H5 w5
    rcases alt with ⟨stop, qn⟩ | ⟨go, hlen, step⟩
    · refine thn (T.done (compCx X (x :: fx) scope cl s3 H3 fp) rfl rfl rfl hcal i [] s5 (o :: frV σ fr) H5 _ I5 (stat fr5) st5 stop) fun r s6 ⟨hr, I6⟩ => ?_
      subst hr
      exact fin s6 H5 o I6 qn
    · refine thn (T.item (compCx X (x :: fx) scope cl s3 H3 fp) rfl rfl rfl hcal i [] s5 (o :: frV σ fr) H5 _ I5 (stat fr5) st5 go) fun r s6 ⟨u, hr, h6⟩ => ?_
      subst hr
      refine thn h6 fun _ s7 ⟨y7, H7, I7, r7, yl7, st7, fr7⟩ => ?_
      have I7' := I7.pinned (stat fr7) (T.obj _ _ st7)
      have back : ∀ {σ' : St} {H' : Hp} {s' : Shared}, Inv (compCx X (x :: fx) scope cl s3 H3 fp) ([] ++ pinsAt fp s7.heap) σ' H' s' → tn (i + 1) s'.heap ∧ ∀ b ∈ fp, H' b = none := fun {σ' H' s'} I' => by
        refine ⟨T.keep _ _ _ st7 fun b hb o e => (I'.pin (b, o) (List.mem_append_right _ (List.mem_append_right _ (mem_pinsAt hb e)))).1, fun b hb => ?_⟩
        obtain ⟨o, e, d⟩ := T.obj _ _ st7 b hb
        exact (I'.pin (b, o) (List.mem_append_right _ (List.mem_append_right _ (mem_pinsAt hb e)))).2.1
      refine thn (pg _ s7 _ H7 y7 u (fun σ' H' => σ' = some y7 :: frV σ fr ∧ H' = H7) I7' r7 ⟨rfl, rfl⟩) fun _ s8 ⟨σ8, H8, I8, e8, e8'⟩ => ?_
      subst e8 e8'
      refine thn (ht s3 H3 fp _ s8 _ _ _ I8 (step y7 _ yl7)) fun b s9 ⟨H9, I9, q9⟩ => ?_
      cases b with
      | false =>
        rw [if_neg Bool.false_ne_true] at q9 ⊢
        obtain ⟨m', hm, w9⟩ := q9
        exact ⟨m', hm, i + 1, ys, H9, some y7, I9.unpinned, (back I9).1, (back I9).2, w9⟩
      | true =>
        rw [if_pos rfl] at q9 ⊢
        refine thn (he s3 H3 fp _ s9 _ H9 _ I9 q9) fun u10 s10 ⟨y10, H10, I10, r10, hp10, m', hm, w10⟩ => ?_
        refine thn (mt_append _ s10 _ H10 (.ref p) [y10] (.ref p) [u10] (fun _ H' => H' = upd H10 p (.lst (ys ++ [y10]))) I10 rfl (.cons r10 .nil) ⟨p, ys, y10, rfl, rfl, hp10, hlen, rfl⟩) fun _ s11 ⟨_, H11, I11, _, e11⟩ => ?_
        subst e11
        exact ⟨m', hm, i + 1, ys ++ [y10], _, some y7, I11.unpinned, (back I11).1, (back I11).2, w10⟩
  exact codeAny_compStart_list loop (T.self _ 0 _ _ _ st4 loop)
theorem pe_comp (hc : X.calm = true) (hclos : closureFor scope X.env = pure cl) (hcell : ∀ y ∈ scope.names, y.2 ≠ .cell) (hkind : scope.kind = .function)
    (hnames : ∀ y ∈ scope.names, y.2 = .local → scope.names.lookup y.1 = some .local) (hx : scope.names.lookup x = some .local) (hnd : (x :: fx).Nodup)
    (hk : (cl.all fun q => fx.contains q.1) = true) (F : Frees X (relabel scope X.env) cl fx fr)
    (hfx : ((relabel scope X.env).names.all fun p => if (p.2 == .cell || p.2 == .free) then fx.contains p.1 else true) = true)
    (hi : PI X (.Name x px) iter wi) (ht : ∀ s H fp, PF (compCx X (x :: fx) scope cl s H fp) ifs tt) (he : ∀ s H fp, PE (compCx X (x :: fx) scope cl s H fp) elt te)
    (hs : ∀ x, foldedSetIterable iter X.env x = pure x := by intro _; rfl) :
    PE X (.ListComp elt [⟨.Name x px, iter, ifs, 0⟩] scope pos) (tComp wi fr tt te) := by
  intro pins s σ H Q I h
  have hcl : ∀ y c, cl.lookup y = some c → X.env.cells.lookup y = some c := fun y c e => by
    have q := List.all_eq_true.mp hk _ (PySem.mem_of_lookup e)
    rw [← (F.mem y (by simpa using q)).2]
    exact e
  rw [eval_ListComp]
  refine wpAny_comprehension_free (use := none) rfl hs hclos hkind hnames ?_
  refine thn (hi pins s σ H _ I h) fun v s1 h1 => thn h1 fun itv s2 h2 => ?_
  obtain ⟨it, fp, tn, J, H2, e, I2, T, st2, f2, q2⟩ := h2
  subst e
  have hp0 : H2 s2.heap.objs.size = none := I2.hok.fresh (Nat.le_refl _)
  obtain ⟨W, ⟨m0, w0⟩, turn⟩ := q2 _ hp0
  have flt : ∀ b ∈ fp, b < s2.heap.objs.size := fun b hb => by
    obtain ⟨o, e, _⟩ := T.obj _ _ st2 b hb
    exact Heap.lt_size e
  refine wpAny_newObj_type (wpAny_newFunctionEnv hcell (by intro y hy; simp at hy) (fun h₁ hns₁ hsb₁ => ?_) hkind)
  dsimp only at hns₁ hsb₁ ⊢
  have hlay : ∀ b u, s2.heap.get? b = some u → (s2.heap.push { cls := .type "list", dict := none, data := .seq ([] : List Value).toArray }).get? b = some u := fun b u e => Heap.get?_push_of_some _ e
  have hnew : (s2.heap.push { cls := .type "list", dict := none, data := .seq ([] : List Value).toArray }).get? s2.heap.objs.size = some { cls := .type "list", dict := none, data := .seq ([] : List Value).toArray } := Heap.get?_push_size _ rfl
  have hsz : (s2.heap.push { cls := .type "list", dict := none, data := .seq ([] : List Value).toArray }).objs.size = s2.heap.objs.size + 1 := Heap.size_push _ _
  generalize hHH : s2.heap.push { cls := .type "list", dict := none, data := .seq ([] : List Value).toArray } = HH at hns₁ hsb₁ hlay hnew hsz ⊢
  have I3 : Inv X pins σ (upd H2 s2.heap.objs.size (.lst [])) { s2 with heap := HH, toks := s2.toks } :=
    I2.laid (t' := s2.toks) (o := .lst []) hlay (Nat.le_refl _) ⟨Nat.zero_le _, [], 0, .nil, hnew⟩
  have ffp : ∀ b ∈ fp, FpOk X pins (upd H2 s2.heap.objs.size (.lst [])) b := fun b hb => by
    obtain ⟨f0, fr'⟩ := f2 b hb
    exact ⟨by rw [upd_ne (Nat.ne_of_lt (flt b hb))]; exact f0, fr'⟩
  have keep1 : ∀ b u, HH.get? b = some u → h₁.get? b = some u := fun b u e => hsb₁.extBut b u (Nat.ne_of_lt (Heap.lt_size e)) (Heap.get?_push_of_some _ e)
  exact comp_block (s3 := { s2 with heap := HH, toks := s2.toks }) hc hkind hx hnd hcl F hfx ht he I3 T (T.keep _ _ _ st2 fun b hb o e => hlay b o e) ffp (fun b hb => by show b < HH.objs.size; rw [hsz]; exact Nat.lt_succ_of_lt (flt b hb)) w0 turn hns₁ keep1 fun s6 H5 o I6 qn => by
    obtain ⟨m, hn6, _⟩ := id I6.loc
    exact ⟨m, hn6, fun h' sb => ⟨.ref _, H5, comp_done I3 I6 ffp sb, rfl, qn⟩⟩
end

/-! ### the forms one uses -/
section
variable {p : Addr} {fv : St} {te : TE} {Q : VK} {H1 : Hp}
/-- over a list, no test -/
theorem comp_list {K : PySem.W.Frag} {a : Addr} {xs : List V} (hxs : SqL K H1 a xs) (hlen : xs.length ≤ sizeLine) (hp : H1 p = none) (f : V → V)
    (he : ∀ x, x ∈ xs → ∀ (H' : Hp) (R : VK), Same H1 H' → (∀ H'', Same H' H'' → R (f x) H'') → te (some x :: fv) H' R)
    (hQ : ∀ H', Same H1 H' → H' p = some (.lst (xs.map f)) → Q (.ref p) H') : CompI (Itl K a) p fv tYes te Q H1 := by
  refine ⟨fun i m ys H2 => m = xs.length - i ∧ i ≤ xs.length ∧ ys = (xs.take i).map f ∧ H2 p = some (.lst ys) ∧ Same H1 H2, ⟨xs.length, by simp, Nat.zero_le _, by simp, upd_same, fun b o e => by rw [upd_ne (ne_of_none e hp)]; exact e⟩, ?_⟩
  rintro i m ys H2 ⟨rfl, hi, rfl, hp2, sm⟩
  refine ⟨hp2, ?_⟩
  have q := sm.seq hxs
  by_cases hlt : i < xs.length
  · refine .inr ⟨⟨xs, xs[i], q, by simp [hlt]⟩, ?_, fun x H3 y => ?_⟩
    · rw [List.length_map, List.length_take]; omega
    · obtain ⟨rfl, y⟩ := y
      have hc := y xs q
      unfold tYes
      dsimp only
      rw [if_pos rfl]
      refine he x (List.mem_of_getElem? hc) _ _ sm fun H5 s5 => ⟨s5 _ _ hp2, xs.length - (i + 1), by omega, rfl, hlt, ?_, upd_same, fun b o e => ?_⟩
      · rw [List.take_add_one, hc, List.map_append]; rfl
      · rw [upd_ne (ne_of_none e hp)]; exact s5 _ _ (sm _ _ e)
  · have e : i = xs.length := by omega
    subst e
    refine .inl ⟨⟨xs, q, Nat.le_refl _⟩, hQ H2 sm ?_⟩
    rw [hp2, List.take_length]
end
section
variable {σ : St} {H : Hp} {Q : VK} {K : PySem.W.Frag} {tl te : TE} {tt : TT} {fr : List Nat}
theorem frV_nil : frV σ [] = [] := rfl
theorem frV_cons {i : Nat} {r : List Nat} : frV σ (i :: r) = (σ[i]?).getD none :: frV σ r := rfl
theorem jo_ref {z : Str} {p : Addr} : rJoin K (.str z) [.ref p] H Q ↔ ∃ ys : List Str, SqL K H p (ys.map V.str) ∧ (ys.map (·.length)).sum + ys.length * z.length ≤ 16777216 ∧ Q (.str (Txt.join z ys)) H := by
  constructor
  · rintro ⟨z', p', ys, h1, h2, h3⟩
    cases h1; cases h2
    exact ⟨ys, h3⟩
  · rintro ⟨ys, h⟩
    exact ⟨z, p, ys, rfl, rfl, h⟩
theorem rd_compS : tComp (iStr tl) fr tt te σ H Q ↔ tl σ H fun x H1 => ∃ z, x = .str z ∧ ∀ p, H1 p = none → CompI (Its z) p (frV σ fr) tt te Q H1 := Iff.rfl
theorem rd_compL : tComp (iList K tl) fr tt te σ H Q ↔ tl σ H fun x H1 => ∃ a, x = .ref a ∧ (∃ xs, SqL K H1 a xs) ∧ ∀ p, H1 p = none → CompI (Itl K a) p (frV σ fr) tt te Q H1 := Iff.rfl
end

/-! ### the rules again, the written part named -/
section
variable {X : Cx} {K : PySem.W.Frag}
theorem op_addK (h : X.K = K) : OpR X (binaryOp .Add) (rAddU K) := by subst h; exact op_addU
theorem ix_seqK (h : X.K = K) : IxR X (rIx K) := by subst h; exact ix_seq
theorem sl_anyK (h : X.K = K) : SlR X (rSl K) := by subst h; exact sl_any
theorem call_lenK (h : X.K = K) : CallR X (.builtin "len") (rLenU K) := by subst h; exact call_lenU
theorem pi_listK {tg l : Expr} {tl : TE} (h : X.K = K) (hl : PE X l tl) : PI X tg l (iList K tl) := by subst h; exact pi_list hl
variable {o e : Expr} {es : List Expr} {to : TE} {t : TA} {name : Str} {apos cpos : Pos} {T id : String} {r : V → List V → Hp → VK → Prop}
theorem pe_bm0K (h : X.K = K) (pa : PlainAttrs T) (slot : Slot T name id) (hty : typeOf (.builtin id) = pure (.type "method_descriptor")) (hm : MtR X id r) (ho : PE X o to)
    (hbase : attributeBase o name X.env (eval o X.env) = eval o X.env := by rfl) (hline : (apos.endLine == cpos.line) = true := by rfl) : PE X (.Call (.Attribute o name apos) [] [] cpos) (tBM0 K T r to) := by
  subst h; exact pe_bm0 pa slot hty hm ho hbase hline
theorem pe_bmK (h : X.K = K) (pa : PlainAttrs T) (slot : Slot T name id) (hty : typeOf (.builtin id) = pure (.type "method_descriptor")) (hm : MtR X id r) (ho : PE X o to) (ha : PA X (e :: es) t)
    (hbase : attributeBase o name X.env (eval o X.env) = eval o X.env := by rfl)
    (hfew : ((backTo cpos (starEach (e :: es) X.env)).all (fun x => !x.1) && (backToKw cpos (keywordEach [] X.env)).all (fun x => x.1.isSome)
      && decide ((e :: es).length + ([] : List Keyword).length + (if ([] : List Keyword).isEmpty then 0 else 1) < 30)) = true := by rfl)
    (hline : (apos.endLine == cpos.line) = true := by rfl) (hs : starEach (e :: es) X.env = (false, eval e X.env) :: starEach es X.env := by rfl) (hplain : (backTo cpos (starEach es X.env)).any (·.1) = false := by rfl) :
    PE X (.Call (.Attribute o name apos) (e :: es) [] cpos) (tBM K T r to t) := by
  subst h; exact pe_bm pa slot hty hm ho ha hbase hfew hline hs hplain
end

/-! ### defs with a default -/
structure FunD (K : PySem.W.Frag) (x qual : Str) (st : Stmt) (f : Addr) (fd : FuncData) (T : Addr) : Prop where
  ex : ∃ (oc : Value) (od : Option Addr) (kV doc pm : Value) (an : Option Addr) (cdv ct : Value) (osl : Array (Option Value)),
    fd = PySem.W.fnOf x qual (defArgs st) (defBody st) (defScope st) (.ref T) kV doc pm an cdv ct ∧ K.lookup f = some ⟨oc, od, .func fd, osl⟩ ∧ PySem.W.codeIn K cdv qual = true
  kp : PySem.W.keepIn K (.ref f) = true
section
variable {P : Program} {w : World} {K : PySem.W.Frag} {mg : Str → Option Value} {base : Heap}
theorem FunD.ok {x qual : Str} {st : Stmt} {f T : Addr} {fd : FuncData} {N ps : List Str} {k : Nat} {sp : Sp} (F : FunD K x qual st f fd T) (S : FnScope N ps (defScope st)) (len : ∀ vs H Q E, sp vs H Q E → vs.length = ps.length)
    (hbody : ∀ (cdv : Value) (A : Around) (outer : List Env) (s : Shared) (H : Hp) (vs : List V) (Q : VK) (E : XK), Room k (A.deeper (envOfC qual (defScope st) s.heap.objs.size f cdv)) → sp vs H Q E →
      ∃ t, PSs (cxOf CX0 P w K mg base N qual (defScope st) f cdv A outer s H E).nox (defBody st) t ∧ t { nx := fun _ H' => Q .non H', rt := Q } (start N vs) H) : FnOk P w K mg base CX0 (k + 1) f fd ps sp := by
  obtain ⟨oc, od, kV, doc, pm, an, cdv, ct, osl, rfl, lk, hcd⟩ := F.ex
  refine fn_of lk hcd S len fun A outer s H vs Q E hr hsp => ?_
  obtain ⟨t, h, q⟩ := hbody cdv A outer s H vs Q E hr hsp
  exact ⟨t, h.nox, q⟩
theorem FunD.binds {x qual : Str} {st : Stmt} {f T : Addr} {fd : FuncData} {ps : List Str} {ds : List Value} {oc : Value} {od : Option Addr} {items : Array Value} {n : Nat} {sl : Array (Option Value)} (F : FunD K x qual st f fd T) (hT : K.lookup T = some ⟨oc, od, .seq items n, sl⟩)
    (h : ∀ (kV doc pm : Value) (an : Option Addr) (cdv ct : Value) (us : List Value), (us ++ ds).length = ps.length → ∃ k : Option (Array Value) → Sem (List (Str × Value)),
      bindArgs (PySem.W.fnOf x qual (defArgs st) (defBody st) (defScope st) (.ref T) kV doc pm an cdv ct) ⟨us, []⟩ = seqItems? (.ref T) >>= k ∧ k (some items) = pure (ps.zip (us ++ ds))) : Binds K fd ps ds := by
  obtain ⟨oc', od', kV, doc, pm, an, cdv, ct, osl, rfl, lk, hcd⟩ := F.ex
  intro s us X hl
  obtain ⟨k, h1, h2⟩ := h kV doc pm an cdv ct us hl
  exact BindsTo.of_defaults (T := T) rfl (X T _ hT) rfl h1 h2
end
/-! ### while, by a word with its measure -/
theorem while_W {c : TT} {tb : TS} {D : Ends} {σ : St} {H : Hp} (W : Nat → St → Hp → Prop) (m0 : Nat) (h0 : W m0 σ H)
    (hs : ∀ m σ H, W m σ H → c σ H fun b H1 => if b = true then ∃ N : St → Hp → Prop, (∀ σ' H', N σ' H' → ∃ m', m' < m ∧ W m' σ' H') ∧ tb { D with nx := N, ct := N, bk := D.nx } σ H1 else D.nx σ H1) : tWhile c tb D σ H := ⟨W, ⟨m0, h0⟩, hs⟩
section
variable {σ : St} {H : Hp} {Q : VK}
theorem rd_un {r : V → Hp → VK → Prop} {ta : TE} : tUn r ta σ H Q ↔ ta σ H fun x H1 => r x H1 Q := Iff.rfl
theorem rd_U {g : Int → V} {i : Int} : rU g (.int i) H Q ↔ Q (g i) H := ⟨fun ⟨_, h1, h2⟩ => by cases h1; exact h2, fun h => ⟨i, rfl, h⟩⟩
theorem ap_ref {l : Addr} {y : V} : rAppend (.ref l) [y] H Q ↔ ∃ xs, H l = some (.lst xs) ∧ xs.length < sizeLine ∧ Q .non (upd H l (.lst (xs ++ [y]))) := by
  constructor
  · rintro ⟨l', xs, y', h1, h2, h3⟩
    cases h1; cases h2
    exact ⟨xs, h3⟩
  · rintro ⟨xs, h⟩
    exact ⟨l, xs, y, rfl, rfl, h⟩
theorem ty_list {K : PySem.W.Frag} {p : Addr} : tyV K "list" (.ref p) H ↔ ∃ xs, SqL K H p xs := by
  constructor
  · rintro (⟨_, h⟩ | ⟨h, _⟩ | ⟨h, _⟩ | ⟨h, _⟩)
    · exact h
    · exact absurd h (by decide)
    · exact absurd h (by decide)
    · exact absurd h (by decide)
  · intro h; exact .inl ⟨rfl, h⟩
end
end L2
/-! PLAIN DATA over the hand layer: what a value is, whole, as a tree; deep comparisons. -/
namespace L2
open PySem PySem.Spec PyProof.Rows
mutual
inductive Is (H : Hp) : PyData → V → Prop
  | non : Is H .none .non
  | bl (b : Bool) : Is H (.bool b) (.bl b)
  | int (i : Int) : Is H (.int i) (.int i)
  | str (x : Str) : Is H (.str x) (.str x)
  | lst {p : Addr} {xs : List V} {ds : List PyData} : H p = some (.lst xs) → IsAll H ds xs → Is H (.list ds) (.ref p)
  | tup {p : Addr} {xs : List V} {ds : List PyData} : H p = some (.tup xs) → IsAll H ds xs → Is H (.tuple ds) (.ref p)
inductive IsAll (H : Hp) : List PyData → List V → Prop
  | nil : IsAll H [] []
  | cons {d : PyData} {x : V} {ds : List PyData} {xs : List V} : Is H d x → IsAll H ds xs → IsAll H (d :: ds) (x :: xs)
end
mutual
theorem Is.mono {H H' : Hp} (sm : Same H H') : ∀ {d : PyData} {x : V}, Is H d x → Is H' d x
  | _, _, .non => .non
  | _, _, .bl b => .bl b
  | _, _, .int i => .int i
  | _, _, .str x => .str x
  | _, _, .lst h r => .lst (sm _ _ h) (IsAll.mono sm r)
  | _, _, .tup h r => .tup (sm _ _ h) (IsAll.mono sm r)
theorem IsAll.mono {H H' : Hp} (sm : Same H H') : ∀ {ds : List PyData} {xs : List V}, IsAll H ds xs → IsAll H' ds xs
  | _, _, .nil => .nil
  | _, _, .cons h r => .cons (Is.mono sm h) (IsAll.mono sm r)
end
theorem IsAll.length {H : Hp} : ∀ {ds : List PyData} {xs : List V}, IsAll H ds xs → ds.length = xs.length
  | _, _, .nil => rfl
  | _, _, .cons _ r => by rw [List.length_cons, List.length_cons, IsAll.length r]
theorem IsAll.append {H : Hp} : ∀ {ds es : List PyData} {xs ys : List V}, IsAll H ds xs → IsAll H es ys → IsAll H (ds ++ es) (xs ++ ys)
  | _, _, _, _, .nil, r => r
  | _, _, _, _, .cons h t, r => .cons h (t.append r)
theorem IsAll.at {H : Hp} : ∀ {ds : List PyData} {xs : List V}, IsAll H ds xs → ∀ (i : Nat) (x : V), xs[i]? = some x → ∃ d, ds[i]? = some d ∧ Is H d x
  | _, _, .nil, i, x, h => by simp at h
  | _, _, .cons q r, 0, x, h => by simp at h; subst h; exact ⟨_, rfl, q⟩
  | _, _, .cons q r, i + 1, x, h => by
    obtain ⟨d, h1, h2⟩ := r.at i x (by simpa using h)
    exact ⟨d, by simpa using h1, h2⟩
theorem IsAll.take {H : Hp} : ∀ {ds : List PyData} {xs : List V} (n : Nat), IsAll H ds xs → IsAll H (ds.take n) (xs.take n)
  | _, _, 0, _ => .nil
  | _, _, _ + 1, .nil => .nil
  | _, _, n + 1, .cons r t => .cons r (t.take n)
theorem IsAll.drop {H : Hp} : ∀ {ds : List PyData} {xs : List V} (n : Nat), IsAll H ds xs → IsAll H (ds.drop n) (xs.drop n)
  | _, _, 0, r => r
  | _, _, _ + 1, .nil => .nil
  | _, _, n + 1, .cons _ t => t.drop n
theorem IsAll.set {H : Hp} {d : PyData} {x : V} (h : Is H d x) : ∀ {ds : List PyData} {xs : List V} (n : Nat), IsAll H ds xs → IsAll H (ds.set n d) (xs.set n x)
  | _, _, _, .nil => .nil
  | _, _, 0, .cons _ t => .cons h t
  | _, _, n + 1, .cons r t => .cons r (t.set h n)
theorem IsAll.strs {H : Hp} : ∀ (l : List Str), IsAll H (l.map PyData.str) (l.map V.str)
  | [] => .nil
  | x :: r => .cons (.str x) (IsAll.strs r)
section
variable {X : Cx} {pins : List (Addr × Obj)} {σ : St} {H : Hp} {s : Shared}
mutual
theorem Is.reads (I : Inv X pins σ H s) : ∀ {d : PyData} {x : V} {v : Value}, Is H d x → RelV x v → ∃ as, Reads s.heap v d as
  | _, _, _, .non, r => by cases r; exact ⟨_, .none⟩
  | _, _, _, .bl b, r => by cases r; exact ⟨_, .bool b⟩
  | _, _, _, .int i, r => by obtain ⟨t, rfl⟩ := r; exact ⟨_, .int i t⟩
  | _, _, _, .str x, r => by obtain ⟨t, rfl⟩ := r; exact ⟨_, .str x t⟩
  | _, _, _, .lst h q, r => by
    cases r
    obtain ⟨its, vs, ⟨o, n, e, c, _, dt⟩, _⟩ := I.list (SqL.of h)
    obtain ⟨as, ra⟩ := IsAll.reads I q vs
    exact ⟨_, .list e c dt (by simpa using ra)⟩
  | _, _, _, .tup h q, r => by
    cases r
    obtain ⟨its, vs, ⟨o, e, c, n, dt⟩, _⟩ := I.tuple (SqT.of h)
    obtain ⟨as, ra⟩ := IsAll.reads I q vs
    exact ⟨_, .tuple e c dt (by simpa using ra)⟩
theorem IsAll.reads (I : Inv X pins σ H s) : ∀ {ds : List PyData} {xs : List V} {vs : List Value}, IsAll H ds xs → Vals xs vs → ∃ as, ReadsAll s.heap vs ds as
  | _, _, _, .nil, r => by cases r; exact ⟨_, .nil⟩
  | _, _, _, .cons q t, r => by
    cases r with
    | cons r1 r2 =>
      obtain ⟨as, h1⟩ := Is.reads I q r1
      obtain ⟨bs, h2⟩ := IsAll.reads I t r2
      exact ⟨_, .cons h1 h2⟩
end
def rEqD : R2 := fun x y H Q => ∃ d e, Is H d x ∧ Is H e y ∧ SeqAt.shaped d = true ∧ SeqAt.shaped e = true ∧ Q (.bl (PyData.eqv d e)) H
def rNeD : R2 := fun x y H Q => ∃ d e, Is H d x ∧ Is H e y ∧ SeqAt.shaped d = true ∧ SeqAt.shaped e = true ∧ Q (.bl (!PyData.eqv d e)) H
theorem op_eqD (hu : X.A.units + 64 < cLine) : OpR X (compareOp .Eq) rEqD := by
  intro pins s σ H x y v u Q I rx ry h
  obtain ⟨d, e, hx, hy, sx, sy, q⟩ := h
  obtain ⟨as, ra⟩ := hx.reads I rx
  obtain ⟨bs, rb⟩ := hy.reads I ry
  exact eq_dataH ra rb sx sy hu ⟨.bl _, H, I, rfl, q⟩
theorem op_neD (hu : X.A.units + 64 < cLine) : OpR X (compareOp .NotEq) rNeD := by
  intro pins s σ H x y v u Q I rx ry h
  obtain ⟨d, e, hx, hy, sx, sy, q⟩ := h
  obtain ⟨as, ra⟩ := hx.reads I rx
  obtain ⟨bs, rb⟩ := hy.reads I ry
  exact ne_dataH ra rb sx sy hu ⟨.bl _, H, I, rfl, q⟩
end
/-! ### data of tuples and scalars: no change of a list changes it -/
mutual
inductive IsT (H : Hp) : PyData → V → Prop
  | non : IsT H .none .non
  | bl (b : Bool) : IsT H (.bool b) (.bl b)
  | int (i : Int) : IsT H (.int i) (.int i)
  | str (x : Str) : IsT H (.str x) (.str x)
  | tup {p : Addr} {xs : List V} {ds : List PyData} : H p = some (.tup xs) → IsTAll H ds xs → IsT H (.tuple ds) (.ref p)
inductive IsTAll (H : Hp) : List PyData → List V → Prop
  | nil : IsTAll H [] []
  | cons {d : PyData} {x : V} {ds : List PyData} {xs : List V} : IsT H d x → IsTAll H ds xs → IsTAll H (d :: ds) (x :: xs)
end
def SameT (H H' : Hp) : Prop := ∀ b xs, H b = some (.tup xs) → H' b = some (.tup xs)
theorem Same.toT {H H' : Hp} (h : Same H H') : SameT H H' := fun b xs e => h b _ e
theorem SameT.refl (H : Hp) : SameT H H := fun _ _ e => e
theorem SameT.trans {H H' H'' : Hp} (h : SameT H H') (h' : SameT H' H'') : SameT H H'' := fun b xs e => h' b xs (h b xs e)
theorem sameT_lst {H : Hp} {p : Addr} {xs : List V} {o : HO} (h : H p = some (.lst xs)) : SameT H (upd H p o) := fun b ys e => by
  rw [upd_ne (ne_of e h (by intro z; cases z))]; exact e
mutual
theorem IsT.mono {H H' : Hp} (sm : SameT H H') : ∀ {d : PyData} {x : V}, IsT H d x → IsT H' d x
  | _, _, .non => .non
  | _, _, .bl b => .bl b
  | _, _, .int i => .int i
  | _, _, .str x => .str x
  | _, _, .tup h r => .tup (sm _ _ h) (IsTAll.mono sm r)
theorem IsTAll.mono {H H' : Hp} (sm : SameT H H') : ∀ {ds : List PyData} {xs : List V}, IsTAll H ds xs → IsTAll H' ds xs
  | _, _, .nil => .nil
  | _, _, .cons h r => .cons (IsT.mono sm h) (IsTAll.mono sm r)
end
mutual
theorem IsT.is {H : Hp} : ∀ {d : PyData} {x : V}, IsT H d x → Is H d x
  | _, _, .non => .non
  | _, _, .bl b => .bl b
  | _, _, .int i => .int i
  | _, _, .str x => .str x
  | _, _, .tup h r => .tup h (IsTAll.is r)
theorem IsTAll.is {H : Hp} : ∀ {ds : List PyData} {xs : List V}, IsTAll H ds xs → IsAll H ds xs
  | _, _, .nil => .nil
  | _, _, .cons h r => .cons (IsT.is h) (IsTAll.is r)
end
theorem IsTAll.append {H : Hp} : ∀ {ds es : List PyData} {xs ys : List V}, IsTAll H ds xs → IsTAll H es ys → IsTAll H (ds ++ es) (xs ++ ys)
  | _, _, _, _, .nil, r => r
  | _, _, _, _, .cons h t, r => .cons h (t.append r)
theorem IsTAll.length {H : Hp} {ds : List PyData} {xs : List V} (h : IsTAll H ds xs) : ds.length = xs.length := h.is.length

/-! ### a comprehension over a list, no test, by a relation that grows with the heap -/
section
variable {p : Addr} {fv : St} {te : TE} {Q : VK} {H1 : Hp}
inductive All2 (R : V → V → Hp → Prop) (H : Hp) : List V → List V → Prop
  | nil : All2 R H [] []
  | cons {x y : V} {xs ys : List V} : R x y H → All2 R H xs ys → All2 R H (x :: xs) (y :: ys)
theorem All2.mono {R : V → V → Hp → Prop} (hm : ∀ x y H H', SameT H H' → R x y H → R x y H') {H H' : Hp} (sm : SameT H H') : ∀ {xs ys : List V}, All2 R H xs ys → All2 R H' xs ys
  | _, _, .nil => .nil
  | _, _, .cons h t => .cons (hm _ _ _ _ sm h) (t.mono hm sm)
theorem All2.snoc {R : V → V → Hp → Prop} {H : Hp} {x y : V} (h : R x y H) : ∀ {xs ys : List V}, All2 R H xs ys → All2 R H (xs ++ [x]) (ys ++ [y])
  | _, _, .nil => .cons h .nil
  | _, _, .cons q t => .cons q (t.snoc h)
theorem All2.length {R : V → V → Hp → Prop} {H : Hp} : ∀ {xs ys : List V}, All2 R H xs ys → xs.length = ys.length
  | _, _, .nil => rfl
  | _, _, .cons _ t => by rw [List.length_cons, List.length_cons, t.length]
theorem comp_listR {K : PySem.W.Frag} {a : Addr} {xs : List V} (hxs : SqL K H1 a xs) (hlen : xs.length ≤ sizeLine) (hp : H1 p = none) (R : V → V → Hp → Prop) (hm : ∀ x y H H', SameT H H' → R x y H → R x y H')
    (he : ∀ x, x ∈ xs → ∀ (H' : Hp) (T : VK), Same H1 H' → (∀ y H'', Same H' H'' → R x y H'' → T y H'') → te (some x :: fv) H' T)
    (hQ : ∀ ys H', Same H1 H' → All2 R H' xs ys → H' p = some (.lst ys) → Q (.ref p) H') : CompI (Itl K a) p fv tYes te Q H1 := by
  refine ⟨fun i m ys H2 => m = xs.length - i ∧ i ≤ xs.length ∧ All2 R H2 (xs.take i) ys ∧ H2 p = some (.lst ys) ∧ Same H1 H2, ⟨xs.length, by simp, Nat.zero_le _, by rw [List.take_zero]; exact .nil, upd_same, fun b o e => by rw [upd_ne (ne_of_none e hp)]; exact e⟩, ?_⟩
  rintro i m ys H2 ⟨rfl, hi, hys, hp2, sm⟩
  refine ⟨hp2, ?_⟩
  have q := sm.seq hxs
  have hl := hys.length
  rw [List.length_take] at hl
  by_cases hlt : i < xs.length
  · refine .inr ⟨⟨xs, xs[i], q, by simp [hlt]⟩, by omega, fun x H3 y => ?_⟩
    obtain ⟨rfl, y⟩ := y
    have hc := y xs q
    unfold tYes
    dsimp only
    rw [if_pos rfl]
    refine he x (List.mem_of_getElem? hc) _ _ sm fun y H5 s5 hr => ⟨s5 _ _ hp2, xs.length - (i + 1), by omega, rfl, hlt, ?_, upd_same, fun b o e => ?_⟩
    · rw [List.take_add_one, hc]
      exact ((hys.mono hm s5.toT).snoc hr).mono hm (sameT_lst (s5 _ _ hp2))
    · rw [upd_ne (ne_of_none e hp)]; exact s5 _ _ (sm _ _ e)
  · have e : i = xs.length := by omega
    subst e
    refine .inl ⟨⟨xs, q, Nat.le_refl _⟩, hQ ys H2 sm ?_ hp2⟩
    rw [List.take_length] at hys
    exact hys
end

/-! ### all, any of a list of truths -/
section
variable {X : Cx}
def rAllB (K : PySem.W.Frag) : List V → Hp → VK → Prop := fun vs H Q => ∃ (p : Addr) (bs : List Bool), vs = [.ref p] ∧ SqL K H p (bs.map V.bl) ∧ Q (.bl (bs.all id)) H
def rAnyB (K : PySem.W.Frag) : List V → Hp → VK → Prop := fun vs H Q => ∃ (p : Addr) (bs : List Bool), vs = [.ref p] ∧ SqL K H p (bs.map V.bl) ∧ Q (.bl (bs.any id)) H
variable {K : PySem.W.Frag}
def rListU (K : PySem.W.Frag) : List V → Hp → VK → Prop := fun xs H Q => ∃ p ys, xs = [.ref p] ∧ (SqL K H p ys ∨ SqT K H p ys) ∧ ∀ l, H l = none → Q (.ref l) (upd H l (.lst ys))
def rTupleU (K : PySem.W.Frag) : List V → Hp → VK → Prop := fun xs H Q => ∃ p ys, xs = [.ref p] ∧ ((SqL K H p ys ∧ ∀ l, H l = none → Q (.ref l) (upd H l (.tup ys))) ∨ (SqT K H p ys ∧ Q (.ref p) H))
theorem pi_tupK {tg l : Expr} {tl : TE} (h : X.K = K) (hl : PE X l tl) : PI X tg l (iTup K tl) := by subst h; exact pi_tup hl
end

/-! ### kinds, stores, targets -/
section
variable {H : Hp} {Q : VK} {K : PySem.W.Frag}
theorem isi_any {x : V} {T : String} : rIsiU [x, .ty T] H Q ↔ ∃ k, kindV x H = some k ∧ T ∈ ["bool", "int", "str", "list", "tuple"] ∧ Q (.bl (subT k T)) H := Iff.rfl
theorem kind_non : kindV .non H = some "NoneType" := rfl
theorem kind_bl {b : Bool} : kindV (.bl b) H = some "bool" := rfl
theorem kind_int {i : Int} : kindV (.int i) H = some "int" := rfl
theorem kind_str {x : Str} : kindV (.str x) H = some "str" := rfl
theorem kind_lst {p : Addr} {xs : List V} (h : H p = some (.lst xs)) : kindV (.ref p) H = some "list" := by simp only [kindV, h]
theorem kind_tup {p : Addr} {xs : List V} (h : H p = some (.tup xs)) : kindV (.ref p) H = some "tuple" := by simp only [kindV, h]
theorem memT_bool : ("bool" ∈ ["bool", "int", "str", "list", "tuple"]) = True := by simp
theorem memT_int : ("int" ∈ ["bool", "int", "str", "list", "tuple"]) = True := by simp
theorem memT_str : ("str" ∈ ["bool", "int", "str", "list", "tuple"]) = True := by simp
theorem memT_list : ("list" ∈ ["bool", "int", "str", "list", "tuple"]) = True := by simp
theorem memT_tuple : ("tuple" ∈ ["bool", "int", "str", "list", "tuple"]) = True := by simp
theorem sub_NoneType_bool : subT "NoneType" "bool" = false := by decide
theorem sub_NoneType_int : subT "NoneType" "int" = false := by decide
theorem sub_NoneType_str : subT "NoneType" "str" = false := by decide
theorem sub_NoneType_list : subT "NoneType" "list" = false := by decide
theorem sub_NoneType_tuple : subT "NoneType" "tuple" = false := by decide
theorem sub_bool_bool : subT "bool" "bool" = true := by decide
theorem sub_bool_int : subT "bool" "int" = true := by decide
theorem sub_bool_str : subT "bool" "str" = false := by decide
theorem sub_bool_list : subT "bool" "list" = false := by decide
theorem sub_bool_tuple : subT "bool" "tuple" = false := by decide
theorem sub_int_bool : subT "int" "bool" = false := by decide
theorem sub_int_int : subT "int" "int" = true := by decide
theorem sub_int_str : subT "int" "str" = false := by decide
theorem sub_int_list : subT "int" "list" = false := by decide
theorem sub_int_tuple : subT "int" "tuple" = false := by decide
theorem sub_str_bool : subT "str" "bool" = false := by decide
theorem sub_str_int : subT "str" "int" = false := by decide
theorem sub_str_str : subT "str" "str" = true := by decide
theorem sub_str_list : subT "str" "list" = false := by decide
theorem sub_str_tuple : subT "str" "tuple" = false := by decide
theorem sub_list_bool : subT "list" "bool" = false := by decide
theorem sub_list_int : subT "list" "int" = false := by decide
theorem sub_list_str : subT "list" "str" = false := by decide
theorem sub_list_list : subT "list" "list" = true := by decide
theorem sub_list_tuple : subT "list" "tuple" = false := by decide
theorem sub_tuple_bool : subT "tuple" "bool" = false := by decide
theorem sub_tuple_int : subT "tuple" "int" = false := by decide
theorem sub_tuple_str : subT "tuple" "str" = false := by decide
theorem sub_tuple_list : subT "tuple" "list" = false := by decide
theorem sub_tuple_tuple : subT "tuple" "tuple" = true := by decide
/-- the kind of a thing -/
def kindD : PyData → String
  | .none => "NoneType" | .bool _ => "bool" | .int _ => "int" | .str _ => "str" | .list _ => "list" | .tuple _ => "tuple" | .dict _ => "dict"
theorem Is.kind {d : PyData} {x : V} (h : Is H d x) : kindV x H = some (kindD d) := by
  cases h with
  | non => rfl
  | bl => rfl
  | int => rfl
  | str => rfl
  | lst h _ => exact kind_lst h
  | tup h _ => exact kind_tup h
theorem rd_gTup {n : Nat} {t : TGs} {v : V} {σ : St} {R : St → Hp → Prop} : gTup K n t v σ H R ↔ ∃ a xs, v = .ref a ∧ SqT K H a xs ∧ xs.length = n ∧ t xs σ H R := Iff.rfl
theorem rd_gCons {t : TG} {u : TGs} {vs : List V} {σ : St} {R : St → Hp → Prop} : gCons t u vs σ H R ↔ ∃ v r, vs = v :: r ∧ t v σ H fun σ' H' => u r σ' H' R := Iff.rfl
theorem rd_gNil {vs : List V} {σ : St} {R : St → Hp → Prop} : gNil vs σ H R ↔ vs = [] ∧ R σ H := Iff.rfl
theorem rd_gSub {to ti : TE} {t : TSet} {v : V} {σ : St} {R : St → Hp → Prop} : gSub to ti t v σ H R ↔ to σ H fun o H1 => ti σ H1 fun i H2 => t o i v H2 fun H3 => R σ H3 := Iff.rfl
theorem set_ref {p : Addr} {k : Int} {v : V} {R : Hp → Prop} : rSetL (.ref p) (.int k) v H R ↔ ∃ xs j, H p = some (.lst xs) ∧ ixN xs.length k = some j ∧ R (upd H p (.lst (xs.set j v))) := by
  constructor
  · rintro ⟨p', xs, k', j, h1, h2, h3⟩; cases h1; cases h2; exact ⟨xs, j, h3⟩
  · rintro ⟨xs, j, h⟩; exact ⟨p, xs, k, j, rfl, rfl, h⟩
end
section
variable {X : Cx} {K : PySem.W.Frag}
theorem pg_tupK {es : List Expr} {k : Nat} {t : TGs} {n : Nat} {pos : Pos} (h : X.K = K) (hc : X.calm = true) (hg : PGs X es t)
    (hn : (assignEach es X.env).length = n := by rfl) (hst : (assignEach es X.env).findIdx? (·.1) = none := by rfl) : PG X (.Tuple es k pos) (gTup K n t) := by
  subst h; exact pg_tup hc hg hn hst
end
/-! ### all but one address -/
def SameBut (p : Addr) (H H' : Hp) : Prop := ∀ b o, b ≠ p → H b = some o → H' b = some o
theorem SameBut.refl (p : Addr) (H : Hp) : SameBut p H H := fun _ _ _ e => e
theorem SameBut.trans {p : Addr} {H H' H'' : Hp} (h : SameBut p H H') (h' : SameBut p H' H'') : SameBut p H H'' := fun b o n e => h' b o n (h b o n e)
theorem Same.but {p : Addr} {H H' : Hp} (h : Same H H') : SameBut p H H' := fun b o _ e => h b o e
theorem SameBut.toT {p : Addr} {H H' : Hp} {xs : List V} (h : SameBut p H H') (hp : H p = some (.lst xs)) : SameT H H' := fun b ys e => h b _ (ne_of e hp (by intro z; cases z)) e
theorem SameBut.same {p : Addr} {H H' : Hp} (h : SameBut p H H') (hp : H p = none) : Same H H' := fun b o e => h b o (ne_of_none e hp) e

/-! ### a comprehension over a list or tuple whose values are known one by one -/
section
variable {p : Addr} {fv : St} {te : TE} {Q : VK} {H1 : Hp} {K : PySem.W.Frag}
theorem Same.tup {H H' : Hp} {a : Addr} {xs : List V} (e : Same H H') (h : SqT K H a xs) : SqT K H' a xs := by
  rcases h with (h | ⟨o, h⟩) | h
  · exact .inl (.inl (e _ _ h))
  · exact .inl (.inr ⟨o, e _ _ h⟩)
  · exact .inr h
theorem comp_tupZ {a : Addr} {xs zs : List V} (hxs : SqT K H1 a xs) (hlen : xs.length ≤ sizeLine) (hp : H1 p = none) (hz : zs.length = xs.length)
    (he : ∀ (i : Nat) (x z : V), xs[i]? = some x → zs[i]? = some z → ∀ (H' : Hp) (T : VK), Same H1 H' → (∀ H'', Same H' H'' → T z H'') → te (some x :: fv) H' T)
    (hQ : ∀ H', Same H1 H' → H' p = some (.lst zs) → Q (.ref p) H') : CompI (Itt K a) p fv tYes te Q H1 := by
  refine ⟨fun i m ys H2 => m = xs.length - i ∧ i ≤ xs.length ∧ ys = zs.take i ∧ H2 p = some (.lst ys) ∧ Same H1 H2, ⟨xs.length, by simp, Nat.zero_le _, by simp, upd_same, fun b o e => by rw [upd_ne (ne_of_none e hp)]; exact e⟩, ?_⟩
  rintro i m ys H2 ⟨rfl, hi, rfl, hp2, sm⟩
  refine ⟨hp2, ?_⟩
  have q := sm.tup hxs
  by_cases hlt : i < xs.length
  · refine .inr ⟨⟨xs, xs[i], q, by simp [hlt]⟩, ?_, fun x H3 y => ?_⟩
    · rw [List.length_take]; omega
    · obtain ⟨rfl, y⟩ := y
      have hc := y xs q
      have hzi : zs[i]? = some zs[i] := List.getElem?_eq_getElem (by omega)
      unfold tYes
      dsimp only
      rw [if_pos rfl]
      refine he i x _ hc hzi _ _ sm fun H5 s5 => ⟨s5 _ _ hp2, xs.length - (i + 1), by omega, rfl, hlt, ?_, upd_same, fun b o e => ?_⟩
      · rw [List.take_add_one, hzi]; rfl
      · rw [upd_ne (ne_of_none e hp)]; exact s5 _ _ (sm _ _ e)
  · have e : i = xs.length := by omega
    subst e
    refine .inl ⟨⟨xs, q, Nat.le_refl _⟩, hQ H2 sm ?_⟩
    rw [hp2, ← hz, List.take_length]
variable {σ : St} {H : Hp} {tl : TE} {tt : TT} {fr : List Nat} {g : TG} {tb : TS} {D : Ends}
theorem rd_compT : tComp (iTup K tl) fr tt te σ H Q ↔ tl σ H fun x H1 => ∃ a, x = .ref a ∧ (∃ xs, SqT K H1 a xs) ∧ ∀ p, H1 p = none → CompI (Itt K a) p (frV σ fr) tt te Q H1 := Iff.rfl
theorem rd_forT : tFor (iTup K te) g tb D σ H ↔ te σ H fun x H1 => ∃ a, x = .ref a ∧ (∃ xs, SqT K H1 a xs) ∧ LoopI (Itt K a) g tb D σ H1 := Iff.rfl
theorem loop_tup {a : Addr} {xs : List V} (Pv : Nat → St → Hp → Prop) (h0 : Pv 0 σ H) (hl : ∀ i σ H, i ≤ xs.length → Pv i σ H → SqT K H a xs)
    (hs : ∀ i x σ H, xs[i]? = some x → Pv i σ H → g x σ H fun σ2 H2 => tb { D with nx := Pv (i + 1), ct := Pv (i + 1), bk := D.nx } σ2 H2) (hd : ∀ σ H, Pv xs.length σ H → D.nx σ H) : LoopI (Itt K a) g tb D σ H := for_tup Pv h0 hl hs hd
theorem all_ref {a : Addr} : rAllB K [.ref a] H Q ↔ ∃ bs : List Bool, SqL K H a (bs.map V.bl) ∧ Q (.bl (bs.all id)) H := by
  constructor
  · rintro ⟨p, bs, h1, h2⟩; cases h1; exact ⟨bs, h2⟩
  · rintro ⟨bs, h⟩; exact ⟨a, bs, rfl, h⟩
theorem any_ref {a : Addr} : rAnyB K [.ref a] H Q ↔ ∃ bs : List Bool, SqL K H a (bs.map V.bl) ∧ Q (.bl (bs.any id)) H := by
  constructor
  · rintro ⟨p, bs, h1, h2⟩; cases h1; exact ⟨bs, h2⟩
  · rintro ⟨bs, h⟩; exact ⟨a, bs, rfl, h⟩
theorem li_ref {a : Addr} : rListU K [.ref a] H Q ↔ ∃ ys, (SqL K H a ys ∨ SqT K H a ys) ∧ ∀ l, H l = none → Q (.ref l) (upd H l (.lst ys)) := by
  constructor
  · rintro ⟨p, bs, h1, h2⟩; cases h1; exact ⟨bs, h2⟩
  · rintro ⟨bs, h⟩; exact ⟨a, bs, rfl, h⟩
theorem tu_ref {a : Addr} : rTupleU K [.ref a] H Q ↔ ∃ ys, (SqL K H a ys ∧ ∀ l, H l = none → Q (.ref l) (upd H l (.tup ys))) ∨ (SqT K H a ys ∧ Q (.ref a) H) := by
  constructor
  · rintro ⟨p, bs, h1, h2⟩; cases h1; exact ⟨bs, h2⟩
  · rintro ⟨bs, h⟩; exact ⟨a, bs, rfl, h⟩
theorem slT_ref {a : Addr} {lo hi : Option Int} : rSlT K (.ref a) lo hi H Q ↔ ∃ xs, SqT K H a xs ∧ ¬ (HT.sIx xs.length 0 lo = 0 ∧ HT.sIx xs.length xs.length hi = xs.length) ∧ ∀ p, H p = none → Q (.ref p) (upd H p (.tup (cutV xs lo hi))) := by
  constructor
  · rintro ⟨p, bs, h1, h2⟩; cases h1; exact ⟨bs, h2⟩
  · rintro ⟨bs, h⟩; exact ⟨a, bs, rfl, h⟩
end

/-! ### a block cut in two by what holds between -/
def tCut (t u : TS) : TS := fun D σ H => ∃ P : St → Hp → Prop, t { D with nx := P } σ H ∧ ∀ σ' H', P σ' H' → u D σ' H'
section
variable {X : Cx} {st : Stmt} {rest : List Stmt} {t u : TS}
theorem pss_cut (h1 : PS X st t) (h2 : PSs X rest u) : PSs X (st :: rest) (tCut t u) := by
  intro pins s σ H D I h
  obtain ⟨P, h, hu⟩ := h
  refine wpAny_execs_cons (thn (h1 pins s σ H { D with nx := P } I h) fun f s1 q => ?_)
  cases f with
  | next =>
    obtain ⟨σ', H', I', q⟩ := q
    exact h2 pins s1 σ' H' D I' (hu _ _ q)
  | ret v => exact q
  | brk => exact q
  | cont => exact q
/-- what is read only when it is come to: behind a cut, with the names' values at hand -/
def Later (u : TS) (D : Ends) (σ : St) (H : Hp) : Prop := u D σ H
theorem rd_later {D : Ends} {x : Option V} {σ : St} {H : Hp} : Later u D (x :: σ) H ↔ u D (x :: σ) H := Iff.rfl
theorem rd_cut {D : Ends} {σ : St} {H : Hp} : tCut t u D σ H ↔ ∃ P : St → Hp → Prop, t { D with nx := P } σ H ∧ ∀ σ' H', P σ' H' → Later u D σ' H' := Iff.rfl
end
theorem SameBut.free {p q : Addr} {H H' : Hp} (sb : SameBut p H H') (hq : H' q = none) (hne : q ≠ p) : H q = none := by
  cases e : H q with
  | none => rfl
  | some o => rw [sb q o hne e] at hq; cases hq
theorem SameBut.upd {p q : Addr} {H H' : Hp} {o : HO} (sb : SameBut p H H') (hq : H q = none) : SameBut p H (upd H' q o) := fun b u n e => by
  rw [upd_ne (ne_of_none e hq)]; exact sb b u n e
theorem IsTAll.strs {H : Hp} : ∀ (l : List (List Nat)), IsTAll H (l.map fun z => PyData.str ⟨z.toArray⟩) (l.map fun z => V.str ⟨z.toArray⟩)
  | [] => .nil
  | x :: r => .cons (.str _) (IsTAll.strs r)
theorem IsTAll.snoc {H : Hp} {ds : List PyData} {xs : List V} {d : PyData} {x : V} (h : IsTAll H ds xs) (hd : IsT H d x) : IsTAll H (ds ++ [d]) (xs ++ [x]) := h.append (.cons hd .nil)

/-! ### new objects, the heap behind them as any that holds them -/
theorem same_new {H : Hp} {p : Addr} {o : HO} (hp : H p = none) : Same H (upd H p o) := fun b u e => by rw [upd_ne (ne_of_none e hp)]; exact e
def tTupS (t : TA) : TE := fun σ H Q => t σ H fun xs H1 => xs.length ≤ sizeLine ∧ ∀ p H', H1 p = none → Same H1 H' → H' p = some (.tup xs) → Q (.ref p) H'
def tLstS (t : TA) : TE := fun σ H Q => t σ H fun xs H1 => xs.length ≤ sizeLine ∧ ∀ p H', H1 p = none → Same H1 H' → H' p = some (.lst xs) → Q (.ref p) H'
section
variable {X : Cx} {es : List Expr} {t : TA} {pos : Pos} {K : PySem.W.Frag}
theorem pe_tupS {x1} (h : PA X es t) : PE X (.Tuple es x1 pos) (tTupS t) := by
  intro pins s σ H Q I hq
  refine wpAny_Tuple_spliced (thn (h pos pins s σ H _ I hq) fun us s1 ⟨xs, H1, I1, r, z, q⟩ => ⟨by rw [← r.length]; exact z, ?_⟩)
  have hf : H1 s1.heap.objs.size = none := I1.hok.fresh (Nat.le_refl _)
  refine ⟨.ref s1.heap.objs.size, upd H1 s1.heap.objs.size (.tup xs), I1.laid (t' := s1.toks) (fun b u e => Heap.get?_push_of_some _ e) (Nat.le_refl _) ?_, rfl, q _ _ hf (same_new hf) upd_same⟩
  exact ⟨z, us, r, ⟨_, Heap.get?_push_size _ rfl, rfl, _, rfl⟩⟩
theorem pe_lstS (h : PA X es t) : PE X (.List es pos) (tLstS t) := by
  intro pins s σ H Q I hq
  refine wpAny_List_spliced (thn (h pos pins s σ H _ I hq) fun us s1 ⟨xs, H1, I1, r, z, q⟩ => ⟨by rw [← r.length]; exact z, ?_⟩)
  have hf : H1 s1.heap.objs.size = none := I1.hok.fresh (Nat.le_refl _)
  refine ⟨.ref s1.heap.objs.size, upd H1 s1.heap.objs.size (.lst xs), I1.laid (t' := s1.toks) (fun b u e => Heap.get?_push_of_some _ e) (Nat.le_refl _) ?_, rfl, q _ _ hf (same_new hf) upd_same⟩
  exact ⟨z, us, 0, r, Heap.get?_push_size _ rfl⟩
def rAddS (K : PySem.W.Frag) : R2 := fun x y H Q => match x, y with
  | .int i, .int j => Q (.int (i + j)) H
  | .str i, .str j => i.length + j.length ≤ sizeLine ∧ Q (.str (i ++ j)) H
  | .ref a, .ref b => (∃ xs zs, H a = some (.lst xs) ∧ H b = some (.lst zs) ∧ xs.length + zs.length ≤ sizeLine ∧ ∀ p H', H p = none → Same H H' → H' p = some (.lst (xs ++ zs)) → Q (.ref p) H') ∨
      (∃ xs ys, H a = some (.tup xs) ∧ H b = some (.tup ys) ∧ xs.length + ys.length ≤ sizeLine ∧ ∀ p H', Same H H' → H' p = some (.tup (xs ++ ys)) → Q (.ref p) H')
  | _, _ => False
theorem op_addS : OpR X (binaryOp .Add) (rAddS K) := by
  intro pins s σ H x y v u Q I rx ry h
  refine op_addU pins s σ H x y v u Q I rx ry ?_
  cases x with
  | int i =>
    cases y with
    | int j => exact h
    | _ => exact h.elim
  | str i =>
    cases y with
    | str j => exact h
    | _ => exact h.elim
  | ref a =>
    cases y with
    | ref b =>
      rcases h with ⟨xs, zs, h1, h2, h3, h4⟩ | h
      · exact .inl ⟨xs, zs, h1, h2, h3, fun p hp => h4 p _ hp (same_new hp) upd_same⟩
      · exact .inr h
    | _ => exact h.elim
  | _ => exact h.elim
def rListS (K : PySem.W.Frag) : List V → Hp → VK → Prop := fun xs H Q => ∃ p ys, xs = [.ref p] ∧ (SqL K H p ys ∨ SqT K H p ys) ∧ ∀ l H', H l = none → Same H H' → H' l = some (.lst ys) → Q (.ref l) H'
def rTupleS (K : PySem.W.Frag) : List V → Hp → VK → Prop := fun xs H Q => ∃ p ys, xs = [.ref p] ∧ (SqL K H p ys ∨ H p = some (.tup ys)) ∧ ∀ l H', Same H H' → H' l = some (.tup ys) → Q (.ref l) H'
theorem call_listS (h : X.K = K) : CallR X (.type "list") (rListS K) := by
  subst h
  intro pins s σ H xs us Q I r h
  obtain ⟨p, ys, h1, h2, h3⟩ := h
  exact call_list_of pins s σ H xs us Q I r ⟨p, ys, h1, h2, fun l hl => h3 l _ hl (same_new hl) upd_same⟩
theorem call_tupleS (h : X.K = K) : CallR X (.type "tuple") (rTupleS K) := by
  subst h
  intro pins s σ H xs us Q I r h
  obtain ⟨p, ys, h1, h2, h3⟩ := h
  rcases h2 with h2 | h2
  · exact call_tuple_of pins s σ H xs us Q I r ⟨p, ys, h1, .inl ⟨h2, fun l hl => h3 l _ (same_new hl) upd_same⟩⟩
  · exact call_tuple_of pins s σ H xs us Q I r ⟨p, ys, h1, .inr ⟨SqT.of h2, h3 p H (Same.refl _) h2⟩⟩
def rSlS2 (K : PySem.W.Frag) : V → Option Int → Option Int → Hp → VK → Prop := fun x lo hi H Q => ∃ a xs, x = .ref a ∧ SqT K H a xs ∧
  ¬ (HT.sIx xs.length 0 lo = 0 ∧ HT.sIx xs.length xs.length hi = xs.length) ∧ ∀ p H', H p = none → Same H H' → H' p = some (.tup (cutV xs lo hi)) → Q (.ref p) H'
end
section
variable {σ : St} {H : Hp} {Q : VK} {K : PySem.W.Frag} {aa : TA}
theorem rd_tupS : tTupS aa σ H Q ↔ aa σ H fun xs H1 => xs.length ≤ sizeLine ∧ ∀ p H', H1 p = none → Same H1 H' → H' p = some (.tup xs) → Q (.ref p) H' := Iff.rfl
theorem rd_lstS : tLstS aa σ H Q ↔ aa σ H fun xs H1 => xs.length ≤ sizeLine ∧ ∀ p H', H1 p = none → Same H1 H' → H' p = some (.lst xs) → Q (.ref p) H' := Iff.rfl
theorem adS_int {i j : Int} : rAddS K (.int i) (.int j) H Q ↔ Q (.int (i + j)) H := Iff.rfl
theorem adS_str {i j : Str} : rAddS K (.str i) (.str j) H Q ↔ i.length + j.length ≤ sizeLine ∧ Q (.str (i ++ j)) H := Iff.rfl
theorem liS_ref {a : Addr} : rListS K [.ref a] H Q ↔ ∃ ys, (SqL K H a ys ∨ SqT K H a ys) ∧ ∀ l H', H l = none → Same H H' → H' l = some (.lst ys) → Q (.ref l) H' := by
  constructor
  · rintro ⟨p, bs, h1, h2⟩; cases h1; exact ⟨bs, h2⟩
  · rintro ⟨bs, h⟩; exact ⟨a, bs, rfl, h⟩
theorem tuS_ref {a : Addr} : rTupleS K [.ref a] H Q ↔ ∃ ys, (SqL K H a ys ∨ H a = some (.tup ys)) ∧ ∀ l H', Same H H' → H' l = some (.tup ys) → Q (.ref l) H' := by
  constructor
  · rintro ⟨p, bs, h1, h2⟩; cases h1; exact ⟨bs, h2⟩
  · rintro ⟨bs, h⟩; exact ⟨a, bs, rfl, h⟩
theorem slS_ref {a : Addr} {lo hi : Option Int} : rSlS2 K (.ref a) lo hi H Q ↔ ∃ xs, SqT K H a xs ∧ ¬ (HT.sIx xs.length 0 lo = 0 ∧ HT.sIx xs.length xs.length hi = xs.length) ∧ ∀ p H', H p = none → Same H H' → H' p = some (.tup (cutV xs lo hi)) → Q (.ref p) H' := by
  constructor
  · rintro ⟨p, bs, h1, h2⟩; cases h1; exact ⟨bs, h2⟩
  · rintro ⟨bs, h⟩; exact ⟨a, bs, rfl, h⟩
end

def rSlLS (K : PySem.W.Frag) : V → Option Int → Option Int → Hp → VK → Prop := fun x lo hi H Q => ∃ a xs, x = .ref a ∧ SqL K H a xs ∧ ∀ p H', H p = none → Same H H' → H' p = some (.lst (cutV xs lo hi)) → Q (.ref p) H'
theorem slLS_ref {K : PySem.W.Frag} {H : Hp} {Q : VK} {a : Addr} {lo hi : Option Int} : rSlLS K (.ref a) lo hi H Q ↔ ∃ xs, SqL K H a xs ∧ ∀ p H', H p = none → Same H H' → H' p = some (.lst (cutV xs lo hi)) → Q (.ref p) H' := by
  constructor
  · rintro ⟨p, bs, h1, h2⟩; cases h1; exact ⟨bs, h2⟩
  · rintro ⟨bs, h⟩; exact ⟨a, bs, rfl, h⟩

/-! ### is True, is False -/
def rIsB (neg : Bool) : R2 := fun x y H Q => match x, y with
  | .bl b, .bl c => Q (.bl (if neg then !decide (b = c) else decide (b = c))) H
  | _, _ => False
theorem isB_f {b c : Bool} {H : Hp} {Q : VK} : rIsB false (.bl b) (.bl c) H Q ↔ Q (.bl (decide (b = c))) H := Iff.rfl
end L2
namespace Wm
open PySem L2

/-! ### the signs, and what is told of them, over plain numbers -/
def isSg (c : Nat) : Bool := decide (32 ≤ c) && decide (c ≤ 126) && !decide (c = 37)
def SG : List Nat := (List.range 127).filter isSg
def hexd (n : Nat) : Nat := if n < 10 then 48 + n else 87 + n
abbrev one (c : Nat) : V := .str ⟨#[c]⟩
theorem mem_SG {c : Nat} : c ∈ SG ↔ isSg c = true := by
  unfold SG
  rw [List.mem_filter, List.mem_range]
  constructor
  · exact fun h => h.2
  · intro h
    refine ⟨?_, h⟩
    simp only [isSg, Bool.and_eq_true, decide_eq_true_eq] at h
    omega
theorem isSg_lt {c : Nat} (h : isSg c = true) : 32 ≤ c ∧ c ≤ 126 ∧ c ≠ 37 := by
  simp only [isSg, Bool.and_eq_true, decide_eq_true_eq, Bool.not_eq_true', decide_eq_false_iff_not] at h
  omega
theorem tab_eq : (Str.ofString " !\"#$&'()*+,-./0123456789:;<=>?@ABCDEFGHIJKLMNOPQRSTUVWXYZ[\\]^_`" ++ Str.ofString "abcdefghijklmnopqrstuvwxyz{|}~" : Str) = ⟨SG.toArray⟩ := by decide +kernel
theorem tab_len : (Str.ofString " !\"#$&'()*+,-./0123456789:;<=>?@ABCDEFGHIJKLMNOPQRSTUVWXYZ[\\]^_`").length + (Str.ofString "abcdefghijklmnopqrstuvwxyz{|}~").length ≤ sizeLine := by decide +kernel
theorem SG_len : SG.length = 94 := by decide +kernel
/-! ### slices of a text as pieces of its list of signs -/
theorem pick_list (l : List Nat) (a : Nat) : ∀ k, ((List.range k).map fun j => a + j).filterMap (fun i => l[i]?) = (l.drop a).take k
  | 0 => by simp
  | k + 1 => by
    rw [List.range_succ, List.map_append, List.filterMap_append, pick_list l a k, List.take_add_one, List.getElem?_drop]
    simp only [List.map_cons, List.map_nil]
    cases e : l[a + k]? with
    | none => simp [e]
    | some c => simp [e]
def clipI (n : Nat) (v : Int) : Nat := (max 0 (min (if v < 0 then v + n else v) n)).toNat
theorem sl_range (a b : Nat) : sliceRange (a : Int) (b : Int) 1 = (List.range (b - a)).map fun j => a + j := by
  unfold sliceRange
  have h1 : (1 : Int) > 0 := by decide
  simp only [h1, if_true, Int.one_mul, Int.ediv_one]
  have e : (if (a : Int) < (b : Int) then (b : Int) - (a : Int) + 1 - 1 else 0).toNat = b - a := by split <;> omega
  rw [e]
  apply List.map_congr_left
  intro j _
  omega
theorem indices_gen (lo hi : Option Int) (n : Nat) : Builtin.Str.strSliceIndices lo hi 1 n = (List.range ((hi.elim n (clipI n)) - (lo.elim 0 (clipI n)))).map fun j => (lo.elim 0 (clipI n)) + j := by
  unfold Builtin.Str.strSliceIndices
  have h1 : (1 : Int) > 0 := by decide
  simp only [h1, if_true]
  rw [← sl_range]
  congr 1
  · cases lo with
    | none => rfl
    | some v => simp only [Option.elim_some, clipI]; omega
  · cases hi with
    | none => rfl
    | some v => simp only [Option.elim_some, clipI]; omega
theorem slice_gen (l : List Nat) (lo hi : Option Int) : Txt.slice (⟨l.toArray⟩ : Str) lo hi = ⟨((l.drop (lo.elim 0 (clipI l.length))).take ((hi.elim l.length (clipI l.length)) - (lo.elim 0 (clipI l.length)))).toArray⟩ := by
  have hl : (⟨l.toArray⟩ : Str).length = l.length := by simp [Str.length]
  have hb : hi.elim l.length (clipI l.length) ≤ l.length := by
    cases hi with
    | none => exact Nat.le_refl _
    | some v => simp only [Option.elim_some, clipI]; omega
  have hb' : lo.elim 0 (clipI l.length) ≤ l.length := by
    cases lo with
    | none => exact Nat.zero_le _
    | some v => simp only [Option.elim_some, clipI]; omega
  have ef : (fun i : Nat => (⟨l.toArray⟩ : Str).cps[i]?) = fun i => l[i]? := by funext i; simp
  unfold Txt.slice
  rw [hl, indices_gen, ef]
  split
  · rename_i h
    simp only [List.length_map, List.length_range, beq_self_eq_true, Bool.true_and, beq_iff_eq] at h
    have e1 : lo.elim 0 (clipI l.length) = 0 := by omega
    have e2 : hi.elim l.length (clipI l.length) = l.length := by omega
    rw [e1, e2]
    simp
  · rw [pick_list l (lo.elim 0 (clipI l.length)) ((hi.elim l.length (clipI l.length)) - (lo.elim 0 (clipI l.length)))]
theorem clip_nat (n k : Nat) : clipI n (k : Int) = min k n := by unfold clipI; split <;> omega
theorem slice_from (l : List Nat) (k : Nat) : Txt.slice (⟨l.toArray⟩ : Str) (some (k : Int)) none = ⟨(l.drop k).toArray⟩ := by
  rw [slice_gen]
  simp only [Option.elim_some, Option.elim_none, clip_nat]
  by_cases h : k ≤ l.length
  · rw [Nat.min_eq_left h, List.take_of_length_le (by simp)]
  · rw [Nat.min_eq_right (by omega), List.drop_eq_nil_of_le (Nat.le_refl _), List.drop_eq_nil_of_le (by omega)]
    simp
theorem slice_to (l : List Nat) (k : Nat) : Txt.slice (⟨l.toArray⟩ : Str) none (some (k : Int)) = ⟨(l.take k).toArray⟩ := by
  rw [slice_gen]
  simp only [Option.elim_some, Option.elim_none, clip_nat, List.drop_zero, Nat.sub_zero]
  by_cases h : k ≤ l.length
  · rw [Nat.min_eq_left h]
  · rw [Nat.min_eq_right (by omega), List.take_length, List.take_of_length_le (by omega)]
theorem emp_eq : Str.ofString "" = ⟨([] : List Nat).toArray⟩ := by decide +kernel
theorem mk_app (l m : List Nat) : ((⟨l.toArray⟩ : Str) ++ (⟨m.toArray⟩ : Str)) = ⟨(l ++ m).toArray⟩ := by
  show Str.mk (l.toArray ++ m.toArray) = _
  simp
theorem mk_inj {l m : List Nat} : ((⟨l.toArray⟩ : Str) = ⟨m.toArray⟩) ↔ l = m := by
  constructor
  · intro h; injection h with h; injection h
  · rintro rfl; rfl
theorem mk_len (l : List Nat) : (⟨l.toArray⟩ : Str).length = l.length := by simp [Str.length]

theorem tilde_eq : Str.ofString "~" = ⟨[126].toArray⟩ := by decide +kernel
theorem slice_1 (l : List Nat) : Txt.slice (⟨l.toArray⟩ : Str) (some 1) none = ⟨(l.drop 1).toArray⟩ := slice_from l 1
theorem at_mod' (l : List Nat) (m k : Int) (h0 : 0 < k) (h : k ≤ l.length) : ∃ a, a ∈ l ∧ atI l (m % k) = some a := by
  have h1 := Int.emod_nonneg m (show k ≠ 0 by omega)
  have h2 := Int.emod_lt_of_pos m h0
  have h3 : (m % k).toNat < l.length := by omega
  refine ⟨l[(m % k).toNat], List.getElem_mem _, ?_⟩
  have := atI_nat (xs := l) (j := (m % k).toNat) (v := l[(m % k).toNat]) (by simp [h3])
  rw [Int.toNat_of_nonneg h1] at this
  exact this
/-! ### written texts -/
def isPl (c : Nat) : Bool := decide (48 ≤ c ∧ c ≤ 57) || decide (65 ≤ c ∧ c ≤ 90) || decide (97 ≤ c ∧ c ≤ 122) || decide (c = 45) || decide (c = 46) || decide (c = 95)
def wr1 (c : Nat) : List Nat := if isPl c then [c] else [126, hexd (c / 16), hexd (c % 16)]
def wr (l : List Nat) : List Nat := l.flatMap wr1
theorem wr1_len (c : Nat) : (wr1 c).length ≤ 3 := by unfold wr1; split <;> simp
theorem wr_len (l : List Nat) : (wr l).length ≤ 3 * l.length := by
  induction l with
  | nil => simp [wr]
  | cons c r ih =>
    have := wr1_len c
    unfold wr at ih ⊢
    rw [List.flatMap_cons, List.length_append, List.length_cons]
    omega
/-! ### texts undone -/
/-! ### what the laws draw -/
def sgAt (c : Int) : Nat := SG.getD (c % 94).toNat 32
theorem sgAt_at (c : Int) : atI SG (c % 94) = some (sgAt c) ∧ isSg (sgAt c) = true := by
  have h1 := Int.emod_nonneg c (show (94 : Int) ≠ 0 by decide)
  have h2 := Int.emod_lt_of_pos c (show (0 : Int) < 94 by decide)
  have h3 : (c % 94).toNat < SG.length := by rw [SG_len]; omega
  have e : SG[(c % 94).toNat]? = some (sgAt c) := by
    unfold sgAt
    rw [List.getElem?_eq_getElem h3, List.getD_eq_getElem?_getD, List.getElem?_eq_getElem h3]
    rfl
  refine ⟨?_, mem_SG.mp (List.mem_of_getElem? e)⟩
  have := atI_nat e
  rw [Int.toNat_of_nonneg h1] at this
  exact this
theorem cell_of {ns : List Int} {k : Nat} (h : k < ns.length) : atI (ns.map V.int) (k : Int) = some (.int (ns.getD k 0)) := by
  refine atI_nat ?_
  rw [List.getElem?_map, List.getElem?_eq_getElem h, List.getD_eq_getElem?_getD, List.getElem?_eq_getElem h]
  rfl
theorem le_line {n : Nat} (h : n ≤ 100000) : n ≤ sizeLine := Nat.le_trans h (by decide)
theorem map_arr (f : Nat → Nat) (l : List Nat) : (l.toArray).map f = (l.map f).toArray := by simp
theorem mk_list (l : List Nat) : (⟨l.toArray⟩ : Str).cps.toList = l := rfl
theorem same_upd {H : Hp} {p : Addr} {o : HO} (hp : H p = none) : Same H (upd H p o) := fun b u e => by rw [upd_ne (ne_of_none e hp)]; exact e
theorem SG_line : SG.length ≤ sizeLine := le_line (by rw [SG_len]; decide)

theorem at_modV (xs : List V) (m k : Int) (h0 : 0 < k) (h : k ≤ xs.length) : ∃ a, a ∈ xs ∧ atI xs (m % k) = some a := by
  have h1 := Int.emod_nonneg m (show k ≠ 0 by omega)
  have h2 := Int.emod_lt_of_pos m h0
  have h3 : (m % k).toNat < xs.length := by omega
  refine ⟨xs[(m % k).toNat], List.getElem_mem _, ?_⟩
  have := atI_nat (xs := xs) (j := (m % k).toNat) (v := xs[(m % k).toNat]) (by simp [h3])
  rw [Int.toNat_of_nonneg h1] at this
  exact this
def hit (a b c : Nat) : Bool := decide ([hexd (c / 16), hexd (c % 16)] = [PyProof.Rows.lo1 a, PyProof.Rows.lo1 b])
end Wm
/-! ADDRESSES as data: what is_address tells, over trees -/
namespace Wm
open PySem L2
mutual
def smallD : PyData → Bool
  | .str x => decide (x.length ≤ 100000)
  | .list xs => decide (xs.length ≤ 100000) && smallAll xs
  | .tuple xs => decide (xs.length ≤ 100000) && smallAll xs
  | .dict _ => false
  | .none => true
  | .bool _ => true
  | .int _ => true
def smallAll : List PyData → Bool
  | [] => true
  | d :: ds => smallD d && smallAll ds
end
theorem smallAll_of : ∀ {ds : List PyData}, (∀ d ∈ ds, smallD d = true) → smallAll ds = true
  | [], _ => rfl
  | d :: ds, h => by
    simp only [smallAll, Bool.and_eq_true]
    exact ⟨h d List.mem_cons_self, smallAll_of fun e he => h e (List.mem_cons_of_mem _ he)⟩
theorem small_tup_of {ds : List PyData} (h : ds.length ≤ 100000) (h2 : smallAll ds = true) : smallD (.tuple ds) = true := by simp [smallD, h, h2]
def isLet (c : Nat) : Bool := decide (65 ≤ c ∧ c ≤ 90) || decide (97 ≤ c ∧ c ≤ 122)
def isAln (c : Nat) : Bool := isLet c || decide (48 ≤ c ∧ c ≤ 57)
/-- a text of signs -/
def tx : PyData → Bool
  | .str x => x.cps.toList.all isSg
  | _ => false
def ftx : PyData → Bool
  | .str x => x.cps.toList.all isSg && decide (0 < x.length)
  | _ => false
def ntx : PyData → Bool
  | .none => true
  | .str x => x.cps.toList.all isSg
  | _ => false
def schD : PyData → Bool
  | .str x => x.cps.toList.all isSg && decide (x.length ≤ 8) && (x.cps.toList.take 1).all isLet && x.cps.toList.all isAln
  | _ => false
def houD : PyData → Bool
  | .none => true
  | .str x => x.cps.toList.all isSg && decide (0 < x.length) && decide (x.length ≤ 60)
  | _ => false
def dooD : PyData → Bool
  | .none => true
  | .int i => decide (0 ≤ i) && decide (i ≤ 65535)
  | _ => false
def wayD : PyData → Bool
  | .tuple [a, b, c] => match a, b, c with
    | .bool r, .tuple ds, .bool e => ds.all ftx && (decide (0 < ds.length) || decide (r = e))
    | _, _, _ => false
  | _ => false
def askD : PyData → Bool
  | .tuple [a, b] => ftx a && ntx b
  | _ => false
def queD : PyData → Bool
  | .none => true
  | .tuple ds => ds.all askD
  | _ => false
def nonD : PyData → Bool
  | .none => true
  | _ => false
def agrD (a b c d : PyData) : Bool := (nonD c || !nonD b) && ((match d with | .tuple (.bool r :: _) => r | _ => false) || !((match a with | .str x => !decide (x = ⟨#[]⟩) | _ => false) || !nonD b))
def addrD : PyData → Bool
  | .tuple [a, b, c, d, e, f] => (schD a && (houD b && (dooD c && (wayD d && (queD e && ntx f))))) && agrD a b c d
  | _ => false
/-! ### an address -/
abbrev st (l : List Nat) : PyData := .str ⟨l.toArray⟩
def oD : Option (List Nat) → PyData
  | none => .none
  | some l => st l
def otV : Option (List Nat) → V
  | none => .non
  | some l => .str ⟨l.toArray⟩
theorem is_oD {H : Hp} (o : Option (List Nat)) : IsT H (oD o) (otV o) := by
  cases o with
  | none => exact .non
  | some x => exact .str _
def iD : Option Int → PyData
  | none => .none
  | some i => .int i
def qD : Option (List (List Nat × Option (List Nat))) → PyData
  | none => .none
  | some ps => .tuple (ps.map fun p => .tuple [st p.1, oD p.2])
structure Ad where
  scheme : List Nat
  house : Option (List Nat)
  door : Option Int
  rooted : Bool
  steps : List (List Nat)
  ends : Bool
  quest : Option (List (List Nat × Option (List Nat)))
  mark : Option (List Nat)
def Ad.way (x : Ad) : PyData := .tuple [.bool x.rooted, .tuple (x.steps.map st), .bool x.ends]
def Ad.data (x : Ad) : PyData := .tuple [st x.scheme, oD x.house, iD x.door, x.way, qD x.quest, oD x.mark]
/-- a text of signs of at most so many -/
def Tx (n : Nat) (l : List Nat) : Prop := l.length ≤ n ∧ ∀ c ∈ l, isSg c = true
structure Ad.Ok (x : Ad) : Prop where
  sch : x.scheme.length ≤ 8 ∧ (∀ c ∈ x.scheme, isAln c = true) ∧ ∀ c ∈ x.scheme.take 1, isLet c = true
  hou : ∀ l, x.house = some l → 0 < l.length ∧ Tx 60 l
  doo : ∀ i, x.door = some i → (0 ≤ i ∧ i ≤ 65535) ∧ x.house ≠ none
  stp : x.steps.length ≤ 40 ∧ ∀ l ∈ x.steps, 0 < l.length ∧ Tx 60 l
  roo : x.scheme ≠ [] ∨ x.house ≠ none → x.rooted = true
  end_ : x.steps = [] → x.ends = x.rooted
  que : ∀ ps, x.quest = some ps → ps.length ≤ 20 ∧ ∀ p ∈ ps, (0 < p.1.length ∧ Tx 6 p.1) ∧ ∀ v, p.2 = some v → Tx 6 v
  mar : ∀ l, x.mark = some l → Tx 60 l
theorem aln_sg {c : Nat} (h : isAln c = true) : isSg c = true := by
  simp only [isAln, isLet, Bool.or_eq_true, decide_eq_true_eq] at h
  simp only [isSg, Bool.and_eq_true, decide_eq_true_eq, Bool.not_eq_true', decide_eq_false_iff_not]
  omega
theorem st_len (l : List Nat) : (⟨l.toArray⟩ : Str).length = l.length := mk_len l
theorem small_st {l : List Nat} {n : Nat} (h : Tx n l) (hn : n ≤ 100000) : smallD (st l) = true := by
  simp only [smallD, st_len, decide_eq_true_eq]
  have := h.1
  omega
theorem small_oD {o : Option (List Nat)} {n : Nat} (h : ∀ l, o = some l → Tx n l) (hn : n ≤ 100000) : smallD (oD o) = true := by
  cases o with
  | none => rfl
  | some l => exact small_st (h l rfl) hn
theorem Ad.Ok.smallWay {x : Ad} (h : x.Ok) : smallD x.way = true := by
  have h1 : smallD (.tuple (x.steps.map st)) = true := small_tup_of (by rw [List.length_map]; have := h.stp.1; omega) (smallAll_of fun d hd => by
    obtain ⟨l, hl, rfl⟩ := List.mem_map.mp hd
    exact small_st (h.stp.2 l hl).2 (by decide))
  exact small_tup_of (by simp) (by simp only [smallAll, h1]; rfl)
theorem Ad.Ok.smallQ {x : Ad} (h : x.Ok) : smallD (qD x.quest) = true := by
  cases e : x.quest with
  | none => rfl
  | some ps =>
    have hq := h.que ps e
    refine small_tup_of (by rw [List.length_map]; have := hq.1; omega) (smallAll_of fun d hd => ?_)
    obtain ⟨p, hp, rfl⟩ := List.mem_map.mp hd
    obtain ⟨h1, h2⟩ := hq.2 p hp
    exact small_tup_of (by simp) (by simp only [smallAll, small_st h1.2 (by decide), small_oD h2 (by decide)]; rfl)
theorem Ad.Ok.smallS {x : Ad} (h : x.Ok) : smallD (st x.scheme) = true := small_st ⟨h.sch.1, fun c hc => aln_sg (h.sch.2.1 c hc)⟩ (by decide)
theorem Ad.Ok.smallH {x : Ad} (h : x.Ok) : smallD (oD x.house) = true := small_oD (fun l e => (h.hou l e).2) (by decide)
theorem Ad.Ok.smallI {x : Ad} (h : x.Ok) : smallD (iD x.door) = true := by cases x.door <;> rfl
theorem Ad.Ok.smallM {x : Ad} (h : x.Ok) : smallD (oD x.mark) = true := small_oD h.mar (by decide)
theorem Ad.Ok.small {x : Ad} (h : x.Ok) : smallD x.data = true :=
  small_tup_of (by simp) (by simp only [smallAll, h.smallS, h.smallH, h.smallI, h.smallWay, h.smallQ, h.smallM]; rfl)

/-! ### decks that are drawn from -/
def Deck (H : Hp) (p : Addr) (n : Nat) : Prop := ∃ a b c : Int, H p = some (.lst [.int a, .int b, .int c]) ∧ 0 ≤ c ∧ c ≤ n
theorem Deck.lst {H : Hp} {p : Addr} {n : Nat} (h : Deck H p n) : ∃ xs, H p = some (.lst xs) := by obtain ⟨a, b, c, h, _⟩ := h; exact ⟨_, h⟩
theorem Deck.le {H : Hp} {p : Addr} {n m : Nat} (h : Deck H p n) (hm : n ≤ m) : Deck H p m := by obtain ⟨a, b, c, h, h1, h2⟩ := h; exact ⟨a, b, c, h, h1, by omega⟩
theorem Deck.same {H H' : Hp} {p : Addr} {n : Nat} (h : Deck H p n) (sm : Same H H') : Deck H' p n := by obtain ⟨a, b, c, h, r⟩ := h; exact ⟨a, b, c, sm _ _ h, r⟩
theorem Deck.ne {H : Hp} {p q : Addr} {n : Nat} (h : Deck H p n) (hq : H q = none) : q ≠ p := by
  obtain ⟨xs, e⟩ := h.lst
  exact (ne_of_none e hq).symm
theorem Deck.upd {H : Hp} {p q : Addr} {n : Nat} {o : HO} (h : Deck H p n) (hq : q ≠ p) : Deck (upd H q o) p n := by
  obtain ⟨a, b, c, h, r⟩ := h
  exact ⟨a, b, c, by rw [upd_ne (Ne.symm hq)]; exact h, r⟩
theorem Deck.toT {H H' : Hp} {p : Addr} {n : Nat} (h : Deck H p n) (sb : SameBut p H H') : SameT H H' := by
  obtain ⟨xs, e⟩ := h.lst
  exact sb.toT e

theorem at_lt {α : Type} (l : List α) {r : Int} (h0 : 0 ≤ r) (h1 : r < l.length) : ∃ c, c ∈ l ∧ atI l r = some c := by
  have h3 : r.toNat < l.length := by omega
  refine ⟨l[r.toNat], List.getElem_mem _, ?_⟩
  have := atI_nat (xs := l) (j := r.toNat) (v := l[r.toNat]) (by simp [h3])
  rw [Int.toNat_of_nonneg h0] at this
  exact this
def AL : List Nat := (Str.ofString "abcdefghijklmnopqrstuvwxyzABCDEFGHIJKLMNOPQRSTUVWXYZ0123456789").cps.toList
theorem al_app : (Str.ofString "abcdefghijklmnopqrstuvwxyzABCDEFGHIJKLMNOPQRSTUVWXYZ" ++ Str.ofString "0123456789" : Str) = ⟨AL.toArray⟩ := by decide +kernel
theorem al_len : AL.length = 62 := by decide +kernel
theorem al_aln : ∀ c ∈ AL, isAln c = true := by decide +kernel
theorem al_let : ∀ i, i < 52 → ∃ c, AL[i]? = some c ∧ isLet c = true := by
  have h : ∀ i, i < 52 → (AL[i]?).any isLet = true := by decide +kernel
  intro i hi
  have := h i hi
  cases e : AL[i]? with
  | none => rw [e] at this; cases this
  | some c => rw [e] at this; exact ⟨c, rfl, this⟩
theorem pair_or_nil {α : Type} (l : List α) (c : α) : (l ++ [c]).take 1 = if l.length = 0 then [c] else l.take 1 := by
  cases l with
  | nil => rfl
  | cons a r => rfl

def itV : Option Int → V
  | none => .non
  | some i => .int i
theorem is_iD {H : Hp} (o : Option Int) : IsT H (iD o) (itV o) := by
  cases o with
  | none => exact .non
  | some x => exact .int _
theorem lay_strs : ∀ {ss : List (List Nat)}, (∀ l ∈ ss, ∀ c ∈ l, isSg c = true) → PyData.canLayAll0 (ss.map st) = true ∧ PyData.depthAll (ss.map st) = 0
  | [], _ => ⟨rfl, rfl⟩
  | l :: r, h => by
    obtain ⟨h1, h2⟩ := lay_strs (ss := r) fun l' hl' => h l' (List.mem_cons_of_mem _ hl')
    have hc : PyData.strOk ⟨l.toArray⟩ = true := by
      simp only [PyData.strOk, List.all_toArray, List.all_eq_true, decide_eq_true_eq]
      intro c hc
      have := isSg_lt (h l List.mem_cons_self c hc)
      omega
    refine ⟨?_, ?_⟩
    · simp only [List.map_cons, PyData.canLayAll0, PyData.canLay0, hc, h1]; rfl
    · simp only [List.map_cons, PyData.depthAll, PyData.depth, h2]; rfl
theorem shaped_steps {ss : List (List Nat)} (h : ∀ l ∈ ss, ∀ c ∈ l, isSg c = true) : SeqAt.shaped (.tuple (ss.map st)) = true := by
  obtain ⟨h1, h2⟩ := lay_strs h
  unfold SeqAt.shaped
  simp only [PyData.canLay0, PyData.depth, h1, h2]
  decide
theorem eqv_nil (ds : List PyData) : PyData.eqv (.tuple ds) (.tuple []) = ds.isEmpty := by
  cases ds <;> simp [PyData.eqv, PyData.eqvAll]
theorem mk_nil {l : List Nat} : ((⟨l.toArray⟩ : Str) = ⟨#[]⟩) ↔ l = [] := mk_inj (m := [])

/-! ### things that are none -/
def Bad (f : PyData → Bool) (H : Hp) (v : V) : Prop := ∃ d, Is H d v ∧ smallD d = true ∧ f d = false
theorem Bad.mono {f : PyData → Bool} {H H' : Hp} {v : V} (h : Bad f H v) (sm : Same H H') : Bad f H' v := by
  obtain ⟨d, h1, h2⟩ := h
  exact ⟨d, h1.mono sm, h2⟩
def Bads (f : PyData → Bool) (H : Hp) (vs : List V) : Prop := ∀ v ∈ vs, Bad f H v
theorem Bads.nil {f : PyData → Bool} {H : Hp} : Bads f H [] := fun v h => absurd h (by simp)
theorem Bads.cons {f : PyData → Bool} {H : Hp} {v : V} {vs : List V} (h : Bad f H v) (r : Bads f H vs) : Bads f H (v :: vs) := fun w hw => by
  rcases List.mem_cons.mp hw with rfl | hw
  · exact h
  · exact r w hw
theorem Bads.mono {f : PyData → Bool} {H H' : Hp} {vs : List V} (h : Bads f H vs) (sm : Same H H') : Bads f H' vs := fun v hv => (h v hv).mono sm
/-! ### one list left out of sight (it will be written to) -/
def HQ (qo : Option Addr) (H : Hp) : Prop := ∀ q, qo = some q → ∃ xs, H q = some (.lst xs)
theorem HQ.mono {qo : Option Addr} {H H' : Hp} (h : HQ qo H) (sm : Same H H') : HQ qo H' := fun q e => by
  obtain ⟨xs, hx⟩ := h q e
  exact ⟨xs, sm _ _ hx⟩
/-- six things of which one is none of its kind -/
def BadL (H : Hp) (xs : List V) : Prop := ∃ ds, IsAll H ds xs ∧ ds.length = 6 ∧ smallAll ds = true ∧ addrD (.tuple ds) = false

theorem Bads.pick {f : PyData → Bool} {H : Hp} {xs : List V} (hb : Bads f H xs) (m k : Int) (h0 : 0 < k) (hl : k ≤ xs.length) : ∃ w, Bad f H w ∧ atI xs (m % k) = some w := by
  obtain ⟨w, hw, hat⟩ := at_modV xs m k h0 hl
  exact ⟨w, hb w hw, hat⟩
theorem same_over {q : Addr} {H H' : Hp} {o : HO} (hq : H q = none) (sm : Same H H') : Same H (upd H' q o) := fun b u e => by
  rw [upd_ne (ne_of_none e hq)]; exact sm _ _ e
theorem BadL.mono {H H' : Hp} {xs : List V} (h : BadL H xs) (sm : Same H H') : BadL H' xs := by
  obtain ⟨ds, r, h⟩ := h
  exact ⟨ds, r.mono sm, h⟩
end Wm
/-! SHOWING, as mathematics: the text of an address; unlike addresses have unlike texts -/
namespace Wm
open PySem L2
def dg (i : Int) : List Nat := (Str.ofString (toString i)).cps.toList
theorem dg_len {i : Int} (hi : 0 ≤ i) (hi' : i ≤ 65535) : (dg i).length ≤ 5 := by
  have := PyProof.Rows.toString_length_le hi (k := 5) (by decide) (by omega)
  simpa [dg, Str.length] using this

/-! ### cutting at the first sign that parts -/
def Hd (p : Nat → Bool) (r : List Nat) : Prop := ∀ c r', r = c :: r' → p c = true
theorem Hd.nil {p : Nat → Bool} : Hd p [] := fun c r' h => by cases h
theorem Hd.cons {p : Nat → Bool} {c : Nat} {r : List Nat} (h : p c = true) : Hd p (c :: r) := fun d r' e => by injection e with e; exact e ▸ h
/-! ### what is written -/
/-! ### pieces with a sign between two -/
def tlT (sep : Nat) : List (List Nat) → List Nat
  | [] => []
  | s :: r => sep :: (s ++ tlT sep r)
def joinT (sep : Nat) : List (List Nat) → List Nat
  | [] => []
  | s :: r => s ++ tlT sep r
def Free (sep : Nat) (ss : List (List Nat)) : Prop := ∀ s ∈ ss, ∀ c ∈ s, c ≠ sep
theorem Free.hd {sep : Nat} {s : List Nat} {ss : List (List Nat)} (h : Free sep (s :: ss)) : ∀ c ∈ s, (fun c => decide (c = sep)) c = false := fun c hc => decide_eq_false (h s (List.mem_cons_self ..) c hc)
theorem Free.tl {sep : Nat} {s : List Nat} {ss : List (List Nat)} (h : Free sep (s :: ss)) : Free sep ss := fun t ht => h t (List.mem_cons_of_mem _ ht)
/-! ### the parts of an address, and the whole -/
def oT (sep : Nat) : Option (List Nat) → List Nat
  | none => []
  | some l => sep :: wr l
def pairT (p : List Nat × Option (List Nat)) : List Nat := wr p.1 ++ oT 61 p.2
def queT : Option (List (List Nat × Option (List Nat))) → List Nat
  | none => []
  | some ps => 63 :: joinT 38 (ps.map pairT)
def wayT (r : Bool) (ss : List (List Nat)) (e : Bool) : List Nat := (if r then [47] else []) ++ (joinT 47 (ss.map wr) ++ (if e && !ss.isEmpty then [47] else []))
def dooT : Option Int → List Nat
  | none => []
  | some i => 58 :: dg i
def houT : Option (List Nat) → List Nat
  | none => []
  | some l => 47 :: 47 :: wr l
def schT (s : List Nat) : List Nat := if s = [] then [] else s ++ [58]
def Ad.wayT (x : Ad) : List Nat := Wm.wayT x.rooted x.steps x.ends
def Ad.shw (x : Ad) : List Nat := schT x.scheme ++ (houT x.house ++ (dooT x.door ++ (x.wayT ++ (queT x.quest ++ oT 35 x.mark))))
/-- a pair whose name has a sign, of signs -/
def PairOk (p : List Nat × Option (List Nat)) : Prop := (0 < p.1.length ∧ ∀ c ∈ p.1, isSg c = true) ∧ ∀ v, p.2 = some v → ∀ c ∈ v, isSg c = true
def StepOk (s : List Nat) : Prop := 0 < s.length ∧ ∀ c ∈ s, isSg c = true
/-- what the document asks of an address, without the bounds of those that are drawn -/
structure Ad.Wf (x : Ad) : Prop where
  sch : x.scheme.length ≤ 8 ∧ (∀ c ∈ x.scheme, isAln c = true) ∧ ∀ c ∈ x.scheme.take 1, isLet c = true
  hou : ∀ l, x.house = some l → (0 < l.length ∧ l.length ≤ 60) ∧ ∀ c ∈ l, isSg c = true
  doo : ∀ i, x.door = some i → (0 ≤ i ∧ i ≤ 65535) ∧ x.house ≠ none
  stp : ∀ s ∈ x.steps, StepOk s
  roo : x.scheme ≠ [] ∨ x.house ≠ none → x.rooted = true
  end_ : x.steps = [] → x.ends = x.rooted
  que : ∀ ps, x.quest = some ps → ∀ p ∈ ps, PairOk p
  mar : ∀ l, x.mark = some l → ∀ c ∈ l, isSg c = true
theorem Ad.Ok.wf {x : Ad} (h : x.Ok) : x.Wf where
  sch := h.sch
  hou := fun l e => ⟨⟨(h.hou l e).1, (h.hou l e).2.1⟩, (h.hou l e).2.2⟩
  doo := h.doo
  stp := fun s hs => ⟨(h.stp.2 s hs).1, (h.stp.2 s hs).2.2⟩
  roo := h.roo
  end_ := h.end_
  que := fun ps e p hp => ⟨⟨((h.que ps e).2 p hp).1.1, ((h.que ps e).2 p hp).1.2.2⟩, fun v hv => (((h.que ps e).2 p hp).2 v hv).2⟩
  mar := fun l e => (h.mar l e).2
/-- house, door and way -/
def Ad.mid (x : Ad) : List Nat := houT x.house ++ (dooT x.door ++ x.wayT)
def Ad.pre (x : Ad) : List Nat := schT x.scheme ++ x.mid
/-! ### addresses as data: when two are ==, and that == may be asked of them -/
theorem eqv_st (l m : List Nat) : PyData.eqv (st l) (st m) = true ↔ l = m := by
  simp only [PyData.eqv, beq_iff_eq]; exact mk_inj
theorem eqv_oD (a b : Option (List Nat)) : PyData.eqv (oD a) (oD b) = true ↔ a = b := by
  match a, b with
  | none, none => simp [oD, PyData.eqv]
  | none, some m => simp [oD, PyData.eqv]
  | some l, none => simp [oD, PyData.eqv]
  | some l, some m => exact (eqv_st l m).trans (by simp)
theorem eqv_iD (a b : Option Int) : PyData.eqv (iD a) (iD b) = true ↔ a = b := by
  match a, b with
  | none, none => simp [iD, PyData.eqv]
  | none, some m => simp [iD, PyData.eqv]
  | some l, none => simp [iD, PyData.eqv]
  | some l, some m => simp [iD, PyData.eqv]
theorem eqvAll_map {α : Type} {f : α → PyData} (hf : ∀ a b, PyData.eqv (f a) (f b) = true ↔ a = b) : ∀ (l m : List α), PyData.eqvAll (l.map f) (m.map f) = true ↔ l = m
  | [], [] => by simp [PyData.eqvAll]
  | [], b :: m => by simp [PyData.eqvAll]
  | a :: l, [] => by simp [PyData.eqvAll]
  | a :: l, b :: m => by
    simp only [List.map_cons, PyData.eqvAll, Bool.and_eq_true, List.cons.injEq]
    rw [hf a b, eqvAll_map hf l m]
theorem eqv_qD (a b : Option (List (List Nat × Option (List Nat)))) : PyData.eqv (qD a) (qD b) = true ↔ a = b := by
  match a, b with
  | none, none => simp [qD, PyData.eqv]
  | none, some m => simp [qD, PyData.eqv]
  | some l, none => simp [qD, PyData.eqv]
  | some l, some m =>
    simp only [qD, PyData.eqv, Option.some.injEq]
    refine eqvAll_map (fun a b => ?_) l m
    simp only [PyData.eqv, PyData.eqvAll, Bool.and_eq_true, Bool.and_true]
    rw [eqv_oD, beq_iff_eq]
    exact ⟨fun h => Prod.ext (mk_inj.mp h.1) h.2, fun h => by rw [h]; exact ⟨rfl, rfl⟩⟩
theorem eqv_way (x y : Ad) : PyData.eqv x.way y.way = true ↔ x.rooted = y.rooted ∧ x.steps = y.steps ∧ x.ends = y.ends := by
  simp only [Ad.way, PyData.eqv, PyData.eqvAll, Bool.and_eq_true, Bool.and_true, beq_iff_eq]
  rw [eqvAll_map eqv_st]
theorem Ad.eqv_iff (x y : Ad) : PyData.eqv x.data y.data = true ↔ x = y := by
  simp only [Ad.data, PyData.eqv, PyData.eqvAll, Bool.and_eq_true, Bool.and_true, beq_iff_eq]
  rw [eqv_oD, eqv_iD, eqv_way, eqv_qD, eqv_oD]
  cases x; cases y
  simp only [Ad.mk.injEq]
  constructor
  · rintro ⟨h1, h2, h3, ⟨h4, h5, h6⟩, h7, h8⟩
    exact ⟨mk_inj.mp h1, h2, h3, h4, h5, h6, h7, h8⟩
  · rintro ⟨h1, h2, h3, h4, h5, h6, h7, h8⟩
    exact ⟨by rw [h1], h2, h3, ⟨h4, h5, h6⟩, h7, h8⟩
def LayAt (n : Nat) (d : PyData) : Prop := d.canLay0 = true ∧ d.depth ≤ n
theorem LayAt.shaped {n : Nat} {d : PyData} (h : LayAt n d) (hn : n ≤ 64) : SeqAt.shaped d = true := by
  unfold SeqAt.shaped; rw [h.1, decide_eq_true (Nat.le_trans h.2 hn)]; rfl
theorem LayAt.le {n m : Nat} {d : PyData} (h : LayAt n d) (hn : n ≤ m) : LayAt m d := ⟨h.1, Nat.le_trans h.2 hn⟩
theorem layAll {n : Nat} : ∀ {ds : List PyData}, (∀ d ∈ ds, LayAt n d) → PyData.canLayAll0 ds = true ∧ PyData.depthAll ds ≤ n
  | [], _ => ⟨rfl, Nat.zero_le _⟩
  | d :: ds, h => by
    obtain ⟨h1, h2⟩ := layAll (ds := ds) fun e he => h e (List.mem_cons_of_mem _ he)
    have := h d (List.mem_cons_self ..)
    simp only [PyData.canLayAll0, PyData.depthAll, this.1, h1, Bool.and_self, true_and]
    exact Nat.max_le.mpr ⟨this.2, h2⟩
theorem LayAt.tup {n : Nat} {ds : List PyData} (h : ∀ d ∈ ds, LayAt n d) : LayAt (n + 1) (.tuple ds) := by
  obtain ⟨h1, h2⟩ := layAll h
  exact ⟨by simp only [PyData.canLay0, h1], by simp only [PyData.depth]; omega⟩
theorem LayAt.st {l : List Nat} (h : ∀ c ∈ l, isSg c = true) : LayAt 0 (st l) := by
  refine ⟨?_, Nat.le_refl _⟩
  simp only [PyData.canLay0, PyData.strOk, List.all_toArray, List.all_eq_true, decide_eq_true_eq]
  intro c hc
  have := isSg_lt (h c hc)
  omega
theorem LayAt.bool {b : Bool} : LayAt 0 (.bool b) := ⟨rfl, Nat.le_refl _⟩
theorem LayAt.oD {o : Option (List Nat)} (h : ∀ l, o = some l → ∀ c ∈ l, isSg c = true) : LayAt 0 (oD o) := by
  cases o with
  | none => exact ⟨rfl, Nat.le_refl _⟩
  | some l => exact .st (h l rfl)
theorem LayAt.iD {o : Option Int} : LayAt 0 (iD o) := by
  cases o with
  | none => exact ⟨rfl, Nat.le_refl _⟩
  | some l => exact ⟨rfl, Nat.le_refl _⟩
theorem LayAt.qD {q : Option (List (List Nat × Option (List Nat)))} (h : ∀ ps, q = some ps → ∀ p ∈ ps, PairOk p) : LayAt 2 (qD q) := by
  cases q with
  | none => exact ⟨rfl, Nat.zero_le _⟩
  | some ps =>
    refine .tup (n := 1) fun d hd => ?_
    obtain ⟨p, hp, rfl⟩ := List.mem_map.mp hd
    have hk := h ps rfl p hp
    refine .tup (n := 0) fun e he => ?_
    simp only [List.mem_cons, List.not_mem_nil, or_false] at he
    rcases he with rfl | rfl
    · exact .st hk.1.2
    · exact .oD hk.2
theorem Ad.Wf.layWay {x : Ad} (h : x.Wf) : LayAt 2 x.way := by
  refine .tup (n := 1) fun e he => ?_
  simp only [List.mem_cons, List.not_mem_nil, or_false] at he
  rcases he with rfl | rfl | rfl
  · exact LayAt.bool.le (by decide)
  · refine .tup (n := 0) fun d hd => ?_
    obtain ⟨s, hs, rfl⟩ := List.mem_map.mp hd
    exact .st (h.stp s hs).2
  · exact LayAt.bool.le (by decide)
theorem Ad.Wf.lay {x : Ad} (h : x.Wf) : LayAt 3 x.data := by
  refine .tup (n := 2) fun e he => ?_
  simp only [List.mem_cons, List.not_mem_nil, or_false] at he
  rcases he with rfl | rfl | rfl | rfl | rfl | rfl
  · exact (LayAt.st fun c hc => aln_sg (h.sch.2.1 c hc)).le (by decide)
  · exact (LayAt.oD fun l e => (h.hou l e).2).le (by decide)
  · exact LayAt.iD.le (by decide)
  · exact h.layWay
  · exact .qD h.que
  · exact (LayAt.oD h.mar).le (by decide)
theorem Ad.Wf.shaped {x : Ad} (h : x.Wf) : SeqAt.shaped x.data = true := h.lay.shaped (by decide)
end Wm
namespace Wm
open PySem L2
/-! ### data of tuples, taken apart -/
theorem isT_st {H : Hp} {l : List Nat} {v : V} (h : IsT H (st l) v) : v = .str ⟨l.toArray⟩ := by cases h; rfl
theorem isT_oD {H : Hp} {o : Option (List Nat)} {v : V} (h : IsT H (oD o) v) : v = otV o := by
  cases o with
  | none => cases h; rfl
  | some l => exact isT_st h
theorem isT_iD {H : Hp} {o : Option Int} {v : V} (h : IsT H (iD o) v) : v = itV o := by
  cases o with
  | none => cases h; rfl
  | some l => cases h; rfl
theorem isT_bool {H : Hp} {b : Bool} {v : V} (h : IsT H (.bool b) v) : v = .bl b := by cases h; rfl
theorem isT_tup {H : Hp} {ds : List PyData} {v : V} (h : IsT H (.tuple ds) v) : ∃ p xs, v = .ref p ∧ H p = some (.tup xs) ∧ IsTAll H ds xs := by
  cases h with
  | tup h1 h2 => exact ⟨_, _, rfl, h1, h2⟩
theorem isT3 {H : Hp} {a b c : PyData} {v : V} (h : IsT H (.tuple [a, b, c]) v) : ∃ p x y z, v = .ref p ∧ H p = some (.tup [x, y, z]) ∧ IsT H a x ∧ IsT H b y ∧ IsT H c z := by
  obtain ⟨p, xs, rfl, hp, r⟩ := isT_tup h
  cases r with
  | cons h1 r => cases r with
    | cons h2 r => cases r with
      | cons h3 r => cases r; exact ⟨p, _, _, _, rfl, hp, h1, h2, h3⟩
theorem isT6 {H : Hp} {a b c d e f : PyData} {v : V} (h : IsT H (.tuple [a, b, c, d, e, f]) v) : ∃ p x0 x1 x2 x3 x4 x5, v = .ref p ∧ H p = some (.tup [x0, x1, x2, x3, x4, x5]) ∧ IsT H a x0 ∧ IsT H b x1 ∧ IsT H c x2 ∧ IsT H d x3 ∧ IsT H e x4 ∧ IsT H f x5 := by
  obtain ⟨p, xs, rfl, hp, r⟩ := isT_tup h
  cases r with
  | cons h1 r => cases r with
    | cons h2 r => cases r with
      | cons h3 r => cases r with
        | cons h4 r => cases r with
          | cons h5 r => cases r with
            | cons h6 r => cases r; exact ⟨p, _, _, _, _, _, _, rfl, hp, h1, h2, h3, h4, h5, h6⟩
/-- the way of an address as it lies -/
theorem isT_steps {H : Hp} : ∀ {ss : List (List Nat)} {xs : List V}, IsTAll H (ss.map st) xs → xs = ss.map fun l => V.str ⟨l.toArray⟩
  | [], _, h => by cases h; rfl
  | s :: ss, _, h => by
    cases h with
    | cons h1 h2 => rw [isT_st h1, isT_steps h2]; rfl
end Wm
namespace Wm
/-- how large an address may be that is shown -/
structure Ad.Sz (x : Ad) : Prop where
  stp : ∀ s ∈ x.steps, s.length ≤ 2000
  que : ∀ ps, x.quest = some ps → ps.length ≤ 2000 ∧ ∀ p ∈ ps, p.1.length ≤ 2000 ∧ ∀ v, p.2 = some v → v.length ≤ 2000
  mar : ∀ l, x.mark = some l → l.length ≤ 2000
  num : x.steps.length ≤ 2000
  all : x.shw.length ≤ 90000
end Wm
namespace Wm
theorem lg {i : Int} (h : 0 ≤ i) (h' : i ≤ 65535) : i.natAbs.log2 < 1920 := by
  by_cases h0 : i.natAbs = 0
  · rw [h0]; simp
  · refine (Nat.log2_lt h0).mpr (Nat.lt_of_lt_of_le (show i.natAbs < 2 ^ 16 by omega) (Nat.pow_le_pow_right (by decide) (by decide)))
end Wm
namespace Wm
end Wm
namespace Wm
open PySem L2
end Wm
namespace Wm
open PySem L2
end Wm
namespace Wm
open PySem L2
theorem tl_bound {sep m : Nat} : ∀ {ys : List (List Nat)}, (∀ s ∈ ys, s.length ≤ m) → (tlT sep ys).length ≤ ys.length * (m + 1)
  | [], _ => by simp [tlT]
  | y :: r, h => by
    have h1 := h y (List.mem_cons_self ..)
    have h2 := tl_bound (sep := sep) (ys := r) fun s hs => h s (List.mem_cons_of_mem _ hs)
    simp only [tlT, List.length_cons, List.length_append, Nat.add_mul, Nat.one_mul]
    omega
theorem join_bound {sep m : Nat} {ys : List (List Nat)} (h : ∀ s ∈ ys, s.length ≤ m) : (joinT sep ys).length ≤ ys.length * (m + 1) := by
  cases ys with
  | nil => simp [joinT]
  | cons y r =>
    have h1 := h y (List.mem_cons_self ..)
    have h2 := tl_bound (sep := sep) (ys := r) fun s hs => h s (List.mem_cons_of_mem _ hs)
    simp only [joinT, List.length_cons, List.length_append, Nat.add_mul, Nat.one_mul]
    omega
theorem oT_len {sep n : Nat} {o : Option (List Nat)} (h : ∀ l, o = some l → l.length ≤ n) : (oT sep o).length ≤ 3 * n + 1 := by
  cases o with
  | none => simp [oT]
  | some l => have := h l rfl; have := wr_len l; simp only [oT, List.length_cons]; omega
theorem Ad.Ok.sz {x : Ad} (h : x.Ok) : x.Sz where
  stp := fun s hs => Nat.le_trans (h.stp.2 s hs).2.1 (by decide)
  que := fun ps e => ⟨Nat.le_trans (h.que ps e).1 (by decide), fun p hp => ⟨Nat.le_trans ((h.que ps e).2 p hp).1.2.1 (by decide), fun v hv => Nat.le_trans (((h.que ps e).2 p hp).2 v hv).1 (by decide)⟩⟩
  mar := fun l e => Nat.le_trans (h.mar l e).1 (by decide)
  num := Nat.le_trans h.stp.1 (by decide)
  all := by
    have a1 : (schT x.scheme).length ≤ 9 := by
      unfold schT
      split
      · simp
      · have := h.sch.1; simp only [List.length_append, List.length_cons, List.length_nil]; omega
    have a2 : (houT x.house).length ≤ 200 := by
      cases hh : x.house with
      | none => simp [houT]
      | some l => have := (h.hou l hh).2.1; have := wr_len l; simp only [houT, List.length_cons]; omega
    have a3 : (dooT x.door).length ≤ 6 := by
      cases hh : x.door with
      | none => simp [dooT]
      | some i => have b := (h.doo i hh).1; have := dg_len b.1 b.2; simp only [dooT, List.length_cons]; omega
    have a4 : x.wayT.length ≤ 8000 := by
      have hj := join_bound (sep := 47) (m := 180) (ys := x.steps.map wr) fun s hs => by
        obtain ⟨t, ht, rfl⟩ := List.mem_map.mp hs
        have := wr_len t; have := (h.stp.2 t ht).2.1; omega
      rw [List.length_map] at hj
      have := h.stp.1
      have e1 : (if x.rooted then [47] else [] : List Nat).length ≤ 1 := by split <;> simp
      have e2 : (if x.ends && !x.steps.isEmpty then [47] else [] : List Nat).length ≤ 1 := by split <;> simp
      simp only [Ad.wayT, Wm.wayT, List.length_append]
      have : x.steps.length * (180 + 1) ≤ 40 * 181 := Nat.mul_le_mul this (Nat.le_refl _)
      omega
    have a5 : (queT x.quest).length ≤ 1000 := by
      cases hq : x.quest with
      | none => simp [queT]
      | some ps =>
        have hk := h.que ps hq
        have hj := join_bound (sep := 38) (m := 37) (ys := ps.map pairT) fun s hs => by
          obtain ⟨p, hp, rfl⟩ := List.mem_map.mp hs
          have h1 := (hk.2 p hp).1.2.1
          have h2 := oT_len (sep := 61) (n := 6) (o := p.2) fun v hv => ((hk.2 p hp).2 v hv).1
          have := wr_len p.1
          simp only [pairT, List.length_append]
          omega
        rw [List.length_map] at hj
        have : ps.length * (37 + 1) ≤ 20 * 38 := Nat.mul_le_mul hk.1 (Nat.le_refl _)
        simp only [queT, List.length_cons]
        omega
    have a6 := oT_len (sep := 35) (n := 60) (o := x.mark) fun l e => (h.mar l e).1
    simp only [Ad.shw, List.length_append]
    omega
end Wm
namespace Wm
open PySem L2
theorem atI_0 {a : V} {r : List V} : atI (a :: r) 0 = some a := by
  unfold atI ixN
  simp
end Wm
namespace L2
open PySem
theorem IsTAll.get {H : Hp} : ∀ {ds : List PyData} {xs : List V} {i : Nat} {d : PyData} {x : V}, IsTAll H ds xs → ds[i]? = some d → xs[i]? = some x → IsT H d x
  | _, _, 0, _, _, .cons h _, h1, h2 => by
    simp only [List.getElem?_cons_zero, Option.some.injEq] at h1 h2
    subst h1 h2; exact h
  | _, _, i + 1, _, _, .cons _ r, h1, h2 => by
    simp only [List.getElem?_cons_succ] at h1 h2
    exact r.get h1 h2
end L2
/-! WAYS GONE, as mathematics: from the first step on (the document) and from the last one back (the laws) -/
namespace Wm
open PySem L2
abbrev Stp := List Nat
def sUp : Stp := [46, 46]
def sStay : Stp := [46]
def isDot (s : Stp) : Bool := decide (s = sUp) || decide (s = sStay)
theorem up_ne_stay : sUp ≠ sStay := by decide
theorem isDot_false {s : Stp} : isDot s = false ↔ s ≠ sUp ∧ s ≠ sStay := by simp [isDot]
/-- one step, from the first on: how many steps up stand ahead, and the steps put behind them, the last one first -/
def fwd (r : Bool) (q : Nat × List Stp) (s : Stp) : Nat × List Stp :=
  if s = sUp then (match q.2 with | [] => (if r then q.1 else q.1 + 1, []) | _ :: t => (q.1, t))
  else if s = sStay then q else (q.1, s :: q.2)
def goneS (r : Bool) (ss : List Stp) : List Stp := List.replicate (ss.foldl (fwd r) (0, [])).1 sUp ++ (ss.foldl (fwd r) (0, [])).2.reverse
/-- one step, from the last one back -/
def bwd1 (s : Stp) (q : Nat × List Stp) : Nat × List Stp :=
  if s = sUp then (q.1 + 1, q.2) else if s ≠ sStay ∧ 0 < q.1 then (q.1 - 1, q.2) else if s ≠ sStay then (q.1, s :: q.2) else q
def bwd (ss : List Stp) : Nat × List Stp := ss.foldr bwd1 (0, [])
theorem bwd_cons (s : Stp) (ss : List Stp) : bwd (s :: ss) = bwd1 s (bwd ss) := rfl
theorem fwd_bwd (r : Bool) : ∀ (ss : List Stp) (u : Nat) (ns : List Stp),
    ss.foldl (fwd r) (u, ns) = (if r then u else u + ((bwd ss).1 - ns.length), (bwd ss).2.reverse ++ ns.drop (bwd ss).1)
  | [], u, ns => by simp [bwd]
  | s :: ss, u, ns => by
    rw [List.foldl_cons, bwd_cons]
    by_cases h1 : s = sUp
    · cases ns with
      | nil =>
        rw [show fwd r (u, []) s = (if r then u else u + 1, []) by simp [fwd, h1], fwd_bwd r ss]
        cases r <;> simp [bwd1, h1]
        omega
      | cons a t =>
        rw [show fwd r (u, a :: t) s = (u, t) by simp [fwd, h1], fwd_bwd r ss]
        simp [bwd1, h1]
    · by_cases h2 : s = sStay
      · rw [show fwd r (u, ns) s = (u, ns) by simp [fwd, h1, h2, up_ne_stay.symm], fwd_bwd r ss]
        simp [bwd1, h2, up_ne_stay.symm]
      · rw [show fwd r (u, ns) s = (u, s :: ns) by simp [fwd, h1, h2], fwd_bwd r ss]
        by_cases h3 : 0 < (bwd ss).1
        · obtain ⟨k, hk⟩ : ∃ k, (bwd ss).1 = k + 1 := ⟨(bwd ss).1 - 1, by omega⟩
          simp [bwd1, h1, h2, hk]
        · have h0 : (bwd ss).1 = 0 := by omega
          simp [bwd1, h1, h2, h0]
theorem gone_bwd (r : Bool) (ss : List Stp) : goneS r ss = (if r then [] else List.replicate (bwd ss).1 sUp) ++ (bwd ss).2 := by
  unfold goneS
  rw [fwd_bwd]
  cases r <;> simp
theorem bwd_snd {ss : List Stp} : ∀ s ∈ (bwd ss).2, s ∈ ss ∧ isDot s = false := by
  induction ss with
  | nil => simp [bwd]
  | cons t ss ih =>
    intro s hs
    rw [bwd_cons] at hs
    unfold bwd1 at hs
    split at hs
    · exact ⟨List.mem_cons_of_mem _ (ih s hs).1, (ih s hs).2⟩
    · next h1 =>
      split at hs
      · exact ⟨List.mem_cons_of_mem _ (ih s hs).1, (ih s hs).2⟩
      · split at hs
        · next h2 =>
          rcases List.mem_cons.mp hs with rfl | hs
          · exact ⟨List.mem_cons_self .., isDot_false.mpr ⟨h1, h2⟩⟩
          · exact ⟨List.mem_cons_of_mem _ (ih s hs).1, (ih s hs).2⟩
        · exact ⟨List.mem_cons_of_mem _ (ih s hs).1, (ih s hs).2⟩
theorem bwd_len (ss : List Stp) : (bwd ss).1 + (bwd ss).2.length ≤ ss.length := by
  induction ss with
  | nil => simp [bwd]
  | cons t ss ih =>
    rw [bwd_cons]
    unfold bwd1
    split
    · simp; omega
    · split
      · simp; omega
      · split <;> simp <;> omega
theorem gone_len (r : Bool) (ss : List Stp) : (goneS r ss).length ≤ ss.length := by
  rw [gone_bwd]
  have := bwd_len ss
  cases r <;> simp <;> omega
theorem gone_mem {r : Bool} {ss : List Stp} : ∀ s ∈ goneS r ss, s ∈ ss ∧ isDot s = false ∨ r = false ∧ s = sUp := by
  intro s hs
  rw [gone_bwd] at hs
  rcases List.mem_append.mp hs with hs | hs
  · cases r with
    | true => cases hs
    | false => exact .inr ⟨rfl, (List.mem_replicate.mp (by simpa using hs)).2⟩
  · exact .inl (bwd_snd s hs)
theorem gone_nodot {ss : List Stp} : ∀ s ∈ goneS true ss, isDot s = false := fun s hs => by
  rcases gone_mem s hs with h | h
  · exact h.2
  · cases h.1
theorem fold_names (r : Bool) : ∀ (ns : List Stp) (u : Nat) (t : List Stp), (∀ s ∈ ns, isDot s = false) → ns.foldl (fwd r) (u, t) = (u, ns.reverse ++ t)
  | [], u, t, _ => by simp
  | s :: ns, u, t, h => by
    have := isDot_false.mp (h s (List.mem_cons_self ..))
    rw [List.foldl_cons, show fwd r (u, t) s = (u, s :: t) by simp [fwd, this.1, this.2], fold_names r ns u _ fun x hx => h x (List.mem_cons_of_mem _ hx)]
    simp
theorem fold_ups : ∀ (n u : Nat), (List.replicate n sUp).foldl (fwd false) (u, []) = (u + n, [])
  | 0, u => by simp
  | n + 1, u => by
    rw [List.replicate_succ, List.foldl_cons, show fwd false (u, []) sUp = (u + 1, []) by simp [fwd], fold_ups n (u + 1)]
    congr 1; omega
theorem gone_again (r : Bool) (ss : List Stp) : goneS r (goneS r ss) = goneS r ss := by
  rw [gone_bwd r ss]
  have hn : ∀ s ∈ (bwd ss).2, isDot s = false := fun s hs => (bwd_snd s hs).2
  cases r with
  | true =>
    simp only [if_true, List.nil_append]
    unfold goneS
    rw [fold_names true _ _ _ hn]; simp
  | false =>
    simp only [Bool.false_eq_true, if_false]
    unfold goneS
    rw [List.foldl_append, fold_ups, fold_names false _ _ _ hn]; simp
/-- the last step is a dot -/
def lastDot (ss : List Stp) : Bool := match ss.getLast? with | some s => isDot s | none => false
/-- a way gone -/
def goneW (r : Bool) (ss : List Stp) (e : Bool) : Bool × List Stp × Bool :=
  if ss = [] then (r, [], e) else if goneS r ss = [] then (r, if r then [] else [sStay], true) else (r, goneS r ss, e || lastDot ss)
theorem gone_nil (r : Bool) : goneS r [] = [] := by simp [goneS]
theorem goneW_fst (r : Bool) (ss : List Stp) (e : Bool) : (goneW r ss e).1 = r := by
  unfold goneW; split; rfl; split <;> rfl
theorem lastDot_cat {a b : List Stp} (h : b ≠ []) : lastDot (a ++ b) = lastDot b := by
  unfold lastDot; rw [List.getLast?_append]
  cases hb : b.getLast? with
  | none => exact absurd (List.getLast?_eq_none_iff.mp hb) h
  | some s => rfl
theorem lastDot_mem {ss : List Stp} (h : ∀ s ∈ ss, isDot s = false) : lastDot ss = false := by
  unfold lastDot
  cases hl : ss.getLast? with
  | none => rfl
  | some s => exact h s (List.mem_of_getLast? hl)
/-- where the last step left is a step up, the way's last step was a dot -/
theorem lastDot_gone {r : Bool} {ss : List Stp} (h : lastDot (goneS r ss) = true) : lastDot ss = true := by
  rw [gone_bwd] at h
  have hn : ∀ s ∈ (bwd ss).2, isDot s = false := fun s hs => (bwd_snd s hs).2
  by_cases h2 : (bwd ss).2 = []
  · rw [h2] at h
    cases r with
    | true => simp [lastDot] at h
    | false =>
      have hu : 0 < (bwd ss).1 := by
        by_cases h0 : (bwd ss).1 = 0
        · simp [h0, lastDot] at h
        · omega
      -- the last step can't be a name: it would be left
      cases hl : ss.getLast? with
      | none => rw [List.getLast?_eq_none_iff.mp hl] at hu; simp [bwd] at hu
      | some s =>
        unfold lastDot; rw [hl]
        show isDot s = true
        cases hd : isDot s with
        | true => rfl
        | false =>
          exfalso
          obtain ⟨pre, hp⟩ : ∃ pre, ss = pre ++ [s] := List.getLast?_eq_some_iff.mp hl
          have key : ∀ (pre : List Stp), s ∈ (bwd (pre ++ [s])).2 := by
            intro pre
            have hs := isDot_false.mp hd
            induction pre with
            | nil => simp [bwd, bwd1, hs.1, hs.2]
            | cons t pre ih =>
              rw [List.cons_append, bwd_cons]
              unfold bwd1
              split
              · exact ih
              · split
                · exact ih
                · split
                  · exact List.mem_cons_of_mem _ ih
                  · exact ih
          have := key pre
          rw [← hp, h2] at this; cases this
  · rw [lastDot_cat h2, lastDot_mem hn] at h; cases h
theorem goneW_again (r : Bool) (ss : List Stp) (e : Bool) : goneW (goneW r ss e).1 (goneW r ss e).2.1 (goneW r ss e).2.2 = goneW r ss e := by
  by_cases h1 : ss = []
  · simp [goneW, h1]
  · by_cases h2 : goneS r ss = []
    · cases r with
      | true => simp [goneW, h1, h2]
      | false =>
        have : goneS false [sStay] = [] := by decide
        simp [goneW, h1, h2, this]
    · have h3 : goneW r ss e = (r, goneS r ss, e || lastDot ss) := by simp [goneW, h1, h2]
      rw [h3]
      show goneW r (goneS r ss) (e || lastDot ss) = _
      have : goneW r (goneS r ss) (e || lastDot ss) = (r, goneS r (goneS r ss), (e || lastDot ss) || lastDot (goneS r ss)) := by
        unfold goneW; rw [if_neg h2, gone_again, if_neg h2]
      rw [this, gone_again]
      cases hl : lastDot (goneS r ss) with
      | false => simp
      | true => rw [lastDot_gone hl]; simp
end Wm
namespace Wm
open PySem L2
/-- the list that holds the state of going from the first step on -/
def stk (q : Nat × List Stp) : List Stp := List.replicate q.1 sUp ++ q.2.reverse
def goUp (r : Bool) (L : List Stp) : List Stp :=
  match L.getLast? with
  | some s => if s = sUp then (if r then L else L ++ [sUp]) else L.dropLast
  | none => if r then L else L ++ [sUp]
def StkOk (r : Bool) (q : Nat × List Stp) : Prop := (r = true → q.1 = 0) ∧ ∀ s ∈ q.2, s ≠ sUp
theorem goUp_fwd {r : Bool} {q : Nat × List Stp} (h : StkOk r q) : goUp r (stk q) = stk (fwd r q sUp) := by
  obtain ⟨u, t⟩ := q
  obtain ⟨h1, h2⟩ := h
  dsimp only at h1 h2
  unfold fwd stk
  rw [if_pos rfl]
  cases t with
  | cons a t =>
    have ha := h2 a (List.mem_cons_self ..)
    simp only [List.reverse_cons]
    rw [← List.append_assoc]
    unfold goUp
    rw [List.getLast?_concat]
    simp only [if_neg ha, List.dropLast_concat]
  | nil =>
    cases r with
    | true =>
      have e := h1 rfl
      subst e
      simp [goUp]
    | false =>
      simp only [List.reverse_nil, List.append_nil, Bool.false_eq_true, if_false]
      cases u with
      | zero => simp [goUp]
      | succ u =>
        have e : List.replicate (u + 1) sUp = List.replicate u sUp ++ [sUp] := List.replicate_succ'
        have e2 : List.replicate (u + 1 + 1) sUp = List.replicate (u + 1) sUp ++ [sUp] := List.replicate_succ'
        rw [e2]
        unfold goUp
        rw [e, List.getLast?_concat]
        simp
theorem StkOk.fwd {r : Bool} {q : Nat × List Stp} (h : StkOk r q) (s : Stp) : StkOk r (fwd r q s) := by
  obtain ⟨u, t⟩ := q
  obtain ⟨h1, h2⟩ := h
  dsimp only at h1 h2
  unfold Wm.fwd
  by_cases e : s = sUp
  · rw [if_pos e]
    cases t with
    | nil => exact ⟨fun z => by simp [z, h1 z], fun s hs => absurd hs (by simp)⟩
    | cons a t => exact ⟨h1, fun s hs => h2 s (List.mem_cons_of_mem _ hs)⟩
  · rw [if_neg e]
    by_cases e2 : s = sStay
    · rw [if_pos e2]; exact ⟨h1, h2⟩
    · rw [if_neg e2]
      refine ⟨h1, fun x hx => ?_⟩
      rcases List.mem_cons.mp hx with rfl | hx
      · exact e
      · exact h2 x hx
theorem stk_fwd_len (r : Bool) (q : Nat × List Stp) (s : Stp) : (stk (fwd r q s)).length ≤ (stk q).length + 1 := by
  obtain ⟨u, t⟩ := q
  unfold fwd stk
  by_cases e : s = sUp
  · rw [if_pos e]
    cases t with
    | nil => cases r <;> simp
    | cons a t => simp; omega
  · rw [if_neg e]
    by_cases e2 : s = sStay
    · rw [if_pos e2]; simp
    · rw [if_neg e2]; simp; omega
theorem stk_put {r : Bool} {q : Nat × List Stp} {s : Stp} (h1 : s ≠ sUp) (h2 : s ≠ sStay) : stk (fwd r q s) = stk q ++ [s] := by
  unfold fwd stk
  rw [if_neg h1, if_neg h2]; simp
theorem fwd_stay {r : Bool} {q : Nat × List Stp} : fwd r q sStay = q := by
  unfold fwd
  rw [if_neg up_ne_stay.symm, if_pos rfl]
def sofar (r : Bool) (ss : List Stp) (i : Nat) : Nat × List Stp := (ss.take i).foldl (fwd r) (0, [])
theorem sofar_ok (r : Bool) (ss : List Stp) : ∀ i, StkOk r (sofar r ss i) ∧ (stk (sofar r ss i)).length ≤ i
  | 0 => by simp [sofar, StkOk, stk]
  | i + 1 => by
    obtain ⟨h1, h2⟩ := sofar_ok r ss i
    unfold sofar at *
    rw [List.take_add_one]
    cases e : ss[i]? with
    | none => simpa using ⟨h1, by omega⟩
    | some s =>
      rw [List.foldl_append]
      simp only [Option.toList_some, List.foldl_cons, List.foldl_nil]
      have := stk_fwd_len r (List.foldl (fwd r) (0, []) (List.take i ss)) s
      exact ⟨h1.fwd s, by omega⟩
theorem sofar_next {r : Bool} {ss : List Stp} {i : Nat} {s : Stp} (h : ss[i]? = some s) : sofar r ss (i + 1) = fwd r (sofar r ss i) s := by
  unfold sofar
  rw [List.take_add_one, h, List.foldl_append]; rfl
theorem sofar_all (r : Bool) (ss : List Stp) : stk (sofar r ss ss.length) = goneS r ss := by
  unfold sofar; rw [List.take_length]; rfl
end Wm
/-! A TUPLE'S SLICE, the whole of it too -/
namespace L2
open PySem PySem.Spec PyProof.Rows HT
section
variable {prog : Program} {w : World} {A : Around} {E : Value → Shared → Prop} {s : Shared}
theorem getItem_tuple_same {t sl : Addr} {items : Array Value} {vl vu : Value} {lo hi : Option Int} {Q : Value → Shared → Prop} (ht : IsTup s.heap t items) (hs : s.heap.IsSliceOf sl vl vu .none) (pl : IsPart vl lo) (pu : IsPart vu hi)
    (hw : sIx items.size 0 lo = 0 ∧ sIx items.size items.size hi = items.size) (h : Q (.ref t) s) : wpAny (model prog w) A (getItem (.ref t) (.ref sl)) Q E s := by
  obtain ⟨os, hos, hcs, hds⟩ := id hs
  have hTs : s.TypeIs (.ref sl) "slice" := ⟨os, hos, hcs⟩
  unfold getItem
  try with_reducible refine wpAny_holding ?_
  first | refine wpAny_bind (wpAny_pure ?_) | skip
  refine wpAny_bind (wpAny_sequenceKey ht.typeIs (by decide) ?_)
  refine wpAny_bind (wpAny_callSpecial?_slot (name := Str.ofString "__getitem__") ht.typeIs PyProof.Rows.slot_tuple_getitem
    (wpAny_call_entry PyProof.Rows.slot_tuple_getitem ht.typeIs entry_tuple_getitem ?_ (args_tuple_getitem _ _)))
  show wpAny _ _ (Builtin.Tuple.tupleItemsOf (.ref t) >>= _) _ _ s
  refine wpAny_bind (tupleItemsOf_ ht ?_)
  refine wpAny_bind (wpAny_typeOf hTs ?_)
  rw [if_pos (by decide)]
  refine wpAny_bind (sliceApplied_gen hs pl pu ?_)
  show wpAny _ _ (if (((sIx items.size 0 lo : Nat) : Int) == 0 && (1 : Int) == 1 && (sIx items.size items.size hi - sIx items.size 0 lo) == items.size) = true then _ else _) _ _ s
  rw [if_pos (by rw [hw.1, hw.2]; simp)]
  refine wpAny_bind ?_
  show wpAny _ _ (typeOf (.ref t) >>= _) _ _ s
  refine wpAny_bind (wpAny_typeOf ht.typeIs (wpAny_pure ?_))
  rw [if_pos (by decide)]
  exact wpAny_bind (wpAny_rule (wpAny_pure ⟨_, rfl, wpAny_pure h⟩))
end
section
variable {X : Cx} {K : PySem.W.Frag}
def rSlTA : V → Option Int → Option Int → Hp → VK → Prop := fun x lo hi H Q => ∃ a xs, x = .ref a ∧ H a = some (.tup xs) ∧ ∀ p H', Same H H' → H' p = some (.tup (cutV xs lo hi)) → Q (.ref p) H'
theorem cutV_whole {xs : List V} {lo hi : Option Int} (h : sIx xs.length 0 lo = 0 ∧ sIx xs.length xs.length hi = xs.length) : cutV xs lo hi = xs := by
  unfold cutV
  rw [h.1, h.2, List.drop_zero, Nat.sub_zero, List.take_length]
theorem sl_tupA : SlR X rSlTA := by
  intro pins s σ H x v vl vu lo hi sl Q I rx hs pl pu h
  obtain ⟨a, xs, rfl, hx, q⟩ := h
  by_cases hw : sIx xs.length 0 lo = 0 ∧ sIx xs.length xs.length hi = xs.length
  · cases rx
    obtain ⟨its, r, ht, hz⟩ := I.tuple (SqT.of hx)
    have hlen : its.toArray.size = xs.length := by rw [List.size_toArray]; exact r.length.symm
    refine ⟨"tuple", _, PyProof.Rows.slot_tuple_getitem.lookup, ht.typeIs, ?_⟩
    exact getItem_tuple_same ht hs pl pu (by rw [hlen]; exact hw) ⟨.ref a, H, I, rfl, q a H (Same.refl _) (by rw [cutV_whole hw]; exact hx)⟩
  · exact sl_tup pins s σ H _ v vl vu lo hi sl Q I rx hs pl pu ⟨a, xs, rfl, SqT.of hx, hw, fun p hp => q p _ (same_new hp) upd_same⟩
theorem slTA_ref {a : Addr} {lo hi : Option Int} {H : Hp} {Q : VK} : rSlTA (.ref a) lo hi H Q ↔ ∃ xs, H a = some (.tup xs) ∧ ∀ p H', Same H H' → H' p = some (.tup (cutV xs lo hi)) → Q (.ref p) H' := by
  constructor
  · rintro ⟨p, bs, h1, h2⟩; cases h1; exact ⟨bs, h2⟩
  · rintro ⟨bs, h⟩; exact ⟨a, bs, rfl, h⟩
end
end L2
/-! DATA OF TUPLES that may be the module's own: a tuple that is tracked, or one of the module's constants -/
namespace L2
open PySem PySem.Spec PyProof.Rows HT
mutual
inductive IsK (K : PySem.W.Frag) (H : Hp) : PyData → V → Prop
  | non : IsK K H .none .non
  | bl (b : Bool) : IsK K H (.bool b) (.bl b)
  | int (i : Int) : IsK K H (.int i) (.int i)
  | str (x : Str) : IsK K H (.str x) (.str x)
  | tup {p : Addr} {xs : List V} {ds : List PyData} : SqT K H p xs → IsKAll K H ds xs → IsK K H (.tuple ds) (.ref p)
inductive IsKAll (K : PySem.W.Frag) (H : Hp) : List PyData → List V → Prop
  | nil : IsKAll K H [] []
  | cons {d : PyData} {x : V} {ds : List PyData} {xs : List V} : IsK K H d x → IsKAll K H ds xs → IsKAll K H (d :: ds) (x :: xs)
end
section
variable {K : PySem.W.Frag} {H H' : Hp}
mutual
theorem IsK.mono (sm : Same H H') : ∀ {d : PyData} {x : V}, IsK K H d x → IsK K H' d x
  | _, _, .non => .non
  | _, _, .bl b => .bl b
  | _, _, .int i => .int i
  | _, _, .str x => .str x
  | _, _, .tup h r => .tup (sm.tup h) (IsKAll.mono sm r)
theorem IsKAll.mono (sm : Same H H') : ∀ {ds : List PyData} {xs : List V}, IsKAll K H ds xs → IsKAll K H' ds xs
  | _, _, .nil => .nil
  | _, _, .cons h r => .cons (IsK.mono sm h) (IsKAll.mono sm r)
end
mutual
theorem IsT.k : ∀ {d : PyData} {x : V}, IsT H d x → IsK K H d x
  | _, _, .non => .non
  | _, _, .bl b => .bl b
  | _, _, .int i => .int i
  | _, _, .str x => .str x
  | _, _, .tup h r => .tup (SqT.of h) (IsTAll.k r)
theorem IsTAll.k : ∀ {ds : List PyData} {xs : List V}, IsTAll H ds xs → IsKAll K H ds xs
  | _, _, .nil => .nil
  | _, _, .cons h r => .cons (IsT.k h) (IsTAll.k r)
end
end
section
variable {X : Cx} {pins : List (Addr × Obj)} {σ : St} {H : Hp} {s : Shared}
mutual
theorem IsK.reads (I : Inv X pins σ H s) : ∀ {d : PyData} {x : V} {v : Value}, IsK X.K H d x → RelV x v → ∃ as, Reads s.heap v d as
  | _, _, _, .non, r => by cases r; exact ⟨_, .none⟩
  | _, _, _, .bl b, r => by cases r; exact ⟨_, .bool b⟩
  | _, _, _, .int i, r => by obtain ⟨t, rfl⟩ := r; exact ⟨_, .int i t⟩
  | _, _, _, .str x, r => by obtain ⟨t, rfl⟩ := r; exact ⟨_, .str x t⟩
  | _, _, _, .tup h q, r => by
    cases r
    obtain ⟨its, vs, ⟨o, e, c, n, dt⟩, _⟩ := I.tuple h
    obtain ⟨as, ra⟩ := IsKAll.reads I q vs
    exact ⟨_, .tuple e c dt (by simpa using ra)⟩
theorem IsKAll.reads (I : Inv X pins σ H s) : ∀ {ds : List PyData} {xs : List V} {vs : List Value}, IsKAll X.K H ds xs → Vals xs vs → ∃ as, ReadsAll s.heap vs ds as
  | _, _, _, .nil, r => by cases r; exact ⟨_, .nil⟩
  | _, _, _, .cons q t, r => by
    cases r with
    | cons r1 r2 =>
      obtain ⟨as, h1⟩ := IsK.reads I q r1
      obtain ⟨bs, h2⟩ := IsKAll.reads I t r2
      exact ⟨_, .cons h1 h2⟩
end
variable {K : PySem.W.Frag}
def rEqX (K : PySem.W.Frag) : R2 := fun x y H Q => ∃ d e, IsK K H d x ∧ IsK K H e y ∧ SeqAt.shaped d = true ∧ SeqAt.shaped e = true ∧ Q (.bl (PyData.eqv d e)) H
theorem op_eqX (hk : X.K = K) (hu : X.A.units + 64 < cLine) : OpR X (compareOp .Eq) (rEqX K) := by
  subst hk
  intro pins s σ H x y v u Q I rx ry h
  obtain ⟨d, e, hx, hy, sx, sy, q⟩ := h
  obtain ⟨as, ra⟩ := hx.reads I rx
  obtain ⟨bs, rb⟩ := hy.reads I ry
  exact eq_dataH ra rb sx sy hu ⟨.bl _, H, I, rfl, q⟩
/-- a tuple's slice -/
def rSlX (K : PySem.W.Frag) : V → Option Int → Option Int → Hp → VK → Prop := fun x lo hi H Q => ∃ a xs, x = .ref a ∧ SqT K H a xs ∧ ∀ p H', Same H H' → SqT K H' p (cutV xs lo hi) → Q (.ref p) H'
theorem sl_tupX (hk : X.K = K) : SlR X (rSlX K) := by
  subst hk
  intro pins s σ H x v vl vu lo hi sl Q I rx hs pl pu h
  obtain ⟨a, xs, rfl, hx, q⟩ := h
  by_cases hw : sIx xs.length 0 lo = 0 ∧ sIx xs.length xs.length hi = xs.length
  · cases rx
    obtain ⟨its, r, ht, hz⟩ := I.tuple hx
    have hlen : its.toArray.size = xs.length := by rw [List.size_toArray]; exact r.length.symm
    refine ⟨"tuple", _, PyProof.Rows.slot_tuple_getitem.lookup, ht.typeIs, ?_⟩
    exact getItem_tuple_same ht hs pl pu (by rw [hlen]; exact hw) ⟨.ref a, H, I, rfl, q a H (Same.refl _) (by rw [cutV_whole hw]; exact hx)⟩
  · exact sl_tup pins s σ H _ v vl vu lo hi sl Q I rx hs pl pu ⟨a, xs, rfl, hx, hw, fun p hp => q p _ (same_new hp) (SqT.of upd_same)⟩
theorem slX_ref {a : Addr} {lo hi : Option Int} {H : Hp} {Q : VK} : rSlX K (.ref a) lo hi H Q ↔ ∃ xs, SqT K H a xs ∧ ∀ p H', Same H H' → SqT K H' p (cutV xs lo hi) → Q (.ref p) H' := by
  constructor
  · rintro ⟨p, bs, h1, h2⟩; cases h1; exact ⟨bs, h2⟩
  · rintro ⟨bs, h⟩; exact ⟨a, bs, rfl, h⟩
/-- t + u of two tuples -/
def rCatX (K : PySem.W.Frag) : R2 := fun x y H Q => ∃ a b xs ys, x = .ref a ∧ y = .ref b ∧ SqT K H a xs ∧ SqT K H b ys ∧ xs.length + ys.length ≤ sizeLine ∧ ∀ p H', Same H H' → SqT K H' p (xs ++ ys) → Q (.ref p) H'
theorem op_catX (hk : X.K = K) : OpR X (binaryOp .Add) (rCatX K) := by
  subst hk
  intro pins s σ H x y v u Q I rx ry h
  obtain ⟨a, b, xs, ys, rfl, rfl, ha, hb, hz, q⟩ := h
  by_cases hx : xs = []
  · subst hx
    cases rx
    cases ry
    obtain ⟨its, r1, p1, _⟩ := I.tuple ha
    obtain ⟨its2, r2, p2, _⟩ := I.tuple hb
    cases r1
    obtain ⟨⟨cls, dd, data, sl⟩, ho, hc, n, hd⟩ := id p1
    obtain ⟨⟨cls2, dd2, data2, sl2⟩, ho2, hc2, n2, hd2⟩ := id p2
    simp only at hc hd hc2 hd2
    subst hc hd hc2 hd2
    exact concat_meets ⟨_, ho, rfl⟩ ⟨_, ho2, rfl⟩ noFill_tuple_add seq_tuple_add PySem.F.slot_tuple_add PySem.F.entry_tuple_add (PySem.F.args_tuple_add_2 _ _)
      (tuple_addW0 a b ([] : List Value).toArray its2.toArray n n2 dd dd2 sl sl2 rfl) ⟨ho, ho2, ⟨.ref b, H, I, rfl, q b H (Same.refl _) hb⟩⟩
  · refine op_catT pins s σ H _ _ v u Q I rx ry ⟨a, b, xs, ys, rfl, rfl, ha, hb, hx, hz, fun e => q a H (Same.refl _) (by rw [e, List.append_nil]; exact ha), fun _ p hp => q p _ (same_new hp) (SqT.of upd_same)⟩
theorem catX_ref {a b : Addr} {H : Hp} {Q : VK} : rCatX K (.ref a) (.ref b) H Q ↔ ∃ xs ys, SqT K H a xs ∧ SqT K H b ys ∧ xs.length + ys.length ≤ sizeLine ∧ ∀ p H', Same H H' → SqT K H' p (xs ++ ys) → Q (.ref p) H' := by
  constructor
  · rintro ⟨p, p', xs, ys, h1, h2, h3⟩; cases h1; cases h2; exact ⟨xs, ys, h3⟩
  · rintro ⟨xs, ys, h⟩; exact ⟨a, b, xs, ys, rfl, rfl, h⟩
/-- isinstance of one built-in kind -/
def KindK (K : PySem.W.Frag) (H : Hp) (x : V) (k : String) : Prop := kindV x H = some k ∨ ∃ a xs, x = .ref a ∧ SqT K H a xs ∧ k = "tuple"
theorem KindK.tup {K : PySem.W.Frag} {H : Hp} {a : Addr} {xs : List V} (h : SqT K H a xs) : KindK K H (.ref a) "tuple" := .inr ⟨a, xs, rfl, h, rfl⟩
def rIsiX (K : PySem.W.Frag) : List V → Hp → VK → Prop := fun vs H Q => match vs with
  | [x, .ty T] => ∃ k, KindK K H x k ∧ T ∈ ["bool", "int", "str", "list", "tuple"] ∧ Q (.bl (subT k T)) H
  | _ => False
theorem call_isiX (hk : X.K = K) : CallR X (.builtin "isinstance") (rIsiX K) := by
  subst hk
  intro pins s σ H xs us Q I r h
  unfold rIsiX at h
  split at h
  · rename_i x T
    obtain ⟨k, hk, hT, q⟩ := h
    rcases hk with hk | ⟨a, xs, rfl, ha, rfl⟩
    · exact call_isiU pins s σ H _ us Q I r ⟨k, hk, hT, q⟩
    · obtain ⟨u, v, rfl, ru, rv⟩ := vals2 r
      cases (show v = Value.type T from rv)
      cases (show u = Value.ref a from ru)
      obtain ⟨its, _, pt, _⟩ := I.tuple ha
      exact PySem.W.kia_one PySem.W.kitx_tuple I.kIn pt.typeIs (kit_tab X.K "tuple" (by decide) T hT) (fun z => nomatch z) fun tk => ⟨.bl _, H, I.tok tk, rfl, q⟩
  · exact h.elim
theorem isiX_any {x : V} {T : String} {H : Hp} {Q : VK} : rIsiX K [x, .ty T] H Q ↔ ∃ k, KindK K H x k ∧ T ∈ ["bool", "int", "str", "list", "tuple"] ∧ Q (.bl (subT k T)) H := Iff.rfl
end
end L2
namespace Wm
open PySem L2
section
variable {K : PySem.W.Frag} {H : Hp}
theorem isK_st {l : List Nat} {v : V} (h : IsK K H (st l) v) : v = .str ⟨l.toArray⟩ := by cases h; rfl
theorem isK_oD {o : Option (List Nat)} {v : V} (h : IsK K H (oD o) v) : v = otV o := by
  cases o with
  | none => cases h; rfl
  | some l => exact isK_st h
theorem isK_iD {o : Option Int} {v : V} (h : IsK K H (iD o) v) : v = itV o := by
  cases o with
  | none => cases h; rfl
  | some l => cases h; rfl
theorem isK_bool {b : Bool} {v : V} (h : IsK K H (.bool b) v) : v = .bl b := by cases h; rfl
theorem isK_tup {ds : List PyData} {v : V} (h : IsK K H (.tuple ds) v) : ∃ p xs, v = .ref p ∧ SqT K H p xs ∧ IsKAll K H ds xs := by
  cases h with
  | tup h1 h2 => exact ⟨_, _, rfl, h1, h2⟩
theorem isK2 {a b : PyData} {v : V} (h : IsK K H (.tuple [a, b]) v) : ∃ p x y, v = .ref p ∧ SqT K H p [x, y] ∧ IsK K H a x ∧ IsK K H b y := by
  obtain ⟨p, xs, rfl, hp, r⟩ := isK_tup h
  cases r with
  | cons h1 r => cases r with
    | cons h2 r => cases r; exact ⟨p, _, _, rfl, hp, h1, h2⟩
theorem isK3 {a b c : PyData} {v : V} (h : IsK K H (.tuple [a, b, c]) v) : ∃ p x y z, v = .ref p ∧ SqT K H p [x, y, z] ∧ IsK K H a x ∧ IsK K H b y ∧ IsK K H c z := by
  obtain ⟨p, xs, rfl, hp, r⟩ := isK_tup h
  cases r with
  | cons h1 r => cases r with
    | cons h2 r => cases r with
      | cons h3 r => cases r; exact ⟨p, _, _, _, rfl, hp, h1, h2, h3⟩
theorem isK6 {a b c d e f : PyData} {v : V} (h : IsK K H (.tuple [a, b, c, d, e, f]) v) : ∃ p x0 x1 x2 x3 x4 x5, v = .ref p ∧ SqT K H p [x0, x1, x2, x3, x4, x5] ∧ IsK K H a x0 ∧ IsK K H b x1 ∧ IsK K H c x2 ∧ IsK K H d x3 ∧ IsK K H e x4 ∧ IsK K H f x5 := by
  obtain ⟨p, xs, rfl, hp, r⟩ := isK_tup h
  cases r with
  | cons h1 r => cases r with
    | cons h2 r => cases r with
      | cons h3 r => cases r with
        | cons h4 r => cases r with
          | cons h5 r => cases r with
            | cons h6 r => cases r; exact ⟨p, _, _, _, _, _, _, rfl, hp, h1, h2, h3, h4, h5, h6⟩
theorem isK_steps : ∀ {ss : List (List Nat)} {xs : List V}, IsKAll K H (ss.map st) xs → xs = ss.map fun l => V.str ⟨l.toArray⟩
  | [], _, h => by cases h; rfl
  | s :: ss, _, h => by
    cases h with
    | cons h1 h2 => rw [isK_st h1, isK_steps h2]; rfl
theorem isKAll_sV : ∀ (ss : List (List Nat)), IsKAll K H (ss.map st) (ss.map fun l => V.str ⟨l.toArray⟩)
  | [] => .nil
  | s :: ss => .cons (.str _) (isKAll_sV ss)
theorem is_oK (o : Option (List Nat)) : IsK K H (oD o) (otV o) := (is_oD o).k
theorem is_iK (o : Option Int) : IsK K H (iD o) (itV o) := (is_iD o).k
/-- a way, opened -/
theorem isK_way {r e : Bool} {ss : List (List Nat)} {v : V} (h : IsK K H (.tuple [.bool r, .tuple (ss.map st), .bool e]) v) : ∃ p q, v = .ref p ∧ SqT K H p [.bl r, .ref q, .bl e] ∧ SqT K H q (ss.map fun l => V.str ⟨l.toArray⟩) := by
  obtain ⟨p, x, y, z, rfl, hp, h1, h2, h3⟩ := isK3 h
  cases isK_bool h1
  cases isK_bool h3
  obtain ⟨q, xs, rfl, hq, r⟩ := isK_tup h2
  cases isK_steps r
  exact ⟨p, q, rfl, hp, hq⟩
theorem wayK {r e : Bool} {ss : List (List Nat)} {p q : Addr} (hp : SqT K H p [.bl r, .ref q, .bl e]) (hq : SqT K H q (ss.map fun l => V.str ⟨l.toArray⟩)) : IsK K H (.tuple [.bool r, .tuple (ss.map st), .bool e]) (.ref p) :=
  .tup hp (.cons (.bl _) (.cons (.tup hq (isKAll_sV _)) (.cons (.bl _) .nil)))
/-- an address, opened -/
theorem isK_ad {x : Ad} {v : V} (h : IsK K H x.data v) : ∃ p w q, v = .ref p ∧ SqT K H p [.str ⟨x.scheme.toArray⟩, otV x.house, itV x.door, w, q, otV x.mark] ∧ IsK K H x.way w ∧ IsK K H (qD x.quest) q := by
  obtain ⟨p, x0, x1, x2, x3, x4, x5, rfl, hp, i0, i1, i2, i3, i4, i5⟩ := isK6 (show IsK K H (.tuple [st x.scheme, oD x.house, iD x.door, x.way, qD x.quest, oD x.mark]) v from h)
  cases isK_st i0
  cases isK_oD i1
  cases isK_iD i2
  cases isK_oD i5
  exact ⟨p, x3, x4, rfl, hp, i3, i4⟩
theorem adK {x : Ad} {p : Addr} {w q : V} (hp : SqT K H p [.str ⟨x.scheme.toArray⟩, otV x.house, itV x.door, w, q, otV x.mark]) (hw : IsK K H x.way w) (hq : IsK K H (qD x.quest) q) : IsK K H x.data (.ref p) :=
  .tup hp (.cons (.str _) (.cons (is_oK _) (.cons (is_iK _) (.cons hw (.cons hq (.cons (is_oK _) .nil))))))
end
end Wm
/-! A LIST'S SLICE WITH A STEP -/
namespace L2
open PySem PySem.Spec PyProof.Rows
theorem Vals.at {xs : List V} {us : List Value} (h : Vals xs us) : ∀ (i : Nat), (∃ x u, xs[i]? = some x ∧ us[i]? = some u ∧ RelV x u) ∨ (xs[i]? = none ∧ us[i]? = none) := by
  induction h with
  | nil => intro i; exact .inr ⟨by simp, by simp⟩
  | cons r _ ih =>
    intro i
    cases i with
    | zero => exact .inl ⟨_, _, rfl, rfl, r⟩
    | succ i => simpa using ih i
theorem Vals.pick {xs : List V} {us : List Value} (h : Vals xs us) : ∀ (l : List Nat), Vals (l.filterMap fun i => xs[i]?) (l.filterMap fun i => us[i]?)
  | [] => .nil
  | i :: l => by
    rcases h.at i with ⟨x, u, h1, h2, r⟩ | ⟨h1, h2⟩
    · rw [List.filterMap_cons_some h1, List.filterMap_cons_some h2]; exact .cons r (h.pick l)
    · rw [List.filterMap_cons_none h1, List.filterMap_cons_none h2]; exact h.pick l
def pickV {α : Type} (xs : List α) (lo hi st : Option Int) : List α :=
  (sliceRange (sliceBounds lo hi st xs.length).1 (sliceBounds lo hi st xs.length).2.1 (sliceBounds lo hi st xs.length).2.2).filterMap fun i => xs[i]?
theorem pickV_map {α β : Type} (f : α → β) (xs : List α) (lo hi st : Option Int) : pickV (xs.map f) lo hi st = (pickV xs lo hi st).map f := by
  unfold pickV
  rw [List.length_map, List.map_filterMap]
  congr 1
  funext i
  rw [List.getElem?_map]
theorem pickV_len {α : Type} (xs : List α) (lo hi st : Option Int) : (pickV xs lo hi st).length ≤ (sliceRange (sliceBounds lo hi st xs.length).1 (sliceBounds lo hi st xs.length).2.1 (sliceBounds lo hi st xs.length).2.2).length := List.length_filterMap_le _ _
section
variable {X : Cx}
def tSl3 (K : PySem.W.Frag) (te : TE) (tl th ts : TO) : TE := fun σ H Q => te σ H fun x H1 => tl σ H1 fun l H2 => th σ H2 fun u H3 => ts σ H3 fun k H4 =>
  ∃ a xs, x = .ref a ∧ SqL K H4 a xs ∧ k ≠ some 0 ∧ (pickV xs l u k).length ≤ sizeLine ∧ ∀ p, H4 p = none → Q (.ref p) (upd H4 p (.lst (pickV xs l u k)))
theorem pe_slice3 {e : Expr} {lo hi : Option Expr} {st : Expr} {te : TE} {tl th ts : TO} {p2 pos : Pos} (he : PE X e te) (hl : PO X lo tl) (hu : PO X hi th) (hs : PO X (some st) ts) : PE X (.Subscript e (.Slice lo hi (some st) p2) pos) (tSl3 X.K te tl th ts) := by
  intro pins s σ H Q I h
  refine Subscript_ (thn (he pins s σ H _ I h) fun v s1 ⟨x, H1, I1, r1, q1⟩ => ?_)
  refine wpAny_Slice (thn (hl pins s1 σ H1 _ I1 q1) fun vl s2 ⟨l, H2, I2, pl, q2⟩ => thn (hu pins s2 σ H2 _ I2 q2) fun vu s3 ⟨u, H3, I3, pu, q3⟩ => thn (hs pins s3 σ H3 _ I3 q3) fun vs s4 ⟨k, H4, I4, ps, q4⟩ => ?_)
  have I5 : Inv X pins σ H4 { s4 with heap := s4.heap.push { cls := .type "slice", data := .fields #[vl, vu, vs] } } := I4.kept (t' := s4.toks) fun b ob q => Heap.get?_push_of_some _ q
  obtain ⟨a, xs, rfl, hx, hk, hz, q⟩ := q4
  cases r1
  obtain ⟨its, r, ht, _⟩ := I5.list hx
  have hlen := r.length
  show wpAny (model X.prog X.w) X.A (subscriptTail e (.Slice lo hi (some st) p2) (.ref a) (.ref s4.heap.objs.size)) (EP X pins σ Q) X.xe { s4 with heap := s4.heap.push { cls := .type "slice", data := .fields #[vl, vu, vs] } }
  refine tail_any (ops := [.ref a, .ref s4.heap.objs.size]) ht.isList.typeIs slot_list_getitem.lookup ?_ (by with_unfolding_all rfl)
  refine wpAny_getItem_list_slice ht.isList (Heap.IsSliceOf.new ..) pl pu ps hk ?_ (by rw [List.size_toArray] <;> omega)
  have e : slicePick its.toArray l u k = ((sliceRange (sliceBounds l u k xs.length).1 (sliceBounds l u k xs.length).2.1 (sliceBounds l u k xs.length).2.2).filterMap fun i => its[i]?).toArray := by
    unfold slicePick
    rw [List.size_toArray, ← hlen]
    simp
  rw [e]
  refine ⟨.ref _, _, I5.laid (t' := s4.toks) (o := .lst (pickV xs l u k)) (fun b ob q => Heap.get?_push_of_some _ q) (Nat.le_refl _) ?_, rfl, q _ (I5.hok.fresh (Nat.le_refl _))⟩
  exact ⟨hz, _, 0, r.pick _, Heap.get?_push_size _ rfl⟩
theorem pe_slice3K {K : PySem.W.Frag} {e : Expr} {lo hi : Option Expr} {st : Expr} {te : TE} {tl th ts : TO} {p2 pos : Pos} (h : X.K = K) (he : PE X e te) (hl : PO X lo tl) (hu : PO X hi th) (hs : PO X (some st) ts) : PE X (.Subscript e (.Slice lo hi (some st) p2) pos) (tSl3 K te tl th ts) := by
  subst h; exact pe_slice3 he hl hu hs
end
theorem rd_sl3 {K : PySem.W.Frag} {te : TE} {tl th ts : TO} {σ : St} {H : Hp} {Q : VK} : tSl3 K te tl th ts σ H Q ↔ te σ H fun x H1 => tl σ H1 fun l H2 => th σ H2 fun u H3 => ts σ H3 fun k H4 =>
  ∃ a xs, x = .ref a ∧ SqL K H4 a xs ∧ k ≠ some 0 ∧ (pickV xs l u k).length ≤ sizeLine ∧ ∀ p, H4 p = none → Q (.ref p) (upd H4 p (.lst (pickV xs l u k))) := Iff.rfl
end L2
/-! RESOLVING AND TELLING RELATIVE, as mathematics -/
namespace Wm
open PySem L2
abbrev Way := Bool × List Stp × Bool
def Ad.w (x : Ad) : Way := (x.rooted, x.steps, x.ends)
def Ad.withWay (x : Ad) (w : Way) : Ad := { x with rooted := w.1, steps := w.2.1, ends := w.2.2 }
def goneV (w : Way) : Way := goneW w.1 w.2.1 w.2.2
def Ad.gone (x : Ad) : Ad := x.withWay (goneV x.w)
theorem goneV_again (w : Way) : goneV (goneV w) = goneV w := goneW_again w.1 w.2.1 w.2.2
theorem Ad.gone_w (x : Ad) : x.gone.w = goneV x.w := rfl
theorem Ad.gone_again (x : Ad) : x.gone.gone = x.gone := by
  show (x.withWay (goneV x.w)).withWay (goneV (x.withWay (goneV x.w)).w) = _
  rw [show (x.withWay (goneV x.w)).w = goneV x.w from rfl, goneV_again]
  rfl
/-- the steps of a rooted way, gone, without the last one, unless it ends -/
def holder (w : Way) : List Stp := if (goneV w).2.2 then (goneV w).2.1 else (goneV w).2.1.dropLast
/-- how many steps both have in common at their beginning -/
def comm : List Stp → List Stp → Nat
  | a :: l, b :: m => if a = b then comm l m + 1 else 0
  | _, _ => 0
def lastW (g : Way) : List Stp := if (goneV g).2.2 then [] else (goneV g).2.1.drop ((goneV g).2.1.length - 1)
def betw0 (b g : Way) : List Stp := List.replicate ((holder b).length - comm (holder b) (holder g)) sUp ++ (holder g).drop (comm (holder b) (holder g)) ++ lastW g
def betw (b g : Way) : List Stp := if betw0 b g = [] then [sStay] else betw0 b g
def relM (b g : Ad) : Ad :=
  if g.scheme ≠ b.scheme ∨ (g.house = none ∧ b.house ≠ none) then g.gone
  else if g.house ≠ b.house ∨ g.door ≠ b.door then { g.gone with scheme := [] }
  else if b.gone.w = g.gone.w ∧ (g.quest ≠ none ∨ b.quest = none) then { scheme := [], house := none, door := none, rooted := false, steps := [], ends := false, quest := (if g.quest = b.quest then none else g.quest), mark := g.mark }
  else { scheme := [], house := none, door := none, rooted := false, steps := betw b.w g.w, ends := (goneV g.w).2.2, quest := g.quest, mark := g.mark }
/-! ### what a rooted way comes to -/
theorem comm_le : ∀ (h t : List Stp), comm h t ≤ h.length
  | [], t => by simp [comm]
  | a :: l, [] => by simp [comm]
  | a :: l, b :: m => by
    unfold comm
    split
    · have := comm_le l m; simp; omega
    · simp
/-! ### a way gone that is rooted -/
theorem goneV_true {w : Way} (h : w.1 = true) (he : w.2.1 = [] → w.2.2 = true) : (goneV w).1 = true ∧ (goneV w).2.1 = goneS true w.2.1 ∧ (∀ s ∈ (goneV w).2.1, isDot s = false) ∧ ((goneV w).2.1 = [] → (goneV w).2.2 = true) := by
  obtain ⟨r, ss, e⟩ := w
  cases h
  show (goneW true ss e).1 = true ∧ (goneW true ss e).2.1 = goneS true ss ∧ (∀ s ∈ (goneW true ss e).2.1, isDot s = false) ∧ ((goneW true ss e).2.1 = [] → (goneW true ss e).2.2 = true)
  unfold goneW
  by_cases h1 : ss = []
  · rw [if_pos h1]
    refine ⟨rfl, by rw [h1, gone_nil], by simp, fun _ => he h1⟩
  · rw [if_neg h1]
    by_cases h2 : goneS true ss = []
    · rw [if_pos h2]; exact ⟨rfl, by simp [h2], by simp, fun _ => rfl⟩
    · rw [if_neg h2]; exact ⟨rfl, rfl, gone_nodot, fun h => absurd h h2⟩
/-! ### resolved: whole, and without dots; told relative and resolved it is the goal -/
/-! ### step by step -/
end Wm
namespace Wm
open PySem L2
def wayOf (w : Way) : PyData := .tuple [.bool w.1, .tuple (w.2.1.map st), .bool w.2.2]
theorem rv_ref {l : Addr} {H : Hp} {Q : VK} : rReverse (.ref l) [] H Q ↔ ∃ xs, H l = some (.lst xs) ∧ Q .non (upd H l (.lst xs.reverse)) :=
  ⟨fun ⟨_, xs, e, _, h, q⟩ => by cases e; exact ⟨xs, h, q⟩, fun ⟨xs, h, q⟩ => ⟨l, xs, rfl, rfl, h, q⟩⟩
end Wm
namespace Wm
open PySem L2
abbrev sV (l : List Nat) : V := .str ⟨l.toArray⟩
theorem drop_at {α : Type} {l : List α} {i : Nat} {a : α} (h : l[i]? = some a) : l.drop i = a :: l.drop (i + 1) := by
  obtain ⟨hi, e⟩ := List.getElem?_eq_some_iff.mp h
  rw [← e]; exact List.drop_eq_getElem_cons hi
end Wm
namespace Wm
open PySem L2
theorem isAll_sV {H : Hp} : ∀ (ss : List (List Nat)), IsAll H (ss.map st) (ss.map sV)
  | [] => .nil
  | s :: ss => .cons (.str _) (isAll_sV ss)
theorem isTAll_sV {H : Hp} : ∀ (ss : List (List Nat)), IsTAll H (ss.map st) (ss.map sV)
  | [] => .nil
  | s :: ss => .cons (.str _) (isTAll_sV ss)
theorem shaped_list {ss : List (List Nat)} (h : ∀ l ∈ ss, ∀ c ∈ l, isSg c = true) : SeqAt.shaped (.list (ss.map st)) = true := by
  obtain ⟨h1, h2⟩ := lay_strs h
  unfold SeqAt.shaped
  simp only [PyData.canLay0, PyData.depth, h1, h2]
  decide
theorem eqv_nilL (ds : List PyData) : PyData.eqv (.list ds) (.list []) = ds.isEmpty := by
  cases ds <;> simp [PyData.eqv, PyData.eqvAll]
end Wm
namespace Wm
open PySem L2
theorem atI_last {α : Type} {l : List α} {s : α} (g : α → V) (h : l.getLast? = some s) : atI (l.map g) (-1) = some (g s) := by
  obtain ⟨pre, rfl⟩ := List.getLast?_eq_some_iff.mp h
  have e : ixN ((pre ++ [s]).map g).length (-1) = some pre.length := by
    unfold ixN
    simp
    try omega
  unfold atI
  rw [e]
  simp
theorem inV_dot (s : Stp) : inV (sV s) [sV sStay, sV sUp] = isDot s := by
  have e : ∀ a : Stp, eqV (sV a) (sV s) = decide (s = a) := fun a => by
    show ((⟨a.toArray⟩ : Str) == ⟨s.toArray⟩) = decide (s = a)
    rw [Bool.eq_iff_iff, beq_iff_eq, decide_eq_true_eq, mk_inj]
    exact ⟨Eq.symm, Eq.symm⟩
  unfold inV isDot
  simp only [List.any_cons, List.any_nil, Bool.or_false, e]
  rw [Bool.or_comm]
end Wm
namespace Wm
open PySem L2
theorem shaped_way {r e : Bool} {ss : List (List Nat)} (h : ∀ s ∈ ss, ∀ c ∈ s, isSg c = true) : SeqAt.shaped (wayOf (r, ss, e)) = true := by
  refine LayAt.shaped (n := 2) (.tup (n := 1) fun d hd => ?_) (by decide)
  simp only [List.mem_cons, List.not_mem_nil, or_false] at hd
  rcases hd with rfl | rfl | rfl
  · exact LayAt.bool.le (by decide)
  · refine .tup (n := 0) fun d hd => ?_
    obtain ⟨s, hs, rfl⟩ := List.mem_map.mp hd
    exact .st (h s hs)
  · exact LayAt.bool.le (by decide)
theorem eqv_wayOf (w : Way) : PyData.eqv (wayOf w) (wayOf w) = true := by
  simp only [wayOf, PyData.eqv, PyData.eqvAll, Bool.and_eq_true, Bool.and_true, beq_self_eq_true, true_and]
  exact (eqvAll_map eqv_st _ _).mpr rfl
end Wm
namespace L2
open PySem
end L2
namespace L2
open PySem
theorem po_ref {l : Addr} {H : Hp} {Q : VK} : rPop (.ref l) [] H Q ↔ ∃ xs y, H l = some (.lst xs) ∧ xs[xs.length - 1]? = some y ∧ Q y (upd H l (.lst xs.dropLast)) :=
  ⟨fun ⟨_, xs, y, h1, _, h3, h4, h5⟩ => by cases h1; exact ⟨xs, y, h3, h4, h5⟩, fun ⟨xs, y, h3, h4, h5⟩ => ⟨_, xs, y, rfl, rfl, h3, h4, h5⟩⟩
theorem upd_id {H : Hp} {p : Addr} {o : HO} (h : H p = some o) : upd H p o = H := by
  funext b
  by_cases e : b = p
  · subst e; rw [upd_same, h]
  · rw [upd_ne e]
end L2
namespace L2
open PySem
theorem rd_never {D : Ends} {σ : St} {H : Hp} : tNever D σ H ↔ False := Iff.rfl
end L2
namespace Wm
open PySem L2
/-- what the laws' small addresses keep to -/
structure Ad.Tiny (x : Ad) : Prop where
  stp : ∀ s ∈ x.steps, s.length ≤ 9
  que : ∀ ps, x.quest = some ps → ps.length ≤ 3 ∧ ∀ p ∈ ps, p.1.length ≤ 5 ∧ ∀ v, p.2 = some v → v.length ≤ 6
  mar : ∀ l, x.mark = some l → l.length ≤ 7
  hou : ∀ l, x.house = some l → l.length ≤ 13
def QOk (q : Option (List (List Nat × Option (List Nat)))) : Prop := ∀ ps, q = some ps → ps.length ≤ 3 ∧ ∀ p ∈ ps, PairOk p ∧ p.1.length ≤ 5 ∧ ∀ v, p.2 = some v → v.length ≤ 6
theorem eqv_way2 (a b : Way) : PyData.eqv (wayOf a) (wayOf b) = decide (a = b) := by
  obtain ⟨r, ss, e⟩ := a
  obtain ⟨q, tt, f⟩ := b
  rw [Bool.eq_iff_iff, decide_eq_true_eq]
  simp only [wayOf, PyData.eqv, PyData.eqvAll, Bool.and_eq_true, Bool.and_true, beq_iff_eq, Prod.mk.injEq]
  constructor
  · rintro ⟨h1, h2, h3⟩
    exact ⟨h1, (eqvAll_map eqv_st _ _).mp h2, h3⟩
  · rintro ⟨h1, h2, h3⟩
    exact ⟨h1, (eqvAll_map eqv_st _ _).mpr h2, h3⟩
end Wm
namespace Wm
open PySem L2
theorem goneV_len (w : Way) : (goneV w).2.1.length ≤ w.2.1.length := by
  unfold goneV goneW
  split
  · rename_i h; simp
  · rename_i h
    have := List.length_pos_iff.mpr h
    split
    · cases w.1 <;> simp <;> omega
    · exact gone_len _ _
theorem stay_ok : StepOk sStay := ⟨by decide, by decide⟩
theorem up_ok : StepOk sUp := ⟨by decide, by decide⟩
theorem goneV_ok {w : Way} (h : ∀ s ∈ w.2.1, StepOk s) : ∀ s ∈ (goneV w).2.1, StepOk s := by
  intro s hs
  unfold goneV goneW at hs
  split at hs
  · cases hs
  · split at hs
    · cases e : w.1
      · rw [e] at hs; simp at hs; subst hs; exact stay_ok
      · rw [e] at hs; simp at hs
    · rcases gone_mem s hs with z | z
      · exact h s z.1
      · rw [z.2]; exact up_ok
theorem goneV_end_ {w : Way} (h : w.2.1 = [] → w.2.2 = w.1) : (goneV w).2.1 = [] → (goneV w).2.2 = (goneV w).1 := by
  intro e
  unfold goneV goneW at e ⊢
  split at e
  · rename_i z; rw [if_pos z]; exact h z
  · rename_i z
    rw [if_neg z]
    split at e
    · rename_i y
      rw [if_pos y]
      cases ew : w.1
      · rw [ew] at e; simp at e
      · rfl
    · rename_i y; exact absurd e y
theorem goneV_fst (w : Way) : (goneV w).1 = w.1 := goneW_fst _ _ _
theorem Ad.Wf.gone {x : Ad} (h : x.Wf) : x.gone.Wf where
  sch := h.sch
  hou := h.hou
  doo := h.doo
  stp := goneV_ok (w := x.w) h.stp
  roo := fun z => (goneV_fst x.w).trans (h.roo z)
  end_ := goneV_end_ (w := x.w) h.end_
  que := h.que
  mar := h.mar
theorem Ad.gone_len (x : Ad) : x.gone.steps.length ≤ x.steps.length := goneV_len x.w
theorem holder_len (w : Way) : (holder w).length ≤ w.2.1.length := by
  have := goneV_len w
  unfold holder
  split
  · exact this
  · rw [List.length_dropLast]; omega
theorem holder_ok {w : Way} (h : ∀ s ∈ w.2.1, StepOk s) : ∀ s ∈ holder w, StepOk s := by
  intro s hs
  unfold holder at hs
  split at hs
  · exact goneV_ok h s hs
  · exact goneV_ok h s (List.dropLast_subset _ hs)
theorem lastW_ok {g : Way} (hg : ∀ s ∈ g.2.1, StepOk s) : ∀ s ∈ lastW g, StepOk s := by
  intro s hs
  unfold lastW at hs
  split at hs
  · cases hs
  · exact goneV_ok hg s (List.drop_subset _ _ hs)
theorem lastW_len (g : Way) : (lastW g).length ≤ 1 := by
  unfold lastW
  split
  · simp
  · rw [List.length_drop]; omega
theorem betw_ok {b g : Way} (hg : ∀ s ∈ g.2.1, StepOk s) : ∀ s ∈ betw b g, StepOk s := by
  intro s hs
  unfold betw at hs
  split at hs
  · rw [List.mem_singleton.mp hs]; exact stay_ok
  · unfold betw0 at hs
    rcases List.mem_append.mp hs with hs | hs
    · rcases List.mem_append.mp hs with hs | hs
      · rw [(List.mem_replicate.mp hs).2]; exact up_ok
      · exact holder_ok hg s (List.drop_subset _ _ hs)
    · exact lastW_ok hg s hs
theorem betw_ne (b g : Way) : betw b g ≠ [] := by
  unfold betw
  split
  · simp
  · assumption
theorem betw_len (b g : Way) : (betw b g).length ≤ b.2.1.length + g.2.1.length + 1 := by
  have h1 := holder_len b
  have h2 := holder_len g
  have h3 := lastW_len g
  unfold betw
  split
  · simp
  · unfold betw0
    simp only [List.length_append, List.length_replicate, List.length_drop]
    omega
theorem relM_wf {b g : Ad} (hg : g.Wf) (wg : g.scheme ≠ []) : (relM b g).Wf := by
  have hgr := hg.roo (.inl wg)
  have hgg := hg.gone
  unfold relM
  split
  · exact hgg
  · split
    · exact ⟨⟨Nat.zero_le _, (fun c hc => by cases hc), (fun c hc => by cases hc)⟩, hgg.hou, hgg.doo, hgg.stp, fun _ => hgg.roo (.inl wg), hgg.end_, hgg.que, hgg.mar⟩
    · split
      · refine ⟨⟨Nat.zero_le _, (fun c hc => by cases hc), (fun c hc => by cases hc)⟩, (fun l e => by cases e), (fun i e => by cases e), (fun s hs => by cases hs), fun z => ?_, fun _ => rfl, fun ps e => ?_, hg.mar⟩
        · rcases z with z | z <;> exact absurd rfl z
        · dsimp only at e
          split at e
          · cases e
          · exact hg.que ps e
      · refine ⟨⟨Nat.zero_le _, (fun c hc => by cases hc), (fun c hc => by cases hc)⟩, (fun l e => by cases e), (fun i e => by cases e), betw_ok (b := b.w) (g := g.w) hg.stp, fun z => ?_, fun z => absurd z (betw_ne _ _), hg.que, hg.mar⟩
        rcases z with z | z <;> exact absurd rfl z
theorem relM_len (b g : Ad) : (relM b g).steps.length ≤ b.steps.length + g.steps.length + 1 := by
  have := Ad.gone_len g
  unfold relM
  split
  · omega
  · split
    · show g.gone.steps.length ≤ _; omega
    · split
      · simp
      · exact betw_len b.w g.w
theorem betw_gone (b g : Way) : betw (goneV b) (goneV g) = betw b g := by
  have h : ∀ w : Way, holder (goneV w) = holder w := fun w => by unfold holder; rw [goneV_again]
  have l : lastW (goneV g) = lastW g := by unfold lastW; rw [goneV_again]
  have e : betw0 (goneV b) (goneV g) = betw0 b g := by unfold betw0; rw [h, h, l]
  unfold betw; rw [e]
theorem relM_gone (b g : Ad) : relM b.gone g.gone = relM b g := by
  unfold relM
  rw [Ad.gone_again, Ad.gone_again]
  rw [Ad.gone_w, Ad.gone_w, betw_gone, goneV_again]
  rfl
end Wm
namespace Wm
end Wm
namespace Wm
open PySem L2
/-- a slice of anything -/
def cutA {α : Type} (xs : List α) (lo hi : Option Int) : List α := (xs.drop (HT.sIx xs.length 0 lo)).take (HT.sIx xs.length xs.length hi - HT.sIx xs.length 0 lo)
theorem cutV_map {α : Type} (f : α → V) (xs : List α) (lo hi : Option Int) : cutV (xs.map f) lo hi = (cutA xs lo hi).map f := by
  unfold cutV cutA; rw [List.length_map, List.map_take, List.map_drop]
theorem cutA_len {α : Type} (xs : List α) (lo hi : Option Int) : (cutA xs lo hi).length ≤ xs.length := by
  unfold cutA; rw [List.length_take, List.length_drop]; omega
theorem cutA_mem {α : Type} {xs : List α} {lo hi : Option Int} {x : α} (h : x ∈ cutA xs lo hi) : x ∈ xs := List.mem_of_mem_drop (List.mem_of_mem_take h)
theorem all2_some {P : Stp → Prop} {H : Hp} : ∀ {xs ys : List V}, All2 (fun _ y _ => ∃ s : Stp, y = sV s ∧ P s) H xs ys → ∃ ss : List Stp, ys = ss.map sV ∧ ss.length = xs.length ∧ ∀ s ∈ ss, P s
  | _, _, .nil => ⟨[], rfl, rfl, by simp⟩
  | _, _, .cons h r => by
    obtain ⟨s, rfl, hs⟩ := h
    obtain ⟨ss, rfl, hl, h2⟩ := all2_some r
    exact ⟨s :: ss, rfl, by simp [hl], fun t ht => by
      rcases List.mem_cons.mp ht with rfl | ht
      · exact hs
      · exact h2 t ht⟩
/-- steps that may be shown: signs alone -/
def AllSg (ss : List Stp) : Prop := ∀ s ∈ ss, ∀ c ∈ s, isSg c = true
theorem goneV_sg {w : Way} (h : AllSg w.2.1) : AllSg (goneV w).2.1 := by
  intro s hs
  unfold goneV goneW at hs
  split at hs
  · cases hs
  · split at hs
    · cases e : w.1
      · rw [e] at hs; simp at hs; subst hs; decide
      · rw [e] at hs; simp at hs
    · rcases gone_mem s hs with z | z
      · exact h s z.1
      · rw [z.2]; decide
end Wm
namespace Wm
open PySem L2
theorem cutA_to {α : Type} (xs : List α) {n : Nat} {i : Int} (h : HT.sIx xs.length xs.length (some i) = n) : cutA xs none (some i) = xs.take n := by
  unfold cutA
  rw [h, show HT.sIx xs.length 0 none = 0 from rfl, List.drop_zero, Nat.sub_zero]
theorem cutA_init {α : Type} (xs : List α) : cutA xs none (some ((xs.length : Int) - 1)) = xs.dropLast := by
  rw [cutA_to (n := xs.length - 1), List.dropLast_eq_take]
  show (if ((xs.length : Int) - 1) < 0 then (((xs.length : Int) - 1) + (xs.length : Int)).toNat else min ((xs.length : Int) - 1).toNat xs.length) = _
  split <;> omega
theorem cutA_init' {α : Type} (xs : List α) : cutA xs none (some (-1)) = xs.dropLast := by
  rw [cutA_to (n := xs.length - 1), List.dropLast_eq_take]
  show (if (-1 : Int) < 0 then ((-1 : Int) + (xs.length : Int)).toNat else min (-1 : Int).toNat xs.length) = _
  rw [if_pos (by decide)]; omega
end Wm
namespace L2
open PySem
theorem IsKAll.at {K : PySem.W.Frag} {H : Hp} : ∀ {ds : List PyData} {xs : List V} {i : Nat} {x : V}, IsKAll K H ds xs → xs[i]? = some x → ∃ d, ds[i]? = some d ∧ IsK K H d x
  | _, _, 0, _, .cons h _, h2 => by
    simp only [List.getElem?_cons_zero, Option.some.injEq] at h2
    subst h2; exact ⟨_, rfl, h⟩
  | _, _, i + 1, _, .cons _ r, h2 => by
    simp only [List.getElem?_cons_succ] at h2
    obtain ⟨d, h1, h3⟩ := r.at h2
    exact ⟨d, by simpa using h1, h3⟩
end L2
namespace Wm
open PySem L2
section
variable {H : Hp}
theorem isT_way {r e : Bool} {ss : List (List Nat)} {v : V} (h : IsT H (.tuple [.bool r, .tuple (ss.map st), .bool e]) v) : ∃ p q, v = .ref p ∧ H p = some (.tup [.bl r, .ref q, .bl e]) ∧ H q = some (.tup (ss.map fun l => V.str ⟨l.toArray⟩)) := by
  obtain ⟨p, x, y, z, rfl, hp, h1, h2, h3⟩ := isT3 h
  cases isT_bool h1
  cases isT_bool h3
  obtain ⟨q, xs, rfl, hq, r⟩ := isT_tup h2
  cases isT_steps r
  exact ⟨p, q, rfl, hp, hq⟩
theorem wayT' {r e : Bool} {ss : List (List Nat)} {p q : Addr} (hp : H p = some (.tup [.bl r, .ref q, .bl e])) (hq : H q = some (.tup (ss.map fun l => V.str ⟨l.toArray⟩))) : IsT H (.tuple [.bool r, .tuple (ss.map st), .bool e]) (.ref p) :=
  .tup hp (.cons (.bl _) (.cons (.tup hq (isTAll_sV _)) (.cons (.bl _) .nil)))
theorem isT_ad {x : Ad} {v : V} (h : IsT H x.data v) : ∃ p w q, v = .ref p ∧ H p = some (.tup [.str ⟨x.scheme.toArray⟩, otV x.house, itV x.door, w, q, otV x.mark]) ∧ IsT H x.way w ∧ IsT H (qD x.quest) q := by
  obtain ⟨p, x0, x1, x2, x3, x4, x5, rfl, hp, i0, i1, i2, i3, i4, i5⟩ := isT6 (show IsT H (.tuple [st x.scheme, oD x.house, iD x.door, x.way, qD x.quest, oD x.mark]) v from h)
  cases isT_st i0
  cases isT_oD i1
  cases isT_iD i2
  cases isT_oD i5
  exact ⟨p, x3, x4, rfl, hp, i3, i4⟩
theorem adT {x : Ad} {p : Addr} {w q : V} (hp : H p = some (.tup [.str ⟨x.scheme.toArray⟩, otV x.house, itV x.door, w, q, otV x.mark])) (hw : IsT H x.way w) (hq : IsT H (qD x.quest) q) : IsT H x.data (.ref p) :=
  .tup hp (.cons (.str _) (.cons (is_oD _) (.cons (is_iD _) (.cons hw (.cons hq (.cons (is_oD _) .nil))))))
end
theorem Ad.Wf.sg {x : Ad} (h : x.Wf) : AllSg x.steps := fun s hs => (h.stp s hs).2
theorem Ad.Wf.bare {x : Ad} (h : x.Wf) : ({ x with scheme := [] } : Ad).Wf :=
  ⟨⟨Nat.zero_le _, (fun c hc => by cases hc), (fun c hc => by cases hc)⟩, h.hou, h.doo, h.stp, (fun z => h.roo (z.elim (fun y => absurd rfl y) .inr)), h.end_, h.que, h.mar⟩
theorem Ad.Wf.local {x : Ad} (h : x.Wf) : ({ x with scheme := [], house := none, door := none } : Ad).Wf :=
  ⟨⟨Nat.zero_le _, (fun c hc => by cases hc), (fun c hc => by cases hc)⟩, (fun l e => by cases e), (fun l e => by cases e), h.stp, (fun z => z.elim (fun y => absurd rfl y) (fun y => absurd rfl y)), h.end_, h.que, h.mar⟩
theorem Ad.Wf.noway {x : Ad} (h : x.Wf) : ({ x with scheme := [], house := none, door := none, rooted := false, steps := [], ends := false } : Ad).Wf :=
  ⟨⟨Nat.zero_le _, (fun c hc => by cases hc), (fun c hc => by cases hc)⟩, (fun l e => by cases e), (fun l e => by cases e), (fun s hs => by cases hs), (fun z => z.elim (fun y => absurd rfl y) (fun y => absurd rfl y)), (fun _ => rfl), h.que, h.mar⟩
theorem Ad.Wf.noquest {x : Ad} (h : x.Wf) : ({ x with quest := none } : Ad).Wf :=
  ⟨h.sch, h.hou, h.doo, h.stp, h.roo, h.end_, (fun ps e => by cases e), h.mar⟩
/-- values that are addresses, of at most so many steps -/
def Goods (n : Nat) (H : Hp) (vs : List V) : Prop := ∀ v ∈ vs, ∃ x : Ad, x.Wf ∧ x.steps.length ≤ n ∧ IsT H x.data v
theorem Goods.mono {n : Nat} {H H' : Hp} {vs : List V} (h : Goods n H vs) (sm : SameT H H') : Goods n H' vs := fun v hv => by
  obtain ⟨x, h1, h2, h3⟩ := h v hv
  exact ⟨x, h1, h2, h3.mono sm⟩
theorem Goods.nil {n : Nat} {H : Hp} : Goods n H [] := fun v hv => by cases hv
theorem Goods.cons {n : Nat} {H : Hp} {v : V} {vs : List V} {x : Ad} (h1 : x.Wf) (h2 : x.steps.length ≤ n) (h3 : IsT H x.data v) (h : Goods n H vs) : Goods n H (v :: vs) := fun u hu => by
  rcases List.mem_cons.mp hu with rfl | hu
  · exact ⟨x, h1, h2, h3⟩
  · exact h u hu
theorem Goods.snoc {n : Nat} {H : Hp} {v : V} {vs : List V} {x : Ad} (h : Goods n H vs) (h1 : x.Wf) (h2 : x.steps.length ≤ n) (h3 : IsT H x.data v) : Goods n H (vs ++ [v]) := fun u hu => by
  rcases List.mem_append.mp hu with hu | hu
  · exact h u hu
  · rw [List.mem_singleton.mp hu]; exact ⟨x, h1, h2, h3⟩
end Wm
namespace Wm
open PySem L2
theorem pick_len {α : Type} (xs : List α) (i j : Int) : (pickV xs (some i) (some j) (some 2)).length ≤ xs.length := by
  refine Nat.le_trans (pickV_len ..) ?_
  unfold sliceRange sliceBounds
  simp only [Option.getD_some, List.length_map, List.length_range]
  generalize xs.length = n
  simp only [show (2 : Int) > 0 by decide, if_true]
  repeat' split
  all_goals omega
end Wm
namespace Wm
open PySem L2
end Wm
namespace L2
open PySem PySem.Spec PyProof.Rows
theorem isB_t {b c : Bool} {H : Hp} {Q : VK} : rIsB true (.bl b) (.bl c) H Q ↔ Q (.bl (!decide (b = c))) H := Iff.rfl
end L2
namespace Wm
open PySem L2
end Wm
namespace Wm
open PySem L2
end Wm
namespace Wm
open PySem L2
theorem comm_le2 : ∀ (h t : List Stp), comm h t ≤ t.length
  | [], t => by simp [comm]
  | _ :: _, [] => by simp [comm]
  | a :: l, b :: m => by
    unfold comm
    split
    · have := comm_le2 l m
      simp; omega
    · simp
/-- one place further: the steps there are the same just where the common beginning goes on -/
theorem comm_at : ∀ {h t : List Stp} {i : Nat}, i ≤ comm h t → (i < comm h t ↔ ∃ s, h[i]? = some s ∧ t[i]? = some s)
  | [], t, i, hi => by
    have : i = 0 := by simpa [comm] using hi
    subst this
    simp [comm]
  | a :: l, [], i, hi => by
    have : i = 0 := by simpa [comm] using hi
    subst this
    simp [comm]
  | a :: l, b :: m, i, hi => by
    unfold comm at hi ⊢
    by_cases e : a = b
    · rw [if_pos e] at hi ⊢
      cases i with
      | zero => simp [e]
      | succ i =>
        have ih := comm_at (h := l) (t := m) (i := i) (by omega)
        simp only [List.getElem?_cons_succ]
        rw [← ih]
        omega
    · rw [if_neg e] at hi ⊢
      have : i = 0 := by omega
      subst this
      simp [e]
      intro h; exact e h.symm
theorem cutA_from {α : Type} (xs : List α) {n : Nat} (h : n ≤ xs.length) : cutA xs (some (n : Int)) none = xs.drop n := by
  unfold cutA
  have e1 : HT.sIx xs.length 0 (some (n : Int)) = n := by rw [HT.sIx_nat]; omega
  rw [e1, show HT.sIx xs.length xs.length none = xs.length from rfl]
  exact List.take_of_length_le (by rw [List.length_drop]; omega)
theorem cutA_last1 {α : Type} (xs : List α) : cutA xs (some (-1)) none = xs.drop (xs.length - 1) := by
  unfold cutA
  have e1 : HT.sIx xs.length 0 (some (-1)) = xs.length - 1 := by
    show (if (-1 : Int) < 0 then ((-1 : Int) + (xs.length : Int)).toNat else min (-1 : Int).toNat xs.length) = _
    rw [if_pos (by decide)]; omega
  rw [e1, show HT.sIx xs.length xs.length none = xs.length from rfl]
  exact List.take_of_length_le (by rw [List.length_drop]; omega)
theorem eqv_qD2 (a b : Option (List (List Nat × Option (List Nat)))) : PyData.eqv (qD a) (qD b) = decide (a = b) := by
  have h := Ad.eqv_iff ⟨[], none, none, false, [], false, a, none⟩ ⟨[], none, none, false, [], false, b, none⟩
  have e : PyData.eqv (Ad.data ⟨[], none, none, false, [], false, a, none⟩) (Ad.data ⟨[], none, none, false, [], false, b, none⟩) = PyData.eqv (qD a) (qD b) := by
    simp [Ad.data, Ad.way, PyData.eqv, PyData.eqvAll, oD, iD]
  rw [e] at h
  rw [Bool.eq_iff_iff, decide_eq_true_eq, h]
  constructor
  · intro z; exact congrArg Ad.quest z
  · intro z; rw [z]
theorem shaped_qD {q : Option (List (List Nat × Option (List Nat)))} (h : ∀ ps, q = some ps → ∀ p ∈ ps, PairOk p) : SeqAt.shaped (qD q) = true := (LayAt.qD h).shaped (by decide)
theorem otV_inj {a b : Option (List Nat)} : otV a = otV b ↔ a = b := by
  cases a <;> cases b <;> simp [otV]
end Wm
namespace Wm
open PySem L2
theorem ne_ot {a b : Option (List Nat)} {H : Hp} {R : VK} (h : R (.bl (!decide (a = b))) H) : rNe (otV a) (otV b) H R := by
  have ha : NS (otV a) := by cases a <;> simp [otV, NS]
  have hb : NS (otV b) := by cases b <;> simp [otV, NS]
  rw [rd_neNS ha hb]
  rw [show decide (otV a = otV b) = decide (a = b) from decide_eq_decide.mpr otV_inj]
  exact h
theorem ne_it {a b : Option Int} {H : Hp} {R : VK} (h : R (.bl (!decide (a = b))) H) : rNe (itV a) (itV b) H R := by
  cases a with
  | none =>
    cases b with
    | none => exact ⟨rfl, by simpa using h⟩
    | some j => exact ⟨rfl, by simpa [itV] using h⟩
  | some i =>
    cases b with
    | none => exact ⟨rfl, by simpa [itV] using h⟩
    | some j =>
      refine rd_neII.mpr ?_
      rw [show decide (i = j) = decide (some i = some j) from decide_eq_decide.mpr (by simp)]
      exact h
end Wm
namespace Wm
open PySem L2
/-- a whole address of the laws, of at most so many steps -/
structure GoodAd (n : Nat) (x : Ad) : Prop where
  wf : x.Wf
  ti : x.Tiny
  sc : x.scheme ≠ []
  ln : x.steps.length ≤ n
theorem GoodAd.le {n m : Nat} {x : Ad} (h : GoodAd n x) (hm : n ≤ m) : GoodAd m x := ⟨h.wf, h.ti, h.sc, Nat.le_trans h.ln hm⟩
theorem GoodAd.rt {n : Nat} {x : Ad} (h : GoodAd n x) : x.rooted = true := h.wf.roo (.inl h.sc)
/-- scheme, house and door of the one, all else of the other -/
theorem GoodAd.head {n m : Nat} {b g : Ad} (hb : GoodAd n b) (hg : GoodAd m g) : GoodAd m { g with scheme := b.scheme, house := b.house, door := b.door } :=
  ⟨⟨hb.wf.sch, hb.wf.hou, hb.wf.doo, hg.wf.stp, fun _ => hg.rt, hg.wf.end_, hg.wf.que, hg.wf.mar⟩, ⟨hg.ti.stp, hg.ti.que, hg.ti.mar, hb.ti.hou⟩, hb.sc, hg.ln⟩
theorem GoodAd.way {n m : Nat} {g : Ad} (hg : GoodAd n g) {ss : List Stp} {e : Bool} (h1 : ∀ s ∈ ss, StepOk s ∧ s.length ≤ 9) (h2 : ss.length ≤ m) (h3 : ss = [] → e = true) : GoodAd m { g with rooted := true, steps := ss, ends := e } :=
  ⟨⟨hg.wf.sch, hg.wf.hou, hg.wf.doo, fun s hs => (h1 s hs).1, fun _ => rfl, h3, hg.wf.que, hg.wf.mar⟩, ⟨fun s hs => (h1 s hs).2, hg.ti.que, hg.ti.mar, hg.ti.hou⟩, hg.sc, h2⟩
theorem GoodAd.quest {n m : Nat} {b g : Ad} (hb : GoodAd n b) (hg : GoodAd m g) : GoodAd m { g with quest := b.quest } :=
  ⟨⟨hg.wf.sch, hg.wf.hou, hg.wf.doo, hg.wf.stp, hg.wf.roo, hg.wf.end_, hb.wf.que, hg.wf.mar⟩, ⟨hg.ti.stp, hb.ti.que, hg.ti.mar, hg.ti.hou⟩, hg.sc, hg.ln⟩
theorem GoodAd.noquest {m : Nat} {g : Ad} (hg : GoodAd m g) : GoodAd m { g with quest := none } :=
  ⟨hg.wf.noquest, ⟨hg.ti.stp, (fun ps e => by cases e), hg.ti.mar, hg.ti.hou⟩, hg.sc, hg.ln⟩
theorem GoodAd.okst {n : Nat} {g : Ad} (hg : GoodAd n g) : ∀ s ∈ g.steps, StepOk s ∧ s.length ≤ 9 := fun s hs => ⟨hg.wf.stp s hs, hg.ti.stp s hs⟩
end Wm
/-! REVERSED TUPLES over the hand layer -/
namespace L2
open PySem PySem.Spec PyProof.Rows
theorem rv_owner : Manifest.owners.lookup (String.ofList ['d', 'e', 's', 'r', 'e', 'v', 'e', 'r'].reverse) = some Manifest.sig_reversed := by kernel_rfl
theorem rv_next : Slot "reversed" "__next__" "reversed.__next__" := .of (owner := "reversed") (n := "__next__") (by rw [typeLookup_type, builtinLookup_eq_fast]; kernel_rfl) (by decide +kernel) (by decide +kernel) (by decide +kernel) (by first | exact .inl (by decide +kernel) | exact .inr (by decide +kernel)) (by rw [isSubtype_type]; kernel_rfl)
theorem rv_nextE : entryFor table "reversed.__next__" = some Builtin.«reversed.__next__» := entryFor_of_tree (by kernel_rfl)
theorem rv_nextA (a : Value) : argsOk "reversed.__next__" ⟨[a], []⟩ := by
  unfold argsOk; rw [signature?_of (id := "reversed.__next__") (n := ['_', '_', 't', 'x', 'e', 'n', '_', '_']) (o := ['d', 'e', 's', 'r', 'e', 'v', 'e', 'r']) (by kernel_rfl) rv_owner]; kernel_rfl
theorem rv_iter : Slot "reversed" "__iter__" "reversed.__iter__" := .of (owner := "reversed") (n := "__iter__") (by rw [typeLookup_type, builtinLookup_eq_fast]; kernel_rfl) (by decide +kernel) (by decide +kernel) (by decide +kernel) (by first | exact .inl (by decide +kernel) | exact .inr (by decide +kernel)) (by rw [isSubtype_type]; kernel_rfl)
theorem rv_iterA (a : Value) : argsOk "reversed.__iter__" ⟨[a], []⟩ := by
  unfold argsOk; rw [signature?_of (id := "reversed.__iter__") (n := ['_', '_', 'r', 'e', 't', 'i', '_', '_']) (o := ['d', 'e', 's', 'r', 'e', 'v', 'e', 'r']) (by kernel_rfl) rv_owner]; kernel_rfl
theorem rv_iterE : entryFor table "reversed.__iter__" = some Builtin.«dict_keyiterator.__iter__» :=
  entryFor_alias (id' := "dict_keyiterator.__iter__") (by kernel_rfl) (by first | rfl | decide +kernel | (unfold String.splitOn; simp +decide [String.splitOnAux])) (by decide +kernel) (by kernel_rfl)
theorem rv_init : Slot "reversed" "__init__" "object.__init__" := .of (owner := "object") (n := "__init__") (by rw [typeLookup_type, builtinLookup_eq_fast]; kernel_rfl) (by decide +kernel) (by decide +kernel) (by decide +kernel) (by first | exact .inl (by decide +kernel) | exact .inr (by decide +kernel)) (by rw [isSubtype_type]; kernel_rfl)
theorem rv_called : TypeCalled "reversed" "reversed.__new__" "object.__init__" := ⟨by decide +kernel, F.create_reversed, ⟨_, _, F.mro_reversed⟩, F.made_reversed, F.plain_reversed_new, F.sub_reversed_self, rv_init⟩
theorem rv_noown : typeLookup (.type "tuple") "__reversed__" = pure none := by rw [typeLookup_type, builtinLookup_eq_fast]; kernel_rfl

theorem rv_nodict : isSubtype (.type "tuple") (.type "dict") = pure false := by rw [isSubtype_type]; kernel_rfl
def rvObj (t : Addr) (i : Int) : Obj := { cls := .type "reversed", data := .fields #[.ref t, rawInt i] }
def IsRv (h : Heap) (a t : Addr) (i : Int) : Prop := ∃ o, h.get? a = some o ∧ o.cls = .type "reversed" ∧ o.data = .fields #[.ref t, rawInt i]
section
variable {prog : Program} {w : World} {A : Around} {E : Value → Shared → Prop} {s : Shared}
theorem IsRv.ty {a t : Addr} {i : Int} (x : IsRv s.heap a t i) : s.TypeIs (.ref a) "reversed" := let ⟨o, ho, hc, _⟩ := x; ⟨o, ho, hc⟩
theorem code_rv {t : Addr} {items : Array Value} {Q₁ : Value → Shared → Prop} (ht : IsTup s.heap t items) (hz : items.size ≤ sizeLine)
    (h : ∀ tk, Q₁ (.ref s.heap.objs.size) { s with heap := s.heap.push (rvObj t ((items.size : Int) - 1)), toks := tk }) :
    codeAny (model prog w) A (.call (.builtin "reversed.__new__") ⟨[.type "reversed", .ref t], []⟩) (wants Q₁ E) s := by
  refine codeAny_of_tree ?_
  show wpAny _ A.in1 (do checkBuiltinCall "reversed.__new__" ⟨[.type "reversed", .ref t], []⟩; again (.builtin "reversed.__new__" ⟨[.type "reversed", .ref t], []⟩)) _ _ s
  refine wpAny_bind (wpAny_of_eq (F.newCall_reversed_1 _) (wpAny_pure ⟨plainId_quiet F.plain_reversed_new _, codeAny_builtin F.entry_reversed_new ?_⟩))
  rw [Around.under_plainId F.plain_reversed_new _]
  unfold Builtin.«reversed.__new__»
  refine wpAny_bind (wpAny_of_eq (newClass_reversed _) ?_)
  try dsimp only
  refine wpAny_bind (wpAny_of_eq (a := ()) (by first | rfl | kernel_rfl) (wpAny_bind (wpAny_of_eq (a := ()) (by first | rfl | kernel_rfl) ?_)))
  try dsimp only
  refine wpAny_bind (wpAny_specialOf ht.typeIs rv_noown ?_)
  try dsimp only
  refine wpAny_bind ?_
  refine wpAny_bind (m := isInstance (.ref t) (.type "dict")) (wpAny_isInstance (T := "tuple") (b := false) ht.typeIs rv_nodict ?_)
  try dsimp only
  rw [if_neg Bool.false_ne_true]
  refine wpAny_bind (wpAny_specialOf ht.typeIs PySem.F.slot_tuple_getitem.lookup ?_)
  try dsimp only
  rw [if_pos (by decide)]
  refine wpAny_pure ?_
  rw [if_neg (show ¬ ((!true) = true) by decide)]
  have hf : (items.size : Int) < 2 ^ 63 := by have := line63; omega
  refine wpAny_bind (len_tuple ht hf (wpAny_bind (m := asInt? _) (wpAny_pure ?_)))
  try dsimp only
  refine wpAny_bind ?_
  show wpAny _ _ (newObj (.type "reversed") (.fields #[.ref t, rawInt ((items.size : Int) - 1)])) _ _ _
  exact wpAny_newObj_type (wpAny_pure (h _)) (show 2 ≤ sizeLine + 2 from Nat.le_add_left 2 _)
theorem call_rv {t : Addr} {items : Array Value} {Q : Value → Shared → Prop} (ht : IsTup s.heap t items) (hz : items.size ≤ sizeLine)
    (h : ∀ tk, Q (.ref s.heap.objs.size) { s with heap := s.heap.push (rvObj t ((items.size : Int) - 1)), toks := tk }) : wpAny (model prog w) A (call (.type "reversed") [.ref t]) Q E s := by
  refine callType_codes (Q₁ := fun obj s₁ => obj = .ref s.heap.objs.size ∧ ∃ tk, s₁ = { s with heap := s.heap.push (rvObj t ((items.size : Int) - 1)), toks := tk }) rv_called (F.typeCall_reversed_1 _) F.entry_object_init (code_rv ht hz fun tk => ⟨rfl, tk, rfl⟩) ?_
  rintro obj s₁ ⟨rfl, tk, rfl⟩
  have hT : ({ s with heap := s.heap.push (rvObj t ((items.size : Int) - 1)), toks := tk } : Shared).TypeIs (.ref s.heap.objs.size) "reversed" := ⟨_, Heap.get?_push_size _ rfl, rfl⟩
  refine ⟨hT, F.args_object_init_2 _ _, ?_⟩
  exact object_init_meets rv_init.lookup rv_called.made (by decide) prog w A.in1 _ _ ⟨hT, rfl, h tk⟩
theorem rv_item {it t : Addr} {i : Nat} {items : Array Value} {x : Value} {Q : Option Value → Shared → Prop} (hit : IsRv s.heap it t (i : Int)) (ht : IsTup s.heap t items) (hi : i < items.size) (hz : items.size ≤ sizeLine) (hx : items[i]? = some x)
    (hQ : ∀ h' tk, IsRv h' it t ((i : Int) - 1) → Heap.SameBut it s.heap h' → Q (some x) { s with heap := h', toks := tk }) : wpAny (model prog w) A (pyNext (.ref it)) Q E s := by
  obtain ⟨o, ho, hc, hd⟩ := id hit
  unfold pyNext
  refine wpAny_bind (wpAny_attempt (wpAny_callSpecial?_slot (name := Str.ofString "__next__") hit.ty rv_next (wpAny_call_entry rv_next hit.ty rv_nextE ?_ (rv_nextA _))))
  unfold Builtin.«reversed.__next__»
  refine wpAny_bind (wpAny_of_eq (a := (Value.ref it, [])) rfl (wpAny_bind (wpAny_field ho hd (x := .ref t) rfl (wpAny_bind (wpAny_field ho hd (x := rawInt (i : Int)) rfl ?_)))))
  show wpAny _ _ (if (i : Int) < 0 then _ else _) _ _ s
  rw [if_neg (by omega)]
  refine wpAny_bind (wpAny_specialOf ht.typeIs PySem.F.slot_tuple_getitem.lookup ?_)
  try dsimp only
  rw [if_neg (show ¬ ((some (Value.builtin "tuple.__getitem__")).isNone = true) by decide)]
  have h63 := line63
  have hk : seqIndex? (i : Int) items.size = some i := by
    rw [seqIndex_of (by omega) (by omega)]
    simp
  refine wpAny_bind (wpAny_mkInt (wpAny_bind (wpAny_attempt (PyProof.Rows.getItem_tuple ht (by omega) (by omega) hk hx ?_))))
  try dsimp only
  refine wpAny_bind (wpAny_field ho hd (x := rawInt (i : Int)) rfl ?_)
  show wpAny _ _ (setField (.ref it) 1 (rawInt ((i : Int) - 1)) >>= _) _ _ _
  refine wpAny_bind (wpAny_setField ho hd (by simp) (wpAny_pure ⟨x, rfl, wpAny_pure (hQ _ _ ?_ (Heap.SameBut.update ..))⟩))
  exact ⟨_, Heap.get?_update_self _ ho (Obj.isFreed_of_fields (Obj.data_mapFields hd _)), (Obj.cls_mapFields ..).trans hc, by rw [Obj.data_mapFields hd]; simp⟩
theorem rv_end {it t : Addr} {Q : Option Value → Shared → Prop} (hh : A.handled = none) (hit : IsRv s.heap it t (-1)) (hQ : ∀ h', Heap.ExtBut it s.heap h' → Q none { s with heap := h' }) : wpAny (model prog w) A (pyNext (.ref it)) Q E s := by
  obtain ⟨o, ho, hc, hd⟩ := id hit
  unfold pyNext
  refine wpAny_bind (wpAny_attempt (wpAny_callSpecial?_slot (name := Str.ofString "__next__") hit.ty rv_next (wpAny_call_entry rv_next hit.ty rv_nextE ?_ (rv_nextA _))))
  unfold Builtin.«reversed.__next__»
  refine wpAny_bind (wpAny_of_eq (a := (Value.ref it, [])) rfl (wpAny_bind (wpAny_field ho hd (x := .ref t) rfl (wpAny_bind (wpAny_field ho hd (x := rawInt (-1)) rfl ?_)))))
  show wpAny _ _ (if (-1 : Int) < 0 then _ else _) _ _ s
  rw [if_pos (by decide)]
  refine wpAny_bind (wpAny_rule (wpAny_bind ?_))
  refine wpAny_bind (m := setField (.ref it) 1 (rawInt (-1))) (wpAny_setField ho hd (by simp) ?_)
  have ho2 := Heap.get?_update_self (Obj.mapFields fun x => x.setIfInBounds 1 (rawInt (-1))) ho (Obj.isFreed_of_fields (Obj.data_mapFields hd _))
  refine wpAny_setField ho2 (Obj.data_mapFields hd _) (by simp) (wpAny_bind ?_)
  show wpAny _ _ (newExc (.type "StopIteration") [] >>= _) _ _ _
  refine wpAny_bind ?_
  simp only [newExc, newTuple]
  refine wpAny_bind (wpAny_newObj_type (wpAny_bind (m := firstArgMember _ _) (wpAny_of_eq (a := Value.none) (by first | rfl | (simp only [firstArgMember]; rfl)) (wpAny_newObj_type ?_ (by size_fits)))) (by size_fits))
  simp only [raiseNew]
  refine wpAny_bind (wpAny_handled ?_)
  first | rw [show A.in1.handled = none from hh] | rw [hh]
  refine wpAny_bind (wpAny_pure (wpAny_throw ?_))
  refine wpAny_bind (wpAny_isInstance (T := "StopIteration") (b := true) (show Shared.TypeIs _ (.ref _) "StopIteration" from ⟨_, Heap.get?_push_size _ rfl, rfl⟩) isSubtype_stop (wpAny_pure (hQ _ ?_)))
  have e1 : Heap.ExtBut it s.heap (s.heap.update it (Obj.mapFields fun x => x.setIfInBounds 1 (rawInt (-1)))) := (Heap.SameBut.update ..).extBut
  exact fun b o hb e => Heap.get?_push_of_some _ (Heap.get?_push_of_some _ ((Heap.SameBut.update ..).extBut b o hb (e1 b o hb e)))
theorem rv_self {it t : Addr} {i : Int} {Q : Value → Shared → Prop} (hit : IsRv s.heap it t i) (h : Q (.ref it) s) : wpAny (model prog w) A (pyIter (.ref it)) Q E s := by
  refine wpAny_pyIter_slot hit.ty rv_iter (wpAny_call_entry rv_iter hit.ty rv_iterE ?_ (rv_iterA _))
  show wpAny _ _ (ret (.ref it)) _ _ s
  exact wpAny_pure ⟨_, rfl, "reversed", _, hit.ty, rv_next.lookup, h⟩
end
/-- a tuple from its end: n its length -/
def Itv (K : PySem.W.Frag) (a : Addr) (n : Nat) : It :=
  ⟨fun i H => ∃ xs x, SqT K H a xs ∧ xs.length = n ∧ i < n ∧ xs[n - 1 - i]? = some x, fun i H x H' => H' = H ∧ ∀ xs, SqT K H a xs → xs.length = n → xs[n - 1 - i]? = some x, fun i _ => n ≤ i⟩
theorem turn_rv {P : Program} {w : World} {K : PySem.W.Frag} {tg : Expr} (a it : Addr) (n : Nat) : Turn P w K tg (Itv K a n) [it] it (fun i h => i ≤ n ∧ IsRv h it a ((n : Int) - 1 - (i : Int))) where
  mem := by simp
  obj := fun i h st b hb => by
    have e : b = it := by simpa using hb
    subst e
    obtain ⟨_, o, e, c, d⟩ := st
    exact ⟨o, e, fun v z => by rw [d] at z; cases z⟩
  keep := fun i h h' st k => by
    obtain ⟨hi, o, e, r⟩ := st
    exact ⟨hi, o, k it (by simp) o e, r⟩
  item := by
    intro X hP hw hK hc i pins s σ H E I hf st hg
    subst hP hw hK
    obtain ⟨xs, x, hq, hn, hi, hx⟩ := hg
    obtain ⟨its, rv, p, hz⟩ := I.tuple hq
    obtain ⟨u, hu, ru⟩ := rv.get hx
    obtain ⟨f0, f1, f2, f3, f4, f5⟩ := hf it (by simp)
    have hl := rv.length
    have e1 : (n : Int) - 1 - (i : Int) = ((n - 1 - i : Nat) : Int) := by omega
    have hit := st.2
    rw [e1] at hit
    refine rv_item hit p (by simp; omega) (by simp; omega) (x := u) (by simpa using hu) fun h' tk st' sb => ?_
    have I1 : Inv X pins σ H { s with heap := h', toks := tk } := I.turned (t' := tk) (fun b o hb e => (sb.2 b hb).trans e) f0 f1 f3 f4 f5
    have e2 : ((n - 1 - i : Nat) : Int) - 1 = (n : Int) - 1 - ((i + 1 : Nat) : Int) := by omega
    rw [e2] at st'
    obtain ⟨o, e, c, d⟩ := id st'
    exact ⟨u, rfl, go_of (s := { s with heap := h', toks := tk }) e c d (by decide) ⟨x, H, I1, ru, ⟨rfl, fun ys hy hn' => by rw [I.tuple_inj hy hq]; exact hx⟩, ⟨hi, st'⟩, fun b hb => (hf b hb).1⟩⟩
  done := by
    intro X hP hw hK hc i pins s σ H E I hf st hg
    subst hP hw hK
    obtain ⟨f0, f1, f2, f3, f4, f5⟩ := hf it (by simp)
    have hge : n ≤ i := hg
    have e1 : (n : Int) - 1 - (i : Int) = -1 := by have := st.1; omega
    have hit := st.2
    rw [e1] at hit
    exact rv_end (I.ok.hd hc) hit fun h' eb => ⟨rfl, I.turned (t' := s.toks) (fun b o hb e => eb b o hb e) f0 f1 f3 f4 f5⟩
  self := fun _ _ _ _ _ st h => rv_self st.2 h
section
variable {X : Cx} {tg : Expr} {K : PySem.W.Frag}
def iRev (K : PySem.W.Frag) (ta : TA) : TI := fun σ H R => ta σ H fun vs H1 => ∃ a xs, vs = [.ref a] ∧ SqT K H1 a xs ∧ R (Itv K a xs.length) H1
theorem pi_rev {a : Expr} {ta : TA} {p pos : Pos} (hg : Gl X "reversed") (hm : X.mg "reversed" = none) (ha : PA X [a] ta) (hs : starEach [a] X.env = [(false, eval a X.env)] := by rfl) : PI X tg (.Call (.Name "reversed" p) [a] [] pos) (iRev X.K ta) := by
  intro pins s σ H R I h
  refine Call_ (ld_blt I hg hm boot_reversed (PyProof.Rows.callWith_type1 (thn (ha pos pins s σ H _ I h) fun us s1 ⟨vs, H1, I1, r1, q1⟩ => ?_) hs rfl))
  obtain ⟨a, xs, e, hq, q⟩ := q1
  subst e
  obtain ⟨u, rfl, ru⟩ := vals1 r1
  cases ru
  obtain ⟨its, rv, pt, hz⟩ := I1.tuple hq
  have hl := rv.length
  refine call_rv pt (by simp; omega) fun tk => ?_
  have hn : IsRv (s1.heap.push (rvObj a ((its.toArray.size : Int) - 1))) s1.heap.objs.size a ((xs.length : Int) - 1 - ((0 : Nat) : Int)) := ⟨_, Heap.get?_push_size _ rfl, rfl, by simp [rvObj, hl]⟩
  refine rv_self (s := { s1 with heap := s1.heap.push (rvObj a ((its.toArray.size : Int) - 1)), toks := tk }) hn ?_
  refine ⟨s1.heap.objs.size, [s1.heap.objs.size], _, _, H1, rfl, I1.kept (t' := tk) fun b o e => Heap.get?_push_of_some _ e, turn_rv a _ xs.length, ⟨Nat.zero_le _, hn⟩, fun b hb => ?_, q⟩
  have e : b = s1.heap.objs.size := by simpa using hb
  subst e
  exact I1.fpOk (Nat.le_refl _) (I1.hok.fresh (Nat.le_refl _))
theorem pi_revK {a : Expr} {ta : TA} {p pos : Pos} (h : X.K = K) (hg : Gl X "reversed") (hm : X.mg "reversed" = none) (ha : PA X [a] ta) (hs : starEach [a] X.env = [(false, eval a X.env)] := by rfl) : PI X tg (.Call (.Name "reversed" p) [a] [] pos) (iRev K ta) := by
  subst h; exact pi_rev hg hm ha hs
variable {σ : St} {H : Hp} {D : Ends} {g : TG} {tb : TS} {aa : TA}
theorem rd_forV : tFor (iRev K aa) g tb D σ H ↔ aa σ H fun vs H1 => ∃ a xs, vs = [.ref a] ∧ SqT K H1 a xs ∧ LoopI (Itv K a xs.length) g tb D σ H1 := Iff.rfl
theorem loop_rev {a : Addr} {xs : List V} (Pv : Nat → St → Hp → Prop) (h0 : Pv 0 σ H) (hl : ∀ i σ H, i ≤ xs.length → Pv i σ H → SqT K H a xs)
    (hs : ∀ i x σ H, i < xs.length → xs[xs.length - 1 - i]? = some x → Pv i σ H → g x σ H fun σ2 H2 => tb { D with nx := Pv (i + 1), ct := Pv (i + 1), bk := D.nx } σ2 H2) (hd : ∀ σ H, Pv xs.length σ H → D.nx σ H) : LoopI (Itv K a xs.length) g tb D σ H := by
  refine ⟨fun i m σ H => m = xs.length - i ∧ i ≤ xs.length ∧ Pv i σ H, ⟨xs.length, by simp, Nat.zero_le _, h0⟩, ?_⟩
  rintro i m σ H ⟨rfl, hi, p⟩
  have hq := hl i σ H hi p
  by_cases hlt : i < xs.length
  · have hx : xs[xs.length - 1 - i]? = some xs[xs.length - 1 - i] := List.getElem?_eq_getElem (by omega)
    refine .inr ⟨⟨xs, _, hq, rfl, hlt, hx⟩, Pv (i + 1), fun σ' H' p' => ⟨xs.length - (i + 1), by omega, rfl, hlt, p'⟩, fun x H' y => ?_⟩
    obtain ⟨e, y⟩ := y
    subst e
    exact hs i x σ _ hlt (y xs hq rfl) p
  · have e : i = xs.length := by omega
    subst e
    exact .inl ⟨Nat.le_refl _, hd σ H p⟩
end
end L2
/-! A TUPLE TIMES A NUMBER -/
namespace L2
open PySem PySem.Spec PyProof.Rows
theorem tm_nofill : fillsNumberSlot (.type "tuple") "mul" = pure false := PySem.fillsNumberSlot_seq (id := "tuple.__mul__") (r := some (.builtin "tuple.__rmul__")) F.slot_tuple_mul.lookup (by decide +kernel) F.slot_tuple_rmul.lookup (by decide +kernel)
theorem tm_repeat : seqRepeat? (.type "tuple") = pure (some (.builtin "tuple.__mul__")) := by
  unfold seqRepeat?
  rw [PySem.seqSlot_of (T := "tuple") (name := "__mul__") (id := "tuple.__mul__") F.slot_tuple_mul.lookup (by decide +kernel), PySem.seqSlot_of (T := "tuple") (name := "__rmul__") (id := "tuple.__rmul__") F.slot_tuple_rmul.lookup (by decide +kernel)]
  rfl
theorem tm_rmul (a : Int) (t : Tok) (l : Addr) (items : Array Value) (n : Nat) (dd : Option Addr) (sl : Array (Option Value)) :
    Meets (Builtin.«int.__rmul__» ⟨[.int a t, .ref l], []⟩) (fun _ R s => s.heap.get? l = some { cls := .type "tuple", dict := dd, data := .seq items n, slots := sl } ∧ R (.ok (.ret Value.notImplemented)) s) :=
  .of_wp fun prog w A R s h => by
    obtain ⟨hp, g, d, tk, os⟩ := s; obtain ⟨hl, h⟩ := h
    wp_walk; exact ⟨_, rfl, h⟩
theorem tm_mul (l : Addr) (items : Array Value) (n : Nat) (dd : Option Addr) (sl : Array (Option Value)) (x : Int) (u : Tok) (h0 : items.isEmpty = false) (h1 : ¬ (decide (x < -(2 ^ 63)) || decide (x ≥ 2 ^ 63)) = true) (h2 : 2 ≤ x) (h3 : ¬ ((items.size : Int) * x > (2 ^ 63 - 1) / 8)) (h4 : (items.size : Int) * x ≤ sizeLine) :
    Meets (Builtin.«tuple.__mul__» ⟨[.ref l, .int x u], []⟩) (fun _ R s => s.heap.get? l = some { cls := .type "tuple", dict := dd, data := .seq items n, slots := sl } ∧
      R (.ok (.ret (Value.ref s.heap.objs.size))) { s with heap := s.heap.push { cls := Value.type "tuple", data := Data.seq (List.foldl (fun x1 x2 => x1 ++ x2) #[] (List.replicate x.toNat items)) }, toks := s.toks }) :=
  .of_wp fun prog w A R s h => by
    obtain ⟨hp, g, d, tk, os⟩ := s; obtain ⟨hl, h⟩ := h
    unfold Builtin.«tuple.__mul__»
    wp_walk
    have hx1 : ¬ (items.isEmpty || x == 1) = true := by rw [h0, Bool.false_or]; intro z; have := eq_of_beq z; omega
    have hx2 : ¬ (decide (x ≤ 0) || items.isEmpty) = true := by rw [h0, Bool.or_false, decide_eq_true_eq]; omega
    have hx3 : ¬ Builtin.Tuple.tupleTooMany ((items.size : Int) * x) = true := by unfold Builtin.Tuple.tupleTooMany; rw [decide_eq_true_eq]; omega
    rw [if_neg h1]
    wp_walk
    rw [if_neg hx1]
    try dsimp only
    rw [if_neg hx2]
    try dsimp only
    rw [if_neg h3]
    try dsimp only
    rw [if_neg hx3]
    refine wpAny_bind (m := Builtin.Tuple.tupleExact _) (wpAny_newObj_type (wpAny_pure ⟨_, rfl, h⟩) ?_)
    show (List.foldl (fun x1 x2 => x1 ++ x2) #[] (List.replicate x.toNat items)).size ≤ sizeLine
    have e : List.foldl (fun x1 x2 => x1 ++ x2) #[] (List.replicate x.toNat items.toList.toArray) = (List.replicate x.toNat items.toList).flatten.toArray := by
      have := foldl_rep items.toList x.toNat []
      rw [List.nil_append] at this
      exact this
    rw [show items.toList.toArray = items by simp] at e
    rw [e, List.size_toArray, len_rep, Array.length_toList]
    have : (items.size : Int) * x = ((x.toNat * items.size : Nat) : Int) := by rw [Int.natCast_mul, Int.toNat_of_nonneg (by omega), Int.mul_comm]
    omega
section
variable {X : Cx}
def rRepT : R2 := fun x y H Q => ∃ a k xs, x = .ref a ∧ y = .int k ∧ H a = some (.tup xs) ∧ 2 ≤ k ∧ k < 1000 ∧ xs.length * k.toNat ≤ sizeLine ∧ ∀ p H', Same H H' → H' p = some (.tup (List.replicate k.toNat xs).flatten) → Q (.ref p) H'
theorem tm_same (l : Addr) (items : Array Value) (n : Nat) (dd : Option Addr) (sl : Array (Option Value)) (x : Int) (u : Tok) (h0 : items.isEmpty = true) (h1 : ¬ (decide (x < -(2 ^ 63)) || decide (x ≥ 2 ^ 63)) = true) :
    Meets (Builtin.«tuple.__mul__» ⟨[.ref l, .int x u], []⟩) (fun _ R s => s.heap.get? l = some { cls := .type "tuple", dict := dd, data := .seq items n, slots := sl } ∧ R (.ok (.ret (Value.ref l))) s) :=
  .of_wp fun prog w A R s h => by
    obtain ⟨hp, g, d, tk, os⟩ := s; obtain ⟨hl, h⟩ := h
    unfold Builtin.«tuple.__mul__»
    have hx1 : (items.isEmpty || x == 1) = true := by rw [h0, Bool.true_or]
    wp_walk
    rw [if_neg h1]
    wp_walk
    exact ⟨_, rfl, h⟩
theorem op_repT : OpR X (binaryOp .Mult) rRepT := by
  intro pins s σ H x y v u Q I rx ry h
  obtain ⟨a, k, xs, rfl, rfl, hH, h1, h2, hz, q⟩ := h
  cases rx
  obtain ⟨t, rfl⟩ := ry
  obtain ⟨its, r, p, hl⟩ := I.tuple (SqT.of hH)
  obtain ⟨⟨cls, dd, data, sl⟩, ho, hc, n, hd⟩ := id p
  simp only at hc hd
  subst hc hd
  have hlen := r.length
  have hb : ¬ (decide (k < -(2 ^ 63)) || decide (k ≥ 2 ^ 63)) = true := by
    rw [Bool.or_eq_true, decide_eq_true_eq, decide_eq_true_eq]; omega
  have hprod : ((its.toArray.size : Nat) : Int) * k ≤ sizeLine := by
    rw [List.size_toArray, ← hlen]
    have : (xs.length : Int) * k = ((xs.length * k.toNat : Nat) : Int) := by rw [Int.natCast_mul, Int.toNat_of_nonneg (by omega)]
    omega
  refine wpAny_binaryOp_repeat_ref (T := "tuple") (U := "int") (by decide) p.typeIs (fun s' => typeIs_int s' k t) tm_nofill F.fills_int_mul F.slot_int_rmul tm_repeat F.slot_int_index.lookup
    (call_meets F.slot_int_rmul (typeIs_int s k t) F.entry_int_rmul (F.args_int_rmul_2 _ _) (tm_rmul k t a its.toArray n dd sl) ⟨ho, rfl, p.typeIs, ?_⟩)
  by_cases he : its = []
  · subst he
    have hx0 : xs = [] := r.nil_iff.mp rfl
    subst hx0
    exact call_meets F.slot_tuple_mul p.typeIs F.entry_tuple_mul (F.args_tuple_mul_2 _ _) (tm_same a _ n dd sl k t rfl hb) ⟨ho, .ref a, H, I, rfl, q a H (Same.refl _) (by rw [hH]; congr 2; exact (List.flatten_eq_nil_iff.mpr fun l hl => (List.mem_replicate.mp hl).2).symm)⟩
  · have h0 : its.toArray.isEmpty = false := by simpa using he
    have hcap : ¬ (((its.toArray.size : Nat) : Int) * k > (2 ^ 63 - 1) / 8) := by
      have : (sizeLine : Int) ≤ (2 ^ 63 - 1) / 8 := by decide
      omega
    refine call_meets F.slot_tuple_mul p.typeIs F.entry_tuple_mul (F.args_tuple_mul_2 _ _) (tm_mul a _ n dd sl k t h0 hb h1 hcap hprod) ⟨ho, ?_⟩
    have e : List.foldl (fun x1 x2 => x1 ++ x2) #[] (List.replicate k.toNat its.toArray) = (List.replicate k.toNat its).flatten.toArray := by
      have := foldl_rep its k.toNat []
      rw [List.nil_append] at this
      exact this
    rw [e]
    have hf : H s.heap.objs.size = none := I.hok.fresh (Nat.le_refl _)
    refine ⟨.ref s.heap.objs.size, _, I.laid (t' := s.toks) (o := .tup (List.replicate k.toNat xs).flatten) (fun b ob q => Heap.get?_push_of_some _ q) (Nat.le_refl _) ?_, rfl, q _ _ (same_new hf) upd_same⟩
    exact ⟨by rw [len_rep, Nat.mul_comm]; exact hz, _, r.rep k.toNat, IsTup.new _ _⟩
theorem repT_ref {a : Addr} {k : Int} {H : Hp} {Q : VK} : rRepT (.ref a) (.int k) H Q ↔ ∃ xs, H a = some (.tup xs) ∧ 2 ≤ k ∧ k < 1000 ∧ xs.length * k.toNat ≤ sizeLine ∧ ∀ p H', Same H H' → H' p = some (.tup (List.replicate k.toNat xs).flatten) → Q (.ref p) H' := by
  constructor
  · rintro ⟨a', k', xs, h1, h2, h⟩; cases h1; cases h2; exact ⟨xs, h⟩
  · rintro ⟨xs, h⟩; exact ⟨a, k, xs, rfl, rfl, h⟩
/-- a list times a number, the heap behind it as any that holds it -/
def rRepS : R2 := fun x y H Q => ∃ l k xs, x = .ref l ∧ y = .int k ∧ H l = some (.lst xs) ∧ 0 ≤ k ∧ k < 1000000 ∧ xs.length * k.toNat ≤ sizeLine ∧ ∀ p H', H p = none → Same H H' → H' p = some (.lst (List.replicate k.toNat xs).flatten) → Q (.ref p) H'
theorem op_repS : OpR X (binaryOp .Mult) rRepS := by
  intro pins s σ H x y v u Q I rx ry h
  obtain ⟨l, k, xs, hx, hy, hH, h1, h2, hz, q⟩ := h
  exact op_rep pins s σ H x y v u Q I rx ry ⟨l, k, xs, hx, hy, hH, by omega, by omega, hz, fun p hp => q p _ hp (same_new hp) upd_same⟩
theorem repS_ref {a : Addr} {k : Int} {H : Hp} {Q : VK} : rRepS (.ref a) (.int k) H Q ↔ ∃ xs, H a = some (.lst xs) ∧ 0 ≤ k ∧ k < 1000000 ∧ xs.length * k.toNat ≤ sizeLine ∧ ∀ p H', H p = none → Same H H' → H' p = some (.lst (List.replicate k.toNat xs).flatten) → Q (.ref p) H' := by
  constructor
  · rintro ⟨a', k', xs, h1, h2, h⟩; cases h1; cases h2; exact ⟨xs, h⟩
  · rintro ⟨xs, h⟩; exact ⟨a, k, xs, rfl, rfl, h⟩
end
end L2
/-! A TUPLE TIMES ANY NUMBER from 0 on -/
namespace L2
open PySem PySem.Spec PyProof.Rows
theorem tm_one (l : Addr) (items : Array Value) (n : Nat) (dd : Option Addr) (sl : Array (Option Value)) (u : Tok) :
    Meets (Builtin.«tuple.__mul__» ⟨[.ref l, .int 1 u], []⟩) (fun _ R s => s.heap.get? l = some { cls := .type "tuple", dict := dd, data := .seq items n, slots := sl } ∧ R (.ok (.ret (Value.ref l))) s) :=
  .of_wp fun prog w A R s h => by
    obtain ⟨hp, g, d, tk, os⟩ := s; obtain ⟨hl, h⟩ := h
    unfold Builtin.«tuple.__mul__»
    have hx1 : (items.isEmpty || ((1 : Int) == 1)) = true := by simp
    have h1 : ¬ (decide ((1 : Int) < -(2 ^ 63)) || decide ((1 : Int) ≥ 2 ^ 63)) = true := by decide
    wp_walk
    first | rw [if_neg h1] | skip
    wp_walk
    first | rw [if_pos hx1] | skip
    wp_walk
    exact ⟨_, rfl, h⟩
theorem tm_zero (l : Addr) (items : Array Value) (n : Nat) (dd : Option Addr) (sl : Array (Option Value)) (u : Tok) (h0 : items.isEmpty = false) :
    Meets (Builtin.«tuple.__mul__» ⟨[.ref l, .int 0 u], []⟩) (fun _ R s => s.heap.get? l = some { cls := .type "tuple", dict := dd, data := .seq items n, slots := sl } ∧
      R (.ok (.ret (Value.ref s.heap.objs.size))) { s with heap := s.heap.push { cls := Value.type "tuple", data := Data.seq #[] }, toks := s.toks }) :=
  .of_wp fun prog w A R s h => by
    obtain ⟨hp, g, d, tk, os⟩ := s; obtain ⟨hl, h⟩ := h
    unfold Builtin.«tuple.__mul__»
    have h1 : ¬ (decide ((0 : Int) < -(2 ^ 63)) || decide ((0 : Int) ≥ 2 ^ 63)) = true := by decide
    have hx1 : ¬ (items.isEmpty || ((0 : Int) == 1)) = true := by rw [h0]; decide
    have hx2 : (decide ((0 : Int) ≤ 0) || items.isEmpty) = true := by simp
    wp_walk
    first | rw [if_neg h1] | skip
    wp_walk
    first | rw [if_neg hx1] | skip
    try dsimp only
    first | rw [if_pos hx2] | skip
    exact ⟨_, rfl, h⟩
section
variable {X : Cx}
def rRepN : R2 := fun x y H Q => ∃ a k xs, x = .ref a ∧ y = .int k ∧ H a = some (.tup xs) ∧ 0 ≤ k ∧ k < 1000 ∧ xs.length * k.toNat ≤ sizeLine ∧ ∀ p H', Same H H' → H' p = some (.tup (List.replicate k.toNat xs).flatten) → Q (.ref p) H'
theorem op_repN : OpR X (binaryOp .Mult) rRepN := by
  intro pins s σ H x y v u Q I rx ry h
  obtain ⟨a, k, xs, rfl, rfl, hH, h1, h2, hz, q⟩ := h
  by_cases hk : 2 ≤ k
  · exact op_repT pins s σ H _ _ v u Q I rx ry ⟨a, k, xs, rfl, rfl, hH, hk, h2, hz, q⟩
  cases rx
  obtain ⟨t, rfl⟩ := ry
  obtain ⟨its, r, p, hl⟩ := I.tuple (SqT.of hH)
  obtain ⟨⟨cls, dd, data, sl⟩, ho, hc, n, hd⟩ := id p
  simp only at hc hd
  subst hc hd
  refine wpAny_binaryOp_repeat_ref (T := "tuple") (U := "int") (by decide) p.typeIs (fun s' => typeIs_int s' k t) tm_nofill F.fills_int_mul F.slot_int_rmul tm_repeat F.slot_int_index.lookup
    (call_meets F.slot_int_rmul (typeIs_int s k t) F.entry_int_rmul (F.args_int_rmul_2 _ _) (tm_rmul k t a its.toArray n dd sl) ⟨ho, rfl, p.typeIs, ?_⟩)
  have h01 : k = 0 ∨ k = 1 := by omega
  rcases h01 with rfl | rfl
  · by_cases he : its = []
    · subst he
      have hx0 : xs = [] := r.nil_iff.mp rfl
      subst hx0
      exact call_meets F.slot_tuple_mul p.typeIs F.entry_tuple_mul (F.args_tuple_mul_2 _ _) (tm_same a _ n dd sl 0 t rfl (by decide)) ⟨ho, .ref a, H, I, rfl, q a H (Same.refl _) hH⟩
    · have h0 : its.toArray.isEmpty = false := by simpa using he
      refine call_meets F.slot_tuple_mul p.typeIs F.entry_tuple_mul (F.args_tuple_mul_2 _ _) (tm_zero a _ n dd sl t h0) ⟨ho, ?_⟩
      have hf : H s.heap.objs.size = none := I.hok.fresh (Nat.le_refl _)
      refine ⟨.ref s.heap.objs.size, _, I.laid (t' := s.toks) (o := .tup []) (fun b ob q => Heap.get?_push_of_some _ q) (Nat.le_refl _) ?_, rfl, q _ _ (same_new hf) upd_same⟩
      exact ⟨Nat.zero_le _, [], .nil, IsTup.new _ _⟩
  · exact call_meets F.slot_tuple_mul p.typeIs F.entry_tuple_mul (F.args_tuple_mul_2 _ _) (tm_one a _ n dd sl t) ⟨ho, .ref a, H, I, rfl, q a H (Same.refl _) (by rw [hH]; simp)⟩
theorem repN_ref {a : Addr} {k : Int} {H : Hp} {Q : VK} : rRepN (.ref a) (.int k) H Q ↔ ∃ xs, H a = some (.tup xs) ∧ 0 ≤ k ∧ k < 1000 ∧ xs.length * k.toNat ≤ sizeLine ∧ ∀ p H', Same H H' → H' p = some (.tup (List.replicate k.toNat xs).flatten) → Q (.ref p) H' := by
  constructor
  · rintro ⟨a', k', xs, h1, h2, h⟩; cases h1; cases h2; exact ⟨xs, h⟩
  · rintro ⟨xs, h⟩; exact ⟨a, k, xs, rfl, rfl, h⟩
end
end L2
/-! list(range(n)), and the smaller one of two numbers -/
namespace L2
open PySem PySem.Spec PyProof.Rows
section
variable {X : Cx}
/-- the ints from lo on -/
def intsV (lo : Int) (n : Nat) : List V := (List.range n).map fun k => .int (lo + (k : Nat))
def tLR (ta : TA) : TE := fun σ H Q => ta σ H fun vs H1 => ∃ j : Int, vs = [.int j] ∧ 0 ≤ j ∧ j ≤ 1000000 ∧ ∀ p, H1 p = none → Q (.ref p) (upd H1 p (.lst (intsV 0 j.toNat)))
end
theorem rd_LR {ta : TA} {σ : St} {H : Hp} {Q : VK} : tLR ta σ H Q ↔ ta σ H fun vs H1 => ∃ j : Int, vs = [.int j] ∧ 0 ≤ j ∧ j ≤ 1000000 ∧ ∀ p, H1 p = none → Q (.ref p) (upd H1 p (.lst (intsV 0 j.toNat))) := Iff.rfl
end L2
/-! A COMPREHENSION over a tuple with a test: the items themselves are kept or left out, as is known one by one -/
namespace L2
open PySem
section
variable {p : Addr} {fv : St} {tt : TT} {te : TE} {Q : VK} {H1 : Hp} {K : PySem.W.Frag}
theorem comp_tupF {a : Addr} {xs : List V} (f : V → Bool) (g : V → V) (hxs : SqT K H1 a xs) (hlen : xs.length ≤ sizeLine) (hp : H1 p = none)
    (ht : ∀ (i : Nat) (x : V), xs[i]? = some x → ∀ (H' : Hp) (R : Bool → Hp → Prop), Same H1 H' → (∀ H'', Same H' H'' → R (f x) H'') → tt (some x :: fv) H' R)
    (he : ∀ (i : Nat) (x : V), xs[i]? = some x → f x = true → ∀ (H' : Hp) (T : VK), Same H1 H' → (∀ H'', Same H' H'' → T (g x) H'') → te (some x :: fv) H' T)
    (hQ : ∀ H', Same H1 H' → H' p = some (.lst ((xs.filter f).map g)) → Q (.ref p) H') : CompI (Itt K a) p fv tt te Q H1 := by
  refine ⟨fun i m ys H2 => m = xs.length - i ∧ i ≤ xs.length ∧ ys = ((xs.take i).filter f).map g ∧ H2 p = some (.lst ys) ∧ Same H1 H2, ⟨xs.length, by simp, Nat.zero_le _, by simp, upd_same, fun b o e => by rw [upd_ne (ne_of_none e hp)]; exact e⟩, ?_⟩
  rintro i m ys H2 ⟨rfl, hi, rfl, hp2, sm⟩
  refine ⟨hp2, ?_⟩
  have q := sm.tup hxs
  by_cases hlt : i < xs.length
  · refine .inr ⟨⟨xs, xs[i], q, by simp [hlt]⟩, ?_, fun x H3 y => ?_⟩
    · rw [List.length_map]
      have := List.length_filter_le f (xs.take i)
      rw [List.length_take] at this
      omega
    · obtain ⟨rfl, y⟩ := y
      have hc := y xs q
      refine ht i x hc _ _ sm fun H4 s4 => ?_
      by_cases hf : f x = true
      · rw [if_pos hf]
        refine he i x hc hf _ _ (sm.trans s4) fun H5 s5 => ⟨(s4.trans s5) _ _ hp2, xs.length - (i + 1), by omega, rfl, hlt, ?_, upd_same, fun b o e => ?_⟩
        · rw [List.take_add_one, hc]; simp [hf]
        · rw [upd_ne (ne_of_none e hp)]; exact (s4.trans s5) _ _ (sm _ _ e)
      · rw [if_neg hf]
        refine ⟨xs.length - (i + 1), by omega, rfl, hlt, ?_, s4 _ _ hp2, sm.trans s4⟩
        rw [List.take_add_one, hc]; simp [hf]
  · have e : i = xs.length := by omega
    subst e
    refine .inl ⟨⟨xs, q, Nat.le_refl _⟩, hQ H2 sm ?_⟩
    rw [hp2, List.take_length]
end
end L2
/-! COMPREHENSIONS of one for whose target is a tuple of two names -/
namespace L2
open PySem PySem.Spec PyProof.Rows
section
variable {X : Cx} {pins : List (Addr × Obj)} {σ : St} {H1 : Hp} {s3 : Shared} {x x2 : Str} {fx : List Str} {fr : List Nat} {scope : Scope} {cl : List (Str × Addr)} {fp : List Addr}
end
/-- the walk: each item is a tuple of two -/
def CompI2 (K : PySem.W.Frag) (J : It) (p : Addr) (fv : St) (tt : TT) (te : TE) (Q : VK) (H1 : Hp) : Prop :=
  ∃ W : Nat → Nat → List V → Hp → Prop, (∃ m, W 0 m [] (upd H1 p (.lst []))) ∧ ∀ i m ys H2, W i m ys H2 → H2 p = some (.lst ys) ∧
    ((J.stop i H2 ∧ Q (.ref p) H2) ∨ (J.go i H2 ∧ ys.length < sizeLine ∧ ∀ z H3, J.yld i H2 z H3 → ∃ a x y, z = .ref a ∧ SqT K H3 a [x, y] ∧ tt (some x :: some y :: fv) H3 fun b H4 =>
      if b = true then te (some x :: some y :: fv) H4 fun y H5 => H5 p = some (.lst ys) ∧ ∃ m', m' < m ∧ W (i + 1) m' (ys ++ [y]) (upd H5 p (.lst (ys ++ [y])))
      else ∃ m', m' < m ∧ W (i + 1) m' ys H4))
def tComp2 (K : PySem.W.Frag) (wi : TI) (fr : List Nat) (tt : TT) (te : TE) : TE := fun σ H Q => wi σ H fun J H1 => ∀ p, H1 p = none → CompI2 K J p (frV σ fr) tt te Q H1
section
variable {X : Cx} {elt iter : Expr} {x x2 : Str} {px px2 ptx pos : Pos} {kx : Nat} {ifs : List Expr} {scope : Scope} {cl : List (Str × Addr)} {fx : List Str} {fr : List Nat} {wi : TI} {tt : TT} {te : TE}
end
section
variable {p : Addr} {fv : St} {te : TE} {Q : VK} {H1 : Hp} {K : PySem.W.Frag}
theorem rd_comp2T {tl : TE} {tt : TT} {fr : List Nat} {σ : St} {H : Hp} : tComp2 K (iTup K tl) fr tt te σ H Q ↔ tl σ H fun x H1 => ∃ a, x = .ref a ∧ (∃ xs, SqT K H1 a xs) ∧ ∀ p, H1 p = none → CompI2 K (Itt K a) p (frV σ fr) tt te Q H1 := Iff.rfl
end
end L2
/-! A TEXT'S find -/
namespace L2
open PySem PySem.Spec PyProof.Rows
section
variable {X : Cx}
def rFind : V → List V → Hp → VK → Prop := fun x vs H Q => match x, vs with
  | .str z, [.str y] => Q (.int (Txt.find z y)) H
  | _, _ => False
theorem fi_find {z y : Str} {H : Hp} {Q : VK} : rFind (.str z) [.str y] H Q ↔ Q (.int (Txt.find z y)) H := Iff.rfl
end
end L2
namespace Wm
open PySem L2
end Wm
namespace Wm
open PySem L2
end Wm
namespace Wm
open PySem L2
end Wm
namespace Wm
end Wm
namespace L2
open PySem
theorem pa_ref {l : Addr} {H : Hp} {Q : VK} {i : Int} : rPopAt (.ref l) [.int i] H Q ↔ ∃ xs k y, H l = some (.lst xs) ∧ -(2 ^ 63) ≤ i ∧ i < 2 ^ 63 ∧ seqIndex? i xs.length = some k ∧ xs[k]? = some y ∧ Q y (upd H l (.lst (xs.eraseIdx k))) :=
  ⟨fun ⟨_, xs, _, k, y, h1, h2, h⟩ => by cases h1; cases h2; exact ⟨xs, k, y, h⟩, fun ⟨xs, k, y, h⟩ => ⟨_, xs, _, k, y, rfl, rfl, h⟩⟩
end L2
namespace Wm
open PySem L2
def top (i : Nat) : Stmt := PySem.Challenge.pw_waymark_k30_told_relative.main.body.getD i (.Pass ⟨0, 0, 0, 0⟩)
abbrev s_is_whole : Stmt := top 10
abbrev s_is_dot : Stmt := top 18
abbrev s_go_up : Stmt := top 21
abbrev s_can_stay : Stmt := top 27
abbrev s_count_in_common : Stmt := top 29
abbrev s__law_cell_at : Stmt := top 31
abbrev s__law_text : Stmt := top 32
abbrev s__law_same_way : Stmt := top 34
abbrev s__law_same_pairs : Stmt := top 35
abbrev s__law_gone : Stmt := top 37
abbrev s__law_scheme : Stmt := top 38
abbrev s__law_longer : Stmt := top 47
abbrev s__law_near : Stmt := top 48
abbrev s_steps_left : Stmt := top 20
abbrev s__law_step : Stmt := top 33
abbrev s__law_same : Stmt := top 36
abbrev s__law_question : Stmt := top 39
abbrev s__law_mark : Stmt := top 40
abbrev s__law_holder : Stmt := top 43
abbrev s_gone : Stmt := top 19
abbrev s__law_way : Stmt := top 41
abbrev s__law_way_between : Stmt := top 45
abbrev s_with_way_gone : Stmt := top 22
abbrev s_holder : Stmt := top 23
abbrev s__law_address : Stmt := top 42
abbrev s__law_relative : Stmt := top 46
abbrev s_way_between : Stmt := top 28
abbrev s__law_pair : Stmt := top 44
abbrev s_told_from : Stmt := top 26
abbrev s_relative : Stmt := top 25
abbrev s_law : Stmt := top 49
abbrev k_SCHEME : V := .int 0
abbrev k_HOUSE : V := .int 1
abbrev k_DOOR : V := .int 2
abbrev k_WAY : V := .int 3
abbrev k_QUESTION : V := .int 4
abbrev k_MARK : V := .int 5
abbrev k_ROOTED : V := .int 0
abbrev k_STEPS : V := .int 1
abbrev k_ENDS : V := .int 2
abbrev k_STAY : V := .str (Str.ofString ".")
abbrev k_UP : V := .str (Str.ofString "..")
set_option genInjectivity false
set_option genSizeOf false
set_option genSizeOfSpec false
structure G (K : PySem.W.Frag) (mg : Str → Option Value) where
  a_is_whole : Addr
  fd_is_whole : FuncData
  F_is_whole : Fun K "is_whole" "is_whole" s_is_whole a_is_whole fd_is_whole
  m_is_whole : mg "is_whole" = some (.ref a_is_whole)
  b_is_whole : Binds K fd_is_whole ["address"] []
  a_is_dot : Addr
  fd_is_dot : FuncData
  F_is_dot : Fun K "is_dot" "is_dot" s_is_dot a_is_dot fd_is_dot
  m_is_dot : mg "is_dot" = some (.ref a_is_dot)
  b_is_dot : Binds K fd_is_dot ["step"] []
  a_go_up : Addr
  fd_go_up : FuncData
  F_go_up : Fun K "go_up" "go_up" s_go_up a_go_up fd_go_up
  m_go_up : mg "go_up" = some (.ref a_go_up)
  b_go_up : Binds K fd_go_up ["left", "rooted"] []
  a_can_stay : Addr
  fd_can_stay : FuncData
  F_can_stay : Fun K "can_stay" "can_stay" s_can_stay a_can_stay fd_can_stay
  m_can_stay : mg "can_stay" = some (.ref a_can_stay)
  b_can_stay : Binds K fd_can_stay ["base", "goal"] []
  a_count_in_common : Addr
  fd_count_in_common : FuncData
  F_count_in_common : Fun K "count_in_common" "count_in_common" s_count_in_common a_count_in_common fd_count_in_common
  m_count_in_common : mg "count_in_common" = some (.ref a_count_in_common)
  b_count_in_common : Binds K fd_count_in_common ["one", "other"] []
  a__law_cell_at : Addr
  fd__law_cell_at : FuncData
  F__law_cell_at : Fun K "_law_cell_at" "_law_cell_at" s__law_cell_at a__law_cell_at fd__law_cell_at
  m__law_cell_at : mg "_law_cell_at" = some (.ref a__law_cell_at)
  b__law_cell_at : Binds K fd__law_cell_at ["_law_script", "_law_k"] []
  a__law_text : Addr
  fd__law_text : FuncData
  F__law_text : Fun K "_law_text" "_law_text" s__law_text a__law_text fd__law_text
  m__law_text : mg "_law_text" = some (.ref a__law_text)
  b__law_text : Binds K fd__law_text ["_law_cell", "_law_most"] []
  a__law_same_way : Addr
  fd__law_same_way : FuncData
  F__law_same_way : Fun K "_law_same_way" "_law_same_way" s__law_same_way a__law_same_way fd__law_same_way
  m__law_same_way : mg "_law_same_way" = some (.ref a__law_same_way)
  b__law_same_way : Binds K fd__law_same_way ["_law_found", "_law_due"] []
  a__law_same_pairs : Addr
  fd__law_same_pairs : FuncData
  F__law_same_pairs : Fun K "_law_same_pairs" "_law_same_pairs" s__law_same_pairs a__law_same_pairs fd__law_same_pairs
  m__law_same_pairs : mg "_law_same_pairs" = some (.ref a__law_same_pairs)
  b__law_same_pairs : Binds K fd__law_same_pairs ["_law_found"] []
  a__law_gone : Addr
  fd__law_gone : FuncData
  F__law_gone : Fun K "_law_gone" "_law_gone" s__law_gone a__law_gone fd__law_gone
  m__law_gone : mg "_law_gone" = some (.ref a__law_gone)
  b__law_gone : Binds K fd__law_gone ["_law_way_here"] []
  a__law_scheme : Addr
  fd__law_scheme : FuncData
  F__law_scheme : Fun K "_law_scheme" "_law_scheme" s__law_scheme a__law_scheme fd__law_scheme
  m__law_scheme : mg "_law_scheme" = some (.ref a__law_scheme)
  b__law_scheme : Binds K fd__law_scheme ["_law_cell"] []
  a__law_longer : Addr
  fd__law_longer : FuncData
  F__law_longer : Fun K "_law_longer" "_law_longer" s__law_longer a__law_longer fd__law_longer
  m__law_longer : mg "_law_longer" = some (.ref a__law_longer)
  b__law_longer : Binds K fd__law_longer ["_law_address_here"] []
  a__law_near : Addr
  fd__law_near : FuncData
  F__law_near : Fun K "_law_near" "_law_near" s__law_near a__law_near fd__law_near
  m__law_near : mg "_law_near" = some (.ref a__law_near)
  b__law_near : Binds K fd__law_near ["_law_base", "_law_goal", "_law_way_here"] []
  a_steps_left : Addr
  fd_steps_left : FuncData
  F_steps_left : Fun K "steps_left" "steps_left" s_steps_left a_steps_left fd_steps_left
  m_steps_left : mg "steps_left" = some (.ref a_steps_left)
  b_steps_left : Binds K fd_steps_left ["steps", "rooted"] []
  a__law_step : Addr
  fd__law_step : FuncData
  F__law_step : Fun K "_law_step" "_law_step" s__law_step a__law_step fd__law_step
  m__law_step : mg "_law_step" = some (.ref a__law_step)
  b__law_step : Binds K fd__law_step ["_law_cell"] []
  a__law_same : Addr
  fd__law_same : FuncData
  F__law_same : Fun K "_law_same" "_law_same" s__law_same a__law_same fd__law_same
  m__law_same : mg "_law_same" = some (.ref a__law_same)
  b__law_same : Binds K fd__law_same ["_law_found", "_law_due"] []
  a__law_question : Addr
  fd__law_question : FuncData
  F__law_question : Fun K "_law_question" "_law_question" s__law_question a__law_question fd__law_question
  m__law_question : mg "_law_question" = some (.ref a__law_question)
  b__law_question : Binds K fd__law_question ["_law_cell"] []
  a__law_mark : Addr
  fd__law_mark : FuncData
  F__law_mark : Fun K "_law_mark" "_law_mark" s__law_mark a__law_mark fd__law_mark
  m__law_mark : mg "_law_mark" = some (.ref a__law_mark)
  b__law_mark : Binds K fd__law_mark ["_law_cell"] []
  a__law_holder : Addr
  fd__law_holder : FuncData
  F__law_holder : Fun K "_law_holder" "_law_holder" s__law_holder a__law_holder fd__law_holder
  m__law_holder : mg "_law_holder" = some (.ref a__law_holder)
  b__law_holder : Binds K fd__law_holder ["_law_way_here"] []
  a_gone : Addr
  fd_gone : FuncData
  F_gone : Fun K "gone" "gone" s_gone a_gone fd_gone
  m_gone : mg "gone" = some (.ref a_gone)
  b_gone : Binds K fd_gone ["way"] []
  a__law_way : Addr
  fd__law_way : FuncData
  F__law_way : Fun K "_law_way" "_law_way" s__law_way a__law_way fd__law_way
  m__law_way : mg "_law_way" = some (.ref a__law_way)
  b__law_way : Binds K fd__law_way ["_law_cells", "_law_rooted", "_law_ends"] []
  a__law_way_between : Addr
  fd__law_way_between : FuncData
  F__law_way_between : Fun K "_law_way_between" "_law_way_between" s__law_way_between a__law_way_between fd__law_way_between
  m__law_way_between : mg "_law_way_between" = some (.ref a__law_way_between)
  b__law_way_between : Binds K fd__law_way_between ["_law_old", "_law_new"] []
  a_with_way_gone : Addr
  fd_with_way_gone : FuncData
  F_with_way_gone : Fun K "with_way_gone" "with_way_gone" s_with_way_gone a_with_way_gone fd_with_way_gone
  m_with_way_gone : mg "with_way_gone" = some (.ref a_with_way_gone)
  b_with_way_gone : Binds K fd_with_way_gone ["address"] []
  a_holder : Addr
  fd_holder : FuncData
  F_holder : Fun K "holder" "holder" s_holder a_holder fd_holder
  m_holder : mg "holder" = some (.ref a_holder)
  b_holder : Binds K fd_holder ["way"] []
  a__law_address : Addr
  fd__law_address : FuncData
  F__law_address : Fun K "_law_address" "_law_address" s__law_address a__law_address fd__law_address
  m__law_address : mg "_law_address" = some (.ref a__law_address)
  b__law_address : Binds K fd__law_address ["_law_script", "_law_first", "_law_whole", "_law_cells"] []
  a__law_relative : Addr
  fd__law_relative : FuncData
  F__law_relative : Fun K "_law_relative" "_law_relative" s__law_relative a__law_relative fd__law_relative
  m__law_relative : mg "_law_relative" = some (.ref a__law_relative)
  b__law_relative : Binds K fd__law_relative ["_law_base", "_law_goal"] []
  a_way_between : Addr
  fd_way_between : FuncData
  F_way_between : Fun K "way_between" "way_between" s_way_between a_way_between fd_way_between
  m_way_between : mg "way_between" = some (.ref a_way_between)
  b_way_between : Binds K fd_way_between ["base_way", "goal_way"] []
  a__law_pair : Addr
  fd__law_pair : FuncData
  F__law_pair : Fun K "_law_pair" "_law_pair" s__law_pair a__law_pair fd__law_pair
  m__law_pair : mg "_law_pair" = some (.ref a__law_pair)
  b__law_pair : Binds K fd__law_pair ["_law_script"] []
  a_told_from : Addr
  fd_told_from : FuncData
  F_told_from : Fun K "told_from" "told_from" s_told_from a_told_from fd_told_from
  m_told_from : mg "told_from" = some (.ref a_told_from)
  b_told_from : Binds K fd_told_from ["base", "goal"] []
  a_relative : Addr
  fd_relative : FuncData
  F_relative : Fun K "relative" "relative" s_relative a_relative fd_relative
  m_relative : mg "relative" = some (.ref a_relative)
  b_relative : Binds K fd_relative ["base", "goal"] []
  a_law : Addr
  fd_law : FuncData
  F_law : Fun K "law" "law" s_law a_law fd_law
  m_law : mg "law" = some (.ref a_law)
  b_law : Binds K fd_law ["_law_script"] []
  t_SCHEME : Tok
  c_SCHEME : mg "SCHEME" = some (.int 0 t_SCHEME)
  t_HOUSE : Tok
  c_HOUSE : mg "HOUSE" = some (.int 1 t_HOUSE)
  t_DOOR : Tok
  c_DOOR : mg "DOOR" = some (.int 2 t_DOOR)
  t_WAY : Tok
  c_WAY : mg "WAY" = some (.int 3 t_WAY)
  t_QUESTION : Tok
  c_QUESTION : mg "QUESTION" = some (.int 4 t_QUESTION)
  t_MARK : Tok
  c_MARK : mg "MARK" = some (.int 5 t_MARK)
  t_ROOTED : Tok
  c_ROOTED : mg "ROOTED" = some (.int 0 t_ROOTED)
  t_STEPS : Tok
  c_STEPS : mg "STEPS" = some (.int 1 t_STEPS)
  t_ENDS : Tok
  c_ENDS : mg "ENDS" = some (.int 2 t_ENDS)
  t_STAY : Tok
  c_STAY : mg "STAY" = some (.str (Str.ofString ".") t_STAY)
  t_UP : Tok
  c_UP : mg "UP" = some (.str (Str.ofString "..") t_UP)
  p_NO_WAY : Addr
  c_NO_WAY : mg "NO_WAY" = some (.ref p_NO_WAY)
  q_NO_WAY : ∀ H, IsK K H (.tuple [.bool false, .tuple [], .bool false]) (.ref p_NO_WAY)
  b_len : mg "len" = none
  b_min : mg "min" = none
  b_range : mg "range" = none
  b_isinstance : mg "isinstance" = none
  b_str : mg "str" = none
  b_bool : mg "bool" = none
  b_tuple : mg "tuple" = none
  b_reversed : mg "reversed" = none
  b_int : mg "int" = none
  b_list : mg "list" = none
/-! ### what each def promises -/
def sp_is_whole (K : PySem.W.Frag) : Sp := fun vs H Q _ => ∃ (p : Addr) (l : List Nat) (r : List V), vs = [.ref p] ∧ SqT K H p (.str ⟨l.toArray⟩ :: r) ∧ Q (.bl (!decide (l = []))) H
def sp_is_dot : Sp := fun vs H Q _ => ∃ s : Stp, vs = [sV s] ∧ Q (.bl (isDot s)) H
def sp_go_up (K : PySem.W.Frag) : Sp := fun vs H Q _ => ∃ (p : Addr) (L : List Stp) (r : Bool), vs = [.ref p, .bl r] ∧ H p = some (.lst (L.map sV)) ∧ L.length ≤ 2000 ∧ Q .non (upd H p (.lst ((goUp r L).map sV)))
def sp_can_stay (K : PySem.W.Frag) : Sp := fun vs H Q _ => ∃ (b g : Ad) (vb vg : V), vs = [vb, vg] ∧ IsK K H b.data vb ∧ IsK K H g.data vg ∧ b.Wf ∧ g.Wf ∧ Q (.bl (decide (b.w = g.w ∧ (g.quest ≠ none ∨ b.quest = none)))) H
def sp_count_in_common (K : PySem.W.Frag) : Sp := fun vs H Q _ => ∃ (p q : Addr) (h t : List Stp), vs = [.ref p, .ref q] ∧ SqT K H p (h.map sV) ∧ SqT K H q (t.map sV) ∧ Q (.int (comm h t)) H
def sp__law_cell_at (K : PySem.W.Frag) : Sp := fun vs H Q _ => ∃ (a : Addr) (ns : List Int) (k : Nat), vs = [.ref a, .int (k : Int)] ∧ SqL K H a (ns.map V.int) ∧ Q (.int (ns.getD k 0)) H
def sp__law_text : Sp := fun vs H Q _ => ∃ (c m : Int), vs = [.int c, .int m] ∧ 0 < m ∧ m ≤ 60 ∧ ∀ l : List Nat, 0 < l.length → (l.length : Int) ≤ m → (∀ c ∈ l, isSg c = true) → Q (sV l) H
def sp__law_same_way (K : PySem.W.Frag) : Sp := fun vs H Q _ => ∃ (w : Way) (v u : V), vs = [v, u] ∧ IsK K H (wayOf w) v ∧ IsK K H (wayOf w) u ∧ (∀ s ∈ w.2.1, ∀ c ∈ s, isSg c = true) ∧ w.2.1.length ≤ 2000 ∧ ∀ H', Same H H' → Q (.bl true) H'
def sp__law_same_pairs (K : PySem.W.Frag) : Sp := fun vs H Q _ => ∃ (q : Option (List (List Nat × Option (List Nat)))) (v : V), vs = [v] ∧ IsK K H (qD q) v ∧ Q (.bl true) H
def sp__law_gone (K : PySem.W.Frag) : Sp := fun vs H Q _ => ∃ (w : Way) (v : V), vs = [v] ∧ IsT H (wayOf w) v ∧ (∀ s ∈ w.2.1, ∀ c ∈ s, isSg c = true) ∧ w.2.1.length ≤ 2000 ∧ ∀ (u : V) (H' : Hp), Same H H' → IsT H' (wayOf (goneV w)) u → Q u H'
def sp__law_scheme : Sp := fun vs H Q _ => ∃ c : Int, vs = [.int c] ∧ ∀ l : List Nat, 0 < l.length → l.length ≤ 8 → (∀ c ∈ l, isAln c = true) → (∀ c ∈ l.take 1, isLet c = true) → Q (.str ⟨l.toArray⟩) H
def sp__law_longer (K : PySem.W.Frag) : Sp := fun vs H Q _ => ∃ (x : Ad) (v : V), vs = [v] ∧ IsT H x.data v ∧ GoodAd 130 x ∧ ∀ (y : Ad) (u : V) (H' : Hp), Same H H' → GoodAd 180 y → IsT H' y.data u → Q u H'
def sp__law_near (K : PySem.W.Frag) : Sp := fun vs H Q _ => ∃ (b g : Ad) (vb vg : V) (w : Int), vs = [vb, vg, .int w] ∧ IsT H b.data vb ∧ IsT H g.data vg ∧ GoodAd 180 b ∧ GoodAd 180 g ∧ ∀ (y : Ad) (u : V) (H' : Hp), Same H H' → (y.Wf ∧ y.scheme ≠ [] ∧ y.steps.length ≤ 180) → IsT H' y.data u → Q u H'
def sp_steps_left (K : PySem.W.Frag) : Sp := fun vs H Q _ => ∃ (ps : Addr) (ss : List Stp) (r : Bool), vs = [.ref ps, .bl r] ∧ SqT K H ps (ss.map sV) ∧ ss.length ≤ 2000 ∧ ∀ p H', Same H H' → H' p = some (.tup ((goneS r ss).map sV)) → Q (.ref p) H'
def sp__law_step : Sp := fun vs H Q _ => ∃ c : Int, vs = [.int c] ∧ ∀ (l : List Nat) (H' : Hp), Same H H' → 0 < l.length → l.length ≤ 9 → (∀ c ∈ l, isSg c = true) → Q (sV l) H'
def sp__law_same (K : PySem.W.Frag) : Sp := fun vs H Q _ => ∃ (x : Ad) (v u : V), vs = [v, u] ∧ IsK K H x.data v ∧ IsK K H x.data u ∧ x.Wf ∧ x.steps.length ≤ 2000 ∧ ∀ H', Same H H' → Q (.bl true) H'
def sp__law_question : Sp := fun vs H Q _ => ∃ c : Int, vs = [.int c] ∧ ∀ (q : Option (List (List Nat × Option (List Nat)))) (v : V) (H' : Hp), QOk q → Same H H' → IsT H' (qD q) v → Q v H'
def sp__law_mark : Sp := fun vs H Q _ => ∃ c : Int, vs = [.int c] ∧ ∀ o : Option (List Nat), (∀ l, o = some l → l.length ≤ 7 ∧ ∀ c ∈ l, isSg c = true) → Q (otV o) H
def sp__law_holder (K : PySem.W.Frag) : Sp := fun vs H Q _ => ∃ (w : Way) (v : V), vs = [v] ∧ IsT H (wayOf w) v ∧ (∀ s ∈ w.2.1, ∀ c ∈ s, isSg c = true) ∧ w.2.1.length ≤ 2000 ∧ ∀ (p : Addr) (H' : Hp), Same H H' → H' p = some (.tup ((holder w).map sV)) → Q (.ref p) H'
def sp_gone (K : PySem.W.Frag) : Sp := fun vs H Q _ => ∃ (w : Way) (v : V), vs = [v] ∧ IsK K H (wayOf w) v ∧ w.2.1.length ≤ 2000 ∧ ∀ (u : V) (H' : Hp), Same H H' → IsK K H' (wayOf (goneV w)) u → Q u H'
def sp__law_way (K : PySem.W.Frag) : Sp := fun vs H Q _ => ∃ (pc : Addr) (cs : List Int) (r e : Bool), vs = [.ref pc, .bl r, .bl e] ∧ SqL K H pc (cs.map V.int) ∧ cs.length ≤ 2000 ∧ ∀ (ss : List Stp) (e' : Bool) (v : V) (H' : Hp), ss.length = cs.length → (∀ s ∈ ss, StepOk s ∧ s.length ≤ 9) → (ss = [] → e' = r) → Same H H' → IsT H' (wayOf (r, ss, e')) v → Q v H'
def sp__law_way_between (K : PySem.W.Frag) : Sp := fun vs H Q _ => ∃ (b g : Way) (vb vg : V), vs = [vb, vg] ∧ IsT H (wayOf b) vb ∧ IsT H (wayOf g) vg ∧ goneV b = b ∧ goneV g = g ∧ AllSg b.2.1 ∧ AllSg g.2.1 ∧ (g.2.2 = false → g.2.1 ≠ []) ∧ b.2.1.length ≤ 400 ∧ g.2.1.length ≤ 400 ∧ ∀ (v : V) (H' : Hp), Same H H' → IsT H' (wayOf (false, betw b g, g.2.2)) v → Q v H'
def sp_with_way_gone (K : PySem.W.Frag) : Sp := fun vs H Q _ => ∃ (x : Ad) (v : V), vs = [v] ∧ IsK K H x.data v ∧ x.steps.length ≤ 2000 ∧ ∀ (u : V) (H' : Hp), Same H H' → IsK K H' x.gone.data u → Q u H'
def sp_holder (K : PySem.W.Frag) : Sp := fun vs H Q _ => ∃ (w : Way) (v : V), vs = [v] ∧ IsK K H (wayOf w) v ∧ w.2.1.length ≤ 2000 ∧ ∀ (p : Addr) (H' : Hp), Same H H' → SqT K H' p ((holder w).map sV) → Q (.ref p) H'
def sp__law_address (K : PySem.W.Frag) : Sp := fun vs H Q _ => ∃ (a : Addr) (ns : List Int) (i : Nat) (wh : Bool) (pc : Addr) (cs : List Int), vs = [.ref a, .int (i : Int), .bl wh, .ref pc] ∧ SqL K H a (ns.map V.int) ∧ SqL K H pc (cs.map V.int) ∧ cs.length ≤ 2000 ∧ ∀ (x : Ad) (v : V) (H' : Hp), x.Wf → x.Tiny → x.steps.length ≤ cs.length → (wh = true → x.scheme ≠ []) → Same H H' → IsT H' x.data v → Q v H'
def sp__law_relative (K : PySem.W.Frag) : Sp := fun vs H Q _ => ∃ (b g : Ad) (vb vg : V), vs = [vb, vg] ∧ IsT H b.data vb ∧ IsT H g.data vg ∧ b.Wf ∧ g.Wf ∧ b.scheme ≠ [] ∧ g.scheme ≠ [] ∧ b.steps.length ≤ 400 ∧ g.steps.length ≤ 400 ∧ ∀ (v : V) (H' : Hp), Same H H' → IsT H' (relM b g).data v → Q v H'
def sp_way_between (K : PySem.W.Frag) : Sp := fun vs H Q _ => ∃ (b g : Way) (vb vg : V), vs = [vb, vg] ∧ IsK K H (wayOf b) vb ∧ IsK K H (wayOf g) vg ∧ goneV b = b ∧ goneV g = g ∧ b.2.1.length ≤ 900 ∧ g.2.1.length ≤ 900 ∧ ∀ (v : V) (H' : Hp), Same H H' → IsK K H' (wayOf (false, betw b g, g.2.2)) v → Q v H'
def sp__law_pair (K : PySem.W.Frag) : Sp := fun vs H Q _ => ∃ (a : Addr) (ns : List Int), vs = [.ref a] ∧ SqL K H a (ns.map V.int) ∧ ns.length ≤ 63 ∧ ∀ (b g : Ad) (vb vg : V) (p : Addr) (H' : Hp), Same H H' → GoodAd 130 b → GoodAd 130 g → IsT H' b.data vb → IsT H' g.data vg → H' p = some (.tup [vb, vg]) → Q (.ref p) H'
def sp_told_from (K : PySem.W.Frag) : Sp := fun vs H Q _ => ∃ (b g : Ad) (vb vg : V), vs = [vb, vg] ∧ IsK K H b.data vb ∧ IsK K H g.data vg ∧ b.Wf ∧ g.Wf ∧ b.gone = b ∧ g.gone = g ∧ b.steps.length ≤ 900 ∧ g.steps.length ≤ 900 ∧ ∀ (v : V) (H' : Hp), Same H H' → IsK K H' (relM b g).data v → Q v H'
def sp_relative (K : PySem.W.Frag) : Sp := fun vs H Q _ => ∃ (b g : Ad) (vb vg : V), vs = [vb, vg] ∧ IsK K H b.data vb ∧ IsK K H g.data vg ∧ b.Wf ∧ g.Wf ∧ b.scheme ≠ [] ∧ g.scheme ≠ [] ∧ b.steps.length ≤ 900 ∧ g.steps.length ≤ 900 ∧ ∀ (v : V) (H' : Hp), Same H H' → IsK K H' (relM b g).data v → Q v H'
def sp_law (K : PySem.W.Frag) : Sp := fun vs H Q _ => ∃ (a : Addr) (ns : List Int), vs = [.ref a] ∧ SqL K H a (ns.map V.int) ∧ ns.length ≤ 63 ∧ ∀ H', Q (.bl true) H'
section
variable {H : Hp} {Q : VK} {E : XK} {K : PySem.W.Frag}
end
section
variable {P : Program} {w : World} {K : PySem.W.Frag} {mg : Str → Option Value} {base : Heap}
seal PE PA PT PS PSs PG PI PF PO PW
local macro_rules | `(tactic| walk_at "rd") => `(tactic| simp only [L2.start, List.map_cons, List.map_nil, List.length_cons, List.length_nil, Nat.reduceAdd, Nat.reduceSub, Nat.zero_add, List.replicate_succ, List.replicate_zero, L2.rd_var, L2.rd_C, L2.rd_seq, L2.rd_cut, L2.rd_later, L2.rd_asg, L2.rd_name, L2.rd_ifS, L2.rd_next, L2.rd_brk, L2.rd_ret, L2.rd_drop, L2.rd_op, L2.rd_test, L2.rd_B, L2.rd_and, L2.rd_or, L2.rd_not, L2.rd_andV, L2.rd_orV, L2.rd_notV, L2.rd_if, L2.rd_chain, L2.rd_nil, L2.rd_cons, L2.rd_lst, L2.rd_tup, L2.rd_tupS, L2.rd_lstS, L2.adS_int, L2.adS_str, L2.liS_ref, L2.tuS_ref, L2.slS_ref, L2.slLS_ref, L2.rd_call, L2.rd_cb, L2.rd_bm, L2.rd_bm0, L2.rd_sl, L2.rd_noPart, L2.rd_part, L2.rd_tyStr, L2.rd_I, L2.rd_I0, L2.rd_eqII, L2.rd_eqSS, L2.rd_eqBB, L2.rd_neII, L2.rd_neSS, L2.rd_neBB, L2.rd_neNN, L2.rd_neSN, L2.rd_neNSx, L2.rd_eqNN, L2.rd_eqSN, L2.rd_eqNSx, L2.rd_ixS, L2.rd_slS, L2.rd_slL, L2.rd_ixR, L2.ad_ref, L2.isi_any, L2.kind_non, L2.kind_bl, L2.kind_int, L2.kind_str, L2.memT_bool, L2.memT_int, L2.memT_str, L2.memT_list, L2.memT_tuple, L2.sub_NoneType_bool, L2.sub_NoneType_int, L2.sub_NoneType_str, L2.sub_NoneType_list, L2.sub_NoneType_tuple, L2.sub_bool_bool, L2.sub_bool_int, L2.sub_bool_str, L2.sub_bool_list, L2.sub_bool_tuple, L2.sub_int_bool, L2.sub_int_int, L2.sub_int_str, L2.sub_int_list, L2.sub_int_tuple, L2.sub_str_bool, L2.sub_str_int, L2.sub_str_str, L2.sub_str_list, L2.sub_str_tuple, L2.sub_list_bool, L2.sub_list_int, L2.sub_list_str, L2.sub_list_list, L2.sub_list_tuple, L2.sub_tuple_bool, L2.sub_tuple_int, L2.sub_tuple_str, L2.sub_tuple_list, L2.sub_tuple_tuple, L2.rd_gTup, L2.rd_gSub, L2.rd_gCons, L2.rd_gNil, L2.set_ref, L2.cx_K, L2.ad_int, L2.ad_str, L2.mu_int, L2.mu_str, L2.le_str, L2.le_ref, L2.or_one, L2.in_bl, L2.in_one, L2.notin_one, L2.isN_f, L2.isB_f, L2.isN_t, L2.rd_compS, L2.rd_compL, L2.frV_nil, L2.frV_cons, Option.getD_some, L2.jo_ref, L2.rd_un, L2.rd_U, L2.ap_ref, L2.ty_list, L2.rd_compT, L2.rd_forT, L2.all_ref, L2.any_ref, L2.li_ref, L2.tu_ref, L2.slT_ref, L2.rd_forS, L2.rd_forL, L2.rd_forR, List.getElem?_cons_zero, List.getElem?_cons_succ, List.set_cons_zero, List.set_cons_succ, List.nil_append, List.cons_append, List.append_nil, Option.some.injEq, exists_eq_left, exists_eq_left', true_and, and_true, L2.V.bl.injEq, L2.V.int.injEq, L2.V.str.injEq, L2.V.ref.injEq, List.cons.injEq, reduceCtorEq, false_and, and_false, exists_false, false_or, or_false, decide_eq_true_eq, Bool.not_true, Bool.not_false, ↓reduceIte, if_true, if_false, not_true_eq_false, not_false_eq_true, decide_true, decide_false, Bool.false_eq_true, L2.slTA_ref, L2.slX_ref, L2.catX_ref, L2.isiX_any, L2.rd_sl3, rv_ref, L2.po_ref, L2.rd_never, L2.isB_t, L2.rd_forV, L2.repT_ref, L2.repS_ref, L2.repN_ref, L2.rd_LR, L2.rd_comp2T, L2.fi_find, L2.pa_ref, emp_eq, tilde_eq, mk_app, mk_len, mk_list, slice_1, map_arr, List.drop_succ_cons, List.drop_zero, L2.ix_index, L2.up_str, L2.lo_str, L2.an_str, Bool.not_eq_true', decide_eq_false_iff_not])
theorem sc_is_whole : FnScope ["address"] ["address"] (defScope s_is_whole) := ⟨rfl, rfl, rfl, by decide +kernel, rfl, by decide +kernel, by decide +kernel⟩
theorem sc_is_dot : FnScope ["step"] ["step"] (defScope s_is_dot) := ⟨rfl, rfl, rfl, by decide +kernel, rfl, by decide +kernel, by decide +kernel⟩
theorem sc_go_up : FnScope ["left", "rooted"] ["left", "rooted"] (defScope s_go_up) := ⟨rfl, rfl, rfl, by decide +kernel, rfl, by decide +kernel, by decide +kernel⟩
theorem sc_can_stay : FnScope ["base", "goal"] ["base", "goal"] (defScope s_can_stay) := ⟨rfl, rfl, rfl, by decide +kernel, rfl, by decide +kernel, by decide +kernel⟩
theorem sc_count_in_common : FnScope ["one", "other", "count"] ["one", "other"] (defScope s_count_in_common) := ⟨rfl, rfl, rfl, by decide +kernel, rfl, by decide +kernel, by decide +kernel⟩
theorem sc__law_cell_at : FnScope ["_law_script", "_law_k"] ["_law_script", "_law_k"] (defScope s__law_cell_at) := ⟨rfl, rfl, rfl, by decide +kernel, rfl, by decide +kernel, by decide +kernel⟩
theorem sc__law_text : FnScope ["_law_cell", "_law_most", "_law_some", "_law_text_here", "_law_number", "_law_k"] ["_law_cell", "_law_most"] (defScope s__law_text) := ⟨rfl, rfl, rfl, by decide +kernel, rfl, by decide +kernel, by decide +kernel⟩
theorem sc__law_same_way : FnScope ["_law_found", "_law_due"] ["_law_found", "_law_due"] (defScope s__law_same_way) := ⟨rfl, rfl, rfl, by decide +kernel, rfl, by decide +kernel, by decide +kernel⟩
theorem sc__law_same_pairs : FnScope ["_law_found", "_law_pair_here"] ["_law_found"] (defScope s__law_same_pairs) := ⟨rfl, rfl, rfl, by decide +kernel, rfl, by decide +kernel, by decide +kernel⟩
theorem sc__law_gone : FnScope ["_law_way_here", "_law_rooted", "_law_steps", "_law_ends", "_law_left", "_law_up", "_law_step_here"] ["_law_way_here"] (defScope s__law_gone) := ⟨rfl, rfl, rfl, by decide +kernel, rfl, by decide +kernel, by decide +kernel⟩
theorem sc__law_scheme : FnScope ["_law_cell", "_law_letters", "_law_scheme_here", "_law_number", "_law_k"] ["_law_cell"] (defScope s__law_scheme) := ⟨rfl, rfl, rfl, by decide +kernel, rfl, by decide +kernel, by decide +kernel⟩
theorem sc__law_longer : FnScope ["_law_address_here", "_law_rooted", "_law_steps", "_law_ends"] ["_law_address_here"] (defScope s__law_longer) := ⟨rfl, rfl, rfl, by decide +kernel, rfl, by decide +kernel, by decide +kernel⟩
theorem sc__law_near : FnScope ["_law_base", "_law_goal", "_law_way_here"] ["_law_base", "_law_goal", "_law_way_here"] (defScope s__law_near) := ⟨rfl, rfl, rfl, by decide +kernel, rfl, by decide +kernel, by decide +kernel⟩
theorem sc_steps_left : FnScope ["steps", "rooted", "left", "step"] ["steps", "rooted"] (defScope s_steps_left) := ⟨rfl, rfl, rfl, by decide +kernel, rfl, by decide +kernel, by decide +kernel⟩
theorem sc__law_step : FnScope ["_law_cell", "_law_number"] ["_law_cell"] (defScope s__law_step) := ⟨rfl, rfl, rfl, by decide +kernel, rfl, by decide +kernel, by decide +kernel⟩
theorem sc__law_same : FnScope ["_law_found", "_law_due", "_law_text_here"] ["_law_found", "_law_due"] (defScope s__law_same) := ⟨rfl, rfl, rfl, by decide +kernel, rfl, by decide +kernel, by decide +kernel⟩
theorem sc__law_question : FnScope ["_law_cell", "_law_pairs", "_law_k", "_law_number", "_law_value"] ["_law_cell"] (defScope s__law_question) := ⟨rfl, rfl, rfl, by decide +kernel, rfl, by decide +kernel, by decide +kernel⟩
theorem sc__law_mark : FnScope ["_law_cell"] ["_law_cell"] (defScope s__law_mark) := ⟨rfl, rfl, rfl, by decide +kernel, rfl, by decide +kernel, by decide +kernel⟩
theorem sc__law_holder : FnScope ["_law_way_here", "_law_rooted", "_law_steps", "_law_ends"] ["_law_way_here"] (defScope s__law_holder) := ⟨rfl, rfl, rfl, by decide +kernel, rfl, by decide +kernel, by decide +kernel⟩
theorem sc_gone : FnScope ["way", "steps", "left"] ["way"] (defScope s_gone) := ⟨rfl, rfl, rfl, by decide +kernel, rfl, by decide +kernel, by decide +kernel⟩
theorem sc__law_way : FnScope ["_law_cells", "_law_rooted", "_law_ends", "_law_steps"] ["_law_cells", "_law_rooted", "_law_ends"] (defScope s__law_way) := ⟨rfl, rfl, rfl, by decide +kernel, rfl, by decide +kernel, by decide +kernel⟩
theorem sc__law_way_between : FnScope ["_law_old", "_law_new", "_law_here", "_law_there", "_law_steps"] ["_law_old", "_law_new"] (defScope s__law_way_between) := ⟨rfl, rfl, rfl, by decide +kernel, rfl, by decide +kernel, by decide +kernel⟩
theorem sc_with_way_gone : FnScope ["address"] ["address"] (defScope s_with_way_gone) := ⟨rfl, rfl, rfl, by decide +kernel, rfl, by decide +kernel, by decide +kernel⟩
theorem sc_holder : FnScope ["way", "way_gone"] ["way"] (defScope s_holder) := ⟨rfl, rfl, rfl, by decide +kernel, rfl, by decide +kernel, by decide +kernel⟩
theorem sc__law_address : FnScope ["_law_script", "_law_first", "_law_whole", "_law_cells", "_law_head", "_law_scheme_here", "_law_house", "_law_door", "_law_rooted", "_law_way_here", "_law_question_here"] ["_law_script", "_law_first", "_law_whole", "_law_cells"] (defScope s__law_address) := ⟨rfl, rfl, rfl, by decide +kernel, rfl, by decide +kernel, by decide +kernel⟩
theorem sc__law_relative : FnScope ["_law_base", "_law_goal", "_law_old", "_law_new"] ["_law_base", "_law_goal"] (defScope s__law_relative) := ⟨rfl, rfl, rfl, by decide +kernel, rfl, by decide +kernel, by decide +kernel⟩
theorem sc_way_between : FnScope ["base_way", "goal_way", "here", "there", "shared", "last", "steps"] ["base_way", "goal_way"] (defScope s_way_between) := ⟨rfl, rfl, rfl, by decide +kernel, rfl, by decide +kernel, by decide +kernel⟩
theorem sc__law_pair : FnScope ["_law_script", "_law_base", "_law_goal", "_law_head", "_law_many", "_law_steps"] ["_law_script"] (defScope s__law_pair) := ⟨rfl, rfl, rfl, by decide +kernel, rfl, by decide +kernel, by decide +kernel⟩
theorem sc_told_from : FnScope ["base", "goal", "question"] ["base", "goal"] (defScope s_told_from) := ⟨rfl, rfl, rfl, by decide +kernel, rfl, by decide +kernel, by decide +kernel⟩
theorem sc_relative : FnScope ["base", "goal"] ["base", "goal"] (defScope s_relative) := ⟨rfl, rfl, rfl, by decide +kernel, rfl, by decide +kernel, by decide +kernel⟩
theorem sc_law : FnScope ["_law_script", "_law_base", "_law_goal", "_law_one", "_law_other"] ["_law_script"] (defScope s_law) := ⟨rfl, rfl, rfl, by decide +kernel, rfl, by decide +kernel, by decide +kernel⟩
theorem ok_is_whole (g : G K mg) : FnOk P w K mg base CX0 1 g.a_is_whole g.fd_is_whole ["address"] (sp_is_whole K) := by
  refine g.F_is_whole.ok sc_is_whole (fun vs H Q E h => ?_) (fun cdv A outer s H vs Q E hr h => ?_)
  · obtain ⟨p, l, r, rfl, _⟩ := h; rfl
  · obtain ⟨p, l, r, rfl, hp, k⟩ := h
    refine ⟨_, (pss_one (ps_ret (pe_cmpR op_ne (pe_ix (ix_seqK (K := K) rfl) (pv 0) (pe_glob (v := k_SCHEME) rfl g.c_SCHEME ⟨_, rfl⟩) (fun _ _ => rfl)) pe_str (nomark _)))), ?_⟩
    walk_at "rd"
    refine ⟨_, _, .inr hp, atI_0, ?_⟩
    walk_at "rd"
    rw [show decide ((⟨l.toArray⟩ : Str) = ⟨([] : List Nat).toArray⟩) = decide (l = []) from decide_eq_decide.mpr mk_inj]
    exact k
theorem kup : k_UP = sV sUp := congrArg V.str (show Str.ofString ".." = ⟨sUp.toArray⟩ by decide +kernel)
theorem kst : k_STAY = sV sStay := congrArg V.str (show Str.ofString "." = ⟨sStay.toArray⟩ by decide +kernel)
theorem ok_is_dot (g : G K mg) : FnOk P w K mg base CX0 1 g.a_is_dot g.fd_is_dot ["step"] sp_is_dot := by
  refine g.F_is_dot.ok sc_is_dot (fun vs H Q E h => ?_) (fun cdv A outer s H vs Q E hr h => ?_)
  · obtain ⟨s, rfl, _⟩ := h; rfl
  · obtain ⟨s, rfl, k⟩ := h
    refine ⟨_, (pss_one (ps_ret (pe_or (pe_cmpR op_eq (pv 0) (pe_glob (v := k_STAY) rfl g.c_STAY ⟨_, rfl⟩) (nomark _)) (pe_one (pe_cmpR op_eq (pv 0) (pe_glob (v := k_UP) rfl g.c_UP ⟨_, rfl⟩) (nomark _)))))), ?_⟩
    have d1 : Str.ofString ".." = ⟨sUp.toArray⟩ := by decide +kernel
    have d2 : Str.ofString "." = ⟨sStay.toArray⟩ := by decide +kernel
    walk_at "rd"
    rw [d1, d2]
    simp only [mk_inj]
    by_cases h2 : s = sStay
    · rw [if_pos h2]
      rw [show isDot s = true by simp [isDot, h2]] at k
      exact k
    · rw [if_neg h2]
      rw [show isDot s = decide (s = sUp) by simp [isDot, h2]] at k
      exact k
theorem ok_go_up (g : G K mg) : FnOk P w K mg base CX0 1 g.a_go_up g.fd_go_up ["left", "rooted"] (sp_go_up K) := by
  refine g.F_go_up.ok sc_go_up (fun vs H Q E h => ?_) (fun cdv A outer s H vs Q E hr h => ?_)
  · obtain ⟨p, L, r, rfl, _⟩ := h; rfl
  · obtain ⟨p, L, r, rfl, hp, hl, k⟩ := h
    refine ⟨_, (pss_one (ps_if (PW.pt (pw_and (pt_cmpR op_gt (pe_callB (call_lenK (K := K) rfl) rfl g.b_len PySem.boot_len (pa_cons (pv 0) pa_nil)) pe_int (nomark _)) (pw_and1 (pt_cmpR op_ne (pe_ix (ix_seqK (K := K) rfl) (pv 0) (pe_un un_neg pe_int) (fun _ _ => rfl)) (pe_glob (v := k_UP) rfl g.c_UP ⟨_, rfl⟩) (nomark _)))))
        (pss_one (ps_expr (pe_bm0K (K := K) rfl PySem.F.plainAttrs_list PySem.F.slot_list_pop PySem.F.type_list_pop mt_pop (pv 0)))) (pss_one (ps_if (pt_not (pt_val (pv 1)))
        (pss_one (ps_expr (pe_bmK (K := K) rfl PySem.F.plainAttrs_list PySem.F.slot_list_append PySem.F.type_list_append mt_append (pv 0) (pa_cons (pe_glob (v := k_UP) rfl g.c_UP ⟨_, rfl⟩) pa_nil)))) pss_nil)))), ?_⟩
    walk_at "rd"
    simp only [kup]
    have hS : SqL K H p (L.map sV) ∨ SqT K H p (L.map sV) := .inl (.of hp)
    have put : (if r then L else L ++ [sUp]) = goUp r L → (if r = false then (∃ xs, SqL K H p xs) ∧ ∃ xs, H p = some (.lst xs) ∧ xs.length < sizeLine ∧ Q .non (upd H p (.lst (xs ++ [sV sUp]))) else Q .non H) := fun e => by
      cases r with
      | true =>
        rw [if_neg (by decide)]
        rw [← e, if_pos rfl, upd_id hp] at k
        exact k
      | false =>
        rw [if_pos rfl]
        refine ⟨⟨_, .of hp⟩, _, hp, le_line (by rw [List.length_map]; omega), ?_⟩
        rw [← e, if_neg (by decide), List.map_append] at k
        exact k
    refine ⟨_, hS, ?_⟩
    rw [List.length_map]
    cases hg : L.getLast? with
    | none =>
      have hL := List.getLast?_eq_none_iff.mp hg
      subst hL
      refine ite2 (fun z => absurd z (by decide)) (fun _ => put ?_)
      simp [goUp]
    | some s =>
      have hn : L ≠ [] := fun z => by rw [z] at hg; cases hg
      have hl0 := List.length_pos_iff.mpr hn
      refine ite2 (fun _ => ?_) (fun z => absurd (by omega) z)
      refine ⟨_, _, hS, atI_last _ hg, ?_⟩
      walk_at "rd"
      by_cases hs : s = sUp
      · subst hs
        refine ite2 (fun z => absurd (rfl : (⟨sUp.toArray⟩ : Str) = ⟨sUp.toArray⟩) z) (fun _ => put ?_)
        simp only [goUp, hg, if_true]
      · refine ite2 (fun _ => ?_) (fun z => absurd (fun e => hs (mk_inj.mp e)) z)
        refine ⟨⟨_, .of hp⟩, _, sV s, hp, ?_, ?_⟩
        · rw [List.length_map, List.getElem?_map, ← List.getLast?_eq_getElem?, hg]; rfl
        · rw [show goUp r L = L.dropLast by simp only [goUp, hg, if_neg hs], List.map_dropLast] at k
          exact k
theorem ok_can_stay (g : G K mg) : FnOk P w K mg base CX0 1 g.a_can_stay g.fd_can_stay ["base", "goal"] (sp_can_stay K) := by
  refine g.F_can_stay.ok sc_can_stay (fun vs H Q E h => ?_) (fun cdv A outer s H vs Q E hr h => ?_)
  · obtain ⟨b, g, vb, vg, rfl, _⟩ := h; rfl
  · obtain ⟨b, g', vb, vg, rfl, hB, hG, wb, wg, k⟩ := h
    refine ⟨_, (pss_one (ps_ret (pe_and (pe_cmpR (op_eqX (K := K) rfl hr.units) (pe_ix (ix_seqK (K := K) rfl) (pv 0) (pe_glob (v := k_WAY) rfl g.c_WAY ⟨_, rfl⟩) (fun _ _ => rfl)) (pe_ix (ix_seqK (K := K) rfl) (pv 1) (pe_glob (v := k_WAY) rfl g.c_WAY ⟨_, rfl⟩) (fun _ _ => rfl)) (nomark _)) (pe_one (pe_or (pe_cmpR op_notNU (pe_ix (ix_seqK (K := K) rfl) (pv 1) (pe_glob (v := k_QUESTION) rfl g.c_QUESTION ⟨_, rfl⟩) (fun _ _ => rfl)) pe_non (nomark _)) (pe_one (pe_cmpR op_isNU (pe_ix (ix_seqK (K := K) rfl) (pv 0) (pe_glob (v := k_QUESTION) rfl g.c_QUESTION ⟨_, rfl⟩) (fun _ _ => rfl)) pe_non (nomark _)))))))), ?_⟩
    obtain ⟨pb, ub, qb, rfl, hpb, hwb, hqb⟩ := isK_ad hB
    obtain ⟨pg, ug, qg, rfl, hpg, hwg, hqg⟩ := isK_ad hG
    walk_at "rd"
    refine ⟨_, _, .inr hpb, rfl, _, _, .inr hpg, rfl, ?_⟩
    refine ⟨wayOf b.w, wayOf g'.w, hwb, hwg, shaped_way wb.sg, shaped_way wg.sg, _, rfl, ?_⟩
    rw [eqv_way2]
    by_cases e : b.w = g'.w
    · rw [if_pos (decide_eq_true e)]
      refine ⟨_, _, .inr hpg, rfl, ?_⟩
      cases hg : g'.quest with
      | some ps =>
        rw [hg] at hqg
        obtain ⟨p', xs, rfl, _⟩ := isK_tup hqg
        refine ite2 (fun _ => ?_) (fun z => absurd (Classical.not_not.mp z) (by simp))
        rw [decide_eq_true (show b.w = g'.w ∧ (g'.quest ≠ none ∨ b.quest = none) from ⟨e, .inl (by simp [hg])⟩)] at k
        exact k
      | none =>
        rw [hg] at hqg
        cases hqg
        refine ite2 (fun z => absurd rfl z) (fun _ => ⟨_, _, .inr hpb, rfl, ?_⟩)
        cases hq : b.quest with
        | none =>
          rw [hq] at hqb
          cases hqb
          rw [decide_eq_true (show b.w = g'.w ∧ (g'.quest ≠ none ∨ b.quest = none) from ⟨e, .inr hq⟩)] at k
          exact k
        | some ps =>
          rw [hq] at hqb
          obtain ⟨p', xs, rfl, _⟩ := isK_tup hqb
          rw [decide_eq_false (show ¬ (b.w = g'.w ∧ (g'.quest ≠ none ∨ b.quest = none)) from fun z => by
            rcases z.2 with z | z
            · exact z hg
            · rw [hq] at z; cases z)] at k
          exact k
    · rw [if_neg (by simpa using e)]
      rw [decide_eq_false (fun z => e z.1)] at k
      exact k
theorem ok_count_in_common (g : G K mg) : FnOk P w K mg base CX0 1 g.a_count_in_common g.fd_count_in_common ["one", "other"] (sp_count_in_common K) := by
  refine g.F_count_in_common.ok sc_count_in_common (fun vs H Q E h => ?_) (fun cdv A outer s H vs Q E hr h => ?_)
  · obtain ⟨p, q, h1, t1, rfl, _⟩ := h; rfl
  · obtain ⟨p, q, h1, t1, rfl, hp, hq, k⟩ := h
    refine ⟨_, (pss_cons (ps_set (i := 2) sc_count_in_common.nd rfl (Or.inl rfl) pe_int)
      (pss_cons (ps_while PassesOwn.never (PW.pt (pw_and (pt_cmpR op_lt (pv 2) (pe_callB (call_min2 rfl) rfl g.b_min PyProof.Rows.boot_min (pa_cons (pe_callB (call_lenK (K := K) rfl) rfl g.b_len PySem.boot_len (pa_cons (pv 0) pa_nil)) (pa_cons (pe_callB (call_lenK (K := K) rfl) rfl g.b_len PySem.boot_len (pa_cons (pv 1) pa_nil)) pa_nil))) (nomark _)) (pw_and1 (pt_cmpR op_eq (pe_ix (ix_seqK (K := K) rfl) (pv 0) (pv 2) (fun _ _ => rfl)) (pe_ix (ix_seqK (K := K) rfl) (pv 1) (pv 2) (fun _ _ => rfl)) (nomark _)))))
      (pss_one (ps_set (i := 2) sc_count_in_common.nd rfl (Or.inl rfl) (pe_op (op_addK (K := K) rfl) (pv 2) pe_int))))
      (pss_one (ps_ret (pv 2))))), ?_⟩
    walk_at "rd"
    refine while_W (fun m σ H' => ∃ i : Nat, H' = H ∧ m = h1.length - i ∧ σ = [some (.ref p), some (.ref q), some (.int (i : Int))] ∧ i ≤ comm h1 t1) h1.length ⟨0, rfl, rfl, rfl, Nat.zero_le _⟩ ?_
    rintro m σ H' ⟨i, rfl, rfl, rfl, hi⟩
    have ha := comm_at hi
    have hl1 := comm_le h1 t1
    have hl2 := comm_le2 h1 t1
    walk_at "rd"
    refine ⟨_, .inr hp, _, .inr hq, _, _, ⟨rfl, rfl⟩, ?_⟩
    rw [List.length_map, List.length_map]
    have stop : ¬ i < comm h1 t1 → Q (.int (i : Int)) H' := fun z => by
      rw [show comm h1 t1 = i by omega] at k; exact k
    by_cases hlt : i < h1.length ∧ i < t1.length
    · refine ite2 (fun _ => ?_) (fun z => absurd (by split <;> omega) z)
      obtain ⟨s1, e1⟩ : ∃ s, h1[i]? = some s := ⟨h1[i], by simp [hlt.1]⟩
      obtain ⟨s2, e2⟩ : ∃ s, t1[i]? = some s := ⟨t1[i], by simp [hlt.2]⟩
      refine ⟨_, _, .inr hp, atI_nat (by rw [List.getElem?_map, e1]; rfl), _, _, .inr hq, atI_nat (by rw [List.getElem?_map, e2]; rfl), ?_⟩
      walk_at "rd"
      by_cases e : s1 = s2
      · subst e
        have hi2 := ha.mpr ⟨s1, e1, e2⟩
        refine ite2 (fun _ => ⟨fun σ' H2 => H2 = H' ∧ σ' = [some (.ref p), some (.ref q), some (.int ((i : Int) + 1))], fun σ' H2 z => ⟨h1.length - (i + 1), by omega, i + 1, z.1, rfl, by rw [z.2]; simp, hi2⟩, rfl, rfl⟩) (fun z => absurd rfl z)
      · refine ite2 (fun z => absurd (mk_inj.mp z) e) (fun _ => stop (fun z => ?_))
        obtain ⟨s, f1, f2⟩ := ha.mp z
        rw [e1] at f1; rw [e2] at f2
        exact e (by rw [Option.some.inj f1, Option.some.inj f2])
    · refine ite2 (fun z => absurd (by split at z <;> omega) hlt) (fun _ => stop (fun z => hlt ⟨by omega, by omega⟩))
theorem ok__law_cell_at (g : G K mg) : FnOk P w K mg base CX0 1 g.a__law_cell_at g.fd__law_cell_at ["_law_script", "_law_k"] (sp__law_cell_at K) := by
  refine g.F__law_cell_at.ok sc__law_cell_at (fun vs H Q E h => ?_) (fun cdv A outer s H vs Q E hr h => ?_)
  · obtain ⟨a, ns, k, rfl, _⟩ := h; rfl
  · obtain ⟨a, ns, i, rfl, hS, k⟩ := h
    refine ⟨_, (pss_cons (ps_if (pt_cmpR op_lt (pv 1) (pe_callB (call_lenK (K := K) rfl) rfl g.b_len PySem.boot_len (pa_cons (pv 0) pa_nil)) (nomark _))
        (pss_one (ps_ret (pe_ix (ix_seqK (K := K) rfl) (pv 0) (pv 1) (fun _ _ => rfl)))) pss_nil)
      (pss_one (ps_ret pe_int))), ?_⟩
    walk_at "rd"
    refine ⟨ns.map V.int, .inl hS, ite2 (fun h => ?_) (fun h => ?_)⟩
    · rw [List.length_map] at h
      exact ⟨ns.map V.int, _, .inl hS, cell_of (by omega), k⟩
    · rw [List.length_map] at h
      rw [List.getD_eq_getElem?_getD, List.getElem?_eq_none (by omega)] at k
      exact k
theorem ok__law_text (g : G K mg) : FnOk P w K mg base CX0 1 g.a__law_text g.fd__law_text ["_law_cell", "_law_most"] sp__law_text := by
  refine g.F__law_text.ok sc__law_text (fun vs H Q E h => ?_) (fun cdv A outer s H vs Q E hr h => ?_)
  · obtain ⟨c, m, rfl, _⟩ := h; rfl
  · obtain ⟨c, m, rfl, hm, hm2, k⟩ := h
    refine ⟨_, (pss_cons (ps_set (i := 2) sc__law_text.nd rfl (Or.inl rfl) pe_str)
      (pss_cons (ps_set (i := 2) sc__law_text.nd rfl (Or.inl rfl) (pe_op (op_addK (K := K) rfl) (pv 2) pe_str))
      (pss_cons (ps_set (i := 3) sc__law_text.nd rfl (Or.inl rfl) pe_str)
      (pss_cons (ps_set (i := 4) sc__law_text.nd rfl (Or.inl rfl) (pe_op op_fdiv (pv 0) (pv 1)))
      (pss_cons (ps_for PassesOwn.never rfl (pi_range1 rfl g.b_range (pa_cons (pe_op (op_addK (K := K) rfl) pe_int (pe_op op_mod (pv 0) (pv 1))) pa_nil)) (pg_name (i := 5) sc__law_text.nd rfl (Or.inl rfl))
      (pss_cons (ps_set (i := 3) sc__law_text.nd rfl (Or.inl rfl) (pe_op (op_addK (K := K) rfl) (pv 3) (pe_ix (ix_seqK (K := K) rfl) (pv 2) (pe_op op_mod (pe_op (op_addK (K := K) rfl) (pv 4) (pe_op op_mulU (pe_op op_mulU pe_int (pv 5)) (pv 5))) pe_int) (fun _ _ => rfl))))
      (pss_one (ps_set (i := 4) sc__law_text.nd rfl (Or.inl rfl) (pe_op op_fdiv (pv 4) pe_int)))))
      (pss_one (ps_ret (pv 3)))))))), ?_⟩
    walk_at "rd"
    have h1 := Int.emod_nonneg c (show m ≠ 0 by omega)
    have h2 := Int.emod_lt_of_pos c hm
    refine ⟨tab_len, ⟨hm, by omega⟩, hm, by omega, by omega, ?_⟩
    rw [tab_eq]
    refine loop_range (fun i σ H' => H' = H ∧ ∃ (l : List Nat) (nn : Int) (kk : Option V), σ = [some (.int c), some (.int m), some (.str ⟨SG.toArray⟩), some (sV l), some (.int nn), kk] ∧ l.length = i ∧ ∀ d ∈ l, isSg d = true) ⟨rfl, [], _, none, rfl, rfl, by simp⟩ ?_ ?_
    · rintro i σ H' hi ⟨rfl, l, nn, kk, rfl, hl, hs⟩
      have hl2 : l.length < 100 := by omega
      walk_at "rd"
      have hat := sgAt_at (nn + 31 * (0 + (i : Int)) * (0 + (i : Int)))
      refine ⟨.inl ⟨by decide, by decide⟩, .inr ⟨by omega, by omega⟩, by decide, ?_⟩
      refine ⟨_, SG_line, hat.1, le_line (by omega), ⟨by decide, by decide⟩, l ++ [sgAt (nn + 31 * (0 + (i : Int)) * (0 + (i : Int)))], _, _, ⟨rfl, rfl, rfl⟩, by simp [hl], fun d hd => ?_⟩
      rcases List.mem_append.mp hd with z | z
      · exact hs d z
      · rw [List.mem_singleton.mp z]; exact hat.2
    · rintro σ H' ⟨rfl, l, nn, kk, rfl, hl, hs⟩
      walk_at "rd"
      exact k l (by omega) (by omega) hs
theorem ok__law_same_way (g : G K mg) : FnOk P w K mg base CX0 1 g.a__law_same_way g.fd__law_same_way ["_law_found", "_law_due"] (sp__law_same_way K) := by
  refine g.F__law_same_way.ok sc__law_same_way (fun vs H Q E h => ?_) (fun cdv A outer s H vs Q E hr h => ?_)
  · obtain ⟨w, v, u, rfl, _⟩ := h; rfl
  · obtain ⟨⟨rt, ss, en⟩, v, u, rfl, hI, hJ, hs, hn, k⟩ := h
    refine ⟨_, (pss_cons (ps_if (PW.pt (pw_or (pt_not (pt_val (pe_callB (call_isiX (K := K) rfl) rfl g.b_isinstance boot_isinstance (pa_cons (pv 0) (pa_cons (pe_bltn (v := .ty "tuple") rfl g.b_tuple bt_tuple rfl) pa_nil))))) (pw_or (pt_cmpR op_ne (pe_callB (call_lenK (K := K) rfl) rfl g.b_len PySem.boot_len (pa_cons (pv 0) pa_nil)) pe_int (nomark _)) (pw_or1 (pt_not (pt_val (pe_callB (call_isiX (K := K) rfl) rfl g.b_isinstance boot_isinstance (pa_cons (pe_ix (ix_seqK (K := K) rfl) (pv 0) pe_int (fun _ _ => rfl)) (pa_cons (pe_bltn (v := .ty "bool") rfl g.b_bool bt_bool rfl) pa_nil)))))))))
        (pss_one (ps_ret pe_bl)) pss_nil)
      (pss_cons (ps_if (PW.pt (pw_or (pt_not (pt_val (pe_callB (call_isiX (K := K) rfl) rfl g.b_isinstance boot_isinstance (pa_cons (pe_ix (ix_seqK (K := K) rfl) (pv 0) pe_int (fun _ _ => rfl)) (pa_cons (pe_bltn (v := .ty "tuple") rfl g.b_tuple bt_tuple rfl) pa_nil))))) (pw_or1 (pt_not (pt_val (pe_callB (call_isiX (K := K) rfl) rfl g.b_isinstance boot_isinstance (pa_cons (pe_ix (ix_seqK (K := K) rfl) (pv 0) pe_int (fun _ _ => rfl)) (pa_cons (pe_bltn (v := .ty "bool") rfl g.b_bool bt_bool rfl) pa_nil))))))))
        (pss_one (ps_ret pe_bl)) pss_nil)
      (pss_one (ps_ret (pe_and (pe_cmpR (op_eqD hr.units) (pe_comp (fx := []) (fr := []) rfl rfl (by decide +kernel) rfl (by decide +kernel) rfl (by decide +kernel) rfl .nil rfl (pi_tupK (K := K) rfl (pe_ix (ix_seqK (K := K) rfl) (pv 0) pe_int (fun _ _ => rfl))) (fun _ _ _ => (pf_one (pt_not (pt_val (pe_callB (call_isiX (K := K) rfl) rfl g.b_isinstance boot_isinstance (pa_cons (pv 0) (pa_cons (pe_bltn (v := .ty "str") rfl g.b_str bt_str rfl) pa_nil))))))) (fun _ _ _ => (pv 0))) (pe_lstS pa_nil) (nomark _)) (pe_one (pe_cmpR (op_eqX (K := K) rfl hr.units) (pv 0) (pv 1) (nomark _)))))))), ?_⟩
    obtain ⟨pw, ps, rfl, hw, hps⟩ := isK_way (r := rt) (e := en) (ss := ss) hI
    dsimp only at hs hn
    walk_at "rd"
    refine ⟨"tuple", .tup hw, ?_⟩
    rw [if_neg (by decide)]
    refine ⟨_, .inr hw, ?_⟩
    rw [if_neg (by simp)]
    refine ⟨_, _, .inr hw, rfl, "bool", .inl rfl, ?_⟩
    rw [if_neg (by decide)]
    refine ⟨_, _, .inr hw, rfl, "tuple", .tup hps, ?_⟩
    rw [if_neg (by decide)]
    refine ⟨_, _, .inr hw, rfl, "bool", .inl rfl, ?_⟩
    rw [if_neg (by decide)]
    refine ⟨_, _, .inr hw, rfl, ps, rfl, ⟨_, hps⟩, fun p hp => ?_⟩
    have hel : (ss.map fun l => V.str ⟨l.toArray⟩).filter (fun _ => false) = [] := by simp
    refine comp_tupF (fun _ => false) id hps (by rw [List.length_map]; exact le_line (by omega)) hp (fun i x hx H1 R sm hR => ?_) (fun i x _ z => absurd z (by decide)) (fun H1 sm hp1 => ?_)
    · rw [List.getElem?_map] at hx
      obtain ⟨s, _, rfl⟩ := Option.map_eq_some_iff.mp hx
      have hR := hR H1 (Same.refl _)
      walk_at "rd"
      refine ⟨"str", .inl rfl, ?_⟩
      exact hR
    · rw [hel] at hp1
      refine ⟨by decide, fun p2 H2 hn2 s2 hp2 => ?_⟩
      refine ⟨.list [], .list [], .lst (s2 _ _ hp1) .nil, .lst hp2 .nil, by decide, by decide, true, rfl, ?_⟩
      rw [if_pos rfl]
      have sm2 := sm.trans s2
      refine ⟨wayOf (rt, ss, en), wayOf (rt, ss, en), hI.mono sm2, hJ.mono sm2, shaped_way hs, shaped_way hs, ?_⟩
      rw [eqv_wayOf]
      exact k H2 (sm.trans s2)
theorem ok__law_same_pairs (g : G K mg) : FnOk P w K mg base CX0 1 g.a__law_same_pairs g.fd__law_same_pairs ["_law_found"] (sp__law_same_pairs K) := by
  refine g.F__law_same_pairs.ok sc__law_same_pairs (fun vs H Q E h => ?_) (fun cdv A outer s H vs Q E hr h => ?_)
  · obtain ⟨q, v, rfl, _⟩ := h; rfl
  · obtain ⟨q, v, rfl, hI, k⟩ := h
    refine ⟨_, (pss_cons (ps_if (pt_cmpR op_isNU (pv 0) pe_non (nomark _))
        (pss_one (ps_ret pe_bl)) pss_nil)
      (pss_cons (ps_if (pt_not (pt_val (pe_callB (call_isiX (K := K) rfl) rfl g.b_isinstance boot_isinstance (pa_cons (pv 0) (pa_cons (pe_bltn (v := .ty "tuple") rfl g.b_tuple bt_tuple rfl) pa_nil)))))
        (pss_one (ps_ret pe_bl)) pss_nil)
      (pss_cons (ps_for PassesOwn.never rfl (pi_tupK (K := K) rfl (pv 0)) (pg_name (i := 1) sc__law_same_pairs.nd rfl (Or.inl rfl))
      (pss_cons (ps_if (PW.pt (pw_or (pt_not (pt_val (pe_callB (call_isiX (K := K) rfl) rfl g.b_isinstance boot_isinstance (pa_cons (pv 1) (pa_cons (pe_bltn (v := .ty "tuple") rfl g.b_tuple bt_tuple rfl) pa_nil))))) (pw_or (pt_cmpR op_ne (pe_callB (call_lenK (K := K) rfl) rfl g.b_len PySem.boot_len (pa_cons (pv 1) pa_nil)) pe_int (nomark _)) (pw_or1 (pt_not (pt_val (pe_callB (call_isiX (K := K) rfl) rfl g.b_isinstance boot_isinstance (pa_cons (pe_ix (ix_seqK (K := K) rfl) (pv 1) pe_int (fun _ _ => rfl)) (pa_cons (pe_bltn (v := .ty "str") rfl g.b_str bt_str rfl) pa_nil)))))))))
        (pss_one (ps_ret pe_bl)) pss_nil)
      (pss_one (ps_if (PW.pt (pw_and (pt_cmpR op_notNU (pe_ix (ix_seqK (K := K) rfl) (pv 1) pe_int (fun _ _ => rfl)) pe_non (nomark _)) (pw_and1 (pt_not (pt_val (pe_callB (call_isiX (K := K) rfl) rfl g.b_isinstance boot_isinstance (pa_cons (pe_ix (ix_seqK (K := K) rfl) (pv 1) pe_int (fun _ _ => rfl)) (pa_cons (pe_bltn (v := .ty "str") rfl g.b_str bt_str rfl) pa_nil))))))))
        (pss_one (ps_ret pe_bl)) pss_nil))))
      (pss_one (ps_ret pe_bl))))), ?_⟩
    walk_at "rd"
    cases q with
    | none =>
      cases hI
      exact ite2 (fun _ => k) (fun z => absurd rfl z)
    | some ps =>
      obtain ⟨p, xs, rfl, hp, r⟩ := isK_tup hI
      refine ite2 (fun z => by cases z) (fun _ => ⟨"tuple", .tup hp, ?_⟩)
      rw [if_neg (by decide)]
      refine ⟨p, rfl, ⟨_, hp⟩, loop_tup (xs := xs) (fun i σ H' => H' = H ∧ ∃ v1, σ = [some (.ref p), v1]) ⟨rfl, none, rfl⟩ (fun i σ H' _ h => h.1 ▸ hp) ?_ ?_⟩
      · rintro i y σ H' hy ⟨rfl, v1, rfl⟩
        obtain ⟨d, hd, hy⟩ := r.at hy
        rw [List.getElem?_map] at hd
        obtain ⟨⟨n, o⟩, _, rfl⟩ := Option.map_eq_some_iff.mp hd
        obtain ⟨b, x1, x2, rfl, hb, b1, b2⟩ := isK2 hy
        cases isK_st b1
        cases isK_oD b2
        walk_at "rd"
        refine ⟨"tuple", .tup hb, ?_⟩
        rw [if_neg (by decide)]
        refine ⟨_, .inr hb, ?_⟩
        rw [if_neg (by simp)]
        refine ⟨_, _, .inr hb, rfl, "str", .inl rfl, ?_⟩
        rw [if_neg (by decide)]
        refine ⟨_, _, .inr hb, rfl, ?_⟩
        cases o with
        | none => exact ite2 (fun z => absurd rfl z) (fun _ => ⟨_, rfl⟩)
        | some l =>
          refine ite2 (fun _ => ⟨_, _, .inr hb, rfl, "str", .inl rfl, ?_⟩) (fun z => absurd (Classical.not_not.mp z) (by simp [otV]))
          rw [if_neg (by decide)]
          exact ⟨_, rfl⟩
      · rintro σ H' ⟨rfl, v1, rfl⟩
        walk_at "rd"
        exact k
theorem ok__law_gone (g : G K mg) : FnOk P w K mg base CX0 1 g.a__law_gone g.fd__law_gone ["_law_way_here"] (sp__law_gone K) := by
  refine g.F__law_gone.ok sc__law_gone (fun vs H Q E h => ?_) (fun cdv A outer s H vs Q E hr h => ?_)
  · obtain ⟨w, v, rfl, _⟩ := h; rfl
  · obtain ⟨⟨rt, ss, en⟩, v, rfl, hI, hs, hn, k⟩ := h
    refine ⟨_, (pss_cons (ps_asg (pv 0) (pg_tupK (n := 3) (K := K) rfl rfl (pgs_cons (pg_name (i := 1) sc__law_gone.nd rfl (Or.inl rfl)) (pgs_cons (pg_name (i := 2) sc__law_gone.nd rfl (Or.inl rfl)) (pgs_cons (pg_name (i := 3) sc__law_gone.nd rfl (Or.inl rfl)) pgs_nil)))))
      (pss_cons (ps_set (i := 4) sc__law_gone.nd rfl (Or.inl rfl) (pe_lstS pa_nil))
      (pss_cons (ps_set (i := 5) sc__law_gone.nd rfl (Or.inl rfl) pe_int)
      (pss_cut (ps_for PassesOwn.never rfl (pi_revK (K := K) rfl rfl g.b_reversed (pa_cons (pv 2) pa_nil)) (pg_name (i := 6) sc__law_gone.nd rfl (Or.inl rfl))
      (pss_one (ps_if (pt_cmpR op_eq (pv 6) pe_str (nomark _))
        (pss_one (ps_set (i := 5) sc__law_gone.nd rfl (Or.inl rfl) (pe_op (op_addS (K := K)) (pv 5) pe_int))) (pss_one (ps_if (PW.pt (pw_and (pt_cmpR op_ne (pv 6) pe_str (nomark _)) (pw_and1 (pt_cmpR op_gt (pv 5) pe_int (nomark _)))))
        (pss_one (ps_set (i := 5) sc__law_gone.nd rfl (Or.inl rfl) (pe_op op_sub (pv 5) pe_int))) (pss_one (ps_if (pt_cmpR op_ne (pv 6) pe_str (nomark _))
        (pss_one (ps_expr (pe_bmK (K := K) rfl PySem.F.plainAttrs_list PySem.F.slot_list_append PySem.F.type_list_append mt_append (pv 4) (pa_cons (pv 6) pa_nil)))) pss_nil)))))))
      (pss_cut (ps_expr (pe_bm0K (K := K) rfl PySem.F.plainAttrs_list PySem.F.slot_list_reverse PySem.F.type_list_reverse mt_reverse (pv 4)))
      (pss_cut (ps_if (pt_not (pt_val (pv 1)))
        (pss_one (ps_set (i := 4) sc__law_gone.nd rfl (Or.inl rfl) (pe_op (op_addS (K := K)) (pe_op op_repS (pe_lstS (pa_cons pe_str pa_nil)) (pv 5)) (pv 4)))) pss_nil)
      (pss_cons (ps_if (pt_cmpR (op_eqD hr.units) (pv 2) (pe_tupS pa_nil) (nomark _))
        (pss_one (ps_ret (pv 0))) pss_nil)
      (pss_cons (ps_if (pt_cmpR (op_eqD hr.units) (pv 4) (pe_lstS pa_nil) (nomark _))
        (pss_one (ps_ret (pe_tupS (pa_cons (pv 1) (pa_cons (pe_ifExp (pt_val (pv 1)) (pe_tupS pa_nil) (pe_tupS (pa_cons pe_str pa_nil))) (pa_cons pe_bl pa_nil)))))) pss_nil)
      (pss_one (ps_ret (pe_tupS (pa_cons (pv 1) (pa_cons (pe_callTy (call_tupleS (K := K) rfl) rfl g.b_tuple bt_tuple (pa_cons (pv 4) pa_nil)) (pa_cons (pe_or (pv 3) (pe_one (pe_cmpR op_in_seq (pe_ix (ix_seqK (K := K) rfl) (pv 2) (pe_un un_neg pe_int) (fun _ _ => rfl)) (pe_tupS (pa_cons pe_str (pa_cons pe_str pa_nil))) (by with_unfolding_all rfl)))) pa_nil)))))))))))))), ?_⟩
    obtain ⟨pw, y0, y1, y2, rfl, hw, j0, j1, j2⟩ := isT3 (show IsT H (.tuple [.bool rt, .tuple (ss.map st), .bool en]) v from hI)
    cases isT_bool j0
    cases isT_bool j2
    obtain ⟨ps, zs, rfl, hps, r⟩ := isT_tup j1
    cases isT_steps r
    dsimp only at hs hn
    walk_at "rd"
    refine ⟨pw, _, rfl, .of hw, rfl, _, _, rfl, _, _, rfl, _, _, rfl, rfl, by decide, fun p H1 hp s1 hp1 => ?_⟩
    have d1 : Str.ofString ".." = ⟨sUp.toArray⟩ := by decide +kernel
    have d2 : Str.ofString "." = ⟨sStay.toArray⟩ := by decide +kernel
    refine ⟨fun σ H2 => Same H H2 ∧ H2 p = some (.lst ((bwd ss).2.reverse.map sV)) ∧ ∃ kk, σ = [some (.ref pw), some (.bl rt), some (.ref ps), some (.bl en), some (.ref p), some (.int (bwd ss).1), kk], ?_, ?_⟩
    · refine ⟨ps, _, rfl, .of (s1 _ _ hps), ?_⟩
      refine loop_rev (fun i σ H2 => Same H H2 ∧ H2 p = some (.lst ((bwd (ss.drop (ss.length - i))).2.reverse.map sV)) ∧ ∃ kk, σ = [some (.ref pw), some (.bl rt), some (.ref ps), some (.bl en), some (.ref p), some (.int (bwd (ss.drop (ss.length - i))).1), kk]) ?_ (fun i σ H2 _ h => .of (h.1 _ _ hps)) ?_ ?_
      · refine ⟨s1, ?_, none, ?_⟩
        · rw [hp1]; simp [bwd]
        · simp [bwd]
      · rintro i v σ H2 hi hv ⟨sm, hp2, kk, rfl⟩
        rw [List.length_map] at hi
        rw [List.length_map, List.getElem?_map] at hv
        obtain ⟨s, hs', hv⟩ := Option.map_eq_some_iff.mp hv
        subst hv
        have ed : ss.drop (ss.length - (i + 1)) = s :: ss.drop (ss.length - i) := by
          have := drop_at hs'
          rw [show ss.length - 1 - i + 1 = ss.length - i by omega] at this
          rw [show ss.length - (i + 1) = ss.length - 1 - i by omega]
          exact this
        have hbl := bwd_len (ss.drop (ss.length - i))
        rw [List.length_drop] at hbl
        rw [ed, bwd_cons]
        generalize hB : bwd (ss.drop (ss.length - i)) = B at *
        obtain ⟨u, l⟩ := B
        rw [d1, d2]
        walk_at "rd"
        simp only [mk_inj]
        by_cases h1 : s = sUp
        · rw [if_pos h1]
          refine ⟨sm, ?_, _, ?_, rfl⟩
          · rw [hp2]; simp [bwd1, h1]
          · simp [bwd1, h1]
        · rw [if_neg h1]
          by_cases h2 : s = sStay
          · simp only [h2, not_true_eq_false, if_false, false_and]
            refine ⟨sm, ?_, _, ?_, rfl⟩
            · rw [hp2]; simp [bwd1, up_ne_stay.symm]
            · simp [bwd1, up_ne_stay.symm]
          · rw [if_pos h2]
            by_cases h3 : 0 < u
            · rw [if_pos (by omega)]
              refine ⟨sm, ?_, _, ?_, rfl⟩
              · rw [hp2]; simp [bwd1, h1, h2, h3]
              · simp [bwd1, h1, h2, h3]; omega
            · rw [if_neg (by omega), if_pos h2]
              refine ⟨⟨_, .of hp2⟩, _, hp2, le_line (by simp at hbl ⊢; omega), same_over hp sm, ?_, _, ?_, rfl⟩
              · rw [upd_same]; simp [bwd1, h1, h2, h3]
              · simp [bwd1, h1, h2, h3]
      · rintro σ H2 ⟨sm, hp2, kk, rfl⟩
        rw [List.length_map, Nat.sub_self, List.drop_zero] at *
        exact ⟨sm, hp2, kk, rfl⟩
    rintro σ H2 ⟨sm, hp2, kk, rfl⟩
    walk_at "rd"
    refine ⟨fun σ H3 => Same H H3 ∧ H3 p = some (.lst ((bwd ss).2.map sV)) ∧ ∃ kk, σ = [some (.ref pw), some (.bl rt), some (.ref ps), some (.bl en), some (.ref p), some (.int (bwd ss).1), kk], ?_, ?_⟩
    · exact ⟨⟨_, .of hp2⟩, _, hp2, same_over hp sm, by rw [upd_same, ← List.map_reverse, List.reverse_reverse], kk, rfl⟩
    rintro σ H3 ⟨sm3, hp3, kk, rfl⟩
    walk_at "rd"
    have hbl := bwd_len ss
    refine ⟨fun σ H4 => Same H H4 ∧ ∃ q kk, H4 q = some (.lst ((goneS rt ss).map sV)) ∧ σ = [some (.ref pw), some (.bl rt), some (.ref ps), some (.bl en), some (.ref q), some (.int (bwd ss).1), kk], ?_, ?_⟩
    · rw [gone_bwd]
      cases rt with
      | true => exact ite2 (fun z => by cases z) (fun _ => ⟨sm3, p, kk, by simpa using hp3, rfl⟩)
      | false =>
        refine ite2 (fun _ => ?_) (fun z => absurd rfl z)
        refine ⟨by decide, fun q H4 hq s4 hq4 => ?_⟩
        walk_at "rd"
        have e : (List.replicate ((bwd ss).1 : Int).toNat [V.str (Str.ofString "..")]).flatten = List.replicate (bwd ss).1 (sV sUp) := by rw [d1]; simp
        refine ⟨_, hq4, by omega, by omega, le_line (by simp; omega), fun q5 H5 hq5n s5 hq5 => .inl ⟨_, _, hq5, (s4.trans s5) _ _ hp3, ?_, fun q6 H6 hn6 s6 hq6 => ⟨((sm3.trans s4).trans s5).trans s6, q6, kk, ?_, rfl, rfl⟩⟩⟩
        · rw [e]; exact le_line (by simp; omega)
        · rw [hq6, e]; simp
    rintro σ H4 ⟨sm4, q, kk, hq4, rfl⟩
    have hgl := gone_len rt ss
    have hgs : ∀ s ∈ goneS rt ss, ∀ c ∈ s, isSg c = true := fun s hs' => by
      rcases gone_mem s hs' with h | h
      · exact hs s h.1
      · rw [h.2]; decide
    walk_at "rd"
    refine ⟨by decide, fun p5 H5 hn5 s5 hp5 => ?_⟩
    refine ⟨.tuple (ss.map st), .tuple [], (j1.is).mono (sm4.trans s5), .tup hp5 .nil, shaped_steps hs, by decide, ?_⟩
    rw [eqv_nil]
    walk_at "rd"
    by_cases h0 : ss = []
    · refine ite2 (fun _ => ?_) (fun z => absurd (by rw [h0]; rfl) z)
      refine k _ H5 (sm4.trans s5) ?_
      rw [show goneV (rt, ss, en) = (rt, ss, en) by simp [goneV, goneW, h0]]
      exact hI.mono (sm4.trans s5).toT
    refine ite2 (fun z => absurd (by simpa using z) h0) (fun _ => ?_)
    refine ⟨by decide, fun p6 H6 hn6 s6 hp6 => ?_⟩
    have sm6 : Same H H6 := (sm4.trans s5).trans s6
    have hq6 := (s5.trans s6) _ _ hq4
    refine ⟨.list ((goneS rt ss).map st), .list [], .lst hq6 (isAll_sV _), .lst hp6 .nil, shaped_list hgs, by decide, ?_⟩
    rw [eqv_nilL]
    walk_at "rd"
    by_cases h1 : goneS rt ss = []
    · refine ite2 (fun _ => ?_) (fun z => absurd (by rw [h1]; rfl) z)
      cases rt with
      | true =>
        rw [if_pos rfl]
        refine ⟨by decide, fun p7 H7 hn7 s7 hp7 => ⟨by decide, fun p8 H8 hn8 s8 hp8 => k _ H8 ((sm6.trans s7).trans s8) ?_⟩⟩
        rw [show goneV (true, ss, en) = (true, [], true) by simp [goneV, goneW, h0, h1]]
        exact .tup hp8 (.cons (.bl _) (.cons (.tup (s8 _ _ hp7) .nil) (.cons (.bl _) .nil)))
      | false =>
        rw [if_neg (by decide)]
        refine ⟨by decide, fun p7 H7 hn7 s7 hp7 => ⟨by decide, fun p8 H8 hn8 s8 hp8 => k _ H8 ((sm6.trans s7).trans s8) ?_⟩⟩
        rw [show goneV (false, ss, en) = (false, [sStay], true) by simp [goneV, goneW, h0, h1]]
        rw [d2] at hp7
        exact .tup hp8 (.cons (.bl _) (.cons (.tup (s8 _ _ hp7) (.cons (.str _) .nil)) (.cons (.bl _) .nil)))
    refine ite2 (fun z => absurd (by simpa using z) h1) (fun _ => ?_)
    refine ⟨_, .inl (.of hq6), fun l H7 s7 hl7 => ?_⟩
    have hW : goneV (rt, ss, en) = (rt, goneS rt ss, en || lastDot ss) := by simp [goneV, goneW, h0, h1]
    have sm7 := sm6.trans s7
    refine ite2 (fun he => ⟨by decide, fun p8 H8 hn8 s8 hp8 => k _ H8 (sm7.trans s8) ?_⟩) (fun he => ?_)
    · rw [hW, he, Bool.true_or]
      exact .tup hp8 (.cons (.bl _) (.cons (.tup (s8 _ _ hl7) (isTAll_sV _)) (.cons (.bl _) .nil)))
    · have he : en = false := by simpa using he
      obtain ⟨s, hls⟩ : ∃ s, ss.getLast? = some s := by
        cases hl : ss.getLast? with
        | none => exact absurd (List.getLast?_eq_none_iff.mp hl) h0
        | some s => exact ⟨s, rfl⟩
      have hld : lastDot ss = isDot s := by unfold lastDot; rw [hls]
      refine ⟨_, _, .inr (.of (sm7 _ _ hps)), atI_last _ hls, by decide, fun p8 H8 hn8 s8 hp8 => ?_⟩
      rw [d1, d2] at hp8
      refine ⟨p8, _, rfl, .inr (.of hp8), rfl, rfl, by decide, fun p9 H9 hn9 s9 hp9 => k _ H9 ((sm7.trans s8).trans s9) ?_⟩
      rw [hW, he, Bool.false_or, hld, ← inV_dot]
      exact .tup hp9 (.cons (.bl _) (.cons (.tup ((s8.trans s9) _ _ hl7) (isTAll_sV _)) (.cons (.bl _) .nil)))
theorem ok__law_scheme (g : G K mg) : FnOk P w K mg base CX0 1 g.a__law_scheme g.fd__law_scheme ["_law_cell"] sp__law_scheme := by
  refine g.F__law_scheme.ok sc__law_scheme (fun vs H Q E h => ?_) (fun cdv A outer s H vs Q E hr h => ?_)
  · obtain ⟨c, rfl, _⟩ := h; rfl
  · obtain ⟨c, rfl, k⟩ := h
    refine ⟨_, (pss_cons (ps_set (i := 1) sc__law_scheme.nd rfl (Or.inl rfl) pe_str)
      (pss_cons (ps_set (i := 2) sc__law_scheme.nd rfl (Or.inl rfl) (pe_ix (ix_seqK (K := K) rfl) (pv 1) (pe_op op_mod (pv 0) pe_int) (fun _ _ => rfl)))
      (pss_cons (ps_set (i := 3) sc__law_scheme.nd rfl (Or.inl rfl) (pe_op op_fdiv (pv 0) pe_int))
      (pss_cons (ps_for PassesOwn.never rfl (pi_range1 rfl g.b_range (pa_cons (pe_op op_mod (pv 3) pe_int) pa_nil)) (pg_name (i := 4) sc__law_scheme.nd rfl (Or.inl rfl))
      (pss_cons (ps_set (i := 3) sc__law_scheme.nd rfl (Or.inl rfl) (pe_op op_fdiv (pv 3) pe_int))
      (pss_one (ps_set (i := 2) sc__law_scheme.nd rfl (Or.inl rfl) (pe_op (op_addK (K := K) rfl) (pv 2) (pe_ix (ix_seqK (K := K) rfl) (pe_op (op_addK (K := K) rfl) (pv 1) pe_str) (pe_op op_mod (pe_op (op_addK (K := K) rfl) (pv 3) (pe_op op_mulU pe_int (pv 4))) pe_int) (fun _ _ => rfl)))))))
      (pss_one (ps_ret (pv 2))))))), ?_⟩
    walk_at "rd"
    have h0 := Int.emod_nonneg c (show (52 : Int) ≠ 0 by decide)
    have h1 := Int.emod_lt_of_pos c (show (0 : Int) < 52 by decide)
    have h8 := Int.emod_nonneg (c / 52) (show (8 : Int) ≠ 0 by decide)
    have h9 := Int.emod_lt_of_pos (c / 52) (show (0 : Int) < 8 by decide)
    have e52 : (Str.ofString "abcdefghijklmnopqrstuvwxyzABCDEFGHIJKLMNOPQRSTUVWXYZ").cps.toList = AL.take 52 := by decide +kernel
    obtain ⟨c0, hc0, hl0⟩ := al_let (c % 52).toNat (by omega)
    have hat : atI (Str.ofString "abcdefghijklmnopqrstuvwxyzABCDEFGHIJKLMNOPQRSTUVWXYZ").cps.toList (c % 52) = some c0 := by
      rw [e52, show c % 52 = ((c % 52).toNat : Int) by omega]
      exact atI_nat (by rw [List.getElem?_take]; simp [hc0]; omega)
    refine ⟨by decide, c0, by decide +kernel, hat, ⟨by decide, by decide⟩, by decide, by omega, by omega, ?_⟩
    obtain ⟨m, hm, hm7⟩ : ∃ m : Nat, c / 52 % 8 = (m : Int) ∧ m ≤ 7 := ⟨(c / 52 % 8).toNat, by omega, by omega⟩
    rw [hm, Int.toNat_natCast]
    refine loop_range (fun i σ H' => H' = H ∧ ∃ (l : List Nat) (nn : Int) (v4 : Option V), σ = [some (.int c), some (.str (Str.ofString "abcdefghijklmnopqrstuvwxyzABCDEFGHIJKLMNOPQRSTUVWXYZ")), some (.str ⟨l.toArray⟩), some (.int nn), v4] ∧ l.length = i + 1 ∧ (∀ d ∈ l, isAln d = true) ∧ ∀ d ∈ l.take 1, isLet d = true) ⟨rfl, [c0], _, none, rfl, rfl, ?_, ?_⟩ ?_ ?_
    · intro d hd
      rw [List.mem_singleton.mp hd]; simp [isAln, hl0]
    · intro d hd
      rw [List.mem_singleton.mp hd]; exact hl0
    · rintro i σ H' hi ⟨rfl, l, nn, v4, rfl, hl, hs, h1⟩
      walk_at "rd"
      rw [al_app]
      have hx0 := Int.emod_nonneg (nn / 8 + 7 * (0 + (i : Int))) (show (62 : Int) ≠ 0 by decide)
      have hx1 := Int.emod_lt_of_pos (nn / 8 + 7 * (0 + (i : Int))) (show (0 : Int) < 62 by decide)
      obtain ⟨d, hd, hat2⟩ := at_lt AL hx0 (by rw [al_len]; exact hx1)
      refine ⟨⟨by decide, by decide⟩, by decide +kernel, .inl ⟨by decide, by decide⟩, by decide, ?_⟩
      walk_at "rd"
      refine ⟨d, le_line (by rw [al_len]; decide), hat2, le_line (by omega), l ++ [d], _, _, ⟨rfl, rfl, rfl⟩, by rw [List.length_append, List.length_singleton, hl], fun e he => ?_, fun e he => ?_⟩
      · rcases List.mem_append.mp he with z | z
        · exact hs e z
        · rw [List.mem_singleton.mp z]; exact al_aln d hd
      · rw [pair_or_nil, if_neg (by omega)] at he
        exact h1 e he
    · rintro σ H' ⟨rfl, l, nn, v4, rfl, hl, hs, h1⟩
      walk_at "rd"
      exact k l (by omega) (by omega) hs h1
theorem ok__law_longer (g : G K mg) : FnOk P w K mg base CX0 1 g.a__law_longer g.fd__law_longer ["_law_address_here"] (sp__law_longer K) := by
  refine g.F__law_longer.ok sc__law_longer (fun vs H Q E h => ?_) (fun cdv A outer s H vs Q E hr h => ?_)
  · obtain ⟨x, v, rfl, _⟩ := h; rfl
  · obtain ⟨x, v, rfl, hI, gx, k⟩ := h
    refine ⟨_, (pss_cut (ps_asg (pe_ix (ix_seqK (K := K) rfl) (pv 0) pe_int (fun _ _ => rfl)) (pg_tupK (n := 3) (K := K) rfl rfl (pgs_cons (pg_name (i := 1) sc__law_longer.nd rfl (Or.inl rfl)) (pgs_cons (pg_name (i := 2) sc__law_longer.nd rfl (Or.inl rfl)) (pgs_cons (pg_name (i := 3) sc__law_longer.nd rfl (Or.inl rfl)) pgs_nil)))))
      (pss_cons (ps_set (i := 2) sc__law_longer.nd rfl (Or.inl rfl) (pe_slice sl_tupA (pe_op op_repT (pe_callTy (call_tupleS (K := K) rfl) rfl g.b_tuple bt_tuple (pa_cons (pe_comp (fx := []) (fr := []) rfl rfl (by decide +kernel) rfl (by decide +kernel) rfl (by decide +kernel) rfl .nil rfl (pi_tupK (K := K) rfl (pv 2)) (fun _ _ _ => pf_nil) (fun _ _ _ => (pe_slice (sl_anyK (K := K) rfl) (pv 0) po_none (po_some pe_int)))) pa_nil)) pe_int) po_none (po_some pe_int)))
      (pss_one (ps_ret (pe_op (op_addS (K := K)) (pe_op (op_addS (K := K)) (pe_slice sl_tupA (pv 0) po_none (po_some pe_int)) (pe_tupS (pa_cons (pe_tupS (pa_cons (pv 1) (pa_cons (pv 2) (pa_cons (pv 3) pa_nil)))) pa_nil))) (pe_slice sl_tupA (pv 0) (po_some pe_int) po_none)))))), ?_⟩
    obtain ⟨p, w, q, rfl, hp, hw, hq⟩ := isT_ad hI
    obtain ⟨pw, ps, rfl, hpw, hps⟩ := isT_way (r := x.rooted) (e := x.ends) (ss := x.steps) hw
    have hxl := gx.ln
    walk_at "rd"
    refine ⟨fun σ H1 => H1 = H ∧ σ = [some (.ref p), some (.bl x.rooted), some (.ref ps), some (.bl x.ends)], ?_, ?_⟩
    · exact ⟨_, _, .inr (.of hp), rfl, pw, _, rfl, .of hpw, rfl, _, _, rfl, _, _, rfl, _, _, rfl, rfl, rfl, rfl⟩
    rintro σ H1 ⟨rfl, rfl⟩
    walk_at "rd"
    refine ⟨⟨_, .of hps⟩, fun p2 hn2 => ?_⟩
    refine comp_tupZ (zs := (x.steps.map (·.take 5)).map sV) (.of hps) (by rw [List.length_map]; exact le_line (by omega)) hn2 (by simp) (fun i y z hy hz H' T sm hT => ?_) (fun H2 s2 hp' => ?_)
    · rw [List.getElem?_map] at hy hz
      rw [List.getElem?_map] at hz
      obtain ⟨s, hs', rfl⟩ := Option.map_eq_some_iff.mp hy
      rw [hs'] at hz
      simp only [Option.map_some, Option.some.injEq] at hz
      subst hz
      have hsl := (gx.okst s (List.mem_of_getElem? hs')).2
      walk_at "rd"
      refine ⟨le_line (by omega), ?_⟩
      rw [show Txt.slice (⟨s.toArray⟩ : Str) none (some 5) = ⟨(s.take 5).toArray⟩ from slice_to s 5]
      exact hT H' (Same.refl _)
    walk_at "rd"
    refine ⟨_, .inl (.of hp'), fun p3 H3 s3 hp3 => ?_⟩
    refine ⟨_, hp3, by decide, by decide, le_line (by simp; omega), fun p4 H4 s4 hp4 => ?_⟩
    refine ⟨_, hp4, fun p5 H5 s5 hp5 => ?_⟩
    have e : (List.replicate (8 : Int).toNat ((x.steps.map (·.take 5)).map sV)).flatten = ((List.replicate 8 (x.steps.map (·.take 5))).flatten).map sV := by simp [List.map_flatten]
    have hlen : (List.replicate 8 (x.steps.map (·.take 5))).flatten.length = 8 * x.steps.length := by rw [List.length_flatten]; simp; omega
    rw [e, cutV_map, cutA_to (i := 180) _ (n := min 180 (List.replicate 8 (x.steps.map (·.take 5))).flatten.length) (HT.sIx_nat _ _ 180)] at hp5
    have tl : ∀ s ∈ (List.replicate 8 (x.steps.map (·.take 5))).flatten.take (min 180 (List.replicate 8 (x.steps.map (·.take 5))).flatten.length), StepOk s ∧ s.length ≤ 9 := fun s hs' => by
      have hs' := List.mem_of_mem_take hs'
      rw [List.mem_flatten] at hs'
      obtain ⟨l, hl, hs'⟩ := hs'
      rw [(List.mem_replicate.mp hl).2] at hs'
      obtain ⟨s0, h0, rfl⟩ := List.mem_map.mp hs'
      obtain ⟨⟨k1, k2⟩, k3⟩ := gx.okst s0 h0
      exact ⟨⟨by rw [List.length_take]; omega, fun c hc => k2 c (List.mem_of_mem_take hc)⟩, by rw [List.length_take]; omega⟩
    have tn : ((List.replicate 8 (x.steps.map (·.take 5))).flatten.take (min 180 (List.replicate 8 (x.steps.map (·.take 5))).flatten.length)).length ≤ 180 := by rw [List.length_take]; omega
    have te : (List.replicate 8 (x.steps.map (·.take 5))).flatten.take (min 180 (List.replicate 8 (x.steps.map (·.take 5))).flatten.length) = [] → x.ends = true := fun z => by
      have z := congrArg List.length z
      rw [List.length_take, List.length_nil, hlen] at z
      exact (gx.wf.end_ (List.eq_nil_of_length_eq_zero (by omega))).trans gx.rt
    generalize (List.replicate 8 (x.steps.map (·.take 5))).flatten.take (min 180 (List.replicate 8 (x.steps.map (·.take 5))).flatten.length) = tt at hp5 tl tn te
    have t5 : Same H1 H5 := ((s2.trans s3).trans s4).trans s5
    refine ⟨_, t5 _ _ hp, fun p6 H6 s6 hp6 => ⟨by decide, fun p7 H7 hn7 s7 hp7 => ⟨by decide, fun p8 H8 hn8 s8 hp8 => .inr ⟨_, _, (s7.trans s8) _ _ hp6, hp8, (show 4 ≤ sizeLine by decide), fun p9 H9 s9 hp9 => ?_⟩⟩⟩⟩
    have t9 : Same H1 H9 := ((t5.trans s6).trans s7).trans (s8.trans s9)
    refine ⟨_, t9 _ _ hp, fun p10 H10 s10 hp10 => .inr ⟨_, _, s10 _ _ hp9, hp10, (show 6 ≤ sizeLine by decide), fun p11 H11 s11 hp11 => ?_⟩⟩
    have t11 := (t9.trans s10).trans s11
    rw [gx.rt] at hp7
    exact k _ _ H11 t11 (gx.way (ss := tt) (e := x.ends) tl tn te) (adT (x := { x with rooted := true, steps := tt, ends := x.ends }) hp11 (wayT' ((((s8.trans s9).trans s10).trans s11) _ _ hp7) ((((s6.trans s7).trans (s8.trans s9)).trans (s10.trans s11)) _ _ hp5)) (hq.mono t11.toT))
theorem ok__law_near (g : G K mg) : FnOk P w K mg base CX0 1 g.a__law_near g.fd__law_near ["_law_base", "_law_goal", "_law_way_here"] (sp__law_near K) := by
  refine g.F__law_near.ok sc__law_near (fun vs H Q E h => ?_) (fun cdv A outer s H vs Q E hr h => ?_)
  · obtain ⟨b, g, vb, vg, w, rfl, _⟩ := h; rfl
  · obtain ⟨b, g', vb, vg, wh, rfl, hB, hG, gb, gg, k⟩ := h
    refine ⟨_, (pss_cut (ps_if (pt_cmpR op_eq (pv 2) pe_int (nomark _))
        (pss_one (ps_ret (pe_op (op_addS (K := K)) (pe_slice sl_tupA (pv 1) po_none (po_some pe_int)) (pe_slice sl_tupA (pv 0) (po_some pe_int) po_none)))) pss_nil)
      (pss_cut (ps_if (PW.pt (pw_and (pt_cmpR op_eq (pv 2) pe_int (nomark _)) (pw_and1 (pt_cmpR op_notNU (pe_ix (ix_seqK (K := K) rfl) (pv 0) pe_int (fun _ _ => rfl)) pe_non (nomark _)))))
        (pss_one (ps_ret (pe_op (op_addS (K := K)) (pe_op (op_addS (K := K)) (pe_slice sl_tupA (pv 0) po_none (po_some pe_int)) (pe_tupS (pa_cons (pe_op (op_addS (K := K)) (pe_ix (ix_seqK (K := K) rfl) (pv 0) pe_int (fun _ _ => rfl)) pe_str) pa_nil))) (pe_slice sl_tupA (pv 0) (po_some pe_int) po_none)))) pss_nil)
      (pss_cut (ps_if (PW.pt (pw_and (pt_cmpR op_eq (pv 2) pe_int (nomark _)) (pw_and1 (pt_cmpR op_notNU (pe_ix (ix_seqK (K := K) rfl) (pv 0) pe_int (fun _ _ => rfl)) pe_non (nomark _)))))
        (pss_one (ps_ret (pe_op (op_addS (K := K)) (pe_op (op_addS (K := K)) (pe_slice sl_tupA (pv 0) po_none (po_some pe_int)) (pe_tupS (pa_cons (pe_ix (ix_seqK (K := K) rfl) (pe_lstS (pa_cons pe_int (pa_cons pe_non pa_nil))) (pe_callTy call_intU rfl g.b_int bt_int (pa_cons (pe_cmpR op_eq (pe_ix (ix_seqK (K := K) rfl) (pv 0) pe_int (fun _ _ => rfl)) pe_int (nomark _)) pa_nil)) (fun _ _ => rfl)) pa_nil))) (pe_slice sl_tupA (pv 0) (po_some pe_int) po_none)))) pss_nil)
      (pss_cut (ps_if (pt_cmpR op_eq (pv 2) pe_int (nomark _))
        (pss_one (ps_ret (pe_op (op_addS (K := K)) (pe_op (op_addS (K := K)) (pe_slice sl_tupA (pv 0) po_none (po_some pe_int)) (pe_tupS (pa_cons pe_non (pa_cons pe_non pa_nil)))) (pe_slice sl_tupA (pv 0) (po_some pe_int) po_none)))) pss_nil)
      (pss_one (ps_ret (pv 1))))))), ?_⟩
    obtain ⟨pb, ub, qb, rfl, hpb, hwb, hqb⟩ := isT_ad hB
    obtain ⟨pg, ug, qg, rfl, hpg, hwg, hqg⟩ := isT_ad hG
    walk_at "rd"
    refine ⟨fun σ H1 => H1 = H ∧ σ = [some (.ref pb), some (.ref pg), some (.int wh)], ?_, ?_⟩
    · refine ite2 (fun _ => ?_) (fun _ => ⟨rfl, rfl⟩)
      refine ⟨_, hpg, fun p1 H1 s1 hp1 => ⟨_, s1 _ _ hpb, fun p2 H2 s2 hp2 => .inr ⟨_, _, s2 _ _ hp1, hp2, (show 6 ≤ sizeLine by decide), fun p3 H3 s3 hp3 => ?_⟩⟩⟩
      have sz := (s1.trans s2).trans s3
      refine k { b with scheme := g'.scheme } _ H3 sz ⟨⟨gg.wf.sch, gb.wf.hou, gb.wf.doo, gb.wf.stp, fun _ => gb.rt, gb.wf.end_, gb.wf.que, gb.wf.mar⟩, gg.sc, gb.ln⟩ (adT (x := { b with scheme := g'.scheme }) hp3 (hwb.mono sz.toT) (hqb.mono sz.toT))
    rintro σ H1 ⟨rfl, rfl⟩
    walk_at "rd"
    refine ⟨fun σ H2 => H2 = H1 ∧ σ = [some (.ref pb), some (.ref pg), some (.int wh)], ?_, ?_⟩
    · refine ite2 (fun _ => ⟨_, _, .inr (.of hpb), rfl, ?_⟩) (fun _ => ⟨rfl, rfl⟩)
      cases hh : b.house with
      | none => exact ite2 (fun z => absurd rfl z) (fun _ => ⟨rfl, rfl⟩)
      | some l =>
        refine ite2 (fun _ => ?_) (fun z => absurd (Classical.not_not.mp z) (by simp [otV]))
        have hl := gb.ti.hou l hh
        have hw := gb.wf.hou l hh
        rw [hh] at hpb
        refine ⟨_, hpb, fun p1 Ha sa hp1 => ⟨_, _, .inr (.of (sa _ _ hpb)), rfl, ?_⟩⟩
        rw [show Str.ofString "h" = ⟨[104].toArray⟩ by decide +kernel]
        show rAddS K (.str ⟨l.toArray⟩) (.str ⟨[104].toArray⟩) Ha _
        walk_at "rd"
        refine ⟨le_line (by simp; omega), by decide, fun p2 Hb hnb sbb hp2 => .inr ⟨_, _, sbb _ _ hp1, hp2, (show 2 ≤ sizeLine by decide), fun p3 Hc sc hp3 => ⟨_, ((sa.trans sbb).trans sc) _ _ hpb, fun p4 Hd sd hp4 => .inr ⟨_, _, sd _ _ hp3, hp4, (show 6 ≤ sizeLine by decide), fun p5 He se hp5 => ?_⟩⟩⟩⟩
        have sz := (((sa.trans sbb).trans sc).trans sd).trans se
        refine k { b with house := some (l ++ [104]) } _ He sz ⟨⟨gb.wf.sch, (fun l' e => by cases e; exact ⟨⟨by simp, by simp; omega⟩, fun c hc => (List.mem_append.mp hc).elim (hw.2 c) (fun z => by rw [List.mem_singleton.mp z]; decide)⟩), (fun i e => ⟨(gb.wf.doo i e).1, by simp⟩), gb.wf.stp, fun _ => gb.rt, gb.wf.end_, gb.wf.que, gb.wf.mar⟩, gb.sc, gb.ln⟩ (adT (x := { b with house := some (l ++ [104]) }) hp5 (hwb.mono sz.toT) (hqb.mono sz.toT))
    rintro σ H2 ⟨rfl, rfl⟩
    walk_at "rd"
    refine ⟨fun σ H3 => H3 = H2 ∧ σ = [some (.ref pb), some (.ref pg), some (.int wh)], ?_, ?_⟩
    · refine ite2 (fun _ => ⟨_, _, .inr (.of hpb), rfl, ?_⟩) (fun _ => ⟨rfl, rfl⟩)
      cases hh : b.house with
      | none => exact ite2 (fun z => absurd rfl z) (fun _ => ⟨rfl, rfl⟩)
      | some l =>
        refine ite2 (fun _ => ?_) (fun z => absurd (Classical.not_not.mp z) (by simp [otV]))
        refine ⟨_, hpb, fun p1 Ha sa hp1 => ⟨by decide, fun pz Hz hnz sz0 hpz => ⟨_, _, .inr (.of ((sa.trans sz0) _ _ hpb)), rfl, ?_⟩⟩⟩
        have fin : ∀ (d : Option Int) (v : V), (d = some 0 ∨ d = none) → v = itV d → (1 ≤ sizeLine ∧ ∀ (p_2 : Addr) (H' : Hp), Hz p_2 = none → Same Hz H' → H' p_2 = some (.tup [v]) → rAddS K (.ref p1) (.ref p_2) H' fun x H1 => ∃ xs, H1 pb = some (.tup xs) ∧ ∀ (p : Addr) (H' : Hp), Same H1 H' → H' p = some (.tup (cutV xs (some 3) none)) → rAddS K x (.ref p) H' Q) := fun d v hd hv =>
          ⟨by decide, fun p2 Hb hnb sbb hp2 => .inr ⟨_, _, (sz0.trans sbb) _ _ hp1, hp2, (show 3 ≤ sizeLine by decide), fun p3 Hc sc hp3 => ⟨_, (((sa.trans sz0).trans sbb).trans sc) _ _ hpb, fun p4 Hd sd hp4 => .inr ⟨_, _, sd _ _ hp3, hp4, (show 6 ≤ sizeLine by decide), fun p5 He se hp5 => by
            have sz := ((((sa.trans sz0).trans sbb).trans sc).trans sd).trans se
            subst hv
            refine k { b with door := d } _ He sz ⟨⟨gb.wf.sch, gb.wf.hou, (fun i e => ?_), gb.wf.stp, fun _ => gb.rt, gb.wf.end_, gb.wf.que, gb.wf.mar⟩, gb.sc, gb.ln⟩ (adT (x := { b with door := d }) hp5 (hwb.mono sz.toT) (hqb.mono sz.toT))
            rcases hd with rfl | rfl
            · cases e; exact ⟨by decide, by simp [hh]⟩
            · cases e⟩⟩⟩⟩
        cases hd : b.door with
        | none =>
          refine ⟨rfl, ?_⟩
          show rIntU [.bl false] Hz _
          walk_at "rd"
          refine ⟨_, _, .inl (.of hpz), rfl, fin (some 0) _ (.inl rfl) rfl⟩
        | some i =>
          show rEq (.int i) (.int 0) Hz _
          walk_at "rd"
          by_cases h0 : i = 0
          · rw [if_pos h0]
            exact ⟨_, _, .inl (.of hpz), rfl, fin none _ (.inr rfl) rfl⟩
          · rw [if_neg h0]
            exact ⟨_, _, .inl (.of hpz), rfl, fin (some 0) _ (.inl rfl) rfl⟩
    rintro σ H3 ⟨rfl, rfl⟩
    walk_at "rd"
    refine ⟨fun σ H4 => H4 = H3 ∧ σ = [some (.ref pb), some (.ref pg), some (.int wh)], ?_, ?_⟩
    · refine ite2 (fun _ => ?_) (fun _ => ⟨rfl, rfl⟩)
      refine ⟨_, hpb, fun p1 H4 s4 hp1 => ⟨by decide, fun p2 H5 hn5 s5 hp2 => .inr ⟨_, _, s5 _ _ hp1, hp2, (show 3 ≤ sizeLine by decide), fun p3 H6 s6 hp3 => ?_⟩⟩⟩
      walk_at "rd"
      refine ⟨_, ((s4.trans s5).trans s6) _ _ hpb, fun p4 H7 s7 hp4 => .inr ⟨_, _, s7 _ _ hp3, hp4, (show 6 ≤ sizeLine by decide), fun p5 H8 s8 hp5 => ?_⟩⟩
      have sz := (((s4.trans s5).trans s6).trans s7).trans s8
      refine k { b with house := none, door := none } _ H8 sz ⟨⟨gb.wf.sch, (fun l e => by cases e), (fun l e => by cases e), gb.wf.stp, fun _ => gb.rt, gb.wf.end_, gb.wf.que, gb.wf.mar⟩, gb.sc, gb.ln⟩ (adT (x := { b with house := none, door := none }) hp5 (hwb.mono sz.toT) (hqb.mono sz.toT))
    rintro σ H4 ⟨rfl, rfl⟩
    walk_at "rd"
    exact k g' _ H4 (Same.refl _) ⟨gg.wf, gg.sc, gg.ln⟩ hG
theorem ok_steps_left (g : G K mg) : FnOk P w K mg base CX0 2 g.a_steps_left g.fd_steps_left ["steps", "rooted"] (sp_steps_left K) := by
  refine g.F_steps_left.ok sc_steps_left (fun vs H Q E h => ?_) (fun cdv A outer s H vs Q E hr h => ?_)
  · obtain ⟨ps, ss, r, rfl, _⟩ := h; rfl
  · obtain ⟨ps, ss, r, rfl, hps, hl, k⟩ := h
    refine ⟨_, (pss_cons (ps_set (i := 2) sc_steps_left.nd rfl (Or.inl rfl) (pe_lstS pa_nil))
      (pss_cons (ps_for PassesOwn.never rfl (pi_tupK (K := K) rfl (pv 0)) (pg_name (i := 3) sc_steps_left.nd rfl (Or.inl rfl))
      (pss_one (ps_if (pt_cmpR op_eq (pv 3) (pe_glob (v := k_UP) rfl g.c_UP ⟨_, rfl⟩) (nomark _))
        (pss_one (ps_expr (pe_call (ok_go_up g) (hr.mono (by decide)) rfl g.m_go_up g.F_go_up.kp g.b_go_up .nil pass0 (pa_cons (pv 2) (pa_cons (pv 1) pa_nil))))) (pss_one (ps_if (pt_cmpR op_ne (pv 3) (pe_glob (v := k_STAY) rfl g.c_STAY ⟨_, rfl⟩) (nomark _))
        (pss_one (ps_expr (pe_bmK (K := K) rfl PySem.F.plainAttrs_list PySem.F.slot_list_append PySem.F.type_list_append mt_append (pv 2) (pa_cons (pv 3) pa_nil)))) pss_nil)))))
      (pss_one (ps_ret (pe_callTy (call_tupleS (K := K) rfl) rfl g.b_tuple bt_tuple (pa_cons (pv 2) pa_nil)))))), ?_⟩
    walk_at "rd"
    refine ⟨by decide, fun p H1 hp s1 hp1 => ⟨⟨_, s1.tup hps⟩, ?_⟩⟩
    refine loop_tup (xs := ss.map sV) (fun i σ H2 => Same H H2 ∧ H2 p = some (.lst ((stk (sofar r ss i)).map sV)) ∧ ∃ kk, σ = [some (.ref ps), some (.bl r), some (.ref p), kk]) ⟨s1, by rw [hp1]; simp [sofar, stk], none, rfl⟩ (fun i σ H2 _ h => h.1.tup hps) ?_ ?_
    · rintro i x σ H2 hx ⟨sm, hp2, kk, rfl⟩
      rw [List.getElem?_map] at hx
      obtain ⟨s, hs, rfl⟩ := Option.map_eq_some_iff.mp hx
      have hi : i < ss.length := by
        rcases Nat.lt_or_ge i ss.length with z | z
        · exact z
        · rw [List.getElem?_eq_none z] at hs; cases hs
      obtain ⟨ok, lk⟩ := sofar_ok r ss i
      rw [sofar_next hs]
      simp only [kup, kst]
      walk_at "rd"
      simp only [mk_inj]
      by_cases h1 : s = sUp
      · rw [if_pos h1]
        refine ⟨p, _, r, rfl, hp2, by omega, same_over hp sm, ?_, _, rfl⟩
        rw [upd_same, goUp_fwd ok, h1]
      · rw [if_neg h1]
        by_cases h2 : s = sStay
        · subst h2
          rw [fwd_stay]
          exact ite2 (fun z => absurd rfl z) (fun _ => ⟨sm, hp2, _, rfl⟩)
        · refine ite2 (fun _ => ?_) (fun z => absurd h2 z)
          refine ⟨⟨_, .of hp2⟩, _, hp2, le_line (by rw [List.length_map]; omega), same_over hp sm, ?_, _, rfl⟩
          rw [upd_same, stk_put h1 h2, List.map_append]; rfl
    · rintro σ H2 ⟨sm, hp2, kk, rfl⟩
      rw [List.length_map, sofar_all] at hp2
      walk_at "rd"
      exact ⟨_, .inl (.of hp2), fun l H3 s3 hl3 => k l H3 (sm.trans s3) hl3⟩
theorem comp_steps {K : PySem.W.Frag} {p a : Addr} {fv : St} {Q : VK} {H1 : Hp} {cs : List Int} (hS : SqL K H1 a (cs.map V.int)) (hl : cs.length ≤ 2000) (hp : H1 p = none)
    (hQ : ∀ (ss : List Stp) (H' : Hp), Same H1 H' → ss.length = cs.length → (∀ s ∈ ss, StepOk s ∧ s.length ≤ 9) → H' p = some (.lst (ss.map sV)) → Q (.ref p) H') : CompI (Itl K a) p fv tYes (tCall sp__law_step [] E0 (tCons (tVar 0) tNil)) Q H1 := by
  refine comp_listR hS (by rw [List.length_map]; exact le_line (by omega)) hp (fun _ y _ => ∃ s : Stp, y = sV s ∧ (StepOk s ∧ s.length ≤ 9)) (fun _ _ _ _ _ h => h) (fun x hx H' T sm hT => ?_) (fun ys H' sm all hp' => ?_)
  · obtain ⟨c, _, rfl⟩ := List.mem_map.mp hx
    rw [L2.rd_call, L2.rd_cons, L2.rd_var]
    refine ⟨_, rfl, c, rfl, fun l H'' s'' h1 h2 h3 => hT _ H'' s'' ⟨l, rfl, ⟨h1, h3⟩, h2⟩⟩
  · obtain ⟨ss, rfl, h1, h2⟩ := all2_some all
    rw [List.length_map] at h1
    exact hQ ss H' sm h1 h2 hp'
theorem ok__law_step (g : G K mg) : FnOk P w K mg base CX0 2 g.a__law_step g.fd__law_step ["_law_cell"] sp__law_step := by
  refine g.F__law_step.ok sc__law_step (fun vs H Q E h => ?_) (fun cdv A outer s H vs Q E hr h => ?_)
  · obtain ⟨c, rfl, _⟩ := h; rfl
  · obtain ⟨c, rfl, k⟩ := h
    refine ⟨_, (pss_cons (ps_set (i := 1) sc__law_step.nd rfl (Or.inl rfl) (pe_op op_fdiv (pv 0) pe_int))
      (pss_cons (ps_if (pt_cmpR op_lt (pe_op op_mod (pv 0) pe_int) pe_int (nomark _))
        (pss_one (ps_ret pe_str)) pss_nil)
      (pss_cons (ps_if (pt_cmpR op_eq (pe_op op_mod (pv 0) pe_int) pe_int (nomark _))
        (pss_one (ps_ret pe_str)) pss_nil)
      (pss_cons (ps_if (pt_cmpR op_eq (pe_op op_mod (pv 0) pe_int) pe_int (nomark _))
        (pss_one (ps_ret (pe_ix (ix_seqK (K := K) rfl) (pe_lst (pa_cons pe_str (pa_cons pe_str (pa_cons pe_str (pa_cons pe_str (pa_cons pe_str (pa_cons pe_str (pa_cons pe_str (pa_cons pe_str pa_nil))))))))) (pe_op op_mod (pv 1) pe_int) (fun _ _ => rfl)))) pss_nil)
      (pss_cons (ps_if (pt_cmpR op_lt (pe_op op_mod (pv 0) pe_int) pe_int (nomark _))
        (pss_one (ps_ret (pe_op op_mulU (pe_ix (ix_seqK (K := K) rfl) pe_str (pe_op op_mod (pv 1) pe_int) (fun _ _ => rfl)) (pe_op (op_addK (K := K) rfl) pe_int (pe_op op_mod (pe_op op_fdiv (pv 1) pe_int) pe_int))))) pss_nil)
      (pss_one (ps_ret (pe_call (ok__law_text g) (hr.mono (by decide)) rfl g.m__law_text g.F__law_text.kp g.b__law_text .nil pass0 (pa_cons (pv 1) (pa_cons pe_int pa_nil)))))))))), ?_⟩
    walk_at "rd"
    have put : ∀ (l : List Nat) (z : Str) (H' : Hp), z = ⟨l.toArray⟩ → Same H H' → 0 < l.length → l.length ≤ 9 → l.all isSg = true → Q (.str z) H' := fun l z H' e sm h1 h2 h3 => by
      rw [e]; exact k l H' sm h1 h2 (List.all_eq_true.mp h3)
    refine ⟨⟨by decide, by decide⟩, by decide, ite2 (fun _ => put [46, 46] _ H (by decide +kernel) (Same.refl _) (by decide) (by decide) (by decide)) (fun _ => ⟨by decide, ite2 (fun _ => put [46] _ H (by decide +kernel) (Same.refl _) (by decide) (by decide) (by decide)) (fun _ => ⟨by decide, ite2 (fun _ => ?_) (fun _ => ⟨by decide, ite2 (fun _ => ?_) (fun _ => ?_)⟩)⟩)⟩)⟩
    · refine ⟨by decide, fun p hp => ⟨by decide, ?_⟩⟩
      have sm := same_upd (o := .lst [V.str (Str.ofString "..."), V.str (Str.ofString ".a"), V.str (Str.ofString "..b"), V.str (Str.ofString "a."), V.str (Str.ofString "-"), V.str ⟨#[126]⟩, V.str (Str.ofString "a/b"), V.str (Str.ofString ":")]) hp
      obtain ⟨v, hv, hat⟩ := at_modV [V.str (Str.ofString "..."), V.str (Str.ofString ".a"), V.str (Str.ofString "..b"), V.str (Str.ofString "a."), V.str (Str.ofString "-"), V.str ⟨#[126]⟩, V.str (Str.ofString "a/b"), V.str (Str.ofString ":")] (c / 8) 8 (by decide) (by decide)
      refine ⟨_, v, .inl (.of upd_same), hat, ?_⟩
      simp only [List.mem_cons, List.not_mem_nil, or_false] at hv
      rcases hv with rfl | rfl | rfl | rfl | rfl | rfl | rfl | rfl
      · exact put [46, 46, 46] _ _ (by decide +kernel) sm (by decide) (by decide) (by decide)
      · exact put [46, 97] _ _ (by decide +kernel) sm (by decide) (by decide) (by decide)
      · exact put [46, 46, 98] _ _ (by decide +kernel) sm (by decide) (by decide) (by decide)
      · exact put [97, 46] _ _ (by decide +kernel) sm (by decide) (by decide) (by decide)
      · exact put [45] _ _ (by decide +kernel) sm (by decide) (by decide) (by decide)
      · exact put [126] _ _ (by decide +kernel) sm (by decide) (by decide) (by decide)
      · exact put [97, 47, 98] _ _ (by decide +kernel) sm (by decide) (by decide) (by decide)
      · exact put [58] _ _ (by decide +kernel) sm (by decide) (by decide) (by decide)
    · obtain ⟨d, hd, hat⟩ := at_mod' (Str.ofString "abc").cps.toList (c / 8) 3 (by decide) (by decide +kernel)
      have hd : d = 97 ∨ d = 98 ∨ d = 99 := by
        rw [show (Str.ofString "abc").cps.toList = [97, 98, 99] by decide +kernel] at hd
        simpa using hd
      refine ⟨by decide, d, by decide +kernel, hat, ⟨by decide, by decide⟩, by decide, ?_⟩
      have h2 : c / 8 / 3 % 2 = 0 ∨ c / 8 / 3 % 2 = 1 := by omega
      have mo : ∀ (l : List Nat) (n : Int), (n = 1 ∨ n = 2) → l.length = 1 → MulOk (⟨l.toArray⟩ : Str) n := fun l n hn hl => by
        rcases hn with rfl | rfl <;> exact ⟨by decide, fun _ _ => by rw [mk_len, hl]; decide, fun _ _ => notTooLong (by rw [mk_len, hl]; decide)⟩
      rcases h2 with e | e <;> rw [e] <;> refine ⟨mo [d] _ (by simp) rfl, ?_⟩ <;> rcases hd with rfl | rfl | rfl
      · exact put [97] _ H (by decide +kernel) (Same.refl _) (by decide) (by decide) (by decide)
      · exact put [98] _ H (by decide +kernel) (Same.refl _) (by decide) (by decide) (by decide)
      · exact put [99] _ H (by decide +kernel) (Same.refl _) (by decide) (by decide) (by decide)
      · exact put [97, 97] _ H (by decide +kernel) (Same.refl _) (by decide) (by decide) (by decide)
      · exact put [98, 98] _ H (by decide +kernel) (Same.refl _) (by decide) (by decide) (by decide)
      · exact put [99, 99] _ H (by decide +kernel) (Same.refl _) (by decide) (by decide) (by decide)
    · exact ⟨_, 9, rfl, by decide, by decide, fun l h1 h2 h3 => k l H (Same.refl _) h1 (by omega) h3⟩
theorem ok__law_same (g : G K mg) : FnOk P w K mg base CX0 2 g.a__law_same g.fd__law_same ["_law_found", "_law_due"] (sp__law_same K) := by
  refine g.F__law_same.ok sc__law_same (fun vs H Q E h => ?_) (fun cdv A outer s H vs Q E hr h => ?_)
  · obtain ⟨x, v, u, rfl, _⟩ := h; rfl
  · obtain ⟨x, v, u, rfl, hI, hJ, wf, hn, k⟩ := h
    refine ⟨_, (pss_cons (ps_if (PW.pt (pw_or (pt_not (pt_val (pe_callB (call_isiX (K := K) rfl) rfl g.b_isinstance boot_isinstance (pa_cons (pv 0) (pa_cons (pe_bltn (v := .ty "tuple") rfl g.b_tuple bt_tuple rfl) pa_nil))))) (pw_or (pt_cmpR op_ne (pe_callB (call_lenK (K := K) rfl) rfl g.b_len PySem.boot_len (pa_cons (pv 0) pa_nil)) pe_int (nomark _)) (pw_or1 (pt_not (pt_val (pe_callB (call_isiX (K := K) rfl) rfl g.b_isinstance boot_isinstance (pa_cons (pe_ix (ix_seqK (K := K) rfl) (pv 0) pe_int (fun _ _ => rfl)) (pa_cons (pe_bltn (v := .ty "str") rfl g.b_str bt_str rfl) pa_nil)))))))))
        (pss_one (ps_ret pe_bl)) pss_nil)
      (pss_cut (ps_if (PW.pt (pw_and (pt_cmpR op_notNU (pe_ix (ix_seqK (K := K) rfl) (pv 0) pe_int (fun _ _ => rfl)) pe_non (nomark _)) (pw_and1 (PW.pt (pw_or (pt_val (pe_callB (call_isiX (K := K) rfl) rfl g.b_isinstance boot_isinstance (pa_cons (pe_ix (ix_seqK (K := K) rfl) (pv 0) pe_int (fun _ _ => rfl)) (pa_cons (pe_bltn (v := .ty "bool") rfl g.b_bool bt_bool rfl) pa_nil)))) (pw_or1 (pt_not (pt_val (pe_callB (call_isiX (K := K) rfl) rfl g.b_isinstance boot_isinstance (pa_cons (pe_ix (ix_seqK (K := K) rfl) (pv 0) pe_int (fun _ _ => rfl)) (pa_cons (pe_bltn (v := .ty "int") rfl g.b_int bt_int rfl) pa_nil)))))))))))
        (pss_one (ps_ret pe_bl)) pss_nil)
      (pss_cons (ps_for PassesOwn.never rfl (pi_listK (K := K) rfl (pe_lstS (pa_cons (pe_ix (ix_seqK (K := K) rfl) (pv 0) pe_int (fun _ _ => rfl)) (pa_cons (pe_ix (ix_seqK (K := K) rfl) (pv 0) pe_int (fun _ _ => rfl)) pa_nil)))) (pg_name (i := 2) sc__law_same.nd rfl (Or.inl rfl))
      (pss_one (ps_if (PW.pt (pw_and (pt_cmpR op_notNU (pv 2) pe_non (nomark _)) (pw_and1 (pt_not (pt_val (pe_callB (call_isiX (K := K) rfl) rfl g.b_isinstance boot_isinstance (pa_cons (pv 2) (pa_cons (pe_bltn (v := .ty "str") rfl g.b_str bt_str rfl) pa_nil))))))))
        (pss_one (ps_ret pe_bl)) pss_nil)))
      (pss_one (ps_ret (pe_and (pe_call (ok__law_same_way g) (hr.mono (by decide)) rfl g.m__law_same_way g.F__law_same_way.kp g.b__law_same_way .nil pass0 (pa_cons (pe_ix (ix_seqK (K := K) rfl) (pv 0) pe_int (fun _ _ => rfl)) (pa_cons (pe_ix (ix_seqK (K := K) rfl) (pv 1) pe_int (fun _ _ => rfl)) pa_nil))) (pe_and (pe_call (ok__law_same_pairs g) (hr.mono (by decide)) rfl g.m__law_same_pairs g.F__law_same_pairs.kp g.b__law_same_pairs .nil pass0 (pa_cons (pe_ix (ix_seqK (K := K) rfl) (pv 0) pe_int (fun _ _ => rfl)) pa_nil)) (pe_one (pe_cmpR (op_eqX (K := K) rfl hr.units) (pv 0) (pv 1) (nomark _)))))))))), ?_⟩
    obtain ⟨pv, wv, qv, rfl, hpv, hwv, hqv⟩ := isK_ad hI
    obtain ⟨pu, wu, qu, rfl, hpu, hwu, hqu⟩ := isK_ad hJ
    walk_at "rd"
    refine ⟨"tuple", .tup hpv, ?_⟩
    rw [if_neg (by decide)]
    refine ⟨_, .inr hpv, ?_⟩
    rw [if_neg (by simp)]
    refine ⟨_, _, .inr hpv, rfl, "str", .inl rfl, ?_⟩
    rw [if_neg (by decide)]
    refine ⟨fun σ H' => H' = H ∧ σ = [some (.ref pv), some (.ref pu), none], ?_, ?_⟩
    · refine ⟨_, _, .inr hpv, rfl, ?_⟩
      cases hd : x.door with
      | none => exact ite2 (fun z => absurd rfl z) (fun _ => ⟨rfl, rfl⟩)
      | some i =>
        refine ite2 (fun _ => ⟨_, _, .inr hpv, rfl, "int", .inl (by rw [hd]; rfl), ?_⟩) (fun z => absurd (Classical.not_not.mp z) (by simp [itV]))
        rw [if_neg (by decide)]
        refine ⟨_, _, .inr hpv, rfl, "int", .inl (by rw [hd]; rfl), ?_⟩
        rw [if_neg (by decide)]
        exact ⟨rfl, rfl⟩
    rintro σ H' ⟨rfl, rfl⟩
    walk_at "rd"
    refine ⟨_, _, .inr hpv, rfl, _, _, .inr hpv, rfl, by decide, fun pl H1 hn1 s1 hp1 => ⟨⟨_, .of hp1⟩, ?_⟩⟩
    refine loop_list (xs := [otV x.house, otV x.mark]) (fun i σ H2 => H2 = H1 ∧ ∃ v2, σ = [some (.ref pv), some (.ref pu), v2]) ⟨rfl, none, rfl⟩ (fun i σ H2 _ h => h.1 ▸ .of hp1) ?_ ?_
    · rintro i y σ H2 hy ⟨rfl, v2, rfl⟩
      obtain ⟨o, rfl⟩ : ∃ o, y = otV o := by
        have hy := List.mem_of_getElem? hy
        simp only [List.mem_cons, List.not_mem_nil, or_false] at hy
        rcases hy with rfl | rfl <;> exact ⟨_, rfl⟩
      walk_at "rd"
      cases o with
      | none => exact ite2 (fun z => absurd rfl z) (fun _ => ⟨_, rfl⟩)
      | some l =>
        refine ite2 (fun _ => ⟨"str", .inl rfl, ?_⟩) (fun z => absurd (Classical.not_not.mp z) (by simp [otV]))
        rw [if_neg (by decide)]
        exact ⟨_, rfl⟩
    · rintro σ H2 ⟨rfl, v2, rfl⟩
      walk_at "rd"
      refine ⟨_, _, .inr (s1.tup hpv), rfl, _, _, .inr (s1.tup hpu), rfl, x.w, wv, wu, rfl, hwv.mono s1, hwu.mono s1, wf.sg, hn, fun H3 s3 => ⟨true, rfl, ?_⟩⟩
      rw [if_pos rfl]
      have s13 := s1.trans s3
      refine ⟨_, _, .inr (s13.tup hpv), rfl, x.quest, qv, rfl, hqv.mono s13, true, rfl, ?_⟩
      rw [if_pos rfl]
      refine ⟨x.data, x.data, hI.mono s13, hJ.mono s13, wf.shaped, wf.shaped, ?_⟩
      rw [show PyData.eqv x.data x.data = true from (Ad.eqv_iff x x).mpr rfl]
      exact k H3 s13
theorem ok__law_question (g : G K mg) : FnOk P w K mg base CX0 2 g.a__law_question g.fd__law_question ["_law_cell"] sp__law_question := by
  refine g.F__law_question.ok sc__law_question (fun vs H Q E h => ?_) (fun cdv A outer s H vs Q E hr h => ?_)
  · obtain ⟨c, rfl, _⟩ := h; rfl
  · obtain ⟨c, rfl, k⟩ := h
    refine ⟨_, (pss_cons (ps_if (pt_cmpR op_eq (pe_op op_mod (pv 0) pe_int) pe_int (nomark _))
        (pss_one (ps_ret pe_non)) pss_nil)
      (pss_cons (ps_set (i := 1) sc__law_question.nd rfl (Or.inl rfl) (pe_lstS pa_nil))
      (pss_cons (ps_for PassesOwn.never rfl (pi_range1 rfl g.b_range (pa_cons (pe_op op_mod (pe_op op_fdiv (pv 0) pe_int) pe_int) pa_nil)) (pg_name (i := 2) sc__law_question.nd rfl (Or.inl rfl))
      (pss_cons (ps_set (i := 3) sc__law_question.nd rfl (Or.inl rfl) (pe_op (op_addS (K := K)) (pe_op op_fdiv (pv 0) pe_int) (pe_op op_mulU pe_int (pv 2))))
      (pss_cons (ps_set (i := 4) sc__law_question.nd rfl (Or.inl rfl) pe_non)
      (pss_cut (ps_if (pt_cmpR op_gt (pe_op op_mod (pe_op op_fdiv (pv 3) pe_int) pe_int) pe_int (nomark _))
        (pss_one (ps_set (i := 4) sc__law_question.nd rfl (Or.inl rfl) (pe_slice (sl_anyK (K := K) rfl) (pe_call (ok__law_text g) (hr.mono (by decide)) rfl g.m__law_text g.F__law_text.kp g.b__law_text .nil pass0 (pa_cons (pe_op op_fdiv (pv 3) pe_int) (pa_cons pe_int pa_nil))) (po_some (pe_op op_sub (pe_op op_mod (pe_op op_fdiv (pv 3) pe_int) pe_int) pe_int)) po_none))) pss_nil)
      (pss_one (ps_expr (pe_bmK (K := K) rfl PySem.F.plainAttrs_list PySem.F.slot_list_append PySem.F.type_list_append mt_append (pv 1) (pa_cons (pe_tupS (pa_cons (pe_call (ok__law_text g) (hr.mono (by decide)) rfl g.m__law_text g.F__law_text.kp g.b__law_text .nil pass0 (pa_cons (pv 3) (pa_cons pe_int pa_nil))) (pa_cons (pv 4) pa_nil))) pa_nil))))))))
      (pss_one (ps_ret (pe_callTy (call_tupleS (K := K) rfl) rfl g.b_tuple bt_tuple (pa_cons (pv 1) pa_nil))))))), ?_⟩
    walk_at "rd"
    refine ⟨by decide, ite2 (fun _ => k none _ H (fun _ z => by cases z) (Same.refl _) .non) (fun h => ⟨by decide, fun p H1 hn1 s1 hp1 => ⟨⟨by decide, by decide⟩, by decide, by omega, by omega, ?_⟩⟩)⟩
    obtain ⟨m, hm, hm3⟩ : ∃ m : Nat, c / 3 % 4 = (m : Int) ∧ m ≤ 3 := ⟨(c / 3 % 4).toNat, by omega, by omega⟩
    rw [hm, Int.toNat_natCast]
    refine loop_range (fun i σ H' => Same H H' ∧ ∃ (ps : List (List Nat × Option (List Nat))) (ys : List V) (v2 v3 v4 : Option V), σ = [some (.int c), some (.ref p), v2, v3, v4] ∧ ps.length = i ∧ (∀ p ∈ ps, PairOk p ∧ p.1.length ≤ 5 ∧ ∀ v, p.2 = some v → v.length ≤ 6) ∧ H' p = some (.lst ys) ∧ IsTAll H' (ps.map fun p => .tuple [st p.1, oD p.2]) ys) ⟨s1, [], [], none, none, none, rfl, rfl, by simp, hp1, .nil⟩ ?_ ?_
    · rintro i σ H' hi ⟨sm, ps, ys, v2, v3, v4, rfl, hl, hs, hp', hys⟩
      walk_at "rd"
      refine ⟨⟨by decide, by decide⟩, .inl ⟨by decide, by decide⟩, ?_⟩
      generalize c / 12 + 71 * (0 + (i : Int)) = nn
      refine ⟨fun σ H2 => H2 = H' ∧ ∃ o : Option (List Nat), σ = [some (.int c), some (.ref p), some (.int (0 + (i : Int))), some (.int nn), some (otV o)] ∧ ∀ l, o = some l → l.length ≤ 6 ∧ ∀ c ∈ l, isSg c = true, ?_, ?_⟩
      · refine ⟨⟨by decide, by decide⟩, by decide, ite2 (fun h3 => ?_) (fun _ => ⟨rfl, none, rfl, fun _ z => by cases z⟩)⟩
        refine ⟨⟨by decide, by decide⟩, nn / 9, 6, rfl, by decide, by decide, fun l h1 h2 h3' => ?_⟩
        walk_at "rd"
        refine ⟨⟨by decide, by decide⟩, by decide, le_line (by omega), ?_⟩
        have h12 : nn / 3 % 3 - 1 = ((0 : Nat) : Int) ∨ nn / 3 % 3 - 1 = ((1 : Nat) : Int) := by omega
        rcases h12 with e | e
        · rw [e, slice_from]
          exact ⟨some (l.drop 0), rfl, fun l' z => by cases z; exact ⟨by rw [List.length_drop]; omega, fun c hc => h3' c (List.mem_of_mem_drop hc)⟩⟩
        · rw [e, slice_from]
          exact ⟨some (l.drop 1), rfl, fun l' z => by cases z; exact ⟨by rw [List.length_drop]; omega, fun c hc => h3' c (List.mem_of_mem_drop hc)⟩⟩
      · rintro σ H2 ⟨rfl, o, rfl, ho⟩
        walk_at "rd"
        refine ⟨⟨_, .of hp'⟩, nn, 5, rfl, by decide, by decide, fun l h1 h2 h3 => ⟨by decide, fun t H3 hn3 s3 ht => ?_⟩⟩
        have hyl := hys.length
        rw [List.length_map] at hyl
        refine ⟨ys, s3 _ _ hp', le_line (by omega), same_over hn1 (sm.trans s3), ps ++ [(l, o)], ys ++ [.ref t], _, _, _, ⟨rfl, rfl, rfl⟩, by rw [List.length_append, List.length_singleton, hl], fun e he => ?_, upd_same, ?_⟩
        · rcases List.mem_append.mp he with y | y
          · exact hs e y
          · rw [List.mem_singleton.mp y]
            exact ⟨⟨⟨h1, h3⟩, fun v hv => (ho v hv).2⟩, by show l.length ≤ 5; omega, fun v hv => (ho v hv).1⟩
        · rw [List.map_append]
          have st3 : SameT H3 (upd H3 p (.lst (ys ++ [.ref t]))) := sameT_lst (s3 _ _ hp')
          refine ((hys.mono s3.toT).mono st3).snoc (.tup (st3 _ _ ht) (.cons (.str _) (.cons (is_oD o) .nil)))
    · rintro σ H' ⟨sm, ps, ys, v2, v3, v4, rfl, hl, hs, hp', hys⟩
      walk_at "rd"
      refine ⟨_, .inl (.of hp'), fun q H2 s2 hq => k (some ps) _ H2 (fun ps' z => by cases z; exact ⟨by omega, hs⟩) (sm.trans s2) (.tup hq (hys.mono s2.toT))⟩
theorem ok__law_mark (g : G K mg) : FnOk P w K mg base CX0 2 g.a__law_mark g.fd__law_mark ["_law_cell"] sp__law_mark := by
  refine g.F__law_mark.ok sc__law_mark (fun vs H Q E h => ?_) (fun cdv A outer s H vs Q E hr h => ?_)
  · obtain ⟨c, rfl, _⟩ := h; rfl
  · obtain ⟨c, rfl, k⟩ := h
    refine ⟨_, (pss_cons (ps_if (pt_cmpR op_eq (pe_op op_mod (pv 0) pe_int) pe_int (nomark _))
        (pss_one (ps_ret pe_non)) pss_nil)
      (pss_one (ps_ret (pe_slice (sl_anyK (K := K) rfl) (pe_call (ok__law_text g) (hr.mono (by decide)) rfl g.m__law_text g.F__law_text.kp g.b__law_text .nil pass0 (pa_cons (pe_op op_fdiv (pv 0) pe_int) (pa_cons pe_int pa_nil))) (po_some (pe_op op_sub (pe_op op_mod (pv 0) pe_int) pe_int)) po_none)))), ?_⟩
    walk_at "rd"
    refine ⟨by decide, ite2 (fun _ => k none (fun _ z => by cases z)) (fun h => ⟨⟨by decide, by decide⟩, c / 3, 7, rfl, by decide, by decide, fun l h1 h2 h3 => ⟨by decide, ?_⟩⟩)⟩
    walk_at "rd"
    refine ⟨le_line (by omega), ?_⟩
    have h12 : c % 3 - 1 = ((0 : Nat) : Int) ∨ c % 3 - 1 = ((1 : Nat) : Int) := by omega
    rcases h12 with e | e
    · rw [e, slice_from]
      exact k (some (l.drop 0)) (fun l' z => by cases z; exact ⟨by rw [List.length_drop]; omega, fun c hc => h3 c (List.mem_of_mem_drop hc)⟩)
    · rw [e, slice_from]
      exact k (some (l.drop 1)) (fun l' z => by cases z; exact ⟨by rw [List.length_drop]; omega, fun c hc => h3 c (List.mem_of_mem_drop hc)⟩)
theorem ok__law_holder (g : G K mg) : FnOk P w K mg base CX0 2 g.a__law_holder g.fd__law_holder ["_law_way_here"] (sp__law_holder K) := by
  refine g.F__law_holder.ok sc__law_holder (fun vs H Q E h => ?_) (fun cdv A outer s H vs Q E hr h => ?_)
  · obtain ⟨w, v, rfl, _⟩ := h; rfl
  · obtain ⟨w, v, rfl, hI, hs, hn, k⟩ := h
    refine ⟨_, (pss_cons (ps_asg (pe_call (ok__law_gone g) (hr.mono (by decide)) rfl g.m__law_gone g.F__law_gone.kp g.b__law_gone .nil pass0 (pa_cons (pv 0) pa_nil)) (pg_tupK (n := 3) (K := K) rfl rfl (pgs_cons (pg_name (i := 1) sc__law_holder.nd rfl (Or.inl rfl)) (pgs_cons (pg_name (i := 2) sc__law_holder.nd rfl (Or.inl rfl)) (pgs_cons (pg_name (i := 3) sc__law_holder.nd rfl (Or.inl rfl)) pgs_nil)))))
      (pss_cons (ps_if (pt_val (pv 3))
        (pss_one (ps_ret (pv 2))) pss_nil)
      (pss_one (ps_ret (pe_slice sl_tupA (pv 2) po_none (po_some (pe_op op_sub (pe_callB (call_lenK (K := K) rfl) rfl g.b_len PySem.boot_len (pa_cons (pv 2) pa_nil)) pe_int))))))), ?_⟩
    walk_at "rd"
    refine ⟨w, v, rfl, hI, hs, hn, fun u H1 s1 hu => ?_⟩
    obtain ⟨pw, y0, y1, y2, rfl, hw, j0, j1, j2⟩ := isT3 (show IsT H1 (.tuple [.bool (goneV w).1, .tuple ((goneV w).2.1.map st), .bool (goneV w).2.2]) u from hu)
    cases isT_bool j0
    cases isT_bool j2
    obtain ⟨ps, zs, rfl, hps, r⟩ := isT_tup j1
    cases isT_steps r
    refine ⟨pw, _, rfl, .of hw, rfl, _, _, rfl, _, _, rfl, _, _, rfl, rfl, _, rfl, ?_⟩
    cases he : (goneV w).2.2 with
    | true =>
      rw [if_pos rfl]
      refine k ps H1 s1 ?_
      rw [holder, if_pos he]; exact hps
    | false =>
      rw [if_neg (by decide)]
      walk_at "rd"
      refine ⟨_, .inr (.of hps), ?_⟩
      refine ⟨_, hps, fun p2 H2 s2 hp2 => k p2 H2 (s1.trans s2) ?_⟩
      rw [hp2, List.length_map, cutV_map, cutA_init, holder, if_neg (by rw [he]; decide)]
theorem ok_gone (g : G K mg) : FnOk P w K mg base CX0 3 g.a_gone g.fd_gone ["way"] (sp_gone K) := by
  refine g.F_gone.ok sc_gone (fun vs H Q E h => ?_) (fun cdv A outer s H vs Q E hr h => ?_)
  · obtain ⟨w, v, rfl, _⟩ := h; rfl
  · obtain ⟨⟨rt, ss, en⟩, v, rfl, hI, hn, k⟩ := h
    refine ⟨_, (pss_cons (ps_set (i := 1) sc_gone.nd rfl (Or.inl rfl) (pe_ix (ix_seqK (K := K) rfl) (pv 0) (pe_glob (v := k_STEPS) rfl g.c_STEPS ⟨_, rfl⟩) (fun _ _ => rfl)))
      (pss_cons (ps_if (pt_cmpR op_eq (pe_callB (call_lenK (K := K) rfl) rfl g.b_len PySem.boot_len (pa_cons (pv 1) pa_nil)) pe_int (nomark _))
        (pss_one (ps_ret (pv 0))) pss_nil)
      (pss_cons (ps_set (i := 2) sc_gone.nd rfl (Or.inl rfl) (pe_call (ok_steps_left g) (hr.mono (by decide)) rfl g.m_steps_left g.F_steps_left.kp g.b_steps_left .nil pass0 (pa_cons (pv 1) (pa_cons (pe_ix (ix_seqK (K := K) rfl) (pv 0) (pe_glob (v := k_ROOTED) rfl g.c_ROOTED ⟨_, rfl⟩) (fun _ _ => rfl)) pa_nil))))
      (pss_cons (ps_if (pt_cmpR op_gt (pe_callB (call_lenK (K := K) rfl) rfl g.b_len PySem.boot_len (pa_cons (pv 2) pa_nil)) pe_int (nomark _))
        (pss_one (ps_ret (pe_tupS (pa_cons (pe_ix (ix_seqK (K := K) rfl) (pv 0) (pe_glob (v := k_ROOTED) rfl g.c_ROOTED ⟨_, rfl⟩) (fun _ _ => rfl)) (pa_cons (pv 2) (pa_cons (pe_or (pe_ix (ix_seqK (K := K) rfl) (pv 0) (pe_glob (v := k_ENDS) rfl g.c_ENDS ⟨_, rfl⟩) (fun _ _ => rfl)) (pe_one (pe_call (ok_is_dot g) (hr.mono (by decide)) rfl g.m_is_dot g.F_is_dot.kp g.b_is_dot .nil pass0 (pa_cons (pe_ix (ix_seqK (K := K) rfl) (pv 1) (pe_un un_neg pe_int) (fun _ _ => rfl)) pa_nil)))) pa_nil)))))) pss_nil)
      (pss_one (ps_ret (pe_ifExp (pt_val (pe_ix (ix_seqK (K := K) rfl) (pv 0) (pe_glob (v := k_ROOTED) rfl g.c_ROOTED ⟨_, rfl⟩) (fun _ _ => rfl))) (pe_tupS (pa_cons pe_bl (pa_cons (pe_tupS pa_nil) (pa_cons pe_bl pa_nil)))) (pe_tupS (pa_cons pe_bl (pa_cons (pe_tupS (pa_cons (pe_glob (v := k_STAY) rfl g.c_STAY ⟨_, rfl⟩) pa_nil)) (pa_cons pe_bl pa_nil))))))))))), ?_⟩
    obtain ⟨pw, ps, rfl, hw, hps⟩ := isK_way (r := rt) (e := en) (ss := ss) hI
    dsimp only at hn
    walk_at "rd"
    refine ⟨_, _, .inr hw, rfl, ?_⟩
    walk_at "rd"
    refine ⟨_, .inr hps, ?_⟩
    rw [List.length_map]
    by_cases h0 : ss = []
    · subst h0
      refine ite2 (fun _ => k _ H (Same.refl _) ?_) (fun z => absurd rfl z)
      rw [show goneV (rt, [], en) = (rt, [], en) by simp [goneV, goneW]]
      exact hI
    have hp0 : 0 < ss.length := List.length_pos_iff.mpr h0
    refine ite2 (fun z => absurd z (by omega)) (fun _ => ?_)
    refine ⟨_, _, .inr hw, rfl, ?_⟩
    refine ⟨ps, ss, rt, rfl, hps, hn, fun p H1 s1 hp1 => ?_⟩
    have hw1 := s1.tup hw
    refine ⟨_, .inr (.of hp1), ?_⟩
    rw [List.length_map]
    walk_at "rd"
    by_cases h1 : goneS rt ss = []
    · refine ite2 (fun z => by rw [h1] at z; simp at z) (fun _ => ?_)
      refine ⟨_, _, .inr hw1, rfl, rt, rfl, ?_⟩
      cases rt with
      | true =>
        rw [if_pos rfl]
        refine ⟨by decide, fun p7 H7 hn7 s7 hp7 => ⟨by decide, fun p8 H8 hn8 s8 hp8 => k _ H8 ((s1.trans s7).trans s8) ?_⟩⟩
        rw [show goneV (true, ss, en) = (true, [], true) by simp [goneV, goneW, h0, h1]]
        exact wayK (.of hp8) (.of (s8 _ _ hp7))
      | false =>
        rw [if_neg (by decide)]
        refine ⟨by decide, fun p7 H7 hn7 s7 hp7 => ⟨by decide, fun p8 H8 hn8 s8 hp8 => k _ H8 ((s1.trans s7).trans s8) ?_⟩⟩
        rw [show goneV (false, ss, en) = (false, [sStay], true) by simp [goneV, goneW, h0, h1]]
        rw [kst] at hp7
        exact wayK (.of hp8) (.of (s8 _ _ hp7))
    · have hq0 : 0 < (goneS rt ss).length := List.length_pos_iff.mpr h1
      have hW : goneV (rt, ss, en) = (rt, goneS rt ss, en || lastDot ss) := by simp [goneV, goneW, h0, h1]
      refine ite2 (fun _ => ?_) (fun z => absurd (show (0 : Int) < ((goneS rt ss).length : Int) by omega) z)
      refine ⟨_, _, .inr hw1, rfl, _, _, .inr hw1, rfl, en, rfl, ?_⟩
      refine ite2 (fun he => ⟨by decide, fun p8 H8 hn8 s8 hp8 => k _ H8 (s1.trans s8) ?_⟩) (fun he => ?_)
      · rw [hW, he, Bool.true_or]
        exact wayK (.of hp8) (.of (s8 _ _ hp1))
      · have he : en = false := by simpa using he
        obtain ⟨s, hls⟩ : ∃ s, ss.getLast? = some s := by
          cases hl : ss.getLast? with
          | none => exact absurd (List.getLast?_eq_none_iff.mp hl) h0
          | some s => exact ⟨s, rfl⟩
        have hld : lastDot ss = isDot s := by unfold lastDot; rw [hls]
        refine ⟨_, _, .inr (s1.tup hps), atI_last _ hls, s, rfl, by decide, fun p8 H8 hn8 s8 hp8 => k _ H8 (s1.trans s8) ?_⟩
        rw [hW, he, Bool.false_or, hld]
        exact wayK (.of hp8) (.of (s8 _ _ hp1))
theorem ok__law_way (g : G K mg) : FnOk P w K mg base CX0 3 g.a__law_way g.fd__law_way ["_law_cells", "_law_rooted", "_law_ends"] (sp__law_way K) := by
  refine g.F__law_way.ok sc__law_way (fun vs H Q E h => ?_) (fun cdv A outer s H vs Q E hr h => ?_)
  · obtain ⟨pc, cs, r, e, rfl, _⟩ := h; rfl
  · obtain ⟨pc, cs, r, e, rfl, hS, hn, k⟩ := h
    refine ⟨_, (pss_cons (ps_set (i := 3) sc__law_way.nd rfl (Or.inl rfl) (pe_callTy (call_tupleS (K := K) rfl) rfl g.b_tuple bt_tuple (pa_cons (pe_comp (fx := []) (fr := []) rfl rfl (by decide +kernel) rfl (by decide +kernel) rfl (by decide +kernel) rfl .nil rfl (pi_listK (K := K) rfl (pv 0)) (fun _ _ _ => pf_nil) (fun _ _ _ => (pe_call (ok__law_step g) (hr.mono (by decide)) rfl g.m__law_step g.F__law_step.kp g.b__law_step .nil pass0 (pa_cons (pv 0) pa_nil)))) pa_nil)))
      (pss_cons (ps_if (pt_cmpR (op_eqD hr.units) (pv 3) (pe_tupS pa_nil) (nomark _))
        (pss_one (ps_ret (pe_tupS (pa_cons (pv 1) (pa_cons (pe_tupS pa_nil) (pa_cons (pv 1) pa_nil)))))) pss_nil)
      (pss_one (ps_ret (pe_tupS (pa_cons (pv 1) (pa_cons (pv 3) (pa_cons (pv 2) pa_nil)))))))), ?_⟩
    walk_at "rd"
    refine ⟨⟨_, hS⟩, fun p1 hn1 => comp_steps hS hn hn1 (fun ss H1 s1 hl hs hp1 => ?_)⟩
    walk_at "rd"
    refine ⟨_, .inl (.of hp1), fun p2 H2 s2 hp2 => ⟨by decide, fun p3 H3 hn3 s3 hp3 => ?_⟩⟩
    have sm := (s1.trans s2).trans s3
    have hI2 : IsT H3 (.tuple (ss.map st)) (.ref p2) := .tup (s3 _ _ hp2) (isTAll_sV _)
    refine ⟨.tuple (ss.map st), .tuple [], hI2.is, .tup hp3 .nil, shaped_steps (fun s h => (hs s h).1.2), by decide, _, rfl, ?_⟩
    rw [eqv_nil]
    by_cases h0 : ss = []
    · refine ite2 (fun _ => ?_) (fun z => absurd (by rw [h0]; rfl) z)
      refine ⟨by decide, fun p4 H4 hn4 s4 hp4 => ⟨by decide, fun p5 H5 hn5 s5 hp5 => k ss r _ H5 hl hs (fun _ => rfl) ((sm.trans s4).trans s5) ?_⟩⟩
      rw [h0]
      exact .tup hp5 (.cons (.bl _) (.cons (.tup (s5 _ _ hp4) .nil) (.cons (.bl _) .nil)))
    · refine ite2 (fun z => absurd (by simpa using z) h0) (fun _ => ?_)
      refine ⟨by decide, fun p5 H5 hn5 s5 hp5 => k ss e _ H5 hl hs (fun z => absurd z h0) (sm.trans s5) ?_⟩
      exact .tup hp5 (.cons (.bl _) (.cons (hI2.mono s5.toT) (.cons (.bl _) .nil)))
theorem ok__law_way_between (g : G K mg) : FnOk P w K mg base CX0 3 g.a__law_way_between g.fd__law_way_between ["_law_old", "_law_new"] (sp__law_way_between K) := by
  refine g.F__law_way_between.ok sc__law_way_between (fun vs H Q E h => ?_) (fun cdv A outer s H vs Q E hr h => ?_)
  · obtain ⟨b, g, vb, vg, rfl, _⟩ := h; rfl
  · obtain ⟨b, g', vb, vg, rfl, hB, hG, eb, eg, ab, ag, ne, lb, lg, k⟩ := h
    refine ⟨_, (pss_cut (ps_set (i := 2) sc__law_way_between.nd rfl (Or.inl rfl) (pe_callTy (call_listS (K := K) rfl) rfl g.b_list bt_list (pa_cons (pe_call (ok__law_holder g) (hr.mono (by decide)) rfl g.m__law_holder g.F__law_holder.kp g.b__law_holder .nil pass0 (pa_cons (pv 0) pa_nil)) pa_nil)))
      (pss_cut (ps_set (i := 3) sc__law_way_between.nd rfl (Or.inl rfl) (pe_callTy (call_listS (K := K) rfl) rfl g.b_list bt_list (pa_cons (pe_call (ok__law_holder g) (hr.mono (by decide)) rfl g.m__law_holder g.F__law_holder.kp g.b__law_holder .nil pass0 (pa_cons (pv 1) pa_nil)) pa_nil)))
      (pss_cut (ps_while PassesOwn.never (PW.pt (pw_and (pt_cmpR (op_neD hr.units) (pv 2) (pe_lstS pa_nil) (nomark _)) (pw_and (pt_cmpR (op_neD hr.units) (pv 3) (pe_lstS pa_nil) (nomark _)) (pw_and1 (pt_cmpR op_eq (pe_ix (ix_seqK (K := K) rfl) (pv 2) pe_int (fun _ _ => rfl)) (pe_ix (ix_seqK (K := K) rfl) (pv 3) pe_int (fun _ _ => rfl)) (nomark _))))))
      (pss_cons (ps_expr (pe_bmK (K := K) rfl PySem.F.plainAttrs_list PySem.F.slot_list_pop PySem.F.type_list_pop mt_popAt (pv 2) (pa_cons pe_int pa_nil)))
      (pss_one (ps_expr (pe_bmK (K := K) rfl PySem.F.plainAttrs_list PySem.F.slot_list_pop PySem.F.type_list_pop mt_popAt (pv 3) (pa_cons pe_int pa_nil))))))
      (pss_cut (ps_set (i := 4) sc__law_way_between.nd rfl (Or.inl rfl) (pe_op (op_addS (K := K)) (pe_comp (fx := []) (fr := []) rfl rfl (by decide +kernel) rfl (by decide +kernel) rfl (by decide +kernel) rfl .nil rfl (pi_listK (K := K) rfl (pv 2)) (fun _ _ _ => pf_nil) (fun _ _ _ => pe_str)) (pv 3)))
      (pss_cut (ps_if (pt_not (pt_val (pe_ix (ix_seqK (K := K) rfl) (pv 1) pe_int (fun _ _ => rfl))))
        (pss_one (ps_expr (pe_bmK (K := K) rfl PySem.F.plainAttrs_list PySem.F.slot_list_append PySem.F.type_list_append mt_append (pv 4) (pa_cons (pe_ix (ix_seqK (K := K) rfl) (pe_ix (ix_seqK (K := K) rfl) (pv 1) pe_int (fun _ _ => rfl)) (pe_un un_neg pe_int) (fun _ _ => rfl)) pa_nil)))) pss_nil)
      (pss_cut (ps_if (pt_cmpR (op_eqD hr.units) (pv 4) (pe_lstS pa_nil) (nomark _))
        (pss_one (ps_set (i := 4) sc__law_way_between.nd rfl (Or.inl rfl) (pe_lstS (pa_cons pe_str pa_nil)))) pss_nil)
      (pss_one (ps_ret (pe_tupS (pa_cons pe_bl (pa_cons (pe_callTy (call_tupleS (K := K) rfl) rfl g.b_tuple bt_tuple (pa_cons (pv 4) pa_nil)) (pa_cons (pe_ix (ix_seqK (K := K) rfl) (pv 1) pe_int (fun _ _ => rfl)) pa_nil)))))))))))), ?_⟩
    obtain ⟨pg, qg, rfl, hpg, hqg⟩ := isT_way (r := g'.1) (e := g'.2.2) (ss := g'.2.1) hG
    have hhb := holder_len b
    have hhg := holder_len g'
    have hc1 := comm_le (holder b) (holder g')
    have hc2 := comm_le2 (holder b) (holder g')
    have hl1 := lastW_len g'
    have sgH : ∀ w : Way, AllSg w.2.1 → AllSg (holder w) := fun w hw s hs => by
      unfold holder at hs
      split at hs
      · exact goneV_sg hw s hs
      · exact goneV_sg hw s (List.dropLast_subset _ hs)
    have d1 : Str.ofString ".." = ⟨sUp.toArray⟩ := by decide +kernel
    have d2 : Str.ofString "." = ⟨sStay.toArray⟩ := by decide +kernel
    walk_at "rd"
    refine ⟨fun σ H1 => Same H H1 ∧ ∃ ph : Addr, H ph = none ∧ H1 ph = some (.lst ((holder b).map sV)) ∧ σ = [some vb, some (.ref pg), some (.ref ph), none, none], ?_, ?_⟩
    · refine ⟨b, vb, rfl, hB, ab, by omega, fun p1 H1 s1 hp1 => ?_⟩
      walk_at "rd"
      exact ⟨_, .inr (.of hp1), fun ph H2 hn2 s2 hph => ⟨s1.trans s2, ph, s1.free hn2, hph, rfl⟩⟩
    rintro σ H1 ⟨s1, ph, fh, hph, rfl⟩
    walk_at "rd"
    refine ⟨fun σ H2 => Same H1 H2 ∧ ∃ pt : Addr, H1 pt = none ∧ H2 pt = some (.lst ((holder g').map sV)) ∧ σ = [some vb, some (.ref pg), some (.ref ph), some (.ref pt), none], ?_, ?_⟩
    · refine ⟨g', _, rfl, hG.mono s1.toT, ag, by omega, fun p1 H2 s2 hp1 => ?_⟩
      walk_at "rd"
      exact ⟨_, .inr (.of hp1), fun pt H3 hn3 s3 hpt => ⟨s2.trans s3, pt, s2.free hn3, hpt, rfl⟩⟩
    rintro σ H2 ⟨s2, pt, ft, hpt, rfl⟩
    have hph2 := s2 _ _ hph
    have npt : ph ≠ pt := ne_of_none hph ft
    have ftH : H pt = none := s1.free ft
    refine ⟨fun σ H3 => Same H H3 ∧ H3 ph = some (.lst (((holder b).drop (comm (holder b) (holder g'))).map sV)) ∧ H3 pt = some (.lst (((holder g').drop (comm (holder b) (holder g'))).map sV)) ∧ σ = [some vb, some (.ref pg), some (.ref ph), some (.ref pt), none], ?_, ?_⟩
    · refine while_W (fun m σ H3 => ∃ i : Nat, m = (holder b).length - i ∧ i ≤ comm (holder b) (holder g') ∧ Same H H3 ∧ H3 ph = some (.lst (((holder b).drop i).map sV)) ∧ H3 pt = some (.lst (((holder g').drop i).map sV)) ∧ σ = [some vb, some (.ref pg), some (.ref ph), some (.ref pt), none]) (holder b).length ⟨0, rfl, Nat.zero_le _, s1.trans s2, hph2, hpt, rfl⟩ ?_
      rintro m σ H3 ⟨i, rfl, hi, s3, hh3, ht3, rfl⟩
      have ha := comm_at hi
      walk_at "rd"
      have stop : ¬ i < comm (holder b) (holder g') → ∀ He, Same H3 He → (Same H He ∧ He ph = some (.lst (((holder b).drop (comm (holder b) (holder g'))).map sV)) ∧ He pt = some (.lst (((holder g').drop (comm (holder b) (holder g'))).map sV))) := fun z He se => by
        rw [show comm (holder b) (holder g') = i by omega]
        exact ⟨s3.trans se, se _ _ hh3, se _ _ ht3⟩
      have sgb : ∀ s ∈ (holder b).drop i, ∀ c ∈ s, isSg c = true := fun s hs => sgH b ab s (List.mem_of_mem_drop hs)
      have sgg : ∀ s ∈ (holder g').drop i, ∀ c ∈ s, isSg c = true := fun s hs => sgH g' ag s (List.mem_of_mem_drop hs)
      refine ⟨by decide, fun p4 H4 hn4 s4 hp4 => ?_⟩
      refine ⟨.list (((holder b).drop i).map st), .list [], .lst (s4 _ _ hh3) (isAll_sV _), .lst hp4 .nil, shaped_list sgb, by decide, _, rfl, ?_⟩
      rw [eqv_nilL]
      by_cases h1 : i < (holder b).length
      rotate_left
      · refine ite2 (fun z => ?_) (fun _ => stop (by omega) H4 s4)
        rw [List.drop_eq_nil_of_le (by omega)] at z
        exact absurd z (by decide)
      obtain ⟨x, hx⟩ : ∃ x, (holder b)[i]? = some x := ⟨(holder b)[i], by simp [h1]⟩
      have ex := drop_at hx
      refine ite2 (fun _ => ?_) (fun z => absurd (by rw [ex]; rfl) z)
      refine ⟨by decide, fun p5 H5 hn5 s5 hp5 => ?_⟩
      have s35 := s4.trans s5
      refine ⟨.list (((holder g').drop i).map st), .list [], .lst (s35 _ _ ht3) (isAll_sV _), .lst hp5 .nil, shaped_list sgg, by decide, _, rfl, ?_⟩
      rw [eqv_nilL]
      by_cases h2 : i < (holder g').length
      rotate_left
      · refine ite2 (fun z => ?_) (fun _ => stop (by omega) H5 s35)
        rw [List.drop_eq_nil_of_le (by omega)] at z
        exact absurd z (by decide)
      obtain ⟨y, hy⟩ : ∃ y, (holder g')[i]? = some y := ⟨(holder g')[i], by simp [h2]⟩
      have ey := drop_at hy
      refine ite2 (fun _ => ?_) (fun z => absurd (by rw [ey]; rfl) z)
      have hh5 := s35 _ _ hh3
      have ht5 := s35 _ _ ht3
      rw [ex] at hh5
      rw [ey] at ht5
      refine ⟨_, _, .inl (.of hh5), atI_0, _, _, .inl (.of ht5), atI_0, ?_⟩
      walk_at "rd"
      by_cases e : x = y
      rotate_left
      · refine ite2 (fun z => absurd (mk_inj.mp z) e) (fun _ => stop (fun z => ?_) H5 s35)
        obtain ⟨s, f1, f2⟩ := ha.mp z
        rw [hx] at f1; rw [hy] at f2
        exact e (by rw [Option.some.inj f1, Option.some.inj f2])
      refine ite2 (fun _ => ?_) (fun z => absurd (by rw [e]) z)
      have hi2 := ha.mpr ⟨x, hx, by rw [hy, e]⟩
      refine ⟨fun σ' H' => Same H H' ∧ H' ph = some (.lst (((holder b).drop (i + 1)).map sV)) ∧ H' pt = some (.lst (((holder g').drop (i + 1)).map sV)) ∧ σ' = [some vb, some (.ref pg), some (.ref ph), some (.ref pt), none], fun σ' H' z => ⟨(holder b).length - (i + 1), by omega, i + 1, rfl, hi2, z⟩, ⟨_, .of hh5⟩, _, 0, _, hh5, by decide, by decide, by simp [seqIndex?], rfl, ?_⟩
      refine ⟨⟨_, .of (by rw [upd_ne npt.symm]; exact ht5)⟩, _, 0, _, by rw [upd_ne npt.symm]; exact ht5, by decide, by decide, by simp [seqIndex?], rfl, ?_⟩
      exact ⟨same_over ftH (same_over fh (s3.trans s35)), by rw [upd_ne npt, upd_same]; rfl, by rw [upd_same]; rfl, rfl⟩
    rintro σ H3 ⟨s3, hh3, ht3, rfl⟩
    walk_at "rd"
    refine ⟨fun σ H4 => Same H H4 ∧ ∃ ps : Addr, H ps = none ∧ H4 ps = some (.lst ((List.replicate ((holder b).length - comm (holder b) (holder g')) sUp ++ (holder g').drop (comm (holder b) (holder g'))).map sV)) ∧ σ = [some vb, some (.ref pg), some (.ref ph), some (.ref pt), some (.ref ps)], ?_, ?_⟩
    · refine ⟨⟨_, .of hh3⟩, fun p4 hn4 => ?_⟩
      refine comp_list (.of hh3) (by rw [List.length_map]; exact le_line (by rw [List.length_drop]; omega)) hn4 (fun _ => sV sUp) (fun x hx H' R sm hR => ?_) (fun H4 s4 hp4 => ?_)
      · rw [d1]
        exact hR H' (Same.refl _)
      · rw [List.map_const', List.length_map, List.length_drop] at hp4
        refine .inl ⟨_, _, hp4, s4 _ _ ht3, le_line (by simp; omega), fun p5 H5 hn5 s5 hp5 => ⟨(s3.trans s4).trans s5, p5, (s3.trans s4).free hn5, ?_, rfl⟩⟩
        rw [hp5, List.map_append]
        simp
    rintro σ H4 ⟨s4, ps, fs, hps, rfl⟩
    walk_at "rd"
    refine ⟨fun σ H5 => Same H H5 ∧ H5 ps = some (.lst ((betw0 b g').map sV)) ∧ σ = [some vb, some (.ref pg), some (.ref ph), some (.ref pt), some (.ref ps)], ?_, ?_⟩
    · refine ⟨_, _, .inr (.of (s4 _ _ hpg)), rfl, _, rfl, ?_⟩
      cases he : g'.2.2 with
      | true =>
        rw [if_neg (by decide)]
        refine ⟨s4, ?_, rfl⟩
        rw [betw0, lastW, eg, if_pos he, List.append_nil]; exact hps
      | false =>
        rw [if_pos rfl]
        obtain ⟨x, hx⟩ : ∃ x, g'.2.1.getLast? = some x := by
          cases hl : g'.2.1.getLast? with
          | none => exact absurd (List.getLast?_eq_none_iff.mp hl) (ne he)
          | some x => exact ⟨x, rfl⟩
        refine ⟨⟨_, .of hps⟩, _, _, .inr (.of (s4 _ _ hpg)), rfl, ?_⟩
        walk_at "rd"
        refine ⟨_, _, .inr (.of (s4 _ _ hqg)), atI_last _ hx, ?_⟩
        refine ⟨_, hps, le_line (by simp; omega), same_over fs s4, ?_⟩
        rw [upd_same, betw0, lastW, eg, if_neg (by rw [he]; decide), List.map_append]
        obtain ⟨pre, hpre⟩ := List.getLast?_eq_some_iff.mp hx
        rw [hpre]
        simp
    rintro σ H5 ⟨s5, hps5, rfl⟩
    have hsb : ∀ s ∈ betw0 b g', ∀ c ∈ s, isSg c = true := fun s hs => by
      unfold betw0 at hs
      rcases List.mem_append.mp hs with z | z
      · rcases List.mem_append.mp z with z | z
        · rw [(List.mem_replicate.mp z).2]; decide
        · exact sgH g' ag s (List.mem_of_mem_drop z)
      · unfold lastW at z
        split at z
        · cases z
        · exact goneV_sg ag s (List.mem_of_mem_drop z)
    walk_at "rd"
    refine ⟨fun σ H6 => Same H H6 ∧ ∃ pe : Addr, H6 pe = some (.lst ((betw b g').map sV)) ∧ σ = [some vb, some (.ref pg), some (.ref ph), some (.ref pt), some (.ref pe)], ?_, ?_⟩
    · refine ⟨by decide, fun p6 H6 hn6 s6 hp6 => ?_⟩
      refine ⟨.list ((betw0 b g').map st), .list [], .lst (s6 _ _ hps5) (isAll_sV _), .lst hp6 .nil, shaped_list hsb, by decide, _, rfl, ?_⟩
      rw [eqv_nilL]
      by_cases h0 : betw0 b g' = []
      · refine ite2 (fun _ => ⟨by decide, fun p7 H7 hn7 s7 hp7 => ⟨(s5.trans s6).trans s7, p7, ?_, rfl⟩⟩) (fun z => absurd (by rw [h0]; rfl) z)
        rw [hp7, d2, betw, if_pos h0]; rfl
      · refine ite2 (fun z => absurd (by simpa using z) h0) (fun _ => ⟨s5.trans s6, ps, ?_, rfl⟩)
        rw [betw, if_neg h0]; exact s6 _ _ hps5
    rintro σ H6 ⟨s6, pe, hpe, rfl⟩
    walk_at "rd"
    refine ⟨_, .inl (.of hpe), fun p7 H7 s7 hp7 => ⟨_, _, .inr (.of ((s6.trans s7) _ _ hpg)), rfl, by decide, fun p8 H8 hn8 s8 hp8 => k _ H8 ((s6.trans s7).trans s8) ?_⟩⟩
    exact wayT' hp8 (s8 _ _ hp7)
theorem ok_with_way_gone (g : G K mg) : FnOk P w K mg base CX0 4 g.a_with_way_gone g.fd_with_way_gone ["address"] (sp_with_way_gone K) := by
  refine g.F_with_way_gone.ok sc_with_way_gone (fun vs H Q E h => ?_) (fun cdv A outer s H vs Q E hr h => ?_)
  · obtain ⟨x, v, rfl, _⟩ := h; rfl
  · obtain ⟨x, v, rfl, hI, hn, k⟩ := h
    refine ⟨_, (pss_one (ps_ret (pe_op (op_catX (K := K) rfl) (pe_op (op_catX (K := K) rfl) (pe_slice (sl_tupX (K := K) rfl) (pv 0) po_none (po_some (pe_glob (v := k_WAY) rfl g.c_WAY ⟨_, rfl⟩))) (pe_tupS (pa_cons (pe_call (ok_gone g) (hr.mono (by decide)) rfl g.m_gone g.F_gone.kp g.b_gone .nil pass0 (pa_cons (pe_ix (ix_seqK (K := K) rfl) (pv 0) (pe_glob (v := k_WAY) rfl g.c_WAY ⟨_, rfl⟩) (fun _ _ => rfl)) pa_nil)) pa_nil))) (pe_slice (sl_tupX (K := K) rfl) (pv 0) (po_some (pe_glob (v := k_QUESTION) rfl g.c_QUESTION ⟨_, rfl⟩)) po_none)))), ?_⟩
    obtain ⟨p, w, q, rfl, hp, hw, hq⟩ := isK_ad hI
    walk_at "rd"
    refine ⟨_, hp, fun p1 H1 s1 hp1 => ⟨_, _, .inr (s1.tup hp), rfl, ?_⟩⟩
    refine ⟨x.w, w, rfl, hw.mono s1, hn, fun u H2 s2 hu => ⟨by decide, fun p3 H3 hn3 s3 hp3 => ⟨_, _, (s2.trans s3).tup hp1, .of hp3, (show 4 ≤ sizeLine by decide), fun p4 H4 s4 hp4 => ⟨_, (((s1.trans s2).trans s3).trans s4).tup hp, fun p5 H5 s5 hp5 => ⟨_, _, s5.tup hp4, hp5, (show 6 ≤ sizeLine by decide), fun p6 H6 s6 hp6 => ?_⟩⟩⟩⟩⟩
    have sm : Same H H6 := ((((s1.trans s2).trans s3).trans s4).trans s5).trans s6
    exact k _ H6 sm (adK (x := x.gone) hp6 (hu.mono (((s3.trans s4).trans s5).trans s6)) (hq.mono sm))
theorem ok_holder (g : G K mg) : FnOk P w K mg base CX0 4 g.a_holder g.fd_holder ["way"] (sp_holder K) := by
  refine g.F_holder.ok sc_holder (fun vs H Q E h => ?_) (fun cdv A outer s H vs Q E hr h => ?_)
  · obtain ⟨w, v, rfl, _⟩ := h; rfl
  · obtain ⟨w, v, rfl, hI, hn, k⟩ := h
    refine ⟨_, (pss_cons (ps_set (i := 1) sc_holder.nd rfl (Or.inl rfl) (pe_call (ok_gone g) (hr.mono (by decide)) rfl g.m_gone g.F_gone.kp g.b_gone .nil pass0 (pa_cons (pv 0) pa_nil)))
      (pss_one (ps_ret (pe_ifExp (pt_val (pe_ix (ix_seqK (K := K) rfl) (pv 1) (pe_glob (v := k_ENDS) rfl g.c_ENDS ⟨_, rfl⟩) (fun _ _ => rfl))) (pe_ix (ix_seqK (K := K) rfl) (pv 1) (pe_glob (v := k_STEPS) rfl g.c_STEPS ⟨_, rfl⟩) (fun _ _ => rfl)) (pe_slice (sl_tupX (K := K) rfl) (pe_ix (ix_seqK (K := K) rfl) (pv 1) (pe_glob (v := k_STEPS) rfl g.c_STEPS ⟨_, rfl⟩) (fun _ _ => rfl)) po_none (po_some (pe_un un_neg pe_int))))))), ?_⟩
    walk_at "rd"
    refine ⟨w, v, rfl, hI, hn, fun u H1 s1 hu => ?_⟩
    obtain ⟨pw, ps, rfl, hw, hps⟩ := isK_way (K := K) (r := (goneV w).1) (e := (goneV w).2.2) (ss := (goneV w).2.1) hu
    walk_at "rd"
    refine ⟨_, _, .inr hw, rfl, _, rfl, ?_⟩
    cases he : (goneV w).2.2 with
    | true =>
      rw [if_pos rfl]
      refine ⟨_, _, .inr hw, rfl, k ps H1 s1 ?_⟩
      rw [holder, if_pos he]; exact hps
    | false =>
      rw [if_neg (by decide)]
      refine ⟨_, _, .inr hw, rfl, ?_⟩
      walk_at "rd"
      refine ⟨_, hps, fun p2 H2 s2 hp2 => k p2 H2 (s1.trans s2) ?_⟩
      rw [cutV_map, cutA_init'] at hp2
      rw [holder, if_neg (by rw [he]; decide)]
      exact hp2
theorem ok__law_address (g : G K mg) : FnOk P w K mg base CX0 4 g.a__law_address g.fd__law_address ["_law_script", "_law_first", "_law_whole", "_law_cells"] (sp__law_address K) := by
  refine g.F__law_address.ok sc__law_address (fun vs H Q E h => ?_) (fun cdv A outer s H vs Q E hr h => ?_)
  · obtain ⟨a, ns, i, wh, pc, cs, rfl, _⟩ := h; rfl
  · obtain ⟨a, ns, i, wh, pc, cs, rfl, hS, hC, hn, k⟩ := h
    refine ⟨_, (pss_cons (ps_set (i := 4) sc__law_address.nd rfl (Or.inl rfl) (pe_call (ok__law_cell_at g) (hr.mono (by decide)) rfl g.m__law_cell_at g.F__law_cell_at.kp g.b__law_cell_at .nil pass0 (pa_cons (pv 0) (pa_cons (pv 1) pa_nil))))
      (pss_cons (ps_set (i := 5) sc__law_address.nd rfl (Or.inl rfl) pe_str)
      (pss_cons (ps_set (i := 6) sc__law_address.nd rfl (Or.inl rfl) pe_non)
      (pss_cons (ps_set (i := 7) sc__law_address.nd rfl (Or.inl rfl) pe_non)
      (pss_cut (ps_if (PW.pt (pw_or (pt_val (pv 2)) (pw_or1 (pt_cmpR op_eq (pe_op op_mod (pv 4) pe_int) pe_int (nomark _)))))
        (pss_one (ps_set (i := 5) sc__law_address.nd rfl (Or.inl rfl) (pe_call (ok__law_scheme g) (hr.mono (by decide)) rfl g.m__law_scheme g.F__law_scheme.kp g.b__law_scheme .nil pass0 (pa_cons (pe_op op_fdiv (pv 4) pe_int) pa_nil)))) pss_nil)
      (pss_cut (ps_if (pt_cmpR op_gt (pe_op op_mod (pe_op op_fdiv (pv 4) pe_int) pe_int) pe_int (nomark _))
        (pss_cons (ps_set (i := 6) sc__law_address.nd rfl (Or.inl rfl) (pe_call (ok__law_text g) (hr.mono (by decide)) rfl g.m__law_text g.F__law_text.kp g.b__law_text .nil pass0 (pa_cons (pe_call (ok__law_cell_at g) (hr.mono (by decide)) rfl g.m__law_cell_at g.F__law_cell_at.kp g.b__law_cell_at .nil pass0 (pa_cons (pv 0) (pa_cons (pe_op (op_addS (K := K)) (pv 1) pe_int) pa_nil))) (pa_cons pe_int pa_nil))))
      (pss_one (ps_if (pt_cmpR op_eq (pe_op op_mod (pe_op op_fdiv (pv 4) pe_int) pe_int) pe_int (nomark _))
        (pss_one (ps_set (i := 7) sc__law_address.nd rfl (Or.inl rfl) (pe_op op_mod (pe_op op_fdiv (pe_call (ok__law_cell_at g) (hr.mono (by decide)) rfl g.m__law_cell_at g.F__law_cell_at.kp g.b__law_cell_at .nil pass0 (pa_cons (pv 0) (pa_cons (pe_op (op_addS (K := K)) (pv 1) pe_int) pa_nil))) pe_int) pe_int))) pss_nil))) pss_nil)
      (pss_cut (ps_set (i := 8) sc__law_address.nd rfl (Or.inl rfl) (pe_or (pe_cmpR op_ne (pv 5) pe_str (nomark _)) (pe_or (pe_cmpR op_notNU (pv 6) pe_non (nomark _)) (pe_one (pe_cmpR op_eq (pe_op op_mod (pe_op op_fdiv (pv 4) pe_int) pe_int) pe_int (nomark _))))))
      (pss_cons (ps_set (i := 9) sc__law_address.nd rfl (Or.inl rfl) (pe_call (ok__law_way g) (hr.mono (by decide)) rfl g.m__law_way g.F__law_way.kp g.b__law_way .nil pass0 (pa_cons (pv 3) (pa_cons (pv 8) (pa_cons (pe_cmpR op_eq (pe_op op_mod (pe_op op_fdiv (pv 4) pe_int) pe_int) pe_int (nomark _)) pa_nil)))))
      (pss_cons (ps_set (i := 10) sc__law_address.nd rfl (Or.inl rfl) (pe_call (ok__law_question g) (hr.mono (by decide)) rfl g.m__law_question g.F__law_question.kp g.b__law_question .nil pass0 (pa_cons (pe_call (ok__law_cell_at g) (hr.mono (by decide)) rfl g.m__law_cell_at g.F__law_cell_at.kp g.b__law_cell_at .nil pass0 (pa_cons (pv 0) (pa_cons (pe_op (op_addS (K := K)) (pv 1) pe_int) pa_nil))) pa_nil)))
      (pss_one (ps_ret (pe_tupS (pa_cons (pv 5) (pa_cons (pv 6) (pa_cons (pv 7) (pa_cons (pv 9) (pa_cons (pv 10) (pa_cons (pe_call (ok__law_mark g) (hr.mono (by decide)) rfl g.m__law_mark g.F__law_mark.kp g.b__law_mark .nil pass0 (pa_cons (pe_call (ok__law_cell_at g) (hr.mono (by decide)) rfl g.m__law_cell_at g.F__law_cell_at.kp g.b__law_cell_at .nil pass0 (pa_cons (pv 0) (pa_cons (pe_op (op_addS (K := K)) (pv 1) pe_int) pa_nil))) pa_nil)) pa_nil)))))))))))))))))), ?_⟩
    walk_at "rd"
    refine ⟨a, ns, i, rfl, hS, ?_⟩
    walk_at "rd"
    generalize ns.getD i 0 = hd
    refine ⟨fun σ H1 => H1 = H ∧ ∃ sc : List Nat, σ = [some (.ref a), some (.int (i : Int)), some (.bl wh), some (.ref pc), some (.int hd), some (.str ⟨sc.toArray⟩), some .non, some .non, none, none, none] ∧ (wh = true → sc ≠ []) ∧ sc.length ≤ 8 ∧ (∀ c ∈ sc, isAln c = true) ∧ ∀ c ∈ sc.take 1, isLet c = true, ?_, ?_⟩
    · have put : ∀ l : List Nat, 0 < l.length → l.length ≤ 8 → (∀ c ∈ l, isAln c = true) → (∀ c ∈ l.take 1, isLet c = true) → ((H = H) ∧ ∃ sc : List Nat, [some (V.ref a), some (.int (i : Int)), some (.bl wh), some (.ref pc), some (.int hd), some (.str ⟨l.toArray⟩), some .non, some .non, none, none, none] = [some (V.ref a), some (.int (i : Int)), some (.bl wh), some (.ref pc), some (.int hd), some (.str ⟨sc.toArray⟩), some .non, some .non, none, none, none] ∧ (wh = true → sc ≠ []) ∧ sc.length ≤ 8 ∧ (∀ c ∈ sc, isAln c = true) ∧ ∀ c ∈ sc.take 1, isLet c = true) :=
        fun l h1 h2 h3 h4 => ⟨rfl, l, rfl, (fun _ z => by rw [z] at h1; cases h1), h2, h3, h4⟩
      refine ite2 (fun _ => ⟨⟨by decide, by decide⟩, _, rfl, put⟩) (fun hw => ⟨by decide, ite2 (fun _ => ⟨⟨by decide, by decide⟩, _, rfl, put⟩) (fun _ => ⟨rfl, [], rfl, fun z => absurd z hw, by decide, by simp, by simp⟩)⟩)
    rintro σ H1 ⟨rfl, sc, rfl, hw, hs1, hs2, hs3⟩
    walk_at "rd"
    refine ⟨fun σ H2 => H2 = H1 ∧ ∃ (ho : Option (List Nat)) (dr : Option Int), σ = [some (.ref a), some (.int (i : Int)), some (.bl wh), some (.ref pc), some (.int hd), some (.str ⟨sc.toArray⟩), some (otV ho), some (itV dr), none, none, none] ∧ (∀ l, ho = some l → (0 < l.length ∧ l.length ≤ 13) ∧ ∀ c ∈ l, isSg c = true) ∧ (∀ j, dr = some j → (0 ≤ j ∧ j ≤ 65535) ∧ ho ≠ none), ?_, ?_⟩
    · refine ⟨⟨by decide, by decide⟩, by decide, ite2 (fun _ => ?_) (fun _ => ⟨rfl, none, none, rfl, (fun _ z => by cases z), (fun _ z => by cases z)⟩)⟩
      refine ⟨a, ns, i + 1, by simp, hS, ?_⟩
      refine ⟨_, 12, rfl, by decide, by decide, fun l h1 h2 h3 => ?_⟩
      walk_at "rd"
      refine ⟨⟨by decide, by decide⟩, by decide, ite2 (fun _ => ?_) (fun _ => ⟨some l, none, ⟨rfl, rfl⟩, (fun l' z => by cases z; exact ⟨⟨h1, by omega⟩, h3⟩), (fun _ z => by cases z)⟩)⟩
      refine ⟨a, ns, i + 1, by simp, hS, ?_⟩
      walk_at "rd"
      have q0 := Int.emod_nonneg (ns.getD (i + 1) 0 / 7) (show (65536 : Int) ≠ 0 by decide)
      have q1 := Int.emod_lt_of_pos (ns.getD (i + 1) 0 / 7) (show (0 : Int) < 65536 by decide)
      refine ⟨⟨by decide, by decide⟩, by decide, some l, some _, ⟨rfl, rfl⟩, (fun l' z => by cases z; exact ⟨⟨h1, by omega⟩, h3⟩), (fun j z => by cases z; exact ⟨⟨q0, by omega⟩, by simp⟩)⟩
    rintro σ H2 ⟨rfl, ho, dr, rfl, hho, hdr⟩
    walk_at "rd"
    refine ⟨fun σ H3 => H3 = H2 ∧ ∃ rt : Bool, σ = [some (.ref a), some (.int (i : Int)), some (.bl wh), some (.ref pc), some (.int hd), some (.str ⟨sc.toArray⟩), some (otV ho), some (itV dr), some (.bl rt), none, none] ∧ (sc ≠ [] ∨ ho ≠ none → rt = true), ?_, ?_⟩
    · by_cases hsc : sc = []
      · subst hsc
        refine ite2 (fun z => absurd rfl z) (fun _ => ?_)
        cases ho with
        | some l => exact ite2 (fun _ => ⟨rfl, true, rfl, fun _ => rfl⟩) (fun z => absurd (Classical.not_not.mp z) (by simp [otV]))
        | none =>
          refine ite2 (fun z => absurd rfl z) (fun _ => ⟨⟨by decide, by decide⟩, by decide, rfl, _, rfl, fun z => ?_⟩)
          rcases z with z | z <;> exact absurd rfl z
      · refine ite2 (fun _ => ⟨rfl, true, rfl, fun _ => rfl⟩) (fun z => absurd (mk_nil.mp (Classical.not_not.mp z)) hsc)
    rintro σ H3 ⟨rfl, rt, rfl, hrt⟩
    walk_at "rd"
    refine ⟨⟨by decide, by decide⟩, by decide, pc, cs, rt, _, rfl, hC, hn, fun ss e' v H4 hl4 hs4 he4 s4 hv => ?_⟩
    walk_at "rd"
    refine ⟨a, ns, i + 2, by simp, s4.seq hS, _, rfl, fun q vq H5 hq s5 hvq => ?_⟩
    walk_at "rd"
    refine ⟨a, ns, i + 3, by simp, (s4.trans s5).seq hS, _, rfl, fun o ho5 => ⟨by decide, fun p6 H6 hn6 s6 hp6 => ?_⟩⟩
    refine k ⟨sc, ho, dr, rt, ss, e', q, o⟩ _ H6 ⟨⟨hs1, hs2, hs3⟩, (fun l e => ⟨⟨(hho l e).1.1, by have := (hho l e).1.2; omega⟩, (hho l e).2⟩), hdr, fun s hs => (hs4 s hs).1, hrt, he4, fun ps e p hp => ((hq ps e).2 p hp).1, fun l e => (ho5 l e).2⟩ ⟨fun s hs => (hs4 s hs).2, fun ps e => ⟨(hq ps e).1, fun p hp => ((hq ps e).2 p hp).2⟩, fun l e => (ho5 l e).1, fun l e => (hho l e).1.2⟩ (Nat.le_of_eq hl4) hw ((s4.trans s5).trans s6) ?_
    exact .tup hp6 (.cons (.str _) (.cons (is_oD _) (.cons (is_iD _) (.cons (hv.mono (s5.trans s6).toT) (.cons (hvq.mono s6.toT) (.cons (is_oD _) .nil))))))
theorem ok__law_relative (g : G K mg) : FnOk P w K mg base CX0 4 g.a__law_relative g.fd__law_relative ["_law_base", "_law_goal"] (sp__law_relative K) := by
  refine g.F__law_relative.ok sc__law_relative (fun vs H Q E h => ?_) (fun cdv A outer s H vs Q E hr h => ?_)
  · obtain ⟨b, g, vb, vg, rfl, _⟩ := h; rfl
  · obtain ⟨b, g', vb, vg, rfl, hB, hG, wb, wg, sb, sg, lb, lg, k⟩ := h
    refine ⟨_, (pss_cut (ps_set (i := 2) sc__law_relative.nd rfl (Or.inl rfl) (pe_call (ok__law_gone g) (hr.mono (by decide)) rfl g.m__law_gone g.F__law_gone.kp g.b__law_gone .nil pass0 (pa_cons (pe_ix (ix_seqK (K := K) rfl) (pv 0) pe_int (fun _ _ => rfl)) pa_nil)))
      (pss_cut (ps_set (i := 3) sc__law_relative.nd rfl (Or.inl rfl) (pe_call (ok__law_gone g) (hr.mono (by decide)) rfl g.m__law_gone g.F__law_gone.kp g.b__law_gone .nil pass0 (pa_cons (pe_ix (ix_seqK (K := K) rfl) (pv 1) pe_int (fun _ _ => rfl)) pa_nil)))
      (pss_cut (ps_if (PW.pt (pw_or (pt_cmpR op_ne (pe_ix (ix_seqK (K := K) rfl) (pv 1) pe_int (fun _ _ => rfl)) (pe_ix (ix_seqK (K := K) rfl) (pv 0) pe_int (fun _ _ => rfl)) (nomark _)) (pw_or1 (PW.pt (pw_and (pt_cmpR op_isNU (pe_ix (ix_seqK (K := K) rfl) (pv 1) pe_int (fun _ _ => rfl)) pe_non (nomark _)) (pw_and1 (pt_cmpR op_notNU (pe_ix (ix_seqK (K := K) rfl) (pv 0) pe_int (fun _ _ => rfl)) pe_non (nomark _))))))))
        (pss_one (ps_ret (pe_op (op_addS (K := K)) (pe_op (op_addS (K := K)) (pe_slice sl_tupA (pv 1) po_none (po_some pe_int)) (pe_tupS (pa_cons (pv 3) pa_nil))) (pe_slice sl_tupA (pv 1) (po_some pe_int) po_none)))) pss_nil)
      (pss_cut (ps_if (PW.pt (pw_or (pt_cmpR op_ne (pe_ix (ix_seqK (K := K) rfl) (pv 1) pe_int (fun _ _ => rfl)) (pe_ix (ix_seqK (K := K) rfl) (pv 0) pe_int (fun _ _ => rfl)) (nomark _)) (pw_or1 (pt_cmpR op_ne (pe_ix (ix_seqK (K := K) rfl) (pv 1) pe_int (fun _ _ => rfl)) (pe_ix (ix_seqK (K := K) rfl) (pv 0) pe_int (fun _ _ => rfl)) (nomark _)))))
        (pss_one (ps_ret (pe_tupS (pa_cons pe_str (pa_cons (pe_ix (ix_seqK (K := K) rfl) (pv 1) pe_int (fun _ _ => rfl)) (pa_cons (pe_ix (ix_seqK (K := K) rfl) (pv 1) pe_int (fun _ _ => rfl)) (pa_cons (pv 3) (pa_cons (pe_ix (ix_seqK (K := K) rfl) (pv 1) pe_int (fun _ _ => rfl)) (pa_cons (pe_ix (ix_seqK (K := K) rfl) (pv 1) pe_int (fun _ _ => rfl)) pa_nil))))))))) pss_nil)
      (pss_cut (ps_if (PW.pt (pw_and (pt_cmpR (op_eqD hr.units) (pv 2) (pv 3) (nomark _)) (pw_and1 (pt_cmpR (op_eqD hr.units) (pe_ix (ix_seqK (K := K) rfl) (pv 1) pe_int (fun _ _ => rfl)) (pe_ix (ix_seqK (K := K) rfl) (pv 0) pe_int (fun _ _ => rfl)) (nomark _)))))
        (pss_one (ps_ret (pe_tupS (pa_cons pe_str (pa_cons pe_non (pa_cons pe_non (pa_cons (pe_tupS (pa_cons pe_bl (pa_cons (pe_tupS pa_nil) (pa_cons pe_bl pa_nil)))) (pa_cons pe_non (pa_cons (pe_ix (ix_seqK (K := K) rfl) (pv 1) pe_int (fun _ _ => rfl)) pa_nil))))))))) pss_nil)
      (pss_cut (ps_if (PW.pt (pw_and (pt_cmpR (op_eqD hr.units) (pv 2) (pv 3) (nomark _)) (pw_and1 (pt_cmpR op_notNU (pe_ix (ix_seqK (K := K) rfl) (pv 1) pe_int (fun _ _ => rfl)) pe_non (nomark _)))))
        (pss_one (ps_ret (pe_tupS (pa_cons pe_str (pa_cons pe_non (pa_cons pe_non (pa_cons (pe_tupS (pa_cons pe_bl (pa_cons (pe_tupS pa_nil) (pa_cons pe_bl pa_nil)))) (pa_cons (pe_ix (ix_seqK (K := K) rfl) (pv 1) pe_int (fun _ _ => rfl)) (pa_cons (pe_ix (ix_seqK (K := K) rfl) (pv 1) pe_int (fun _ _ => rfl)) pa_nil))))))))) pss_nil)
      (pss_one (ps_ret (pe_tupS (pa_cons pe_str (pa_cons pe_non (pa_cons pe_non (pa_cons (pe_call (ok__law_way_between g) (hr.mono (by decide)) rfl g.m__law_way_between g.F__law_way_between.kp g.b__law_way_between .nil pass0 (pa_cons (pv 2) (pa_cons (pv 3) pa_nil))) (pa_cons (pe_ix (ix_seqK (K := K) rfl) (pv 1) pe_int (fun _ _ => rfl)) (pa_cons (pe_ix (ix_seqK (K := K) rfl) (pv 1) pe_int (fun _ _ => rfl)) pa_nil))))))))))))))), ?_⟩
    obtain ⟨pb, ub, qb, rfl, hpb, hwb, hqb⟩ := isT_ad hB
    obtain ⟨pg, ug, qg, rfl, hpg, hwg, hqg⟩ := isT_ad hG
    have rb := wb.roo (.inl sb)
    have rg := wg.roo (.inl sg)
    walk_at "rd"
    refine ⟨fun σ H1 => Same H H1 ∧ ∃ uo : V, IsT H1 (wayOf (goneV b.w)) uo ∧ σ = [some (.ref pb), some (.ref pg), some uo, none], ?_, ?_⟩
    · exact ⟨_, _, .inr (.of hpb), rfl, b.w, ub, rfl, hwb, wb.sg, by show b.steps.length ≤ 2000; omega, fun u H1 s1 hu => ⟨s1, u, hu, rfl⟩⟩
    rintro σ H1 ⟨s1, uo, huo, rfl⟩
    walk_at "rd"
    refine ⟨fun σ H2 => Same H H2 ∧ ∃ un : V, IsT H2 (wayOf (goneV b.w)) uo ∧ IsT H2 (wayOf (goneV g'.w)) un ∧ σ = [some (.ref pb), some (.ref pg), some uo, some un], ?_, ?_⟩
    · exact ⟨_, _, .inr (.of (s1 _ _ hpg)), rfl, g'.w, ug, rfl, hwg.mono s1.toT, wg.sg, by show g'.steps.length ≤ 2000; omega, fun u H2 s2 hu => ⟨s1.trans s2, u, huo.mono s2.toT, hu, rfl⟩⟩
    rintro σ H2 ⟨s2, un, huo2, hun, rfl⟩
    have hpb2 := s2 _ _ hpb
    have hpg2 := s2 _ _ hpg
    have hqb2 := hqb.mono s2.toT
    have hqg2 := hqg.mono s2.toT
    walk_at "rd"
    refine ⟨fun σ H3 => H3 = H2 ∧ σ = [some (.ref pb), some (.ref pg), some uo, some un] ∧ ¬ (g'.scheme ≠ b.scheme ∨ (g'.house = none ∧ b.house ≠ none)), ?_, ?_⟩
    · have out : (g'.scheme ≠ b.scheme ∨ (g'.house = none ∧ b.house ≠ none)) → (∃ xs, H2 pg = some (.tup xs) ∧ ∀ (p : Addr) (H' : Hp), Same H2 H' → H' p = some (.tup (cutV xs none (some 3))) → 1 ≤ sizeLine ∧ ∀ (p_1 : Addr) (H'_1 : Hp), H' p_1 = none → Same H' H'_1 → H'_1 p_1 = some (.tup [un]) → rAddS K (.ref p) (.ref p_1) H'_1 fun x H1 => ∃ xs, H1 pg = some (.tup xs) ∧ ∀ (p : Addr) (H' : Hp), Same H1 H' → H' p = some (.tup (cutV xs (some 4) none)) → rAddS K x (.ref p) H' Q) := fun z =>
        ⟨_, hpg2, fun p3 H3 s3 hp3 => ⟨by decide, fun p4 H4 hn4 s4 hp4 => .inr ⟨_, _, s4 _ _ hp3, hp4, (show 4 ≤ sizeLine by decide), fun p5 H5 s5 hp5 => ⟨_, ((s3.trans s4).trans s5) _ _ hpg2, fun p6 H6 s6 hp6 => .inr ⟨_, _, s6 _ _ hp5, hp6, (show 6 ≤ sizeLine by decide), fun p7 H7 s7 hp7 => by
          have t7 := (((s3.trans s4).trans s5).trans s6).trans s7
          refine k _ H7 (s2.trans t7) ?_
          rw [relM, if_pos z]
          exact adT (x := g'.gone) hp7 (hun.mono t7.toT) (hqg2.mono t7.toT)⟩⟩⟩⟩⟩
      refine ⟨_, _, .inr (.of hpg2), rfl, _, _, .inr (.of hpb2), rfl, ?_⟩
      walk_at "rd"
      simp only [mk_inj]
      by_cases h1 : g'.scheme = b.scheme
      rotate_left
      · exact ite2 (fun _ => out (.inl h1)) (fun z => absurd (Classical.not_not.mp z) h1)
      refine ite2 (fun z => absurd h1 z) (fun _ => ⟨_, _, .inr (.of hpg2), rfl, ?_⟩)
      cases hgh : g'.house with
      | some l => exact ite2 (fun z => absurd z (by simp [otV])) (fun _ z => z.elim (fun y => y h1) (fun y => by cases y.1))
      | none =>
        refine ite2 (fun _ => ⟨_, _, .inr (.of hpb2), rfl, ?_⟩) (fun z => absurd rfl z)
        cases hbh : b.house with
        | none => exact ite2 (fun z => absurd rfl z) (fun _ z => z.elim (fun y => y h1) (fun y => y.2 rfl))
        | some l => exact ite2 (fun _ => out (.inr ⟨hgh, by simp [hbh]⟩)) (fun z => absurd (Classical.not_not.mp z) (by simp [otV]))
    rintro σ H3 ⟨rfl, rfl, c0⟩
    walk_at "rd"
    refine ⟨fun σ H4 => H4 = H3 ∧ σ = [some (.ref pb), some (.ref pg), some uo, some un] ∧ ¬ (g'.house ≠ b.house ∨ g'.door ≠ b.door), ?_, ?_⟩
    · refine ⟨_, _, .inr (.of hpg2), rfl, _, _, .inr (.of hpb2), rfl, ne_ot ⟨_, rfl, ?_⟩⟩
      have fin : (g'.house ≠ b.house ∨ g'.door ≠ b.door) → ∀ (p : Addr) (H' : Hp), H3 p = none → Same H3 H' → H' p = some (.tup [.str ⟨#[]⟩, otV g'.house, itV g'.door, un, qg, otV g'.mark]) → Q (.ref p) H' := fun z p H' _ s' hp' => by
        refine k _ H' (s2.trans s') ?_
        rw [relM, if_neg c0, if_pos z]
        exact adT (x := { g'.gone with scheme := [] }) hp' (hun.mono s'.toT) (hqg2.mono s'.toT)
      by_cases h2 : g'.house = b.house
      rotate_left
      · refine ite2 (fun _ => ?_) (fun z => absurd (by simpa using h2) z)
        exact ⟨_, _, .inr (.of hpg2), rfl, _, _, .inr (.of hpg2), rfl, _, _, .inr (.of hpg2), rfl, _, _, .inr (.of hpg2), rfl, by decide, fin (.inl h2)⟩
      refine ite2 (fun z => absurd h2 (by simpa using z)) (fun _ => ?_)
      refine ⟨_, _, .inr (.of hpg2), rfl, _, _, .inr (.of hpb2), rfl, ne_it ⟨_, rfl, ?_⟩⟩
      by_cases h3 : g'.door = b.door
      rotate_left
      · refine ite2 (fun _ => ?_) (fun z => absurd (by simpa using h3) z)
        exact ⟨_, _, .inr (.of hpg2), rfl, _, _, .inr (.of hpg2), rfl, _, _, .inr (.of hpg2), rfl, _, _, .inr (.of hpg2), rfl, by decide, fin (.inr h3)⟩
      exact ite2 (fun z => absurd h3 (by simpa using z)) (fun _ => ⟨rfl, rfl, fun z => z.elim (fun y => y h2) (fun y => y h3)⟩)
    rintro σ H4 ⟨rfl, rfl, c1⟩
    have shb := shaped_way (r := (goneV b.w).1) (e := (goneV b.w).2.2) (goneV_sg (w := b.w) wb.sg)
    have shg := shaped_way (r := (goneV g'.w).1) (e := (goneV g'.w).2.2) (goneV_sg (w := g'.w) wg.sg)
    have noway : ∀ (q0 : Option (List (List Nat × Option (List Nat)))) (vq : V) (p p1 p2 : Addr) (Hs : Hp), Same H4 Hs → Hs p = some (.tup []) → Hs p1 = some (.tup [.bl false, .ref p, .bl false]) → Hs p2 = some (.tup [.str ⟨#[]⟩, .non, .non, .ref p1, vq, otV g'.mark]) → IsT Hs (qD q0) vq → IsT Hs (Ad.data ⟨[], none, none, false, [], false, q0, g'.mark⟩) (.ref p2) := fun q0 vq p p1 p2 Hs ss h0 h1 h2 hq => adT (x := ⟨[], none, none, false, [], false, q0, g'.mark⟩) h2 (wayT' (ss := []) h1 h0) hq
    walk_at "rd"
    refine ⟨fun σ H5 => H5 = H4 ∧ σ = [some (.ref pb), some (.ref pg), some uo, some un] ∧ ¬ (goneV b.w = goneV g'.w ∧ g'.quest = b.quest), ?_, ?_⟩
    · refine ⟨wayOf (goneV b.w), wayOf (goneV g'.w), huo2.is, hun.is, shb, shg, _, rfl, ?_⟩
      rw [eqv_way2]
      by_cases e1 : goneV b.w = goneV g'.w
      rotate_left
      · exact ite2 (fun z => absurd (by simpa using z) e1) (fun _ => ⟨rfl, rfl, fun z => e1 z.1⟩)
      refine ite2 (fun _ => ?_) (fun z => absurd (by simpa using e1) z)
      refine ⟨_, _, .inr (.of hpg2), rfl, _, _, .inr (.of hpb2), rfl, ?_⟩
      refine ⟨qD g'.quest, qD b.quest, hqg2.is, hqb2.is, shaped_qD wg.que, shaped_qD wb.que, _, rfl, ?_⟩
      rw [eqv_qD2]
      by_cases e2 : g'.quest = b.quest
      rotate_left
      · exact ite2 (fun z => absurd (by simpa using z) e2) (fun _ => ⟨rfl, rfl, fun z => e2 z.2⟩)
      refine ite2 (fun _ => ?_) (fun z => absurd (by simpa using e2) z)
      refine ⟨by decide, fun p5 H5 hn5 s5 hp5 => ⟨by decide, fun p6 H6 hn6 s6 hp6 => ⟨_, _, .inr (.of ((s5.trans s6) _ _ hpg2)), rfl, by decide, fun p7 H7 hn7 s7 hp7 => k _ H7 (s2.trans ((s5.trans s6).trans s7)) ?_⟩⟩⟩
      have c2 : b.gone.w = g'.gone.w ∧ (g'.quest ≠ none ∨ b.quest = none) := ⟨e1, by
        cases hq : g'.quest with
        | none => exact .inr (by rw [← e2, hq])
        | some qs => exact .inl (by simp)⟩
      rw [relM, if_neg c0, if_neg c1, if_pos c2, if_pos e2]
      exact noway none .non p5 p6 p7 H7 ((s5.trans s6).trans s7) ((s6.trans s7) _ _ hp5) (s7 _ _ hp6) hp7 .non
    rintro σ H5 ⟨rfl, rfl, c4⟩
    walk_at "rd"
    refine ⟨fun σ H6 => H6 = H5 ∧ σ = [some (.ref pb), some (.ref pg), some uo, some un] ∧ ¬ (goneV b.w = goneV g'.w ∧ g'.quest ≠ none), ?_, ?_⟩
    · refine ⟨wayOf (goneV b.w), wayOf (goneV g'.w), huo2.is, hun.is, shb, shg, _, rfl, ?_⟩
      rw [eqv_way2]
      by_cases e1 : goneV b.w = goneV g'.w
      rotate_left
      · exact ite2 (fun z => absurd (by simpa using z) e1) (fun _ => ⟨rfl, rfl, fun z => e1 z.1⟩)
      refine ite2 (fun _ => ⟨_, _, .inr (.of hpg2), rfl, ?_⟩) (fun z => absurd (by simpa using e1) z)
      cases hq : g'.quest with
      | none =>
        rw [hq] at hqg2
        cases hqg2
        exact ite2 (fun z => absurd rfl z) (fun _ => ⟨rfl, rfl, fun z => z.2 rfl⟩)
      | some qs =>
        have hqg3 := hqg2
        rw [hq] at hqg3
        obtain ⟨p', xs, rfl, _, _⟩ := isT_tup hqg3
        refine ite2 (fun _ => ?_) (fun z => absurd (Classical.not_not.mp z) (by simp))
        refine ⟨by decide, fun p5 H6 hn5 s5 hp5 => ⟨by decide, fun p6 H7 hn6 s6 hp6 => ⟨_, _, .inr (.of ((s5.trans s6) _ _ hpg2)), rfl, _, _, .inr (.of ((s5.trans s6) _ _ hpg2)), rfl, by decide, fun p7 H8 hn7 s7 hp7 => k _ H8 (s2.trans ((s5.trans s6).trans s7)) ?_⟩⟩⟩
        have c2 : b.gone.w = g'.gone.w ∧ (g'.quest ≠ none ∨ b.quest = none) := ⟨e1, .inl (by simp [hq])⟩
        rw [relM, if_neg c0, if_neg c1, if_pos c2, if_neg (fun z => c4 ⟨e1, z⟩)]
        exact noway g'.quest _ p5 p6 p7 H8 ((s5.trans s6).trans s7) ((s6.trans s7) _ _ hp5) (s7 _ _ hp6) hp7 (hqg2.mono ((s5.trans s6).trans s7).toT)
    rintro σ H6 ⟨rfl, rfl, c5⟩
    walk_at "rd"
    have lgb : (goneV b.w).2.1.length ≤ b.steps.length := goneV_len b.w
    have lgg : (goneV g'.w).2.1.length ≤ g'.steps.length := goneV_len g'.w
    refine ⟨goneV b.w, goneV g'.w, uo, un, rfl, huo2, hun, goneV_again _, goneV_again _, goneV_sg (w := b.w) wb.sg, goneV_sg (w := g'.w) wg.sg, fun he hn => ?_, by omega, by omega, fun v H7 s7 hv => ⟨_, _, .inr (.of (s7 _ _ hpg2)), rfl, _, _, .inr (.of (s7 _ _ hpg2)), rfl, by decide, fun p8 H8 hn8 s8 hp8 => k _ H8 (s2.trans (s7.trans s8)) ?_⟩⟩
    · have := (goneV_true (w := g'.w) rg (fun e => (wg.end_ e).trans rg)).2.2.2 hn
      rw [he] at this; cases this
    · have c2 : ¬ (b.gone.w = g'.gone.w ∧ (g'.quest ≠ none ∨ b.quest = none)) := fun z => by
        have hq : g'.quest = none := Classical.not_not.mp (fun y => c5 ⟨z.1, y⟩)
        rcases z.2 with y | y
        · exact y hq
        · exact c4 ⟨z.1, by rw [hq, y]⟩
      rw [relM, if_neg c0, if_neg c1, if_neg c2]
      rw [betw_gone] at hv
      exact adT (x := { scheme := [], house := none, door := none, rooted := false, steps := betw b.w g'.w, ends := (goneV g'.w).2.2, quest := g'.quest, mark := g'.mark }) hp8 (hv.mono s8.toT) (hqg2.mono (s7.trans s8).toT)
theorem ok_way_between (g : G K mg) : FnOk P w K mg base CX0 5 g.a_way_between g.fd_way_between ["base_way", "goal_way"] (sp_way_between K) := by
  refine g.F_way_between.ok sc_way_between (fun vs H Q E h => ?_) (fun cdv A outer s H vs Q E hr h => ?_)
  · obtain ⟨b, g, vb, vg, rfl, _⟩ := h; rfl
  · obtain ⟨b, g', vb, vg, rfl, hB, hG, eb, eg, hb, hg, k⟩ := h
    refine ⟨_, (pss_cons (ps_set (i := 2) sc_way_between.nd rfl (Or.inl rfl) (pe_call (ok_holder g) (hr.mono (by decide)) rfl g.m_holder g.F_holder.kp g.b_holder .nil pass0 (pa_cons (pv 0) pa_nil)))
      (pss_cons (ps_set (i := 3) sc_way_between.nd rfl (Or.inl rfl) (pe_call (ok_holder g) (hr.mono (by decide)) rfl g.m_holder g.F_holder.kp g.b_holder .nil pass0 (pa_cons (pv 1) pa_nil)))
      (pss_cons (ps_set (i := 4) sc_way_between.nd rfl (Or.inl rfl) (pe_call (ok_count_in_common g) (hr.mono (by decide)) rfl g.m_count_in_common g.F_count_in_common.kp g.b_count_in_common .nil pass0 (pa_cons (pv 2) (pa_cons (pv 3) pa_nil))))
      (pss_cut (ps_set (i := 5) sc_way_between.nd rfl (Or.inl rfl) (pe_ifExp (pt_val (pe_ix (ix_seqK (K := K) rfl) (pv 1) (pe_glob (v := k_ENDS) rfl g.c_ENDS ⟨_, rfl⟩) (fun _ _ => rfl))) (pe_tupS pa_nil) (pe_slice (sl_tupX (K := K) rfl) (pe_ix (ix_seqK (K := K) rfl) (pv 1) (pe_glob (v := k_STEPS) rfl g.c_STEPS ⟨_, rfl⟩) (fun _ _ => rfl)) (po_some (pe_un un_neg pe_int)) po_none)))
      (pss_cons (ps_set (i := 6) sc_way_between.nd rfl (Or.inl rfl) (pe_op (op_catX (K := K) rfl) (pe_op (op_catX (K := K) rfl) (pe_op op_repN (pe_tupS (pa_cons (pe_glob (v := k_UP) rfl g.c_UP ⟨_, rfl⟩) pa_nil)) (pe_op op_sub (pe_callB (call_lenK (K := K) rfl) rfl g.b_len PySem.boot_len (pa_cons (pv 2) pa_nil)) (pv 4))) (pe_slice (sl_tupX (K := K) rfl) (pv 3) (po_some (pv 4)) po_none)) (pv 5)))
      (pss_one (ps_ret (pe_tupS (pa_cons pe_bl (pa_cons (pe_ifExp (pt_cmpR op_gt (pe_callB (call_lenK (K := K) rfl) rfl g.b_len PySem.boot_len (pa_cons (pv 6) pa_nil)) pe_int (nomark _)) (pv 6) (pe_tupS (pa_cons (pe_glob (v := k_STAY) rfl g.c_STAY ⟨_, rfl⟩) pa_nil))) (pa_cons (pe_ix (ix_seqK (K := K) rfl) (pv 1) (pe_glob (v := k_ENDS) rfl g.c_ENDS ⟨_, rfl⟩) (fun _ _ => rfl)) pa_nil))))))))))), ?_⟩
    obtain ⟨pg, qg, rfl, hpg, hqg⟩ := isK_way (r := g'.1) (e := g'.2.2) (ss := g'.2.1) hG
    have hhb := holder_len b
    have hhg := holder_len g'
    have hc1 := comm_le (holder b) (holder g')
    have hc2 := comm_le2 (holder b) (holder g')
    have hl1 := lastW_len g'
    walk_at "rd"
    refine ⟨b, vb, rfl, hB, by omega, fun ph H1 s1 hph => ⟨g', _, rfl, hG.mono s1, by omega, fun pt H2 s2 hpt => ⟨ph, pt, holder b, holder g', rfl, s2.tup hph, hpt, ?_⟩⟩⟩
    have s12 := s1.trans s2
    refine ⟨fun σ H3 => Same H2 H3 ∧ ∃ pl : Addr, σ = [some vb, some (.ref pg), some (.ref ph), some (.ref pt), some (.int (comm (holder b) (holder g'))), some (.ref pl), none] ∧ SqT K H3 pl ((lastW g').map sV), ?_, ?_⟩
    · walk_at "rd"
      refine ⟨_, _, .inr (s12.tup hpg), rfl, _, rfl, ?_⟩
      by_cases he : g'.2.2 = true
      · rw [if_pos he]
        refine ⟨by decide, fun pl H3 hn3 s3 hpl => ⟨s3, ?_⟩⟩
        rw [lastW, eg, if_pos he]
        exact .of hpl
      · rw [if_neg he]
        refine ⟨_, _, .inr (s12.tup hpg), rfl, ?_⟩
        walk_at "rd"
        refine ⟨_, s12.tup hqg, fun pl H3 s3 hpl => ⟨s3, ?_⟩⟩
        rw [cutV_map, cutA_last1] at hpl
        rw [lastW, eg, if_neg he]
        exact hpl
    rintro σ H3 ⟨s3, pl, rfl, hpl⟩
    simp only [kup, kst]
    walk_at "rd"
    refine ⟨by decide, fun pu H4 hn4 s4 hpu => ⟨_, .inr ((s2.trans (s3.trans s4)).tup hph), ?_⟩⟩
    have em : ((((holder b).map sV).length : Int) - (comm (holder b) (holder g') : Int)).toNat = (holder b).length - comm (holder b) (holder g') := by rw [List.length_map]; omega
    rw [em]
    refine ⟨_, hpu, by rw [List.length_map]; omega, by rw [List.length_map]; omega, le_line (by simp; omega), fun pr H5 s5 hpr => ⟨_, ((s3.trans s4).trans s5).tup hpt, fun pd H6 s6 hpd => ?_⟩⟩
    rw [show (List.replicate ((holder b).length - comm (holder b) (holder g')) [sV sUp]).flatten = (List.replicate ((holder b).length - comm (holder b) (holder g')) sUp).map sV by simp] at hpr
    rw [cutV_map, cutA_from _ hc2] at hpd
    refine ⟨_, _, .of (s6 _ _ hpr), hpd, le_line (by simp; omega), fun pc H7 s7 hpc => ⟨_, _, hpc, (((s4.trans s5).trans s6).trans s7).tup hpl, le_line (by simp; omega), fun pe H8 s8 hpe => ?_⟩⟩
    rw [← List.map_append, ← List.map_append, show List.replicate ((holder b).length - comm (holder b) (holder g')) sUp ++ (holder g').drop (comm (holder b) (holder g')) ++ lastW g' = betw0 b g' from rfl] at hpe
    have t8 : Same H2 H8 := ((((s3.trans s4).trans s5).trans s6).trans s7).trans s8
    have t08 := s12.trans t8
    refine ⟨_, .inr hpe, ?_⟩
    rw [List.length_map]
    by_cases h0 : betw0 b g' = []
    · refine ite2 (fun z => absurd z (by rw [h0]; decide)) (fun _ => ?_)
      refine ⟨by decide, fun p9 H9 hn9 s9 hp9 => ⟨_, _, .inr ((t08.trans s9).tup hpg), rfl, by decide, fun p10 H10 hn10 s10 hp10 => k _ H10 ((t08.trans s9).trans s10) ?_⟩⟩
      rw [betw, if_pos h0]
      exact wayK (.of hp10) (.of (s10 _ _ hp9))
    · have := List.length_pos_iff.mpr h0
      refine ite2 (fun _ => ?_) (fun z => absurd (by omega) z)
      refine ⟨_, _, .inr (t08.tup hpg), rfl, by decide, fun p10 H10 hn10 s10 hp10 => k _ H10 (t08.trans s10) ?_⟩
      rw [betw, if_neg h0]
      exact wayK (.of hp10) (s10.tup hpe)
theorem ok__law_pair (g : G K mg) : FnOk P w K mg base CX0 5 g.a__law_pair g.fd__law_pair ["_law_script"] (sp__law_pair K) := by
  refine g.F__law_pair.ok sc__law_pair (fun vs H Q E h => ?_) (fun cdv A outer s H vs Q E hr h => ?_)
  · obtain ⟨a, ns, rfl, _⟩ := h; rfl
  · obtain ⟨a, ns, rfl, hS, hn, k⟩ := h
    refine ⟨_, (pss_cut (ps_set (i := 1) sc__law_pair.nd rfl (Or.inl rfl) (pe_call (ok__law_address g) (hr.mono (by decide)) rfl g.m__law_address g.F__law_address.kp g.b__law_address .nil pass0 (pa_cons (pv 0) (pa_cons pe_int (pa_cons pe_bl (pa_cons (pe_slice3K (K := K) rfl (pv 0) (po_some pe_int) (po_some pe_int) (po_some pe_int)) pa_nil))))))
      (pss_cut (ps_set (i := 2) sc__law_pair.nd rfl (Or.inl rfl) (pe_call (ok__law_address g) (hr.mono (by decide)) rfl g.m__law_address g.F__law_address.kp g.b__law_address .nil pass0 (pa_cons (pv 0) (pa_cons pe_int (pa_cons pe_bl (pa_cons (pe_slice3K (K := K) rfl (pv 0) (po_some pe_int) (po_some pe_int) (po_some pe_int)) pa_nil))))))
      (pss_cut (ps_set (i := 3) sc__law_pair.nd rfl (Or.inl rfl) (pe_call (ok__law_cell_at g) (hr.mono (by decide)) rfl g.m__law_cell_at g.F__law_cell_at.kp g.b__law_cell_at .nil pass0 (pa_cons (pv 0) (pa_cons pe_int pa_nil))))
      (pss_cut (ps_if (pt_cmpR op_lt (pe_op op_mod (pv 3) pe_int) pe_int (nomark _))
        (pss_one (ps_set (i := 2) sc__law_pair.nd rfl (Or.inl rfl) (pe_op (op_addS (K := K)) (pe_slice sl_tupA (pv 1) po_none (po_some pe_int)) (pe_slice sl_tupA (pv 2) (po_some pe_int) po_none)))) pss_nil)
      (pss_cut (ps_if (pt_cmpR op_eq (pe_op op_mod (pe_op op_fdiv (pv 3) pe_int) pe_int) pe_int (nomark _))
        (pss_cons (ps_set (i := 4) sc__law_pair.nd rfl (Or.inl rfl) (pe_op op_mod (pe_op op_fdiv (pv 3) pe_int) (pe_op (op_addS (K := K)) (pe_callB (call_lenK (K := K) rfl) rfl g.b_len PySem.boot_len (pa_cons (pe_ix (ix_seqK (K := K) rfl) (pe_ix (ix_seqK (K := K) rfl) (pv 1) pe_int (fun _ _ => rfl)) pe_int (fun _ _ => rfl)) pa_nil)) pe_int)))
      (pss_cons (ps_set (i := 5) sc__law_pair.nd rfl (Or.inl rfl) (pe_op (op_addS (K := K)) (pe_slice sl_tupA (pe_ix (ix_seqK (K := K) rfl) (pe_ix (ix_seqK (K := K) rfl) (pv 1) pe_int (fun _ _ => rfl)) pe_int (fun _ _ => rfl)) po_none (po_some (pv 4))) (pe_ix (ix_seqK (K := K) rfl) (pe_ix (ix_seqK (K := K) rfl) (pv 2) pe_int (fun _ _ => rfl)) pe_int (fun _ _ => rfl))))
      (pss_one (ps_set (i := 2) sc__law_pair.nd rfl (Or.inl rfl) (pe_op (op_addS (K := K)) (pe_op (op_addS (K := K)) (pe_slice sl_tupA (pv 2) po_none (po_some pe_int)) (pe_tupS (pa_cons (pe_tupS (pa_cons pe_bl (pa_cons (pv 5) (pa_cons (pe_or (pe_ix (ix_seqK (K := K) rfl) (pe_ix (ix_seqK (K := K) rfl) (pv 2) pe_int (fun _ _ => rfl)) pe_int (fun _ _ => rfl)) (pe_one (pe_cmpR (op_eqD hr.units) (pv 5) (pe_tupS pa_nil) (nomark _)))) pa_nil)))) pa_nil))) (pe_slice sl_tupA (pv 2) (po_some pe_int) po_none)))))) pss_nil)
      (pss_cut (ps_if (pt_cmpR op_eq (pe_op op_mod (pe_op op_fdiv (pv 3) pe_int) pe_int) pe_int (nomark _))
        (pss_one (ps_set (i := 2) sc__law_pair.nd rfl (Or.inl rfl) (pe_op (op_addS (K := K)) (pe_op (op_addS (K := K)) (pe_slice sl_tupA (pv 2) po_none (po_some pe_int)) (pe_tupS (pa_cons (pe_ix (ix_seqK (K := K) rfl) (pv 1) pe_int (fun _ _ => rfl)) pa_nil))) (pe_slice sl_tupA (pv 2) (po_some pe_int) po_none)))) pss_nil)
      (pss_cut (ps_if (pt_cmpR op_eq (pe_op op_mod (pe_op op_fdiv (pv 3) pe_int) pe_int) pe_int (nomark _))
        (pss_one (ps_set (i := 2) sc__law_pair.nd rfl (Or.inl rfl) (pe_op (op_addS (K := K)) (pe_slice sl_tupA (pv 2) po_none (po_some pe_int)) (pe_tupS (pa_cons (pe_ix (ix_seqK (K := K) rfl) (pv 1) pe_int (fun _ _ => rfl)) (pa_cons (pe_ix (ix_seqK (K := K) rfl) (pv 2) pe_int (fun _ _ => rfl)) pa_nil)))))) pss_nil)
      (pss_cut (ps_if (pt_cmpR op_eq (pe_op op_mod (pe_op op_fdiv (pv 3) pe_int) pe_int) pe_int (nomark _))
        (pss_one (ps_set (i := 2) sc__law_pair.nd rfl (Or.inl rfl) (pe_op (op_addS (K := K)) (pe_slice sl_tupA (pv 2) po_none (po_some pe_int)) (pe_tupS (pa_cons pe_non (pa_cons (pe_ix (ix_seqK (K := K) rfl) (pv 2) pe_int (fun _ _ => rfl)) pa_nil)))))) pss_nil)
      (pss_one (ps_ret (pe_tupS (pa_cons (pv 1) (pa_cons (pv 2) pa_nil))))))))))))), ?_⟩
    walk_at "rd"
    refine ⟨fun σ H1 => Same H H1 ∧ ∃ (b : Ad) (vb : V), σ = [some (.ref a), some vb, none, none, none, none] ∧ GoodAd 63 b ∧ IsT H1 b.data vb, ?_, ?_⟩
    · refine ⟨a, _, rfl, hS, by decide, ?_⟩
      rw [pickV_map]
      have hc := pick_len ns 9 69
      refine ⟨le_line (by rw [List.length_map]; omega), fun p1 hn1 => ?_⟩
      refine ⟨a, ns, 0, true, p1, _, rfl, (same_new hn1).seq hS, .of upd_same, by omega, fun b vb H1 wb tb lb sb s1 hb => ?_⟩
      exact ⟨(same_new hn1).trans s1, b, vb, rfl, ⟨wb, tb, sb rfl, by omega⟩, hb⟩
    rintro σ H1 ⟨s1, b, vb, rfl, gb, hb⟩
    walk_at "rd"
    refine ⟨fun σ H2 => Same H H2 ∧ ∃ (g : Ad) (vg : V), σ = [some (.ref a), some vb, some vg, none, none, none] ∧ GoodAd 63 g ∧ IsT H2 b.data vb ∧ IsT H2 g.data vg, ?_, ?_⟩
    · refine ⟨a, _, rfl, s1.seq hS, by decide, ?_⟩
      rw [pickV_map]
      have hc2 := pick_len ns 10 69
      refine ⟨le_line (by rw [List.length_map]; omega), fun p2 hn2 => ?_⟩
      refine ⟨a, ns, 4, true, p2, _, rfl, (s1.trans (same_new hn2)).seq hS, .of upd_same, by omega, fun x vx H2 wx tx lx sx s2 hx => ?_⟩
      exact ⟨s1.trans ((same_new hn2).trans s2), x, vx, rfl, ⟨wx, tx, sx rfl, by omega⟩, hb.mono ((same_new hn2).trans s2).toT, hx⟩
    rintro σ H2 ⟨s2, g0, vg0, rfl, gg0, hb, hg0⟩
    walk_at "rd"
    refine ⟨fun σ H3 => H3 = H2 ∧ ∃ hd : Int, σ = [some (.ref a), some vb, some vg0, some (.int hd), none, none], ?_, ?_⟩
    · exact ⟨a, ns, 8, rfl, s2.seq hS, rfl, _, rfl⟩
    rintro σ H3 ⟨rfl, hd, rfl⟩
    obtain ⟨pb, ub, qb, rfl, hpb, hwb, hqb⟩ := isT_ad hb
    walk_at "rd"
    refine ⟨fun σ H4 => Same H3 H4 ∧ ∃ (g : Ad) (vg : V), σ = [some (.ref a), some (.ref pb), some vg, some (.int hd), none, none] ∧ GoodAd 63 g ∧ IsT H4 g.data vg, ?_, ?_⟩
    · refine ⟨by decide, ite2 (fun _ => ?_) (fun _ => ⟨Same.refl _, g0, vg0, rfl, gg0, hg0⟩)⟩
      obtain ⟨pg, ug, qg, rfl, hpg, hwg, hqg⟩ := isT_ad hg0
      walk_at "rd"
      refine ⟨_, hpb, fun p1 Ha sa hp1 => ⟨_, sa _ _ hpg, fun p2 Hb sbb hp2 => .inr ⟨_, _, sbb _ _ hp1, hp2, (show 6 ≤ sizeLine by decide), fun p3 Hc sc hp3 => ?_⟩⟩⟩
      have sz := (sa.trans sbb).trans sc
      exact ⟨sz, _, gb.head gg0, adT (x := { g0 with scheme := b.scheme, house := b.house, door := b.door }) hp3 (hwg.mono sz.toT) (hqg.mono sz.toT)⟩
    clear hg0 gg0
    rintro σ H4 ⟨s4, g1, vg1, rfl, gg1, hg1⟩
    obtain ⟨pwb, psb, rfl, hpwb, hpsb⟩ := isT_way (r := b.rooted) (e := b.ends) (ss := b.steps) hwb
    walk_at "rd"
    refine ⟨fun σ H5 => Same H3 H5 ∧ ∃ (g : Ad) (vg : V) (v4 v5 : Option V), σ = [some (.ref a), some (.ref pb), some vg, some (.int hd), v4, v5] ∧ GoodAd 130 g ∧ IsT H5 g.data vg, ?_, ?_⟩
    · refine ⟨⟨by decide, by decide⟩, by decide, ite2 (fun _ => ?_) (fun _ => ⟨s4, g1, vg1, none, none, rfl, gg1.le (by decide), hg1⟩)⟩
      obtain ⟨pg, ug, qg, rfl, hpg, hwg, hqg⟩ := isT_ad hg1
      obtain ⟨pwg, psg, rfl, hpwg, hpsg⟩ := isT_way (r := g1.rooted) (e := g1.ends) (ss := g1.steps) hwg
      refine ⟨⟨by decide, by decide⟩, _, _, .inr (.of (s4 _ _ hpb)), rfl, ?_⟩
      walk_at "rd"
      refine ⟨_, _, .inr (.of (s4 _ _ hpwb)), rfl, ?_⟩
      walk_at "rd"
      refine ⟨_, .inr (.of (s4 _ _ hpsb)), by omega, _, _, .inr (.of (s4 _ _ hpb)), rfl, ?_⟩
      walk_at "rd"
      refine ⟨_, _, .inr (.of (s4 _ _ hpwb)), rfl, ?_⟩
      walk_at "rd"
      refine ⟨_, s4 _ _ hpsb, fun p1 Ha sa hp1 => ⟨_, _, .inr (.of (sa _ _ hpg)), rfl, ?_⟩⟩
      rw [cutV_map] at hp1
      walk_at "rd"
      refine ⟨_, _, .inr (.of (sa _ _ hpwg)), rfl, .inr ⟨_, _, hp1, sa _ _ hpsg, ?_, fun p2 Hb sbb hp2 => ?_⟩⟩
      · have := cutA_len b.steps none (some (hd / 24 % (((b.steps.map fun l => V.str ⟨l.toArray⟩).length : Int) + 1)))
        have h1 := gb.ln
        have h2 := gg1.ln
        exact le_line (by simp only [List.length_map] at this ⊢; omega)
      rw [← List.map_append] at hp2
      have tl : ∀ s ∈ (cutA b.steps none (some (hd / 24 % (((b.steps.map fun l => V.str ⟨l.toArray⟩).length : Int) + 1)))) ++ g1.steps, StepOk s ∧ s.length ≤ 9 := fun s hs => by
        rcases List.mem_append.mp hs with z | z
        · exact gb.okst s (cutA_mem z)
        · exact gg1.okst s z
      have tn : ((cutA b.steps none (some (hd / 24 % (((b.steps.map fun l => V.str ⟨l.toArray⟩).length : Int) + 1)))) ++ g1.steps).length ≤ 130 := by
        have := cutA_len b.steps none (some (hd / 24 % (((b.steps.map fun l => V.str ⟨l.toArray⟩).length : Int) + 1)))
        have h1 := gb.ln
        have h2 := gg1.ln
        rw [List.length_append]; omega
      generalize (cutA b.steps none (some (hd / 24 % (((b.steps.map fun l => V.str ⟨l.toArray⟩).length : Int) + 1)))) ++ g1.steps = tt at hp2 tl tn
      have sab := sa.trans sbb
      refine ⟨_, sab _ _ hpg, fun p3 Hc sc hp3 => ⟨_, _, .inr (.of ((sab.trans sc) _ _ hpg)), rfl, ?_⟩⟩
      walk_at "rd"
      refine ⟨_, _, .inr (.of ((sab.trans sc) _ _ hpwg)), rfl, _, rfl, ?_⟩
      have fin : ∀ (e : Bool) (Hs : Hp), Same Hc Hs → (tt = [] → e = true) → (3 ≤ sizeLine ∧ ∀ (p : Addr) (H' : Hp), Hs p = none → Same Hs H' → H' p = some (.tup [.bl true, .ref p2, .bl e]) → 1 ≤ sizeLine ∧ ∀ (p_1 : Addr) (H'_1 : Hp), H' p_1 = none → Same H' H'_1 → H'_1 p_1 = some (.tup [.ref p]) → rAddS K (.ref p3) (.ref p_1) H'_1 fun x H1 => ∃ xs, H1 pg = some (.tup xs) ∧ ∀ (p : Addr) (H' : Hp), Same H1 H' → H' p = some (.tup (cutV xs (some 4) none)) → rAddS K x (.ref p) H' fun x H1 => Same H3 H1 ∧ ∃ (g : Ad) (vg : V) (v4 v5 : Option V), (x = vg ∧ some (V.int (hd / 24 % (((b.steps.map fun l => V.str ⟨l.toArray⟩).length : Int) + 1))) = v4 ∧ some (V.ref p2) = v5) ∧ GoodAd 130 g ∧ IsT H1 g.data vg) := fun e Hs ss he =>
        ⟨by decide, fun p4 Hd hnd sd hp4 => ⟨by decide, fun p5 He hne se hp5 => .inr ⟨_, _, ((ss.trans sd).trans se) _ _ hp3, hp5, (show 4 ≤ sizeLine by decide), fun p6 Hf sf hp6 => ⟨_, ((((sab.trans sc).trans ss).trans sd).trans (se.trans sf)) _ _ hpg, fun p7 Hg sg hp7 => .inr ⟨_, _, sg _ _ hp6, hp7, (show 6 ≤ sizeLine by decide), fun p8 Hh sh hp8 => by
          have t4 : Same H4 Hh := ((((sab.trans sc).trans ss).trans sd).trans (se.trans sf)).trans (sg.trans sh)
          exact ⟨s4.trans t4, _, _, _, _, ⟨rfl, rfl, rfl⟩, gg1.way (ss := tt) (e := e) tl tn he, adT (x := { g1 with rooted := true, steps := tt, ends := e }) hp8 (wayT' ((((se.trans sf).trans sg).trans sh) _ _ hp4) (((((sc.trans ss).trans sd).trans (se.trans sf)).trans (sg.trans sh)) _ _ hp2)) (hqg.mono t4.toT)⟩⟩⟩⟩⟩⟩
      by_cases he : g1.ends = true
      · rw [if_pos he]
        exact fin true Hc (Same.refl _) (fun _ => rfl)
      · rw [if_neg he]
        refine ⟨by decide, fun p4 Hd hnd sd hp4 => ?_⟩
        refine ⟨.tuple (tt.map st), .tuple [], .tup ((sc.trans sd) _ _ hp2) (isAll_sV _), .tup hp4 .nil, shaped_steps (fun s h => (tl s h).1.2), by decide, ?_⟩
        rw [eqv_nil]
        refine fin _ Hd sd (fun e => by rw [e]; rfl)
    clear hg1 gg1
    rintro σ H5 ⟨s5, g2, vg2, v4, v5, rfl, gg2, hg2⟩
    walk_at "rd"
    refine ⟨fun σ H6 => Same H3 H6 ∧ ∃ (g : Ad) (vg : V), σ = [some (.ref a), some (.ref pb), some vg, some (.int hd), v4, v5] ∧ GoodAd 130 g ∧ IsT H6 g.data vg, ?_, ?_⟩
    · refine ⟨⟨by decide, by decide⟩, by decide, ite2 (fun _ => ?_) (fun _ => ⟨s5, g2, vg2, rfl, gg2, hg2⟩)⟩
      obtain ⟨pg, ug, qg, rfl, hpg, hwg, hqg⟩ := isT_ad hg2
      walk_at "rd"
      refine ⟨_, hpg, fun p1 Ha sa hp1 => ⟨_, _, .inr (.of ((s5.trans sa) _ _ hpb)), rfl, by decide, fun p2 Hb hnb sbb hp2 => .inr ⟨_, _, sbb _ _ hp1, hp2, (show 4 ≤ sizeLine by decide), fun p3 Hc sc hp3 => ⟨_, ((sa.trans sbb).trans sc) _ _ hpg, fun p4 Hd sd hp4 => .inr ⟨_, _, sd _ _ hp3, hp4, (show 6 ≤ sizeLine by decide), fun p5 He se hp5 => ?_⟩⟩⟩⟩⟩
      have sz := (((sa.trans sbb).trans sc).trans sd).trans se
      have ebt : b.rooted = true := gb.rt
      have ew : ({ g2 with rooted := true, steps := b.steps, ends := b.ends } : Ad).way = b.way := by unfold Ad.way; rw [ebt]
      refine ⟨s5.trans sz, _, gg2.way (ss := b.steps) (e := b.ends) gb.okst (by have := gb.ln; omega) (fun e => (gb.wf.end_ e).trans ebt), adT (x := { g2 with rooted := true, steps := b.steps, ends := b.ends }) hp5 ?_ (hqg.mono sz.toT)⟩
      rw [ew]
      exact hwb.mono (s5.trans sz).toT
    clear hg2 gg2
    rintro σ H6 ⟨s6, g3, vg3, rfl, gg3, hg3⟩
    walk_at "rd"
    refine ⟨fun σ H7 => Same H3 H7 ∧ ∃ (g : Ad) (vg : V), σ = [some (.ref a), some (.ref pb), some vg, some (.int hd), v4, v5] ∧ GoodAd 130 g ∧ IsT H7 g.data vg, ?_, ?_⟩
    · refine ⟨⟨by decide, by decide⟩, by decide, ite2 (fun _ => ?_) (fun _ => ⟨s6, g3, vg3, rfl, gg3, hg3⟩)⟩
      obtain ⟨pg, ug, qg, rfl, hpg, hwg, hqg⟩ := isT_ad hg3
      walk_at "rd"
      refine ⟨_, hpg, fun p1 Ha sa hp1 => ⟨_, _, .inr (.of ((s6.trans sa) _ _ hpb)), rfl, _, _, .inr (.of (sa _ _ hpg)), rfl, by decide, fun p2 Hb hnb sbb hp2 => .inr ⟨_, _, sbb _ _ hp1, hp2, (show 6 ≤ sizeLine by decide), fun p3 Hc sc hp3 => ?_⟩⟩⟩
      have sz := (sa.trans sbb).trans sc
      exact ⟨s6.trans sz, _, gb.quest gg3, adT (x := { g3 with quest := b.quest }) hp3 (hwg.mono sz.toT) (hqb.mono (s6.trans sz).toT)⟩
    clear hg3 gg3
    rintro σ H7 ⟨s7, g4, vg4, rfl, gg4, hg4⟩
    walk_at "rd"
    refine ⟨fun σ H8 => Same H3 H8 ∧ ∃ (g : Ad) (vg : V), σ = [some (.ref a), some (.ref pb), some vg, some (.int hd), v4, v5] ∧ GoodAd 130 g ∧ IsT H8 g.data vg, ?_, ?_⟩
    · refine ⟨⟨by decide, by decide⟩, by decide, ite2 (fun _ => ?_) (fun _ => ⟨s7, g4, vg4, rfl, gg4, hg4⟩)⟩
      obtain ⟨pg, ug, qg, rfl, hpg, hwg, hqg⟩ := isT_ad hg4
      walk_at "rd"
      refine ⟨_, hpg, fun p1 Ha sa hp1 => ⟨_, _, .inr (.of (sa _ _ hpg)), rfl, by decide, fun p2 Hb hnb sbb hp2 => .inr ⟨_, _, sbb _ _ hp1, hp2, (show 6 ≤ sizeLine by decide), fun p3 Hc sc hp3 => ?_⟩⟩⟩
      have sz := (sa.trans sbb).trans sc
      exact ⟨s7.trans sz, _, gg4.noquest, adT (x := { g4 with quest := none }) hp3 (hwg.mono sz.toT) .non⟩
    clear hg4 gg4
    rintro σ H8 ⟨s8, g5, vg5, rfl, gg5, hg5⟩
    walk_at "rd"
    refine ⟨by decide, fun p9 H9 hn9 s9 hp9 => k b g5 _ _ p9 H9 ((s2.trans s8).trans s9) (gb.le (by decide)) gg5 (hb.mono (s8.trans s9).toT) (hg5.mono s9.toT) hp9⟩
theorem ok_told_from (g : G K mg) : FnOk P w K mg base CX0 6 g.a_told_from g.fd_told_from ["base", "goal"] (sp_told_from K) := by
  refine g.F_told_from.ok sc_told_from (fun vs H Q E h => ?_) (fun cdv A outer s H vs Q E hr h => ?_)
  · obtain ⟨b, g, vb, vg, rfl, _⟩ := h; rfl
  · obtain ⟨b, g', vb, vg, rfl, hB, hG, wb, wg, eb, eg, hb, hg, k⟩ := h
    refine ⟨_, (pss_cut (ps_if (PW.pt (pw_or (pt_cmpR op_ne (pe_ix (ix_seqK (K := K) rfl) (pv 0) (pe_glob (v := k_SCHEME) rfl g.c_SCHEME ⟨_, rfl⟩) (fun _ _ => rfl)) (pe_ix (ix_seqK (K := K) rfl) (pv 1) (pe_glob (v := k_SCHEME) rfl g.c_SCHEME ⟨_, rfl⟩) (fun _ _ => rfl)) (nomark _)) (pw_or1 (PW.pt (pw_and (pt_cmpR op_notNU (pe_ix (ix_seqK (K := K) rfl) (pv 0) (pe_glob (v := k_HOUSE) rfl g.c_HOUSE ⟨_, rfl⟩) (fun _ _ => rfl)) pe_non (nomark _)) (pw_and1 (pt_cmpR op_isNU (pe_ix (ix_seqK (K := K) rfl) (pv 1) (pe_glob (v := k_HOUSE) rfl g.c_HOUSE ⟨_, rfl⟩) (fun _ _ => rfl)) pe_non (nomark _))))))))
        (pss_one (ps_ret (pv 1))) pss_nil)
      (pss_cut (ps_if (PW.pt (pw_or (pt_cmpR op_ne (pe_ix (ix_seqK (K := K) rfl) (pv 0) (pe_glob (v := k_HOUSE) rfl g.c_HOUSE ⟨_, rfl⟩) (fun _ _ => rfl)) (pe_ix (ix_seqK (K := K) rfl) (pv 1) (pe_glob (v := k_HOUSE) rfl g.c_HOUSE ⟨_, rfl⟩) (fun _ _ => rfl)) (nomark _)) (pw_or1 (pt_cmpR op_ne (pe_ix (ix_seqK (K := K) rfl) (pv 0) (pe_glob (v := k_DOOR) rfl g.c_DOOR ⟨_, rfl⟩) (fun _ _ => rfl)) (pe_ix (ix_seqK (K := K) rfl) (pv 1) (pe_glob (v := k_DOOR) rfl g.c_DOOR ⟨_, rfl⟩) (fun _ _ => rfl)) (nomark _)))))
        (pss_one (ps_ret (pe_op (op_catX (K := K) rfl) (pe_tupS (pa_cons pe_str pa_nil)) (pe_slice (sl_tupX (K := K) rfl) (pv 1) (po_some (pe_glob (v := k_HOUSE) rfl g.c_HOUSE ⟨_, rfl⟩)) po_none)))) pss_nil)
      (pss_cons (ps_if (pt_val (pe_call (ok_can_stay g) (hr.mono (by decide)) rfl g.m_can_stay g.F_can_stay.kp g.b_can_stay .nil pass0 (pa_cons (pv 0) (pa_cons (pv 1) pa_nil))))
        (pss_cons (ps_set (i := 2) sc_told_from.nd rfl (Or.inl rfl) (pe_ifExp (pt_cmpR (op_eqX (K := K) rfl hr.units) (pe_ix (ix_seqK (K := K) rfl) (pv 0) (pe_glob (v := k_QUESTION) rfl g.c_QUESTION ⟨_, rfl⟩) (fun _ _ => rfl)) (pe_ix (ix_seqK (K := K) rfl) (pv 1) (pe_glob (v := k_QUESTION) rfl g.c_QUESTION ⟨_, rfl⟩) (fun _ _ => rfl)) (nomark _)) pe_non (pe_ix (ix_seqK (K := K) rfl) (pv 1) (pe_glob (v := k_QUESTION) rfl g.c_QUESTION ⟨_, rfl⟩) (fun _ _ => rfl))))
      (pss_one (ps_ret (pe_tupS (pa_cons pe_str (pa_cons pe_non (pa_cons pe_non (pa_cons (pe_glob (v := .ref g.p_NO_WAY) rfl g.c_NO_WAY rfl) (pa_cons (pv 2) (pa_cons (pe_ix (ix_seqK (K := K) rfl) (pv 1) (pe_glob (v := k_MARK) rfl g.c_MARK ⟨_, rfl⟩) (fun _ _ => rfl)) pa_nil)))))))))) pss_nil)
      (pss_one (ps_ret (pe_tupS (pa_cons pe_str (pa_cons pe_non (pa_cons pe_non (pa_cons (pe_call (ok_way_between g) (hr.mono (by decide)) rfl g.m_way_between g.F_way_between.kp g.b_way_between .nil pass0 (pa_cons (pe_ix (ix_seqK (K := K) rfl) (pv 0) (pe_glob (v := k_WAY) rfl g.c_WAY ⟨_, rfl⟩) (fun _ _ => rfl)) (pa_cons (pe_ix (ix_seqK (K := K) rfl) (pv 1) (pe_glob (v := k_WAY) rfl g.c_WAY ⟨_, rfl⟩) (fun _ _ => rfl)) pa_nil))) (pa_cons (pe_ix (ix_seqK (K := K) rfl) (pv 1) (pe_glob (v := k_QUESTION) rfl g.c_QUESTION ⟨_, rfl⟩) (fun _ _ => rfl)) (pa_cons (pe_ix (ix_seqK (K := K) rfl) (pv 1) (pe_glob (v := k_MARK) rfl g.c_MARK ⟨_, rfl⟩) (fun _ _ => rfl)) pa_nil)))))))))))), ?_⟩
    obtain ⟨pb, ub, qb, rfl, hpb, hwb, hqb⟩ := isK_ad hB
    obtain ⟨pg, ug, qg, rfl, hpg, hwg, hqg⟩ := isK_ad hG
    walk_at "rd"
    refine ⟨fun σ H1 => H1 = H ∧ σ = [some (.ref pb), some (.ref pg), none] ∧ ¬ (g'.scheme ≠ b.scheme ∨ (g'.house = none ∧ b.house ≠ none)), ?_, ?_⟩
    · refine ⟨_, _, .inr hpb, rfl, _, _, .inr hpg, rfl, ?_⟩
      walk_at "rd"
      simp only [mk_inj]
      have out : (g'.scheme ≠ b.scheme ∨ (g'.house = none ∧ b.house ≠ none)) → Q (.ref pg) H := fun z => k _ H (Same.refl _) (by rw [relM, if_pos z, eg]; exact hG)
      by_cases h1 : b.scheme = g'.scheme
      rotate_left
      · exact ite2 (fun _ => out (.inl (fun z => h1 z.symm))) (fun z => absurd (Classical.not_not.mp z) h1)
      refine ite2 (fun z => absurd h1 z) (fun _ => ⟨_, _, .inr hpb, rfl, ?_⟩)
      cases hbh : b.house with
      | none => exact ite2 (fun z => absurd rfl z) (fun _ z => z.elim (fun y => y h1.symm) (fun y => y.2 rfl))
      | some l =>
        refine ite2 (fun _ => ⟨_, _, .inr hpg, rfl, ?_⟩) (fun z => absurd (Classical.not_not.mp z) (by simp [otV]))
        cases hgh : g'.house with
        | none => exact ite2 (fun _ => out (.inr ⟨hgh, by simp [hbh]⟩)) (fun z => absurd rfl z)
        | some m => exact ite2 (fun z => absurd z (by simp [otV])) (fun _ z => z.elim (fun y => y h1.symm) (fun y => by cases y.1))
    rintro σ H1 ⟨rfl, rfl, c0⟩
    walk_at "rd"
    refine ⟨fun σ H2 => H2 = H1 ∧ σ = [some (.ref pb), some (.ref pg), none] ∧ ¬ (g'.house ≠ b.house ∨ g'.door ≠ b.door), ?_, ?_⟩
    · have out : (g'.house ≠ b.house ∨ g'.door ≠ b.door) → (1 ≤ sizeLine ∧ ∀ (p : Addr) (H' : Hp), H1 p = none → Same H1 H' → H' p = some (.tup [.str ⟨#[]⟩]) → ∃ xs, SqT K H' pg xs ∧ ∀ (p_1 : Addr) (H'_1 : Hp), Same H' H'_1 → SqT K H'_1 p_1 (cutV xs (some 1) none) → ∃ xs ys, SqT K H'_1 p xs ∧ SqT K H'_1 p_1 ys ∧ xs.length + ys.length ≤ sizeLine ∧ ∀ (p : Addr) (H'_2 : Hp), Same H'_1 H'_2 → SqT K H'_2 p (xs ++ ys) → Q (.ref p) H'_2) := fun z =>
        ⟨by decide, fun p2 H2 hn2 s2 hp2 => ⟨_, s2.tup hpg, fun p3 H3 s3 hp3 => ⟨_, _, .of (s3 _ _ hp2), hp3, (show 6 ≤ sizeLine by decide), fun p4 H4 s4 hp4 => k _ H4 ((s2.trans s3).trans s4) (by
          rw [relM, if_neg c0, if_pos z, eg]
          have sm := (s2.trans s3).trans s4
          exact adK (x := { g' with scheme := [] }) hp4 (hwg.mono sm) (hqg.mono sm))⟩⟩⟩
      refine ⟨_, _, .inr hpb, rfl, _, _, .inr hpg, rfl, ne_ot ⟨_, rfl, ?_⟩⟩
      by_cases h2 : b.house = g'.house
      rotate_left
      · exact ite2 (fun _ => out (.inl (fun z => h2 z.symm))) (fun z => absurd (by simpa using h2) z)
      refine ite2 (fun z => absurd h2 (by simpa using z)) (fun _ => ?_)
      refine ⟨_, _, .inr hpb, rfl, _, _, .inr hpg, rfl, ne_it ⟨_, rfl, ?_⟩⟩
      by_cases h3 : b.door = g'.door
      rotate_left
      · exact ite2 (fun _ => out (.inr (fun z => h3 z.symm))) (fun z => absurd (by simpa using h3) z)
      exact ite2 (fun z => absurd h3 (by simpa using z)) (fun _ => ⟨rfl, rfl, fun z => z.elim (fun y => y h2.symm) (fun y => y h3.symm)⟩)
    rintro σ H2 ⟨rfl, rfl, c1⟩
    walk_at "rd"
    refine ⟨b, g', _, _, rfl, hB, hG, wb, wg, _, rfl, ?_⟩
    by_cases c2 : b.w = g'.w ∧ (g'.quest ≠ none ∨ b.quest = none)
    · rw [if_pos (decide_eq_true c2)]
      have er : ∀ q0, (if g'.quest = b.quest then none else g'.quest) = q0 → relM b g' = { scheme := [], house := none, door := none, rooted := false, steps := [], ends := false, quest := q0, mark := g'.mark } := fun q0 e => by
        rw [relM, if_neg c0, if_neg c1, if_pos (by rw [eb, eg]; exact c2), e]
      refine ⟨_, _, .inr hpb, rfl, _, _, .inr hpg, rfl, ?_⟩
      refine ⟨qD b.quest, qD g'.quest, hqb, hqg, shaped_qD wb.que, shaped_qD wg.que, _, rfl, ?_⟩
      rw [eqv_qD2]
      by_cases e : b.quest = g'.quest
      · rw [if_pos (decide_eq_true e)]
        refine ⟨_, _, .inr hpg, rfl, by decide, fun p3 H3 hn3 s3 hp3 => k _ H3 s3 ?_⟩
        rw [er none (if_pos e.symm)]
        exact adK (x := { scheme := [], house := none, door := none, rooted := false, steps := [], ends := false, quest := none, mark := g'.mark }) (.of hp3) (g.q_NO_WAY H3) .non
      · rw [if_neg (by simpa using e)]
        refine ⟨_, _, .inr hpg, rfl, _, _, .inr hpg, rfl, by decide, fun p3 H3 hn3 s3 hp3 => k _ H3 s3 ?_⟩
        rw [er g'.quest (if_neg (fun z => e z.symm))]
        exact adK (x := { scheme := [], house := none, door := none, rooted := false, steps := [], ends := false, quest := g'.quest, mark := g'.mark }) (.of hp3) (g.q_NO_WAY H3) (hqg.mono s3)
    · rw [if_neg (by simpa using c2)]
      refine ⟨_, _, .inr hpb, rfl, _, _, .inr hpg, rfl, ?_⟩
      have eb' : goneV b.w = b.w := congrArg Ad.w eb
      have eg' : goneV g'.w = g'.w := congrArg Ad.w eg
      refine ⟨b.w, g'.w, ub, ug, rfl, hwb, hwg, eb', eg', hb, hg, fun v H3 s3 hv => ⟨_, _, .inr (s3.tup hpg), rfl, _, _, .inr (s3.tup hpg), rfl, by decide, fun p4 H4 hn4 s4 hp4 => k _ H4 (s3.trans s4) ?_⟩⟩
      rw [relM, if_neg c0, if_neg c1, if_neg (by rw [eb, eg]; exact c2), eg']
      exact adK (x := { scheme := [], house := none, door := none, rooted := false, steps := betw b.w g'.w, ends := g'.w.2.2, quest := g'.quest, mark := g'.mark }) (.of hp4) (hv.mono s4) (hqg.mono (s3.trans s4))
theorem ok_relative (g : G K mg) : FnOk P w K mg base CX0 7 g.a_relative g.fd_relative ["base", "goal"] (sp_relative K) := by
  refine g.F_relative.ok sc_relative (fun vs H Q E h => ?_) (fun cdv A outer s H vs Q E hr h => ?_)
  · obtain ⟨b, g, vb, vg, rfl, _⟩ := h; rfl
  · obtain ⟨b, g', vb, vg, rfl, hB, hG, wb, wg, sb, sg, hb, hg, k⟩ := h
    refine ⟨_, (pss_cons (ps_if (PW.pt (pw_or (pt_not (pt_val (pe_call (ok_is_whole g) (hr.mono (by decide)) rfl g.m_is_whole g.F_is_whole.kp g.b_is_whole .nil pass0 (pa_cons (pv 0) pa_nil)))) (pw_or1 (pt_not (pt_val (pe_call (ok_is_whole g) (hr.mono (by decide)) rfl g.m_is_whole g.F_is_whole.kp g.b_is_whole .nil pass0 (pa_cons (pv 1) pa_nil)))))))
        (pss_one ps_never) pss_nil)
      (pss_one (ps_ret (pe_call (ok_told_from g) (hr.mono (by decide)) rfl g.m_told_from g.F_told_from.kp g.b_told_from .nil pass0 (pa_cons (pe_call (ok_with_way_gone g) (hr.mono (by decide)) rfl g.m_with_way_gone g.F_with_way_gone.kp g.b_with_way_gone .nil pass0 (pa_cons (pv 0) pa_nil)) (pa_cons (pe_call (ok_with_way_gone g) (hr.mono (by decide)) rfl g.m_with_way_gone g.F_with_way_gone.kp g.b_with_way_gone .nil pass0 (pa_cons (pv 1) pa_nil)) pa_nil)))))), ?_⟩
    obtain ⟨pb, ub, qb, rfl, hpb, hwb, hqb⟩ := isK_ad hB
    obtain ⟨pg, ug, qg, rfl, hpg, hwg, hqg⟩ := isK_ad hG
    walk_at "rd"
    refine ⟨pb, b.scheme, _, rfl, hpb, _, rfl, ?_⟩
    rw [if_neg (by simp [sb])]
    refine ⟨pg, g'.scheme, _, rfl, hpg, _, rfl, ?_⟩
    rw [if_neg (by simp [sg])]
    have lb := b.gone_len
    have lg := g'.gone_len
    refine ⟨b, _, rfl, hB, by omega, fun u H1 s1 hu => ⟨g', _, rfl, hG.mono s1, by omega, fun u2 H2 s2 hu2 => ⟨b.gone, g'.gone, u, u2, rfl, hu.mono s2, hu2, wb.gone, wg.gone, b.gone_again, g'.gone_again, by omega, by omega, fun v H3 s3 hv => k v H3 ((s1.trans s2).trans s3) ?_⟩⟩⟩
    rw [relM_gone] at hv
    exact hv
theorem ok_law (g : G K mg) : FnOk P w K mg base CX0 8 g.a_law g.fd_law ["_law_script"] (sp_law K) := by
  refine g.F_law.ok sc_law (fun vs H Q E h => ?_) (fun cdv A outer s H vs Q E hr h => ?_)
  · obtain ⟨a, ns, rfl, _⟩ := h; rfl
  · obtain ⟨a, ns, rfl, hS, hn, k⟩ := h
    refine ⟨_, (pss_cut (ps_asg (pe_call (ok__law_pair g) (hr.mono (by decide)) rfl g.m__law_pair g.F__law_pair.kp g.b__law_pair .nil pass0 (pa_cons (pv 0) pa_nil)) (pg_tupK (n := 2) (K := K) rfl rfl (pgs_cons (pg_name (i := 1) sc_law.nd rfl (Or.inl rfl)) (pgs_cons (pg_name (i := 2) sc_law.nd rfl (Or.inl rfl)) pgs_nil))))
      (pss_cut (ps_if (pt_cmpR op_eq (pe_op op_mod (pe_op op_fdiv (pe_call (ok__law_cell_at g) (hr.mono (by decide)) rfl g.m__law_cell_at g.F__law_cell_at.kp g.b__law_cell_at .nil pass0 (pa_cons (pv 0) (pa_cons pe_int pa_nil))) pe_int) pe_int) pe_int (nomark _))
        (pss_cons (ps_set (i := 1) sc_law.nd rfl (Or.inl rfl) (pe_call (ok__law_longer g) (hr.mono (by decide)) rfl g.m__law_longer g.F__law_longer.kp g.b__law_longer .nil pass0 (pa_cons (pv 1) pa_nil)))
      (pss_one (ps_set (i := 2) sc_law.nd rfl (Or.inl rfl) (pe_call (ok__law_longer g) (hr.mono (by decide)) rfl g.m__law_longer g.F__law_longer.kp g.b__law_longer .nil pass0 (pa_cons (pv 2) pa_nil))))) pss_nil)
      (pss_cut (ps_set (i := 2) sc_law.nd rfl (Or.inl rfl) (pe_call (ok__law_near g) (hr.mono (by decide)) rfl g.m__law_near g.F__law_near.kp g.b__law_near .nil pass0 (pa_cons (pv 1) (pa_cons (pv 2) (pa_cons (pe_op op_mod (pe_op op_fdiv (pe_call (ok__law_cell_at g) (hr.mono (by decide)) rfl g.m__law_cell_at g.F__law_cell_at.kp g.b__law_cell_at .nil pass0 (pa_cons (pv 0) (pa_cons pe_int pa_nil))) pe_int) pe_int) pa_nil)))))
      (pss_cons (ps_for PassesOwn.never rfl (pi_listK (K := K) rfl (pe_lstS (pa_cons (pe_tupS (pa_cons (pv 1) (pa_cons (pv 2) pa_nil))) (pa_cons (pe_tupS (pa_cons (pv 2) (pa_cons (pv 1) pa_nil))) (pa_cons (pe_tupS (pa_cons (pv 1) (pa_cons (pv 1) pa_nil))) (pa_cons (pe_tupS (pa_cons (pv 1) (pa_cons (pe_op (op_addS (K := K)) (pe_slice sl_tupA (pv 1) po_none (po_some pe_int)) (pe_tupS (pa_cons pe_str pa_nil))) pa_nil))) pa_nil)))))) (pg_tupK (n := 2) (K := K) rfl rfl (pgs_cons (pg_name (i := 3) sc_law.nd rfl (Or.inl rfl)) (pgs_cons (pg_name (i := 4) sc_law.nd rfl (Or.inl rfl)) pgs_nil)))
      (pss_one (ps_if (pt_not (pt_val (pe_call (ok__law_same g) (hr.mono (by decide)) rfl g.m__law_same g.F__law_same.kp g.b__law_same .nil pass0 (pa_cons (pe_call (ok_relative g) (hr.mono (by decide)) rfl g.m_relative g.F_relative.kp g.b_relative .nil pass0 (pa_cons (pv 3) (pa_cons (pv 4) pa_nil))) (pa_cons (pe_call (ok__law_relative g) (hr.mono (by decide)) rfl g.m__law_relative g.F__law_relative.kp g.b__law_relative .nil pass0 (pa_cons (pv 3) (pa_cons (pv 4) pa_nil))) pa_nil)))))
        (pss_one (ps_ret pe_bl)) pss_nil)))
      (pss_one (ps_ret (pe_call (ok__law_same g) (hr.mono (by decide)) rfl g.m__law_same g.F__law_same.kp g.b__law_same .nil pass0 (pa_cons (pe_call (ok_relative g) (hr.mono (by decide)) rfl g.m_relative g.F_relative.kp g.b_relative .nil pass0 (pa_cons (pv 1) (pa_cons (pv 2) pa_nil))) (pa_cons (pe_call (ok__law_relative g) (hr.mono (by decide)) rfl g.m__law_relative g.F__law_relative.kp g.b__law_relative .nil pass0 (pa_cons (pv 1) (pa_cons (pv 2) pa_nil))) pa_nil))))))))), ?_⟩
    walk_at "rd"
    refine ⟨fun σ H1 => Same H H1 ∧ ∃ (b g : Ad) (vb vg : V), σ = [some (.ref a), some vb, some vg, none, none] ∧ GoodAd 130 b ∧ GoodAd 130 g ∧ IsT H1 b.data vb ∧ IsT H1 g.data vg, ?_, ?_⟩
    · refine ⟨a, ns, rfl, hS, hn, fun b g vb vg p H1 s1 gb gg hb hg hp => ?_⟩
      exact ⟨p, _, rfl, .of hp, rfl, _, _, rfl, _, _, rfl, rfl, s1, b, g, vb, vg, rfl, gb, gg, hb, hg⟩
    rintro σ H1 ⟨s1, b0, g0, vb0, vg0, rfl, gb0, gg0, hb0, hg0⟩
    walk_at "rd"
    refine ⟨fun σ H2 => Same H H2 ∧ ∃ (b g : Ad) (vb vg : V), σ = [some (.ref a), some vb, some vg, none, none] ∧ GoodAd 180 b ∧ GoodAd 180 g ∧ IsT H2 b.data vb ∧ IsT H2 g.data vg, ?_, ?_⟩
    · refine ⟨a, ns, 8, rfl, s1.seq hS, ?_⟩
      walk_at "rd"
      refine ⟨⟨by decide, by decide⟩, by decide, ite2 (fun _ => ?_) (fun _ => ⟨s1, b0, g0, _, _, ⟨rfl, rfl⟩, gb0.le (by decide), gg0.le (by decide), hb0, hg0⟩)⟩
      refine ⟨b0, _, rfl, hb0, gb0, fun y u H2 s2 gy hy => ?_⟩
      refine ⟨g0, _, rfl, hg0.mono s2.toT, gg0, fun y2 u2 H3 s3 gy2 hy2 => ?_⟩
      exact ⟨(s1.trans s2).trans s3, y, y2, u, u2, ⟨rfl, rfl⟩, gy, gy2, hy.mono s3.toT, hy2⟩
    clear gb0 gg0 hb0 hg0
    rintro σ H2 ⟨s2, b, g1, vb, vg1, rfl, gb, gg1, hb, hg1⟩
    walk_at "rd"
    refine ⟨fun σ H3 => Same H2 H3 ∧ ∃ (g : Ad) (vg : V), σ = [some (.ref a), some vb, some vg, none, none] ∧ (g.Wf ∧ g.scheme ≠ [] ∧ g.steps.length ≤ 180) ∧ IsT H3 g.data vg, ?_, ?_⟩
    · refine ⟨a, ns, 8, rfl, s2.seq hS, ?_⟩
      walk_at "rd"
      refine ⟨⟨by decide, by decide⟩, by decide, b, g1, _, _, _, rfl, hb, hg1, gb, gg1, fun y u H3 s3 gy hy => ?_⟩
      exact ⟨s3, y, gy, hy⟩
    clear gg1 hg1
    rintro σ H3 ⟨s3, g', vg, rfl, gg, hg⟩
    walk_at "rd"
    obtain ⟨pb, ub, qb, rfl, hpb, hwb, hqb⟩ := isT_ad (hb.mono s3.toT)
    have hb3 := hb.mono s3.toT
    walk_at "rd"
    refine ⟨by decide, fun p1 Ha hna sa hp1 => ⟨by decide, fun p2 Hb hnb sbb hp2 => ⟨by decide, fun p3 Hc hnc sc hp3 => ?_⟩⟩⟩
    have t3 := (sa.trans sbb).trans sc
    refine ⟨_, t3 _ _ hpb, fun p4 Hd sd hp4 => ⟨by decide, fun p5 He hne se hp5 => .inr ⟨_, _, se _ _ hp4, hp5, (show 6 ≤ sizeLine by decide), fun p6 Hf sf hp6 => ⟨by decide, fun p7 Hg hng sg hp7 => ⟨by decide, fun pl Hh hnh sh hpl => ⟨⟨_, .of hpl⟩, ?_⟩⟩⟩⟩⟩⟩
    rw [show Str.ofString "x" = ⟨[120].toArray⟩ by decide +kernel] at hp5 hp6
    have t6 : Same H3 Hf := (t3.trans sd).trans (se.trans sf)
    have t8 : Same H3 Hh := (t6.trans sg).trans sh
    have gB : b.Wf ∧ b.scheme ≠ [] ∧ b.steps.length ≤ 180 := ⟨gb.wf, gb.sc, gb.ln⟩
    have gX : ({ b with mark := some [120] } : Ad).Wf ∧ ({ b with mark := some [120] } : Ad).scheme ≠ [] ∧ ({ b with mark := some [120] } : Ad).steps.length ≤ 180 := ⟨⟨gb.wf.sch, gb.wf.hou, gb.wf.doo, gb.wf.stp, gb.wf.roo, gb.wf.end_, gb.wf.que, (fun l e => by cases e; decide)⟩, gb.sc, gb.ln⟩
    have hX : IsT Hh ({ b with mark := some [120] } : Ad).data (.ref p6) := adT (x := { b with mark := some [120] }) ((sg.trans sh) _ _ hp6) (hwb.mono t8.toT) (hqb.mono t8.toT)
    have hb8 := hb3.mono t8.toT
    have hg8 := hg.mono t8.toT
    have ask : ∀ (o t : Ad) (vo vt : V) (Hs : Hp) (R : VK), Same Hh Hs → (o.Wf ∧ o.scheme ≠ [] ∧ o.steps.length ≤ 180) → (t.Wf ∧ t.scheme ≠ [] ∧ t.steps.length ≤ 180) → IsT Hs o.data vo → IsT Hs t.data vt → (∀ He, Same Hh He → R (.bl true) He) → sp_relative K [vo, vt] Hs (fun x_1 H1 => sp__law_relative K [vo, vt] H1 (fun x_2 H1 => sp__law_same K [x_1, x_2] H1 R E0) E0) E0 :=
      fun o t vo vt Hs R ss go gt ho ht hR => by
        obtain ⟨wo, so, lo⟩ := go
        obtain ⟨wt, st', lt⟩ := gt
        have lr := relM_len o t
        exact ⟨o, t, vo, vt, rfl, ho.k, ht.k, wo, wt, so, st', by omega, by omega, fun u Hi si hu => ⟨o, t, vo, vt, rfl, ho.mono si.toT, ht.mono si.toT, wo, wt, so, st', by omega, by omega, fun u2 Hj sj hu2 => ⟨relM o t, u, u2, rfl, hu.mono sj, hu2.k, relM_wf wt st', by omega, fun Hk sk => hR Hk (((ss.trans si).trans sj).trans sk)⟩⟩⟩
    refine loop_list (xs := [V.ref p1, V.ref p2, V.ref p3, V.ref p7]) (fun i σ H' => Same Hh H' ∧ ∃ v3 v4, σ = [some (.ref a), some (.ref pb), some vg, v3, v4]) ⟨Same.refl _, _, _, rfl⟩ (fun i σ H' _ h => .of (h.1 _ _ hpl)) ?_ ?_
    · rintro i y σ H5 hy ⟨s5, v3, v4, rfl⟩
      obtain ⟨pp, o, t, vo, vt, rfl, hpp, go, gt, ho, ht⟩ : ∃ (pp : Addr) (o t : Ad) (vo vt : V), y = .ref pp ∧ Hh pp = some (.tup [vo, vt]) ∧ (o.Wf ∧ o.scheme ≠ [] ∧ o.steps.length ≤ 180) ∧ (t.Wf ∧ t.scheme ≠ [] ∧ t.steps.length ≤ 180) ∧ IsT Hh o.data vo ∧ IsT Hh t.data vt := by
        have hy := List.mem_of_getElem? hy
        simp only [List.mem_cons, List.not_mem_nil, or_false] at hy
        have u3 : Same Hc Hh := ((sd.trans (se.trans sf)).trans sg).trans sh
        rcases hy with rfl | rfl | rfl | rfl
        · exact ⟨p1, b, g', _, vg, rfl, ((sbb.trans sc).trans u3) _ _ hp1, gB, gg, hb8, hg8⟩
        · exact ⟨p2, g', b, vg, _, rfl, (sc.trans u3) _ _ hp2, gg, gB, hg8, hb8⟩
        · exact ⟨p3, b, b, _, _, rfl, u3 _ _ hp3, gB, gB, hb8, hb8⟩
        · exact ⟨p7, b, _, _, _, rfl, sh _ _ hp7, gB, gX, hb8, hX⟩
      walk_at "rd"
      refine ⟨pp, _, rfl, .of (s5 _ _ hpp), rfl, _, _, rfl, _, _, rfl, rfl, ?_⟩
      refine ask o t vo vt H5 _ s5 go gt (ho.mono s5.toT) (ht.mono s5.toT) (fun He se => ⟨true, rfl, ?_⟩)
      rw [if_neg (by decide)]
      exact ⟨se, _, _, rfl, rfl⟩
    · rintro σ H5 ⟨s5, v3, v4, rfl⟩
      walk_at "rd"
      exact ask b g' _ _ H5 _ s5 gB gg (hb8.mono s5.toT) (hg8.mono s5.toT) (fun He se => k He)
end
theorem all_mk {l : PySem.W.OpenLaw} {w : World} {K : PySem.W.Frag} {h : Heap} {mg : Str → Option Value} {fa : Addr} (X : K.In h) (Gl : h.Ns mainGlobals mg) (hfa : mg "law" = some (.ref fa))
    {f1 : Addr} {od1 an1 : Option Addr} {sl1 : Array (Option Value)} {oc1 kV1 dc1 pm1 cd1 ct1 : Value}
    (a1 : PySem.W.nsIn K mainGlobals "is_whole" = some (some (.ref f1))) (l1 : K.lookup f1 = some ⟨oc1, od1, .func (PySem.W.fnOf "is_whole" "is_whole" (defArgs s_is_whole) (defBody s_is_whole) (defScope s_is_whole) .none kV1 dc1 pm1 an1 cd1 ct1), sl1⟩)
    {f2 : Addr} {od2 an2 : Option Addr} {sl2 : Array (Option Value)} {oc2 kV2 dc2 pm2 cd2 ct2 : Value}
    (a2 : PySem.W.nsIn K mainGlobals "is_dot" = some (some (.ref f2))) (l2 : K.lookup f2 = some ⟨oc2, od2, .func (PySem.W.fnOf "is_dot" "is_dot" (defArgs s_is_dot) (defBody s_is_dot) (defScope s_is_dot) .none kV2 dc2 pm2 an2 cd2 ct2), sl2⟩)
    {f3 : Addr} {od3 an3 : Option Addr} {sl3 : Array (Option Value)} {oc3 kV3 dc3 pm3 cd3 ct3 : Value}
    (a3 : PySem.W.nsIn K mainGlobals "go_up" = some (some (.ref f3))) (l3 : K.lookup f3 = some ⟨oc3, od3, .func (PySem.W.fnOf "go_up" "go_up" (defArgs s_go_up) (defBody s_go_up) (defScope s_go_up) .none kV3 dc3 pm3 an3 cd3 ct3), sl3⟩)
    {f4 : Addr} {od4 an4 : Option Addr} {sl4 : Array (Option Value)} {oc4 kV4 dc4 pm4 cd4 ct4 : Value}
    (a4 : PySem.W.nsIn K mainGlobals "can_stay" = some (some (.ref f4))) (l4 : K.lookup f4 = some ⟨oc4, od4, .func (PySem.W.fnOf "can_stay" "can_stay" (defArgs s_can_stay) (defBody s_can_stay) (defScope s_can_stay) .none kV4 dc4 pm4 an4 cd4 ct4), sl4⟩)
    {f5 : Addr} {od5 an5 : Option Addr} {sl5 : Array (Option Value)} {oc5 kV5 dc5 pm5 cd5 ct5 : Value}
    (a5 : PySem.W.nsIn K mainGlobals "count_in_common" = some (some (.ref f5))) (l5 : K.lookup f5 = some ⟨oc5, od5, .func (PySem.W.fnOf "count_in_common" "count_in_common" (defArgs s_count_in_common) (defBody s_count_in_common) (defScope s_count_in_common) .none kV5 dc5 pm5 an5 cd5 ct5), sl5⟩)
    {f6 : Addr} {od6 an6 : Option Addr} {sl6 : Array (Option Value)} {oc6 kV6 dc6 pm6 cd6 ct6 : Value}
    (a6 : PySem.W.nsIn K mainGlobals "_law_cell_at" = some (some (.ref f6))) (l6 : K.lookup f6 = some ⟨oc6, od6, .func (PySem.W.fnOf "_law_cell_at" "_law_cell_at" (defArgs s__law_cell_at) (defBody s__law_cell_at) (defScope s__law_cell_at) .none kV6 dc6 pm6 an6 cd6 ct6), sl6⟩)
    {f7 : Addr} {od7 an7 : Option Addr} {sl7 : Array (Option Value)} {oc7 kV7 dc7 pm7 cd7 ct7 : Value}
    (a7 : PySem.W.nsIn K mainGlobals "_law_text" = some (some (.ref f7))) (l7 : K.lookup f7 = some ⟨oc7, od7, .func (PySem.W.fnOf "_law_text" "_law_text" (defArgs s__law_text) (defBody s__law_text) (defScope s__law_text) .none kV7 dc7 pm7 an7 cd7 ct7), sl7⟩)
    {f8 : Addr} {od8 an8 : Option Addr} {sl8 : Array (Option Value)} {oc8 kV8 dc8 pm8 cd8 ct8 : Value}
    (a8 : PySem.W.nsIn K mainGlobals "_law_same_way" = some (some (.ref f8))) (l8 : K.lookup f8 = some ⟨oc8, od8, .func (PySem.W.fnOf "_law_same_way" "_law_same_way" (defArgs s__law_same_way) (defBody s__law_same_way) (defScope s__law_same_way) .none kV8 dc8 pm8 an8 cd8 ct8), sl8⟩)
    {f9 : Addr} {od9 an9 : Option Addr} {sl9 : Array (Option Value)} {oc9 kV9 dc9 pm9 cd9 ct9 : Value}
    (a9 : PySem.W.nsIn K mainGlobals "_law_same_pairs" = some (some (.ref f9))) (l9 : K.lookup f9 = some ⟨oc9, od9, .func (PySem.W.fnOf "_law_same_pairs" "_law_same_pairs" (defArgs s__law_same_pairs) (defBody s__law_same_pairs) (defScope s__law_same_pairs) .none kV9 dc9 pm9 an9 cd9 ct9), sl9⟩)
    {f10 : Addr} {od10 an10 : Option Addr} {sl10 : Array (Option Value)} {oc10 kV10 dc10 pm10 cd10 ct10 : Value}
    (a10 : PySem.W.nsIn K mainGlobals "_law_gone" = some (some (.ref f10))) (l10 : K.lookup f10 = some ⟨oc10, od10, .func (PySem.W.fnOf "_law_gone" "_law_gone" (defArgs s__law_gone) (defBody s__law_gone) (defScope s__law_gone) .none kV10 dc10 pm10 an10 cd10 ct10), sl10⟩)
    {f11 : Addr} {od11 an11 : Option Addr} {sl11 : Array (Option Value)} {oc11 kV11 dc11 pm11 cd11 ct11 : Value}
    (a11 : PySem.W.nsIn K mainGlobals "_law_scheme" = some (some (.ref f11))) (l11 : K.lookup f11 = some ⟨oc11, od11, .func (PySem.W.fnOf "_law_scheme" "_law_scheme" (defArgs s__law_scheme) (defBody s__law_scheme) (defScope s__law_scheme) .none kV11 dc11 pm11 an11 cd11 ct11), sl11⟩)
    {f12 : Addr} {od12 an12 : Option Addr} {sl12 : Array (Option Value)} {oc12 kV12 dc12 pm12 cd12 ct12 : Value}
    (a12 : PySem.W.nsIn K mainGlobals "_law_longer" = some (some (.ref f12))) (l12 : K.lookup f12 = some ⟨oc12, od12, .func (PySem.W.fnOf "_law_longer" "_law_longer" (defArgs s__law_longer) (defBody s__law_longer) (defScope s__law_longer) .none kV12 dc12 pm12 an12 cd12 ct12), sl12⟩)
    {f13 : Addr} {od13 an13 : Option Addr} {sl13 : Array (Option Value)} {oc13 kV13 dc13 pm13 cd13 ct13 : Value}
    (a13 : PySem.W.nsIn K mainGlobals "_law_near" = some (some (.ref f13))) (l13 : K.lookup f13 = some ⟨oc13, od13, .func (PySem.W.fnOf "_law_near" "_law_near" (defArgs s__law_near) (defBody s__law_near) (defScope s__law_near) .none kV13 dc13 pm13 an13 cd13 ct13), sl13⟩)
    {f14 : Addr} {od14 an14 : Option Addr} {sl14 : Array (Option Value)} {oc14 kV14 dc14 pm14 cd14 ct14 : Value}
    (a14 : PySem.W.nsIn K mainGlobals "steps_left" = some (some (.ref f14))) (l14 : K.lookup f14 = some ⟨oc14, od14, .func (PySem.W.fnOf "steps_left" "steps_left" (defArgs s_steps_left) (defBody s_steps_left) (defScope s_steps_left) .none kV14 dc14 pm14 an14 cd14 ct14), sl14⟩)
    {f15 : Addr} {od15 an15 : Option Addr} {sl15 : Array (Option Value)} {oc15 kV15 dc15 pm15 cd15 ct15 : Value}
    (a15 : PySem.W.nsIn K mainGlobals "_law_step" = some (some (.ref f15))) (l15 : K.lookup f15 = some ⟨oc15, od15, .func (PySem.W.fnOf "_law_step" "_law_step" (defArgs s__law_step) (defBody s__law_step) (defScope s__law_step) .none kV15 dc15 pm15 an15 cd15 ct15), sl15⟩)
    {f16 : Addr} {od16 an16 : Option Addr} {sl16 : Array (Option Value)} {oc16 kV16 dc16 pm16 cd16 ct16 : Value}
    (a16 : PySem.W.nsIn K mainGlobals "_law_same" = some (some (.ref f16))) (l16 : K.lookup f16 = some ⟨oc16, od16, .func (PySem.W.fnOf "_law_same" "_law_same" (defArgs s__law_same) (defBody s__law_same) (defScope s__law_same) .none kV16 dc16 pm16 an16 cd16 ct16), sl16⟩)
    {f17 : Addr} {od17 an17 : Option Addr} {sl17 : Array (Option Value)} {oc17 kV17 dc17 pm17 cd17 ct17 : Value}
    (a17 : PySem.W.nsIn K mainGlobals "_law_question" = some (some (.ref f17))) (l17 : K.lookup f17 = some ⟨oc17, od17, .func (PySem.W.fnOf "_law_question" "_law_question" (defArgs s__law_question) (defBody s__law_question) (defScope s__law_question) .none kV17 dc17 pm17 an17 cd17 ct17), sl17⟩)
    {f18 : Addr} {od18 an18 : Option Addr} {sl18 : Array (Option Value)} {oc18 kV18 dc18 pm18 cd18 ct18 : Value}
    (a18 : PySem.W.nsIn K mainGlobals "_law_mark" = some (some (.ref f18))) (l18 : K.lookup f18 = some ⟨oc18, od18, .func (PySem.W.fnOf "_law_mark" "_law_mark" (defArgs s__law_mark) (defBody s__law_mark) (defScope s__law_mark) .none kV18 dc18 pm18 an18 cd18 ct18), sl18⟩)
    {f19 : Addr} {od19 an19 : Option Addr} {sl19 : Array (Option Value)} {oc19 kV19 dc19 pm19 cd19 ct19 : Value}
    (a19 : PySem.W.nsIn K mainGlobals "_law_holder" = some (some (.ref f19))) (l19 : K.lookup f19 = some ⟨oc19, od19, .func (PySem.W.fnOf "_law_holder" "_law_holder" (defArgs s__law_holder) (defBody s__law_holder) (defScope s__law_holder) .none kV19 dc19 pm19 an19 cd19 ct19), sl19⟩)
    {f20 : Addr} {od20 an20 : Option Addr} {sl20 : Array (Option Value)} {oc20 kV20 dc20 pm20 cd20 ct20 : Value}
    (a20 : PySem.W.nsIn K mainGlobals "gone" = some (some (.ref f20))) (l20 : K.lookup f20 = some ⟨oc20, od20, .func (PySem.W.fnOf "gone" "gone" (defArgs s_gone) (defBody s_gone) (defScope s_gone) .none kV20 dc20 pm20 an20 cd20 ct20), sl20⟩)
    {f21 : Addr} {od21 an21 : Option Addr} {sl21 : Array (Option Value)} {oc21 kV21 dc21 pm21 cd21 ct21 : Value}
    (a21 : PySem.W.nsIn K mainGlobals "_law_way" = some (some (.ref f21))) (l21 : K.lookup f21 = some ⟨oc21, od21, .func (PySem.W.fnOf "_law_way" "_law_way" (defArgs s__law_way) (defBody s__law_way) (defScope s__law_way) .none kV21 dc21 pm21 an21 cd21 ct21), sl21⟩)
    {f22 : Addr} {od22 an22 : Option Addr} {sl22 : Array (Option Value)} {oc22 kV22 dc22 pm22 cd22 ct22 : Value}
    (a22 : PySem.W.nsIn K mainGlobals "_law_way_between" = some (some (.ref f22))) (l22 : K.lookup f22 = some ⟨oc22, od22, .func (PySem.W.fnOf "_law_way_between" "_law_way_between" (defArgs s__law_way_between) (defBody s__law_way_between) (defScope s__law_way_between) .none kV22 dc22 pm22 an22 cd22 ct22), sl22⟩)
    {f23 : Addr} {od23 an23 : Option Addr} {sl23 : Array (Option Value)} {oc23 kV23 dc23 pm23 cd23 ct23 : Value}
    (a23 : PySem.W.nsIn K mainGlobals "with_way_gone" = some (some (.ref f23))) (l23 : K.lookup f23 = some ⟨oc23, od23, .func (PySem.W.fnOf "with_way_gone" "with_way_gone" (defArgs s_with_way_gone) (defBody s_with_way_gone) (defScope s_with_way_gone) .none kV23 dc23 pm23 an23 cd23 ct23), sl23⟩)
    {f24 : Addr} {od24 an24 : Option Addr} {sl24 : Array (Option Value)} {oc24 kV24 dc24 pm24 cd24 ct24 : Value}
    (a24 : PySem.W.nsIn K mainGlobals "holder" = some (some (.ref f24))) (l24 : K.lookup f24 = some ⟨oc24, od24, .func (PySem.W.fnOf "holder" "holder" (defArgs s_holder) (defBody s_holder) (defScope s_holder) .none kV24 dc24 pm24 an24 cd24 ct24), sl24⟩)
    {f25 : Addr} {od25 an25 : Option Addr} {sl25 : Array (Option Value)} {oc25 kV25 dc25 pm25 cd25 ct25 : Value}
    (a25 : PySem.W.nsIn K mainGlobals "_law_address" = some (some (.ref f25))) (l25 : K.lookup f25 = some ⟨oc25, od25, .func (PySem.W.fnOf "_law_address" "_law_address" (defArgs s__law_address) (defBody s__law_address) (defScope s__law_address) .none kV25 dc25 pm25 an25 cd25 ct25), sl25⟩)
    {f26 : Addr} {od26 an26 : Option Addr} {sl26 : Array (Option Value)} {oc26 kV26 dc26 pm26 cd26 ct26 : Value}
    (a26 : PySem.W.nsIn K mainGlobals "_law_relative" = some (some (.ref f26))) (l26 : K.lookup f26 = some ⟨oc26, od26, .func (PySem.W.fnOf "_law_relative" "_law_relative" (defArgs s__law_relative) (defBody s__law_relative) (defScope s__law_relative) .none kV26 dc26 pm26 an26 cd26 ct26), sl26⟩)
    {f27 : Addr} {od27 an27 : Option Addr} {sl27 : Array (Option Value)} {oc27 kV27 dc27 pm27 cd27 ct27 : Value}
    (a27 : PySem.W.nsIn K mainGlobals "way_between" = some (some (.ref f27))) (l27 : K.lookup f27 = some ⟨oc27, od27, .func (PySem.W.fnOf "way_between" "way_between" (defArgs s_way_between) (defBody s_way_between) (defScope s_way_between) .none kV27 dc27 pm27 an27 cd27 ct27), sl27⟩)
    {f28 : Addr} {od28 an28 : Option Addr} {sl28 : Array (Option Value)} {oc28 kV28 dc28 pm28 cd28 ct28 : Value}
    (a28 : PySem.W.nsIn K mainGlobals "_law_pair" = some (some (.ref f28))) (l28 : K.lookup f28 = some ⟨oc28, od28, .func (PySem.W.fnOf "_law_pair" "_law_pair" (defArgs s__law_pair) (defBody s__law_pair) (defScope s__law_pair) .none kV28 dc28 pm28 an28 cd28 ct28), sl28⟩)
    {f29 : Addr} {od29 an29 : Option Addr} {sl29 : Array (Option Value)} {oc29 kV29 dc29 pm29 cd29 ct29 : Value}
    (a29 : PySem.W.nsIn K mainGlobals "told_from" = some (some (.ref f29))) (l29 : K.lookup f29 = some ⟨oc29, od29, .func (PySem.W.fnOf "told_from" "told_from" (defArgs s_told_from) (defBody s_told_from) (defScope s_told_from) .none kV29 dc29 pm29 an29 cd29 ct29), sl29⟩)
    {f30 : Addr} {od30 an30 : Option Addr} {sl30 : Array (Option Value)} {oc30 kV30 dc30 pm30 cd30 ct30 : Value}
    (a30 : PySem.W.nsIn K mainGlobals "relative" = some (some (.ref f30))) (l30 : K.lookup f30 = some ⟨oc30, od30, .func (PySem.W.fnOf "relative" "relative" (defArgs s_relative) (defBody s_relative) (defScope s_relative) .none kV30 dc30 pm30 an30 cd30 ct30), sl30⟩)
    {f31 : Addr} {od31 an31 : Option Addr} {sl31 : Array (Option Value)} {oc31 kV31 dc31 pm31 cd31 ct31 : Value}
    (a31 : PySem.W.nsIn K mainGlobals "law" = some (some (.ref f31))) (l31 : K.lookup f31 = some ⟨oc31, od31, .func (PySem.W.fnOf "law" "law" (defArgs s_law) (defBody s_law) (defScope s_law) .none kV31 dc31 pm31 an31 cd31 ct31), sl31⟩)
    {qa1_NO_WAY : Addr} {qd1_NO_WAY : Option Addr} {qn1_NO_WAY : Nat} {qs1_NO_WAY : Array (Option Value)} {qa0_NO_WAY : Addr} {qd0_NO_WAY : Option Addr} {qn0_NO_WAY : Nat} {qs0_NO_WAY : Array (Option Value)}
    (e_NO_WAY : PySem.W.nsIn K mainGlobals "NO_WAY" = some (some (.ref qa0_NO_WAY)))
    (y0_NO_WAY : K.lookup qa0_NO_WAY = some ⟨.type "tuple", qd0_NO_WAY, .seq #[.bool false, .ref qa1_NO_WAY, .bool false] qn0_NO_WAY, qs0_NO_WAY⟩)
    (y1_NO_WAY : K.lookup qa1_NO_WAY = some ⟨.type "tuple", qd1_NO_WAY, .seq #[] qn1_NO_WAY, qs1_NO_WAY⟩)
    {t_SCHEME : Tok} (e_SCHEME : PySem.W.nsIn K mainGlobals "SCHEME" = some (some (.int 0 t_SCHEME)))
    {t_HOUSE : Tok} (e_HOUSE : PySem.W.nsIn K mainGlobals "HOUSE" = some (some (.int 1 t_HOUSE)))
    {t_DOOR : Tok} (e_DOOR : PySem.W.nsIn K mainGlobals "DOOR" = some (some (.int 2 t_DOOR)))
    {t_WAY : Tok} (e_WAY : PySem.W.nsIn K mainGlobals "WAY" = some (some (.int 3 t_WAY)))
    {t_QUESTION : Tok} (e_QUESTION : PySem.W.nsIn K mainGlobals "QUESTION" = some (some (.int 4 t_QUESTION)))
    {t_MARK : Tok} (e_MARK : PySem.W.nsIn K mainGlobals "MARK" = some (some (.int 5 t_MARK)))
    {t_ROOTED : Tok} (e_ROOTED : PySem.W.nsIn K mainGlobals "ROOTED" = some (some (.int 0 t_ROOTED)))
    {t_STEPS : Tok} (e_STEPS : PySem.W.nsIn K mainGlobals "STEPS" = some (some (.int 1 t_STEPS)))
    {t_ENDS : Tok} (e_ENDS : PySem.W.nsIn K mainGlobals "ENDS" = some (some (.int 2 t_ENDS)))
    {t_STAY : Tok} (e_STAY : PySem.W.nsIn K mainGlobals "STAY" = some (some (.str (Str.ofString ".") t_STAY)))
    {t_UP : Tok} (e_UP : PySem.W.nsIn K mainGlobals "UP" = some (some (.str (Str.ofString "..") t_UP)))
    (z_len : PySem.W.nsIn K mainGlobals "len" = some none)
    (z_min : PySem.W.nsIn K mainGlobals "min" = some none)
    (z_range : PySem.W.nsIn K mainGlobals "range" = some none)
    (z_isinstance : PySem.W.nsIn K mainGlobals "isinstance" = some none)
    (z_str : PySem.W.nsIn K mainGlobals "str" = some none)
    (z_bool : PySem.W.nsIn K mainGlobals "bool" = some none)
    (z_tuple : PySem.W.nsIn K mainGlobals "tuple" = some none)
    (z_reversed : PySem.W.nsIn K mainGlobals "reversed" = some none)
    (z_int : PySem.W.nsIn K mainGlobals "int" = some none)
    (z_list : PySem.W.nsIn K mainGlobals "list" = some none)
    (kk : (PySem.W.keepIn K (.ref f1) && (PySem.W.keepIn K (.ref f2) && (PySem.W.keepIn K (.ref f3) && (PySem.W.keepIn K (.ref f4) && (PySem.W.keepIn K (.ref f5) && (PySem.W.keepIn K (.ref f6) && (PySem.W.keepIn K (.ref f7) && (PySem.W.keepIn K (.ref f8) && (PySem.W.keepIn K (.ref f9) && (PySem.W.keepIn K (.ref f10) && (PySem.W.keepIn K (.ref f11) && (PySem.W.keepIn K (.ref f12) && (PySem.W.keepIn K (.ref f13) && (PySem.W.keepIn K (.ref f14) && (PySem.W.keepIn K (.ref f15) && (PySem.W.keepIn K (.ref f16) && (PySem.W.keepIn K (.ref f17) && (PySem.W.keepIn K (.ref f18) && (PySem.W.keepIn K (.ref f19) && (PySem.W.keepIn K (.ref f20) && (PySem.W.keepIn K (.ref f21) && (PySem.W.keepIn K (.ref f22) && (PySem.W.keepIn K (.ref f23) && (PySem.W.keepIn K (.ref f24) && (PySem.W.keepIn K (.ref f25) && (PySem.W.keepIn K (.ref f26) && (PySem.W.keepIn K (.ref f27) && (PySem.W.keepIn K (.ref f28) && (PySem.W.keepIn K (.ref f29) && (PySem.W.keepIn K (.ref f30) && (PySem.W.keepIn K (.ref f31)))))))))))))))))))))))))))))))) = true)
    (cc : (PySem.W.codeIn K cd1 "is_whole" && (PySem.W.codeIn K cd2 "is_dot" && (PySem.W.codeIn K cd3 "go_up" && (PySem.W.codeIn K cd4 "can_stay" && (PySem.W.codeIn K cd5 "count_in_common" && (PySem.W.codeIn K cd6 "_law_cell_at" && (PySem.W.codeIn K cd7 "_law_text" && (PySem.W.codeIn K cd8 "_law_same_way" && (PySem.W.codeIn K cd9 "_law_same_pairs" && (PySem.W.codeIn K cd10 "_law_gone" && (PySem.W.codeIn K cd11 "_law_scheme" && (PySem.W.codeIn K cd12 "_law_longer" && (PySem.W.codeIn K cd13 "_law_near" && (PySem.W.codeIn K cd14 "steps_left" && (PySem.W.codeIn K cd15 "_law_step" && (PySem.W.codeIn K cd16 "_law_same" && (PySem.W.codeIn K cd17 "_law_question" && (PySem.W.codeIn K cd18 "_law_mark" && (PySem.W.codeIn K cd19 "_law_holder" && (PySem.W.codeIn K cd20 "gone" && (PySem.W.codeIn K cd21 "_law_way" && (PySem.W.codeIn K cd22 "_law_way_between" && (PySem.W.codeIn K cd23 "with_way_gone" && (PySem.W.codeIn K cd24 "holder" && (PySem.W.codeIn K cd25 "_law_address" && (PySem.W.codeIn K cd26 "_law_relative" && (PySem.W.codeIn K cd27 "way_between" && (PySem.W.codeIn K cd28 "_law_pair" && (PySem.W.codeIn K cd29 "told_from" && (PySem.W.codeIn K cd30 "relative" && (PySem.W.codeIn K cd31 "law"))))))))))))))))))))))))))))))) = true) :
    ∃ fd : FuncData, (∀ (s : Shared) (v : Value), BindsTo s fd ⟨[v], []⟩ [("_law_script", v)]) ∧ ∀ base : Heap, K.In base → base.Ns mainGlobals mg → FnOk l.prog w K mg base CX0 8 fa fd ["_law_script"] (sp_law K) := by
  simp only [Bool.and_eq_true] at kk cc
  obtain ⟨k1, k2, k3, k4, k5, k6, k7, k8, k9, k10, k11, k12, k13, k14, k15, k16, k17, k18, k19, k20, k21, k22, k23, k24, k25, k26, k27, k28, k29, k30, k31⟩ := kk
  obtain ⟨c1, c2, c3, c4, c5, c6, c7, c8, c9, c10, c11, c12, c13, c14, c15, c16, c17, c18, c19, c20, c21, c22, c23, c24, c25, c26, c27, c28, c29, c30, c31⟩ := cc
  have e := hfa.symm.trans (PySem.W.mg_of X Gl a31)
  have e2 : f31 = fa := by cases e; rfl
  subst e2
  let g : G K mg := {
    a_is_whole := f1, fd_is_whole := _, F_is_whole := fun_mk (st := s_is_whole) l1 c1 k1, m_is_whole := PySem.W.mg_of X Gl a1,
    b_is_whole := (fun_mk (st := s_is_whole) l1 c1 k1).binds (ps := ["address"]) fun _ _ _ _ _ _ us hl => match us, hl with | [_], _ => rfl,
    a_is_dot := f2, fd_is_dot := _, F_is_dot := fun_mk (st := s_is_dot) l2 c2 k2, m_is_dot := PySem.W.mg_of X Gl a2,
    b_is_dot := (fun_mk (st := s_is_dot) l2 c2 k2).binds (ps := ["step"]) fun _ _ _ _ _ _ us hl => match us, hl with | [_], _ => rfl,
    a_go_up := f3, fd_go_up := _, F_go_up := fun_mk (st := s_go_up) l3 c3 k3, m_go_up := PySem.W.mg_of X Gl a3,
    b_go_up := (fun_mk (st := s_go_up) l3 c3 k3).binds (ps := ["left", "rooted"]) fun _ _ _ _ _ _ us hl => match us, hl with | [_, _], _ => rfl,
    a_can_stay := f4, fd_can_stay := _, F_can_stay := fun_mk (st := s_can_stay) l4 c4 k4, m_can_stay := PySem.W.mg_of X Gl a4,
    b_can_stay := (fun_mk (st := s_can_stay) l4 c4 k4).binds (ps := ["base", "goal"]) fun _ _ _ _ _ _ us hl => match us, hl with | [_, _], _ => rfl,
    a_count_in_common := f5, fd_count_in_common := _, F_count_in_common := fun_mk (st := s_count_in_common) l5 c5 k5, m_count_in_common := PySem.W.mg_of X Gl a5,
    b_count_in_common := (fun_mk (st := s_count_in_common) l5 c5 k5).binds (ps := ["one", "other"]) fun _ _ _ _ _ _ us hl => match us, hl with | [_, _], _ => rfl,
    a__law_cell_at := f6, fd__law_cell_at := _, F__law_cell_at := fun_mk (st := s__law_cell_at) l6 c6 k6, m__law_cell_at := PySem.W.mg_of X Gl a6,
    b__law_cell_at := (fun_mk (st := s__law_cell_at) l6 c6 k6).binds (ps := ["_law_script", "_law_k"]) fun _ _ _ _ _ _ us hl => match us, hl with | [_, _], _ => rfl,
    a__law_text := f7, fd__law_text := _, F__law_text := fun_mk (st := s__law_text) l7 c7 k7, m__law_text := PySem.W.mg_of X Gl a7,
    b__law_text := (fun_mk (st := s__law_text) l7 c7 k7).binds (ps := ["_law_cell", "_law_most"]) fun _ _ _ _ _ _ us hl => match us, hl with | [_, _], _ => rfl,
    a__law_same_way := f8, fd__law_same_way := _, F__law_same_way := fun_mk (st := s__law_same_way) l8 c8 k8, m__law_same_way := PySem.W.mg_of X Gl a8,
    b__law_same_way := (fun_mk (st := s__law_same_way) l8 c8 k8).binds (ps := ["_law_found", "_law_due"]) fun _ _ _ _ _ _ us hl => match us, hl with | [_, _], _ => rfl,
    a__law_same_pairs := f9, fd__law_same_pairs := _, F__law_same_pairs := fun_mk (st := s__law_same_pairs) l9 c9 k9, m__law_same_pairs := PySem.W.mg_of X Gl a9,
    b__law_same_pairs := (fun_mk (st := s__law_same_pairs) l9 c9 k9).binds (ps := ["_law_found"]) fun _ _ _ _ _ _ us hl => match us, hl with | [_], _ => rfl,
    a__law_gone := f10, fd__law_gone := _, F__law_gone := fun_mk (st := s__law_gone) l10 c10 k10, m__law_gone := PySem.W.mg_of X Gl a10,
    b__law_gone := (fun_mk (st := s__law_gone) l10 c10 k10).binds (ps := ["_law_way_here"]) fun _ _ _ _ _ _ us hl => match us, hl with | [_], _ => rfl,
    a__law_scheme := f11, fd__law_scheme := _, F__law_scheme := fun_mk (st := s__law_scheme) l11 c11 k11, m__law_scheme := PySem.W.mg_of X Gl a11,
    b__law_scheme := (fun_mk (st := s__law_scheme) l11 c11 k11).binds (ps := ["_law_cell"]) fun _ _ _ _ _ _ us hl => match us, hl with | [_], _ => rfl,
    a__law_longer := f12, fd__law_longer := _, F__law_longer := fun_mk (st := s__law_longer) l12 c12 k12, m__law_longer := PySem.W.mg_of X Gl a12,
    b__law_longer := (fun_mk (st := s__law_longer) l12 c12 k12).binds (ps := ["_law_address_here"]) fun _ _ _ _ _ _ us hl => match us, hl with | [_], _ => rfl,
    a__law_near := f13, fd__law_near := _, F__law_near := fun_mk (st := s__law_near) l13 c13 k13, m__law_near := PySem.W.mg_of X Gl a13,
    b__law_near := (fun_mk (st := s__law_near) l13 c13 k13).binds (ps := ["_law_base", "_law_goal", "_law_way_here"]) fun _ _ _ _ _ _ us hl => match us, hl with | [_, _, _], _ => rfl,
    a_steps_left := f14, fd_steps_left := _, F_steps_left := fun_mk (st := s_steps_left) l14 c14 k14, m_steps_left := PySem.W.mg_of X Gl a14,
    b_steps_left := (fun_mk (st := s_steps_left) l14 c14 k14).binds (ps := ["steps", "rooted"]) fun _ _ _ _ _ _ us hl => match us, hl with | [_, _], _ => rfl,
    a__law_step := f15, fd__law_step := _, F__law_step := fun_mk (st := s__law_step) l15 c15 k15, m__law_step := PySem.W.mg_of X Gl a15,
    b__law_step := (fun_mk (st := s__law_step) l15 c15 k15).binds (ps := ["_law_cell"]) fun _ _ _ _ _ _ us hl => match us, hl with | [_], _ => rfl,
    a__law_same := f16, fd__law_same := _, F__law_same := fun_mk (st := s__law_same) l16 c16 k16, m__law_same := PySem.W.mg_of X Gl a16,
    b__law_same := (fun_mk (st := s__law_same) l16 c16 k16).binds (ps := ["_law_found", "_law_due"]) fun _ _ _ _ _ _ us hl => match us, hl with | [_, _], _ => rfl,
    a__law_question := f17, fd__law_question := _, F__law_question := fun_mk (st := s__law_question) l17 c17 k17, m__law_question := PySem.W.mg_of X Gl a17,
    b__law_question := (fun_mk (st := s__law_question) l17 c17 k17).binds (ps := ["_law_cell"]) fun _ _ _ _ _ _ us hl => match us, hl with | [_], _ => rfl,
    a__law_mark := f18, fd__law_mark := _, F__law_mark := fun_mk (st := s__law_mark) l18 c18 k18, m__law_mark := PySem.W.mg_of X Gl a18,
    b__law_mark := (fun_mk (st := s__law_mark) l18 c18 k18).binds (ps := ["_law_cell"]) fun _ _ _ _ _ _ us hl => match us, hl with | [_], _ => rfl,
    a__law_holder := f19, fd__law_holder := _, F__law_holder := fun_mk (st := s__law_holder) l19 c19 k19, m__law_holder := PySem.W.mg_of X Gl a19,
    b__law_holder := (fun_mk (st := s__law_holder) l19 c19 k19).binds (ps := ["_law_way_here"]) fun _ _ _ _ _ _ us hl => match us, hl with | [_], _ => rfl,
    a_gone := f20, fd_gone := _, F_gone := fun_mk (st := s_gone) l20 c20 k20, m_gone := PySem.W.mg_of X Gl a20,
    b_gone := (fun_mk (st := s_gone) l20 c20 k20).binds (ps := ["way"]) fun _ _ _ _ _ _ us hl => match us, hl with | [_], _ => rfl,
    a__law_way := f21, fd__law_way := _, F__law_way := fun_mk (st := s__law_way) l21 c21 k21, m__law_way := PySem.W.mg_of X Gl a21,
    b__law_way := (fun_mk (st := s__law_way) l21 c21 k21).binds (ps := ["_law_cells", "_law_rooted", "_law_ends"]) fun _ _ _ _ _ _ us hl => match us, hl with | [_, _, _], _ => rfl,
    a__law_way_between := f22, fd__law_way_between := _, F__law_way_between := fun_mk (st := s__law_way_between) l22 c22 k22, m__law_way_between := PySem.W.mg_of X Gl a22,
    b__law_way_between := (fun_mk (st := s__law_way_between) l22 c22 k22).binds (ps := ["_law_old", "_law_new"]) fun _ _ _ _ _ _ us hl => match us, hl with | [_, _], _ => rfl,
    a_with_way_gone := f23, fd_with_way_gone := _, F_with_way_gone := fun_mk (st := s_with_way_gone) l23 c23 k23, m_with_way_gone := PySem.W.mg_of X Gl a23,
    b_with_way_gone := (fun_mk (st := s_with_way_gone) l23 c23 k23).binds (ps := ["address"]) fun _ _ _ _ _ _ us hl => match us, hl with | [_], _ => rfl,
    a_holder := f24, fd_holder := _, F_holder := fun_mk (st := s_holder) l24 c24 k24, m_holder := PySem.W.mg_of X Gl a24,
    b_holder := (fun_mk (st := s_holder) l24 c24 k24).binds (ps := ["way"]) fun _ _ _ _ _ _ us hl => match us, hl with | [_], _ => rfl,
    a__law_address := f25, fd__law_address := _, F__law_address := fun_mk (st := s__law_address) l25 c25 k25, m__law_address := PySem.W.mg_of X Gl a25,
    b__law_address := (fun_mk (st := s__law_address) l25 c25 k25).binds (ps := ["_law_script", "_law_first", "_law_whole", "_law_cells"]) fun _ _ _ _ _ _ us hl => match us, hl with | [_, _, _, _], _ => rfl,
    a__law_relative := f26, fd__law_relative := _, F__law_relative := fun_mk (st := s__law_relative) l26 c26 k26, m__law_relative := PySem.W.mg_of X Gl a26,
    b__law_relative := (fun_mk (st := s__law_relative) l26 c26 k26).binds (ps := ["_law_base", "_law_goal"]) fun _ _ _ _ _ _ us hl => match us, hl with | [_, _], _ => rfl,
    a_way_between := f27, fd_way_between := _, F_way_between := fun_mk (st := s_way_between) l27 c27 k27, m_way_between := PySem.W.mg_of X Gl a27,
    b_way_between := (fun_mk (st := s_way_between) l27 c27 k27).binds (ps := ["base_way", "goal_way"]) fun _ _ _ _ _ _ us hl => match us, hl with | [_, _], _ => rfl,
    a__law_pair := f28, fd__law_pair := _, F__law_pair := fun_mk (st := s__law_pair) l28 c28 k28, m__law_pair := PySem.W.mg_of X Gl a28,
    b__law_pair := (fun_mk (st := s__law_pair) l28 c28 k28).binds (ps := ["_law_script"]) fun _ _ _ _ _ _ us hl => match us, hl with | [_], _ => rfl,
    a_told_from := f29, fd_told_from := _, F_told_from := fun_mk (st := s_told_from) l29 c29 k29, m_told_from := PySem.W.mg_of X Gl a29,
    b_told_from := (fun_mk (st := s_told_from) l29 c29 k29).binds (ps := ["base", "goal"]) fun _ _ _ _ _ _ us hl => match us, hl with | [_, _], _ => rfl,
    a_relative := f30, fd_relative := _, F_relative := fun_mk (st := s_relative) l30 c30 k30, m_relative := PySem.W.mg_of X Gl a30,
    b_relative := (fun_mk (st := s_relative) l30 c30 k30).binds (ps := ["base", "goal"]) fun _ _ _ _ _ _ us hl => match us, hl with | [_, _], _ => rfl,
    a_law := f31, fd_law := _, F_law := fun_mk (st := s_law) l31 c31 k31, m_law := PySem.W.mg_of X Gl a31,
    b_law := (fun_mk (st := s_law) l31 c31 k31).binds (ps := ["_law_script"]) fun _ _ _ _ _ _ us hl => match us, hl with | [_], _ => rfl,
    p_NO_WAY := qa0_NO_WAY, c_NO_WAY := PySem.W.mg_of X Gl e_NO_WAY, q_NO_WAY := fun H => (.tup (xs := [.bl false, .ref qa1_NO_WAY, .bl false]) (.inr ⟨_, _, _, y0_NO_WAY, rfl, rfl, (by show 3 ≤ sizeLine; decide), (.cons rfl (.cons rfl (.cons rfl .nil)))⟩) (.cons (.bl _) (.cons (.tup (xs := []) (.inr ⟨_, _, _, y1_NO_WAY, rfl, rfl, (by show 0 ≤ sizeLine; decide), .nil⟩) .nil) (.cons (.bl _) .nil)))),
    t_SCHEME := t_SCHEME, c_SCHEME := PySem.W.mg_of X Gl e_SCHEME,
    t_HOUSE := t_HOUSE, c_HOUSE := PySem.W.mg_of X Gl e_HOUSE,
    t_DOOR := t_DOOR, c_DOOR := PySem.W.mg_of X Gl e_DOOR,
    t_WAY := t_WAY, c_WAY := PySem.W.mg_of X Gl e_WAY,
    t_QUESTION := t_QUESTION, c_QUESTION := PySem.W.mg_of X Gl e_QUESTION,
    t_MARK := t_MARK, c_MARK := PySem.W.mg_of X Gl e_MARK,
    t_ROOTED := t_ROOTED, c_ROOTED := PySem.W.mg_of X Gl e_ROOTED,
    t_STEPS := t_STEPS, c_STEPS := PySem.W.mg_of X Gl e_STEPS,
    t_ENDS := t_ENDS, c_ENDS := PySem.W.mg_of X Gl e_ENDS,
    t_STAY := t_STAY, c_STAY := PySem.W.mg_of X Gl e_STAY,
    t_UP := t_UP, c_UP := PySem.W.mg_of X Gl e_UP,
    b_len := PySem.W.mg_none_of X Gl z_len,
    b_min := PySem.W.mg_none_of X Gl z_min,
    b_range := PySem.W.mg_none_of X Gl z_range,
    b_isinstance := PySem.W.mg_none_of X Gl z_isinstance,
    b_str := PySem.W.mg_none_of X Gl z_str,
    b_bool := PySem.W.mg_none_of X Gl z_bool,
    b_tuple := PySem.W.mg_none_of X Gl z_tuple,
    b_reversed := PySem.W.mg_none_of X Gl z_reversed,
    b_int := PySem.W.mg_none_of X Gl z_int,
    b_list := PySem.W.mg_none_of X Gl z_list }
  exact ⟨g.fd_law, fun s v => .of_eq rfl, fun base _ _ => ok_law g⟩
theorem walk {l : PySem.W.OpenLaw} {q : Program} {loose : List Str} {XP : (Str → Option Value) → Heap → Prop} {YP : World → Heap → Prop} {d : DefRec} {K : Params → PySem.W.Frag} (hn : l.most = some 63) (hdf : d.params.defaults = [])
    (hY : ∀ (w : World) (h : Heap), YP w h → (K w.params).In h)
    (F : ∀ (w : World) (mg : Str → Option Value) (fa : Addr) (h : Heap), (K w.params).In h → h.Ns mainGlobals mg → mg d.name = some (.ref fa) →
      ∃ fd : FuncData, (∀ (s : Shared) (u : Value), BindsTo s fd ⟨[u], []⟩ [("_law_script", u)]) ∧ ∀ base : Heap, (K w.params).In base → base.Ns mainGlobals mg → FnOk l.prog w (K w.params) mg base CX0 8 fa fd ["_law_script"] (sp_law (K w.params))) :
    PySem.W.WalkO q loose XP YP l.row.toRowW d [] (fun f vs => PySem.call f vs) :=
  L2.walk_of (n := 63) (k := 8) (x := "_law_script") (CX := fun _ => CX0) (sp := fun w => sp_law (K w.params)) hn (by decide) hdf ⟨rfl, by decide, by decide⟩ hY F (fun _ _ a ns hl _ hS => ⟨a, ns, rfl, hS, hl, fun _ => rfl⟩) fun _ _ _ _ _ z => z
end Wm
open PySem PySem.W PyProof.Rows
set_option maxRecDepth 100000 in
set_option maxHeartbeats 0 in
theorem PySem.Challenge.cw_waymark_k30_told_relative_holds : PySem.Challenge.rw_waymark_k30_told_relative.Holds := by
  w_on; o_law; k_head; (case hw => w_witness2)
  k_fill
  refine Wm.walk (l := PySem.Challenge.rw_waymark_k30_told_relative) rfl rfl (fun w h Y => PySem.W.kIn_of Y) ?F
  case F =>
    intro w mg fa h KX G hmg
    refine' Wm.all_mk KX G hmg ?a1 ?l1 ?a2 ?l2 ?a3 ?l3 ?a4 ?l4 ?a5 ?l5 ?a6 ?l6 ?a7 ?l7 ?a8 ?l8 ?a9 ?l9 ?a10 ?l10 ?a11 ?l11 ?a12 ?l12 ?a13 ?l13 ?a14 ?l14 ?a15 ?l15 ?a16 ?l16 ?a17 ?l17 ?a18 ?l18 ?a19 ?l19 ?a20 ?l20 ?a21 ?l21 ?a22 ?l22 ?a23 ?l23 ?a24 ?l24 ?a25 ?l25 ?a26 ?l26 ?a27 ?l27 ?a28 ?l28 ?a29 ?l29 ?a30 ?l30 ?a31 ?l31 ?e_NO_WAY ?y0_NO_WAY ?y1_NO_WAY ?e_SCHEME ?e_HOUSE ?e_DOOR ?e_WAY ?e_QUESTION ?e_MARK ?e_ROOTED ?e_STEPS ?e_ENDS ?e_STAY ?e_UP ?z_len ?z_min ?z_range ?z_isinstance ?z_str ?z_bool ?z_tuple ?z_reversed ?z_int ?z_list ?kk ?cc
    (case a1 => k_is)
    (case l1 => k_is)
    (case a2 => k_is)
    (case l2 => k_is)
    (case a3 => k_is)
    (case l3 => k_is)
    (case a4 => k_is)
    (case l4 => k_is)
    (case a5 => k_is)
    (case l5 => k_is)
    (case a6 => k_is)
    (case l6 => k_is)
    (case a7 => k_is)
    (case l7 => k_is)
    (case a8 => k_is)
    (case l8 => k_is)
    (case a9 => k_is)
    (case l9 => k_is)
    (case a10 => k_is)
    (case l10 => k_is)
    (case a11 => k_is)
    (case l11 => k_is)
    (case a12 => k_is)
    (case l12 => k_is)
    (case a13 => k_is)
    (case l13 => k_is)
    (case a14 => k_is)
    (case l14 => k_is)
    (case a15 => k_is)
    (case l15 => k_is)
    (case a16 => k_is)
    (case l16 => k_is)
    (case a17 => k_is)
    (case l17 => k_is)
    (case a18 => k_is)
    (case l18 => k_is)
    (case a19 => k_is)
    (case l19 => k_is)
    (case a20 => k_is)
    (case l20 => k_is)
    (case a21 => k_is)
    (case l21 => k_is)
    (case a22 => k_is)
    (case l22 => k_is)
    (case a23 => k_is)
    (case l23 => k_is)
    (case a24 => k_is)
    (case l24 => k_is)
    (case a25 => k_is)
    (case l25 => k_is)
    (case a26 => k_is)
    (case l26 => k_is)
    (case a27 => k_is)
    (case l27 => k_is)
    (case a28 => k_is)
    (case l28 => k_is)
    (case a29 => k_is)
    (case l29 => k_is)
    (case a30 => k_is)
    (case l30 => k_is)
    (case a31 => k_is)
    (case l31 => k_is)
    (case e_NO_WAY => k_is)
    (case y0_NO_WAY => k_is)
    (case y1_NO_WAY => k_is)
    (case e_SCHEME => k_is)
    (case e_HOUSE => k_is)
    (case e_DOOR => k_is)
    (case e_WAY => k_is)
    (case e_QUESTION => k_is)
    (case e_MARK => k_is)
    (case e_ROOTED => k_is)
    (case e_STEPS => k_is)
    (case e_ENDS => k_is)
    (case e_STAY => k_is)
    (case e_UP => k_is)
    (case z_len => k_is)
    (case z_min => k_is)
    (case z_range => k_is)
    (case z_isinstance => k_is)
    (case z_str => k_is)
    (case z_bool => k_is)
    (case z_tuple => k_is)
    (case z_reversed => k_is)
    (case z_int => k_is)
    (case z_list => k_is)
    (case kk => first | k_is | with_unfolding_all kernel_rfl | with_unfolding_all rfl)
    (case cc => first | k_is | with_unfolding_all kernel_rfl | with_unfolding_all rfl)
