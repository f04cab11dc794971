import PyProof.Rows.All
import Wide.All
import OpenK.AllK
import Wide.FinOn
import Lean
import PyProof.EqAt
import PyProof.EqKinds
import PyProof.TupleCall
import PySem.Challenge.RW_waymark_k53_steps_and_single_pieces
set_option Elab.async false
set_option linter.all false
set_option maxRecDepth 100000
/-! THE HAND LAYER, for ints, bools, texts, own classes, LISTS and tuples (index, slices, in, append, pop ..), calls, loops. Paste it whole ahead of your own text; what your proof does not reach may be deleted. -/
namespace L2
open PySem PySem.Spec PyProof.Rows

/-- a key: an int or a str -/
abbrev Key := Sum Int Str
def keyIs : Key → Value → Bool
  | .inl k, v => Value.isInt k v
  | .inr x, v => Value.isStrOf x v
def keyH (w : World) : Key → Int
  | .inl k => hashInt k
  | .inr x => hashStr w x
theorem keyIs_shape : ∀ {k : Key} {v : Value}, keyIs k v = true → (∃ i t, k = Sum.inl i ∧ v = Value.int i t) ∨ (∃ x t, k = Sum.inr x ∧ v = Value.str x t)
  | .inl i, v, h => by
    obtain ⟨t, e⟩ := Value.isInt_shape (k := i) (v := v) h
    exact .inl ⟨i, t, rfl, e⟩
  | .inr x, v, h => by
    obtain ⟨t, e⟩ := Value.isStrOf_shape (x := x) (v := v) h
    exact .inr ⟨x, t, rfl, e⟩
theorem key_ll (a b : Int) : decide ((Sum.inl a : Key) = Sum.inl b) = (a == b) := by
  by_cases e : a = b
  · subst e; simp
  · have h : ¬ (Sum.inl a : Key) = Sum.inl b := fun q => e (Sum.inl.inj q)
    rw [decide_eq_false h]
    exact (beq_eq_false_iff_ne.mpr e).symm
theorem key_rr (a b : Str) : decide ((Sum.inr a : Key) = Sum.inr b) = decide (a = b) := by
  by_cases e : a = b
  · subst e; simp
  · have h : ¬ (Sum.inr a : Key) = Sum.inr b := fun q => e (Sum.inr.inj q)
    rw [decide_eq_false h, decide_eq_false e]
theorem key_lr (a : Int) (b : Str) : decide ((Sum.inl a : Key) = Sum.inr b) = false := decide_eq_false (fun q => nomatch q)
theorem key_rl (a : Str) (b : Int) : decide ((Sum.inr a : Key) = Sum.inl b) = false := decide_eq_false (fun q => nomatch q)

def mixKind (prog : Program) (w : World) : PySem.KeyKind prog w Key where
  is := keyIs
  hash := keyH w
  inj := fun v a b ha hb => by
    rcases keyIs_shape ha with ⟨i, t, rfl, rfl⟩ | ⟨x, t, rfl, rfl⟩
    · rcases keyIs_shape hb with ⟨j, u, rfl, e⟩ | ⟨y, u, rfl, e⟩
      · injection e with e1 _; rw [e1]
      · exact nomatch e
    · rcases keyIs_shape hb with ⟨j, u, rfl, e⟩ | ⟨y, u, rfl, e⟩
      · exact nomatch e
      · injection e with e1 _; rw [e1]
  byValue := fun k v h => by
    rcases keyIs_shape h with ⟨i, t, rfl, rfl⟩ | ⟨x, t, rfl, rfl⟩ <;> rfl
  pyHash := fun hv h => by
    rcases keyIs_shape hv with ⟨i, t, rfl, rfl⟩ | ⟨x, t, rfl, rfl⟩
    · exact wpAny_pyHash_int h
    · exact wpAny_pyHash_str h
  eqBool := fun hu hv h => by
    rcases keyIs_shape hu with ⟨i, t, rfl, rfl⟩ | ⟨x, t, rfl, rfl⟩
    · rcases keyIs_shape hv with ⟨j, u, rfl, rfl⟩ | ⟨y, u, rfl, rfl⟩
      · rw [key_ll] at h; exact wpAny_eqBool_int h
      · rw [key_lr] at h; exact SeqAt.EqAt.int_str i t y u _ _ _ _ h
    · rcases keyIs_shape hv with ⟨j, u, rfl, rfl⟩ | ⟨y, u, rfl, rfl⟩
      · rw [key_rl] at h; exact SeqAt.EqAt.str_int x t j u _ _ _ _ h
      · rw [key_rr] at h; exact wpAny_eqBool_str h
  «strs» := fun k x t v h => by
    rcases keyIs_shape h with ⟨i, u, rfl, e⟩ | ⟨y, u, rfl, e⟩
    · exact nomatch e
    · injection e with e1 _
      subst e1
      cases v <;> rfl

end L2

namespace L2
open PySem PySem.Spec PyProof.Rows

/-- a value, without the heap -/
inductive V where
  | non | bl (b : Bool) | int (i : Int) | str (x : Str) | byt (b : Array UInt8) | flt (b : UInt64) | ref (a : Addr) | ty (n : String)
  deriving DecidableEq

def RelV : V → Value → Prop
  | .non, u => u = Value.none
  | .bl b, u => u = Value.bool b
  | .int i, u => ∃ t, u = Value.int i t
  | .str x, u => ∃ t, u = Value.str x t
  | .byt b, u => ∃ t, u = Value.bytes b t
  | .flt b, u => ∃ t, u = Value.float b t
  | .ref a, u => u = Value.ref a
  | .ty n, u => u = Value.type n

abbrev Vals : List V → List Value → Prop := Paired RelV
theorem Vals.length {xs : List V} {us : List Value} (r : Vals xs us) : xs.length = us.length := Paired.length r
theorem Vals.get : ∀ {xs : List V} {us : List Value} {i : Nat} {x : V}, Vals xs us → xs[i]? = some x → ∃ u, us[i]? = some u ∧ RelV x u
  | _, _, _, _, .nil, e => by simp at e
  | _, _, 0, _, .cons r _, e => by simp at e; subst e; exact ⟨_, rfl, r⟩
  | _, _, i + 1, x, .cons _ t, e => by
    obtain ⟨u, h1, h2⟩ := Vals.get (i := i) (x := x) t (by simpa using e)
    exact ⟨u, by simpa using h1, h2⟩
theorem Vals.set {x : V} {u : Value} (r : RelV x u) : ∀ {xs : List V} {us : List Value} (i : Nat), Vals xs us → Vals (xs.set i x) (us.set i u)
  | _, _, _, .nil => .nil
  | _, _, 0, .cons _ t => .cons r t
  | _, _, i + 1, .cons q t => .cons q (Vals.set r i t)
theorem Vals.append : ∀ {xs ys : List V} {us ws : List Value}, Vals xs us → Vals ys ws → Vals (xs ++ ys) (us ++ ws)
  | _, _, _, _, .nil, s => s
  | _, _, _, _, .cons r t, s => .cons r (Vals.append t s)
theorem Vals.take : ∀ {xs : List V} {us : List Value} (n : Nat), Vals xs us → Vals (xs.take n) (us.take n)
  | _, _, 0, _ => .nil
  | _, _, _ + 1, .nil => .nil
  | _, _, n + 1, .cons r t => .cons r (Vals.take n t)
theorem Vals.drop : ∀ {xs : List V} {us : List Value} (n : Nat), Vals xs us → Vals (xs.drop n) (us.drop n)
  | _, _, 0, r => r
  | _, _, _ + 1, .nil => .nil
  | _, _, n + 1, .cons _ t => Vals.drop n t
def RelO : Option V → Option Value → Prop
  | some v, some u => RelV v u
  | none, none => True
  | _, _ => False
def KV {κ : Type} : List (κ × V) → List (κ × Value) → Prop := Paired fun (p : κ × V) (q : κ × Value) => p.1 = q.1 ∧ RelV p.2 q.2

/-- a key of a dict (00_mix): an int or a text -/
def kV : Key → V
  | .inl i => .int i
  | .inr x => .str x

/-- what stands at a tracked address -/
inductive HO where
  /-- a list -/
  | lst (xs : List V)
  /-- a tuple (never changes) -/
  | tup (xs : List V)
  /-- a dict whose keys are ints and texts; one whose keys are tuples of ints and texts (the empty one is both) -/
  | dK (kvs : List (Key × V)) | dT (kvs : List (List Key × V))
  /-- a set of ints: its members, its size -/
  | set (S : Int → Bool) (n : Nat)
  /-- an instance of the class at C, its dict at dx, its attributes -/
  | ins (C dx : Addr) (fs : List (Str × V))
  /-- the dict of the instance at x -/
  | own (x : Addr)
  /-- the dict of an exception -/
  | xd (fs : List (Str × V))
  /-- a bound method, f of x -/
  | met (f x : Addr)
  /-- a range object lo, lo + 1, .. below hi -/
  | rng (lo hi : Int)
  /-- a thing that is known to the object (the script; a dict while a loop walks it): read, never written while it is so -/
  | frz (o : Obj) (u : HO)
  /-- a code object's table -/
  | tbl (ps : Array Value)
  /-- any other thing, by what is true of its one object (a def of one's own: SetO a S n := HO.ext fun h => ..) -/
  | ext (φ : Heap → Prop)

abbrev Hp := Addr → Option HO
def upd (H : Hp) (a : Addr) (o : HO) : Hp := fun b => if b = a then some o else H b
theorem upd_same {H : Hp} {a : Addr} {o : HO} : upd H a o a = some o := by unfold upd; rw [if_pos rfl]
theorem upd_ne {H : Hp} {a b : Addr} {o : HO} (h : b ≠ a) : upd H a o b = H b := by unfold upd; rw [if_neg h]
/-- two objects of different content stand apart -/
theorem ne_of {H : Hp} {a b : Addr} {o u : HO} (h : H a = some o) (h' : H b = some u) (d : o ≠ u) : a ≠ b := by
  intro e; subst e; rw [h] at h'; exact d (Option.some.inj h')
theorem ne_of_none {H : Hp} {a b : Addr} {o : HO} (h : H a = some o) (h' : H b = none) : a ≠ b := by
  intro e; subst e; rw [h] at h'; cases h'

section
variable (P : Program) (w : World)
def ObjOk (H : Hp) (h : Heap) (a : Addr) : HO → Prop
  | .lst xs => xs.length ≤ sizeLine ∧ ∃ (its : List Value) (n : Nat), Vals xs its ∧ h.get? a = some { cls := .type "list", data := .seq its.toArray n }
  | .tup xs => xs.length ≤ sizeLine ∧ ∃ its : List Value, Vals xs its ∧ IsTup h a its.toArray
  | .dK kvs => kvs.length ≤ sizeLine ∧ (a == sysModules) = false ∧ ∃ vs, KV kvs vs ∧ h.DictOf (mixKind P w) a vs
  | .dT kvs => kvs.length ≤ sizeLine ∧ (a == sysModules) = false ∧ ∃ xs : List (List Key × Addr × Value),
      Paired (fun (p : List Key × V) (q : List Key × Addr × Value) => p.1 = q.1 ∧ H q.2.1 = some (.tup (p.1.map kV)) ∧ RelV p.2 q.2.2) kvs xs ∧
      ∃ o es ep, h.get? a = some o ∧ o.ExactDict ∧ o.data = .dict es ep ∧ es.toList = xs.map (entryOfKey (tupleKind (mixKind P w))) ∧ (xs.map (·.1)).Nodup
  | .set S n => h.SetOf (intKind P w) a S n
  | .ins C dx fs => H dx = some (.own a) ∧ fs.length ≤ 1000 ∧ dx ≠ a ∧ h.get? a = some (PySem.W.instObj C dx) ∧
      ∃ mA, h.Ns1 dx mA ∧ (∀ f, RelO (fs.lookup f) (mA f)) ∧ PySem.Within mA (fs.map (·.1))
  | .own _ => ∃ o, h.get? a = some o
  | .xd fs => ∃ mA, h.Ns1 a mA ∧ ∀ f, RelO (fs.lookup f) (mA f)
  | .rng lo hi => ∃ t u v, h.get? a = some { cls := .type "range", data := .fields #[.int lo t, .int hi u, .int 1 v] }
  | .frz o u => h.get? a = some o ∧ ObjOk H h a u
  | .tbl ps => h.get? a = some { cls := .none, data := .fields ps }
  | .met f x => h.get? a = some (PySem.W.methodObj (.ref f) (.ref x))
  | .ext φ => φ h ∧ (∃ o, h.get? a = some o) ∧ ∀ h1 h2 : Heap, φ h1 → (∀ o, h1.get? a = some o → h2.get? a = some o) → φ h2
/-- the abstract heap is held -/
def HOk (H : Hp) (h : Heap) : Prop := ∀ a o, H a = some o → ObjOk P w H h a o
end

section
variable {P : Program} {w : World} {H H' : Hp} {h h' : Heap} {a : Addr} {o : HO}
theorem ObjOk.lt (x : ObjOk P w H h a o) : a < h.objs.size := by
  cases o with
  | lst xs => obtain ⟨_, _, _, _, e⟩ := x; exact Heap.lt_size e
  | tup xs => obtain ⟨_, _, _, p⟩ := x; exact p.lt
  | dK kvs => obtain ⟨_, _, _, _, o, _, _, e, _⟩ := x; exact Heap.lt_size e
  | dT kvs => obtain ⟨_, _, _, _, o, _, _, e, _⟩ := x; exact Heap.lt_size e
  | set S n => obtain ⟨o, _, _, _, e, _⟩ := x; exact Heap.lt_size e
  | ins C dx fs => obtain ⟨_, _, _, e, _⟩ := x; exact Heap.lt_size e
  | own y => obtain ⟨_, e⟩ := x; exact Heap.lt_size e
  | xd fs => obtain ⟨_, ⟨_, _, _, e, _⟩, _⟩ := x; exact Heap.lt_size e
  | rng lo hi => obtain ⟨_, _, _, e⟩ := x; exact Heap.lt_size e
  | frz ob u => obtain ⟨e, _⟩ := x; exact Heap.lt_size e
  | tbl ps => exact Heap.lt_size (show h.get? a = some _ from x)
  | met f y => exact Heap.lt_size (show h.get? a = some _ from x)
  | ext φ => obtain ⟨_, ⟨_, e⟩, _⟩ := x; exact Heap.lt_size e
theorem Paired.mapP {α β : Type} {F G : α → β → Prop} : ∀ {l₁ : List α} {l₂ : List β}, Paired F l₁ l₂ → (∀ a b, F a b → G a b) → Paired G l₁ l₂
  | _, _, .nil, _ => .nil
  | _, _, .cons r t, f => .cons (f _ _ r) (Paired.mapP t f)
/-- what an object's description leans on: its own object, its own dict, the tuples -/
theorem ObjOk.stay (x : ObjOk P w H h a o) (k : ∀ b u, (b = a ∨ H b = some (.own a)) → h.get? b = some u → h'.get? b = some u)
    (ho : ∀ b, H b = some (.own a) → H' b = some (.own a)) (ht : ∀ b xs, H b = some (.tup xs) → H' b = some (.tup xs)) : ObjOk P w H' h' a o := by
  induction o with
  | lst xs => obtain ⟨z, its, n, r, e⟩ := x; exact ⟨z, its, n, r, k _ _ (.inl rfl) e⟩
  | tup xs => obtain ⟨z, its, r, ob, e, c⟩ := x; exact ⟨z, its, r, ob, k _ _ (.inl rfl) e, c⟩
  | dK kvs => obtain ⟨z, y, vs, r, ob, es, ep, e, c⟩ := x; exact ⟨z, y, vs, r, ob, es, ep, k _ _ (.inl rfl) e, c⟩
  | dT kvs =>
    obtain ⟨z, y, xs, r, ob, es, ep, e, c⟩ := x
    exact ⟨z, y, xs, Paired.mapP r fun p q z => ⟨z.1, ht _ _ z.2.1, z.2.2⟩, ob, es, ep, k _ _ (.inl rfl) e, c⟩
  | set S n => obtain ⟨ob, es, ep, t, e, c⟩ := x; exact ⟨ob, es, ep, t, k _ _ (.inl rfl) e, c⟩
  | ins C dx fs =>
    obtain ⟨d, z, ne, e, mA, ⟨od, es, ep, e2, c⟩, r⟩ := x
    exact ⟨ho _ d, z, ne, k _ _ (.inl rfl) e, mA, ⟨od, es, ep, k _ _ (.inr d) e2, c⟩, r⟩
  | own y => obtain ⟨ob, e⟩ := x; exact ⟨ob, k _ _ (.inl rfl) e⟩
  | xd fs => obtain ⟨mA, ⟨od, es, ep, e, c⟩, r⟩ := x; exact ⟨mA, ⟨od, es, ep, k _ _ (.inl rfl) e, c⟩, r⟩
  | rng lo hi => obtain ⟨t, u, v, e⟩ := x; exact ⟨t, u, v, k _ _ (.inl rfl) e⟩
  | frz ob u ih => obtain ⟨e, q⟩ := x; exact ⟨k _ _ (.inl rfl) e, ih q⟩
  | tbl ps =>
    have e : h.get? a = some { cls := .none, data := .fields ps } := x
    show h'.get? a = some { cls := .none, data := .fields ps }
    exact k a _ (.inl rfl) e
  | met f y =>
    have e : h.get? a = some (PySem.W.methodObj (.ref f) (.ref y)) := x
    show h'.get? a = some (PySem.W.methodObj (.ref f) (.ref y))
    exact k a _ (.inl rfl) e
  | ext φ => obtain ⟨p, ⟨o, e⟩, st⟩ := x; exact ⟨st _ _ p fun o q => k _ _ (.inl rfl) q, ⟨o, k _ _ (.inl rfl) e⟩, st⟩
theorem HOk.lt (x : HOk P w H h) (e : H a = some o) : a < h.objs.size := (x a o e).lt
theorem HOk.fresh (x : HOk P w H h) (e : h.objs.size ≤ a) : H a = none := by
  cases q : H a with
  | none => rfl
  | some u => exact absurd (Nat.lt_of_lt_of_le (x.lt q) e) (Nat.lt_irrefl _)
/-- every object of the heap is kept -/
theorem HOk.kept (x : HOk P w H h) (k : ∀ b u, h.get? b = some u → h'.get? b = some u) : HOk P w H h' := fun a o e =>
  (x a o e).stay (fun b u _ q => k b u q) (fun _ q => q) fun _ _ q => q
/-- a new object is laid and tracked -/
theorem HOk.laid (x : HOk P w H h) (k : ∀ b u, h.get? b = some u → h'.get? b = some u) (hp : h.objs.size ≤ a) (new : ObjOk P w (upd H a o) h' a o) : HOk P w (upd H a o) h' := fun b u e => by
  have hn := x.fresh hp
  by_cases hb : b = a
  · subst hb; rw [upd_same] at e; cases e; exact new
  · rw [upd_ne hb] at e
    exact (x b u e).stay (fun c v _ q => k c v q) (fun c q => by rw [upd_ne (ne_of_none q hn)]; exact q) fun c xs q => by rw [upd_ne (ne_of_none q hn)]; exact q
end

/-- what may be read as u: it is u, or a known u -/
def Rd (H : Hp) (a : Addr) (u : HO) : Prop := H a = some u ∨ ∃ o, H a = some (.frz o u)
theorem Rd.of {H : Hp} {a : Addr} {u : HO} (h : H a = some u) : Rd H a u := .inl h
theorem Rd.ok {P : Program} {w : World} {H : Hp} {h : Heap} {a : Addr} {u : HO} (r : Rd H a u) (x : HOk P w H h) : ObjOk P w H h a u := by
  rcases r with r | ⟨o, r⟩
  · exact x a u r
  · obtain ⟨_, q⟩ := x a _ r
    exact q
/-- what may be written -/
def Mut : Option HO → Prop
  | some (.lst _) => True
  | some (.dK _) => True
  | some (.dT _) => True
  | some (.set _ _) => True
  | some (.ins _ _ _) => True
  | some (.ext _) => True
  | _ => False
section
variable {P : Program} {w : World} {H : Hp} {h h' : Heap} {x e : Addr} {o' : HO}
/-- the object at e is changed: x itself, or the dict of the instance x -/
theorem HOk.write (ok : HOk P w H h) (mu : Mut (H x)) (he : e = x ∨ H e = some (.own x)) (k : ∀ b u, b ≠ e → h.get? b = some u → h'.get? b = some u) (heo : ∃ u, h'.get? e = some u)
    (new : ObjOk P w (upd H x o') h' x o') : HOk P w (upd H x o') h' := fun b u q => by
  have nown : ∀ c y, H c = some (.own y) → c ≠ x := fun c y r z => by subst z; rw [r] at mu; exact mu
  have ntup : ∀ c xs, H c = some (.tup xs) → c ≠ x := fun c xs r z => by subst z; rw [r] at mu; exact mu
  by_cases hb : b = x
  · subst hb; rw [upd_same] at q; cases q; exact new
  · rw [upd_ne hb] at q
    by_cases hbe : b = e
    · have q' : H b = some (.own x) := by
        rcases he with z | z
        · exact absurd (hbe.trans z) hb
        · rw [hbe]; exact z
      rw [q] at q'; cases q'
      obtain ⟨v, hv⟩ := heo
      exact ⟨v, by rw [hbe]; exact hv⟩
    · refine (ok b u q).stay (fun c v hc r => k c v ?_ r) (fun c r => by rw [upd_ne (nown c b r)]; exact r) fun c xs r => by rw [upd_ne (ntup c xs r)]; exact r
      rcases hc with rfl | hc
      · exact hbe
      · rintro rfl
        rcases he with z | z
        · exact nown c b hc z
        · rw [hc] at z; cases z; exact hb rfl
end

/-! ### kept unless tracked; of the frames at fs (the callers') the slots may change (an exception that passes writes there); of the records at ex (iterators) nothing is said -/
structure Un (fs ex : List Addr) (H H' : Hp) (h h' : Heap) : Prop where
  keep : ∀ b o, h.get? b = some o → H b = none → b ∉ fs → b ∉ ex → h'.get? b = some o
  slot : ∀ b o, h.get? b = some o → H b = none → b ∈ fs → b ∉ ex → ∃ sl, h'.get? b = some { o with slots := sl }
  free : ∀ b o, h.get? b = some o → H b = none → b ∉ ex → H' b = none
  there : ∀ b o, h.get? b = some o → b ∉ ex → ∃ o', h'.get? b = some o'
  tups : ∀ b xs, H b = some (.tup xs) → H' b = some (.tup xs)
  frzs : ∀ b o u, H b = some (.frz o u) → H' b = some (.frz o u)
  tbls : ∀ b ps, H b = some (.tbl ps) → ∃ more, H' b = some (.tbl (ps ++ more))
section
variable {fs fs' ex ex' : List Addr} {H H1 H2 : Hp} {h h1 h2 h' : Heap} {a x e : Addr} {o : HO}
theorem Un.any (u : Un fs ex H H1 h h1) {b : Addr} {ob : Obj} (q : h.get? b = some ob) (n : H b = none) (hx : b ∉ ex) : ∃ sl, h1.get? b = some { ob with slots := sl } := by
  by_cases hb : b ∈ fs
  · exact u.slot b ob q n hb hx
  · exact ⟨ob.slots, u.keep b ob q n hb hx⟩
theorem Un.trans (a : Un fs ex H H1 h h1) (b : Un fs ex H1 H2 h1 h2) : Un fs ex H H2 h h2 where
  keep := fun c ob q n hc hx => b.keep c ob (a.keep c ob q n hc hx) (a.free c ob q n hx) hc hx
  slot := fun c ob q n hc hx => by
    obtain ⟨sl, e1⟩ := a.slot c ob q n hc hx
    obtain ⟨sl', e2⟩ := b.slot c _ e1 (a.free c ob q n hx) hc hx
    exact ⟨sl', e2⟩
  free := fun c ob q n hx => by
    obtain ⟨o', e1⟩ := a.there c ob q hx
    exact b.free c o' e1 (a.free c ob q n hx) hx
  there := fun c ob q hx => by
    obtain ⟨o', e1⟩ := a.there c ob q hx
    exact b.there c o' e1 hx
  tups := fun c xs q => b.tups c xs (a.tups c xs q)
  frzs := fun c ob xs q => b.frzs c ob xs (a.frzs c ob xs q)
  tbls := fun c ps q => by
    obtain ⟨m1, e1⟩ := a.tbls c ps q
    obtain ⟨m2, e2⟩ := b.tbls c _ e1
    exact ⟨m1 ++ m2, by rw [e2, Array.append_assoc]⟩
theorem Un.kept (k : ∀ b u, h.get? b = some u → h'.get? b = some u) : Un fs ex H H h h' :=
  ⟨fun b ob q _ _ _ => k b ob q, fun b ob q _ _ _ => ⟨ob.slots, k b ob q⟩, fun _ _ _ n _ => n, fun b ob q _ => ⟨ob, k b ob q⟩, fun _ _ q => q, fun _ _ _ q => q, fun _ ps q => ⟨#[], by rw [q]; simp⟩⟩
theorem Un.refl : Un fs ex H H h h := Un.kept fun _ _ q => q
theorem Un.laid (k : ∀ b u, h.get? b = some u → h'.get? b = some u) (hp : h.objs.size ≤ a) (hn : H a = none) : Un fs ex H (upd H a o) h h' where
  keep := fun b u q _ _ _ => k b u q
  slot := fun b u q _ _ _ => ⟨u.slots, k b u q⟩
  free := fun b u q n _ => by rw [upd_ne (Nat.ne_of_lt (Nat.lt_of_lt_of_le (Heap.lt_size q) hp))]; exact n
  there := fun b u q _ => ⟨u, k b u q⟩
  tups := fun b xs q => by rw [upd_ne (ne_of_none q hn)]; exact q
  frzs := fun b u xs q => by rw [upd_ne (ne_of_none q hn)]; exact q
  tbls := fun b ps q => ⟨#[], by rw [upd_ne (ne_of_none q hn), q]; simp⟩
theorem Un.write (mu : Mut (H x)) (he : e = x ∨ H e = some (.own x)) (k : ∀ b u, b ≠ e → h.get? b = some u → h'.get? b = some u) (heo : ∃ u, h'.get? e = some u) : Un fs ex H (upd H x o) h h' := by
  have hx : ∀ b, H b = none → b ≠ x := fun b n z => by subst z; rw [n] at mu; exact mu
  have hb : ∀ b, H b = none → b ≠ e := fun b n z => by
    subst z
    rcases he with r | r
    · exact hx b n r
    · rw [n] at r; cases r
  have hm : ∀ b u, H b = some u → ¬ Mut (some u) → b ≠ x := fun b u q nm z => by subst z; rw [q] at mu; exact nm mu
  refine ⟨fun b u q n _ _ => k b u (hb b n) q, fun b u q n _ _ => ⟨u.slots, k b u (hb b n) q⟩, fun b u q n _ => by rw [upd_ne (hx b n)]; exact n, fun b u q _ => ?_,
    fun b xs q => by rw [upd_ne (hm b _ q fun z => z)]; exact q, fun b u xs q => by rw [upd_ne (hm b _ q fun z => z)]; exact q, fun b ps q => ⟨#[], by rw [upd_ne (hm b _ q fun z => z), q]; simp⟩⟩
  by_cases hbe : b = e
  · subst hbe; exact heo
  · exact ⟨u, k b u hbe q⟩
theorem Un.mono (u : Un fs ex H H1 h h1) (hs : ∀ b ∈ fs, b ∈ fs') (hx : ∀ b ∈ ex, b ∈ ex') : Un fs' ex' H H1 h h1 :=
  ⟨fun b ob q n hb he => u.keep b ob q n (fun z => hb (hs b z)) fun z => he (hx b z), fun _ _ q n _ he => u.any q n fun z => he (hx _ z), fun b ob q n he => u.free b ob q n fun z => he (hx b z), fun b ob q he => u.there b ob q fun z => he (hx b z), u.tups, u.frzs, u.tbls⟩
end

/-! ### the heap without what is tracked -/
def trk (h : Heap) (H : Hp) : List Addr := (List.range h.objs.size).filter fun a => (H a).isSome
def hidT (h : Heap) (H : Hp) : Heap := PySem.W.hideAll h (trk h H)
theorem hidT_size (h : Heap) (H : Hp) : (hidT h H).objs.size = h.objs.size := PySem.W.hideAll_size _ _
theorem hidT_get {h : Heap} {H : Hp} {b : Addr} {o : Obj} (e : h.get? b = some o) (n : H b = none) : (hidT h H).get? b = some o :=
  PySem.W.hideAll_get _ e fun hm => by
    have q : (H b).isSome = true := (List.mem_filter.mp hm).2
    rw [n] at q; simp at q
theorem of_hidT {h : Heap} {H : Hp} {b : Addr} {o : Obj} (e : (hidT h H).get? b = some o) : h.get? b = some o ∧ H b = none := by
  have e' : h.get? b = some o := PySem.W.of_hideAll (trk h H) e
  refine ⟨e', ?_⟩
  cases q : H b with
  | none => rfl
  | some x =>
    have hm : b ∈ trk h H := List.mem_filter.mpr ⟨List.mem_range.mpr (Heap.lt_size e'), by simp [q]⟩
    have z : (hidT h H).get? b = none := PySem.W.hideAll_none (trk h H) hm
    rw [z] at e; cases e

/-! ### OpenK's ledger, filled with every new object but one -/
def allNews (g h : Heap) (L : Addr) : List (Addr × Obj) := (List.range h.objs.size).filterMap fun a => if a = L ∨ (g.get? a).isSome = true then none else (h.get? a).map fun o => (a, o)
def rest (g h : Heap) (L d : Addr) : List (Addr × Obj) := (allNews g h L).filter fun p => decide (p.1 ≠ d)
end L2

namespace L2
open PySem PySem.Spec PyProof.Rows

/-- the module's facts, over the base: the heap at the law's entry without what is tracked there -/
structure Mod (K : PySem.W.Frag) (mg : Str → Option Value) (base : Heap) : Prop where
  kin : K.In base
  glob : base.Ns mainGlobals mg
  blt : ∃ mb, base.Ns builtinsNs mb ∧ ∀ x : Str, x ≠ "__name__" → mb x = bootBuiltins x
  nolimit : base.NoLimit

/-- the context: a def's body (or a comprehension's block) running. base: fixed through the whole law; s₀, H₀: the entry; outer: the frames whose slots others may change (a def's callers); stack: all frames that run;
   ex: iterators that were made ahead of the entry and are walked here (a comprehension's); fn: the names whose cells were made at the entry (a def: all; a comprehension's block: its own); calm: not within an except suite; pn: pins that every state bears; xe: what is wanted of an exception that leaves the code -/
structure Cx where
  prog : Program
  w : World
  K : PySem.W.Frag
  mg : Str → Option Value
  base : Heap
  A : Around
  N : List Str
  s₀ : Shared
  H₀ : Hp
  env : Env
  outer : List Env
  stack : List Env
  ex : List Addr
  fn : Str → Bool
  calm : Bool
  pn : List (Addr × Obj)
  xe : Value → Shared → Prop
/-- the callers' frames -/
def frs (l : List Env) : List Addr := l.filterMap (·.frame)
abbrev Cx.fs (X : Cx) : List Addr := frs X.outer

def Vis (sc : Scope) (x : Str) : Prop := sc.names.lookup x = some .local ∨ sc.names.lookup x = some .cell ∨ sc.names.lookup x = some .free
def Loc (sc : Scope) (x : Str) : Prop := sc.names.lookup x = some .local ∨ sc.names.lookup x = some .cell
def Look (env : Env) (h : Heap) (m : Str → Option Value) (x : Str) (u : Value) : Prop :=
  (env.kindOf x = some .local ∧ m x = some u) ∨ ((env.kindOf x = some .cell ∨ env.kindOf x = some .free) ∧ ∃ c, env.cells.lookup x = some c ∧ h.IsCell c (some u))

structure Cx.Ok (X : Cx) : Prop where
  mod : Mod X.K X.mg X.base
  kind : X.env.scope.kind = .function
  glob : X.env.globals = mainGlobals
  blt : X.env.builtins = builtinsNs
  above : X.s₀.heap.objs.size ≤ X.env.locals
  inj : ∀ x y c, X.env.cells.lookup x = some c → X.env.cells.lookup y = some c → x = y
  has : ∀ x, (X.env.kindOf x = some .cell ∨ X.env.kindOf x = some .free) → ∃ c, X.env.cells.lookup x = some c
  cab : ∀ x c, X.fn x = true → X.env.cells.lookup x = some c → X.s₀.heap.objs.size ≤ c
  hd : X.calm = true → X.A.handled = none
  frames : X.A.frames = some X.stack
  stk : X.stack = X.outer ∨ (X.stack = X.env :: X.outer ∧ X.env.frame = some X.env.locals)
  exf : ∀ b ∈ X.ex, b ≠ X.env.locals ∧ ∀ x c, X.env.cells.lookup x = some c → c ≠ b
  bs : ∀ b o, X.base.get? b = some o → X.s₀.heap.get? b = some o ∧ X.H₀ b = none
  bsz : X.base.objs.size ≤ X.s₀.heap.objs.size
  noex : ∀ b o, X.base.get? b = some o → b ∉ X.ex
  exfs : ∀ b ∈ X.ex, b ∉ X.fs
  funs : X.s₀.heap.FunFrames X.base X.outer
  frf : ∀ b ∈ X.fs, X.H₀ b = none

structure Inv (X : Cx) (pins : List (Addr × Obj)) (σ : List (Option V)) (H : Hp) (s : Shared) : Prop where
  ok : X.Ok
  os : s.os = X.s₀.os
  bare : AllBare s.gens
  base : Un X.fs X.ex X.H₀ H X.s₀.heap s.heap
  loc : ∃ m, s.heap.Ns X.env.locals m ∧ ∀ (i : Nat) (x : Str) (v : V), X.N[i]? = some x → σ[i]? = some (some v) → Vis X.env.scope x → ∃ u, RelV v u ∧ Look X.env s.heap m x u
  cell : ∀ x c, X.env.cells.lookup x = some c → ∃ v, s.heap.IsCell c v
  free : H X.env.locals = none
  freeC : ∀ x c, X.env.cells.lookup x = some c → H c = none
  pin : ∀ p ∈ X.pn ++ pins, s.heap.get? p.1 = some p.2 ∧ H p.1 = none ∧ p.1 ≠ X.env.locals ∧ p.1 ∉ X.fs ∧ ∀ v, p.2.data ≠ .cell v
  hok : HOk X.prog X.w H s.heap
  len : σ.length = X.N.length

section
variable {X : Cx} {pins : List (Addr × Obj)} {σ : List (Option V)} {H H' : Hp} {s : Shared} {h' : Heap}

theorem Cx.Ok.nofr (ok : X.Ok) {b : Addr} {o : Obj} (e : X.base.get? b = some o) : b ∉ X.fs := fun hb => by
  have := (ok.funs.mem hb).1
  rw [e] at this; cases this
theorem Inv.bs (I : Inv X pins σ H s) : ∀ b o, X.base.get? b = some o → s.heap.get? b = some o ∧ H b = none := fun b o e =>
  ⟨I.base.keep b o (I.ok.bs b o e).1 (I.ok.bs b o e).2 (I.ok.nofr e) (I.ok.noex b o e), I.base.free b o (I.ok.bs b o e).1 (I.ok.bs b o e).2 (I.ok.noex b o e)⟩
theorem Inv.bk (I : Inv X pins σ H s) : ∀ b o, X.base.get? b = some o → s.heap.get? b = some o := fun b o e => (I.bs b o e).1
theorem Inv.mod (I : Inv X pins σ H s) : Mod X.K X.mg X.base := I.ok.mod
theorem Inv.kIn (I : Inv X pins σ H s) : X.K.In s.heap := I.ok.mod.kin.keeps I.bk
theorem Inv.nolimit (I : Inv X pins σ H s) : s.heap.NoLimit := I.ok.mod.nolimit.keeps I.bk
/-- the frame over the base: for OpenK's rules (K.In X.base is I.mod.kin) -/
theorem Inv.fr (I : Inv X pins σ H s) : ∃ m, Fr X.base X.env.locals s.heap m :=
  let ⟨m, hn, _⟩ := I.loc
  ⟨m, hn, I.bk, Nat.le_trans I.ok.bsz I.ok.above⟩
theorem Inv.lt (I : Inv X pins σ H s) : X.env.locals < s.heap.objs.size := let ⟨_, hn, _⟩ := I.loc; hn.lt
theorem Inv.sz (I : Inv X pins σ H s) : X.s₀.heap.objs.size ≤ s.heap.objs.size := Nat.le_trans I.ok.above (Nat.le_of_lt I.lt)
theorem Inv.nofs (I : Inv X pins σ H s) {a : Addr} (h : s.heap.objs.size ≤ a) : a ∉ X.fs := fun hb => by
  obtain ⟨_, o, ho, _⟩ := I.ok.funs.mem hb
  exact absurd (Nat.lt_of_lt_of_le (Heap.lt_size ho) (Nat.le_trans I.sz h)) (Nat.lt_irrefl _)
theorem Inv.cne (I : Inv X pins σ H s) : ∀ x c, X.env.cells.lookup x = some c → c ≠ X.env.locals := fun x c e z => by
  obtain ⟨v, o, ho, hd⟩ := I.cell x c e
  obtain ⟨m, ⟨o', es, ep, ho', hd', _⟩, _⟩ := I.loc
  rw [z, ho'] at ho; cases ho; rw [hd'] at hd; cases hd
theorem Inv.funs (I : Inv X pins σ H s) : s.heap.FunFrames X.base X.outer := by
  have all : ∀ (l : List Env), (∀ b ∈ frs l, b ∈ X.fs) → X.s₀.heap.FunFrames X.base l → s.heap.FunFrames X.base l := by
    intro l
    induction l with
    | nil => intro _ _; trivial
    | cons env r ih =>
      intro hs hl
      obtain ⟨hk, ⟨L, o, hf, hn, ho, hd⟩, hr⟩ := hl
      have hL : L ∈ X.fs := hs L (by unfold frs; rw [List.filterMap_cons, hf]; exact List.mem_cons_self)
      obtain ⟨sl, e⟩ := I.base.slot L o ho (I.ok.frf L hL) hL fun z => I.ok.exfs L z hL
      exact ⟨hk, ⟨L, _, hf, hn, e, hd⟩, ih (fun b hb => hs b (by unfold frs; rw [List.filterMap_cons, hf]; exact List.mem_cons_of_mem _ hb)) hr⟩
  exact all X.outer (fun _ hb => hb) I.ok.funs

/-- the frames that run, for a call -/
theorem Inv.stack (I : Inv X pins σ H s) : s.heap.FunFrames X.base X.stack := by
  rcases I.ok.stk with e | ⟨e, hf⟩
  · rw [e]; exact I.funs
  · rw [e]
    obtain ⟨m, hn, _⟩ := I.loc
    refine .cons (by rw [I.ok.kind]; decide) hf hn ?_ I.funs
    exact Heap.get?_none_of_le (Nat.le_trans I.ok.bsz I.ok.above)
theorem Inv.stkSub (I : Inv X pins σ H s) : ∀ b ∈ frs X.stack, b ∈ X.env.locals :: X.fs := fun b hb => by
  rcases I.ok.stk with e | ⟨e, hf⟩
  · rw [e] at hb; exact List.mem_cons_of_mem _ hb
  · rw [e] at hb
    unfold frs at hb
    rw [List.filterMap_cons, hf] at hb
    exact hb
theorem Inv.stkFree (I : Inv X pins σ H s) : ∀ b ∈ frs X.stack, H b = none := fun b hb => by
  rcases List.mem_cons.mp (I.stkSub b hb) with e | hb
  · rw [e]; exact I.free
  · obtain ⟨_, o, ho, _⟩ := I.ok.funs.mem hb
    exact I.base.free b o ho (I.ok.frf b hb) fun z => I.ok.exfs b z hb

/-- THE STEP: the untracked objects but the frame and the records at ch are kept (the callers' frames up to slots), the frame's map is kept, the new abstract heap is held -/
theorem Inv.step {g' : Array GenState} {t' : Nat} {d' : Drawn} {ch : List Addr} (I : Inv X pins σ H s)
    (hch : ∀ b ∈ ch, (b ∈ X.ex ∨ X.s₀.heap.objs.size ≤ b) ∧ b ≠ X.env.locals ∧ (∀ x c, X.env.cells.lookup x = some c → c ≠ b) ∧ ∀ p ∈ X.pn ++ pins, p.1 ≠ b)
    (keep : ∀ b o, b ≠ X.env.locals → b ∉ X.fs → b ∉ ch → s.heap.get? b = some o → H b = none → h'.get? b = some o)
    (slot : ∀ b o, b ≠ X.env.locals → b ∈ X.fs → b ∉ ch → s.heap.get? b = some o → H b = none → ∃ sl, h'.get? b = some { o with slots := sl }) (free : ∀ b o, b ∉ ch → s.heap.get? b = some o → H b = none → H' b = none)
    (there : ∀ b o, b ∉ ch → s.heap.get? b = some o → ∃ o', h'.get? b = some o')
    (tups : ∀ b xs, H b = some (.tup xs) → H' b = some (.tup xs)) (frzs : ∀ b o u, H b = some (.frz o u) → H' b = some (.frz o u)) (tbls : ∀ b ps, H b = some (.tbl ps) → ∃ more, H' b = some (.tbl (ps ++ more)))
    (ns : ∀ m, s.heap.Ns X.env.locals m → h'.Ns X.env.locals m) (hok : HOk X.prog X.w H' h') (hg : AllBare g') :
    Inv X pins σ H' { s with heap := h', gens := g', drawn := d', toks := t' } := by
  have neL : ∀ b o, X.s₀.heap.get? b = some o → b ≠ X.env.locals := fun b o e => Nat.ne_of_lt (Nat.lt_of_lt_of_le (Heap.lt_size e) I.ok.above)
  have neC : ∀ b o, X.s₀.heap.get? b = some o → b ∉ X.ex → b ∉ ch := fun b o e hx hb => by
    rcases (hch b hb).1 with z | z
    · exact hx z
    · exact absurd (Nat.lt_of_lt_of_le (Heap.lt_size e) z) (Nat.lt_irrefl _)
  have cellK : ∀ x c, X.env.cells.lookup x = some c → ∀ v, s.heap.IsCell c v → h'.IsCell c v := fun x c e v ⟨o, ho, hd⟩ => by
    have nch : c ∉ ch := fun z => (hch c z).2.2.1 x c e rfl
    by_cases hc : c ∈ X.fs
    · obtain ⟨sl, q⟩ := slot c o (I.cne x c e) hc nch ho (I.freeC x c e)
      exact ⟨_, q, hd⟩
    · exact ⟨o, keep c o (I.cne x c e) hc nch ho (I.freeC x c e), hd⟩
  refine ⟨I.ok, I.os, hg, ⟨fun b o e n hb hx => ?_, fun b o e n hb hx => ?_, fun b o e n hx => ?_, fun b o e hx => ?_, fun b xs e => tups b xs (I.base.tups b xs e), fun b o xs e => frzs b o xs (I.base.frzs b o xs e), fun b ps e => ?_⟩, ?_, fun x c e => ?_, ?_, fun x c e => ?_, fun p hp => ?_, hok, I.len⟩
  · exact keep b o (neL b o e) hb (neC b o e hx) (I.base.keep b o e n hb hx) (I.base.free b o e n hx)
  · obtain ⟨sl, e1⟩ := I.base.slot b o e n hb hx
    obtain ⟨sl', e2⟩ := slot b _ (neL b o e) hb (neC b o e hx) e1 (I.base.free b o e n hx)
    exact ⟨sl', e2⟩
  · obtain ⟨o', e1⟩ := I.base.there b o e hx
    exact free b o' (neC b o e hx) e1 (I.base.free b o e n hx)
  · obtain ⟨o', e1⟩ := I.base.there b o e hx
    exact there b o' (neC b o e hx) e1
  · obtain ⟨m1, e1⟩ := I.base.tbls b ps e
    obtain ⟨m2, e2⟩ := tbls b _ e1
    exact ⟨m1 ++ m2, by rw [e2, Array.append_assoc]⟩
  · obtain ⟨m, hn, hl⟩ := I.loc
    refine ⟨m, ns m hn, fun i x v e1 e2 e3 => ?_⟩
    obtain ⟨u, r, l⟩ := hl i x v e1 e2 e3
    refine ⟨u, r, ?_⟩
    rcases l with l | ⟨k, c, e, z⟩
    · exact .inl l
    · exact .inr ⟨k, c, e, cellK x c e _ z⟩
  · obtain ⟨v, z⟩ := I.cell x c e
    exact ⟨v, cellK x c e v z⟩
  · obtain ⟨m, ⟨o, _, _, ho, _⟩, _⟩ := I.loc
    exact free _ o (fun z => (hch _ z).2.1 rfl) ho I.free
  · obtain ⟨v, o, ho, hd⟩ := I.cell x c e
    exact free c o (fun z => (hch c z).2.2.1 x c e rfl) ho (I.freeC x c e)
  · obtain ⟨e, n, ne, nf, d⟩ := I.pin p hp
    have nch : p.1 ∉ ch := fun z => (hch p.1 z).2.2.2 p hp rfl
    exact ⟨keep p.1 p.2 ne nf nch e n, free p.1 p.2 nch e n, ne, nf, d⟩
/-- .. where the frame's own object is kept too -/
theorem Inv.un {t' : Nat} (I : Inv X pins σ H s) (u : Un X.fs [] H H' s.heap h') (hok : HOk X.prog X.w H' h') : Inv X pins σ H' { s with heap := h', toks := t' } := by
  obtain ⟨m, ⟨o, es, ep, ho, r⟩, _⟩ := id I.loc
  obtain ⟨sl, hL⟩ := u.any ho I.free (by simp)
  exact I.step (g' := s.gens) (d' := s.drawn) (ch := []) (fun _ z => nomatch z) (fun b o _ hb _ e n => u.keep b o e n hb (by simp)) (fun b o _ hb _ e n => u.slot b o e n hb (by simp)) (fun b o _ e n => u.free b o e n (by simp)) (fun b o _ e => u.there b o e (by simp)) u.tups u.frzs u.tbls (fun m' hm => by
    obtain ⟨o', es', ep', ho', r'⟩ := hm
    rw [ho] at ho'; cases ho'
    exact ⟨_, es', ep', hL, r'⟩) hok I.bare
/-- behind a call (or a comprehension's block): the slots of this frame may have changed too, the records at ch may have turned -/
theorem Inv.call {g' : Array GenState} {t' : Nat} {d' : Drawn} {ch : List Addr} (I : Inv X pins σ H s) (u : Un (frs X.stack) ch H H' s.heap h') (hok : HOk X.prog X.w H' h') (hg : AllBare g')
    (hch : ∀ b ∈ ch, (b ∈ X.ex ∨ X.s₀.heap.objs.size ≤ b) ∧ b ≠ X.env.locals ∧ (∀ x c, X.env.cells.lookup x = some c → c ≠ b) ∧ ∀ p ∈ X.pn ++ pins, p.1 ≠ b) :
    Inv X pins σ H' { s with heap := h', gens := g', drawn := d', toks := t' } := by
  obtain ⟨m, ⟨o, es, ep, ho, r⟩, _⟩ := id I.loc
  obtain ⟨sl, hL⟩ := u.any ho I.free fun z => (hch _ z).2.1 rfl
  exact I.step (ch := ch) hch (fun b o hL hb hc e n => u.keep b o e n (fun z => (List.mem_cons.mp (I.stkSub b z)).elim hL hb) hc) (fun b o _ _ hc e n => u.any e n hc) (fun b o hc e n => u.free b o e n hc) (fun b o hc e => u.there b o e hc) u.tups u.frzs u.tbls (fun m' hm => by
    obtain ⟨o', es', ep', ho', r'⟩ := hm
    rw [ho] at ho'; cases ho'
    exact ⟨_, es', ep', hL, r'⟩) hok hg
/-- an untracked record of ours (an iterator) has turned -/
theorem Inv.turned {t' : Nat} {it : Addr} (I : Inv X pins σ H s) (k : ∀ b o, b ≠ it → s.heap.get? b = some o → h'.get? b = some o) (hn : H it = none) (hL : it ≠ X.env.locals)
    (h1 : it ∈ X.ex ∨ X.s₀.heap.objs.size ≤ it) (h2 : ∀ x c, X.env.cells.lookup x = some c → c ≠ it) (h3 : ∀ p ∈ X.pn ++ pins, p.1 ≠ it) : Inv X pins σ H { s with heap := h', toks := t' } := by
  have nit : ∀ b u, H b = some u → b ≠ it := fun b u e z => by rw [z, hn] at e; cases e
  refine I.step (g' := s.gens) (d' := s.drawn) (ch := [it]) (fun b hb => ?_) (fun b o _ _ hc e _ => k b o (fun z => hc (by simp [z])) e) (fun b o _ _ hc e _ => ⟨o.slots, k b o (fun z => hc (by simp [z])) e⟩) (fun _ _ _ _ n => n)
    (fun b o hc e => ⟨o, k b o (fun z => hc (by simp [z])) e⟩) (fun _ _ e => e) (fun _ _ _ e => e) (fun b ps e => ⟨#[], by rw [e]; simp⟩) (fun m hm => ?_) (fun b u e => ?_) I.bare
  · have e : b = it := by simpa using hb
    subst e
    exact ⟨h1, hL, h2, h3⟩
  · obtain ⟨o, es, ep, ho, r⟩ := hm
    exact ⟨o, es, ep, k _ o (Ne.symm hL) ho, r⟩
  · refine (I.hok b u e).stay (fun c v hc q => k c v ?_ q) (fun _ q => q) fun _ _ q => q
    rcases hc with z | z
    · rw [z]; exact nit b u e
    · exact nit c _ z
theorem Inv.tok (I : Inv X pins σ H s) (t : Nat) : Inv X pins σ H { s with toks := t } := I.un (h' := s.heap) (t' := t) Un.refl I.hok
/-- all objects kept -/
theorem Inv.kept {t' : Nat} (I : Inv X pins σ H s) (k : ∀ b u, s.heap.get? b = some u → h'.get? b = some u) : Inv X pins σ H { s with heap := h', toks := t' } := I.un (Un.kept k) (I.hok.kept k)
/-- a new object laid and tracked -/
theorem Inv.laid {a : Addr} {o : HO} {t' : Nat} (I : Inv X pins σ H s) (k : ∀ b u, s.heap.get? b = some u → h'.get? b = some u) (hp : s.heap.objs.size ≤ a) (new : ObjOk X.prog X.w (upd H a o) h' a o) :
    Inv X pins σ (upd H a o) { s with heap := h', toks := t' } := I.un (Un.laid k hp (I.hok.fresh hp)) (I.hok.laid k hp new)
/-- an object written -/
theorem Inv.write {x e : Addr} {o : HO} {t' : Nat} (I : Inv X pins σ H s) (mu : Mut (H x)) (he : e = x ∨ H e = some (.own x)) (k : ∀ b u, b ≠ e → s.heap.get? b = some u → h'.get? b = some u) (heo : ∃ u, h'.get? e = some u)
    (new : ObjOk X.prog X.w (upd H x o) h' x o) : Inv X pins σ (upd H x o) { s with heap := h', toks := t' } := I.un (Un.write mu he k heo) (I.hok.write mu he k heo new)
theorem Inv.pins_of {pins' : List (Addr × Obj)} (I : Inv X pins σ H s) (h : ∀ p ∈ pins', s.heap.get? p.1 = some p.2 ∧ H p.1 = none ∧ p.1 ≠ X.env.locals ∧ p.1 ∉ X.fs ∧ ∀ v, p.2.data ≠ .cell v) : Inv X pins' σ H s :=
  ⟨I.ok, I.os, I.bare, I.base, I.loc, I.cell, I.free, I.freeC, fun p hp => (List.mem_append.mp hp).elim (fun z => I.pin p (List.mem_append_left _ z)) (h p), I.hok, I.len⟩

theorem nodup_ix {N : List Str} (hN : N.Nodup) {i j : Nat} {x : Str} (a : N[i]? = some x) (b : N[j]? = some x) : i = j := by
  obtain ⟨h1, e1⟩ := List.getElem?_eq_some_iff.mp a
  obtain ⟨h2, e2⟩ := List.getElem?_eq_some_iff.mp b
  exact (List.getElem_inj hN).mp (e1.trans e2.symm)

/-- a name is stored; what changed -/
theorem store_ok2 {M : Model} {A : Around} {E : Value → Shared → Prop} {i : Nat} {x : Str} {v : V} {u : Value} {Q : Unit → Shared → Prop} (I : Inv X pins σ H s) (hN : X.N.Nodup) (hi : X.N[i]? = some x) (hx : Loc X.env.scope x) (r : RelV v u)
    (h : ∀ s', Inv X pins (σ.set i (some v)) H s' → (∃ a, Heap.SameBut a s.heap s'.heap ∧ (a = X.env.locals ∨ X.env.cells.lookup x = some a)) → Q () s') (hf : X.fn x = true ∨ X.env.scope.names.lookup x = some .local := by first | exact .inl rfl | exact .inr rfl | assumption) : wpAny M A (storeName X.env x u) Q E s := by
  obtain ⟨m, hn, hl⟩ := id I.loc
  have hcls : (X.env.scope.kind == .class || (X.env.scope.kind == .module && X.env.locals != X.env.globals)) = false := by rw [I.ok.kind]; rfl
  have hiσ : i < σ.length := by rw [I.len]; exact (List.getElem?_eq_some_iff.mp hi).1
  have cne := I.cne
  have tracked : ∀ {a : Addr} {h' : Heap}, (∃ o, s.heap.get? a = some o ∧ H a = none) → Heap.SameBut a s.heap h' → HOk X.prog X.w H h' := fun {a h'} ha hs b ob e => by
    obtain ⟨_, _, hfree⟩ := ha
    refine (I.hok b ob e).stay (fun c w' hc q => (hs.2 c ?_).trans q) (fun _ q => q) fun _ _ q => q
    rintro rfl
    rcases hc with rfl | hc
    · rw [hfree] at e; cases e
    · rw [hfree] at hc; cases hc
  rcases hx with hk | hk
  · refine wpAny_storeName_local hk hn (fun h' hn' hs => ?_) hcls
    obtain ⟨oL, _, _, hoL, _⟩ := id hn
    refine h _ ⟨I.ok, I.os, I.bare, ⟨fun b o e n hb hx => ?_, fun b o e n hb hx => ?_, I.base.free, fun b o e hx => ?_, I.base.tups, I.base.frzs, I.base.tbls⟩, ⟨_, hn', fun j y v' e1 e2 e3 => ?_⟩, fun y c e => ?_, I.free, I.freeC, fun p hp => ?_, tracked ⟨oL, hoL, I.free⟩ hs, by simpa using I.len⟩ ⟨_, hs, .inl rfl⟩
    · exact (hs.2 b (Nat.ne_of_lt (Nat.lt_of_lt_of_le (Heap.lt_size e) I.ok.above))).trans (I.base.keep b o e n hb hx)
    · obtain ⟨sl, e1⟩ := I.base.slot b o e n hb hx
      exact ⟨sl, (hs.2 b (Nat.ne_of_lt (Nat.lt_of_lt_of_le (Heap.lt_size e) I.ok.above))).trans e1⟩
    · obtain ⟨o', e1⟩ := I.base.there b o e hx
      exact ⟨o', (hs.2 b (Nat.ne_of_lt (Nat.lt_of_lt_of_le (Heap.lt_size e) I.ok.above))).trans e1⟩
    · by_cases hj : j = i
      · subst hj
        rw [hi] at e1; cases e1
        rw [List.getElem?_set_self hiσ] at e2
        cases e2
        exact ⟨u, r, .inl ⟨hk, by simp⟩⟩
      · rw [List.getElem?_set_ne (Ne.symm hj)] at e2
        obtain ⟨u', r', q⟩ := hl j y v' e1 e2 e3
        refine ⟨u', r', ?_⟩
        rcases q with ⟨k, e⟩ | ⟨k, c, e, z⟩
        · refine .inl ⟨k, ?_⟩
          have : y ≠ x := fun e => hj (nodup_ix hN e1 (e ▸ hi))
          simp [this, e]
        · exact .inr ⟨k, c, e, z.sameBut hs (cne y c e)⟩
    · obtain ⟨w', z⟩ := I.cell y c e
      exact ⟨w', z.sameBut hs (cne y c e)⟩
    · obtain ⟨e, n, ne, nf, d⟩ := I.pin p hp
      exact ⟨(hs.2 p.1 ne).trans e, n, ne, nf, d⟩
  · have hfn : X.fn x = true := by
      rcases hf with z | z
      · exact z
      · rw [z] at hk; cases hk
    obtain ⟨c, hc⟩ := I.ok.has x (.inl hk)
    obtain ⟨w', z⟩ := I.cell x c hc
    refine wpAny_storeName_cell I.ok.kind hk hc z (fun h' hc' hs => ?_)
    obtain ⟨oc, hoc, hocd⟩ := id z
    refine h { s with heap := h' } ⟨I.ok, I.os, I.bare, ⟨fun b o e n hb hx => ?_, fun b o e n hb hx => ?_, I.base.free, fun b o e hx => ?_, I.base.tups, I.base.frzs, I.base.tbls⟩, ⟨m, hn.sameBut hs (Ne.symm (cne x c hc)), fun j y v' e1 e2 e3 => ?_⟩, fun y c' e => ?_, I.free, I.freeC, fun p hp => ?_, tracked ⟨oc, hoc, I.freeC x c hc⟩ hs, by simpa using I.len⟩ ⟨c, hs, .inr hc⟩
    · exact (hs.2 b (Nat.ne_of_lt (Nat.lt_of_lt_of_le (Heap.lt_size e) (I.ok.cab x c hfn hc)))).trans (I.base.keep b o e n hb hx)
    · obtain ⟨sl, e1⟩ := I.base.slot b o e n hb hx
      exact ⟨sl, (hs.2 b (Nat.ne_of_lt (Nat.lt_of_lt_of_le (Heap.lt_size e) (I.ok.cab x c hfn hc)))).trans e1⟩
    · obtain ⟨o', e1⟩ := I.base.there b o e hx
      exact ⟨o', (hs.2 b (Nat.ne_of_lt (Nat.lt_of_lt_of_le (Heap.lt_size e) (I.ok.cab x c hfn hc)))).trans e1⟩
    · by_cases hj : j = i
      · subst hj
        rw [hi] at e1; cases e1
        rw [List.getElem?_set_self hiσ] at e2
        cases e2
        exact ⟨u, r, .inr ⟨.inl hk, c, hc, hc'⟩⟩
      · rw [List.getElem?_set_ne (Ne.symm hj)] at e2
        obtain ⟨u', r', q⟩ := hl j y v' e1 e2 e3
        refine ⟨u', r', ?_⟩
        rcases q with q | ⟨k, c', e, z'⟩
        · exact .inl q
        · refine .inr ⟨k, c', e, z'.sameBut hs ?_⟩
          rintro rfl
          exact hj (nodup_ix hN e1 (I.ok.inj _ _ _ e hc ▸ hi))
    · by_cases hcc : c' = c
      · subst hcc; exact ⟨_, hc'⟩
      · obtain ⟨w2, z2⟩ := I.cell y c' e
        exact ⟨w2, z2.sameBut hs hcc⟩
    · obtain ⟨e, n, ne, nf, d⟩ := I.pin p hp
      refine ⟨(hs.2 p.1 ?_).trans e, n, ne, nf, d⟩
      intro q
      rw [q, hoc] at e
      have q' : oc = p.2 := Option.some.inj e
      exact d w' (by rw [← q']; exact hocd)
theorem store_ok {M : Model} {A : Around} {E : Value → Shared → Prop} {i : Nat} {x : Str} {v : V} {u : Value} {Q : Unit → Shared → Prop} (I : Inv X pins σ H s) (hN : X.N.Nodup) (hi : X.N[i]? = some x) (hx : Loc X.env.scope x) (r : RelV v u)
    (h : ∀ s', Inv X pins (σ.set i (some v)) H s' → Q () s') (hf : X.fn x = true ∨ X.env.scope.names.lookup x = some .local := by first | exact .inl rfl | exact .inr rfl | assumption) : wpAny M A (storeName X.env x u) Q E s :=
  store_ok2 I hN hi hx r (fun s' I' _ => h s' I') hf
/-- behind a call or a block, the state as it is -/
theorem Inv.call' {s' : Shared} {ch : List Addr} (I : Inv X pins σ H s) (ho : s'.os = s.os) (u : Un (frs X.stack) ch H H' s.heap s'.heap) (hok : HOk X.prog X.w H' s'.heap) (hg : AllBare s'.gens)
    (hch : ∀ b ∈ ch, (b ∈ X.ex ∨ X.s₀.heap.objs.size ≤ b) ∧ b ≠ X.env.locals ∧ (∀ x c, X.env.cells.lookup x = some c → c ≠ b) ∧ ∀ p ∈ X.pn ++ pins, p.1 ≠ b) : Inv X pins σ H' s' := by
  obtain ⟨h', g', d', t', o'⟩ := s'
  have e : o' = s.os := ho
  subst e
  exact I.call (g' := g') (t' := t') (d' := d') u hok hg hch
end

/-! ### the judgements -/
/-- an exception: its class, its own dict's address (where it has one), the abstract heap behind it -/
abbrev XK := Value → Option Addr → Hp → Prop
abbrev St := List (Option V)
abbrev VK := V → Hp → Prop
/-- an expression's reading; a test's; an argument list's -/
abbrev TE := St → Hp → VK → Prop
abbrev TT := St → Hp → (Bool → Hp → Prop) → Prop
abbrev TA := St → Hp → (List V → Hp → Prop) → Prop
/-- what is wanted behind a statement -/
structure Ends where
  nx : St → Hp → Prop
  rt : VK
  bk : St → Hp → Prop := fun _ _ => False
  ct : St → Hp → Prop := fun _ _ => False
abbrev TS := Ends → St → Hp → Prop

def EP (X : Cx) (pins : List (Addr × Obj)) (σ : St) (Q : VK) (u : Value) (s' : Shared) : Prop := ∃ v H', Inv X pins σ H' s' ∧ RelV v u ∧ Q v H'
def TP (X : Cx) (pins : List (Addr × Obj)) (σ : St) (Q : Bool → Hp → Prop) (b : Bool) (s' : Shared) : Prop := ∃ H', Inv X pins σ H' s' ∧ Q b H'
def AP (X : Cx) (pins : List (Addr × Obj)) (σ : St) (Q : List V → Hp → Prop) (us : List Value) (s' : Shared) : Prop := ∃ vs H', Inv X pins σ H' s' ∧ Vals vs us ∧ Q vs H'
def SP (X : Cx) (pins : List (Addr × Obj)) (D : Ends) (f : Flow) (s' : Shared) : Prop :=
  match f with
  | .next => ∃ σ' H', Inv X pins σ' H' s' ∧ D.nx σ' H'
  | .brk => ∃ σ' H', Inv X pins σ' H' s' ∧ D.bk σ' H'
  | .cont => ∃ σ' H', Inv X pins σ' H' s' ∧ D.ct σ' H'
  | .ret u => ∃ v σ' H', Inv X pins σ' H' s' ∧ RelV v u ∧ D.rt v H'

def PE (X : Cx) (e : Expr) (t : TE) : Prop :=
  ∀ (pins : List (Addr × Obj)) (s : Shared) (σ : St) (H : Hp) (Q : VK), Inv X pins σ H s → t σ H Q → wpAny (model X.prog X.w) X.A (eval e X.env) (EP X pins σ Q) X.xe s
def PT (X : Cx) (e : Expr) (t : TT) : Prop :=
  ∀ (pins : List (Addr × Obj)) (s : Shared) (σ : St) (H : Hp) (Q : Bool → Hp → Prop), Inv X pins σ H s → t σ H Q → wpAny (model X.prog X.w) X.A (isTrue e X.env (eval e X.env)) (TP X pins σ Q) X.xe s
/-- a test whatever its 'whole' is (and, or) -/
def PW (X : Cx) (e : Expr) (t : TT) : Prop :=
  ∀ (whole : Sem Value) (pins : List (Addr × Obj)) (s : Shared) (σ : St) (H : Hp) (Q : Bool → Hp → Prop), Inv X pins σ H s → t σ H Q → wpAny (model X.prog X.w) X.A (isTrue e X.env whole) (TP X pins σ Q) X.xe s
theorem PW.pt {X : Cx} {e : Expr} {t : TT} (h : PW X e t) : PT X e t := h _
/-- an argument list (no star), from the left -/
def PA (X : Cx) (es : List Expr) (t : TA) : Prop :=
  ∀ (pos : Pos) (pins : List (Addr × Obj)) (s : Shared) (σ : St) (H : Hp) (Q : List V → Hp → Prop), Inv X pins σ H s → t σ H Q → wpAny (model X.prog X.w) X.A (spliced (backTo pos (starEach es X.env))) (AP X pins σ Q) X.xe s
def PS (X : Cx) (st : Stmt) (t : TS) : Prop :=
  ∀ (pins : List (Addr × Obj)) (s : Shared) (σ : St) (H : Hp) (D : Ends), Inv X pins σ H s → t D σ H → wpAny (model X.prog X.w) X.A (exec st X.env) (SP X pins D) X.xe s
def PSs (X : Cx) (st : List Stmt) (t : TS) : Prop :=
  ∀ (pins : List (Addr × Obj)) (s : Shared) (σ : St) (H : Hp) (D : Ends), Inv X pins σ H s → t D σ H → wpAny (model X.prog X.w) X.A (execs st X.env) (SP X pins D) X.xe s
/-- weaken the end -/
theorem thn {α : Type} {t : Sem α} {Q Q' : α → Shared → Prop} {M : Model} {A : Around} {E : Value → Shared → Prop} {s : Shared} (h : wpAny M A t Q E s) (hQ : ∀ a s, Q a s → Q' a s) : wpAny M A t Q' E s := wpAny_mono h hQ fun _ _ x => x
end L2

namespace L2
open PySem PySem.Spec PyProof.Rows
section
variable {X : Cx}

/-! ### names and constants -/
def tVar (i : Nat) : TE := fun σ H Q => ∃ v, σ[i]? = some (some v) ∧ Q v H
def tC (v : V) : TE := fun _ H Q => Q v H
theorem pe_var {i : Nat} {x : Str} {pos : Pos} (hN : X.N[i]? = some x) (hv : Vis X.env.scope x) (hd : (x == ("__debug__" : Str)) = false := by decide) (hcd : (x == ("__classdict__" : Str)) = false := by decide) : PE X (.Name x pos) (tVar i) := by
  intro pins s σ H Q I h
  obtain ⟨v, e, h⟩ := h
  obtain ⟨m, hn, hl⟩ := I.loc
  obtain ⟨u, r, l⟩ := hl i x v hN e hv
  have fin : EP X pins σ Q u s := ⟨v, H, I, r, h⟩
  rcases l with ⟨hk, hm⟩ | ⟨hk, c, hc, hcell⟩
  · exact wpAny_Name (wpAny_loadName_local I.ok.kind hk hn hm fin) hd
  · rcases hk with hk | hk
    · exact wpAny_Name (wpAny_loadName_cell I.ok.kind hk hc hcell fin) hd
    · exact wpAny_Name (wpAny_loadName_free I.ok.kind hk hc hcell fin hcd) hd
theorem pe_int {i j pos} : PE X (.Constant (.int i) j pos) (tC (.int i)) := fun _ _ _ H _ I h => wpAny_Constant_int ⟨.int i, H, I.tok _, ⟨_, rfl⟩, h⟩
theorem pe_bl {b j pos} : PE X (.Constant (.bool b) j pos) (tC (.bl b)) := fun _ _ _ H _ I h => Constant_bool ⟨.bl b, H, I, rfl, h⟩
theorem pe_non {j pos} : PE X (.Constant .none j pos) (tC .non) := fun _ _ _ H _ I h => Constant_none ⟨.non, H, I, rfl, h⟩
theorem pe_str {x j pos} : PE X (.Constant (.str x) j pos) (tC (.str x)) := fun _ _ _ H _ I h => Calls.Constant_str ⟨.str x, H, I.tok _, ⟨_, rfl⟩, h⟩

/-- a global name of the def -/
def Gl (X : Cx) (x : Str) : Prop := X.env.kindOf x = some .globalImplicit
theorem ld_glob {E : Value → Shared → Prop} {pins : List (Addr × Obj)} {s : Shared} {σ : St} {H : Hp} {x : Str} {u : Value} {pos : Pos} {Q : Value → Shared → Prop} (I : Inv X pins σ H s) (hg : Gl X x) (hm : X.mg x = some u) (h : Q u s)
    (hd : (x == ("__debug__" : Str)) = false := by decide) : wpAny (model X.prog X.w) X.A (eval (.Name x pos) X.env) Q E s :=
  Calls.Name_function_global I.ok.kind hg (Calls.loadGlobal_global (by rw [I.ok.glob]; exact I.mod.glob.keeps I.bk) hm h) hd
theorem ld_blt {E : Value → Shared → Prop} {pins : List (Addr × Obj)} {s : Shared} {σ : St} {H : Hp} {x : Str} {u : Value} {pos : Pos} {Q : Value → Shared → Prop} (I : Inv X pins σ H s) (hg : Gl X x) (hm : X.mg x = none) (hv : bootBuiltins x = some u) (h : Q u s)
    (hn : x ≠ "__name__" := by decide) (hd : (x == ("__debug__" : Str)) = false := by decide) : wpAny (model X.prog X.w) X.A (eval (.Name x pos) X.env) Q E s := by
  obtain ⟨mb, h1, h2⟩ := I.mod.blt
  exact Calls.Name_function_global I.ok.kind hg (Calls.loadGlobal_builtin (by rw [I.ok.glob]; exact I.mod.glob.keeps I.bk) hm (by rw [I.ok.blt]; exact h1.keeps I.bk) ((h2 x hn).trans hv) h) hd
/-- a module's constant, a class, a function, as a value -/
theorem pe_glob {x : Str} {v : V} {u : Value} {pos : Pos} (hg : Gl X x) (hm : X.mg x = some u) (r : RelV v u) (hd : (x == ("__debug__" : Str)) = false := by decide) : PE X (.Name x pos) (tC v) :=
  fun _ _ _ H _ I h => ld_glob I hg hm ⟨v, H, I, r, h⟩ hd
theorem pe_bltn {x : Str} {v : V} {u : Value} {pos : Pos} (hg : Gl X x) (hm : X.mg x = none) (hv : bootBuiltins x = some u) (r : RelV v u) (hn : x ≠ "__name__" := by decide) (hd : (x == ("__debug__" : Str)) = false := by decide) : PE X (.Name x pos) (tC v) :=
  fun _ _ _ H _ I h => ld_blt I hg hm hv ⟨v, H, I, r, h⟩ hn hd

/-! ### arithmetic -/
variable {a b : Expr} {ta tb : TE} {pos : Pos}
/-! ### comparisons -/
/-- a comparison as a value, as a test -/
def tB (t : TE) : TT := fun σ H Q => t σ H fun x H1 => ∃ c, x = .bl c ∧ Q c H1
/-- an expression whose value is a bool, as a test -/
theorem pt_val {e : Expr} {t : TE} (h : PE X e t) (he : ∀ whole, isTrue e X.env whole = (do let v ← whole; standAt e.pos; holding [v] (truthy v)) := by intro _; rfl) : PT X e (tB t) := by
  intro pins s σ H Q I hw
  refine isTrue_plain (thn (h pins s σ H _ I hw) fun v s1 ⟨x, H1, I1, r1, q1⟩ => ?_) (he _)
  obtain ⟨d, rfl, q⟩ := q1
  cases r1
  exact wpAny_truthy_bool ⟨H1, I1, q⟩

/-! ### and, or, not -/
variable {tA tB' : TT} {rest : List Expr}
def tAnd (t u : TT) : TT := fun σ H Q => t σ H fun c H1 => if c = true then u σ H1 Q else Q false H1
def tOr (t u : TT) : TT := fun σ H Q => t σ H fun c H1 => if c = true then Q true H1 else u σ H1 Q
def tNot (t : TT) : TT := fun σ H Q => t σ H fun c H1 => Q (!c) H1
theorem pw_and1 (ha : PT X a tA) : PW X (.BoolOp .And [a] pos) tA := by
  intro wh pins s σ H Q I h
  refine isTrue_and (thn (ha pins s σ H Q I h) fun c s1 e => ?_)
  cases c with
  | true => exact isTrue_and_nil e
  | false => exact e
theorem pw_or1 (ha : PT X a tA) : PW X (.BoolOp .Or [a] pos) tA := by
  intro wh pins s σ H Q I h
  refine isTrue_or (thn (ha pins s σ H Q I h) fun c s1 e => ?_)
  cases c with
  | false => exact isTrue_or_nil e
  | true => exact e
theorem pw_and (ha : PT X a tA) (hb : PW X (.BoolOp .And (b :: rest) pos) tB') : PW X (.BoolOp .And (a :: b :: rest) pos) (tAnd tA tB') := by
  intro wh pins s σ H Q I h
  refine isTrue_and (thn (ha pins s σ H _ I h) fun c s1 ⟨H1, I1, q1⟩ => ?_)
  cases c with
  | true => exact hb wh pins s1 σ H1 Q I1 q1
  | false => exact ⟨H1, I1, q1⟩
theorem pw_or (ha : PT X a tA) (hb : PW X (.BoolOp .Or (b :: rest) pos) tB') : PW X (.BoolOp .Or (a :: b :: rest) pos) (tOr tA tB') := by
  intro wh pins s σ H Q I h
  refine isTrue_or (thn (ha pins s σ H _ I h) fun c s1 ⟨H1, I1, q1⟩ => ?_)
  cases c with
  | true => exact ⟨H1, I1, q1⟩
  | false => exact hb wh pins s1 σ H1 Q I1 q1
theorem pt_not (ha : PT X a tA) : PT X (.UnaryOp .Not a pos) (tNot tA) := by
  intro pins s σ H Q I h
  exact isTrue_not (ha pins s σ H (fun c H1 => Q (!c) H1) I h)
/-- .. as values (bools) -/
def tAndV (ta tb : TE) : TE := fun σ H Q => ta σ H fun x H1 => ∃ c, x = .bl c ∧ if c = true then tb σ H1 Q else Q (.bl false) H1
def tOrV (ta tb : TE) : TE := fun σ H Q => ta σ H fun x H1 => ∃ c, x = .bl c ∧ if c = true then Q (.bl true) H1 else tb σ H1 Q
def tNotV (ta : TE) : TE := fun σ H Q => ta σ H fun x H1 => ∃ c, x = .bl c ∧ Q (.bl (!c)) H1
theorem pe_one {op} {t : TE} (h : PE X a t) : PE X (.BoolOp op [a] pos) t := fun pins s σ H Q I hw => BoolOp_one (h pins s σ H Q I hw)
theorem pe_and (ha : PE X a ta) (hb : PE X (.BoolOp .And (b :: rest) pos) tb) : PE X (.BoolOp .And (a :: b :: rest) pos) (tAndV ta tb) := by
  intro pins s σ H Q I h
  refine BoolOp_and (thn (ha pins s σ H _ I h) fun v s1 ⟨x, H1, I1, r1, q1⟩ => ?_)
  obtain ⟨c, rfl, q1⟩ := q1
  cases r1
  refine wpAny_truthy_bool ?_
  cases c with
  | true => exact hb pins s1 σ H1 Q I1 q1
  | false => exact ⟨.bl false, H1, I1, rfl, q1⟩
theorem pe_or (ha : PE X a ta) (hb : PE X (.BoolOp .Or (b :: rest) pos) tb) : PE X (.BoolOp .Or (a :: b :: rest) pos) (tOrV ta tb) := by
  intro pins s σ H Q I h
  refine BoolOp_or (thn (ha pins s σ H _ I h) fun v s1 ⟨x, H1, I1, r1, q1⟩ => ?_)
  obtain ⟨c, rfl, q1⟩ := q1
  cases r1
  refine wpAny_truthy_bool ?_
  cases c with
  | false => exact hb pins s1 σ H1 Q I1 q1
  | true => exact ⟨.bl true, H1, I1, rfl, q1⟩
/-- a if t else b -/
def tIf (t : TT) (ta tb : TE) : TE := fun σ H Q => t σ H fun c H1 => if c = true then ta σ H1 Q else tb σ H1 Q
theorem pe_ifExp {c : Expr} (hc : PT X c tA) (ha : PE X a ta) (hb : PE X b tb) : PE X (.IfExp c a b pos) (tIf tA ta tb) := by
  intro pins s σ H Q I h
  refine wpAny_IfExp (thn (hc pins s σ H _ I h) fun d s1 ⟨H1, I1, q1⟩ => ?_)
  cases d with
  | true => exact ha pins s1 σ H1 Q I1 q1
  | false => exact hb pins s1 σ H1 Q I1 q1
end
end L2

namespace L2
open PySem PySem.Spec PyProof.Rows

/-! ### a list, a tuple that is read: tracked, frozen, or an object of the module -/
def SqL (K : PySem.W.Frag) (H : Hp) (a : Addr) (xs : List V) : Prop :=
  Rd H a (.lst xs) ∨
    ∃ (o : Obj) (its : Array Value) (n : Nat), K.lookup a = some o ∧ o.cls = .type "list" ∧ o.dict = none ∧ o.data = .seq its n ∧ its.size ≤ sizeLine ∧ Vals xs its.toList
def SqT (K : PySem.W.Frag) (H : Hp) (a : Addr) (xs : List V) : Prop :=
  Rd H a (.tup xs) ∨
    ∃ (o : Obj) (its : Array Value) (n : Nat), K.lookup a = some o ∧ o.cls = .type "tuple" ∧ o.data = .seq its n ∧ its.size ≤ sizeLine ∧ Vals xs its.toList
def absV : Value → Option V
  | .none => some .non
  | .bool b => some (.bl b)
  | .int i _ => some (.int i)
  | .str x _ => some (.str x)
  | .bytes b _ => some (.byt b)
  | .float b _ => some (.flt b)
  | .ref a => some (.ref a)
  | .type n => some (.ty n)
  | _ => none
theorem RelV.abs {x : V} {u : Value} (r : RelV x u) : absV u = some x := by
  cases x with
  | non => cases r; rfl
  | bl _ => cases r; rfl
  | int _ => obtain ⟨t, rfl⟩ := r; rfl
  | str _ => obtain ⟨t, rfl⟩ := r; rfl
  | byt _ => obtain ⟨t, rfl⟩ := r; rfl
  | flt _ => obtain ⟨t, rfl⟩ := r; rfl
  | ref _ => cases r; rfl
  | ty _ => cases r; rfl
theorem RelV.inj {x y : V} {u : Value} (r : RelV x u) (q : RelV y u) : x = y := Option.some.inj (r.abs.symm.trans q.abs)
theorem Vals.inj : ∀ {xs ys : List V} {us : List Value}, Vals xs us → Vals ys us → xs = ys
  | _, _, _, .nil, .nil => rfl
  | _, _, _, .cons r t, .cons r' t' => by rw [r.inj r', Vals.inj t t']
section
variable {X : Cx} {pins : List (Addr × Obj)} {σ : St} {H : Hp} {s : Shared} {a : Addr} {xs ys : List V}
theorem SqL.of {K : PySem.W.Frag} (h : H a = some (.lst xs)) : SqL K H a xs := .inl (.inl h)
theorem SqT.of {K : PySem.W.Frag} (h : H a = some (.tup xs)) : SqT K H a xs := .inl (.inl h)
theorem Inv.list (I : Inv X pins σ H s) (h : SqL X.K H a xs) : ∃ its : List Value, Vals xs its ∧ PlainL s.heap a its.toArray ∧ xs.length ≤ sizeLine := by
  rcases h with h | ⟨o, its, n, hk, hc, hd, hs, hz, r⟩
  · obtain ⟨z, its, n, r, e⟩ := h.ok I.hok
    exact ⟨its, r, ⟨_, n, e, rfl, rfl, rfl⟩, z⟩
  · refine ⟨its.toList, r, ⟨o, n, I.kIn a o hk, hc, hd, by simpa using hs⟩, ?_⟩
    have e := r.length
    simp only [Array.length_toList] at e
    omega
theorem Inv.tuple (I : Inv X pins σ H s) (h : SqT X.K H a xs) : ∃ its : List Value, Vals xs its ∧ IsTup s.heap a its.toArray ∧ xs.length ≤ sizeLine := by
  rcases h with h | ⟨o, its, n, hk, hc, hs, hz, r⟩
  · obtain ⟨z, its, r, p⟩ := h.ok I.hok
    exact ⟨its, r, p, z⟩
  · refine ⟨its.toList, r, ⟨o, I.kIn a o hk, hc, n, by simpa using hs⟩, ?_⟩
    have e := r.length
    simp only [Array.length_toList] at e
    omega
theorem Inv.list_inj (I : Inv X pins σ H s) (h : SqL X.K H a xs) (h' : SqL X.K H a ys) : xs = ys := by
  obtain ⟨its, r, ⟨o, n, e, _, _, d⟩, _⟩ := I.list h
  obtain ⟨its', r', ⟨o', n', e', _, _, d'⟩, _⟩ := I.list h'
  rw [e] at e'; cases e'
  rw [d] at d'
  injection d' with d1 _
  have : its = its' := by simpa using congrArg Array.toList d1
  subst this
  exact r.inj r'
end

/-! ### another wish about exceptions -/
abbrev Cx.wish (X : Cx) (E : Value → Shared → Prop) : Cx := { X with xe := E }
/-- no exception leaves -/
abbrev Cx.nox (X : Cx) : Cx := X.wish fun _ _ => False
theorem Cx.Ok.wish {X : Cx} (ok : X.Ok) (E : Value → Shared → Prop) : (X.wish E).Ok :=
  ⟨ok.mod, ok.kind, ok.glob, ok.blt, ok.above, ok.inj, ok.has, ok.cab, ok.hd, ok.frames, ok.stk, ok.exf, ok.bs, ok.bsz, ok.noex, ok.exfs, ok.funs, ok.frf⟩
theorem Cx.Ok.unwish {X : Cx} {E : Value → Shared → Prop} (ok : (X.wish E).Ok) : X.Ok :=
  ⟨ok.mod, ok.kind, ok.glob, ok.blt, ok.above, ok.inj, ok.has, ok.cab, ok.hd, ok.frames, ok.stk, ok.exf, ok.bs, ok.bsz, ok.noex, ok.exfs, ok.funs, ok.frf⟩
section
variable {X : Cx} {pins : List (Addr × Obj)} {σ : St} {H : Hp} {s : Shared} {E : Value → Shared → Prop}
theorem Inv.wish (I : Inv X pins σ H s) (E : Value → Shared → Prop) : Inv (X.wish E) pins σ H s := ⟨I.ok.wish E, I.os, I.bare, I.base, I.loc, I.cell, I.free, I.freeC, I.pin, I.hok, I.len⟩
theorem Inv.unwish (I : Inv (X.wish E) pins σ H s) : Inv X pins σ H s := ⟨I.ok.unwish, I.os, I.bare, I.base, I.loc, I.cell, I.free, I.freeC, I.pin, I.hok, I.len⟩
theorem SP.unwish {D : Ends} {f : Flow} {s' : Shared} (h : SP (X.wish E) pins D f s') : SP X pins D f s' := by
  cases f with
  | next => obtain ⟨σ', H', I, q⟩ := h; exact ⟨σ', H', I.unwish, q⟩
  | brk => obtain ⟨σ', H', I, q⟩ := h; exact ⟨σ', H', I.unwish, q⟩
  | cont => obtain ⟨σ', H', I, q⟩ := h; exact ⟨σ', H', I.unwish, q⟩
  | ret u => obtain ⟨v, σ', H', I, r, q⟩ := h; exact ⟨v, σ', H', I.unwish, r, q⟩
theorem PE.nox {e : Expr} {t : TE} (h : PE X.nox e t) : PE X e t := fun pins s σ H Q I hw =>
  wpAny_mono (h pins s σ H Q (I.wish _) hw) (fun _ _ ⟨v, H', I', r, q⟩ => ⟨v, H', I'.unwish, r, q⟩) fun _ _ z => False.elim z
theorem PT.nox {e : Expr} {t : TT} (h : PT X.nox e t) : PT X e t := fun pins s σ H Q I hw =>
  wpAny_mono (h pins s σ H Q (I.wish _) hw) (fun _ _ ⟨H', I', q⟩ => ⟨H', I'.unwish, q⟩) fun _ _ z => False.elim z
theorem PSs.nox {st : List Stmt} {t : TS} (h : PSs X.nox st t) : PSs X st t := fun pins s σ H D I hw =>
  wpAny_mono (h pins s σ H D (I.wish _) hw) (fun _ _ q => q.unwish) fun _ _ z => False.elim z
end

/-! ### blocks and small statements -/
section
variable {X : Cx} {st : Stmt} {rest : List Stmt} {t u : TS} {e : Expr} {te : TE} {pos : Pos}
def tNext : TS := fun D σ H => D.nx σ H
def tSeq (t u : TS) : TS := fun D σ H => t { D with nx := u D } σ H
theorem pss_nil : PSs X [] tNext := fun _ _ σ H _ I h => wpAny_execs_nil ⟨σ, H, I, h⟩
theorem pss_cons (h1 : PS X st t) (h2 : PSs X rest u) : PSs X (st :: rest) (tSeq t u) := by
  intro pins s σ H D I h
  refine wpAny_execs_cons (thn (h1 pins s σ H { D with nx := u D } I h) fun f s1 q => ?_)
  cases f with
  | next =>
    obtain ⟨σ', H', I', q⟩ := q
    exact h2 pins s1 σ' H' D I' q
  | ret v => exact q
  | brk => exact q
  | cont => exact q
theorem pss_one (h1 : PS X st t) : PSs X [st] t := by
  intro pins s σ H D I h
  refine wpAny_execs_cons (thn (h1 pins s σ H D I h) fun f s1 q => ?_)
  cases f with
  | next => exact wpAny_execs_nil q
  | ret v => exact q
  | brk => exact q
  | cont => exact q
def tBreak : TS := fun D σ H => D.bk σ H
/-- in a def's body nothing is shown -/
theorem Inv.quiet {pins : List (Addr × Obj)} {σ : St} {H : Hp} {s : Shared} (I : Inv X pins σ H s) : interactive X.env = false := by simp [interactive, I.ok.kind]
/-- an expression whose value is dropped -/
def tDrop (te : TE) : TS := fun D σ H => te σ H fun _ H1 => D.nx σ H1
theorem ps_expr (he : PE X e te) (hs : swapsWith e none pos.line X.env = pure false := by rfl) : PS X (.Expr e pos) (tDrop te) := by
  intro pins s σ H D I h
  exact wpAny_Expr_any (thn (he pins s σ H _ I h) fun v s1 ⟨x, H1, I1, r1, q1⟩ => ⟨σ, H1, I1, q1⟩) I.quiet hs
def tRet (te : TE) : TS := fun D σ H => te σ H D.rt
theorem ps_ret (he : PE X e te) : PS X (.Return (some e) pos) (tRet te) := by
  intro pins s σ H D I h
  exact wpAny_Return_some (thn (he pins s σ H _ I h) fun v s1 ⟨x, H1, I1, r1, q1⟩ => ⟨x, σ, H1, I1, r1, q1⟩)
def tIfS (c : TT) (t u : TS) : TS := fun D σ H => c σ H fun b H1 => if b = true then t D σ H1 else u D σ H1
theorem ps_if {c : Expr} {a b : List Stmt} {tc : TT} (hc : PT X c tc) (ha : PSs X a t) (hb : PSs X b u) : PS X (.If c a b pos) (tIfS tc t u) := by
  intro pins s σ H D I h
  refine wpAny_If (thn (hc pins s σ H _ I h) fun d s1 ⟨H1, I1, q1⟩ => ?_)
  cases d with
  | true => exact ha pins s1 σ H1 D I1 q1
  | false => exact hb pins s1 σ H1 D I1 q1
/-- code that the proof never comes to -/
def tNever : TS := fun _ _ _ => False
end

/-! ### targets -/
abbrev TG := V → St → Hp → (St → Hp → Prop) → Prop
abbrev TGs := List V → St → Hp → (St → Hp → Prop) → Prop
def PG (X : Cx) (target : Expr) (t : TG) : Prop :=
  ∀ (pins : List (Addr × Obj)) (s : Shared) (σ : St) (H : Hp) (v : V) (u : Value) (Q : St → Hp → Prop), Inv X pins σ H s → RelV v u → t v σ H Q →
    wpAny (model X.prog X.w) X.A (assign target X.env u) (fun _ s' => ∃ σ' H', Inv X pins σ' H' s' ∧ Q σ' H') X.xe s
/-- several targets, one after another -/
def PGs (X : Cx) (ts : List Expr) (t : TGs) : Prop :=
  ∀ (pins : List (Addr × Obj)) (s : Shared) (σ : St) (H : Hp) (vs : List V) (us : List Value) (Q : St → Hp → Prop), Inv X pins σ H s → Vals vs us → t vs σ H Q →
    wpAny (model X.prog X.w) X.A (assignInOrder ((assignEach ts X.env).map (·.2)) us) (fun _ s' => ∃ σ' H', Inv X pins σ' H' s' ∧ Q σ' H') X.xe s
/-- o[i] = v, by values -/
abbrev TSet := V → V → V → Hp → (Hp → Prop) → Prop
section
variable {X : Cx} {pos : Pos}
def gName (i : Nat) : TG := fun v σ H Q => Q (σ.set i (some v)) H
theorem pg_name {i : Nat} {x : Str} (hN : X.N.Nodup) (hi : X.N[i]? = some x) (hx : Loc X.env.scope x) (hf : X.fn x = true ∨ X.env.scope.names.lookup x = some .local := by first | exact .inl rfl | exact .inr rfl | assumption) : PG X (.Name x pos) (gName i) := by
  intro pins s σ H v u Q I r h
  exact wpAny_assign_Name (store_ok I hN hi hx r (fun s' I' => ⟨_, H, I', h⟩) hf)
def gNil : TGs := fun vs σ H Q => vs = [] ∧ Q σ H
def gCons (t : TG) (u : TGs) : TGs := fun vs σ H Q => ∃ v r, vs = v :: r ∧ t v σ H fun σ' H' => u r σ' H' Q
theorem pgs_nil : PGs X [] gNil := by
  intro pins s σ H vs us Q I r h
  obtain ⟨e, h⟩ := h
  subst e
  cases r
  exact assignInOrder_nil ⟨σ, H, I, h⟩
theorem pgs_cons {e : Expr} {es : List Expr} {t : TG} {u : TGs} (h1 : PG X e t) (h2 : PGs X es u)
    (hs : (assignEach (e :: es) X.env).map (·.2) = assign e X.env :: (assignEach es X.env).map (·.2) := by rfl) : PGs X (e :: es) (gCons t u) := by
  intro pins s σ H vs us Q I r h
  obtain ⟨v, vr, e1, h⟩ := h
  subst e1
  cases r with
  | cons r rr =>
    rw [hs]
    refine assignInOrder_cons (thn (h1 pins s σ H _ _ _ I r h) fun _ s1 ⟨σ1, H1, I1, q1⟩ => ?_)
    exact h2 pins s1 σ1 H1 _ _ Q I1 rr q1
/-- (a, b, ..) = a tuple of that length -/
def gTup (K : PySem.W.Frag) (n : Nat) (t : TGs) : TG := fun v σ H Q => ∃ a xs, v = .ref a ∧ SqT K H a xs ∧ xs.length = n ∧ t xs σ H Q
theorem pg_tup {es : List Expr} {k : Nat} {t : TGs} {n : Nat} (hc : X.calm = true) (h : PGs X es t)
    (hn : (assignEach es X.env).length = n := by rfl) (hst : (assignEach es X.env).findIdx? (·.1) = none := by rfl) : PG X (.Tuple es k pos) (gTup X.K n t) := by
  intro pins s σ H v u Q I r hw
  obtain ⟨a, xs, e1, hq, hl, hw⟩ := hw
  subst e1
  cases r
  obtain ⟨its, rv, ht, hz⟩ := I.tuple hq
  refine assign_Tuple_tuple (I.ok.hd hc) ht (by simp [hn, ← hl, rv.length]) hst fun h' hx => ?_
  have I1 : Inv X pins σ H { s with heap := h' } := I.kept (t' := s.toks) fun b o e => hx b o (Nat.ne_of_lt (Heap.lt_size e)) e
  exact h pins _ σ H xs _ Q I1 (by simpa using rv) hw
/-- o[i] = .. -/
def gSub (to ti : TE) (t : TSet) : TG := fun v σ H Q => to σ H fun o H1 => ti σ H1 fun i H2 => t o i v H2 fun H3 => Q σ H3
/-- target = value -/
def tAsg (te : TE) (g : TG) : TS := fun D σ H => te σ H fun x H1 => g x σ H1 D.nx
/-- name = value -/
theorem ps_set {i : Nat} {x : Str} {e : Expr} {te : TE} {pos' : Pos} (hN : X.N.Nodup) (hi : X.N[i]? = some x) (hx : Loc X.env.scope x) (he : PE X e te) (hs : swapsWith e (some (.Name x pos')) pos.line X.env = pure false := by rfl) (hf : X.fn x = true ∨ X.env.scope.names.lookup x = some .local := by first | exact .inl rfl | exact .inr rfl | assumption) :
    PS X (.Assign [.Name x pos'] e pos) (tAsg te (gName i)) := by
  intro pins s σ H D I h
  refine wpAny_Assign_Name (thn (he pins s σ H _ I h) fun v s1 ⟨y, H1, I1, r1, q1⟩ => ?_) hs
  exact store_ok I1 hN hi hx r1 (fun s2 I2 => ⟨_, H1, I2, q1⟩) hf
/-- a, b = x, y with plain local names: stored from the right; the pair itself is not tracked (the opening rows as in PyProof/Rows/TupAssign.lean:23) -/
def tPar (i j : Nat) (ta : TA) : TS := fun D σ H => ta σ H fun vs H1 => ∃ v w, vs = [v, w] ∧ D.nx ((σ.set i (some v)).set j (some w)) H1
theorem ps_par {i j : Nat} {x y : Str} {a b : Expr} {ta : TA} {px py pt : Pos} {kt k2 pt2} (hc : X.calm = true) (hN : X.N.Nodup) (hi : X.N[i]? = some x) (hj : X.N[j]? = some y) (hij : i ≠ j)
    (hx : X.env.scope.names.lookup x = some .local) (hy : X.env.scope.names.lookup y = some .local) (ha : PA X [a, b] ta)
    (hw : swappedStores [.Tuple [.Name x px, .Name y py] kt pt] (.Tuple [a, b] k2 pt2) X.env = pure (some [x, y]))
    (hs : swapsWithSole [.Tuple [.Name x px, .Name y py] kt pt] (.Tuple [a, b] k2 pt2) pos.line X.env = pure false := by rfl) :
    PS X (.Assign [.Tuple [.Name x px, .Name y py] kt pt] (.Tuple [a, b] k2 pt2) pos) (tPar i j ta) := by
  intro pins s σ H D I h
  rw [exec_Assign_arm]
  refine wpAny_bind (wpAny_standAt ?_)
  rw [hs]
  refine wpAny_bind (wpAny_pure ?_)
  rw [if_neg (by decide)]
  refine wpAny_bind (Tuple_ (thn (ha _ pins s σ H _ I h) fun us s1 ⟨vs, H1, I1, r1, q1⟩ => ?_))
  obtain ⟨v, w, e1, q1⟩ := q1
  subst e1
  obtain ⟨u1, u2, rfl, rv, rw'⟩ : ∃ u1 u2, us = [u1, u2] ∧ RelV v u1 ∧ RelV w u2 := by
    cases r1 with
    | cons p q =>
      cases q with
      | cons p' q' =>
        cases q'
        exact ⟨_, _, rfl, p, p'⟩
  refine wpAny_newObj_type ?_ (by show 2 ≤ sizeLine; decide)
  have I2 : Inv X pins σ H1 { s1 with heap := s1.heap.push { cls := .type "tuple", data := .seq [u1, u2].toArray } } := I1.kept (t' := s1.toks) fun b o e => Heap.get?_push_of_some _ e
  rw [hw]
  refine wpAny_bind (wpAny_pure ?_)
  show wpAny (model X.prog X.w) X.A (do rule "assign.swapped-stores"; let items ← unpackItems (.ref s1.heap.objs.size) 2 none; assignInOrder [fun v => bindName X.env y v, fun v => bindName X.env x v] items.reverse; pure Flow.next) _ _ _
  refine wpAny_bind (wpAny_rule (wpAny_bind (unpackItems_tuple (items := #[u1, u2]) (I.ok.hd hc) (IsTup.new s1.heap _) fun h' hx' => ?_)))
  have I3 := I2.kept (h' := h') (t' := s1.toks) fun b o e => hx' b o (Nat.ne_of_lt (Heap.lt_size e)) e
  show wpAny _ _ (assignInOrder [fun v => bindName X.env y v, fun v => bindName X.env x v] [u2, u1] >>= fun _ => pure Flow.next) _ _ _
  refine wpAny_bind (assignInOrder_cons (wpAny_bindName (store_ok I3 hN hj (.inl hy) rw' (fun s2 I4 => ?_) (.inr hy))))
  refine assignInOrder_cons (wpAny_bindName (store_ok I4 hN hi (.inl hx) rv (fun s3 I5 => assignInOrder_nil (wpAny_pure ?_)) (.inr hx)))
  rw [List.set_comm _ _ (Ne.symm hij)] at I5
  exact ⟨_, H1, I5, q1⟩
end

/-! ### while -/
section
variable {X : Cx} {pos : Pos}
end

/-! ### what a loop or a comprehension walks -/
/-- at turn i: it yields x (the heap may grow), or it stops -/
structure It where
  go : Nat → Hp → Prop
  yld : Nat → Hp → V → Hp → Prop
  stop : Nat → Hp → Prop
/-- the iterator's own objects may turn: they are not the frame's, not pinned, younger than the entry (or a comprehension's own) -/
def FpOk (X : Cx) (pins : List (Addr × Obj)) (H : Hp) (b : Addr) : Prop :=
  H b = none ∧ b ≠ X.env.locals ∧ b ∉ X.fs ∧ (b ∈ X.ex ∨ X.s₀.heap.objs.size ≤ b) ∧ (∀ x c, X.env.cells.lookup x = some c → c ≠ b) ∧ ∀ p ∈ X.pn ++ pins, p.1 ≠ b
theorem Inv.fpOk {X : Cx} {pins : List (Addr × Obj)} {σ : St} {H H' : Hp} {s : Shared} {b : Addr} (I : Inv X pins σ H s) (hb : s.heap.objs.size ≤ b) (hn : H' b = none) : FpOk X pins H' b := by
  refine ⟨hn, Nat.ne_of_gt (Nat.lt_of_lt_of_le I.lt hb), I.nofs hb, .inr (Nat.le_trans I.sz hb), fun x c e z => ?_, fun p hp z => ?_⟩
  · obtain ⟨v, q⟩ := I.cell x c e
    exact absurd (Nat.lt_of_lt_of_le q.lt (by rw [z]; exact hb)) (Nat.lt_irrefl _)
  · exact absurd (Nat.lt_of_lt_of_le (Heap.lt_size (I.pin p hp).1) (by rw [z]; exact hb)) (Nat.lt_irrefl _)
structure Turn (P : Program) (w : World) (K : PySem.W.Frag) (tg : Expr) (J : It) (fp : List Addr) (it : Addr) (tn : Nat → Heap → Prop) : Prop where
  mem : it ∈ fp
  obj : ∀ i h, tn i h → ∀ b ∈ fp, ∃ o, h.get? b = some o ∧ ∀ v, o.data ≠ .cell v
  keep : ∀ i h h', tn i h → (∀ b ∈ fp, ∀ o, h.get? b = some o → h'.get? b = some o) → tn i h'
  item : ∀ (X : Cx), X.prog = P → X.w = w → X.K = K → X.calm = true → ∀ (i : Nat) (pins : List (Addr × Obj)) (s : Shared) (σ : St) (H : Hp) (E : Value → Shared → Prop), Inv X pins σ H s → (∀ b ∈ fp, FpOk X pins H b) → tn i s.heap → J.go i H →
    wpAny (model P w) X.A (pyNext (.ref it)) (fun r s1 => ∃ u, r = some u ∧
      wpAny (model P w) X.A (letOwnedTupleGo tg (.ref it) u) (fun _ s2 => ∃ x H', Inv X pins σ H' s2 ∧ RelV x u ∧ J.yld i H x H' ∧ tn (i + 1) s2.heap ∧ ∀ b ∈ fp, H' b = none) E s1) E s
  done : ∀ (X : Cx), X.prog = P → X.w = w → X.K = K → X.calm = true → ∀ (i : Nat) (pins : List (Addr × Obj)) (s : Shared) (σ : St) (H : Hp) (E : Value → Shared → Prop), Inv X pins σ H s → (∀ b ∈ fp, FpOk X pins H b) → tn i s.heap → J.stop i H →
    wpAny (model P w) X.A (pyNext (.ref it)) (fun r s1 => r = none ∧ Inv X pins σ H s1) E s
  self : ∀ (A : Around) (i : Nat) (s : Shared) (Q : Value → Shared → Prop) (E : Value → Shared → Prop), tn i s.heap → Q (.ref it) s → wpAny (model P w) A (pyIter (.ref it)) Q E s
abbrev TI := St → Hp → (It → Hp → Prop) → Prop
/-- an iterator has come -/
def PIE (X : Cx) (pins : List (Addr × Obj)) (σ : St) (tg : Expr) (R : It → Hp → Prop) (itv : Value) (s2 : Shared) : Prop :=
  ∃ (it : Addr) (fp : List Addr) (tn : Nat → Heap → Prop) (J : It) (H' : Hp), itv = .ref it ∧ Inv X pins σ H' s2 ∧ Turn X.prog X.w X.K tg J fp it tn ∧ tn 0 s2.heap ∧ (∀ b ∈ fp, FpOk X pins H' b) ∧ R J H'
def PI (X : Cx) (tg iter : Expr) (wi : TI) : Prop :=
  ∀ (pins : List (Addr × Obj)) (s : Shared) (σ : St) (H : Hp) (R : It → Hp → Prop), Inv X pins σ H s → wi σ H R →
    wpAny (model X.prog X.w) X.A (eval iter X.env) (fun v s1 => wpAny (model X.prog X.w) X.A (pyIter v) (PIE X pins σ tg R) X.xe s1) X.xe s

/-- the step ahead of the store is nothing for an iterator that keeps no tuple -/
theorem go_of {M : Model} {A : Around} {E : Value → Shared → Prop} {s : Shared} {tg : Expr} {it : Addr} {u : Value} {o : Obj} {n : String} {vs : Array Value} {Q : Unit → Shared → Prop} (ho : s.heap.get? it = some o) (hc : o.cls = .type n) (hd : o.data = .fields vs)
    (hn : ["enumerate", "zip", "dict_itemiterator", "dict_reverseitemiterator", "odict_iterator", "itertools.zip_longest", "itertools.pairwise"].contains n = false) (hQ : Q () s) : wpAny M A (letOwnedTupleGo tg (.ref it) u) Q E s := by
  unfold letOwnedTupleGo
  cases tg <;> first
    | exact wpAny_pure hQ
    | (cases u <;> first
        | exact wpAny_pure hQ
        | (refine wpAny_bind (wpAny_load ho ?_)
           rw [hc, hd]
           show wpAny M A (if (["enumerate", "zip", "dict_itemiterator", "dict_reverseitemiterator", "odict_iterator", "itertools.zip_longest", "itertools.pairwise"].contains n && vs[0]? == some (rawInt _)) = true then _ else _) Q E s
           rw [if_neg (by intro h; rw [hn, Bool.false_and] at h; cases h)]
           exact wpAny_pure hQ))

/-- the list at a, as it stands at each turn (a loop may append to it) -/
def Itl (K : PySem.W.Frag) (a : Addr) : It :=
  ⟨fun i H => ∃ xs x, SqL K H a xs ∧ xs[i]? = some x, fun i H x H' => H' = H ∧ ∀ xs, SqL K H a xs → xs[i]? = some x, fun i H => ∃ xs, SqL K H a xs ∧ xs.length ≤ i⟩
def Itt (K : PySem.W.Frag) (a : Addr) : It :=
  ⟨fun i H => ∃ xs x, SqT K H a xs ∧ xs[i]? = some x, fun i H x H' => H' = H ∧ ∀ xs, SqT K H a xs → xs[i]? = some x, fun i H => ∃ xs, SqT K H a xs ∧ xs.length ≤ i⟩
/-- lo, lo + 1, .. (n of them) -/
def Itr (lo : Int) (n : Nat) : It := ⟨fun i _ => i < n, fun i H x H' => H' = H ∧ x = .int (lo + i), fun i _ => n ≤ i⟩
theorem turn_list {P : Program} {w : World} {K : PySem.W.Frag} {tg : Expr} (a it : Addr) : Turn P w K tg (Itl K a) [it] it (fun i h => h.IsListIter it a i) where
  mem := by simp
  obj := fun i h st b hb => by
    have e : b = it := by simpa using hb
    subst e
    obtain ⟨o, e, c, d⟩ := st
    exact ⟨o, e, fun v z => by rw [d] at z; cases z⟩
  keep := fun i h h' st k => st.at fun o e => k it (by simp) o e
  item := by
    intro X hP hw hK hc i pins s σ H E I hf st hg
    subst hP hw hK
    obtain ⟨xs, x, hq, hx⟩ := hg
    obtain ⟨its, rv, p, hz⟩ := I.list hq
    obtain ⟨u, hu, ru⟩ := rv.get hx
    obtain ⟨f0, f1, f2, f3, f4, f5⟩ := hf it (by simp)
    refine wpAny_pyNext_list_item st p.isList (x := u) (by simpa using hu) fun h' st' sb => ?_
    have I1 : Inv X pins σ H { s with heap := h' } := I.turned (t' := s.toks) (fun b o hb e => (sb.2 b hb).trans e) f0 f1 f3 f4 f5
    obtain ⟨o, e, c, d⟩ := id st'
    exact ⟨u, rfl, go_of (s := { s with heap := h' }) e c d (by decide) ⟨x, H, I1, ru, ⟨rfl, fun ys hy => by rw [I.list_inj hy hq]; exact hx⟩, st', fun b hb => (hf b hb).1⟩⟩
  done := by
    intro X hP hw hK hc i pins s σ H E I hf st hg
    subst hP hw hK
    obtain ⟨xs, hq, hx⟩ := hg
    obtain ⟨its, rv, p, hz⟩ := I.list hq
    obtain ⟨f0, f1, f2, f3, f4, f5⟩ := hf it (by simp)
    have hl := rv.length
    exact wpAny_pyNext_list_end (I.ok.hd hc) st p.isList (by simp; omega) fun h' eb => ⟨rfl, I.turned (t' := s.toks) (fun b o hb e => eb b o hb e) f0 f1 f3 f4 f5⟩
  self := fun _ _ _ _ _ st h => wpAny_pyIter_listiter st h
theorem turn_range {P : Program} {w : World} {K : PySem.W.Frag} {tg : Expr} (it : Addr) (lo : Int) (n : Nat) : Turn P w K tg (Itr lo n) [it] it (fun i h => IsRangeIter h it (lo + (i : Nat) * 1) ((n : Int) - (i : Nat)) 1) where
  mem := by simp
  obj := fun i h st b hb => by
    have e : b = it := by simpa using hb
    subst e
    exact ⟨_, st, fun v z => by
      have z' : Data.fields _ = Data.cell v := z
      cases z'⟩
  keep := fun i h h' st k => k it (by simp) _ st
  item := by
    intro X hP hw hK hc i pins s σ H E I hf st hg
    subst hP hw hK
    obtain ⟨f0, f1, f2, f3, f4, f5⟩ := hf it (by simp)
    have W := Walks.range (prog := X.prog) (w := X.w) (I.ok.hd hc) it lo 1 n
    refine W.item i s _ _ hg st fun v h' tk hv st' kk => ?_
    obtain ⟨t, rfl⟩ := hv
    have I1 : Inv X pins σ H { s with heap := h', toks := tk } := I.turned (fun b o hb e => kk b o (by simpa using hb) e) f0 f1 f3 f4 f5
    refine ⟨_, rfl, go_of (s := { s with heap := h', toks := tk }) (n := "range_iterator") st' rfl rfl (by decide) ⟨.int (lo + i), H, I1, ⟨t, ?_⟩, ⟨rfl, rfl⟩, st', fun b hb => (hf b hb).1⟩⟩
    rw [Int.mul_one]
  done := by
    intro X hP hw hK hc i pins s σ H E I hf st hg
    subst hP hw hK
    obtain ⟨f0, f1, f2, f3, f4, f5⟩ := hf it (by simp)
    exact wpAny_pyNext_range_end (I.ok.hd hc) st (by have : n ≤ i := hg; omega) fun h' eb => ⟨rfl, I.turned (t' := s.toks) (fun b o hb e => eb b o hb e) f0 f1 f3 f4 f5⟩
  self := fun _ _ _ _ _ st h => wpAny_pyIter_rangeiter st h
end L2

namespace L2
open PySem PySem.Spec PyProof.Rows
section
variable {X : Cx} {tg : Expr}
def iList (K : PySem.W.Frag) (tl : TE) : TI := fun σ H R => tl σ H fun x H1 => ∃ a, x = .ref a ∧ (∃ xs, SqL K H1 a xs) ∧ R (Itl K a) H1
def iTup (K : PySem.W.Frag) (tl : TE) : TI := fun σ H R => tl σ H fun x H1 => ∃ a, x = .ref a ∧ (∃ xs, SqT K H1 a xs) ∧ R (Itt K a) H1
theorem pi_list {l : Expr} {tl : TE} (hl : PE X l tl) : PI X tg l (iList X.K tl) := by
  intro pins s σ H R I h
  refine thn (hl pins s σ H _ I h) fun v s1 ⟨x, H1, I1, r1, q1⟩ => ?_
  obtain ⟨a, e, ⟨xs, hq⟩, q⟩ := q1
  subst e
  cases r1
  obtain ⟨its, rv, p, hz⟩ := I1.list hq
  refine wpAny_pyIter_list p.isList ?_
  refine ⟨s1.heap.objs.size, [s1.heap.objs.size], _, _, H1, rfl, I1.kept (t' := s1.toks) fun b o e => Heap.get?_push_of_some _ e, turn_list a _, ⟨_, Heap.get?_push_size _ rfl, rfl, rfl⟩, fun b hb => ?_, q⟩
  have e : b = s1.heap.objs.size := by simpa using hb
  subst e
  exact I1.fpOk (Nat.le_refl _) (I1.hok.fresh (Nat.le_refl _))
/-- a range object just made, walked -/
theorem range_it {pins : List (Addr × Obj)} {σ : St} {H : Hp} {s : Shared} {R : It → Hp → Prop} {E : Value → Shared → Prop} {lo hi : Int} {t u v : Tok} {tk : Nat} (I : Inv X pins σ H s) (h1 : -(2 ^ 62) ≤ lo) (h2 : lo < 2 ^ 62) (h3 : -(2 ^ 62) ≤ hi) (h4 : hi < 2 ^ 62)
    (q : R (Itr lo (hi - lo).toNat) H) : wpAny (model X.prog X.w) X.A (pyIter (.ref s.heap.objs.size)) (PIE X pins σ tg R) E { s with heap := s.heap.push { cls := .type "range", data := .fields #[.int lo t, .int hi u, .int 1 v] }, toks := tk } := by
  refine wpAny_pyIter_range (IsRange.new ..) (small_one h1 h2 h3 h4) ?_
  have I1 : Inv X pins σ H { s with heap := s.heap.push { cls := .type "range", data := .fields #[.int lo t, .int hi u, .int 1 v] }, toks := tk } := I.kept fun b o e => Heap.get?_push_of_some _ e
  refine ⟨(s.heap.push { cls := .type "range", data := .fields #[.int lo t, .int hi u, .int 1 v] }).objs.size, [(s.heap.push { cls := .type "range", data := .fields #[.int lo t, .int hi u, .int 1 v] }).objs.size], _, _, H, rfl,
    I1.kept (t' := tk) fun b o e => Heap.get?_push_of_some _ e, turn_range _ lo (hi - lo).toNat, ?_, fun b hb => ?_, q⟩
  · have e1 : lo + ((0 : Nat) : Int) * 1 = lo := by simp
    have e2 : (((hi - lo).toNat : Nat) : Int) - ((0 : Nat) : Int) = Builtin.Range.rangeSize lo hi 1 := by rw [rangeSize_one]; split <;> omega
    show IsRangeIter _ _ (lo + ((0 : Nat) : Int) * 1) ((((hi - lo).toNat : Nat) : Int) - ((0 : Nat) : Int)) 1
    rw [e1, e2]
    exact Heap.get?_push_size _ rfl
  · have e : b = (s.heap.push { cls := .type "range", data := .fields #[.int lo t, .int hi u, .int 1 v] }).objs.size := by simpa using hb
    subst e
    exact I1.fpOk (Nat.le_refl _) (I1.hok.fresh (Nat.le_refl _))
def iRng1 (ta : TA) : TI := fun σ H R => ta σ H fun vs H1 => ∃ j : Int, vs = [.int j] ∧ -(2 ^ 62) ≤ j ∧ j < 2 ^ 62 ∧ R (Itr 0 j.toNat) H1
theorem pi_range1 {a : Expr} {ta : TA} {p pos : Pos} (hg : Gl X "range") (hm : X.mg "range" = none) (ha : PA X [a] ta) (hs : starEach [a] X.env = [(false, eval a X.env)] := by rfl) : PI X tg (.Call (.Name "range" p) [a] [] pos) (iRng1 ta) := by
  intro pins s σ H R I h
  refine Call_ (ld_blt I hg hm boot_range (PyProof.Rows.callWith_type1 (thn (ha pos pins s σ H _ I h) fun us s1 ⟨vs, H1, I1, r1, q1⟩ => ?_) hs rfl))
  obtain ⟨j, e, q1, q2, q⟩ := q1
  subst e
  cases r1 with
  | cons r rr =>
    cases rr
    obtain ⟨t, rfl⟩ := r
    exact call_range_1 (range_it I1 (by omega) (by omega) q1 q2 (by simpa using q))
/-! ### for -/
/-- W: the invariant by the turn and a measure; N: what the body is to reach -/
def tFor (wi : TI) (g : TG) (tb : TS) : TS := fun D σ H => wi σ H fun J H1 => ∃ W : Nat → Nat → St → Hp → Prop, (∃ m, W 0 m σ H1) ∧ ∀ i m σ H, W i m σ H →
  (J.stop i H ∧ D.nx σ H) ∨ (J.go i H ∧ ∃ N : St → Hp → Prop, (∀ σ' H', N σ' H' → ∃ m', m' < m ∧ W (i + 1) m' σ' H') ∧ ∀ x H', J.yld i H x H' → g x σ H' fun σ2 H2 => tb { D with nx := N, ct := N, bk := D.nx } σ2 H2)
/-- the records at fp as they stand -/
def pinsAt (fp : List Addr) (h : Heap) : List (Addr × Obj) := fp.filterMap fun b => (h.get? b).map fun o => (b, o)
theorem mem_pinsAt {fp : List Addr} {h : Heap} {b : Addr} {o : Obj} (hb : b ∈ fp) (e : h.get? b = some o) : (b, o) ∈ pinsAt fp h := List.mem_filterMap.mpr ⟨b, hb, by rw [e]; rfl⟩
theorem of_pinsAt {fp : List Addr} {h : Heap} {p : Addr × Obj} (hp : p ∈ pinsAt fp h) : p.1 ∈ fp ∧ h.get? p.1 = some p.2 := by
  obtain ⟨b, hb, e⟩ := List.mem_filterMap.mp hp
  cases q : h.get? b with
  | none => rw [q] at e; cases e
  | some o =>
    rw [q] at e
    have e' : (b, o) = p := Option.some.inj e
    subst e'
    exact ⟨hb, q⟩
theorem Inv.pinned {pins : List (Addr × Obj)} {σ : St} {H : Hp} {s : Shared} {fp : List Addr} (I : Inv X pins σ H s) (hf : ∀ b ∈ fp, FpOk X pins H b) (ho : ∀ b ∈ fp, ∃ o, s.heap.get? b = some o ∧ ∀ v, o.data ≠ .cell v) : Inv X (pins ++ pinsAt fp s.heap) σ H s :=
  I.pins_of fun p hp => (List.mem_append.mp hp).elim (fun z => I.pin p (List.mem_append_right _ z)) fun z => by
    obtain ⟨hb, e⟩ := of_pinsAt z
    obtain ⟨f0, f1, f2, _⟩ := hf p.1 hb
    obtain ⟨o, e', d⟩ := ho p.1 hb
    rw [e] at e'; cases e'
    exact ⟨e, f0, f1, f2, d⟩
theorem Inv.unpinned {pins pl : List (Addr × Obj)} {σ : St} {H : Hp} {s : Shared} (I : Inv X (pins ++ pl) σ H s) : Inv X pins σ H s := I.pins_of fun p hp => I.pin p (List.mem_append_right _ (List.mem_append_left _ hp))
theorem ps_for {iter : Expr} {body : List Stmt} {wi : TI} {g : TG} {tb : TS} {pos : Pos} (hp : PassesOwn (model X.prog X.w) X.A X.env X.xe) (hc : X.calm = true) (hi : PI X tg iter wi) (hg : PG X tg g) (hb : PSs X body tb)
    (hs : ∀ x, foldedSetIterable iter X.env x = pure x := by intro _; rfl) : PS X (.For tg iter body [] pos) (tFor wi g tb) := by
  intro pins s σ H D I h
  refine wpAny_For (thn (hi pins s σ H _ I h) fun v s1 h1 => thn h1 fun itv s2 h2 => ?_) hs
  obtain ⟨it, fp, tn, J, H2, e, I2, T, st2, f2, W, ⟨m0, w0⟩, turn⟩ := h2
  subst e
  -- what stays true of the iterator's objects through the loop
  have stat : ∀ {H' : Hp}, (∀ b ∈ fp, H' b = none) → ∀ b ∈ fp, FpOk X pins H' b := fun hn b hb => ⟨hn b hb, (f2 b hb).2⟩
  refine codeAny_forLoop_any (fun n s' => ∃ i σ' H', Inv X pins σ' H' s' ∧ tn i s'.heap ∧ (∀ b ∈ fp, H' b = none) ∧ W i n σ' H') ?_ m0 ⟨0, σ, H2, I2, st2, fun b hb => (f2 b hb).1, w0⟩
  rintro n s3 ⟨i, σ3, H3, I3, st3, fr3, w3⟩
  rcases turn i n σ3 H3 w3 with ⟨stop, qn⟩ | ⟨go, N, hN, step⟩
  · refine wpAny_passesOwn hp (thn (T.done X rfl rfl rfl hc i pins s3 σ3 H3 X.xe I3 (stat fr3) st3 stop) fun r s4 ⟨hr, I4⟩ => ?_)
    subst hr
    exact wpAny_execs_nil ⟨σ3, H3, I4, qn⟩
  · refine wpAny_passesOwn hp (thn (T.item X rfl rfl rfl hc i pins s3 σ3 H3 X.xe I3 (stat fr3) st3 go) fun r s4 ⟨u, hr, h4⟩ => ?_)
    subst hr
    refine wpAny_passesOwn hp (thn h4 fun _ s5 ⟨x, H5, I5, r5, y5, st5, fr5⟩ => ?_)
    have I5' := I5.pinned (stat fr5) (T.obj _ _ st5)
    refine wpAny_passesOwn hp (thn (hg _ s5 σ3 H5 x u _ I5' r5 (step x H5 y5)) fun _ s6 ⟨σ6, H6, I6, q6⟩ => ?_)
    refine wpAny_passesOwn hp (thn (hb _ s6 σ6 H6 _ I6 q6) fun f s7 q7 => ?_)
    have again : ∀ {σ7 : St} {H7 : Hp}, Inv X (pins ++ pinsAt fp s5.heap) σ7 H7 s7 → N σ7 H7 → ∃ m, m < n ∧ ∃ i σ' H', Inv X pins σ' H' s7 ∧ tn i s7.heap ∧ (∀ b ∈ fp, H' b = none) ∧ W i m σ' H' := fun {σ7 H7} I7 n7 => by
      obtain ⟨m', hm, w7⟩ := hN σ7 H7 n7
      refine ⟨m', hm, i + 1, σ7, H7, I7.unpinned, T.keep _ _ _ st5 fun b hb o e => (I7.pin (b, o) (List.mem_append_right _ (List.mem_append_right _ (mem_pinsAt hb e)))).1, fun b hb => ?_, w7⟩
      obtain ⟨o, e, d⟩ := T.obj _ _ st5 b hb
      exact (I7.pin (b, o) (List.mem_append_right _ (List.mem_append_right _ (mem_pinsAt hb e)))).2.1
    cases f with
    | next => obtain ⟨σ7, H7, I7, n7⟩ := q7; exact again I7 n7
    | cont => obtain ⟨σ7, H7, I7, n7⟩ := q7; exact again I7 n7
    | brk => obtain ⟨σ7, H7, I7, q7⟩ := q7; exact ⟨σ7, H7, I7.unpinned, q7⟩
    | ret v => obtain ⟨x7, σ7, H7, I7, r7, q7⟩ := q7; exact ⟨x7, σ7, H7, I7.unpinned, r7, q7⟩
end

/-! ### the forms one uses -/
/-- over a list that the body leaves as it is -/
theorem for_list {K : PySem.W.Frag} {a : Addr} {xs : List V} {g : TG} {tb : TS} {D : Ends} {σ : St} {H : Hp} (Pv : Nat → St → Hp → Prop) (h0 : Pv 0 σ H) (hl : ∀ i σ H, i ≤ xs.length → Pv i σ H → SqL K H a xs)
    (hs : ∀ i x σ H, xs[i]? = some x → Pv i σ H → g x σ H fun σ2 H2 => tb { D with nx := Pv (i + 1), ct := Pv (i + 1), bk := D.nx } σ2 H2) (hd : ∀ σ H, Pv xs.length σ H → D.nx σ H) :
    ∃ W : Nat → Nat → St → Hp → Prop, (∃ m, W 0 m σ H) ∧ ∀ i m σ H, W i m σ H →
      ((Itl K a).stop i H ∧ D.nx σ H) ∨ ((Itl K a).go i H ∧ ∃ N : St → Hp → Prop, (∀ σ' H', N σ' H' → ∃ m', m' < m ∧ W (i + 1) m' σ' H') ∧ ∀ x H', (Itl K a).yld i H x H' → g x σ H' fun σ2 H2 => tb { D with nx := N, ct := N, bk := D.nx } σ2 H2) := by
  refine ⟨fun i m σ H => m = xs.length - i ∧ i ≤ xs.length ∧ Pv i σ H, ⟨xs.length, by simp, Nat.zero_le _, h0⟩, ?_⟩
  rintro i m σ H ⟨rfl, hi, p⟩
  have q := hl i σ H hi p
  by_cases hlt : i < xs.length
  · refine .inr ⟨⟨xs, xs[i], q, by simp [hlt]⟩, Pv (i + 1), fun σ' H' p' => ⟨xs.length - (i + 1), by omega, rfl, hlt, p'⟩, fun x H' y => ?_⟩
    obtain ⟨e, y⟩ := y
    subst e
    exact hs i x σ _ (y xs q) p
  · have e : i = xs.length := by omega
    subst e
    exact .inl ⟨⟨xs, q, Nat.le_refl _⟩, hd σ H p⟩
theorem for_range {lo : Int} {n : Nat} {g : TG} {tb : TS} {D : Ends} {σ : St} {H : Hp} (Pv : Nat → St → Hp → Prop) (h0 : Pv 0 σ H)
    (hs : ∀ i σ H, i < n → Pv i σ H → g (.int (lo + i)) σ H fun σ2 H2 => tb { D with nx := Pv (i + 1), ct := Pv (i + 1), bk := D.nx } σ2 H2) (hd : ∀ σ H, Pv n σ H → D.nx σ H) :
    ∃ W : Nat → Nat → St → Hp → Prop, (∃ m, W 0 m σ H) ∧ ∀ i m σ H, W i m σ H →
      ((Itr lo n).stop i H ∧ D.nx σ H) ∨ ((Itr lo n).go i H ∧ ∃ N : St → Hp → Prop, (∀ σ' H', N σ' H' → ∃ m', m' < m ∧ W (i + 1) m' σ' H') ∧ ∀ x H', (Itr lo n).yld i H x H' → g x σ H' fun σ2 H2 => tb { D with nx := N, ct := N, bk := D.nx } σ2 H2) := by
  refine ⟨fun i m σ H => m = n - i ∧ i ≤ n ∧ Pv i σ H, ⟨n, by simp, Nat.zero_le _, h0⟩, ?_⟩
  rintro i m σ H ⟨rfl, hi, p⟩
  by_cases hlt : i < n
  · refine .inr ⟨hlt, Pv (i + 1), fun σ' H' p' => ⟨n - (i + 1), by omega, rfl, hlt, p'⟩, fun x H' y => ?_⟩
    obtain ⟨e, y⟩ := y
    subst e y
    exact hs i σ _ hlt p
  · have e : i = n := by omega
    subst e
    exact .inl ⟨Nat.le_refl _, hd σ H p⟩
end L2

namespace L2
open PySem PySem.Spec PyProof.Rows

abbrev R2 := V → V → Hp → VK → Prop
/-- a two-place operation on values: f is binaryOp op, inplaceOp op or compareOp op -/
def OpR (X : Cx) (f : Value → Value → Sem Value) (r : R2) : Prop :=
  ∀ (pins : List (Addr × Obj)) (s : Shared) (σ : St) (H : Hp) (x y : V) (v u : Value) (Q : VK), Inv X pins σ H s → RelV x v → RelV y u → r x y H Q →
    wpAny (model X.prog X.w) X.A (f v u) (EP X pins σ Q) X.xe s
/-- a one-place operation -/
def UnR (X : Cx) (f : Value → Sem Value) (r : V → Hp → VK → Prop) : Prop :=
  ∀ (pins : List (Addr × Obj)) (s : Shared) (σ : St) (H : Hp) (x : V) (v : Value) (Q : VK), Inv X pins σ H s → RelV x v → r x H Q →
    wpAny (model X.prog X.w) X.A (f v) (EP X pins σ Q) X.xe s
/-- a call of a value that is known (a builtin, a type) with values -/
def CallR (X : Cx) (f : Value) (r : List V → Hp → VK → Prop) : Prop :=
  ∀ (pins : List (Addr × Obj)) (s : Shared) (σ : St) (H : Hp) (xs : List V) (us : List Value) (Q : VK), Inv X pins σ H s → Vals xs us → r xs H Q →
    wpAny (model X.prog X.w) X.A (call f us) (EP X pins σ Q) X.xe s
def tOp (r : R2) (ta tb : TE) : TE := fun σ H Q => ta σ H fun x H1 => tb σ H1 fun y H2 => r x y H2 Q
def tUn (r : V → Hp → VK → Prop) (ta : TE) : TE := fun σ H Q => ta σ H fun x H1 => r x H1 Q
/-- ints in, under C, and a value out -/
def rI (C : Int → Int → Prop) (g : Int → Int → V) : R2 := fun x y H Q => ∃ i j, x = .int i ∧ y = .int j ∧ C i j ∧ Q (g i j) H
def rI0 (g : Int → Int → V) : R2 := fun x y H Q => ∃ i j, x = .int i ∧ y = .int j ∧ Q (g i j) H
def rU (g : Int → V) : V → Hp → VK → Prop := fun x H Q => ∃ i, x = .int i ∧ Q (g i) H

section
variable {X : Cx} {a b c : Expr} {ta tb tc : TE} {pos : Pos}

theorem binT (ha : PE X a ta) (hb : PE X b tb) {pins : List (Addr × Obj)} {s : Shared} {σ : St} {H : Hp} {R : V → V → Hp → Prop} (I : Inv X pins σ H s)
    (h : ta σ H fun x H1 => tb σ H1 fun y H2 => R x y H2) {Q : Value → Shared → Prop} {f : Value → Value → Sem Value}
    (hf : ∀ v u s2 x y H2, Inv X pins σ H2 s2 → RelV x v → RelV y u → R x y H2 → wpAny (model X.prog X.w) X.A (f v u) Q X.xe s2) :
    wpAny (model X.prog X.w) X.A (eval a X.env) (fun v s₁ => wpAny (model X.prog X.w) X.A (eval b X.env) (fun u s₂ => wpAny (model X.prog X.w) X.A (f v u) Q X.xe s₂) X.xe s₁) X.xe s := by
  refine thn (ha pins s σ H _ I h) fun v s1 ⟨x, H1, I1, r1, q1⟩ => ?_
  refine thn (hb pins s1 σ H1 _ I1 q1) fun u s2 ⟨y, H2, I2, r2, q2⟩ => ?_
  exact hf v u s2 x y H2 I2 r1 r2 q2

theorem pe_op {op : Operator} {r : R2} (ho : OpR X (binaryOp op) r) (ha : PE X a ta) (hb : PE X b tb) : PE X (.BinOp a op b pos) (tOp r ta tb) := by
  intro pins s σ H Q I h
  exact wpAny_BinOp (binT ha hb I h fun v u s2 x y H2 I2 rx ry q => ho pins s2 σ H2 x y v u Q I2 rx ry q)
theorem pe_un {op : UnaryOp} {r : V → Hp → VK → Prop} (ho : UnR X (unaryOp op) r) (ha : PE X a ta) : PE X (.UnaryOp op a pos) (tUn r ta) := by
  intro pins s σ H Q I h
  exact UnaryOp_ (thn (ha pins s σ H _ I h) fun v s1 ⟨x, H1, I1, r1, q1⟩ => ho pins s1 σ H1 x v Q I1 r1 q1)
/-! ### ints -/
theorem opI {f : Value → Value → Sem Value} {C : Int → Int → Prop} {g : Int → Int → Int}
    (rule : ∀ (i j : Int) (t u : Tok) (s : Shared) (Q : Value → Shared → Prop) (E : Value → Shared → Prop), C i j → Q (.int (g i j) s.toks) { s with toks := s.toks + 1 } → wpAny (model X.prog X.w) X.A (f (.int i t) (.int j u)) Q E s) :
    OpR X f (rI C fun i j => .int (g i j)) := by
  intro pins s σ H x y v u Q I rx ry h
  obtain ⟨i, j, rfl, rfl, hc, q⟩ := h
  obtain ⟨t, rfl⟩ := rx
  obtain ⟨t', rfl⟩ := ry
  exact rule i j t t' s _ _ hc ⟨.int (g i j), H, I.tok _, ⟨_, rfl⟩, q⟩
theorem opI0 {f : Value → Value → Sem Value} {g : Int → Int → Int}
    (rule : ∀ (i j : Int) (t u : Tok) (s : Shared) (Q : Value → Shared → Prop) (E : Value → Shared → Prop), Q (.int (g i j) s.toks) { s with toks := s.toks + 1 } → wpAny (model X.prog X.w) X.A (f (.int i t) (.int j u)) Q E s) :
    OpR X f (rI0 fun i j => .int (g i j)) := by
  intro pins s σ H x y v u Q I rx ry h
  obtain ⟨i, j, rfl, rfl, q⟩ := h
  obtain ⟨t, rfl⟩ := rx
  obtain ⟨t', rfl⟩ := ry
  exact rule i j t t' s _ _ ⟨.int (g i j), H, I.tok _, ⟨_, rfl⟩, q⟩
theorem opB0 {f : Value → Value → Sem Value} {g : Int → Int → Bool}
    (rule : ∀ (i j : Int) (t u : Tok) (s : Shared) (Q : Value → Shared → Prop) (E : Value → Shared → Prop), Q (.bool (g i j)) s → wpAny (model X.prog X.w) X.A (f (.int i t) (.int j u)) Q E s) :
    OpR X f (rI0 fun i j => .bl (g i j)) := by
  intro pins s σ H x y v u Q I rx ry h
  obtain ⟨i, j, rfl, rfl, q⟩ := h
  obtain ⟨t, rfl⟩ := rx
  obtain ⟨t', rfl⟩ := ry
  exact rule i j t t' s _ _ ⟨.bl (g i j), H, I, rfl, q⟩

def CDiv (i j : Int) : Prop := 0 < j ∧ j < 1073741824
def CMul (i j : Int) : Prop := (-(2 ^ 64) < i ∧ i < 2 ^ 64) ∨ (-(2 ^ 64) < j ∧ j < 2 ^ 64)
theorem CMul.ok {i j : Int} (h : CMul i j) : IntMulOk i j := by
  rcases h with ⟨h1, h2⟩ | ⟨h1, h2⟩
  · exact .of_left (intBits_le_64 h1 h2)
  · exact .of_right (intBits_le_64 h1 h2)
theorem op_add : OpR X (binaryOp .Add) (rI0 fun i j => .int (i + j)) := opI0 fun _ _ _ _ _ _ _ q => add_int q
theorem op_sub : OpR X (binaryOp .Sub) (rI0 fun i j => .int (i - j)) := opI0 fun _ _ _ _ _ _ _ q => sub_int q
theorem op_mul : OpR X (binaryOp .Mult) (rI CMul fun i j => .int (i * j)) := opI fun _ _ _ _ _ _ _ hc q => mul_int q hc.ok
/-- // by a positive divisor -/
theorem op_fdiv : OpR X (binaryOp .FloorDiv) (rI CDiv fun i j => .int (i / j)) := opI fun i j _ _ _ _ _ hc q => by
  have h1 : (0 : Int) < j := hc.1
  have h2 : j < 1073741824 := hc.2
  exact floordiv_int (by omega) (by rw [Int.fdiv_eq_ediv_of_nonneg i (by omega)]; exact q) (.inl (PyProof.noPylong_small (by omega)))
/-- % by a positive divisor of any size -/
theorem op_mod : OpR X (binaryOp .Mod) (rI (fun _ j => 0 < j) fun i j => .int (i % j)) := opI fun i j _ _ _ _ _ hc q => by
  have h1 : (0 : Int) < j := hc
  exact mod_int' (by omega) (by rw [Int.fmod_eq_emod_of_nonneg i (by omega)]; exact q)
theorem unI {f : Value → Sem Value} {g : Int → Int}
    (rule : ∀ (i : Int) (t : Tok) (s : Shared) (Q : Value → Shared → Prop) (E : Value → Shared → Prop), Q (.int (g i) s.toks) { s with toks := s.toks + 1 } → wpAny (model X.prog X.w) X.A (f (.int i t)) Q E s) :
    UnR X f (rU fun i => .int (g i)) := by
  intro pins s σ H x v Q I rx h
  obtain ⟨i, rfl, q⟩ := h
  obtain ⟨t, rfl⟩ := rx
  exact rule i t s _ _ ⟨.int (g i), H, I.tok _, ⟨_, rfl⟩, q⟩
theorem un_neg : UnR X (unaryOp .USub) (rU fun i => .int (-i)) := unI fun _ _ _ _ _ q => neg_int q
/-! ### bools among ints: n += (a < b) -/
end

/-! ### comparisons -/
/-- the scalars that == tells apart as data does -/
def scal : V → V → Bool
  | .non, .non => true | .non, .int _ => true | .int _, .non => true | .non, .bl _ => true | .bl _, .non => true | .non, .str _ => true | .str _, .non => true
  | .int _, .int _ => true | .bl _, .bl _ => true | .str _, .str _ => true | .byt _, .byt _ => true
  | .int _, .str _ => true | .str _, .int _ => true | .bl _, .str _ => true | .str _, .bl _ => true
  | _, _ => false
def rEq : R2 := fun x y H Q => scal x y = true ∧ Q (.bl (decide (x = y))) H
def rNe : R2 := fun x y H Q => scal x y = true ∧ Q (.bl (!decide (x = y))) H

theorem dec_int {i j : Int} : decide (V.int i = V.int j) = (i == j) := by
  rw [Bool.eq_iff_iff]
  simp
theorem dec_bl {i j : Bool} : decide (V.bl i = V.bl j) = (i == j) := by
  rw [Bool.eq_iff_iff]
  simp
theorem dec_str {i j : Str} : decide (V.str i = V.str j) = (i == j) := by
  rw [Bool.eq_iff_iff]
  simp
theorem dec_byt {i j : Array UInt8} : decide (V.byt i = V.byt j) = (i.toList == j.toList) := by
  rw [Bool.eq_iff_iff]
  cases i
  cases j
  simp

section
variable {X : Cx} {a b c : Expr} {ta tb tc : TE} {pos : Pos}
theorem fin_bl {pins : List (Addr × Obj)} {σ : St} {H : Hp} {s : Shared} {Q : VK} {k k' : Bool} (I : Inv X pins σ H s) (q : Q (.bl k) H) (e : k = k') : EP X pins σ Q (.bool k') s := by
  subst e
  exact ⟨.bl k, H, I, rfl, q⟩
theorem op_eq : OpR X (compareOp .Eq) rEq := by
  intro pins s σ H x y v u Q I rx ry h
  obtain ⟨hs, q⟩ := h
  cases x with
  | non =>
    cases rx
    cases y with
    | non => cases ry; exact PySem.EqNone.eq_none_none (fin_bl I q (by simp))
    | bl j => cases ry; exact PySem.EqNone.eq_none_bool (fin_bl I q (by simp))
    | int j => obtain ⟨t', rfl⟩ := ry; exact PySem.EqNone.eq_none_int (fin_bl I q (by simp))
    | str j => obtain ⟨t', rfl⟩ := ry; exact PySem.EqNone.eq_none_str (fin_bl I q (by simp))
    | _ => exact absurd (show false = true from hs) Bool.false_ne_true
  | bl i =>
    cases rx
    cases y with
    | non => cases ry; exact PySem.EqNone.eq_bool_none (fin_bl I q (by simp))
    | bl j => cases ry; exact eq_bool (fin_bl I q dec_bl)
    | str j => obtain ⟨t', rfl⟩ := ry; exact PySem.EqMixed.eq_bool_str (fin_bl I q (by simp))
    | _ => exact absurd (show false = true from hs) Bool.false_ne_true
  | int i =>
    obtain ⟨t, rfl⟩ := rx
    cases y with
    | non => cases ry; exact PySem.EqNone.eq_int_none (fin_bl I q (by simp))
    | int j => obtain ⟨t', rfl⟩ := ry; exact eq_int (fin_bl I q dec_int)
    | str j => obtain ⟨t', rfl⟩ := ry; exact PySem.EqMixed.eq_int_str (fin_bl I q (by simp))
    | _ => exact absurd (show false = true from hs) Bool.false_ne_true
  | str i =>
    obtain ⟨t, rfl⟩ := rx
    cases y with
    | non => cases ry; exact PySem.EqNone.eq_str_none (fin_bl I q (by simp))
    | bl j => cases ry; exact PySem.EqMixed.eq_str_bool (fin_bl I q (by simp))
    | int j => obtain ⟨t', rfl⟩ := ry; exact PySem.EqMixed.eq_str_int (fin_bl I q (by simp))
    | str j => obtain ⟨t', rfl⟩ := ry; exact eq_str (fin_bl I q dec_str)
    | _ => exact absurd (show false = true from hs) Bool.false_ne_true
  | byt i =>
    obtain ⟨t, rfl⟩ := rx
    cases y with
    | byt j => obtain ⟨t', rfl⟩ := ry; exact PySem.W.eq_bytes (fin_bl I q dec_byt)
    | _ => exact absurd (show false = true from hs) Bool.false_ne_true
  | _ => cases y <;> exact absurd (show false = true from hs) Bool.false_ne_true
theorem op_ne : OpR X (compareOp .NotEq) rNe := by
  intro pins s σ H x y v u Q I rx ry h
  obtain ⟨hs, q⟩ := h
  cases x with
  | non =>
    cases rx
    cases y with
    | non => cases ry; exact PySem.EqNone.ne_none_none (fin_bl I q (by simp))
    | bl j => cases ry; exact PySem.EqNone.ne_none_bool (fin_bl I q (by simp))
    | int j => obtain ⟨t', rfl⟩ := ry; exact PySem.EqNone.ne_none_int (fin_bl I q (by simp))
    | str j => obtain ⟨t', rfl⟩ := ry; exact PySem.EqNone.ne_none_str (fin_bl I q (by simp))
    | _ => exact absurd (show false = true from hs) Bool.false_ne_true
  | bl i =>
    cases rx
    cases y with
    | non => cases ry; exact PySem.EqNone.ne_bool_none (fin_bl I q (by simp))
    | bl j => cases ry; exact ne_bool (fin_bl I q (congrArg not dec_bl))
    | str j => obtain ⟨t', rfl⟩ := ry; exact PySem.EqMixed.ne_bool_str (fin_bl I q (by simp))
    | _ => exact absurd (show false = true from hs) Bool.false_ne_true
  | int i =>
    obtain ⟨t, rfl⟩ := rx
    cases y with
    | non => cases ry; exact PySem.EqNone.ne_int_none (fin_bl I q (by simp))
    | int j => obtain ⟨t', rfl⟩ := ry; exact ne_int (fin_bl I q (congrArg not dec_int))
    | str j => obtain ⟨t', rfl⟩ := ry; exact PySem.EqMixed.ne_int_str (fin_bl I q (by simp))
    | _ => exact absurd (show false = true from hs) Bool.false_ne_true
  | str i =>
    obtain ⟨t, rfl⟩ := rx
    cases y with
    | non => cases ry; exact PySem.EqNone.ne_str_none (fin_bl I q (by simp))
    | bl j => cases ry; exact PySem.EqMixed.ne_str_bool (fin_bl I q (by simp))
    | int j => obtain ⟨t', rfl⟩ := ry; exact PySem.EqMixed.ne_str_int (fin_bl I q (by simp))
    | str j => obtain ⟨t', rfl⟩ := ry; exact ne_str (fin_bl I q (congrArg not dec_str))
    | _ => exact absurd (show false = true from hs) Bool.false_ne_true
  | byt i =>
    obtain ⟨t, rfl⟩ := rx
    cases y with
    | byt j => obtain ⟨t', rfl⟩ := ry; exact PySem.W.ne_bytes (fin_bl I q (congrArg not dec_byt))
    | _ => exact absurd (show false = true from hs) Bool.false_ne_true
  | _ => cases y <;> exact absurd (show false = true from hs) Bool.false_ne_true

theorem op_lt : OpR X (compareOp .Lt) (rI0 fun i j => .bl (decide (i < j))) := opB0 fun _ _ _ _ _ _ _ q => lt_int q
theorem op_le : OpR X (compareOp .LtE) (rI0 fun i j => .bl (decide (i ≤ j))) := opB0 fun _ _ _ _ _ _ _ q => le_int q
theorem op_gt : OpR X (compareOp .Gt) (rI0 fun i j => .bl (decide (j < i))) := opB0 fun _ _ _ _ _ _ _ q => gt_int q
theorem op_ge : OpR X (compareOp .GtE) (rI0 fun i j => .bl (decide (j ≤ i))) := opB0 fun _ _ _ _ _ _ _ q => ge_int q
/-- the one string within the other -/
theorem op_in_str : OpR X (compareOp .In) (fun x y H Q => ∃ i j, x = .str i ∧ y = .str j ∧ Q (.bl (!(Builtin.Str.occurrences j i 0 j.length 1).isEmpty)) H) := by
  intro pins s σ H x y v u Q I rx ry h
  obtain ⟨i, j, rfl, rfl, q⟩ := h
  obtain ⟨t, rfl⟩ := rx
  obtain ⟨t', rfl⟩ := ry
  exact in_str (fin_bl I q rfl)

/-- is None, is not None: the right side a value none -/
theorem op_isN : OpR X (compareOp .Is) (fun x y H Q => y = .non ∧ Q (.bl (decide (x = .non))) H) := by
  intro pins s σ H x y v u Q I rx ry h
  obtain ⟨rfl, q⟩ := h
  cases ry
  refine is_none_gen (fin_bl I q ?_)
  cases x <;> first
    | (cases rx; rfl)
    | (obtain ⟨t, rfl⟩ := rx; rfl)
theorem op_notin_str : OpR X (compareOp .NotIn) (fun x y H Q => ∃ i j, x = .str i ∧ y = .str j ∧ Q (.bl (!(!(Builtin.Str.occurrences j i 0 j.length 1).isEmpty))) H) := by
  intro pins s σ H x y v u Q I rx ry h
  obtain ⟨i, j, rfl, rfl, q⟩ := h
  obtain ⟨t, rfl⟩ := rx
  obtain ⟨t', rfl⟩ := ry
  exact notIn_str (fin_bl I q rfl)
/-- two rules for one operation: by cases -/
theorem OpR.or {f : Value → Value → Sem Value} {r r' : R2} (h : OpR X f r) (h' : OpR X f r') : OpR X f (fun x y H Q => r x y H Q ∨ r' x y H Q) := by
  intro pins s σ H x y v u Q I rx ry q
  rcases q with q | q
  · exact h pins s σ H x y v u Q I rx ry q
  · exact h' pins s σ H x y v u Q I rx ry q

theorem nomark (b : Expr) {op : CmpOp} (h : op ≠ .In := by decide) (h2 : op ≠ .NotIn := by decide) : behindInMarks op b = false := by
  have e1 : (op == CmpOp.In) = false := by cases op <;> first | rfl | exact absurd rfl h
  have e2 : (op == CmpOp.NotIn) = false := by cases op <;> first | rfl | exact absurd rfl h2
  cases b <;> simp [behindInMarks, e1, e2]
/-- a comparison as a value; hm: nomark b, or (for in, not in) by with_unfolding_all rfl -/
theorem pe_cmpR {op : CmpOp} {r : R2} (ho : OpR X (compareOp op) r) (ha : PE X a ta) (hb : PE X b tb) (hm : behindInMarks op b = false) : PE X (.Compare a [op] [b] pos) (tOp r ta tb) := by
  intro pins s σ H Q I h
  exact wpAny_Compare1 (binT ha hb I h fun v u s2 x y H2 I2 rx ry q => ho pins s2 σ H2 x y v u Q I2 rx ry q) hm
/-- a reading of a value as a test -/
def tTest (t : TE) : TT := fun σ H Q => t σ H fun x H' => ∃ k, x = .bl k ∧ Q k H'
theorem pt_cmpR {op : CmpOp} {r : R2} (ho : OpR X (compareOp op) r) (ha : PE X a ta) (hb : PE X b tb) (hm : behindInMarks op b = false) : PT X (.Compare a [op] [b] pos) (tTest (tOp r ta tb)) := by
  intro pins s σ H Q I h
  refine wpAny_isTrue_Compare1 (thn (ha pins s σ H _ I h) fun v s1 ⟨x, H1, I1, r1, q1⟩ => thn (hb pins s1 σ H1 _ I1 q1) fun u s2 ⟨y, H2, I2, r2, q2⟩ =>
    thn (ho pins s2 σ H2 x y v u _ I2 r1 r2 q2) fun c s3 ⟨z, H3, I3, r3, k, e, q3⟩ => ?_) hm
  subst e
  cases r3
  exact wpAny_truthy_bool ⟨H3, I3, q3⟩
/-- a op1 b op2 c -/
def tChain (r r' : R2) (ta tb tc : TE) : TE := fun σ H Q => ta σ H fun x H1 => tb σ H1 fun y H2 => r x y H2 fun z H3 => ∃ k, z = .bl k ∧
  (if k = true then tc σ H3 fun w' H4 => r' y w' H4 Q else Q (.bl false) H3)
theorem pe_chain {op op' : CmpOp} {r r' : R2} (ho : OpR X (compareOp op) r) (ho' : OpR X (compareOp op') r') (ha : PE X a ta) (hb : PE X b tb) (hc : PE X c tc)
    (hm : lastMarks [op, op'] [b, c] = false := by with_unfolding_all rfl) : PE X (.Compare a [op, op'] [b, c] pos) (tChain r r' ta tb tc) := by
  intro pins s σ H Q I h
  refine Compare_chain (thn (ha pins s σ H _ I h) fun v s1 ⟨x, H1, I1, r1, q1⟩ => chain_link (thn (hb pins s1 σ H1 _ I1 q1) fun u s2 ⟨y, H2, I2, r2, q2⟩ =>
    thn (ho pins s2 σ H2 x y v u _ I2 r1 r2 q2) fun d s3 ⟨z, H3, I3, r3, k, e, q3⟩ => ?_)) hm
  subst e
  cases r3
  refine wpAny_truthy_bool ?_
  cases k with
  | false => exact ite_ff ⟨.bl false, H3, I3, rfl, q3⟩
  | true => exact ite_tt (chain_last (thn (hc pins s3 σ H3 _ I3 q3) fun w' s4 ⟨z', H4, I4, r4, q4⟩ => ho' pins s4 σ H4 y z' u w' Q I4 r2 r4 q4))
theorem pt_chain {op op' : CmpOp} {r r' : R2} (ho : OpR X (compareOp op) r) (ho' : OpR X (compareOp op') r') (ha : PE X a ta) (hb : PE X b tb) (hc : PE X c tc)
    (hm : lastMarks [op, op'] [b, c] = false := by with_unfolding_all rfl) : PT X (.Compare a [op, op'] [b, c] pos) (tTest (tChain r r' ta tb tc)) := by
  intro pins s σ H Q I h
  refine isTrue_chain (thn (ha pins s σ H _ I h) fun v s1 ⟨x, H1, I1, r1, q1⟩ => test_link (thn (hb pins s1 σ H1 _ I1 q1) fun u s2 ⟨y, H2, I2, r2, q2⟩ =>
    thn (ho pins s2 σ H2 x y v u _ I2 r1 r2 q2) fun d s3 ⟨z, H3, I3, r3, k, e, q3⟩ => ?_)) hm
  subst e
  cases r3
  refine wpAny_truthy_bool ?_
  cases k with
  | false =>
    obtain ⟨k', e', q'⟩ := q3
    cases e'
    exact ite_ff ⟨H3, I3, q'⟩
  | true =>
    refine ite_tt (test_last (thn (hc pins s3 σ H3 _ I3 q3) fun w' s4 ⟨z', H4, I4, r4, q4⟩ => thn (ho' pins s4 σ H4 y z' u w' _ I4 r2 r4 q4) fun d' s5 ⟨z2, H5, I5, r5, k2, e2, q5⟩ => ?_))
    subst e2
    cases r5
    exact wpAny_truthy_bool ⟨H5, I5, q5⟩

/-! ### truth -/
theorem line63 : (sizeLine : Nat) < 2 ^ 63 := by rw [sizeLine_eq]; decide
/-! ### strs and bytes -/
theorem op_add_str : OpR X (binaryOp .Add) (fun x y H Q => ∃ i j, x = .str i ∧ y = .str j ∧ i.length + j.length ≤ sizeLine ∧ Q (.str (i ++ j)) H) := by
  intro pins s σ H x y v u Q I rx ry h
  obtain ⟨i, j, rfl, rfl, hz, q⟩ := h
  obtain ⟨t, rfl⟩ := rx
  obtain ⟨t', rfl⟩ := ry
  exact add_str (fun t' tk => ⟨.str (i ++ j), H, I.tok _, ⟨_, rfl⟩, q⟩) hz
/-! ### scalar builtins, by CallR -/
theorem vals1 {x : V} {us : List Value} (r : Vals [x] us) : ∃ u, us = [u] ∧ RelV x u := by
  cases r with
  | cons r1 r2 => cases r2; exact ⟨_, rfl, r1⟩
theorem vals2 {x y : V} {us : List Value} (r : Vals [x, y] us) : ∃ u w', us = [u, w'] ∧ RelV x u ∧ RelV y w' := by
  cases r with
  | cons r1 r2 =>
    cases r2 with
    | cons r3 r4 => cases r4; exact ⟨_, _, rfl, r1, r3⟩
theorem call_int1 : CallR X (.type "int") (fun xs H Q => (∃ i, xs = [.int i] ∧ Q (.int i) H) ∨ ∃ k, xs = [.bl k] ∧ Q (.int (if k then 1 else 0)) H) := by
  intro pins s σ H xs us Q I r h
  rcases h with ⟨i, rfl, q⟩ | ⟨k, rfl, q⟩
  · obtain ⟨u, rfl, t, rfl⟩ := vals1 r
    exact call_int_int ⟨.int i, H, I, ⟨_, rfl⟩, q⟩
  · obtain ⟨u, rfl, r1⟩ := vals1 r
    cases r1
    exact call_int_bool ⟨.int (if k then 1 else 0), H, I.tok _, ⟨_, rfl⟩, q⟩
end
end L2

namespace L2
open PySem PySem.Spec PyProof.Rows

/-! ### an instance, its attributes a map -/
structure ObjM (h : Heap) (x dx C : Addr) (mA : Str → Option Value) : Prop where
  obj : h.get? x = some (PySem.W.instObj C dx)
  ns : h.Ns1 dx mA
  ne : dx ≠ x

theorem lookIn_ns {h : Heap} {dx : Addr} {mA : Str → Option Value} (n : h.Ns1 dx mA) : ∃ od, h.get? dx = some od ∧ ∀ name, PySem.W.lookIn name od = some (mA name) := by
  obtain ⟨o, es, ep, ho, hd, hk, _, hm⟩ := n
  refine ⟨o, ho, fun name => ?_⟩
  have e := hm name
  unfold nsFind findBy at e
  rw [← Array.find?_toList] at e
  unfold PySem.W.lookIn
  rw [hd]
  dsimp only
  split
  · rename_i y q
    rw [q] at e
    exact congrArg some e
  · rename_i q
    rw [q] at e
    have a : es.toList.any (·.refKey) = false := by
      rw [List.any_eq_false]
      intro y hy
      obtain ⟨z, t, hkey⟩ := hk y (Array.mem_toList_iff.mp hy)
      simp [DictEntry.refKey, hkey]
    have a' : ¬ es.toList.any (·.refKey) = true := by rw [a]; exact Bool.false_ne_true
    rw [if_neg a']
    exact congrArg some e

theorem ObjM.look {h : Heap} {x dx C : Addr} {mA : Str → Option Value} (I : ObjM h x dx C mA) : ∃ od, PySem.W.InstAt h x (PySem.W.instObj C dx) C (some od) ∧ ∀ name, PySem.W.lookIn name od = some (mA name) :=
  let ⟨od, ho, hl⟩ := lookIn_ns I.ns
  ⟨od, ⟨I.obj, rfl, rfl, ho⟩, hl⟩

section
variable {prog : Program} {w : World} {A : Around} {E : Value → Shared → Prop} {s : Shared} {K : PySem.W.Frag} {x dx C f : Addr} {mA : Str → Option Value} {name : Str} {v : Value}

end

/-! ### the attributes as a list of pairs -/
def putF (f : Str) (v : V) : List (Str × V) → List (Str × V)
  | [] => [(f, v)]
  | (g, x) :: r => if g = f then (g, v) :: r else (g, x) :: putF f v r
section
variable {P : Program} {w : World} {H H' : Hp} {h h' : Heap} {a C dx : Addr} {fs fs' : List (Str × V)}
theorem ins_get (hok : HOk P w H h) (e : H a = some (.ins C dx fs)) : ∃ mA, ObjM h a dx C mA ∧ (∀ f, RelO (fs.lookup f) (mA f)) ∧ PySem.Within mA (fs.map (·.1)) ∧ fs.length ≤ 1000 ∧ H dx = some (.own a) := by
  obtain ⟨d, z, ne, ob, mA, n, r, q⟩ := (show ObjOk P w H h a (.ins C dx fs) from hok a _ e)
  exact ⟨mA, ⟨ob, n, ne⟩, r, q, z, d⟩
end

/-! ### what of the text a class must have -/
structure Cls (K : PySem.W.Frag) (C : Addr) : Prop where
  pg : PySem.W.plainGet K C Str.empty = true
  hd : PySem.W.hasDictIn K C = true
  po : PySem.W.plainOver K C = true
  sa : PySem.W.findIn K (.ref C) "__setattr__" = some (some (.builtin "object.__setattr__"))
theorem Cls.get {K : PySem.W.Frag} {C : Addr} (c : Cls K C) (f : Str) : PySem.W.plainGet K C f = true := c.pg
/-- no class of it has the name -/
def NoAttr (K : PySem.W.Frag) (C : Addr) (f : Str) : Prop := PySem.W.findIn K (.ref C) f = some none
/-- a constant of the class -/
structure Con (K : PySem.W.Frag) (C : Addr) (f : Str) (v : V) (u : Value) : Prop where
  at_ : PySem.W.findIn K (.ref C) f = some (some u)
  rel : RelV v u
  get : PySem.W.specialIn K u "__get__" = some none
  cp : PySem.W.copiedNames.contains f = false
/-- a method: a plain def of the class or of one above it -/
structure Meth (K : PySem.W.Frag) (C : Addr) (m : Str) (f : Addr) : Prop where
  at_ : PySem.W.findIn K (.ref C) m = some (some (.ref f))
  fn : PySem.W.isFn K (.ref f) = true
  kp : PySem.W.keepIn K (.ref f) = true

section
variable {X : Cx} {pins : List (Addr × Obj)} {σ : St} {H : Hp} {s : Shared} {a C dx : Addr} {fs : List (Str × V)} {f : Str} {v : V} {A : Around} {E : Value → Shared → Prop}

/-- a new instance, tracked, without attributes -/
theorem Inv.made (I : Inv X pins σ H s) : Inv X pins σ (upd (upd H s.heap.objs.size (.own (s.heap.objs.size + 1))) (s.heap.objs.size + 1) (.ins C s.heap.objs.size []))
    { s with heap := (s.heap.push PySem.W.emptyDict).push (PySem.W.instObj C s.heap.objs.size) } := by
  have e1 : (s.heap.push PySem.W.emptyDict).get? s.heap.objs.size = some PySem.W.emptyDict := Heap.get?_push_size s.heap rfl
  have e2 : ((s.heap.push PySem.W.emptyDict).push (PySem.W.instObj C s.heap.objs.size)).get? (s.heap.objs.size + 1) = some (PySem.W.instObj C s.heap.objs.size) := by
    have := Heap.get?_push_size (s.heap.push PySem.W.emptyDict) (o := PySem.W.instObj C s.heap.objs.size) rfl
    rwa [Heap.size_push] at this
  have e3 : (s.heap.push PySem.W.emptyDict).Ns s.heap.objs.size (fun _ => none) := ⟨PySem.W.emptyDict, #[], _, e1, rfl, (fun e he => absurd he (by simp)), fun _ => rfl⟩
  have I1 := I.laid (a := s.heap.objs.size) (o := .own (s.heap.objs.size + 1)) (h' := s.heap.push PySem.W.emptyDict) (t' := s.toks) (fun b u q => Heap.get?_push_of_some _ q) (Nat.le_refl _) ⟨_, e1⟩
  refine I1.laid (a := s.heap.objs.size + 1) (o := .ins C s.heap.objs.size []) (t' := s.toks) (fun b u q => Heap.get?_push_of_some _ q) (Nat.le_of_eq (Heap.size_push _ _)) ?_
  have ne : s.heap.objs.size ≠ s.heap.objs.size + 1 := Nat.ne_of_lt (Nat.lt_succ_self _)
  refine ⟨by rw [upd_ne ne, upd_same], Nat.zero_le _, ne, e2, fun _ => none, (Heap.Ns1.of_empty e3).at fun o q => Heap.get?_push_of_some _ q, fun _ => True.intro, fun y hy => absurd rfl hy⟩

end

/-! ### readings and rules -/
/-- e.f, an attribute of the instance -/
def tFld (K : PySem.W.Frag) (ta : TE) (f : Str) : TE := fun σ H Q => ta σ H fun x H1 => ∃ a C dx fs v, x = .ref a ∧ H1 a = some (.ins C dx fs) ∧ Cls K C ∧ NoAttr K C f ∧ fs.lookup f = some v ∧ Q v H1
/-- e.f = value -/
def sFld (K : PySem.W.Frag) (ta tv : TE) (f : Str) : TS := fun D σ H => tv σ H fun y H1 => ta σ H1 fun x H2 => ∃ a C dx fs, x = .ref a ∧ H2 a = some (.ins C dx fs) ∧ Cls K C ∧ NoAttr K C f ∧ fs.length < 1000 ∧
  D.nx σ (upd H2 a (.ins C dx (putF f y fs)))
section
variable {X : Cx} {o e value : Expr} {f : Str} {pos pos' tpos : Pos} {ta tv : TE}
end

/-! ### isinstance -/
section
variable {X : Cx} {pins : List (Addr × Obj)} {σ : St} {H : Hp} {s : Shared} {A : Around} {E : Value → Shared → Prop} {Q : Value → Shared → Prop} {c : Value} {b : Bool}
/-- the type of a value, as the fragment's deciders take it; for an instance its class -/
inductive TyOf (K : PySem.W.Frag) (H : Hp) : V → Value → Prop where
  | non : TyOf K H .non (.type "NoneType")
  | bl (x : Bool) : TyOf K H (.bl x) (.type "bool")
  | int (i : Int) : TyOf K H (.int i) (.type "int")
  | str (x : Str) : TyOf K H (.str x) (.type "str")
  | flt (x : UInt64) : TyOf K H (.flt x) (.type "float")
  | lst {a : Addr} {xs : List V} (e : H a = some (.lst xs)) : TyOf K H (.ref a) (.type "list")
  | frz {a : Addr} {o : Obj} {xs : List V} (e : H a = some (.frz o (.lst xs))) : TyOf K H (.ref a) (.type "list")
  | tup {a : Addr} {xs : List V} (e : H a = some (.tup xs)) : TyOf K H (.ref a) (.type "tuple")
  | dK {a : Addr} {kvs : List (Key × V)} (e : H a = some (.dK kvs)) : TyOf K H (.ref a) (.type "dict")
  | dT {a : Addr} {kvs : List (List Key × V)} (e : H a = some (.dT kvs)) : TyOf K H (.ref a) (.type "dict")
  | ins {a C dx : Addr} {fs : List (Str × V)} (e : H a = some (.ins C dx fs)) (cl : Cls K C) (ha : PySem.W.findIn K (.ref C) "__class__" = some (some (.builtin "object.__class__")))
      (hn : PySem.W.specialIn K (.builtin "object.__class__") "__get__" = some (some (.builtin "getset_descriptor.__get__"))) (htk : PySem.W.takesIn K (.builtin "object.__class__") = some true)
      (hm : PySem.W.mroIn K C (.type "object") = some true) : TyOf K H (.ref a) (.ref C)
/-- isinstance(x, c) for one class c, a built-in or an own one: kitOne's answer -/
theorem isinst_ok {x : V} {u t : Value} (I : Inv X pins σ H s) (rx : RelV x u) (ty : TyOf X.K H x t) (e : PySem.W.kitOne X.K t c = some b) (h : ∀ tk, Q (.bool b) { s with toks := tk }) :
    wpAny (model X.prog X.w) A (call (.builtin "isinstance") [u, c]) Q E s := by
  cases ty with
  | non => cases (show u = Value.none from rx); exact PySem.W.kia_one PySem.W.kitx_none I.kIn True.intro e (fun z => nomatch z) h
  | bl y => cases (show u = Value.bool y from rx); exact PySem.W.kia_one PySem.W.kitx_bool I.kIn True.intro e (fun z => nomatch z) h
  | int i => obtain ⟨t, q⟩ := (show ∃ t, u = Value.int i t from rx); cases q; exact PySem.W.kia_one PySem.W.kitx_int I.kIn True.intro e (fun z => nomatch z) h
  | str y => obtain ⟨t, q⟩ := (show ∃ t, u = Value.str y t from rx); cases q; exact PySem.W.kia_one PySem.W.kitx_str I.kIn True.intro e (fun z => nomatch z) h
  | flt y => obtain ⟨t, q⟩ := (show ∃ t, u = Value.float y t from rx); cases q; exact PySem.W.kia_one PySem.W.kitx_float I.kIn True.intro e (fun z => nomatch z) h
  | @lst a xs ea =>
    cases (show u = Value.ref a from rx)
    obtain ⟨_, _, n, _, h1⟩ := (show ObjOk X.prog X.w H s.heap a (.lst xs) from I.hok a _ ea)
    exact PySem.W.kia_one PySem.W.kitx_list I.kIn ⟨_, h1, rfl⟩ e (fun z => nomatch z) h
  | @frz a ob xs ea =>
    cases (show u = Value.ref a from rx)
    obtain ⟨_, _, _, n, _, h1⟩ := (show ObjOk X.prog X.w H s.heap a (.frz ob (.lst xs)) from I.hok a _ ea)
    exact PySem.W.kia_one PySem.W.kitx_list I.kIn ⟨_, h1, rfl⟩ e (fun z => nomatch z) h
  | @tup a xs ea =>
    cases (show u = Value.ref a from rx)
    obtain ⟨_, _, _, p⟩ := (show ObjOk X.prog X.w H s.heap a (.tup xs) from I.hok a _ ea)
    obtain ⟨o, h1, h2, _⟩ := p
    exact PySem.W.kia_one PySem.W.kitx_tuple I.kIn ⟨o, h1, h2⟩ e (fun z => nomatch z) h
  | @dK a kvs ea =>
    cases (show u = Value.ref a from rx)
    obtain ⟨_, _, vs, _, p⟩ := (show ObjOk X.prog X.w H s.heap a (.dK kvs) from I.hok a _ ea)
    obtain ⟨o, es, ep, h1, h2, _⟩ := p
    exact PySem.W.kia_one PySem.W.kitx_dict I.kIn ⟨o, h1, h2.1⟩ e (fun z => nomatch z) h
  | @dT a kvs ea =>
    cases (show u = Value.ref a from rx)
    obtain ⟨_, _, xs, _, o, es, ep, h1, h2, _⟩ := (show ObjOk X.prog X.w H s.heap a (.dT kvs) from I.hok a _ ea)
    exact PySem.W.kia_one PySem.W.kitx_dict I.kIn ⟨o, h1, h2.1⟩ e (fun z => nomatch z) h
  | @ins a C dx fs ea cl ha hn htk hm =>
    cases (show u = Value.ref a from rx)
    obtain ⟨mA, O, _⟩ := ins_get I.hok ea
    obtain ⟨od, J, _⟩ := O.look
    exact PySem.W.kia_one (PySem.W.kitx_own (cl.get _) cl.hd ha hn htk hm) I.kIn J e (fun z => nomatch z) h
end
end L2

namespace L2
open PySem PySem.Spec PyProof.Rows

/-! ### room -/
structure Room (k : Nat) (A : Around) : Prop where
  hd : A.handled = none
  dp : A.depth + 3 * k + 5 < recursionLimit
  un : A.units + 16 * k + 200 < cLine
theorem Room.mono {j k : Nat} {A : Around} (r : Room k A) (h : j ≤ k) : Room j A := ⟨r.hd, by have := r.dp; omega, by have := r.un; omega⟩
theorem Room.deeper {k : Nat} {A : Around} (r : Room (k + 1) A) (env : Env) : Room k (A.deeper env) :=
  ⟨r.hd, by have := r.dp; show A.depth + 1 + 3 * k + 5 < _; omega, by have := r.un; show A.units + 3 + 16 * k + 200 < _; omega⟩
theorem Room.in1 {k : Nat} {A : Around} (r : Room (k + 1) A) : Room k A.in1 :=
  ⟨r.hd, by have := r.dp; show A.depth + 3 * k + 5 < _; omega, by have := r.un; show A.units + 1 + 16 * k + 200 < _; omega⟩
theorem Room.depth {k : Nat} {A : Around} (r : Room k A) : A.depth < recursionLimit := by have := r.dp; omega
theorem Room.units {k : Nat} {A : Around} (r : Room k A) : A.units + 64 < cLine := by have := r.un; omega
/-! ### argument lists and displays -/
def tNil : TA := fun _ H Q => Q [] H
def tCons (ta : TE) (tr : TA) : TA := fun σ H Q => ta σ H fun x H1 => tr σ H1 fun xs H2 => Q (x :: xs) H2
section
variable {X : Cx} {e : Expr} {es : List Expr} {te : TE} {t : TA} {pos : Pos}
theorem pa_nil : PA X [] tNil := fun _ _ _ _ H Q I h => Calls.spliced_nil ⟨[], H, I, .nil, h⟩
theorem pa_cons (ha : PE X e te) (hr : PA X es t) (hs : starEach (e :: es) X.env = (false, eval e X.env) :: starEach es X.env := by rfl) : PA X (e :: es) (tCons te t) := by
  intro pos pins s σ H Q I h
  rw [hs]
  show wpAny _ _ (spliced ((false, eval e X.env) :: backTo pos (starEach es X.env))) _ _ s
  refine Calls.spliced_cons (thn (ha pins s σ H _ I h) fun u s1 ⟨x, H1, I1, r1, q1⟩ => ?_)
  exact thn (hr pos pins s1 σ H1 _ I1 q1) fun us s2 ⟨xs, H2, I2, r2, q2⟩ => ⟨x :: xs, H2, I2, .cons r1 r2, q2⟩

/-- a tuple, a list of written items -/
def tTup (t : TA) : TE := fun σ H Q => t σ H fun xs H1 => xs.length ≤ sizeLine ∧ ∀ p, H1 p = none → Q (.ref p) (upd H1 p (.tup xs))
def tLst (t : TA) : TE := fun σ H Q => t σ H fun xs H1 => xs.length ≤ sizeLine ∧ ∀ p, H1 p = none → Q (.ref p) (upd H1 p (.lst xs))
end

/-! ### what a def promises -/
/-- a def's promise: the bound arguments in the parameters' order, the heap, the wanted end, the wanted exception -/
abbrev Sp := List V → Hp → VK → XK → Prop
/-- how an exception lies behind a call (file 08 gives it): the callers' frames, abstract heap and state ahead of the call, the wish, the exception, the state -/
abbrev CXT := List Env → Hp → Shared → XK → Value → Shared → Prop

/-- the state at a call -/
structure Env0 (P : Program) (w : World) (K : PySem.W.Frag) (mg : Str → Option Value) (base : Heap) (A : Around) (outer : List Env) (s : Shared) (H : Hp) : Prop where
  frames : A.frames = some outer
  mod : Mod K mg base
  bs : ∀ b o, base.get? b = some o → s.heap.get? b = some o ∧ H b = none
  bsz : base.objs.size ≤ s.heap.objs.size
  funs : s.heap.FunFrames base outer
  frf : ∀ b ∈ frs outer, H b = none
  hok : HOk P w H s.heap
  bare : AllBare s.gens
/-- a call's end -/
def CE (outer : List Env) (P : Program) (w : World) (H : Hp) (s : Shared) (Q : VK) (u : Value) (s' : Shared) : Prop :=
  ∃ v H', s'.os = s.os ∧ AllBare s'.gens ∧ Un (frs outer) [] H H' s.heap s'.heap ∧ HOk P w H' s'.heap ∧ RelV v u ∧ Q v H'
def CR (CX : CXT) (outer : List Env) (P : Program) (w : World) (H : Hp) (s : Shared) (Q : VK) (E : XK) (r : Result) (s' : Shared) : Prop :=
  match r with
  | .ok (.ret u) => CE outer P w H s Q u s'
  | .ok _ => False
  | .error e => CX outer H s E e s'
structure FnOk (P : Program) (w : World) (K : PySem.W.Frag) (mg : Str → Option Value) (base : Heap) (CX : CXT) (k : Nat) (f : Addr) (fd : FuncData) (ps : List Str) (sp : Sp) : Prop where
  len : ∀ vs H Q E, sp vs H Q E → vs.length = ps.length
  run : ∀ (A : Around) (outer : List Env) (s : Shared) (H : Hp) (args : Args) (us : List Value) (vs : List V) (Q : VK) (E : XK), Room k A → Env0 P w K mg base A outer s H → BindsTo s fd args (ps.zip us) → Vals vs us → sp vs H Q E →
    codeAny (model P w) A (.call (.ref f) args) (CR CX outer P w H s Q E) s
theorem FnOk.mono {P : Program} {w : World} {K : PySem.W.Frag} {mg : Str → Option Value} {base : Heap} {CX : CXT} {j k : Nat} {f : Addr} {fd : FuncData} {ps : List Str} {sp : Sp} (F : FnOk P w K mg base CX j f fd ps sp) (h : j ≤ k) :
    FnOk P w K mg base CX k f fd ps sp := ⟨F.len, fun A outer s H args us vs Q E hr => F.run A outer s H args us vs Q E (hr.mono h)⟩
theorem Env0.in1 {P : Program} {w : World} {K : PySem.W.Frag} {mg : Str → Option Value} {base : Heap} {A : Around} {outer : List Env} {s : Shared} {H : Hp} (e : Env0 P w K mg base A outer s H) :
    Env0 P w K mg base A.in1 outer s H := ⟨e.frames, e.mod, e.bs, e.bsz, e.funs, e.frf, e.hok, e.bare⟩

section
variable {X : Cx} {pins : List (Addr × Obj)} {σ : St} {H : Hp} {s s' : Shared}
/-- from a body: what a callee wants -/
theorem Inv.env0 (I : Inv X pins σ H s) : Env0 X.prog X.w X.K X.mg X.base X.A X.stack s H :=
  ⟨I.ok.frames, I.ok.mod, I.bs, Nat.le_trans I.ok.bsz I.sz, I.stack, I.stkFree, I.hok, I.bare⟩
/-- behind a call -/
theorem Inv.after {Q : VK} {u : Value} (I : Inv X pins σ H s) (h : CE X.stack X.prog X.w H s Q u s') : EP X pins σ Q u s' := by
  obtain ⟨v, H', os, bare, un, hok, r, q⟩ := h
  obtain ⟨hh, g, d, t, os'⟩ := s'
  obtain rfl : os' = s.os := os
  exact ⟨v, H', I.call (h' := hh) (g' := g) (d' := d) (t' := t) (ch := []) un hok bare (fun b z => absurd z (by simp)), r, q⟩
end

/-! ### calls -/
/-- f(..): the written arguments, then the defaults dvs; E: what is wanted of an exception -/
def tCall (sp : Sp) (dvs : List V) (E : XK) (t : TA) : TE := fun σ H Q => t σ H fun vs H1 => sp (vs ++ dvs) H1 Q E
/-- o.m(..) of an instance of the class at C -/
def tMeth (C : Addr) (m : Str) (sp : Sp) (dvs : List V) (E : XK) (ta : TE) (t : TA) : TE := fun σ H Q => ta σ H fun x H1 => ∃ a dx fs, x = .ref a ∧ H1 a = some (.ins C dx fs) ∧ fs.lookup m = none ∧
  t σ H1 fun vs H2 => sp (x :: (vs ++ dvs)) H2 Q E
/-- C(..): a new instance and its dict, then __init__ -/
def tMake (C : Addr) (sp : Sp) (dvs : List V) (E : XK) (t : TA) : TE := fun σ H Q => t σ H fun vs H1 => ∀ x dx, H1 x = none → H1 dx = none → dx ≠ x →
  sp (.ref x :: (vs ++ dvs)) (upd (upd H1 dx (.own x)) x (.ins C dx [])) (fun v H2 => v = .non ∧ Q (.ref x) H2) E

/-- how the parameters are bound: us the positional arguments, kw the keywords' values by name, ds the defaults that fill up -/
def Binds (K : PySem.W.Frag) (fd : FuncData) (ps : List Str) (ds : List Value) : Prop :=
  ∀ (s : Shared) (us : List Value), K.In s.heap → (us ++ ds).length = ps.length → BindsTo s fd ⟨us, []⟩ (ps.zip (us ++ ds))
/-- every parameter is given -/
theorem Binds.all {K : PySem.W.Frag} {fd : FuncData} {ps : List Str} (h : ∀ us : List Value, us.length = ps.length → bindArgs fd ⟨us, []⟩ = pure (ps.zip us)) : Binds K fd ps [] := fun s us _ hl => by
  rw [List.append_nil] at hl ⊢
  exact .of_eq (h us hl)

/-- an exception of a callee reaches what this body wants of exceptions -/
def Passes (CX : CXT) (X : Cx) (E : XK) : Prop := ∀ (pins : List (Addr × Obj)) (σ : St) (H : Hp) (s : Shared) (e : Value) (s' : Shared), Inv X pins σ H s → CX X.stack H s E e s' → X.xe e s'

section
variable {X : Cx} {CX : CXT} {k : Nat} {f C : Addr} {fd : FuncData} {ps : List Str} {sp : Sp} {dvs : List V} {ds : List Value} {E : XK} {x m : Str} {p pos apos : Pos} {e o : Expr} {es : List Expr} {ta : TE} {t : TA}

/-- the callee runs -/
theorem run_fn {pins : List (Addr × Obj)} {σ : St} {H : Hp} {s : Shared} {Q : VK} {us : List Value} {vs : List V} (F : FnOk X.prog X.w X.K X.mg X.base CX k f fd ps sp) (hr : Room k X.A) (hb : Binds X.K fd ps ds) (hd : Vals dvs ds) (hx : Passes CX X E)
    (I : Inv X pins σ H s) (r : Vals vs us) (h : sp (vs ++ dvs) H Q E) : wpAny (model X.prog X.w) X.A (call (.ref f) us) (EP X pins σ Q) X.xe s := by
  have r2 : Vals (vs ++ dvs) (us ++ ds) := r.append hd
  have hl : (us ++ ds).length = ps.length := by rw [← r2.length]; exact F.len _ _ _ _ h
  refine wpAny_call (codeAny_mono (F.run X.A X.stack s H ⟨us, []⟩ (us ++ ds) (vs ++ dvs) Q E hr I.env0 (hb s us I.kIn hl) r2 h) fun r s' hq => ?_)
  cases r with
  | error e => exact hx pins σ H s e s' I hq
  | ok fl =>
    cases fl with
    | ret u => exact I.after hq
    | next => exact False.elim hq
    | brk => exact False.elim hq
    | cont => exact False.elim hq

theorem pe_call (F : FnOk X.prog X.w X.K X.mg X.base CX k f fd ps sp) (hr : Room k X.A) (hg : Gl X x) (hm : X.mg x = some (.ref f)) (hk : PySem.W.keepIn X.K (.ref f) = true) (hb : Binds X.K fd ps ds) (hd : Vals dvs ds) (hx : Passes CX X E)
    (ha : PA X (e :: es) t) (hdb : (x == ("__debug__" : Str)) = false := by decide) (he : starEach (e :: es) X.env = (false, eval e X.env) :: starEach es X.env := by rfl) (hpl : (backTo pos (starEach es X.env)).any (·.1) = false := by rfl) :
    PE X (.Call (.Name x p) (e :: es) [] pos) (tCall sp dvs E t) := by
  intro pins s σ H Q I h
  refine wpAny_Call_Name_kw (ld_glob I hg hm ?_ hdb)
  refine PySem.W.callWith_K (h₀ := X.base) I.ok.mod.kin hk (thn (ha pos pins s σ H _ I h) fun us s1 ⟨vs, H1, I1, r, q⟩ => ⟨I1.kIn, ?_⟩) he hpl
  exact run_fn F hr hb hd hx I1 r q
theorem pe_call0 (F : FnOk X.prog X.w X.K X.mg X.base CX k f fd ps sp) (hr : Room k X.A) (hg : Gl X x) (hm : X.mg x = some (.ref f)) (hk : PySem.W.keepIn X.K (.ref f) = true) (hb : Binds X.K fd ps ds) (hd : Vals dvs ds) (hx : Passes CX X E)
    (hdb : (x == ("__debug__" : Str)) = false := by decide) : PE X (.Call (.Name x p) [] [] pos) (tCall sp dvs E tNil) := by
  intro pins s σ H Q I h
  refine wpAny_Call_Name_kw (ld_glob I hg hm ?_ hdb)
  exact PySem.W.callWith_K0 I.kIn hk (run_fn (us := []) F hr hb hd hx I .nil h)

/-- what a class must have to be made -/
structure Mk (K : PySem.W.Frag) (C f : Addr) : Prop where
  makes : PySem.W.makesIn K C = true
  init : PySem.W.findIn K (.ref C) "__init__" = some (some (.ref f))
  fn : PySem.W.isFn K (.ref f) = true
  kp : PySem.W.keepIn K (.ref C) = true

end

/-! ### keywords -/
section
variable {X : Cx} {CX : CXT} {k : Nat} {f C : Addr} {fd : FuncData} {ps ks : List Str} {sp : Sp} {E : XK} {x m : Str} {p pos apos kpos : Pos} {e o : Expr} {es : List Expr} {kws : List Keyword} {te ta : TE} {t tk : TA} {nm : Option Str}
/-- how a call with keywords binds: g puts the positional values us and the keywords' values ws (names ks) in the parameters' order, defaults among them -/
structure KBinds (K : PySem.W.Frag) (fd : FuncData) (ps ks : List Str) (g : List Value → List Value → List Value) (gV : List V → List V → List V) : Prop where
  to : ∀ (s : Shared) (us ws : List Value), K.In s.heap → (g us ws).length = ps.length → BindsTo s fd ⟨us, ks.zip ws⟩ (ps.zip (g us ws))
  rel : ∀ {vs : List V} {us : List Value} {zs : List V} {ws : List Value}, Vals vs us → Vals zs ws → Vals (gV vs zs) (g us ws)
variable {g : List Value → List Value → List Value} {gV : List V → List V → List V}
end

/-! ### a def's body keeps its promise -/
/-- names: the parameters first -/
structure FnScope (N P : List Str) (sc : Scope) : Prop where
  kind : sc.kind = .function
  co : sc.isCoroutine = false
  gen : sc.isGenerator = false
  nd : N.Nodup
  pre : N.take P.length = P
  par : ∀ x ∈ P, sc.names.lookup x = some .local ∨ sc.names.lookup x = some .cell
  nofree : ∀ y ∈ sc.names, y.2 ≠ .free

theorem bindL_out {kindOf : Str → Option NameKind} {x : Str} : ∀ {binds : List (Str × Value)} {m : Str → Option Value}, (∀ v, (x, v) ∉ binds) → bindL kindOf binds m x = m x
  | [], _, _ => rfl
  | (n, v) :: r, m, h => by
    unfold bindL
    rw [bindL_out fun w hw => h w (List.mem_cons_of_mem _ hw)]
    split
    · have : x ≠ n := by rintro rfl; exact h v List.mem_cons_self
      simp [this]
    · rfl
theorem bindC_out {kindOf : Str → Option NameKind} {x : Str} : ∀ {binds : List (Str × Value)} {m : Str → Option Value}, (∀ v, (x, v) ∉ binds) → bindC kindOf binds m x = m x
  | [], _, _ => rfl
  | (n, v) :: r, m, h => by
    unfold bindC
    rw [bindC_out fun w hw => h w (List.mem_cons_of_mem _ hw)]
    split
    · rfl
    · have : x ≠ n := by rintro rfl; exact h v List.mem_cons_self
      simp [this]
theorem bindL_get {kindOf : Str → Option NameKind} {x : Str} {v : Value} : ∀ {P : List Str} {vs : List Value} {i : Nat} {m : Str → Option Value}, P.Nodup → P[i]? = some x → vs[i]? = some v → kindOf x = some .local →
    bindL kindOf (P.zip vs) m x = some v
  | [], _, _, _, _, h, _, _ => by simp at h
  | _ :: _, [], _, _, _, _, h, _ => by simp at h
  | p :: P, w :: vs, 0, m, nd, h1, h2, hk => by
    simp at h1 h2; subst h1; subst h2
    show bindL kindOf ((p, w) :: P.zip vs) m p = _
    unfold bindL
    rw [bindL_out fun v hv => (List.nodup_cons.mp nd).1 (List.of_mem_zip hv).1, if_pos hk]
    simp
  | p :: P, w :: vs, i + 1, m, nd, h1, h2, hk => by
    show bindL kindOf ((p, w) :: P.zip vs) m x = _
    unfold bindL
    exact bindL_get (i := i) (List.nodup_cons.mp nd).2 (by simpa using h1) (by simpa using h2) hk
theorem bindC_get {kindOf : Str → Option NameKind} {x : Str} {v : Value} : ∀ {P : List Str} {vs : List Value} {i : Nat} {m : Str → Option Value}, P.Nodup → P[i]? = some x → vs[i]? = some v → kindOf x ≠ some .local →
    bindC kindOf (P.zip vs) m x = some v
  | [], _, _, _, _, h, _, _ => by simp at h
  | _ :: _, [], _, _, _, _, h, _ => by simp at h
  | p :: P, w :: vs, 0, m, nd, h1, h2, hk => by
    simp at h1 h2; subst h1; subst h2
    show bindC kindOf ((p, w) :: P.zip vs) m p = _
    unfold bindC
    rw [bindC_out fun v hv => (List.nodup_cons.mp nd).1 (List.of_mem_zip hv).1, if_neg hk]
    simp
  | p :: P, w :: vs, i + 1, m, nd, h1, h2, hk => by
    show bindC kindOf ((p, w) :: P.zip vs) m x = _
    unfold bindC
    exact bindC_get (i := i) (List.nodup_cons.mp nd).2 (by simpa using h1) (by simpa using h2) hk

/-- the names' values at the entry -/
def start (N : List Str) (vs : List V) : St := vs.map some ++ List.replicate (N.length - vs.length) none

/-- the context of a def's body, at its entry; an exception leaves the frame, then lies as CX says -/
def cxOf (CX : CXT) (P : Program) (w : World) (K : PySem.W.Frag) (mg : Str → Option Value) (base : Heap) (N : List Str) (qual : Str) (scope : Scope) (f : Addr) (cd : Value) (A : Around) (outer : List Env) (s : Shared) (H : Hp) (E : XK) : Cx where
  prog := P
  w := w
  K := K
  mg := mg
  base := base
  A := A.deeper (envOfC qual scope s.heap.objs.size f cd)
  N := N
  s₀ := s
  H₀ := H
  env := envOfC qual scope s.heap.objs.size f cd
  outer := outer
  stack := envOfC qual scope s.heap.objs.size f cd :: outer
  ex := []
  calm := true
  fn := fun _ => true
  pn := []
  xe := fun e s' => wpAny (model P w) (A.deeper (envOfC qual scope s.heap.objs.size f cd)) (leaving (envOfC qual scope s.heap.objs.size f cd) e) (fun _ s'' => CX outer H s E e s'') (fun e' s'' => CX outer H s E e' s'') s'

theorem cell_has {sc : Scope} {n : Nat} {x : Str} (h : sc.names.lookup x = some .cell) : ∃ c, (cellsFrom n sc.names []).lookup x = some c := by
  have q := PySem.W.cellsFrom_some sc.names n [] (.inl h)
  exact Option.isSome_iff_exists.mp q

theorem inv_start {CX : CXT} {P : Program} {w : World} {K : PySem.W.Frag} {mg : Str → Option Value} {base : Heap} {N ps : List Str} {qual : Str} {scope : Scope} {f : Addr} {cd : Value} {A : Around} {outer : List Env} {s s1 : Shared} {H : Hp} {E : XK} {us : List Value} {vs : List V}
    (S : FnScope N ps scope) (hd : A.handled = none) (e0 : Env0 P w K mg base A outer s H) (hl : vs.length = ps.length) (r : Vals vs us)
    (x : InCallC s s.heap.objs.size (bindL (envOfC qual scope s.heap.objs.size f cd).kindOf (ps.zip us) fun _ => none) (cellsFrom (s.heap.objs.size + 1) scope.names []) (bindC (envOfC qual scope s.heap.objs.size f cd).kindOf (ps.zip us) fun _ => none) s1) :
    Inv (cxOf CX P w K mg base N qual scope f cd A outer s H E) [] (start N vs) H s1 := by
  have hpl : ps.length ≤ N.length := by have := congrArg List.length S.pre; rw [List.length_take] at this; omega
  obtain ⟨h1, tk, rfl, hk⟩ := x.done
  have noA : ∀ b : Addr, b ∉ (cxOf CX P w K mg base N qual scope f cd A outer s H E).ex := fun b z => absurd (show b ∈ ([] : List Addr) from z) (by simp)
  refine ⟨⟨e0.mod, S.kind, rfl, rfl, Nat.le_refl _, fun y z c h1 h2 => ?_, fun y hy => ?_, fun y c _ h => ?_, fun _ => hd, Around.frames_deeper e0.frames, .inr ⟨rfl, rfl⟩, fun b z => absurd z (noA b), e0.bs, e0.bsz, fun b _ _ => noA b, fun b z => absurd z (noA b), e0.funs, e0.frf⟩,
    rfl, e0.bare, Un.kept hk, ⟨_, x.toInCall.ns, fun i y v h1 h2 h3 => ?_⟩, fun y c h => ⟨_, x.cell y c h⟩, e0.hok.fresh (Nat.le_refl _), fun y c h => ?_, fun p hp => absurd (show p ∈ ([] : List (Addr × Obj)) from hp) (by simp), e0.hok.kept hk, ?_⟩
  · exact name_of_addr x.apart (PySem.mem_of_lookup h1) (PySem.mem_of_lookup h2)
  · have hy : scope.names.lookup y = some .cell ∨ scope.names.lookup y = some .free := hy
    rcases hy with hy | hy
    · exact cell_has hy
    · exact absurd rfl (S.nofree _ (PySem.mem_of_lookup hy))
  · exact Nat.le_of_lt (x.above y c (PySem.mem_of_lookup h))
  · have hi : i < vs.length := by
      unfold start at h2
      by_cases hi : i < vs.length
      · exact hi
      · rw [List.getElem?_append_right (by simpa using hi)] at h2
        rw [List.getElem?_replicate] at h2
        split at h2 <;> cases h2
    have ha : vs[i]? = some v := by
      unfold start at h2
      rw [List.getElem?_append_left (by simpa using hi), List.getElem?_map] at h2
      cases e : vs[i]? with
      | none => rw [e] at h2; cases h2
      | some a => rw [e] at h2; cases h2; rfl
    obtain ⟨u, hu, rv⟩ := r.get ha
    have hp : ps[i]? = some y := by
      rw [← S.pre, List.getElem?_take_of_lt (by omega)]; exact h1
    have ndP : ps.Nodup := by rw [← S.pre]; exact S.nd.sublist (List.take_sublist _ _)
    refine ⟨u, rv, ?_⟩
    rcases S.par y (List.mem_of_getElem? hp) with k | k
    · exact .inl ⟨k, bindL_get ndP hp hu k⟩
    · obtain ⟨c, e⟩ := cell_has (n := s.heap.objs.size + 1) k
      refine .inr ⟨.inl k, c, e, ?_⟩
      have q := x.cell y c e
      rw [bindC_get ndP hp hu (by show scope.names.lookup y ≠ _; rw [k]; decide)] at q
      exact q
  · exact e0.hok.fresh (Nat.le_of_lt (x.above y c (PySem.mem_of_lookup h)))
  · unfold start
    show _ = N.length
    rw [List.length_append, List.length_map, List.length_replicate]
    omega

/-- THE RULE: a def (or a method) of the text, by its body. The body's reading t is chosen for each entry; it is run at the parameters' values -/
theorem fn_of {CX : CXT} {P : Program} {w : World} {K : PySem.W.Frag} {mg : Str → Option Value} {base : Heap} {k : Nat} {f : Addr} {name qual : Str} {params : Arguments} {body : List Stmt} {scope : Scope} {dV kV doc pm cdv ct oc : Value} {an od : Option Addr}
    {osl : Array (Option Value)} {N ps : List Str} {sp : Sp} (lk : K.lookup f = some ⟨oc, od, .func (PySem.W.fnOf name qual params body scope dV kV doc pm an cdv ct), osl⟩) (hcd : PySem.W.codeIn K cdv qual = true) (S : FnScope N ps scope)
    (len : ∀ vs H Q E, sp vs H Q E → vs.length = ps.length)
    (hbody : ∀ (A : Around) (outer : List Env) (s : Shared) (H : Hp) (vs : List V) (Q : VK) (E : XK), Room k (A.deeper (envOfC qual scope s.heap.objs.size f cdv)) → sp vs H Q E →
      ∃ t, PSs (cxOf CX P w K mg base N qual scope f cdv A outer s H E) body t ∧ t { nx := fun _ H' => Q .non H', rt := Q } (start N vs) H) :
    FnOk P w K mg base CX (k + 1) f (PySem.W.fnOf name qual params body scope dV kV doc pm an cdv ct) ps sp := by
  refine ⟨len, fun A outer s H args us vs Q E hr e0 hb r hsp => ?_⟩
  have hl := len _ _ _ _ hsp
  have KX : K.In s.heap := e0.mod.kin.keeps fun b o e => (e0.bs b o e).1
  have lim : s.heap.NoLimit := e0.mod.nolimit.keeps fun b o e => (e0.bs b o e).1
  have hkind : ∀ y ∈ ps.zip us, scope.names.lookup y.1 = some .local ∨ (scope.names.lookup y.1 = some .cell ∧ ((cellsFrom (s.heap.objs.size + 1) scope.names []).lookup y.1).isSome = true) := fun ⟨n, v⟩ hy => by
    rcases S.par n (List.of_mem_zip hy).1 with q | q
    · exact .inl q
    · exact .inr ⟨q, PySem.W.cellsFrom_some _ _ _ (.inl q)⟩
  refine codeAny_call_function hr.depth (KX _ _ lk) rfl S.co S.gen rfl (PySem.W.codeRec_of KX hcd) (hb _ _ _ _ ?_)
  refine wpAny_newFunctionEnv_cells S.kind hkind fun env he s1 x => ?_
  subst he
  refine ⟨lim.keeps x.toInCall.keep, codeAny_func ?_⟩
  obtain ⟨t, ht, hq⟩ := hbody A outer s H vs Q E (hr.deeper _) hsp
  have I : Inv (cxOf CX P w K mg base N qual scope f cdv A outer s H E) [] (start N vs) H s1 := inv_start S hr.hd e0 hl r x
  refine wpAny_mono (ht [] s1 (start N vs) H _ I hq) (fun fl s' hs => ?_) fun e s' hs => hs
  have fin : ∀ {σ' : St} {H' : Hp} {v : V} {u : Value}, Inv (cxOf CX P w K mg base N qual scope f cdv A outer s H E) [] σ' H' s' → RelV v u → Q v H' → CE outer P w H s Q u s' :=
    fun {σ' H' v u} J rv q => ⟨v, H', J.os, J.bare, J.base, J.hok, rv, q⟩
  cases fl with
  | ret u =>
    obtain ⟨v, σ', H', J, rv, q⟩ := hs
    exact fin J rv q
  | next =>
    obtain ⟨σ', H', J, q⟩ := hs
    exact fin (v := V.non) (u := Value.none) J rfl q
  | brk =>
    obtain ⟨_, _, _, q⟩ := hs
    exact False.elim q
  | cont =>
    obtain ⟨_, _, _, q⟩ := hs
    exact False.elim q
end L2

namespace L2
open PySem PySem.Spec PyProof.Rows
section
variable {X : Cx} {x : Str} {p pos : Pos} {e : Expr} {es : List Expr} {t : TA} {id T : String} {r : List V → Hp → VK → Prop}

def tCB (r : List V → Hp → VK → Prop) (t : TA) : TE := fun σ H Q => t σ H fun vs H1 => r vs H1 Q
/-- f(e, ..), f a built-in function -/
theorem pe_callB (hc : CallR X (.builtin id) r) (hg : Gl X x) (hm : X.mg x = none) (hv : bootBuiltins x = some (.builtin id)) (ha : PA X (e :: es) t) (hn : x ≠ "__name__" := by decide) (hdb : (x == ("__debug__" : Str)) = false := by decide)
    (he : starEach (e :: es) X.env = (false, eval e X.env) :: starEach es X.env := by rfl) (hpl : (backTo pos (starEach es X.env)).any (·.1) = false := by rfl) : PE X (.Call (.Name x p) (e :: es) [] pos) (tCB r t) := by
  intro pins s σ H Q I h
  refine wpAny_Call_Name_kw (ld_blt I hg hm hv ?_ hn hdb)
  exact PyProof.Rows.callWith_builtin1 (thn (ha pos pins s σ H _ I h) fun us s1 ⟨vs, H1, I1, r1, q1⟩ => hc pins s1 σ H1 vs us Q I1 r1 q1) he hpl
/-- T(e, ..), T a built-in type -/
theorem pe_callTy (hc : CallR X (.type T) r) (hg : Gl X x) (hm : X.mg x = none) (hv : bootBuiltins x = some (.type T)) (ha : PA X (e :: es) t) (hn : x ≠ "__name__" := by decide) (hdb : (x == ("__debug__" : Str)) = false := by decide)
    (he : starEach (e :: es) X.env = (false, eval e X.env) :: starEach es X.env := by rfl) (hpl : (backTo pos (starEach es X.env)).any (·.1) = false := by rfl) : PE X (.Call (.Name x p) (e :: es) [] pos) (tCB r t) := by
  intro pins s σ H Q I h
  refine wpAny_Call_Name_kw (ld_blt I hg hm hv ?_ hn hdb)
  exact PyProof.Rows.callWith_type1 (thn (ha pos pins s σ H _ I h) fun us s1 ⟨vs, H1, I1, r1, q1⟩ => hc pins s1 σ H1 vs us Q I1 r1 q1) he hpl
end
end L2

namespace HT
open PySem PyProof.Rows

section
open PySem.SeqAt
open PySem.AutoSeq1 (wpAny_loadPart')
open PySem.MeetsSeq PySem.MeetsSeq2 PySem.MeetsSeq3

end

section
variable {prog : Program} {w : World} {A : Around} {E : Value → Shared → Prop} {s : Shared}

/-- t + u, t not empty -/
theorem cat_tup {t b : Addr} {vs ws : List Value} {Q : Value → Shared → Prop} (ht : IsTup s.heap t vs.toArray) (hb : IsTup s.heap b ws.toArray) (hv : vs ≠ [])
    (h1 : ws = [] → Q (.ref t) s) (h2 : ws ≠ [] → Q (.ref s.heap.objs.size) { s with heap := s.heap.push { cls := .type "tuple", data := .seq (vs ++ ws).toArray } })
    (hsz : vs.length + ws.length ≤ sizeLine) : wpAny (model prog w) A (binaryOp .Add (.ref t) (.ref b)) Q E s := by
  obtain ⟨⟨cls, dd, data, sl⟩, ho, hc, n, hd⟩ := id ht
  obtain ⟨⟨cls2, dd2, data2, sl2⟩, ho2, hc2, n2, hd2⟩ := id hb
  simp only at hc hd hc2 hd2
  subst hc hd hc2 hd2
  have e : vs.toArray ++ ws.toArray = (vs ++ ws).toArray := by simp
  by_cases hw : ws = []
  · exact concat_meets ⟨_, ho, rfl⟩ ⟨_, ho2, rfl⟩ noFill_tuple_add seq_tuple_add PySem.F.slot_tuple_add PySem.F.entry_tuple_add (PySem.F.args_tuple_add_2 _ _)
      (tuple_addW1 t b vs.toArray ws.toArray n n2 dd dd2 sl sl2 (by simpa using hv) (by simp [hw])) ⟨ho, ho2, h1 hw⟩
  · refine concat_meets ⟨_, ho, rfl⟩ ⟨_, ho2, rfl⟩ noFill_tuple_add seq_tuple_add PySem.F.slot_tuple_add PySem.F.entry_tuple_add (PySem.F.args_tuple_add_2 _ _)
      (tuple_addW2 t b vs.toArray ws.toArray n n2 dd dd2 sl sl2 (by simpa using hv) (by simpa using hw) (by rw [List.size_toArray, List.size_toArray]; exact hsz)) ⟨ho, ho2, ?_⟩
    rw [e]
    exact h2 hw

/-! ### t[a:b], not the whole -/
/-- a slice's bound as a place among n (d where it is left out) -/
def sIx (n d : Nat) : Option Int → Nat
  | none => d
  | some v => if v < 0 then (v + (n : Int)).toNat else min v.toNat n
theorem sIx_none (n d : Nat) : sIx n d none = d := rfl
theorem sIx_nat (n d k : Nat) : sIx n d (some (k : Int)) = min k n := by
  show (if (k : Int) < 0 then ((k : Int) + (n : Int)).toNat else min (k : Int).toNat n) = min k n
  rw [if_neg (by omega), Int.toNat_natCast]
theorem sIx_le (n d : Nat) (hd : d ≤ n) (o : Option Int) : sIx n d o ≤ n := by
  cases o with
  | none => exact hd
  | some v =>
    show (if v < 0 then (v + (n : Int)).toNat else min v.toNat n) ≤ n
    by_cases hv : v < 0
    · rw [if_pos hv]; omega
    · rw [if_neg hv]; exact Nat.min_le_right _ _
theorem clip_eq (v : Int) (n d : Nat) : (if v < 0 then max (v + (n : Int)) 0 else min v (n : Int)) = ((sIx n d (some v) : Nat) : Int) := by
  show (if v < 0 then max (v + (n : Int)) 0 else min v (n : Int)) = (((if v < 0 then (v + (n : Int)).toNat else min v.toNat n) : Nat) : Int)
  by_cases hv : v < 0
  · simp only [if_pos hv]; omega
  · simp only [if_neg hv]; omega
theorem adjust_gen (lo hi : Option Int) (n : Nat) : Builtin.Slice.sliceAdjust lo hi 1 (n : Int) = (((sIx n 0 lo : Nat) : Int), ((sIx n n hi : Nat) : Int)) := by
  have h1 : ¬ ((1 : Int) < 0) := by omega
  unfold Builtin.Slice.sliceAdjust
  simp only [h1, if_false]
  refine Prod.ext ?_ ?_
  · cases lo with
    | none => rfl
    | some v => exact clip_eq v n 0
  · cases hi with
    | none => rfl
    | some v => exact clip_eq v n n
theorem places_gen (i j : Nat) : Builtin.Slice.slicePlaces (i : Int) (j : Int) 1 = j - i := by
  unfold Builtin.Slice.slicePlaces
  have h1 : (1 : Int) > 0 := by omega
  simp only [h1, if_true, Int.ediv_one]
  split <;> omega
theorem slicePart_ {v : Value} {o : Option Int} {Q : Option Int → Shared → Prop} (p : IsPart v o) (h : Q o s) : wpAny (model prog w) A (Builtin.Slice.slicePartIndex v) Q E s := by
  cases p with
  | none => exact slicePart_none h
  | int i t => exact slicePart_int h
theorem sliceApplied_gen {sl : Addr} {vl vu : Value} {lo hi : Option Int} {n : Nat} {Q : Int × Int × Nat → Shared → Prop} (hs : s.heap.IsSliceOf sl vl vu .none) (pl : IsPart vl lo) (pu : IsPart vu hi)
    (h : Q (((sIx n 0 lo : Nat) : Int), 1, sIx n n hi - sIx n 0 lo) s) : wpAny (model prog w) A (Builtin.Slice.sliceApplied (.ref sl) (pure (n : Int))) Q E s := by
  obtain ⟨os, hos, hcs, hds⟩ := id hs
  unfold Builtin.Slice.sliceApplied Builtin.Slice.sliceFields
  refine wpAny_bind (wpAny_bind (wpAny_field hos hds (x := vl) rfl (wpAny_bind (wpAny_field hos hds (x := vu) rfl (wpAny_bind (wpAny_field hos hds (x := .none) rfl (wpAny_pure ?_)))))))
  refine wpAny_bind (slicePart_none ?_)
  show wpAny _ _ (if ((1 : Int) == 0) = true then _ else _) _ _ s
  rw [if_neg (by decide)]
  refine wpAny_bind (slicePart_ pl (wpAny_bind (slicePart_ pu (wpAny_bind (wpAny_pure ?_)))))
  show wpAny _ _ (match Builtin.Slice.sliceAdjust lo hi 1 (n : Int) with | (lo, hi) => pure (lo, (1 : Int), Builtin.Slice.slicePlaces lo hi 1)) _ _ s
  rw [adjust_gen lo hi n]
  show wpAny _ _ (pure (((sIx n 0 lo : Nat) : Int), (1 : Int), Builtin.Slice.slicePlaces ((sIx n 0 lo : Nat) : Int) ((sIx n n hi : Nat) : Int) 1)) _ _ s
  rw [places_gen]
  exact wpAny_pure h
theorem pick_gen (xs : Array Value) (i k : Nat) : ((List.range k).filterMap fun (m : Nat) => xs[((i : Int) + (m : Int) * 1).toNat]?).toArray = ((xs.toList.drop i).take k).toArray := by
  have e : (fun (m : Nat) => xs[((i : Int) + (m : Int) * 1).toNat]?) = fun m => xs[i + m]? := by
    funext m
    have : ((i : Int) + (m : Int) * 1).toNat = i + m := by omega
    rw [this]
  rw [e]
  have := pick_run xs i k
  rw [List.filterMap_map] at this
  have e2 : ((fun x => xs[x]?) ∘ fun x => i + x) = fun m => xs[i + m]? := rfl
  rw [e2] at this
  rw [this]

theorem getItem_tuple_cut {t sl : Addr} {items : Array Value} {vl vu : Value} {lo hi : Option Int} {Q : Value → Shared → Prop} (ht : IsTup s.heap t items) (hs : s.heap.IsSliceOf sl vl vu .none) (pl : IsPart vl lo) (pu : IsPart vu hi)
    (hw : ¬ (sIx items.size 0 lo = 0 ∧ sIx items.size items.size hi = items.size))
    (h : Q (.ref s.heap.objs.size) { s with heap := s.heap.push { cls := .type "tuple", data := .seq ((items.toList.drop (sIx items.size 0 lo)).take (sIx items.size items.size hi - sIx items.size 0 lo)).toArray } })
    (hsz : items.size ≤ sizeLine) : wpAny (model prog w) A (getItem (.ref t) (.ref sl)) Q E s := by
  have htake : sizeOk (.seq ((items.toList.drop (sIx items.size 0 lo)).take (sIx items.size items.size hi - sIx items.size 0 lo)).toArray) := by
    show ((items.toList.drop (sIx items.size 0 lo)).take (sIx items.size items.size hi - sIx items.size 0 lo)).toArray.size ≤ sizeLine
    rw [List.size_toArray, List.length_take, List.length_drop, Array.length_toList]
    omega
  have hj : sIx items.size items.size hi ≤ items.size := sIx_le _ _ (Nat.le_refl _) hi
  obtain ⟨os, hos, hcs, hds⟩ := id hs
  have hTs : s.TypeIs (.ref sl) "slice" := ⟨os, hos, hcs⟩
  unfold getItem
  try with_reducible refine wpAny_holding ?_
  first | refine wpAny_bind (wpAny_pure ?_) | skip
  refine wpAny_bind (wpAny_sequenceKey ht.typeIs (by decide) ?_)
  refine wpAny_bind (wpAny_callSpecial?_slot (name := Str.ofString "__getitem__") ht.typeIs PyProof.Rows.slot_tuple_getitem
    (wpAny_call_entry PyProof.Rows.slot_tuple_getitem ht.typeIs entry_tuple_getitem ?_ (args_tuple_getitem _ _)))
  show wpAny _ _ (Builtin.Tuple.tupleItemsOf (.ref t) >>= _) _ _ s
  refine wpAny_bind (tupleItemsOf_ ht ?_)
  refine wpAny_bind (wpAny_typeOf hTs ?_)
  rw [if_pos (by decide)]
  refine wpAny_bind (sliceApplied_gen hs pl pu ?_)
  have hno : ¬ ((((sIx items.size 0 lo : Nat) : Int) == 0 && (1 : Int) == 1 && (sIx items.size items.size hi - sIx items.size 0 lo) == items.size) = true) := by
    intro q
    rw [Bool.and_eq_true, Bool.and_eq_true] at q
    have q1 : ((sIx items.size 0 lo : Nat) : Int) = 0 := eq_of_beq q.1.1
    have q2 : sIx items.size items.size hi - sIx items.size 0 lo = items.size := eq_of_beq q.2
    exact hw ⟨by omega, by omega⟩
  show wpAny _ _ (if (((sIx items.size 0 lo : Nat) : Int) == 0 && (1 : Int) == 1 && (sIx items.size items.size hi - sIx items.size 0 lo) == items.size) = true then _ else _) _ _ s
  rw [if_neg hno, pick_gen]
  first
    | exact wpAny_bind (m := Builtin.Tuple.tupleExact _) (wpAny_newObj_type (wpAny_pure ⟨_, rfl, wpAny_pure h⟩) htake)
    | exact wpAny_bind (m := Builtin.Tuple.tupleExact _) (wpAny_newObj_type (wpAny_bind (wpAny_pure (wpAny_pure ⟨_, rfl, wpAny_pure h⟩))) htake)
    | exact wpAny_bind (wpAny_bind (m := Builtin.Tuple.tupleExact _) (wpAny_newObj_type (wpAny_pure (wpAny_pure ⟨_, rfl, wpAny_pure h⟩)) htake))
    | exact wpAny_bind (wpAny_bind (m := Builtin.Tuple.tupleExact _) (wpAny_newObj_type (wpAny_pure ⟨_, rfl, wpAny_pure h⟩) htake))
end
end HT

namespace L2
open PySem PySem.Spec PyProof.Rows

/-! ### the parts of a slice -/
abbrev TO := St → Hp → (Option Int → Hp → Prop) → Prop
/-- a slice's part (left out, or an int) -/
def PO (X : Cx) (e : Option Expr) (t : TO) : Prop :=
  ∀ (pins : List (Addr × Obj)) (s : Shared) (σ : St) (H : Hp) (Q : Option Int → Hp → Prop), Inv X pins σ H s → t σ H Q →
    wpAny (model X.prog X.w) X.A (evalPart e X.env) (fun u s' => ∃ o H', Inv X pins σ H' s' ∧ IsPart u o ∧ Q o H') X.xe s
def tNoPart : TO := fun _ H Q => Q none H
def tPart (t : TE) : TO := fun σ H Q => t σ H fun x H1 => ∃ i, x = .int i ∧ Q (some i) H1

section
variable {X : Cx} {e : Expr} {te : TE} {lo hi : Option Expr} {tl th : TO} {pos p2 : Pos}

theorem po_none : PO X none tNoPart := by
  intro pins s σ H Q I h
  rw [evalPart_none]
  exact wpAny_pure ⟨none, H, I, .none, h⟩
theorem po_some (h : PE X e te) : PO X (some e) (tPart te) := by
  intro pins s σ H Q I hw
  rw [evalPart_some]
  refine thn (h pins s σ H _ I hw) fun u s1 ⟨x, H1, I1, r1, q1⟩ => ?_
  obtain ⟨i, rfl, q⟩ := q1
  obtain ⟨t, rfl⟩ := r1
  exact ⟨some i, H1, I1, .int i t, q⟩

/-- what a slice of a value is, by values: the slice object stands at sl -/
def SlR (X : Cx) (r : V → Option Int → Option Int → Hp → VK → Prop) : Prop :=
  ∀ (pins : List (Addr × Obj)) (s : Shared) (σ : St) (H : Hp) (x : V) (v vl vu : Value) (lo hi : Option Int) (sl : Addr) (Q : VK), Inv X pins σ H s → RelV x v → s.heap.IsSliceOf sl vl vu .none → IsPart vl lo → IsPart vu hi → r x lo hi H Q →
    ∃ T id, typeLookup (.type T) "__getitem__" = pure (some (.builtin id)) ∧ s.TypeIs v T ∧ wpAny (model X.prog X.w) X.A (getItem v (.ref sl)) (EP X pins σ Q) X.xe s
theorem SlR.or {r r' : V → Option Int → Option Int → Hp → VK → Prop} (h : SlR X r) (h' : SlR X r') : SlR X (fun x lo hi H Q => r x lo hi H Q ∨ r' x lo hi H Q) := by
  intro pins s σ H x v vl vu lo hi sl Q I rx hs pl pu q
  rcases q with q | q
  · exact h pins s σ H x v vl vu lo hi sl Q I rx hs pl pu q
  · exact h' pins s σ H x v vl vu lo hi sl Q I rx hs pl pu q
def tSl (r : V → Option Int → Option Int → Hp → VK → Prop) (te : TE) (tl th : TO) : TE := fun σ H Q => te σ H fun x H1 => tl σ H1 fun l H2 => th σ H2 fun u H3 => r x l u H3 Q
/-- a[lo:hi], any a -/
theorem pe_slice {r : V → Option Int → Option Int → Hp → VK → Prop} (hr : SlR X r) (he : PE X e te) (hl : PO X lo tl) (hu : PO X hi th) : PE X (.Subscript e (.Slice lo hi none p2) pos) (tSl r te tl th) := by
  intro pins s σ H Q I h
  refine Subscript_ (thn (he pins s σ H _ I h) fun v s1 ⟨x, H1, I1, r1, q1⟩ => ?_)
  refine wpAny_Slice (thn (hl pins s1 σ H1 _ I1 q1) fun vl s2 ⟨l, H2, I2, pl, q2⟩ => thn (hu pins s2 σ H2 _ I2 q2) fun vu s3 ⟨u, H3, I3, pu, q3⟩ => ?_)
  rw [evalPart_none]
  refine wpAny_pure ?_
  have I4 : Inv X pins σ H3 { s3 with heap := s3.heap.push { cls := .type "slice", data := .fields #[vl, vu, .none] } } := I3.kept (t' := s3.toks) fun b ob q => Heap.get?_push_of_some _ q
  obtain ⟨T, id, hT, ht, hg⟩ := hr pins { s3 with heap := s3.heap.push { cls := .type "slice", data := .fields #[vl, vu, .none] } } σ H3 x v vl vu l u s3.heap.objs.size Q I4 r1 (Heap.IsSliceOf.new ..) pl pu q3
  show wpAny (model X.prog X.w) X.A (subscriptTail e (.Slice lo hi none p2) v (.ref s3.heap.objs.size)) (EP X pins σ Q) X.xe { s3 with heap := s3.heap.push { cls := .type "slice", data := .fields #[vl, vu, .none] } }
  exact tail_any (ops := [.ref s3.heap.objs.size, v]) ht hT hg (by with_unfolding_all rfl)

/-- the items of xs[lo:hi] -/
def cutV (xs : List V) (lo hi : Option Int) : List V := (xs.drop (HT.sIx xs.length 0 lo)).take (HT.sIx xs.length xs.length hi - HT.sIx xs.length 0 lo)
theorem cutV_length (xs : List V) (lo hi : Option Int) : (cutV xs lo hi).length ≤ xs.length := by
  unfold cutV
  rw [List.length_take, List.length_drop]
  omega
/-- t[lo:hi], not the whole of it (the whole would be t itself) -/
def rSlT (K : PySem.W.Frag) : V → Option Int → Option Int → Hp → VK → Prop := fun x lo hi H Q => ∃ a xs, x = .ref a ∧ SqT K H a xs ∧
  ¬ (HT.sIx xs.length 0 lo = 0 ∧ HT.sIx xs.length xs.length hi = xs.length) ∧ ∀ p, H p = none → Q (.ref p) (upd H p (.tup (cutV xs lo hi)))
theorem sl_tup : SlR X (rSlT X.K) := by
  intro pins s σ H x v vl vu lo hi sl Q I rx hs pl pu h
  obtain ⟨a, xs, rfl, hx, hw, q⟩ := h
  cases rx
  obtain ⟨its, r, ht, hz⟩ := I.tuple hx
  have hlen : its.toArray.size = xs.length := by rw [List.size_toArray]; exact r.length.symm
  refine ⟨"tuple", _, PyProof.Rows.slot_tuple_getitem.lookup, ht.typeIs, ?_⟩
  refine HT.getItem_tuple_cut ht hs pl pu (by rw [hlen]; exact hw) ?_ (by rw [hlen]; exact hz)
  rw [hlen]
  refine ⟨.ref s.heap.objs.size, _, I.laid (t' := s.toks) (o := .tup (cutV xs lo hi)) (fun b ob q => Heap.get?_push_of_some _ q) (Nat.le_refl _) ?_, rfl, q _ (I.hok.fresh (Nat.le_refl _))⟩
  exact ⟨Nat.le_trans (cutV_length xs lo hi) hz, _, (r.drop (HT.sIx xs.length 0 lo)).take (HT.sIx xs.length xs.length hi - HT.sIx xs.length 0 lo), IsTup.new _ _⟩

/-! ### t < u, t + u -/
/-- t + u, t not empty: u empty gives t itself -/
def rCatT (K : PySem.W.Frag) : R2 := fun x y H Q => ∃ a b xs ys, x = .ref a ∧ y = .ref b ∧ SqT K H a xs ∧ SqT K H b ys ∧ xs ≠ [] ∧ xs.length + ys.length ≤ sizeLine ∧
  (ys = [] → Q (.ref a) H) ∧ (ys ≠ [] → ∀ p, H p = none → Q (.ref p) (upd H p (.tup (xs ++ ys))))
theorem Vals.nil_iff {xs : List V} {us : List Value} (r : Vals xs us) : us = [] ↔ xs = [] := by
  cases r with
  | nil => simp
  | cons _ _ => simp
theorem op_catT : OpR X (binaryOp .Add) (rCatT X.K) := by
  intro pins s σ H x y v u Q I rx ry h
  obtain ⟨a, b, xs, ys, rfl, rfl, ha, hb, hx, hz, q1, q2⟩ := h
  cases rx
  cases ry
  obtain ⟨its, r1, p1, _⟩ := I.tuple ha
  obtain ⟨its2, r2, p2, _⟩ := I.tuple hb
  refine HT.cat_tup p1 p2 (fun z => hx (r1.nil_iff.mp z)) (fun z => ⟨.ref a, H, I, rfl, q1 (r2.nil_iff.mp z)⟩) (fun z => ?_) (by rw [← r1.length, ← r2.length]; exact hz)
  refine ⟨.ref s.heap.objs.size, _, I.laid (t' := s.toks) (o := .tup (xs ++ ys)) (fun b ob q => Heap.get?_push_of_some _ q) (Nat.le_refl _) ?_, rfl, q2 (fun w => z (r2.nil_iff.mpr w)) _ (I.hok.fresh (Nat.le_refl _))⟩
  exact ⟨by rw [List.length_append]; exact hz, _, r1.append r2, IsTup.new _ _⟩
end
end L2

namespace L2
open PySem PySem.Spec PyProof.Rows

/-! ### places -/
/-- the place that an index of any sign means -/
def ixN (n : Nat) (i : Int) : Option Nat := if 0 ≤ i then (if i < n then some i.toNat else none) else if -(n : Int) ≤ i then some (i + n).toNat else none
def atI {α : Type} (xs : List α) (i : Int) : Option α := (ixN xs.length i).bind fun j => xs[j]?
theorem ixN_seq {n : Nat} {i : Int} {j : Nat} (h : ixN n i = some j) : seqIndex? i n = some j ∧ j < n ∧ -(n : Int) ≤ i ∧ i < n := by
  unfold ixN at h
  by_cases h0 : 0 ≤ i
  · rw [if_pos h0] at h
    by_cases h1 : i < n
    · rw [if_pos h1] at h
      have e : i.toNat = j := Option.some.inj h
      exact ⟨by rw [seqIndex_of h0 h1, e], by omega, by omega, h1⟩
    · rw [if_neg h1] at h; cases h
  · rw [if_neg h0] at h
    by_cases h1 : -(n : Int) ≤ i
    · rw [if_pos h1] at h
      have e : (i + n).toNat = j := Option.some.inj h
      exact ⟨by rw [seqIndex_neg (by omega) h1, e], by omega, h1, by omega⟩
    · rw [if_neg h1] at h; cases h
theorem atI_get {α : Type} {xs : List α} {i : Int} {v : α} (h : atI xs i = some v) : ∃ j, seqIndex? i xs.length = some j ∧ xs[j]? = some v ∧ j < xs.length ∧ -(xs.length : Int) ≤ i ∧ i < xs.length := by
  unfold atI at h
  cases e : ixN xs.length i with
  | none => rw [e] at h; cases h
  | some j =>
    rw [e] at h
    obtain ⟨h1, h2, h3, h4⟩ := ixN_seq e
    exact ⟨j, h1, h, h2, h3, h4⟩
theorem atI_nat {α : Type} {xs : List α} {j : Nat} {v : α} (h : xs[j]? = some v) : atI xs (j : Int) = some v := by
  have hj : j < xs.length := (List.getElem?_eq_some_iff.mp h).1
  have e : ixN xs.length (j : Int) = some j := by
    unfold ixN
    rw [if_pos (by omega), if_pos (by omega)]; simp
  unfold atI; rw [e]; exact h
theorem atI_last {α : Type} (xs : List α) (v : α) : atI (xs ++ [v]) (-1) = some v := by
  have hl : (xs ++ [v]).length = xs.length + 1 := by simp
  have e : ixN (xs ++ [v]).length (-1) = some xs.length := by
    unfold ixN
    rw [hl, if_neg (by decide), if_pos (by omega)]
    congr 1
    omega
  unfold atI
  rw [e]
  show (xs ++ [v])[xs.length]? = some v
  simp

/-! ### what may be subscripted -/
/-- what stands as an index of a plain subscript -/
def PlainIx (b : Expr) : Prop := ∀ o i, subscripted b false o i = operate [o, i] (getItem o i)
/-- a subscript by values -/
def IxR (X : Cx) (r : R2) : Prop :=
  ∀ (value slice : Expr) (pins : List (Addr × Obj)) (s : Shared) (σ : St) (H : Hp) (x y : V) (v u : Value) (Q : VK), Inv X pins σ H s → RelV x v → RelV y u → r x y H Q →
    subscripted slice false v u = operate [v, u] (getItem v u) → wpAny (model X.prog X.w) X.A (subscriptTail value slice v u) (EP X pins σ Q) X.xe s
/-- a call of a builtin's method by values: the receiver, the arguments -/
def MtR (X : Cx) (id : String) (r : V → List V → Hp → VK → Prop) : Prop :=
  ∀ (pins : List (Addr × Obj)) (s : Shared) (σ : St) (H : Hp) (x : V) (xs : List V) (v : Value) (us : List Value) (Q : VK), Inv X pins σ H s → RelV x v → Vals xs us → r x xs H Q →
    wpAny (model X.prog X.w) X.A (call (.builtin id) (v :: us)) (EP X pins σ Q) X.xe s
section
variable {X : Cx} {a b : Expr} {ta tb : TE} {pos : Pos}
theorem IxR.or {r r' : R2} (h : IxR X r) (h' : IxR X r') : IxR X (fun x y H Q => r x y H Q ∨ r' x y H Q) := by
  intro value slice pins s σ H x y v u Q I rx ry q hs
  rcases q with q | q
  · exact h value slice pins s σ H x y v u Q I rx ry q hs
  · exact h' value slice pins s σ H x y v u Q I rx ry q hs
theorem MtR.or {id : String} {r r' : V → List V → Hp → VK → Prop} (h : MtR X id r) (h' : MtR X id r') : MtR X id (fun x xs H Q => r x xs H Q ∨ r' x xs H Q) := by
  intro pins s σ H x xs v us Q I rx rs q
  rcases q with q | q
  · exact h pins s σ H x xs v us Q I rx rs q
  · exact h' pins s σ H x xs v us Q I rx rs q
/-- a[b] -/
theorem pe_ix {r : R2} (hr : IxR X r) (ha : PE X a ta) (hb : PE X b tb) (hs : PlainIx b) : PE X (.Subscript a b pos) (tOp r ta tb) := by
  intro pins s σ H Q I h
  exact Subscript_ (binT ha hb I h fun v u s2 x y H2 I2 rx ry q => hr a b pins s2 σ H2 x y v u Q I2 rx ry q (hs _ _))

def rIxL (K : PySem.W.Frag) : R2 := fun x y H Q => ∃ p xs i v, x = .ref p ∧ y = .int i ∧ SqL K H p xs ∧ atI xs i = some v ∧ Q v H
def rIxT (K : PySem.W.Frag) : R2 := fun x y H Q => ∃ p xs i v, x = .ref p ∧ y = .int i ∧ SqT K H p xs ∧ atI xs i = some v ∧ Q v H
def rIxS : R2 := fun x y H Q => ∃ z i c, x = .str z ∧ y = .int i ∧ z.length ≤ sizeLine ∧ atI z.cps.toList i = some c ∧ Q (.str ⟨#[c]⟩) H
theorem ix_list : IxR X (rIxL X.K) := by
  intro value slice pins s σ H x y v u Q I rx ry h hs
  obtain ⟨p, xs, i, z, rfl, rfl, hq, he, q⟩ := h
  cases rx
  obtain ⟨t, rfl⟩ := ry
  obtain ⟨its, r, pl, hz⟩ := I.list hq
  obtain ⟨j, h1, h2, h3, h4, h5⟩ := atI_get he
  obtain ⟨w, ew, rw'⟩ := r.get h2
  have hl := r.length
  have hn := line63
  have fin : EP X pins σ Q w s := ⟨z, H, I, rw', q⟩
  by_cases h0 : 0 ≤ i
  · have hj : i.toNat = j := by
      rw [seqIndex_of h0 h5] at h1
      exact Option.some.inj h1
    exact item_listR pl.isList h0 (by omega) (by rw [hj]; simpa using ew) fin hs
  · have hj : (i + (its.toArray.size : Int)).toNat = j := by
      rw [seqIndex_neg (by omega) h4] at h1
      rw [List.size_toArray, ← hl]
      exact Option.some.inj h1
    exact subscriptTail_builtinR (x := w) pl.isList.typeIs slot_list_getitem.lookup
      (wpAny_getItem_list_neg (Q := fun r s' => r = w ∧ EP X pins σ Q r s') pl.isList (by omega) (by rw [List.size_toArray] <;> omega) (by omega) (by rw [hj]; simpa using ew) ⟨rfl, fin⟩) hs
theorem ix_tup : IxR X (rIxT X.K) := by
  intro value slice pins s σ H x y v u Q I rx ry h hs
  obtain ⟨p, xs, i, z, rfl, rfl, hq, he, q⟩ := h
  cases rx
  obtain ⟨t, rfl⟩ := ry
  obtain ⟨its, r, pl, hz⟩ := I.tuple hq
  obtain ⟨j, h1, h2, h3, h4, h5⟩ := atI_get he
  obtain ⟨w, ew, rw'⟩ := r.get h2
  have hl := r.length
  have hn := line63
  have fin : EP X pins σ Q w s := ⟨z, H, I, rw', q⟩
  exact subscriptTail_builtinR (x := w) pl.typeIs slot_tuple_getitem.lookup
    (getItem_tuple (j := j) (Q := fun r s' => r = w ∧ EP X pins σ Q r s') pl (by omega) (by omega) (by rw [List.size_toArray, ← hl]; exact h1) (by simpa using ew) ⟨rfl, fin⟩) hs
theorem ix_str : IxR X rIxS := by
  intro value slice pins s σ H x y v u Q I rx ry h hs
  obtain ⟨z, i, c, rfl, rfl, hz, he, q⟩ := h
  obtain ⟨t, rfl⟩ := rx
  obtain ⟨t', rfl⟩ := ry
  obtain ⟨j, h1, h2, h3, h4, h5⟩ := atI_get he
  have hl : z.cps.toList.length = z.length := by simp [Str.length]
  rw [hl] at h1 h4 h5
  have hn := line63
  exact tail_any (typeIs_str s z t) slot_str_getitem.lookup (getItem_str (c := c) (by
    have e1 : decide (i < -(2 ^ 63 : Int)) = false := decide_eq_false (by omega)
    have e2 : decide (i ≥ 2 ^ 63) = false := decide_eq_false (by omega)
    rw [e1, e2, Bool.or_false]) (by rw [h1]; simpa using h2) ⟨.str ⟨#[c]⟩, H, I.tok _, ⟨_, rfl⟩, q⟩) hs
/-- list, tuple or str -/
def rIx (K : PySem.W.Frag) : R2 := fun x y H Q => rIxL K x y H Q ∨ rIxT K x y H Q ∨ rIxS x y H Q
theorem ix_seq : IxR X (rIx X.K) := ix_list.or (ix_tup.or ix_str)

/-! ### xs[i] = v, any sign -/
theorem Inv.lst {pins : List (Addr × Obj)} {σ : St} {H : Hp} {s : Shared} {p : Addr} {xs : List V} (I : Inv X pins σ H s) (h : H p = some (.lst xs)) :
    ∃ (its : List Value) (n : Nat), Vals xs its ∧ s.heap.get? p = some { cls := .type "list", data := .seq its.toArray n } ∧ xs.length ≤ sizeLine := by
  obtain ⟨z, its, n, r, e⟩ := I.hok p _ h
  exact ⟨its, n, r, e, z⟩
def rSetL : V → V → V → Hp → (Hp → Prop) → Prop := fun o i v H Q => ∃ p xs k j, o = .ref p ∧ i = .int k ∧ H p = some (.lst xs) ∧ ixN xs.length k = some j ∧ Q (upd H p (.lst (xs.set j v)))
/-! ### slices -/
theorem slice_bounds (lo hi : Option Int) (n : Nat) : (sliceBounds lo hi none n).1 = ((HT.sIx n 0 lo : Nat) : Int) ∧ (sliceBounds lo hi none n).2.1 = ((HT.sIx n n hi : Nat) : Int) ∧ (sliceBounds lo hi none n).2.2 = 1 := by
  refine ⟨?_, ?_, rfl⟩
  · cases lo with
    | none => simp [sliceBounds, HT.sIx]
    | some i =>
      simp only [sliceBounds, HT.sIx, Option.getD_none, show (1 : Int) > 0 by decide, if_true]
      by_cases h : i < 0
      · simp only [h, if_true] <;> omega
      · simp only [h, if_false] <;> omega
  · cases hi with
    | none => simp [sliceBounds, HT.sIx]
    | some i =>
      simp only [sliceBounds, HT.sIx, Option.getD_none, show (1 : Int) > 0 by decide, if_true]
      by_cases h : i < 0
      · simp only [h, if_true] <;> omega
      · simp only [h, if_false] <;> omega
theorem slicePick_cut (its : List Value) (lo hi : Option Int) : slicePick its.toArray lo hi none = ((its.drop (HT.sIx its.length 0 lo)).take (HT.sIx its.length its.length hi - HT.sIx its.length 0 lo)).toArray := by
  obtain ⟨h1, h2, h3⟩ := slice_bounds lo hi its.toArray.size
  unfold slicePick
  rw [h1, h2, h3]
  simp only [sliceRange_one, pick_run, List.size_toArray] <;> rfl
/-- xs[lo:hi] of a list: a new list -/
def rSlL (K : PySem.W.Frag) : V → Option Int → Option Int → Hp → VK → Prop := fun x lo hi H Q => ∃ a xs, x = .ref a ∧ SqL K H a xs ∧ ∀ p, H p = none → Q (.ref p) (upd H p (.lst (cutV xs lo hi)))
theorem sl_list : SlR X (rSlL X.K) := by
  intro pins s σ H x v vl vu lo hi sl Q I rx hs pl pu h
  obtain ⟨a, xs, rfl, hx, q⟩ := h
  cases rx
  obtain ⟨its, r, ht, hz⟩ := I.list hx
  have hlen := r.length
  refine ⟨"list", _, slot_list_getitem.lookup, ht.isList.typeIs, ?_⟩
  refine wpAny_getItem_list_slice ht.isList hs pl pu .none (by simp) ?_ (by rw [List.size_toArray] <;> omega)
  rw [slicePick_cut, ← hlen]
  refine ⟨.ref s.heap.objs.size, _, I.laid (t' := s.toks) (o := .lst (cutV xs lo hi)) (fun b ob q => Heap.get?_push_of_some _ q) (Nat.le_refl _) ?_, rfl, q _ (I.hok.fresh (Nat.le_refl _))⟩
  exact ⟨Nat.le_trans (cutV_length xs lo hi) hz, _, 0, (r.drop (HT.sIx xs.length 0 lo)).take (HT.sIx xs.length xs.length hi - HT.sIx xs.length 0 lo), Heap.get?_push_size _ rfl⟩

/-! ### in, not in: flat items -/
def flatV : V → Bool
  | .non => true
  | .bl _ => true
  | .int _ => true
  | .str _ => true
  | _ => false
/-- == of flat values -/
def eqV : V → V → Bool
  | .non, .non => true
  | .bl a, .bl b => a == b
  | .bl a, .int b => (if a then 1 else 0) == b
  | .int a, .bl b => a == (if b then 1 else 0)
  | .int a, .int b => a == b
  | .str a, .str b => a == b
  | _, _ => false
theorem eqAt_V {A : Around} {s : Shared} {y x : V} {u v : Value} (ry : RelV y u) (rx : RelV x v) (fy : flatV y = true) (fx : flatV x = true) : SeqAt.EqAt A s u v (eqV y x) := by
  cases y with
  | non =>
    cases ry
    cases x with
    | non => cases rx; exact SeqAt.EqAt.same _
    | bl b => cases rx; exact SeqAt.EqAt.none_bool b
    | int b => obtain ⟨t, rfl⟩ := rx; exact SeqAt.EqAt.none_int b t
    | str b => obtain ⟨t, rfl⟩ := rx; exact SeqAt.EqAt.none_str b t
    | _ => exact absurd (show false = true from fx) Bool.false_ne_true
  | bl a =>
    cases ry
    cases x with
    | non => cases rx; exact SeqAt.EqAt.bool_none a
    | bl b => cases rx; exact SeqAt.EqAt.bool_bool a b
    | int b => obtain ⟨t, rfl⟩ := rx; exact SeqAt.EqAt.bool_int a b t
    | str b => obtain ⟨t, rfl⟩ := rx; exact SeqAt.EqAt.bool_str a b t
    | _ => exact absurd (show false = true from fx) Bool.false_ne_true
  | int a =>
    obtain ⟨t', rfl⟩ := ry
    cases x with
    | non => cases rx; exact SeqAt.EqAt.int_none a t'
    | bl b => cases rx; exact SeqAt.EqAt.int_bool a t' b
    | int b => obtain ⟨t, rfl⟩ := rx; exact SeqAt.EqAt.int_int a t' b t
    | str b => obtain ⟨t, rfl⟩ := rx; exact SeqAt.EqAt.int_str a t' b t
    | _ => exact absurd (show false = true from fx) Bool.false_ne_true
  | str a =>
    obtain ⟨t', rfl⟩ := ry
    cases x with
    | non => cases rx; exact SeqAt.EqAt.str_none a t'
    | bl b => cases rx; exact SeqAt.EqAt.str_bool a t' b
    | int b => obtain ⟨t, rfl⟩ := rx; exact SeqAt.EqAt.str_int a t' b t
    | str b => obtain ⟨t, rfl⟩ := rx; exact SeqAt.EqAt.str_str a t' b t
    | _ => exact absurd (show false = true from fx) Bool.false_ne_true
  | _ => exact absurd (show false = true from fy) Bool.false_ne_true
/-- the items' answers, read off the values (a value's own answer does not lean on its token) -/
def eqU (x : V) (u : Value) : Bool := match u with
  | .none => eqV .non x
  | .bool b => eqV (.bl b) x
  | .int i _ => eqV (.int i) x
  | .str z _ => eqV (.str z) x
  | _ => false
theorem eqU_of {x y : V} {u : Value} (r : RelV y u) (f : flatV y = true) : eqU x u = eqV y x := by
  cases y with
  | non => cases r; rfl
  | bl b => cases r; rfl
  | int i => obtain ⟨t, rfl⟩ := r; rfl
  | str z => obtain ⟨t, rfl⟩ := r; rfl
  | _ => exact absurd (show false = true from f) Bool.false_ne_true
theorem any_eqU {x : V} : ∀ {xs : List V} {us : List Value}, Vals xs us → xs.all flatV = true → us.any (eqU x) = xs.any fun y => eqV y x
  | _, _, .nil, _ => rfl
  | y :: xs, u :: us, .cons r t, f => by
    rw [List.all_cons, Bool.and_eq_true] at f
    rw [List.any_cons, List.any_cons, eqU_of r f.1, any_eqU t f.2]
theorem mem_eqAt {A : Around} {s : Shared} {x : V} {v : Value} (rx : RelV x v) (fx : flatV x = true) : ∀ {xs : List V} {us : List Value}, Vals xs us → xs.all flatV = true → ∀ u ∈ us, SeqAt.EqAt A s u v (eqU x u)
  | _, _, .nil, _ => fun u hu => by cases hu
  | y :: xs, u :: us, .cons r t, f => fun u' hu => by
    rw [List.all_cons, Bool.and_eq_true] at f
    rcases List.mem_cons.mp hu with rfl | hu
    · rw [eqU_of r f.1]; exact eqAt_V r rx f.1 fx
    · exact mem_eqAt rx fx t f.2 u' hu
def inV (x : V) (xs : List V) : Bool := xs.any fun y => eqV y x
/-- x in a list or tuple of flat items -/
def rIn (K : PySem.W.Frag) (neg : Bool) : R2 := fun x y H Q => ∃ p xs, y = .ref p ∧ (SqL K H p xs ∨ SqT K H p xs) ∧ flatV x = true ∧ xs.all flatV = true ∧ Q (.bl (if neg then !inV x xs else inV x xs)) H
theorem op_in_seq : OpR X (compareOp .In) (rIn X.K false) := by
  intro pins s σ H x y v u Q I rx ry h
  obtain ⟨p, xs, rfl, hq, fx, fs, q⟩ := h
  cases ry
  rcases hq with hq | hq
  · obtain ⟨its, r, pl, hz⟩ := I.list hq
    refine SeqAt.in_listAt (eqU x) pl.isList (fun w hw => mem_eqAt rx fx r fs w (by simpa using hw)) ⟨.bl _, H, I, rfl, ?_⟩
    rw [show its.toArray.any (eqU x) = its.any (eqU x) by simp, any_eqU r fs]
    exact q
  · obtain ⟨its, r, pl, hz⟩ := I.tuple hq
    refine SeqAt.in_tupleAt (eqU x) pl (fun w hw => mem_eqAt rx fx r fs w (by simpa using hw)) ⟨.bl _, H, I, rfl, ?_⟩
    rw [show its.toArray.any (eqU x) = its.any (eqU x) by simp, any_eqU r fs]
    exact q
/-! ### len, list(x), tuple(x) of any list or tuple that is read -/
theorem call_len_seq : CallR X (.builtin "len") (fun xs H Q => ∃ p ys, xs = [.ref p] ∧ (SqL X.K H p ys ∨ SqT X.K H p ys) ∧ Q (.int ys.length) H) := by
  intro pins s σ H xs us Q I r h
  obtain ⟨p, ys, rfl, hq, q⟩ := h
  obtain ⟨u, rfl, rx⟩ := vals1 r
  cases rx
  have hn := line63
  rcases hq with hq | hq
  · obtain ⟨its, r', pl, hz⟩ := I.list hq
    have hlen := r'.length
    exact Calls.call_len_list pl.isList (by simp only [List.size_toArray] <;> omega) ⟨.int ys.length, H, I.tok _, ⟨s.toks + 1, by rw [List.size_toArray, hlen]⟩, q⟩
  · obtain ⟨its, r', pl, hz⟩ := I.tuple hq
    have hlen := r'.length
    exact len_tuple pl (by simp only [List.size_toArray] <;> omega) ⟨.int ys.length, H, I.tok _, ⟨s.toks + 1, by rw [List.size_toArray, hlen]⟩, q⟩
theorem call_len_str : CallR X (.builtin "len") (fun xs H Q => ∃ z, xs = [.str z] ∧ z.length ≤ sizeLine ∧ Q (.int z.length) H) := by
  intro pins s σ H xs us Q I r h
  obtain ⟨z, rfl, hz, q⟩ := h
  obtain ⟨u, rfl, t, rfl⟩ := vals1 r
  have hn := line63
  exact len_str (by omega) ⟨.int z.length, H, I.tok _, ⟨_, rfl⟩, q⟩
theorem CallR.or {f : Value} {r r' : List V → Hp → VK → Prop} (h : CallR X f r) (h' : CallR X f r') : CallR X f (fun xs H Q => r xs H Q ∨ r' xs H Q) := by
  intro pins s σ H xs us Q I rs q
  rcases q with q | q
  · exact h pins s σ H xs us Q I rs q
  · exact h' pins s σ H xs us Q I rs q
theorem call_list_of : CallR X (.type "list") (fun xs H Q => ∃ p ys, xs = [.ref p] ∧ (SqL X.K H p ys ∨ SqT X.K H p ys) ∧ ∀ l, H l = none → Q (.ref l) (upd H l (.lst ys))) := by
  intro pins s σ H xs us Q I r h
  obtain ⟨p, ys, rfl, hq, q⟩ := h
  obtain ⟨u, rfl, rx⟩ := vals1 r
  cases rx
  have fin : ∀ (its : List Value), Vals ys its → ys.length ≤ sizeLine → ∀ (h' : Heap) (c' : Nat), (∀ b o', s.heap.get? b = some o' → h'.get? b = some o') →
      h'.get? s.heap.objs.size = some { cls := .type "list", dict := none, data := .seq its.toArray c', slots := #[] } → EP X pins σ Q (.ref s.heap.objs.size) { s with heap := h' } := fun its r' hz h' c' kp e =>
    ⟨.ref s.heap.objs.size, _, I.laid (t' := s.toks) kp (Nat.le_refl _) (show ObjOk X.prog X.w _ h' _ (.lst ys) from ⟨hz, its, c', r', e⟩), rfl, q _ (I.hok.fresh (Nat.le_refl _))⟩
  rcases hq with hq | hq
  · obtain ⟨its, r', pl, hz⟩ := I.list hq
    have hlen := r'.length
    obtain ⟨o, ho, hc, n, hd⟩ := pl.isList
    exact call_list_seq p (.inl rfl) ho hc hd (fun h' c' kp e => fin its r' hz h' c' kp e) (by simp only [List.size_toArray] <;> omega)
  · obtain ⟨its, r', pl, hz⟩ := I.tuple hq
    have hlen := r'.length
    obtain ⟨o, ho, hc, n, hd⟩ := pl
    exact call_list_seq p (.inr rfl) ho hc hd (fun h' c' kp e => fin its r' hz h' c' kp e) (by simp only [List.size_toArray] <;> omega)
/-! ### the call of a builtin's method: o.m(..) -/
/-- the value is of that builtin type -/
def tyV (K : PySem.W.Frag) (T : String) (x : V) (H : Hp) : Prop := match x with
  | .str _ => T = "str"
  | .int _ => T = "int"
  | .ref p => (T = "list" ∧ ∃ xs, SqL K H p xs) ∨ (T = "tuple" ∧ ∃ o, K.lookup p = some o ∧ o.cls = .type "tuple" ∧ o.dict = none) ∨
      (T = "dict" ∧ ((∃ kvs, H p = some (.dK kvs)) ∨ ∃ kvs, H p = some (.dT kvs))) ∨ (T = "set" ∧ ∃ S n, H p = some (.set S n))
  | _ => False
theorem tyV_is {pins : List (Addr × Obj)} {σ : St} {H : Hp} {s : Shared} {T : String} {x : V} {v : Value} (I : Inv X pins σ H s) (r : RelV x v) (ty : tyV X.K T x H) :
    s.TypeIs v T ∧ ∀ a, v = .ref a → ∃ ob, s.heap.get? a = some ob ∧ ob.dict = none := by
  cases x with
  | str z =>
    obtain ⟨t, rfl⟩ := r
    cases (show T = "str" from ty)
    exact ⟨typeIs_str s z t, fun _ e => nomatch e⟩
  | int i =>
    obtain ⟨t, rfl⟩ := r
    cases (show T = "int" from ty)
    exact ⟨typeIs_int s i t, fun _ e => nomatch e⟩
  | ref p =>
    cases r
    rcases ty with ⟨rfl, xs, hq⟩ | ⟨rfl, o, hk, hc, hd⟩ | ⟨rfl, hk⟩ | ⟨rfl, S, n, hk⟩
    · obtain ⟨its, _, pl, _⟩ := I.list hq
      refine ⟨pl.isList.typeIs, fun a e => ?_⟩
      cases e
      obtain ⟨o, n, e, c, hd, _⟩ := pl
      exact ⟨o, e, hd⟩
    · refine ⟨⟨o, I.kIn p o hk, hc⟩, fun a e => ?_⟩
      cases e
      exact ⟨o, I.kIn _ o hk, hd⟩
    · have z : ∃ o, s.heap.get? p = some o ∧ o.ExactDict := by
        rcases hk with ⟨kvs, hk⟩ | ⟨kvs, hk⟩
        · obtain ⟨_, _, _, _, o, _, _, e, ex, _⟩ := I.hok p _ hk
          exact ⟨o, e, ex⟩
        · obtain ⟨_, _, _, _, o, _, _, e, ex, _⟩ := I.hok p _ hk
          exact ⟨o, e, ex⟩
      obtain ⟨o, e, ex⟩ := z
      refine ⟨⟨o, e, ex.1⟩, fun a e2 => ?_⟩
      cases e2
      exact ⟨o, e, ex.2.1⟩
    · obtain ⟨o, _, _, _, e, ex, _⟩ := I.hok p _ hk
      refine ⟨⟨o, e, ex.1⟩, fun a e2 => ?_⟩
      cases e2
      exact ⟨o, e, ex.2.1⟩
  | _ => exact False.elim ty
def tBM0 (K : PySem.W.Frag) (T : String) (r : V → List V → Hp → VK → Prop) (to : TE) : TE := fun σ H Q => to σ H fun x H1 => tyV K T x H1 ∧ r x [] H1 Q
def tBM (K : PySem.W.Frag) (T : String) (r : V → List V → Hp → VK → Prop) (to : TE) (t : TA) : TE := fun σ H Q => to σ H fun x H1 => tyV K T x H1 ∧ t σ H1 fun xs H2 => r x xs H2 Q
variable {o e : Expr} {es : List Expr} {to : TE} {t : TA} {name : Str} {apos cpos : Pos} {T id : String} {r : V → List V → Hp → VK → Prop}
theorem pe_bm (pa : PlainAttrs T) (slot : Slot T name id) (hty : typeOf (.builtin id) = pure (.type "method_descriptor")) (hm : MtR X id r) (ho : PE X o to) (ha : PA X (e :: es) t)
    (hbase : attributeBase o name X.env (eval o X.env) = eval o X.env := by rfl)
    (hfew : ((backTo cpos (starEach (e :: es) X.env)).all (fun x => !x.1) && (backToKw cpos (keywordEach [] X.env)).all (fun x => x.1.isSome)
      && decide ((e :: es).length + ([] : List Keyword).length + (if ([] : List Keyword).isEmpty then 0 else 1) < 30)) = true := by rfl)
    (hline : (apos.endLine == cpos.line) = true := by rfl) (hs : starEach (e :: es) X.env = (false, eval e X.env) :: starEach es X.env := by rfl) (hplain : (backTo cpos (starEach es X.env)).any (·.1) = false := by rfl) :
    PE X (.Call (.Attribute o name apos) (e :: es) [] cpos) (tBM X.K T r to t) := by
  intro pins s σ H Q I h
  refine wpAny_Call_method_late hbase hfew hline rfl (thn (ho pins s σ H _ I h) fun v s1 ⟨x, H1, I1, r1, ty, q1⟩ => ?_)
  obtain ⟨h1, h2⟩ := tyV_is I1 r1 ty
  refine ⟨T, id, pa, slot, hty, h1, h2, ?_⟩
  have hA := ha cpos pins s1 σ H1 _ I1 q1
  rw [hs] at hA ⊢
  refine Calls.callWith_builtin (by show (false || (backTo cpos (starEach es X.env)).any (·.1)) = false; rw [hplain] <;> rfl) (Calls.evalArgs_plain ?_)
  exact thn hA fun us s2 ⟨vs, H2, I2, r2, q2⟩ => hm pins s2 σ H2 x vs v us Q I2 r1 r2 q2
/- xs.append(e), list.index on a module's tuple .. are MtR facts of 06m -/
end
end L2

namespace L2
open PySem PySem.Spec PyProof.Rows

def MtM (X : Cx) (id : String) (r : V → List V → Hp → VK → Prop) : Prop :=
  ∀ (pins : List (Addr × Obj)) (s : Shared) (σ : St) (H : Hp) (x : V) (xs : List V) (v : Value) (us : List Value) (Q : VK), Inv X pins σ H s → RelV x v → Vals xs us → r x xs H Q →
    wpAny (model X.prog X.w) X.A (call (.builtin id) (v :: us)) (EP X pins σ Q) X.xe s

/-! ### lists of values -/
theorem Vals.one : ∀ {x : V} {us : List Value}, Vals [x] us → ∃ u, us = [u] ∧ RelV x u
  | _, _, .cons r .nil => ⟨_, rfl, r⟩
theorem Vals.two : ∀ {x y : V} {us : List Value}, Vals [x, y] us → ∃ u v, us = [u, v] ∧ RelV x u ∧ RelV y v
  | _, _, _, .cons r (.cons q .nil) => ⟨_, _, rfl, r, q⟩
theorem Vals.zero : ∀ {us : List Value}, Vals [] us → us = []
  | _, .nil => rfl
theorem Vals.dropLast {xs : List V} {us : List Value} (h : Vals xs us) : Vals xs.dropLast us.dropLast := by
  induction h with
  | nil => exact .nil
  | cons r t ih =>
    cases t with
    | nil => exact .nil
    | cons q t' => exact .cons r ih
theorem Vals.eraseIdx : ∀ {xs : List V} {us : List Value} (i : Nat), Vals xs us → Vals (xs.eraseIdx i) (us.eraseIdx i)
  | _, _, _, .nil => .nil
  | _, _, 0, .cons _ t => t
  | _, _, i + 1, .cons r t => .cons r (Vals.eraseIdx i t)
theorem Vals.reverse {xs : List V} {us : List Value} (h : Vals xs us) : Vals xs.reverse us.reverse := by
  induction h with
  | nil => exact .nil
  | cons r t ih => rw [List.reverse_cons, List.reverse_cons]; exact Vals.append ih (.cons r .nil)
theorem Vals.rep {xs : List V} {us : List Value} (h : Vals xs us) : ∀ k : Nat, Vals (List.replicate k xs).flatten (List.replicate k us).flatten
  | 0 => .nil
  | k + 1 => by
    rw [List.replicate_succ, List.replicate_succ, List.flatten_cons, List.flatten_cons]
    exact Vals.append h (Vals.rep h k)
theorem foldl_rep (its : List Value) : ∀ (k : Nat) (acc : List Value),
    List.foldl (fun x1 x2 => x1 ++ x2) acc.toArray (List.replicate k its.toArray) = (acc ++ (List.replicate k its).flatten).toArray
  | 0, acc => by simp
  | k + 1, acc => by
    have e : acc.toArray ++ its.toArray = (acc ++ its).toArray := by simp
    have e2 : (acc ++ its) ++ (List.replicate k its).flatten = acc ++ (List.replicate (k + 1) its).flatten := by
      rw [List.replicate_succ, List.flatten_cons, List.append_assoc]
    rw [← e2, ← foldl_rep its k (acc ++ its), ← e, List.replicate_succ, List.foldl_cons]

section
variable {X : Cx} {pins : List (Addr × Obj)} {σ : St} {H : Hp} {s : Shared} {l b : Addr} {xs ys zs : List V}

/-! ### the two steps: a tracked list is rewritten, a new list is laid -/
theorem Inv.lset {its its' : List Value} {n : Nat} {f : Array Value → Array Value} {t' : Nat} (I : Inv X pins σ H s) (hH : H l = some (.lst xs))
    (e : s.heap.get? l = some { cls := .type "list", data := .seq its.toArray n }) (hf : f its.toArray = its'.toArray) (hv : Vals ys its') (hz : ys.length ≤ sizeLine) :
    Inv X pins σ (upd H l (.lst ys)) { s with heap := s.heap.update l (Obj.mapSeq f), toks := t' } := by
  have q := PySem.IsL.update e f
  rw [hf] at q
  refine I.write (x := l) (e := l) (by rw [hH]; exact trivial) (.inl rfl) (fun b' u hb hu => (Heap.get?_update_other s.heap (Obj.mapSeq f) (Ne.symm hb)).trans hu) ⟨_, q⟩ ?_
  exact ⟨hz, its', _, hv, q⟩
theorem Inv.lnew {its : List Value} {t' : Nat} (I : Inv X pins σ H s) (hv : Vals ys its) (hz : ys.length ≤ sizeLine) :
    Inv X pins σ (upd H s.heap.objs.size (.lst ys)) { s with heap := s.heap.push { cls := .type "list", data := .seq its.toArray }, toks := t' } :=
  I.laid (fun _ _ q => Heap.get?_push_of_some _ q) (Nat.le_refl _) ⟨hz, its, 0, hv, Heap.get?_push_size _ rfl⟩
theorem Inv.fresh (I : Inv X pins σ H s) : H s.heap.objs.size = none := I.hok.fresh (Nat.le_refl _)
theorem Inv.lstM (I : Inv X pins σ H s) (hH : H l = some (.lst xs)) : xs.length ≤ sizeLine ∧ ∃ (its : List Value) (n : Nat), Vals xs its ∧ xs.length = its.length ∧ s.heap.get? l = some { cls := .type "list", data := .seq its.toArray n } := by
  obtain ⟨z, its, n, r, e⟩ := I.hok l _ hH
  exact ⟨z, its, n, r, r.length, e⟩

end

section
variable {X : Cx}

/-! ### methods -/
def rAppend : V → List V → Hp → VK → Prop := fun x vs H Q => ∃ l xs y, x = .ref l ∧ vs = [y] ∧ H l = some (.lst xs) ∧ xs.length < sizeLine ∧ Q .non (upd H l (.lst (xs ++ [y])))
theorem mt_append : MtM X "list.append" rAppend := by
  intro pins s σ H x vs v us Q I rx rv h
  obtain ⟨l, xs, y, rfl, rfl, hH, hz, q⟩ := h
  cases rx
  obtain ⟨u, rfl, ru⟩ := rv.one
  obtain ⟨z, its, n, r, hl, e⟩ := I.lstM hH
  refine call_meets F.slot_list_append ⟨_, e, rfl⟩ F.entry_list_append (F.args_list_append_2 _ _) (PySem.list_append l its.toArray n u (by rw [List.size_toArray]; omega)) ⟨e, ?_⟩
  refine ⟨.non, _, I.lset (its' := its ++ [u]) hH e (by simp) (r.append (.cons ru .nil)) ?_, rfl, q⟩
  rw [List.length_append, List.length_singleton]
  omega

def rPop : V → List V → Hp → VK → Prop := fun x vs H Q => ∃ l xs y, x = .ref l ∧ vs = [] ∧ H l = some (.lst xs) ∧ xs[xs.length - 1]? = some y ∧ Q y (upd H l (.lst xs.dropLast))
def rPopAt : V → List V → Hp → VK → Prop := fun x vs H Q => ∃ l xs i k y, x = .ref l ∧ vs = [.int i] ∧ H l = some (.lst xs) ∧ -(2 ^ 63) ≤ i ∧ i < 2 ^ 63 ∧ seqIndex? i xs.length = some k ∧ xs[k]? = some y ∧ Q y (upd H l (.lst (xs.eraseIdx k)))
def rReverse : V → List V → Hp → VK → Prop := fun x vs H Q => ∃ l xs, x = .ref l ∧ vs = [] ∧ H l = some (.lst xs) ∧ Q .non (upd H l (.lst xs.reverse))
/-! ### list + list, list += list, list * int -/
def rCat : R2 := fun x y H Q => ∃ l b xs zs, x = .ref l ∧ y = .ref b ∧ H l = some (.lst xs) ∧ H b = some (.lst zs) ∧ xs.length + zs.length ≤ sizeLine ∧ ∀ p, H p = none → Q (.ref p) (upd H p (.lst (xs ++ zs)))
theorem op_cat : OpR X (binaryOp .Add) rCat := by
  intro pins s σ H x y v u Q I rx ry h
  obtain ⟨l, b, xs, zs, rfl, rfl, hH, hB, hz, q⟩ := h
  cases rx
  cases ry
  obtain ⟨z, its, n, r, hl, e⟩ := I.lstM hH
  obtain ⟨z2, its2, n2, r2, hl2, e2⟩ := I.lstM hB
  refine PySem.P.add_list e e2 ?_ (by rw [List.size_toArray, List.size_toArray]; omega)
  have ea : its.toArray ++ its2.toArray = (its ++ its2).toArray := by simp
  rw [ea]
  exact ⟨.ref _, _, I.lnew (t' := s.toks) (r.append r2) (by rw [List.length_append]; omega), rfl, q _ I.fresh⟩
theorem len_rep {α : Type} (xs : List α) (k : Nat) : (List.replicate k xs).flatten.length = k * xs.length := by
  induction k with
  | zero => simp
  | succ k ih => rw [List.replicate_succ, List.flatten_cons, List.length_append, ih, Nat.succ_mul, Nat.add_comm]
/-! ### del xs[i] -/
end

/-! ### xs[a:b] = ys -/
section
variable {prog : Program} {w : World} {A : Around} {E : Value → Shared → Prop} {s : Shared}
set_option maxRecDepth 100000 in
end

section
variable {X : Cx}
end
end L2

namespace Att
open PySem PySem.W PySem.Calls PyProof.Rows

/-! ### the script -/
theorem ints_of_wellAll {P : Params} {h : Heap} : ∀ (ns : List Int) (vs : List Value), WellAll P h vs (ns.map WData.int) → IntsAre vs ns := by
  intro ns
  induction ns with
  | nil =>
    intro vs w
    rw [List.map_nil] at w
    cases w
    exact .nil
  | cons n ns ih =>
    intro vs w
    rw [List.map_cons] at w
    cases w with
    | cons a b =>
      cases a
      exact .cons _ _ (ih _ b)

theorem script_of {l : OpenLaw} {n : Nat} (hn : l.most = some n) {P : Params} {h : Heap} {args : List WData} {vals : List Value}
    (hpre : l.row.toRowW.claim.pre args = true) (hwl : WellAll P h vals args) :
    ∃ a vs ns, vals = [Value.ref a] ∧ args = [WData.list (ns.map WData.int)] ∧ h.get? a = some { cls := .type "list", data := .seq vs.toArray } ∧ IntsAre vs ns ∧ ns.length ≤ n := by
  have hsh : WShape.hasAll [] args [.list .int] = true := (pre_splitW hpre).1
  have hc : l.pre.holds [] { args := args } = true := (pre_splitW hpre).2
  obtain ⟨d, r, rfl, h1, h2⟩ := hasAllW_cons hsh
  obtain rfl := hasAllW_nil h2
  obtain ⟨xs, rfl, h3⟩ := hasW_list h1
  obtain ⟨ns, rfl⟩ := items_int h3
  have hlen : ns.length ≤ n := by
    unfold OpenLaw.pre at hc
    have h4 : (WTm.not (.lt (.lit (.int (n : Int))) (.len (.arg 0)))).holds [] { args := [.list (ns.map .int)] } = true := by
      have h4 := (holds_andW hc).1
      rw [hn] at h4
      exact h4
    have h5 := condW_of h4 (w_not (w_lt w_lit (w_len_list (w_arg rfl))))
    rw [List.length_map] at h5
    refine Nat.le_of_not_lt fun q => ?_
    have q' : (n : Int) < ((ns.length : Nat) : Int) := by omega
    first
      | (rw [decide_eq_true q'] at h5; exact absurd h5 (by decide))
      | (simp at h5; omega)
  cases hwl with
  | cons w1 w2 =>
    cases w2
    cases w1 with
    | list ho hall => exact ⟨_, _, ns, rfl, rfl, ho, ints_of_wellAll ns _ hall, hlen⟩

theorem post_true (l : OpenLaw) (args : List WData) : l.row.toRowW.claim.post args (.bool true) args = true :=
  postW_of (r := l.row.toRowW) (X := (true == true))
    (show WShape.has [] (.bool true) .bool = true by first | rfl | decide | simp [WShape.has, WShape.arms, WShape.armsAll])
    (show (WTm.eq .res (.lit (.bool true))).value [] { args := args, res := some (.bool true), after := args } = some (.bool (true == true)) from w_eq_bool (w_res rfl) w_lit) rfl

/-! ### the attachment: holds_open's last premise (the goal 'hc' behind k_head) from a wpAny of the law's body -/
/-- the same from a codeAny of the CALL (for a layer whose function contracts speak of calls) -/
theorem attach_call {l : OpenLaw} {n : Nat} {q : Program} {loose : List Str} {XP : (Str → Option Value) → Heap → Prop} {YP : World → Heap → Prop} {d : DefRec}
    (hn : l.most = some n) (hdf : d.params.defaults = [])
    (call : ∀ (w : World) (s₀ s₁ : Shared) (mg mb : Str → Option Value) (fa : Addr) (o : Obj) (pm cd doc : Value) (a : Addr) (vs : List Value) (ns : List Int),
      Ground q loose [] XP w s₀ mg mb s₁.heap → YP w s₁.heap →
      s₁.heap.get? fa = some o → o.data = .func (docDef d.name d.params d.body d.scope pm cd doc) → s₁.heap.CodeRec cd d.name → mg d.name = some (.ref fa) →
      s₁.heap.get? a = some { cls := .type "list", data := .seq vs.toArray } → IntsAre vs ns → ns.length ≤ n → s₁.gens = #[] →
      codeAny (model l.prog w) callerA (.call (.ref fa) ⟨[.ref a], []⟩) (fun r s' => r = .ok (.ret (.bool true)) ∧ OldK s₁.heap s'.heap ∧ s'.os = s₁.os ∧ AllBare s'.gens) s₁) :
    WalkO q loose XP YP l.row.toRowW d [] (fun f vs => PySem.call f vs) := by
  intro w s₀ s₁ mg mb G Y fa o pm cd doc dV kV ho hd hcd hD hmg hg args vals as hpre hlay hrd hwl hlo
  obtain rfl : dV = .none := Dflts.none hD hdf
  obtain rfl : kV = .none := Dflts.noKw hD
  obtain ⟨a, vs, ns, rfl, rfl, hobj, hints, hlen⟩ := script_of hn hpre hwl
  refine enter_call (codeAny_mono (call w s₀ s₁ mg mb fa o pm cd doc a vs ns G Y ho (fd_plain hd) hcd hmg hobj hints hlen hg) fun r s' hq => ?_)
  obtain ⟨rfl, h2, h3, h4⟩ := hq
  exact ⟨.inl ⟨.bool true, .bool true, [], rfl, fun _ => rfl, .bool true, post_true l _, fun _ => ⟨List.Pairwise.nil, fun _ hm => (nomatch hm)⟩⟩, h2, h3, h4⟩

/-! ### rules over ANY heap (no ledger) from facts about the written part K: the library's own take a ledger (News) for what they write -/
section
variable {prog : Program} {w : World} {A : Around} {E : Value → Shared → Prop} {s : Shared} {K : Frag}

/-! the whole heap as the ledger: makes every rule that writes through a ledger a rule over any heap -/
def ledger (h : Heap) (L d : Addr) : List (Addr × Obj) := (List.range h.objs.size).filterMap fun a => if a = L ∨ a = d then none else (h.get? a).map fun o => (a, o)
end
end Att

namespace L2
open PySem PySem.Spec PyProof.Rows

theorem vals_ints : ∀ {vs : List Value} {ns : List Int}, IntsAre vs ns → Vals (ns.map V.int) vs
  | _, _, .nil => .nil
  | _, _, .cons n t h => .cons ⟨t, rfl⟩ (vals_ints h)

/-- nothing is tracked but the script, known to the object (or it is an object of the module) -/
def Only (H : Hp) : Prop := ∀ b, H b = none ∨ ∃ o xs, H b = some (.frz o (.lst xs))

/-- THE HEAD: the law's promise, at the heap behind the top. F, the promise of the law's def, may use that base is part of the heap (so K.In base, base.Ns mainGlobals mg stand in Mod) -/
theorem law_call {P : Program} {w : World} {K : PySem.W.Frag} {mg mb : Str → Option Value} {CX : CXT} {k : Nat} {fa a : Addr} {fd : FuncData} {x : Str} {sp : Sp} {s₁ : Shared} {vs : List Value} {ns : List Int}
    (KX : K.In s₁.heap) (hns : s₁.heap.Ns mainGlobals mg) (hb : s₁.heap.Ns builtinsNs mb) (hbb : ∀ x : Str, x ≠ "__name__" → mb x = bootBuiltins x) (hlim : s₁.heap.NoLimit) (hg : s₁.gens = #[])
    (ha : s₁.heap.get? a = some { cls := .type "list", data := .seq vs.toArray }) (hi : IntsAre vs ns) (hl : ns.length ≤ sizeLine) (hr : Room k callerA)
    (F : ∀ base : Heap, K.In base → base.Ns mainGlobals mg → FnOk P w K mg base CX k fa fd [x] sp) (hbind : ∀ (s : Shared) (u : Value), BindsTo s fd ⟨[u], []⟩ [(x, u)])
    (hsp : ∀ H : Hp, Only H → SqL K H a (ns.map V.int) → sp [.ref a] H (fun v _ => v = .bl true) fun _ _ _ => False)
    (hCX : ∀ H e s', CX [] H s₁ (fun _ _ _ => False) e s' → False) :
    codeAny (model P w) callerA (.call (.ref fa) ⟨[.ref a], []⟩) (fun r s' => r = .ok (.ret (.bool true)) ∧ OldK s₁.heap s'.heap ∧ s'.os = s₁.os ∧ AllBare s'.gens) s₁ := by
  have rv := vals_ints hi
  have lenV := hi.length
  -- from an abstract heap in which nothing but the script may be tracked
  have core : ∀ H : Hp, Only H → SqL K H a (ns.map V.int) → HOk P w H s₁.heap → (∀ b, H b ≠ none → b = a) → (H a ≠ none → K.lookup a = none) →
      codeAny (model P w) callerA (.call (.ref fa) ⟨[.ref a], []⟩) (fun r s' => r = .ok (.ret (.bool true)) ∧ OldK s₁.heap s'.heap ∧ s'.os = s₁.os ∧ AllBare s'.gens) s₁ := by
    intro H hO hS hok hA hK
    have base_of : ∀ {b : Addr} {o : Obj}, s₁.heap.get? b = some o → H b = none → (hidT s₁.heap H).get? b = some o := fun e n => hidT_get e n
    have noA : ∀ {b : Addr} {o : Obj} {es : Array DictEntry} {ep : Nat}, s₁.heap.get? b = some o → o.data = .dict es ep → H b = none := fun {b o es ep} e d => by
      cases q : H b with
      | none => rfl
      | some u =>
        have e' : b = a := hA b (by rw [q]; simp)
        subst e'
        rw [ha] at e; cases e
        have d' : Data.seq vs.toArray _ = Data.dict es ep := d
        cases d'
    have nsK : ∀ {b : Addr} {m : Str → Option Value}, s₁.heap.Ns b m → (hidT s₁.heap H).Ns b m := fun {b m} ⟨o, es, ep, e, d, r⟩ => ⟨o, es, ep, base_of e (noA e d), d, r⟩
    have hKb : K.In (hidT s₁.heap H) := fun b o e => base_of (KX b o e) (by
      cases q : H b with
      | none => rfl
      | some u =>
        have e' : b = a := hA b (by rw [q]; simp)
        subst e'
        rw [hK (by rw [q]; simp)] at e; cases e)
    have hM : Mod K mg (hidT s₁.heap H) := ⟨hKb, nsK hns, ⟨mb, nsK hb, hbb⟩, let ⟨mc, h1, h2⟩ := hlim; ⟨mc, nsK h1, h2⟩⟩
    have e0 : Env0 P w K mg (hidT s₁.heap H) callerA [] s₁ H := ⟨rfl, hM, fun b o e => of_hidT e, Nat.le_of_eq (hidT_size _ _), trivial, fun b hb => absurd (show b ∈ ([] : List Addr) from hb) (by simp), hok, .of_eq hg⟩
    refine codeAny_mono ((F _ hKb (nsK hns)).run callerA [] s₁ H ⟨[.ref a], []⟩ [.ref a] [.ref a] _ _ hr e0 (hbind s₁ (.ref a)) (.cons rfl .nil) (hsp H hO hS)) fun r s' h => ?_
    cases r with
    | error e => exact (hCX H e s' h).elim
    | ok fl =>
      cases fl with
      | next => exact False.elim h
      | brk => exact False.elim h
      | cont => exact False.elim h
      | ret u =>
        obtain ⟨v, H', os, bare, un, hok', r', q⟩ := h
        have q' : v = .bl true := q
        subst q'
        obtain rfl : u = Value.bool true := r'
        refine ⟨rfl, OldK.of_keep fun b o e => ?_, os, bare⟩
        cases q : H b with
        | none => exact un.keep b o e q (by intro z; exact absurd (show b ∈ ([] : List Addr) from z) (by simp)) (by simp)
        | some u =>
          rcases hO b with z | ⟨ob, xs, z⟩
          · rw [q] at z; cases z
          · have z2 := un.frzs b ob _ z
            obtain ⟨e1, _⟩ := hok b _ z
            obtain ⟨e2, _⟩ := hok' b _ z2
            rw [e] at e1; cases e1
            exact e2
  cases hk : K.lookup a with
  | some o =>
    -- the script is one of the module's own objects
    have e := KX a o hk
    rw [ha] at e
    cases e
    refine core (fun _ => none) (fun _ => .inl rfl) (.inr ⟨_, vs.toArray, _, hk, rfl, rfl, rfl, by rw [List.size_toArray, lenV]; exact hl, by simpa using rv⟩) (fun b u z => by have z' : (none : Option HO) = some u := z; cases z') (fun b z => absurd rfl z) fun z => absurd rfl z
  | none =>
    refine core (fun b => if b = a then some (.frz { cls := .type "list", data := .seq vs.toArray } (.lst (ns.map V.int))) else none) (fun b => ?_) (.inl (.inr ⟨{ cls := .type "list", data := .seq vs.toArray }, if_pos rfl⟩)) (fun b u z => ?_) (fun b z => ?_) fun _ => hk
    · by_cases hb : b = a
      · exact .inr ⟨_, _, if_pos hb⟩
      · exact .inl (if_neg hb)
    · by_cases hb : b = a
      · have z' := (if_pos hb).symm.trans z
        cases z'
        subst hb
        exact ⟨ha, by rw [List.length_map]; exact hl, vs, _, rv, ha⟩
      · have z' := (if_neg hb).symm.trans z
        cases z'
    · by_cases hb : b = a
      · exact hb
      · exact absurd (if_neg hb) z
end L2

namespace L2
open PySem PySem.Spec PyProof.Rows

abbrev KOf {K : PySem.W.Frag} {h : Heap} (_ : K.In h) : PySem.W.Frag := K

/-- the goal that k_head leaves (case hc), from the law's promise. F gives the function object fd (K's own) once, then the promise over every base -/
theorem walk_of {l : PySem.W.OpenLaw} {n k : Nat} {q : Program} {loose : List Str} {XP : (Str → Option Value) → Heap → Prop} {YP : World → Heap → Prop} {d : DefRec} {K : Params → PySem.W.Frag} {CX : World → CXT} {sp : World → Sp} {x : Str}
    (hn : l.most = some n) (hn2 : n ≤ sizeLine) (hdf : d.params.defaults = []) (hr : Room k callerA)
    (hY : ∀ (w : World) (h : Heap), YP w h → (K w.params).In h)
    (F : ∀ (w : World) (mg : Str → Option Value) (fa : Addr) (h : Heap), (K w.params).In h → h.Ns mainGlobals mg → mg d.name = some (.ref fa) →
      ∃ fd : FuncData, (∀ (s : Shared) (u : Value), BindsTo s fd ⟨[u], []⟩ [(x, u)]) ∧
        ∀ base : Heap, (K w.params).In base → base.Ns mainGlobals mg → FnOk l.prog w (K w.params) mg base (CX w) k fa fd [x] (sp w))
    (hsp : ∀ (w : World) (H : Hp) (a : Addr) (ns : List Int), ns.length ≤ n → Only H → SqL (K w.params) H a (ns.map V.int) → sp w [.ref a] H (fun v _ => v = .bl true) fun _ _ _ => False)
    (hCX : ∀ (w : World) (H : Hp) (s : Shared) (e : Value) (s' : Shared), CX w [] H s (fun _ _ _ => False) e s' → False) :
    PySem.W.WalkO q loose XP YP l.row.toRowW d [] (fun f vs => PySem.call f vs) := by
  refine Att.attach_call hn hdf fun w s₀ s₁ mg mb fa o pm cd doc a vs ns G Y ho hd hcd hmg hobj hints hlen hg => ?_
  have KX := hY w _ Y
  obtain ⟨fd, hb, hF⟩ := F w mg fa _ KX G.T.g hmg
  exact law_call KX G.T.g G.T.b G.T.builtins G.T.nolimit hg hobj hints (Nat.le_trans hlen hn2) hr hF hb (fun H hO hS => hsp w H a ns hlen hO hS) fun H e s' => hCX w H s₁ e s'
end L2

/- THE LAST THEOREM (shape; LID, My.* are yours):
   My.Adr: a structure of the addresses that your layer names (classes, functions); My.Txt K t: a structure (Prop) of the equations over K;
   My.txt_mk : {K} {implicit addresses ..} (e1 : nsIn K mainGlobals "law" = some (some (.ref f))) (e2 : K.lookup f = some ⟨oc, od, .func (fnOf "law" "law" params body scope dV kV doc pm an cdv ct), sl⟩) (e3 : codeIn K cdv "law" = true) .. : ∃ t, My.Txt K t

set_option maxRecDepth 100000 in
set_option maxHeartbeats 0 in
theorem PySem.Challenge.cw_LID_holds : PySem.Challenge.rw_LID.Holds := by
  w_on; o_law; k_head; (case hw => w_witness2)
  k_fill
  refine L2.walk_of (l := PySem.Challenge.rw_LID) (n := 63) (k := 40) (x := "script") (CX := fun w => ..) (sp := fun _ => My.sp_law) rfl (by decide) rfl ⟨rfl, by decide, by decide⟩ (fun w h Y => PySem.W.kIn_of Y) ?F ?S ?C
  case F =>
    intro w mg fa h KX G hmg
    have T : ∃ t, My.Txt (L2.KOf KX) t := by
      dsimp only [L2.KOf]                          -- K must stand as «<heap const> w.params» for k_is
      refine' My.txt_mk ?e1 ?e2 ?e3 ..
      (case e1 => PySem.W.k_is)                    -- in the order: a name -> its address -> its object -> its parts
      (case e2 => PySem.W.k_is)
      ..
    obtain ⟨t, T⟩ := T
    have e0 := hmg.symm.trans (PySem.W.mg_of KX G T.law)
    cases e0                                       -- fa is the law's own address
    exact ⟨_, fun s u => .of_eq rfl, fun base kb nb => My.law_fn T kb nb⟩     -- if «.of_eq rfl» comes too early: refine' ⟨_, ?b, fun base kb nb => My.law_fn T kb nb⟩; exact fun s u => .of_eq rfl
  case S => exact fun w H a ns hl hO hS => ..
  case C => exact ..
(the tactic k_is has no namespace: write k_is) -/

/-! SHORT WORDS over the layer: a def of the text, its body, what a loop and a test want. -/
namespace L2
open PySem PySem.Spec PyProof.Rows

/-! ### the text by places -/
def defArgs (s : Stmt) : Arguments := match s with
  | .FunctionDef _ a _ _ _ _ _ _ _ _ => a
  | _ => { posonlyargs := [], args := [], vararg := none, kwonlyargs := [], kw_defaults := [], kwarg := none, defaults := [] }
def defBody (s : Stmt) : List Stmt := match s with
  | .FunctionDef _ _ b _ _ _ _ _ _ _ => b
  | _ => []
def defScope (s : Stmt) : Scope := match s with
  | .FunctionDef _ _ _ _ _ _ sc _ _ _ => sc
  | _ => { kind := .function, names := [], isGenerator := false, isCoroutine := false }

/-! ### no exception leaves a def -/
abbrev CX0 : CXT := fun _ _ _ _ _ _ => False
abbrev E0 : XK := fun _ _ _ => False
theorem pass0 {X : Cx} : Passes CX0 X E0 := fun _ _ _ _ _ _ _ h => h.elim

/-! ### a def (or method) of the text as it stands behind the top -/
structure Fun (K : PySem.W.Frag) (x qual : Str) (st : Stmt) (f : Addr) (fd : FuncData) : Prop where
  ex : ∃ (oc : Value) (od : Option Addr) (kV doc pm : Value) (an : Option Addr) (cdv ct : Value) (osl : Array (Option Value)),
    fd = PySem.W.fnOf x qual (defArgs st) (defBody st) (defScope st) .none kV doc pm an cdv ct ∧ K.lookup f = some ⟨oc, od, .func fd, osl⟩ ∧ PySem.W.codeIn K cdv qual = true
  kp : PySem.W.keepIn K (.ref f) = true
section
variable {P : Program} {w : World} {K : PySem.W.Frag} {mg : Str → Option Value} {base : Heap}
/-- THE RULE for a def: its body as a term of rules, and the reading of that term -/
theorem Fun.ok {x qual : Str} {st : Stmt} {f : Addr} {fd : FuncData} {N ps : List Str} {k : Nat} {sp : Sp} (F : Fun K x qual st f fd) (S : FnScope N ps (defScope st)) (len : ∀ vs H Q E, sp vs H Q E → vs.length = ps.length)
    (hbody : ∀ (cdv : Value) (A : Around) (outer : List Env) (s : Shared) (H : Hp) (vs : List V) (Q : VK) (E : XK), Room k (A.deeper (envOfC qual (defScope st) s.heap.objs.size f cdv)) → sp vs H Q E →
      ∃ t, PSs (cxOf CX0 P w K mg base N qual (defScope st) f cdv A outer s H E).nox (defBody st) t ∧ t { nx := fun _ H' => Q .non H', rt := Q } (start N vs) H) : FnOk P w K mg base CX0 (k + 1) f fd ps sp := by
  obtain ⟨oc, od, kV, doc, pm, an, cdv, ct, osl, rfl, lk, hcd⟩ := F.ex
  refine fn_of lk hcd S len fun A outer s H vs Q E hr hsp => ?_
  obtain ⟨t, h, q⟩ := hbody cdv A outer s H vs Q E hr hsp
  exact ⟨t, h.nox, q⟩
/-- how its arguments bind (no defaults): h is «fun _ _ _ _ _ _ us hl => match us, hl with | [_, _], _ => rfl», one _ a parameter -/
theorem Fun.binds {x qual : Str} {st : Stmt} {f : Addr} {fd : FuncData} {ps : List Str} (F : Fun K x qual st f fd)
    (h : ∀ (kV doc pm : Value) (an : Option Addr) (cdv ct : Value) (us : List Value), us.length = ps.length → bindArgs (PySem.W.fnOf x qual (defArgs st) (defBody st) (defScope st) .none kV doc pm an cdv ct) ⟨us, []⟩ = pure (ps.zip us)) : Binds K fd ps [] := by
  obtain ⟨oc, od, kV, doc, pm, an, cdv, ct, osl, rfl, lk, hcd⟩ := F.ex
  exact .all (h kV doc pm an cdv ct)
theorem fun_mk {x qual : Str} {st : Stmt} {f : Addr} {oc : Value} {od an : Option Addr} {osl : Array (Option Value)} {kV doc pm cdv ct : Value} (l : K.lookup f = some ⟨oc, od, .func (PySem.W.fnOf x qual (defArgs st) (defBody st) (defScope st) .none kV doc pm an cdv ct), osl⟩)
    (c : PySem.W.codeIn K cdv qual = true) (k : PySem.W.keepIn K (.ref f) = true) : Fun K x qual st f (PySem.W.fnOf x qual (defArgs st) (defBody st) (defScope st) .none kV doc pm an cdv ct) := ⟨⟨oc, od, kV, doc, pm, an, cdv, ct, osl, rfl, l, c⟩, k⟩
end
/-! ### expressions in short: the name that stands in the i-th slot -/
section
variable {X : Cx}
theorem pv (i : Nat) {x : Str} {pos : Pos} (hN : X.N[i]? = some x := by rfl) (hv : Vis X.env.scope x := by first | exact Or.inl rfl | exact Or.inr (Or.inl rfl) | exact Or.inr (Or.inr rfl)) (hd : (x == ("__debug__" : Str)) = false := by decide)
    (hcd : (x == ("__classdict__" : Str)) = false := by decide) : PE X (.Name x pos) (tVar i) := pe_var hN hv hd hcd
end

/-! ### tests -/
theorem ite2 {c A B : Prop} [Decidable c] (h1 : c → A) (h2 : ¬ c → B) : if c then A else B := by
  by_cases h : c
  · rw [if_pos h]
    exact h1 h
  · rw [if_neg h]
    exact h2 h
/-! ### heaps -/
/-- all that was tracked is as it was -/
def Same (H H' : Hp) : Prop := ∀ b o, H b = some o → H' b = some o
theorem Same.refl (H : Hp) : Same H H := fun _ _ h => h
theorem Same.trans {H H1 H2 : Hp} (a : Same H H1) (b : Same H1 H2) : Same H H2 := fun c o h => b c o (a c o h)
theorem Same.free {H H' : Hp} (e : Same H H') {l : Addr} (h : H' l = Option.none) : H l = Option.none := by
  cases q : H l with
  | none => rfl
  | some o =>
    rw [e l o q] at h
    cases h
theorem Same.seq {K : PySem.W.Frag} {H H' : Hp} {a : Addr} {xs : List V} (e : Same H H') (h : SqL K H a xs) : SqL K H' a xs := by
  rcases h with (h | ⟨o, h⟩) | h
  · exact .inl (.inl (e _ _ h))
  · exact .inl (.inr ⟨o, e _ _ h⟩)
  · exact .inr h

end L2
set_option maxHeartbeats 4000000
/-! TEXTS over the hand layer: walks over the signs, slices, methods; one rule for each operation, told by the kinds of its values. -/
namespace L2
open PySem PySem.Spec PyProof.Rows

/-! ### walking a text -/
def Its (z : Str) : It := ⟨fun i _ => i < z.length, fun i H x H' => H' = H ∧ ∃ c, z.cps.toList[i]? = some c ∧ x = .str ⟨#[c]⟩, fun i _ => z.length ≤ i⟩
theorem sign_at {z : Str} {i : Nat} (h : i < z.length) : ∃ c, z.cps[i]? = some c ∧ z.cps.toList[i]? = some c := by
  have h' : i < z.cps.size := h
  exact ⟨z.cps[i], by simp [h'], by simp [h']⟩
theorem sign_not {z : Str} {i : Nat} (h : z.length ≤ i) : z.cps[i]? = none := by
  have h' : z.cps.size ≤ i := h
  simp [h']
theorem turn_strA {P : Program} {w : World} {K : PySem.W.Frag} {tg : Expr} (it : Addr) (z : Str) (t : Tok) : Turn P w K tg (Its z) [it] it (fun i h => h.IsStrIter it "str_ascii_iterator" z t i) where
  mem := by simp
  obj := fun i h st b hb => by
    have e : b = it := by simpa using hb
    subst e
    obtain ⟨o, e, c, d⟩ := st
    exact ⟨o, e, fun v z => by rw [d] at z; cases z⟩
  keep := fun i h h' st k => by
    obtain ⟨o, e, r⟩ := st
    exact ⟨o, k it (by simp) o e, r⟩
  item := by
    intro X hP hw hK hc i pins s σ H E I hf st hg
    subst hP hw hK
    obtain ⟨c, h1, h2⟩ := sign_at (z := z) (i := i) hg
    obtain ⟨f0, f1, f2, f3, f4, f5⟩ := hf it (by simp)
    refine wpAny_pyNext_ascii_item st h1 fun h' st' sb => ?_
    have I1 : Inv X pins σ H { s with heap := h', toks := s.toks + 1 } := I.turned (t' := s.toks + 1) (fun b o hb e => (sb.2 b hb).trans e) f0 f1 f3 f4 f5
    obtain ⟨o, e, cl, d⟩ := id st'
    exact ⟨_, rfl, go_of (s := { s with heap := h', toks := s.toks + 1 }) e cl d (by decide) ⟨.str ⟨#[c]⟩, H, I1, ⟨_, rfl⟩, ⟨rfl, c, h2, rfl⟩, st', fun b hb => (hf b hb).1⟩⟩
  done := by
    intro X hP hw hK hc i pins s σ H E I hf st hg
    subst hP hw hK
    obtain ⟨f0, f1, f2, f3, f4, f5⟩ := hf it (by simp)
    exact wpAny_pyNext_ascii_end (I.ok.hd hc) st (sign_not hg) fun h' eb => ⟨rfl, I.turned (t' := s.toks) (fun b o hb e => eb b o hb e) f0 f1 f3 f4 f5⟩
  self := fun _ _ _ _ _ st h => wpAny_pyIter_striter_ascii st h
theorem turn_strW {P : Program} {w : World} {K : PySem.W.Frag} {tg : Expr} (it : Addr) (z : Str) (t : Tok) : Turn P w K tg (Its z) [it] it (fun i h => h.IsStrIter it "str_iterator" z t i) where
  mem := by simp
  obj := fun i h st b hb => by
    have e : b = it := by simpa using hb
    subst e
    obtain ⟨o, e, c, d⟩ := st
    exact ⟨o, e, fun v z => by rw [d] at z; cases z⟩
  keep := fun i h h' st k => by
    obtain ⟨o, e, r⟩ := st
    exact ⟨o, k it (by simp) o e, r⟩
  item := by
    intro X hP hw hK hc i pins s σ H E I hf st hg
    subst hP hw hK
    obtain ⟨c, h1, h2⟩ := sign_at (z := z) (i := i) hg
    obtain ⟨f0, f1, f2, f3, f4, f5⟩ := hf it (by simp)
    refine wpAny_pyNext_wide_item st h1 fun h' st' sb => ?_
    have I1 : Inv X pins σ H { s with heap := h', toks := s.toks + 1 } := I.turned (t' := s.toks + 1) (fun b o hb e => (sb.2 b hb).trans e) f0 f1 f3 f4 f5
    obtain ⟨o, e, cl, d⟩ := id st'
    exact ⟨_, rfl, go_of (s := { s with heap := h', toks := s.toks + 1 }) e cl d (by decide) ⟨.str ⟨#[c]⟩, H, I1, ⟨_, rfl⟩, ⟨rfl, c, h2, rfl⟩, st', fun b hb => (hf b hb).1⟩⟩
  done := by
    intro X hP hw hK hc i pins s σ H E I hf st hg
    subst hP hw hK
    obtain ⟨f0, f1, f2, f3, f4, f5⟩ := hf it (by simp)
    exact wpAny_pyNext_wide_end (I.ok.hd hc) st (sign_not hg) fun h' eb => ⟨rfl, I.turned (t' := s.toks) (fun b o hb e => eb b o hb e) f0 f1 f3 f4 f5⟩
  self := fun _ _ _ _ _ st h => wpAny_pyIter_striter_wide st h
section
variable {X : Cx} {tg : Expr}
def iStr (tl : TE) : TI := fun σ H R => tl σ H fun x H1 => ∃ z, x = .str z ∧ R (Its z) H1
theorem pi_str {l : Expr} {tl : TE} (hl : PE X l tl) : PI X tg l (iStr tl) := by
  intro pins s σ H R I h
  refine thn (hl pins s σ H _ I h) fun v s1 ⟨x, H1, I1, r1, q1⟩ => ?_
  obtain ⟨z, rfl, q⟩ := q1
  obtain ⟨t, rfl⟩ := r1
  have fp : ∀ b ∈ [s1.heap.objs.size], FpOk X pins H1 b := fun b hb => by
    have e : b = s1.heap.objs.size := by simpa using hb
    subst e
    exact I1.fpOk (Nat.le_refl _) (I1.hok.fresh (Nat.le_refl _))
  cases ha : z.cps.all (· < 128)
  · refine wpAny_pyIter_wide ha ?_
    exact ⟨s1.heap.objs.size, [s1.heap.objs.size], _, _, H1, rfl, I1.kept (t' := s1.toks) fun b o e => Heap.get?_push_of_some _ e, turn_strW _ z t, ⟨_, Heap.get?_push_size _ rfl, rfl, rfl⟩, fp, q⟩
  · refine wpAny_pyIter_ascii ha ?_
    exact ⟨s1.heap.objs.size, [s1.heap.objs.size], _, _, H1, rfl, I1.kept (t' := s1.toks) fun b o e => Heap.get?_push_of_some _ e, turn_strA _ z t, ⟨_, Heap.get?_push_size _ rfl, rfl, rfl⟩, fp, q⟩
end
section
variable {X : Cx}
/-! ### slices of a text -/
def rSlS : V → Option Int → Option Int → Hp → VK → Prop := fun x lo hi H Q => ∃ z, x = .str z ∧ z.length ≤ sizeLine ∧ Q (.str (Txt.slice z lo hi)) H
theorem sl_str : SlR X rSlS := by
  intro pins s σ H x v vl vu lo hi sl Q I rx hs pl pu h
  obtain ⟨z, rfl, hz, q⟩ := h
  obtain ⟨t, rfl⟩ := rx
  refine ⟨"str", _, F.slot_str_getitem.lookup, typeIs_str _ _ _, ?_⟩
  obtain ⟨o, ho, hc, hd⟩ := hs
  cases pl with
  | none =>
    cases pu with
    | none => exact wpAny_getItem_str_slice (l := none) (u := none) (st := none) ⟨o, ho, hc, hd⟩ rfl (post_val_or_str ⟨Nat.le_trans (Txt.slice_le z none none) hz, fun t' k => ⟨.str (Txt.slice z none none), H, I.tok k, ⟨t', rfl⟩, q⟩⟩)
    | int j uj => exact wpAny_getItem_str_slice (l := none) (u := some (j, uj)) (st := none) ⟨o, ho, hc, hd⟩ rfl (post_val_or_str ⟨Nat.le_trans (Txt.slice_le z none (some j)) hz, fun t' k => ⟨.str (Txt.slice z none (some j)), H, I.tok k, ⟨t', rfl⟩, q⟩⟩)
  | int i ui =>
    cases pu with
    | none => exact wpAny_getItem_str_slice (l := some (i, ui)) (u := none) (st := none) ⟨o, ho, hc, hd⟩ rfl (post_val_or_str ⟨Nat.le_trans (Txt.slice_le z (some i) none) hz, fun t' k => ⟨.str (Txt.slice z (some i) none), H, I.tok k, ⟨t', rfl⟩, q⟩⟩)
    | int j uj => exact wpAny_getItem_str_slice (l := some (i, ui)) (u := some (j, uj)) (st := none) ⟨o, ho, hc, hd⟩ rfl (post_val_or_str ⟨Nat.le_trans (Txt.slice_le z (some i) (some j)) hz, fun t' k => ⟨.str (Txt.slice z (some i) (some j)), H, I.tok k, ⟨t', rfl⟩, q⟩⟩)
/-- of a list or a text -/
def rSl (K : PySem.W.Frag) : V → Option Int → Option Int → Hp → VK → Prop := fun x lo hi H Q => rSlL K x lo hi H Q ∨ rSlS x lo hi H Q
theorem sl_any : SlR X (rSl X.K) := sl_list.or sl_str

/-! ### methods of a text -/
def rIndex : V → List V → Hp → VK → Prop := fun x vs H Q => match x, vs with
  | .str z, [.str y] => ∃ i r, Builtin.Str.occurrences z y 0 z.length 1 = i :: r ∧ Q (.int (i : Nat)) H
  | _, _ => False
theorem ix_index {z y : Str} {H : Hp} {Q : VK} : rIndex (.str z) [.str y] H Q ↔ ∃ i r, Builtin.Str.occurrences z y 0 z.length 1 = i :: r ∧ Q (.int (i : Nat)) H := Iff.rfl
def rUpper : V → List V → Hp → VK → Prop := fun x vs H Q => match x, vs with
  | .str z, [] => (∀ c ∈ z.cps.toList, c < 128) ∧ z.length ≤ 1000000 ∧ Q (.str ⟨z.cps.map up1⟩) H
  | _, _ => False
theorem up_str {z : Str} {H : Hp} {Q : VK} : rUpper (.str z) [] H Q ↔ (∀ c ∈ z.cps.toList, c < 128) ∧ z.length ≤ 1000000 ∧ Q (.str ⟨z.cps.map up1⟩) H := Iff.rfl
def rLower : V → List V → Hp → VK → Prop := fun x vs H Q => match x, vs with
  | .str z, [] => (∀ c ∈ z.cps.toList, c < 128) ∧ z.length ≤ 1000000 ∧ Q (.str ⟨z.cps.map lo1⟩) H
  | _, _ => False
theorem lo_str {z : Str} {H : Hp} {Q : VK} : rLower (.str z) [] H Q ↔ (∀ c ∈ z.cps.toList, c < 128) ∧ z.length ≤ 1000000 ∧ Q (.str ⟨z.cps.map lo1⟩) H := Iff.rfl
def rAlnum : V → List V → Hp → VK → Prop := fun x vs H Q => match x, vs with
  | .str z, [] => Q (.bl (Txt.isalnum z)) H
  | _, _ => False
theorem an_str {z : Str} {H : Hp} {Q : VK} : rAlnum (.str z) [] H Q ↔ Q (.bl (Txt.isalnum z)) H := Iff.rfl
theorem strsAre_of {ys : List Str} : ∀ {us : List Value}, Vals (ys.map V.str) us → StrsAre us ys := by
  induction ys with
  | nil => intro us r; rw [List.map_nil] at r; cases r; exact .nil
  | cons y ys ih =>
    intro us r
    rw [List.map_cons] at r
    cases r with
    | cons r1 r2 =>
      obtain ⟨t, e⟩ := r1
      subst e
      exact .cons y t (ih r2)
/-- sep.join(list of texts) -/
def rJoin (K : PySem.W.Frag) : V → List V → Hp → VK → Prop := fun x vs H Q => ∃ z p ys, x = .str z ∧ vs = [.ref p] ∧ SqL K H p (ys.map V.str) ∧ (ys.map (·.length)).sum + ys.length * z.length ≤ 16777216 ∧ Q (.str (Txt.join z ys)) H
theorem mt_join : MtR X "str.join" (rJoin X.K) := by
  intro pins s σ H x vs v us Q I rx rv h
  obtain ⟨z, p, ys, rfl, rfl, hq, hz, q⟩ := h
  obtain ⟨t, rfl⟩ := rx
  obtain ⟨u, rfl, ru⟩ := vals1 rv
  cases ru
  obtain ⟨its, r, pl, hl⟩ := I.list hq
  exact join_list pl.isList (by simpa using strsAre_of r) hz fun t' k => ⟨.str (Txt.join z ys), H, I.tok k, ⟨t', rfl⟩, q⟩

/-! ### isinstance -/
def rIsi (K : PySem.W.Frag) : List V → Hp → VK → Prop := fun vs H Q => ∃ x T t b, vs = [x, .ty T] ∧ TyOf K H x t ∧ PySem.W.kitOne K t (.type T) = some b ∧ Q (.bl b) H
theorem call_isi : CallR X (.builtin "isinstance") (rIsi X.K) := by
  intro pins s σ H xs us Q I r h
  obtain ⟨x, T, t, b, rfl, ty, e, q⟩ := h
  obtain ⟨u, v, rfl, ru, rv⟩ := vals2 r
  cases (show v = Value.type T from rv)
  exact isinst_ok I ru ty e fun tk => ⟨.bl b, H, I.tok tk, rfl, q⟩

/-! ### one rule for + -/
/-- t + u: a tuple of both, a new one or one that is there -/
def rCatD : R2 := fun x y H Q => ∃ a b xs ys, x = .ref a ∧ y = .ref b ∧ H a = some (.tup xs) ∧ H b = some (.tup ys) ∧ xs.length + ys.length ≤ sizeLine ∧ ∀ p H', Same H H' → H' p = some (.tup (xs ++ ys)) → Q (.ref p) H'
theorem op_catD : OpR X (binaryOp .Add) rCatD := by
  intro pins s σ H x y v u Q I rx ry h
  obtain ⟨a, b, xs, ys, rfl, rfl, ha, hb, hz, q⟩ := h
  by_cases hx : xs = []
  · subst hx
    cases rx
    cases ry
    obtain ⟨its, r1, p1, _⟩ := I.tuple (SqT.of ha)
    obtain ⟨its2, r2, p2, _⟩ := I.tuple (SqT.of hb)
    cases r1
    obtain ⟨⟨cls, dd, data, sl⟩, ho, hc, n, hd⟩ := id p1
    obtain ⟨⟨cls2, dd2, data2, sl2⟩, ho2, hc2, n2, hd2⟩ := id p2
    simp only at hc hd hc2 hd2
    subst hc hd hc2 hd2
    exact concat_meets ⟨_, ho, rfl⟩ ⟨_, ho2, rfl⟩ noFill_tuple_add seq_tuple_add PySem.F.slot_tuple_add PySem.F.entry_tuple_add (PySem.F.args_tuple_add_2 _ _)
      (tuple_addW0 a b ([] : List Value).toArray its2.toArray n n2 dd dd2 sl sl2 rfl) ⟨ho, ho2, ⟨.ref b, H, I, rfl, q b H (Same.refl _) hb⟩⟩
  · refine op_catT pins s σ H _ _ v u Q I rx ry ⟨a, b, xs, ys, rfl, rfl, SqT.of ha, SqT.of hb, hx, hz, fun e => q a H (Same.refl _) (by rw [e, List.append_nil]; exact ha), fun _ p hp => q p _ (fun b o e => by rw [upd_ne (ne_of_none e hp)]; exact e) upd_same⟩
def rAddU (K : PySem.W.Frag) : R2 := fun x y H Q => match x, y with
  | .int i, .int j => Q (.int (i + j)) H
  | .str i, .str j => i.length + j.length ≤ sizeLine ∧ Q (.str (i ++ j)) H
  | .ref a, .ref b => (∃ xs zs, H a = some (.lst xs) ∧ H b = some (.lst zs) ∧ xs.length + zs.length ≤ sizeLine ∧ ∀ p, H p = none → Q (.ref p) (upd H p (.lst (xs ++ zs)))) ∨
      (∃ xs ys, H a = some (.tup xs) ∧ H b = some (.tup ys) ∧ xs.length + ys.length ≤ sizeLine ∧ ∀ p H', Same H H' → H' p = some (.tup (xs ++ ys)) → Q (.ref p) H')
  | _, _ => False
theorem op_addU : OpR X (binaryOp .Add) (rAddU X.K) := by
  intro pins s σ H x y v u Q I rx ry h
  cases x with
  | int i =>
    cases y with
    | int j => exact op_add pins s σ H _ _ v u Q I rx ry ⟨i, j, rfl, rfl, h⟩
    | _ => exact h.elim
  | str i =>
    cases y with
    | str j => exact op_add_str pins s σ H _ _ v u Q I rx ry ⟨i, j, rfl, rfl, h.1, h.2⟩
    | _ => exact h.elim
  | ref a =>
    cases y with
    | ref b =>
      rcases h with ⟨xs, zs, h1, h2, h3, h4⟩ | ⟨xs, ys, h1, h2, h3, h4⟩
      · exact op_cat pins s σ H _ _ v u Q I rx ry ⟨a, b, xs, zs, rfl, rfl, h1, h2, h3, h4⟩
      · exact op_catD pins s σ H _ _ v u Q I rx ry ⟨a, b, xs, ys, rfl, rfl, h1, h2, h3, h4⟩
    | _ => exact h.elim
  | _ => exact h.elim
theorem ad_int {K : PySem.W.Frag} {i j : Int} {H : Hp} {Q : VK} : rAddU K (.int i) (.int j) H Q ↔ Q (.int (i + j)) H := Iff.rfl
theorem ad_str {K : PySem.W.Frag} {i j : Str} {H : Hp} {Q : VK} : rAddU K (.str i) (.str j) H Q ↔ i.length + j.length ≤ sizeLine ∧ Q (.str (i ++ j)) H := Iff.rfl
end

/-! ### one rule for *, len, ord, int, in, isinstance -/
section
variable {X : Cx}
def rMulU : R2 := fun x y H Q => match x, y with
  | .int i, .int j => CMul i j ∧ Q (.int (i * j)) H
  | .str z, .int k => MulOk z k ∧ Q (.str (Txt.mul z k)) H
  | _, _ => False
theorem op_mulU : OpR X (binaryOp .Mult) rMulU := by
  intro pins s σ H x y v u Q I rx ry h
  cases x with
  | int i =>
    cases y with
    | int j => exact op_mul pins s σ H _ _ v u Q I rx ry ⟨i, j, rfl, rfl, h.1, h.2⟩
    | _ => exact h.elim
  | str z =>
    cases y with
    | int k =>
      obtain ⟨t, rfl⟩ := rx
      obtain ⟨t', rfl⟩ := ry
      exact SB.mul h.1 fun t' k' => ⟨.str (Txt.mul z k), H, I.tok k', ⟨t', rfl⟩, h.2⟩
    | _ => exact h.elim
  | _ => exact h.elim
theorem mu_int {i j : Int} {H : Hp} {Q : VK} : rMulU (.int i) (.int j) H Q ↔ CMul i j ∧ Q (.int (i * j)) H := Iff.rfl
theorem mu_str {z : Str} {k : Int} {H : Hp} {Q : VK} : rMulU (.str z) (.int k) H Q ↔ MulOk z k ∧ Q (.str (Txt.mul z k)) H := Iff.rfl

def rLenU (K : PySem.W.Frag) : List V → Hp → VK → Prop := fun xs H Q => match xs with
  | [.str z] => z.length ≤ sizeLine ∧ Q (.int z.length) H
  | [.ref p] => ∃ ys, (SqL K H p ys ∨ SqT K H p ys) ∧ Q (.int ys.length) H
  | _ => False
theorem call_lenU : CallR X (.builtin "len") (rLenU X.K) := by
  intro pins s σ H xs us Q I r h
  unfold rLenU at h
  split at h
  · exact call_len_str pins s σ H _ us Q I r ⟨_, rfl, h.1, h.2⟩
  · obtain ⟨ys, h1, h2⟩ := h
    exact call_len_seq pins s σ H _ us Q I r ⟨_, ys, rfl, h1, h2⟩
  · exact h.elim
theorem le_str {K : PySem.W.Frag} {z : Str} {H : Hp} {Q : VK} : rLenU K [.str z] H Q ↔ z.length ≤ sizeLine ∧ Q (.int z.length) H := Iff.rfl
theorem le_ref {K : PySem.W.Frag} {p : Addr} {H : Hp} {Q : VK} : rLenU K [.ref p] H Q ↔ ∃ ys, (SqL K H p ys ∨ SqT K H p ys) ∧ Q (.int ys.length) H := Iff.rfl

def rOrdU : List V → Hp → VK → Prop := fun xs H Q => match xs with
  | [.str z] => z.length = 1 ∧ Q (.int (z.cps.getD 0 0 : Nat)) H
  | _ => False
theorem or_one {c : Nat} {H : Hp} {Q : VK} : rOrdU [.str ⟨#[c]⟩] H Q ↔ Q (.int (c : Nat)) H := ⟨fun h => h.2, fun h => ⟨rfl, h⟩⟩
theorem bt_int : bootBuiltins "int" = some (.type "int") := by decide +kernel
theorem bt_bool : bootBuiltins "bool" = some (.type "bool") := by decide +kernel
theorem bt_tuple : bootBuiltins "tuple" = some (.type "tuple") := by decide +kernel
theorem bt_list : bootBuiltins "list" = some (.type "list") := by decide +kernel
theorem boot_isinstance : bootBuiltins "isinstance" = some (.builtin "isinstance") := by decide +kernel

def rIntU : List V → Hp → VK → Prop := fun xs H Q => match xs with
  | [.int i] => Q (.int i) H
  | [.bl k] => Q (.int (if k then 1 else 0)) H
  | _ => False
theorem call_intU : CallR X (.type "int") rIntU := by
  intro pins s σ H xs us Q I r h
  unfold rIntU at h
  split at h
  · exact call_int1 pins s σ H _ us Q I r (.inl ⟨_, rfl, h⟩)
  · exact call_int1 pins s σ H _ us Q I r (.inr ⟨_, rfl, h⟩)
  · exact h.elim
theorem in_bl {k : Bool} {H : Hp} {Q : VK} : rIntU [.bl k] H Q ↔ Q (.int (if k then 1 else 0)) H := Iff.rfl

def rInU : R2 := fun x y H Q => match x, y with
  | .str i, .str j => Q (.bl (!(Builtin.Str.occurrences j i 0 j.length 1).isEmpty)) H
  | _, _ => False
theorem op_inU : OpR X (compareOp .In) rInU := by
  intro pins s σ H x y v u Q I rx ry h
  cases x with
  | str i =>
    cases y with
    | str j => exact op_in_str pins s σ H _ _ v u Q I rx ry ⟨i, j, rfl, rfl, h⟩
    | _ => exact h.elim
  | _ => exact h.elim
def rNotInU : R2 := fun x y H Q => match x, y with
  | .str i, .str j => Q (.bl (!(!(Builtin.Str.occurrences j i 0 j.length 1).isEmpty))) H
  | _, _ => False
theorem op_notinU : OpR X (compareOp .NotIn) rNotInU := by
  intro pins s σ H x y v u Q I rx ry h
  cases x with
  | str i =>
    cases y with
    | str j => exact op_notin_str pins s σ H _ _ v u Q I rx ry ⟨i, j, rfl, rfl, h⟩
    | _ => exact h.elim
  | _ => exact h.elim
theorem in_one {c : Nat} {j : Str} {H : Hp} {Q : VK} : rInU (.str ⟨#[c]⟩) (.str j) H Q ↔ Q (.bl (decide (c ∈ j.cps.toList))) H := by
  show Q (.bl (!(Builtin.Str.occurrences j ⟨#[c]⟩ 0 j.length 1).isEmpty)) H ↔ _
  rw [StrLaws.found_one]
theorem notin_one {c : Nat} {j : Str} {H : Hp} {Q : VK} : rNotInU (.str ⟨#[c]⟩) (.str j) H Q ↔ Q (.bl (!decide (c ∈ j.cps.toList))) H := by
  show Q (.bl (!(!(Builtin.Str.occurrences j ⟨#[c]⟩ 0 j.length 1).isEmpty))) H ↔ _
  rw [StrLaws.found_one]

def rIsN (neg : Bool) : R2 := fun x y H Q => y = .non ∧ Q (.bl (if neg then !decide (x = .non) else decide (x = .non))) H
theorem op_isNU : OpR X (compareOp .Is) (rIsN false) := fun pins s σ H x y v u Q I rx ry h => op_isN pins s σ H x y v u Q I rx ry h
theorem isN_f {x : V} {H : Hp} {Q : VK} : rIsN false x .non H Q ↔ Q (.bl (decide (x = .non))) H := ⟨fun h => h.2, fun h => ⟨rfl, h⟩⟩
theorem isN_t {x : V} {H : Hp} {Q : VK} : rIsN true x .non H Q ↔ Q (.bl (!decide (x = .non))) H := ⟨fun h => h.2, fun h => ⟨rfl, h⟩⟩

/-- the kind of a value -/
def kindV (x : V) (H : Hp) : Option String := match x with
  | .non => some "NoneType"
  | .bl _ => some "bool"
  | .int _ => some "int"
  | .str _ => some "str"
  | .ref a => match H a with
    | some (.lst _) => some "list"
    | some (.tup _) => some "tuple"
    | _ => none
  | _ => none
def subT (a b : String) : Bool := a == b || (a == "bool" && b == "int")
theorem kit_tab (K : PySem.W.Frag) : ∀ a ∈ ["NoneType", "bool", "int", "str", "list", "tuple"], ∀ b ∈ ["bool", "int", "str", "list", "tuple"], PySem.W.kitOne K (.type a) (.type b) = some (subT a b) := by
  intro a ha b hb
  simp only [List.mem_cons, List.not_mem_nil, or_false] at ha hb
  rcases ha with rfl | rfl | rfl | rfl | rfl | rfl <;> rcases hb with rfl | rfl | rfl | rfl | rfl <;> with_unfolding_all kernel_rfl
def rIsiU : List V → Hp → VK → Prop := fun vs H Q => match vs with
  | [x, .ty T] => ∃ k, kindV x H = some k ∧ T ∈ ["bool", "int", "str", "list", "tuple"] ∧ Q (.bl (subT k T)) H
  | _ => False
theorem call_isiU : CallR X (.builtin "isinstance") rIsiU := by
  intro pins s σ H xs us Q I r h
  unfold rIsiU at h
  split at h
  · rename_i x T
    obtain ⟨k, hk, hT, q⟩ := h
    have key : TyOf X.K H x (.type k) ∧ k ∈ ["NoneType", "bool", "int", "str", "list", "tuple"] := by
      unfold kindV at hk
      split at hk
      · cases hk; exact ⟨.non, by decide⟩
      · cases hk; exact ⟨.bl _, by decide⟩
      · cases hk; exact ⟨.int _, by decide⟩
      · cases hk; exact ⟨.str _, by decide⟩
      · split at hk
        · rename_i e; cases hk; exact ⟨.lst e, by decide⟩
        · rename_i e; cases hk; exact ⟨.tup e, by decide⟩
        · cases hk
      · cases hk
    exact call_isi pins s σ H _ us Q I r ⟨x, T, .type k, subT k T, rfl, key.1, kit_tab X.K k key.2 T hT, q⟩
  · exact h.elim
end

/-! ### the readings, in full -/
section
variable {σ : St} {H : Hp} {Q : VK} {D : Ends} {K : PySem.W.Frag} {ta tb te : TE} {tt tu : TT} {t u : TS} {aa ab : TA} {v x y : V} {r r' : R2}
theorem rd_var {i : Nat} : tVar i σ H Q ↔ ∃ v, σ[i]? = some (some v) ∧ Q v H := Iff.rfl
theorem rd_C : tC v σ H Q ↔ Q v H := Iff.rfl
theorem rd_seq : tSeq t u D σ H ↔ t { D with nx := u D } σ H := Iff.rfl
theorem rd_asg {g : TG} : tAsg te g D σ H ↔ te σ H fun x H1 => g x σ H1 D.nx := Iff.rfl
theorem rd_name {i : Nat} {R : St → Hp → Prop} : gName i v σ H R ↔ R (σ.set i (some v)) H := Iff.rfl
theorem rd_ifS : tIfS tt t u D σ H ↔ tt σ H fun b H1 => if b = true then t D σ H1 else u D σ H1 := Iff.rfl
theorem rd_next : tNext D σ H ↔ D.nx σ H := Iff.rfl
theorem rd_brk : tBreak D σ H ↔ D.bk σ H := Iff.rfl
theorem rd_ret : tRet te D σ H ↔ te σ H D.rt := Iff.rfl
theorem rd_drop : tDrop te D σ H ↔ te σ H fun _ H1 => D.nx σ H1 := Iff.rfl
theorem rd_op : tOp r ta tb σ H Q ↔ ta σ H fun x H1 => tb σ H1 fun y H2 => r x y H2 Q := Iff.rfl
theorem rd_test {R : Bool → Hp → Prop} : tTest te σ H R ↔ te σ H fun x H' => ∃ k, x = .bl k ∧ R k H' := Iff.rfl
theorem rd_B {R : Bool → Hp → Prop} : tB te σ H R ↔ te σ H fun x H' => ∃ k, x = .bl k ∧ R k H' := Iff.rfl
theorem rd_and {R : Bool → Hp → Prop} : tAnd tt tu σ H R ↔ tt σ H fun c H1 => if c = true then tu σ H1 R else R false H1 := Iff.rfl
theorem rd_or {R : Bool → Hp → Prop} : tOr tt tu σ H R ↔ tt σ H fun c H1 => if c = true then R true H1 else tu σ H1 R := Iff.rfl
theorem rd_not {R : Bool → Hp → Prop} : tNot tt σ H R ↔ tt σ H fun c H1 => R (!c) H1 := Iff.rfl
theorem rd_andV : tAndV ta tb σ H Q ↔ ta σ H fun x H1 => ∃ c, x = .bl c ∧ if c = true then tb σ H1 Q else Q (.bl false) H1 := Iff.rfl
theorem rd_orV : tOrV ta tb σ H Q ↔ ta σ H fun x H1 => ∃ c, x = .bl c ∧ if c = true then Q (.bl true) H1 else tb σ H1 Q := Iff.rfl
theorem rd_notV : tNotV ta σ H Q ↔ ta σ H fun x H1 => ∃ c, x = .bl c ∧ Q (.bl (!c)) H1 := Iff.rfl
theorem rd_if : tIf tt ta tb σ H Q ↔ tt σ H fun c H1 => if c = true then ta σ H1 Q else tb σ H1 Q := Iff.rfl
theorem rd_chain {tc : TE} : tChain r r' ta tb tc σ H Q ↔ ta σ H fun x H1 => tb σ H1 fun y H2 => r x y H2 fun z H3 => ∃ k, z = .bl k ∧ (if k = true then tc σ H3 fun w' H4 => r' y w' H4 Q else Q (.bl false) H3) := Iff.rfl
theorem rd_nil {R : List V → Hp → Prop} : tNil σ H R ↔ R [] H := Iff.rfl
theorem rd_cons {R : List V → Hp → Prop} : tCons te aa σ H R ↔ te σ H fun x H1 => aa σ H1 fun xs H2 => R (x :: xs) H2 := Iff.rfl
theorem rd_lst : tLst aa σ H Q ↔ aa σ H fun xs H1 => xs.length ≤ sizeLine ∧ ∀ p, H1 p = none → Q (.ref p) (upd H1 p (.lst xs)) := Iff.rfl
theorem rd_tup : tTup aa σ H Q ↔ aa σ H fun xs H1 => xs.length ≤ sizeLine ∧ ∀ p, H1 p = none → Q (.ref p) (upd H1 p (.tup xs)) := Iff.rfl
theorem rd_call {sp : Sp} {dvs : List V} {E : XK} : tCall sp dvs E aa σ H Q ↔ aa σ H fun vs H1 => sp (vs ++ dvs) H1 Q E := Iff.rfl
theorem rd_cb {c : List V → Hp → VK → Prop} : tCB c aa σ H Q ↔ aa σ H fun vs H1 => c vs H1 Q := Iff.rfl
theorem rd_bm {T : String} {m : V → List V → Hp → VK → Prop} : tBM K T m te aa σ H Q ↔ te σ H fun x H1 => tyV K T x H1 ∧ aa σ H1 fun xs H2 => m x xs H2 Q := Iff.rfl
theorem rd_bm0 {T : String} {m : V → List V → Hp → VK → Prop} : tBM0 K T m te σ H Q ↔ te σ H fun x H1 => tyV K T x H1 ∧ m x [] H1 Q := Iff.rfl
theorem rd_sl {m : V → Option Int → Option Int → Hp → VK → Prop} {tl th : TO} : tSl m te tl th σ H Q ↔ te σ H fun x H1 => tl σ H1 fun l H2 => th σ H2 fun u H3 => m x l u H3 Q := Iff.rfl
theorem rd_noPart {R : Option Int → Hp → Prop} : tNoPart σ H R ↔ R none H := Iff.rfl
theorem rd_part {R : Option Int → Hp → Prop} : tPart te σ H R ↔ te σ H fun x H1 => ∃ i, x = .int i ∧ R (some i) H1 := Iff.rfl
theorem rd_tyStr {z : Str} : tyV K "str" (.str z) H ↔ True := ⟨fun _ => trivial, fun _ => rfl⟩
theorem rd_I {C : Int → Int → Prop} {g : Int → Int → V} {i j : Int} : rI C g (.int i) (.int j) H Q ↔ C i j ∧ Q (g i j) H :=
  ⟨fun ⟨_, _, h1, h2, h3⟩ => by cases h1; cases h2; exact h3, fun h => ⟨i, j, rfl, rfl, h⟩⟩
theorem rd_I0 {g : Int → Int → V} {i j : Int} : rI0 g (.int i) (.int j) H Q ↔ Q (g i j) H :=
  ⟨fun ⟨_, _, h1, h2, h3⟩ => by cases h1; cases h2; exact h3, fun h => ⟨i, j, rfl, rfl, h⟩⟩
theorem rd_eqII {i j : Int} : rEq (.int i) (.int j) H Q ↔ Q (.bl (decide (i = j))) H := by
  unfold rEq scal; simp only [true_and, V.int.injEq]
theorem rd_eqSS {i j : Str} : rEq (.str i) (.str j) H Q ↔ Q (.bl (decide (i = j))) H := by
  unfold rEq scal; simp only [true_and, V.str.injEq]
theorem rd_eqBB {i j : Bool} : rEq (.bl i) (.bl j) H Q ↔ Q (.bl (decide (i = j))) H := by
  unfold rEq scal; simp only [true_and, V.bl.injEq]
theorem rd_neII {i j : Int} : rNe (.int i) (.int j) H Q ↔ Q (.bl (!decide (i = j))) H := by
  unfold rNe scal; simp only [true_and, V.int.injEq]
theorem rd_neSS {i j : Str} : rNe (.str i) (.str j) H Q ↔ Q (.bl (!decide (i = j))) H := by
  unfold rNe scal; simp only [true_and, V.str.injEq]
theorem rd_neBB {i j : Bool} : rNe (.bl i) (.bl j) H Q ↔ Q (.bl (!decide (i = j))) H := by
  unfold rNe scal; simp only [true_and, V.bl.injEq]
theorem rd_neNN : rNe .non .non H Q ↔ Q (.bl false) H := ⟨fun h => h.2, fun h => ⟨rfl, h⟩⟩
theorem rd_neSN {i : Str} : rNe (.str i) .non H Q ↔ Q (.bl true) H := ⟨fun h => h.2, fun h => ⟨rfl, h⟩⟩
theorem rd_neNSx {i : Str} : rNe .non (.str i) H Q ↔ Q (.bl true) H := ⟨fun h => h.2, fun h => ⟨rfl, h⟩⟩
theorem rd_eqNN : rEq .non .non H Q ↔ Q (.bl true) H := ⟨fun h => h.2, fun h => ⟨rfl, h⟩⟩
theorem rd_eqSN {i : Str} : rEq (.str i) .non H Q ↔ Q (.bl false) H := ⟨fun h => h.2, fun h => ⟨rfl, h⟩⟩
theorem rd_eqNSx {i : Str} : rEq .non (.str i) H Q ↔ Q (.bl false) H := ⟨fun h => h.2, fun h => ⟨rfl, h⟩⟩
theorem rd_ixS {z : Str} {i : Int} : rIx K (.str z) (.int i) H Q ↔ ∃ c, z.length ≤ sizeLine ∧ atI z.cps.toList i = some c ∧ Q (.str ⟨#[c]⟩) H := by
  constructor
  · rintro (⟨p, xs, j, v, h, _⟩ | ⟨p, xs, j, v, h, _⟩ | ⟨z', j, c, h1, h2, h3, h4, h5⟩)
    · cases h
    · cases h
    · cases h1; cases h2; exact ⟨c, h3, h4, h5⟩
  · rintro ⟨c, h3, h4, h5⟩
    exact .inr (.inr ⟨z, i, c, rfl, rfl, h3, h4, h5⟩)
theorem rd_slS {z : Str} {lo hi : Option Int} : rSl K (.str z) lo hi H Q ↔ z.length ≤ sizeLine ∧ Q (.str (Txt.slice z lo hi)) H := by
  constructor
  · rintro (⟨a, xs, h, _⟩ | ⟨z', h1, h2, h3⟩)
    · cases h
    · cases h1; exact ⟨h2, h3⟩
  · rintro ⟨h2, h3⟩
    exact .inr ⟨z, rfl, h2, h3⟩
end
section
variable {σ : St} {H : Hp} {Q : VK} {K : PySem.W.Frag}
theorem rd_slL {a : Addr} {lo hi : Option Int} : rSl K (.ref a) lo hi H Q ↔ ∃ xs, SqL K H a xs ∧ ∀ p, H p = none → Q (.ref p) (upd H p (.lst (cutV xs lo hi))) := by
  constructor
  · rintro (⟨a', xs, h, h2⟩ | ⟨z', h1, _⟩)
    · cases h; exact ⟨xs, h2⟩
    · cases h1
  · rintro ⟨xs, h2⟩
    exact .inl ⟨a, xs, rfl, h2⟩
theorem rd_ixR {p : Addr} {i : Int} : rIx K (.ref p) (.int i) H Q ↔ ∃ xs v, (SqL K H p xs ∨ SqT K H p xs) ∧ atI xs i = some v ∧ Q v H := by
  constructor
  · rintro (⟨p', xs, j, v, h, h2, h3, h4⟩ | ⟨p', xs, j, v, h, h2, h3, h4⟩ | ⟨z', j, c, h1, _⟩)
    · cases h; cases h2; exact ⟨xs, v, .inl h3, h4⟩
    · cases h; cases h2; exact ⟨xs, v, .inr h3, h4⟩
    · cases h1
  · rintro ⟨xs, v, h | h, h2⟩
    · exact .inl ⟨p, xs, i, v, rfl, rfl, h, h2⟩
    · exact .inr (.inl ⟨p, xs, i, v, rfl, rfl, h, h2⟩)
theorem ad_ref {a b : Addr} : rAddU K (.ref a) (.ref b) H Q ↔ (∃ xs zs, H a = some (.lst xs) ∧ H b = some (.lst zs) ∧ xs.length + zs.length ≤ sizeLine ∧ ∀ p, H p = none → Q (.ref p) (upd H p (.lst (xs ++ zs)))) ∨
      (∃ xs ys, H a = some (.tup xs) ∧ H b = some (.tup ys) ∧ xs.length + ys.length ≤ sizeLine ∧ ∀ p H', Same H H' → H' p = some (.tup (xs ++ ys)) → Q (.ref p) H') := Iff.rfl
theorem cx_K {CX : CXT} {P : Program} {w : World} {mg : Str → Option Value} {base : Heap} {N : List Str} {qual : Str} {scope : Scope} {f : Addr} {cd : Value} {A : Around} {outer : List Env} {s : Shared} {E : XK} :
    (cxOf CX P w K mg base N qual scope f cd A outer s H E).K = K := rfl
end
/-! ### loops as one word -/
def LoopI (J : It) (g : TG) (tb : TS) (D : Ends) (σ : St) (H : Hp) : Prop := ∃ W : Nat → Nat → St → Hp → Prop, (∃ m, W 0 m σ H) ∧ ∀ i m σ H, W i m σ H →
  (J.stop i H ∧ D.nx σ H) ∨ (J.go i H ∧ ∃ N : St → Hp → Prop, (∀ σ' H', N σ' H' → ∃ m', m' < m ∧ W (i + 1) m' σ' H') ∧ ∀ x H', J.yld i H x H' → g x σ H' fun σ2 H2 => tb { D with nx := N, ct := N, bk := D.nx } σ2 H2)
section
variable {σ : St} {H : Hp} {D : Ends} {K : PySem.W.Frag} {te : TE} {g : TG} {tb : TS} {aa : TA}
theorem rd_forS : tFor (iStr te) g tb D σ H ↔ te σ H fun x H1 => ∃ z, x = .str z ∧ LoopI (Its z) g tb D σ H1 := Iff.rfl
theorem rd_forL : tFor (iList K te) g tb D σ H ↔ te σ H fun x H1 => ∃ a, x = .ref a ∧ (∃ xs, SqL K H1 a xs) ∧ LoopI (Itl K a) g tb D σ H1 := Iff.rfl
theorem rd_forR : tFor (iRng1 aa) g tb D σ H ↔ aa σ H fun vs H1 => ∃ j : Int, vs = [.int j] ∧ -(2 ^ 62) ≤ j ∧ j < 2 ^ 62 ∧ LoopI (Itr 0 j.toNat) g tb D σ H1 := Iff.rfl
theorem loop_list {a : Addr} {xs : List V} (Pv : Nat → St → Hp → Prop) (h0 : Pv 0 σ H) (hl : ∀ i σ H, i ≤ xs.length → Pv i σ H → SqL K H a xs)
    (hs : ∀ i x σ H, xs[i]? = some x → Pv i σ H → g x σ H fun σ2 H2 => tb { D with nx := Pv (i + 1), ct := Pv (i + 1), bk := D.nx } σ2 H2) (hd : ∀ σ H, Pv xs.length σ H → D.nx σ H) : LoopI (Itl K a) g tb D σ H := for_list Pv h0 hl hs hd
theorem loop_range {lo : Int} {n : Nat} (Pv : Nat → St → Hp → Prop) (h0 : Pv 0 σ H)
    (hs : ∀ i σ H, i < n → Pv i σ H → g (.int (lo + i)) σ H fun σ2 H2 => tb { D with nx := Pv (i + 1), ct := Pv (i + 1), bk := D.nx } σ2 H2) (hd : ∀ σ H, Pv n σ H → D.nx σ H) : LoopI (Itr lo n) g tb D σ H := for_range Pv h0 hs hd
end
end L2
/-! COMPREHENSIONS of one for over the hand layer: the block has a context of its own, its free names are cells of the def around it. -/
namespace L2
open PySem PySem.Spec PyProof.Rows

section
variable {prog : Program} {w : World} {A : Around} {R : Result → Shared → Prop} {s : Shared}
theorem compLoop_any {elt target iter : Expr} {ifs : List Expr} {scope : Scope} {pos : Pos} {it acc : Value} {env : Env} (I : Nat → Shared → Prop)
    (turn : ∀ n s, I n s → wpAny (model prog w) A (pyNext it) (fun r s₁ => match r with
      | none => R (.ok .next) s₁
      | some v => wpAny (model prog w) A (letOwnedTupleGo target it v) (fun _ s₁' => wpAny (model prog w) A (assign target env v) (fun _ s₂ =>
          wpAny (model prog w) A (forIn ifs true fun c r => if r = true then do let ok ← isTrue c env (eval c env); pure (ForInStep.yield ok) else pure (ForInStep.yield r)) (fun ok s₃ =>
            if ok = true then wpAny (model prog w) A (eval elt env) (fun x s₄ =>
              wpAny (model prog w) A (call (.builtin "list.append") [acc, x]) (fun _ s₅ => ∃ m, m < n ∧ I m s₅) (fun _ _ => False) s₄) (fun _ _ => False) s₃
            else ∃ m, m < n ∧ I m s₃) (fun _ _ => False) s₂) (fun _ _ => False) s₁') (fun _ _ => False) s₁) (fun _ _ => False) s)
    (n : Nat) (h : I n s) : codeAny (model prog w) A (.compLoop (.ListComp elt [⟨target, iter, ifs, 0⟩] scope pos) 0 it acc env) R s := by
  refine codeAny_loop rfl I (fun n s hI => ?_) n h
  show wpAny _ A ((compTurn (.ListComp elt [⟨target, iter, ifs, 0⟩] scope pos) 0 it acc env).onRaise (fun x => do noteFrame x env; theTreesLotGoes x)) _ _ s
  refine wpAny_noted ?_
  rw [compTurn_list]
  refine wpAny_bind (wpAny_standAt (wpAny_bind (wpAny_mono (turn n s hI) (fun r s₁ h₁ => ?_) fun _ _ h' => h'.elim)))
  cases r with
  | none => exact wpAny_pure h₁
  | some v =>
    refine wpAny_bind (wpAny_mono h₁ (fun _ s₁' h₁' => wpAny_bind (wpAny_mono h₁' (fun _ s₂ h₂ => wpAny_bind (wpAny_mono h₂ (fun ok s₃ h₃ => ?_) fun _ _ h' => h'.elim)) fun _ _ h' => h'.elim)) fun _ _ h' => h'.elim)
    cases ok with
    | false => exact wpAny_pure ⟨rfl, h₃⟩
    | true =>
      exact wpAny_bind (wpAny_bind (wpAny_mono h₃ (fun x s₄ h₄ => wpAny_bind (wpAny_mono h₄ (fun _ s₅ h₅ => wpAny_pure (wpAny_pure ⟨rfl, h₅⟩)) fun _ _ h' => h'.elim)) fun _ _ h' => h'.elim))
end

/-- the context of the block -/
def compCx (X : Cx) (N' : List Str) (scope : Scope) (cl : List (Str × Addr)) (s : Shared) (H : Hp) (fp : List Addr) : Cx :=
  { X with N := N', s₀ := s, H₀ := H, env := compEnvC scope cl s.heap.objs.size X.env, outer := X.stack, stack := X.stack, ex := fp, fn := fun _ => false, pn := [], xe := fun _ _ => False }
/-- the free names of the block: where they stand in the def around it -/
inductive Frees (X : Cx) (rs : Scope) (cl : List (Str × Addr)) : List Str → List Nat → Prop where
  | nil : Frees X rs cl [] []
  | cons {y : Str} {i : Nat} {fx : List Str} {fr : List Nat} (h1 : X.N[i]? = some y) (h2 : X.env.kindOf y = some .cell) (h3 : rs.names.lookup y = some .cell) (h4 : cl.lookup y = X.env.cells.lookup y) (r : Frees X rs cl fx fr) : Frees X rs cl (y :: fx) (i :: fr)
def frV (σ : St) (fr : List Nat) : St := fr.map fun i => (σ[i]?).getD none
theorem Frees.len {X : Cx} {rs : Scope} {cl : List (Str × Addr)} {fx : List Str} {fr : List Nat} (F : Frees X rs cl fx fr) : fr.length = fx.length := by
  induction F with
  | nil => rfl
  | cons _ _ _ _ _ ih => simp [ih]
theorem Frees.at {X : Cx} {rs : Scope} {cl : List (Str × Addr)} {σ : St} : ∀ {fx : List Str} {fr : List Nat}, Frees X rs cl fx fr → ∀ (j : Nat) (y : Str) (v : V), fx[j]? = some y → (frV σ fr)[j]? = some (some v) →
    ∃ i : Nat, X.N[i]? = some y ∧ σ[i]? = some (some v) ∧ X.env.kindOf y = some .cell ∧ rs.names.lookup y = some .cell ∧ cl.lookup y = X.env.cells.lookup y
  | _, _, .nil, j, y, v, h, _ => by simp at h
  | _, _, .cons (y := z) (i := i) h1 h2 h3 h4 r, 0, y, v, h, hv => by
    simp only [List.getElem?_cons_zero, Option.some.injEq] at h
    subst h
    simp only [frV, List.map_cons, List.getElem?_cons_zero, Option.some.injEq] at hv
    refine ⟨i, h1, ?_, h2, h3, h4⟩
    cases e : σ[i]? with
    | none => rw [e] at hv; cases hv
    | some o => rw [e] at hv; exact congrArg some hv
  | _, _, .cons h1 h2 h3 h4 r, j + 1, y, v, h, hv => by
    simp only [List.getElem?_cons_succ] at h
    simp only [frV, List.map_cons, List.getElem?_cons_succ] at hv
    exact r.at j y v h hv
theorem Frees.mem {X : Cx} {rs : Scope} {cl : List (Str × Addr)} : ∀ {fx : List Str} {fr : List Nat}, Frees X rs cl fx fr → ∀ y ∈ fx, X.env.kindOf y = some .cell ∧ cl.lookup y = X.env.cells.lookup y
  | _, _, .nil, y, h => by simp at h
  | _, _, .cons h1 h2 h3 h4 r, y, h => by
    rcases List.mem_cons.mp h with rfl | h
    · exact ⟨h2, h4⟩
    · exact r.mem y h

section
variable {X : Cx} {pins : List (Addr × Obj)} {σ : St} {H1 : Hp} {s3 : Shared} {x : Str} {fx : List Str} {fr : List Nat} {scope : Scope} {cl : List (Str × Addr)} {fp : List Addr}
theorem comp_ok (I : Inv X pins σ H1 s3) (hkind : scope.kind = .function) (hcl : ∀ y c, cl.lookup y = some c → X.env.cells.lookup y = some c)
    (F : Frees X (relabel scope X.env) cl fx fr) (hfx : ((relabel scope X.env).names.all fun p => if (p.2 == .cell || p.2 == .free) then fx.contains p.1 else true) = true)
    (ffp : ∀ b ∈ fp, FpOk X pins H1 b) (flt : ∀ b ∈ fp, b < s3.heap.objs.size) : (compCx X (x :: fx) scope cl s3 H1 fp).Ok where
  mod := I.ok.mod
  kind := hkind
  glob := I.ok.glob
  blt := I.ok.blt
  above := Nat.le_refl _
  inj := fun y z c h1 h2 => I.ok.inj y z c (hcl y c h1) (hcl z c h2)
  has := fun y h => by
    have h : (relabel scope X.env).names.lookup y = some .cell ∨ (relabel scope X.env).names.lookup y = some .free := h
    have key : y ∈ fx := by
      rcases h with h | h
      · have q := List.all_eq_true.mp hfx _ (PySem.mem_of_lookup h)
        simpa using q
      · have q := List.all_eq_true.mp hfx _ (PySem.mem_of_lookup h)
        simpa using q
    obtain ⟨k1, k2⟩ := F.mem y key
    obtain ⟨c, e⟩ := I.ok.has y (.inl k1)
    exact ⟨c, k2.trans e⟩
  cab := fun y c h => by cases (show false = true from h)
  hd := I.ok.hd
  frames := I.ok.frames
  stk := .inl rfl
  exf := fun b hb => ⟨Nat.ne_of_lt (flt b hb), fun y c e => (ffp b hb).2.2.2.2.1 y c (hcl y c e)⟩
  bs := I.bs
  bsz := Nat.le_trans I.ok.bsz I.sz
  noex := fun b o e hb => by
    rcases (ffp b hb).2.2.2.1 with z | z
    · exact I.ok.noex b o e z
    · exact absurd (Nat.lt_of_lt_of_le (Heap.lt_size (I.ok.bs b o e).1) z) (Nat.lt_irrefl _)
  exfs := fun b hb z => by
    rcases List.mem_cons.mp (I.stkSub b z) with q | q
    · exact (ffp b hb).2.1 q
    · exact (ffp b hb).2.2.1 q
  funs := I.stack
  frf := I.stkFree
theorem comp_start (I : Inv X pins σ H1 s3) (hkind : scope.kind = .function) (hcl : ∀ y c, cl.lookup y = some c → X.env.cells.lookup y = some c)
    (F : Frees X (relabel scope X.env) cl fx fr) (hfx : ((relabel scope X.env).names.all fun p => if (p.2 == .cell || p.2 == .free) then fx.contains p.1 else true) = true)
    (ffp : ∀ b ∈ fp, FpOk X pins H1 b) (flt : ∀ b ∈ fp, b < s3.heap.objs.size) {h1 : Heap} {t : Nat} {m : Str → Option Value} (hn : h1.Ns s3.heap.objs.size m)
    (keep : ∀ b u, s3.heap.get? b = some u → h1.get? b = some u) : Inv (compCx X (x :: fx) scope cl s3 H1 fp) [] (none :: frV σ fr) H1 { s3 with heap := h1, toks := t } := by
  refine ⟨comp_ok I hkind hcl F hfx ffp flt, rfl, I.bare, Un.kept keep, ⟨m, hn, fun i y v e1 e2 e3 => ?_⟩, fun y c e => ?_, I.hok.fresh (Nat.le_refl _), fun y c e => I.freeC y c (hcl y c e), fun p hp => absurd (show p ∈ ([] : List (Addr × Obj)) from hp) (by simp), I.hok.kept keep, ?_⟩
  · cases i with
    | zero => simp at e2
    | succ j =>
      obtain ⟨i0, k1, k2, k3, k4, k5⟩ := F.at (σ := σ) j y v (by simpa [compCx] using e1) (by simpa using e2)
      obtain ⟨m0, hn0, hl0⟩ := I.loc
      obtain ⟨u, r, l⟩ := hl0 i0 y v k1 k2 (.inr (.inl k3))
      refine ⟨u, r, ?_⟩
      rcases l with ⟨z, _⟩ | ⟨_, c, e, o, ho, hd⟩
      · rw [k3] at z; cases z
      · exact .inr ⟨.inl k4, c, k5.trans e, o, keep c o ho, hd⟩
  · obtain ⟨v, o, ho, hd⟩ := I.cell y c (hcl y c e)
    exact ⟨v, o, keep c o ho, hd⟩
  · show (none :: frV σ fr).length = (x :: fx).length
    simp [frV, F.len]
theorem comp_done {N' : List Str} {pins' : List (Addr × Obj)} {σ' : St} {H2 : Hp} {s' : Shared} {h' : Heap} (I : Inv X pins σ H1 s3) (J : Inv (compCx X N' scope cl s3 H1 fp) pins' σ' H2 s') (ffp : ∀ b ∈ fp, FpOk X pins H1 b)
    (sb : Heap.SameBut s3.heap.objs.size s'.heap h') : Inv X pins σ H2 { s' with heap := h' } := by
  have k : ∀ b u, b ≠ s3.heap.objs.size → s'.heap.get? b = some u → h'.get? b = some u := fun b u hb e => sb.extBut b u hb e
  have lt : ∀ b u, s3.heap.get? b = some u → b ≠ s3.heap.objs.size := fun b u e => Nat.ne_of_lt (Heap.lt_size e)
  have u : Un (frs X.stack) fp H1 H2 s3.heap s'.heap := J.base
  have u' : Un (frs X.stack) fp H1 H2 s3.heap h' :=
    ⟨fun b o q n hb hx => k b o (lt b o q) (u.keep b o q n hb hx), fun b o q n hb hx => by
        obtain ⟨sl, e⟩ := u.slot b o q n hb hx
        exact ⟨sl, k b _ (lt b o q) e⟩, u.free, fun b o q hx => by
        obtain ⟨o', e⟩ := u.there b o q hx
        exact ⟨o', k b _ (lt b o q) e⟩, u.tups, u.frzs, u.tbls⟩
  have nC : H2 s3.heap.objs.size = none := J.free
  have hok : HOk X.prog X.w H2 h' := fun b uo e => by
    refine (J.hok b uo e).stay (fun c v hc q => k c v ?_ q) (fun _ q => q) fun _ _ q => q
    rintro rfl
    rcases hc with z | z
    · rw [← z, nC] at e; cases e
    · rw [nC] at z; cases z
  have os : s'.os = s3.os := J.os
  have bare := J.bare
  obtain ⟨hh, g, d, t, os'⟩ := s'
  obtain rfl : os' = s3.os := os
  have fin := I.call (h' := h') (g' := g) (d' := d) (t' := t) (ch := fp) u' hok bare fun b hb => by
    obtain ⟨f0, f1, f2, f3, f4, f5⟩ := ffp b hb
    exact ⟨f3, f1, f4, f5⟩
  exact fin
end

/-- the tests behind a for -/
def PF (X : Cx) (ifs : List Expr) (t : TT) : Prop :=
  ∀ (pins : List (Addr × Obj)) (s : Shared) (σ : St) (H : Hp) (Q : Bool → Hp → Prop), Inv X pins σ H s → t σ H Q →
    wpAny (model X.prog X.w) X.A (forIn ifs true fun c r => if r = true then do let ok ← isTrue c X.env (eval c X.env); pure (ForInStep.yield ok) else pure (ForInStep.yield r)) (TP X pins σ Q) X.xe s
def tYes : TT := fun _ H Q => Q true H
theorem pf_nil {X : Cx} : PF X [] tYes := fun _ _ _ H _ I h => wpAny_tests_nil ⟨H, I, h⟩
theorem pf_one {X : Cx} {c : Expr} {t : TT} (h : PT X c t) : PF X [c] t := fun pins s σ H Q I q => wpAny_tests_one (h pins s σ H Q I q)

/-- the walk of a comprehension: J what is walked, p the list that is made, fv the free names' values -/
def CompI (J : It) (p : Addr) (fv : St) (tt : TT) (te : TE) (Q : VK) (H1 : Hp) : Prop :=
  ∃ W : Nat → Nat → List V → Hp → Prop, (∃ m, W 0 m [] (upd H1 p (.lst []))) ∧ ∀ i m ys H2, W i m ys H2 → H2 p = some (.lst ys) ∧
    ((J.stop i H2 ∧ Q (.ref p) H2) ∨ (J.go i H2 ∧ ys.length < sizeLine ∧ ∀ x H3, J.yld i H2 x H3 → tt (some x :: fv) H3 fun b H4 =>
      if b = true then te (some x :: fv) H4 fun y H5 => H5 p = some (.lst ys) ∧ ∃ m', m' < m ∧ W (i + 1) m' (ys ++ [y]) (upd H5 p (.lst (ys ++ [y])))
      else ∃ m', m' < m ∧ W (i + 1) m' ys H4))
def tComp (wi : TI) (fr : List Nat) (tt : TT) (te : TE) : TE := fun σ H Q => wi σ H fun J H1 => ∀ p, H1 p = none → CompI J p (frV σ fr) tt te Q H1

section
variable {X : Cx} {elt iter : Expr} {x : Str} {px pos : Pos} {ifs : List Expr} {scope : Scope} {cl : List (Str × Addr)} {fx : List Str} {fr : List Nat} {wi : TI} {tt : TT} {te : TE}
theorem comp_block {pins : List (Addr × Obj)} {σ : St} {H3 : Hp} {s3 : Shared} {it p : Addr} {fp : List Addr} {tn : Nat → Heap → Prop} {J : It} {Q : VK} {W : Nat → Nat → List V → Hp → Prop} {m0 t : Nat} {h₁ : Heap} {m : Str → Option Value} {RR : Result → Shared → Prop}
    (hc : X.calm = true) (hkind : scope.kind = .function) (hx : scope.names.lookup x = some .local) (hnd : (x :: fx).Nodup)
    (hcl : ∀ y c, cl.lookup y = some c → X.env.cells.lookup y = some c) (F : Frees X (relabel scope X.env) cl fx fr)
    (hfx : ((relabel scope X.env).names.all fun p => if (p.2 == .cell || p.2 == .free) then fx.contains p.1 else true) = true)
    (ht : ∀ s H fp, PF (compCx X (x :: fx) scope cl s H fp) ifs tt) (he : ∀ s H fp, PE (compCx X (x :: fx) scope cl s H fp) elt te)
    (I3 : Inv X pins σ H3 s3) (T : Turn X.prog X.w X.K (.Name x px) J fp it tn) (st3 : tn 0 s3.heap) (ffp : ∀ b ∈ fp, FpOk X pins H3 b) (flt3 : ∀ b ∈ fp, b < s3.heap.objs.size)
    (w0 : W 0 m0 [] H3) (turn : ∀ i m ys H2, W i m ys H2 → H2 p = some (.lst ys) ∧
      ((J.stop i H2 ∧ Q (.ref p) H2) ∨ (J.go i H2 ∧ ys.length < sizeLine ∧ ∀ x H3, J.yld i H2 x H3 → tt (some x :: frV σ fr) H3 fun b H4 =>
        if b = true then te (some x :: frV σ fr) H4 fun y H5 => H5 p = some (.lst ys) ∧ ∃ m', m' < m ∧ W (i + 1) m' (ys ++ [y]) (upd H5 p (.lst (ys ++ [y])))
        else ∃ m', m' < m ∧ W (i + 1) m' ys H4)))
    (hns : h₁.Ns s3.heap.objs.size m) (keep1 : ∀ b u, s3.heap.get? b = some u → h₁.get? b = some u)
    (fin : ∀ s6 H5 o, Inv (compCx X (x :: fx) scope cl s3 H3 fp) [] (o :: frV σ fr) H5 s6 → Q (.ref p) H5 → RR (.ok .next) s6) :
    codeAny (model X.prog X.w) X.A (.compStart (.ListComp elt [⟨.Name x px, iter, ifs, 0⟩] scope pos) 0 (.ref it) (.ref p) (compEnvC scope cl s3.heap.objs.size X.env))
      RR { s3 with heap := h₁, toks := t } := by
  have I4 := comp_start (x := x) (t := t) I3 hkind hcl F hfx ffp flt3 hns keep1
  have st4 : tn 0 h₁ := T.keep _ _ _ st3 fun b hb o e => keep1 b o e
  have fp0 : ∀ b ∈ fp, H3 b = none := fun b hb => (ffp b hb).1
  have hcal : (compCx X (x :: fx) scope cl s3 H3 fp).calm = true := hc
  have stat : ∀ {H' : Hp}, (∀ b ∈ fp, H' b = none) → ∀ b ∈ fp, FpOk (compCx X (x :: fx) scope cl s3 H3 fp) [] H' b := fun {H'} hn b hb => by
    obtain ⟨f0, f1, f2, f3, f4, f5⟩ := ffp b hb
    exact ⟨hn b hb, Nat.ne_of_lt (flt3 b hb), I4.ok.exfs b hb, .inl hb, fun y c e => f4 y c (hcl y c e), fun q hq => absurd (show q ∈ ([] : List (Addr × Obj)) from hq) (by simp)⟩
  have hxl : (relabel scope X.env).names.lookup x = some .local := lookup_relabel_local hx
  have pg : PG (compCx X (x :: fx) scope cl s3 H3 fp) (.Name x px) (gName 0) := pg_name (i := 0) hnd rfl (.inl hxl) (.inr hxl)
  have loop : codeAny (model X.prog X.w) X.A (.compLoop (.ListComp elt [⟨.Name x px, iter, ifs, 0⟩] scope pos) 0 (.ref it) (.ref p) (compEnvC scope cl s3.heap.objs.size X.env))
        RR { s3 with heap := h₁, toks := t } := by
    refine compLoop_any (fun n s' => ∃ i ys H' o, Inv (compCx X (x :: fx) scope cl s3 H3 fp) [] (o :: frV σ fr) H' s' ∧ tn i s'.heap ∧ (∀ b ∈ fp, H' b = none) ∧ W i n ys H') ?_ m0 ⟨0, [], _, none, I4, st4, fp0, w0⟩
    rintro n s5 ⟨i, ys, H5, o, I5, st5, fr5, w5⟩
    obtain ⟨hp5, alt⟩ := turn i n ys H5 w5
    rcases alt with ⟨stop, qn⟩ | ⟨go, hlen, step⟩
    · refine thn (T.done (compCx X (x :: fx) scope cl s3 H3 fp) rfl rfl rfl hcal i [] s5 (o :: frV σ fr) H5 _ I5 (stat fr5) st5 stop) fun r s6 ⟨hr, I6⟩ => ?_
      subst hr
      exact fin s6 H5 o I6 qn
    · refine thn (T.item (compCx X (x :: fx) scope cl s3 H3 fp) rfl rfl rfl hcal i [] s5 (o :: frV σ fr) H5 _ I5 (stat fr5) st5 go) fun r s6 ⟨u, hr, h6⟩ => ?_
      subst hr
      refine thn h6 fun _ s7 ⟨y7, H7, I7, r7, yl7, st7, fr7⟩ => ?_
      have I7' := I7.pinned (stat fr7) (T.obj _ _ st7)
      have back : ∀ {σ' : St} {H' : Hp} {s' : Shared}, Inv (compCx X (x :: fx) scope cl s3 H3 fp) ([] ++ pinsAt fp s7.heap) σ' H' s' → tn (i + 1) s'.heap ∧ ∀ b ∈ fp, H' b = none := fun {σ' H' s'} I' => by
        refine ⟨T.keep _ _ _ st7 fun b hb o e => (I'.pin (b, o) (List.mem_append_right _ (List.mem_append_right _ (mem_pinsAt hb e)))).1, fun b hb => ?_⟩
        obtain ⟨o, e, d⟩ := T.obj _ _ st7 b hb
        exact (I'.pin (b, o) (List.mem_append_right _ (List.mem_append_right _ (mem_pinsAt hb e)))).2.1
      refine thn (pg _ s7 _ H7 y7 u (fun σ' H' => σ' = some y7 :: frV σ fr ∧ H' = H7) I7' r7 ⟨rfl, rfl⟩) fun _ s8 ⟨σ8, H8, I8, e8, e8'⟩ => ?_
      subst e8 e8'
      refine thn (ht s3 H3 fp _ s8 _ _ _ I8 (step y7 _ yl7)) fun b s9 ⟨H9, I9, q9⟩ => ?_
      cases b with
      | false =>
        rw [if_neg Bool.false_ne_true] at q9 ⊢
        obtain ⟨m', hm, w9⟩ := q9
        exact ⟨m', hm, i + 1, ys, H9, some y7, I9.unpinned, (back I9).1, (back I9).2, w9⟩
      | true =>
        rw [if_pos rfl] at q9 ⊢
        refine thn (he s3 H3 fp _ s9 _ H9 _ I9 q9) fun u10 s10 ⟨y10, H10, I10, r10, hp10, m', hm, w10⟩ => ?_
        refine thn (mt_append _ s10 _ H10 (.ref p) [y10] (.ref p) [u10] (fun _ H' => H' = upd H10 p (.lst (ys ++ [y10]))) I10 rfl (.cons r10 .nil) ⟨p, ys, y10, rfl, rfl, hp10, hlen, rfl⟩) fun _ s11 ⟨_, H11, I11, _, e11⟩ => ?_
        subst e11
        exact ⟨m', hm, i + 1, ys ++ [y10], _, some y7, I11.unpinned, (back I11).1, (back I11).2, w10⟩
  exact codeAny_compStart_list loop (T.self _ 0 _ _ _ st4 loop)
theorem pe_comp (hc : X.calm = true) (hclos : closureFor scope X.env = pure cl) (hcell : ∀ y ∈ scope.names, y.2 ≠ .cell) (hkind : scope.kind = .function)
    (hnames : ∀ y ∈ scope.names, y.2 = .local → scope.names.lookup y.1 = some .local) (hx : scope.names.lookup x = some .local) (hnd : (x :: fx).Nodup)
    (hk : (cl.all fun q => fx.contains q.1) = true) (F : Frees X (relabel scope X.env) cl fx fr)
    (hfx : ((relabel scope X.env).names.all fun p => if (p.2 == .cell || p.2 == .free) then fx.contains p.1 else true) = true)
    (hi : PI X (.Name x px) iter wi) (ht : ∀ s H fp, PF (compCx X (x :: fx) scope cl s H fp) ifs tt) (he : ∀ s H fp, PE (compCx X (x :: fx) scope cl s H fp) elt te)
    (hs : ∀ x, foldedSetIterable iter X.env x = pure x := by intro _; rfl) :
    PE X (.ListComp elt [⟨.Name x px, iter, ifs, 0⟩] scope pos) (tComp wi fr tt te) := by
  intro pins s σ H Q I h
  have hcl : ∀ y c, cl.lookup y = some c → X.env.cells.lookup y = some c := fun y c e => by
    have q := List.all_eq_true.mp hk _ (PySem.mem_of_lookup e)
    rw [← (F.mem y (by simpa using q)).2]
    exact e
  rw [eval_ListComp]
  refine wpAny_comprehension_free (use := none) rfl hs hclos hkind hnames ?_
  refine thn (hi pins s σ H _ I h) fun v s1 h1 => thn h1 fun itv s2 h2 => ?_
  obtain ⟨it, fp, tn, J, H2, e, I2, T, st2, f2, q2⟩ := h2
  subst e
  have hp0 : H2 s2.heap.objs.size = none := I2.hok.fresh (Nat.le_refl _)
  obtain ⟨W, ⟨m0, w0⟩, turn⟩ := q2 _ hp0
  have flt : ∀ b ∈ fp, b < s2.heap.objs.size := fun b hb => by
    obtain ⟨o, e, _⟩ := T.obj _ _ st2 b hb
    exact Heap.lt_size e
  refine wpAny_newObj_type (wpAny_newFunctionEnv hcell (by intro y hy; simp at hy) (fun h₁ hns₁ hsb₁ => ?_) hkind)
  dsimp only at hns₁ hsb₁ ⊢
  have hlay : ∀ b u, s2.heap.get? b = some u → (s2.heap.push { cls := .type "list", dict := none, data := .seq ([] : List Value).toArray }).get? b = some u := fun b u e => Heap.get?_push_of_some _ e
  have hnew : (s2.heap.push { cls := .type "list", dict := none, data := .seq ([] : List Value).toArray }).get? s2.heap.objs.size = some { cls := .type "list", dict := none, data := .seq ([] : List Value).toArray } := Heap.get?_push_size _ rfl
  have hsz : (s2.heap.push { cls := .type "list", dict := none, data := .seq ([] : List Value).toArray }).objs.size = s2.heap.objs.size + 1 := Heap.size_push _ _
  generalize hHH : s2.heap.push { cls := .type "list", dict := none, data := .seq ([] : List Value).toArray } = HH at hns₁ hsb₁ hlay hnew hsz ⊢
  have I3 : Inv X pins σ (upd H2 s2.heap.objs.size (.lst [])) { s2 with heap := HH, toks := s2.toks } :=
    I2.laid (t' := s2.toks) (o := .lst []) hlay (Nat.le_refl _) ⟨Nat.zero_le _, [], 0, .nil, hnew⟩
  have ffp : ∀ b ∈ fp, FpOk X pins (upd H2 s2.heap.objs.size (.lst [])) b := fun b hb => by
    obtain ⟨f0, fr'⟩ := f2 b hb
    exact ⟨by rw [upd_ne (Nat.ne_of_lt (flt b hb))]; exact f0, fr'⟩
  have keep1 : ∀ b u, HH.get? b = some u → h₁.get? b = some u := fun b u e => hsb₁.extBut b u (Nat.ne_of_lt (Heap.lt_size e)) (Heap.get?_push_of_some _ e)
  exact comp_block (s3 := { s2 with heap := HH, toks := s2.toks }) hc hkind hx hnd hcl F hfx ht he I3 T (T.keep _ _ _ st2 fun b hb o e => hlay b o e) ffp (fun b hb => by show b < HH.objs.size; rw [hsz]; exact Nat.lt_succ_of_lt (flt b hb)) w0 turn hns₁ keep1 fun s6 H5 o I6 qn => by
    obtain ⟨m, hn6, _⟩ := id I6.loc
    exact ⟨m, hn6, fun h' sb => ⟨.ref _, H5, comp_done I3 I6 ffp sb, rfl, qn⟩⟩
/-- name = [..]: the list is bound while the block's names still stand -/
theorem ps_setC {i : Nat} {y : Str} {py spos : Pos} (hN : X.N.Nodup) (hiN : X.N[i]? = some y) (hy : X.env.scope.names.lookup y = some .local)
    (hc : X.calm = true) (hclos : closureFor scope X.env = pure cl) (hcell : ∀ y ∈ scope.names, y.2 ≠ .cell) (hkind : scope.kind = .function)
    (hnames : ∀ y ∈ scope.names, y.2 = .local → scope.names.lookup y.1 = some .local) (hx : scope.names.lookup x = some .local) (hnd : (x :: fx).Nodup)
    (hk : (cl.all fun q => fx.contains q.1) = true) (F : Frees X (relabel scope X.env) cl fx fr)
    (hfx : ((relabel scope X.env).names.all fun p => if (p.2 == .cell || p.2 == .free) then fx.contains p.1 else true) = true)
    (hi : PI X (.Name x px) iter wi) (ht : ∀ s H fp, PF (compCx X (x :: fx) scope cl s H fp) ifs tt) (he : ∀ s H fp, PE (compCx X (x :: fx) scope cl s H fp) elt te)
    (hs : ∀ x, foldedSetIterable iter X.env x = pure x := by intro _; rfl) (hsw : swapsWith (.ListComp elt [⟨.Name x px, iter, ifs, 0⟩] scope pos) (some (.Name y py)) spos.line X.env = pure true := by rfl) :
    PS X (.Assign [.Name y py] (.ListComp elt [⟨.Name x px, iter, ifs, 0⟩] scope pos) spos) (tAsg (tComp wi fr tt te) (gName i)) := by
  intro pins s σ H D I h
  have hcl : ∀ y c, cl.lookup y = some c → X.env.cells.lookup y = some c := fun y c e => by
    have q := List.all_eq_true.mp hk _ (PySem.mem_of_lookup e)
    rw [← (F.mem y (by simpa using q)).2]
    exact e
  rw [exec_Assign_Name_used _ _ _ _ hsw]
  refine wpAny_bind (wpAny_standAt (wpAny_bind ?_))
  show wpAny _ X.A (do let _ ← comprehension (.ListComp elt [⟨.Name x px, iter, ifs, 0⟩] scope pos) scope X.env _ (newList []) false (eval iter X.env) (some (assign (.Name y py) X.env))) _ _ s
  refine wpAny_bind (wpAny_mono (wpAny_comprehension_free (use := some (assign (.Name y py) X.env)) (Q := fun _ s' => SP X pins D .next s') rfl hs hclos hkind hnames ?_) (fun _ s' hq => wpAny_pure (wpAny_pure hq)) fun _ _ e => e)
  refine thn (hi pins s σ H _ I h) fun v s1 h1 => thn h1 fun itv s2 h2 => ?_
  obtain ⟨it, fp, tn, J, H2, e, I2, T, st2, f2, q2⟩ := h2
  subst e
  have hp0 : H2 s2.heap.objs.size = none := I2.hok.fresh (Nat.le_refl _)
  obtain ⟨W, ⟨m0, w0⟩, turn⟩ := q2 _ hp0
  have flt : ∀ b ∈ fp, b < s2.heap.objs.size := fun b hb => by
    obtain ⟨o, e, _⟩ := T.obj _ _ st2 b hb
    exact Heap.lt_size e
  refine wpAny_newObj_type (wpAny_newFunctionEnv hcell (by intro y hy; simp at hy) (fun h₁ hns₁ hsb₁ => ?_) hkind)
  dsimp only at hns₁ hsb₁ ⊢
  have hlay : ∀ b u, s2.heap.get? b = some u → (s2.heap.push { cls := .type "list", dict := none, data := .seq ([] : List Value).toArray }).get? b = some u := fun b u e => Heap.get?_push_of_some _ e
  have hnew : (s2.heap.push { cls := .type "list", dict := none, data := .seq ([] : List Value).toArray }).get? s2.heap.objs.size = some { cls := .type "list", dict := none, data := .seq ([] : List Value).toArray } := Heap.get?_push_size _ rfl
  have hsz : (s2.heap.push { cls := .type "list", dict := none, data := .seq ([] : List Value).toArray }).objs.size = s2.heap.objs.size + 1 := Heap.size_push _ _
  generalize hHH : s2.heap.push { cls := .type "list", dict := none, data := .seq ([] : List Value).toArray } = HH at hns₁ hsb₁ hlay hnew hsz ⊢
  have I3 : Inv X pins σ (upd H2 s2.heap.objs.size (.lst [])) { s2 with heap := HH, toks := s2.toks } :=
    I2.laid (t' := s2.toks) (o := .lst []) hlay (Nat.le_refl _) ⟨Nat.zero_le _, [], 0, .nil, hnew⟩
  have ffp : ∀ b ∈ fp, FpOk X pins (upd H2 s2.heap.objs.size (.lst [])) b := fun b hb => by
    obtain ⟨f0, fr'⟩ := f2 b hb
    exact ⟨by rw [upd_ne (Nat.ne_of_lt (flt b hb))]; exact f0, fr'⟩
  have keep1 : ∀ b u, HH.get? b = some u → h₁.get? b = some u := fun b u e => hsb₁.extBut b u (Nat.ne_of_lt (Heap.lt_size e)) (Heap.get?_push_of_some _ e)
  exact comp_block (Q := fun x H1 => gName i x σ H1 D.nx) (s3 := { s2 with heap := HH, toks := s2.toks }) hc hkind hx hnd hcl F hfx ht he I3 T (T.keep _ _ _ st2 fun b hb o e => hlay b o e) ffp (fun b hb => by show b < HH.objs.size; rw [hsz]; exact Nat.lt_succ_of_lt (flt b hb)) w0 turn hns₁ keep1 fun s6 H5 o I6 qn => by
    have nC : H5 HH.objs.size = none := I6.free
    have I7 : Inv X pins σ H5 s6 := comp_done (h' := s6.heap) I3 I6 ffp ⟨rfl, fun _ _ => rfl⟩
    obtain ⟨f0, f1, f2, f3, f4, f5⟩ := I3.fpOk (H' := H5) (b := HH.objs.size) (Nat.le_refl _) nC
    obtain ⟨m, hn6, _⟩ := id I6.loc
    show wpAny _ X.A (assign (.Name y py) X.env (.ref _)) _ _ s6
    refine wpAny_assign_Name (store_ok2 I7 hN hiN (.inl hy) (v := .ref _) rfl (fun s8 I8 sbx => ?_) (.inr hy))
    obtain ⟨a, sb, ha⟩ := sbx
    have hne : HH.objs.size ≠ a := by
      rcases ha with rfl | ha
      · exact f1
      · exact fun z => f4 y a ha z.symm
    refine ⟨m, hn6.sameBut sb hne, fun h' sb' => ?_⟩
    exact ⟨_, H5, I8.turned (t' := s8.toks) (it := HH.objs.size) (fun b o hb e => sb'.extBut b o hb e) f0 f1 f3 f4 f5, qn⟩
end

/-! ### the forms one uses -/
section
variable {p : Addr} {fv : St} {te : TE} {Q : VK} {H1 : Hp}
/-- over a text, no test: each sign's value, what is tracked stays -/
theorem comp_str {z : Str} (hz : z.length ≤ sizeLine) (hp : H1 p = none) (f : Nat → V)
    (he : ∀ c, c ∈ z.cps.toList → ∀ (H' : Hp) (R : VK), (∀ H'', Same H' H'' → R (f c) H'') → te (some (.str ⟨#[c]⟩) :: fv) H' R)
    (hQ : ∀ H', Same H1 H' → H' p = some (.lst (z.cps.toList.map f)) → Q (.ref p) H') : CompI (Its z) p fv tYes te Q H1 := by
  have hl : z.cps.toList.length = z.length := by simp [Str.length]
  refine ⟨fun i m ys H2 => m = z.length - i ∧ i ≤ z.length ∧ ys = (z.cps.toList.take i).map f ∧ H2 p = some (.lst ys) ∧ Same H1 H2, ⟨z.length, by simp, Nat.zero_le _, by simp, upd_same, fun b o e => by rw [upd_ne (ne_of_none e hp)]; exact e⟩, ?_⟩
  rintro i m ys H2 ⟨rfl, hi, rfl, hp2, sm⟩
  refine ⟨hp2, ?_⟩
  by_cases hlt : i < z.length
  · refine .inr ⟨hlt, ?_, fun x H3 y => ?_⟩
    · rw [List.length_map, List.length_take]; omega
    · obtain ⟨rfl, c, hc, rfl⟩ := y
      unfold tYes
      dsimp only
      rw [if_pos rfl]
      refine he c (List.mem_of_getElem? hc) _ _ fun H5 s5 => ⟨s5 _ _ hp2, z.length - (i + 1), by omega, rfl, hlt, ?_, upd_same, fun b o e => ?_⟩
      · rw [List.take_add_one, hc, List.map_append]; rfl
      · rw [upd_ne (ne_of_none e hp)]; exact s5 _ _ (sm _ _ e)
  · have e : i = z.length := by omega
    subst e
    refine .inl ⟨Nat.le_refl _, hQ H2 sm ?_⟩
    rw [hp2, ← hl, List.take_length]
/-- over a text, with a test -/
theorem comp_strIf {z : Str} {tt : TT} (hz : z.length ≤ sizeLine) (hp : H1 p = none) (g : Nat → Bool) (f : Nat → V)
    (ht : ∀ c, c ∈ z.cps.toList → ∀ (H' : Hp) (R : Bool → Hp → Prop), (∀ H'', Same H' H'' → R (g c) H'') → tt (some (.str ⟨#[c]⟩) :: fv) H' R)
    (he : ∀ c, c ∈ z.cps.toList → ∀ (H' : Hp) (R : VK), (∀ H'', Same H' H'' → R (f c) H'') → te (some (.str ⟨#[c]⟩) :: fv) H' R)
    (hQ : ∀ H', Same H1 H' → H' p = some (.lst ((z.cps.toList.filter g).map f)) → Q (.ref p) H') : CompI (Its z) p fv tt te Q H1 := by
  have hl : z.cps.toList.length = z.length := by simp [Str.length]
  refine ⟨fun i m ys H2 => m = z.length - i ∧ i ≤ z.length ∧ ys = ((z.cps.toList.take i).filter g).map f ∧ H2 p = some (.lst ys) ∧ Same H1 H2, ⟨z.length, by simp, Nat.zero_le _, by simp, upd_same, fun b o e => by rw [upd_ne (ne_of_none e hp)]; exact e⟩, ?_⟩
  rintro i m ys H2 ⟨rfl, hi, rfl, hp2, sm⟩
  refine ⟨hp2, ?_⟩
  by_cases hlt : i < z.length
  · refine .inr ⟨hlt, ?_, fun x H3 y => ?_⟩
    · rw [List.length_map]
      have := List.length_filter_le g (z.cps.toList.take i)
      rw [List.length_take] at this
      omega
    · obtain ⟨rfl, c, hc, rfl⟩ := y
      have et : z.cps.toList.take (i + 1) = z.cps.toList.take i ++ [c] := by rw [List.take_add_one, hc]; rfl
      refine ht c (List.mem_of_getElem? hc) _ _ fun H4 s4 => ?_
      cases hg : g c with
      | false =>
        rw [if_neg Bool.false_ne_true]
        refine ⟨z.length - (i + 1), by omega, rfl, hlt, ?_, s4 _ _ hp2, sm.trans s4⟩
        rw [et, List.filter_append, List.filter_cons, hg]
        simp
      | true =>
        rw [if_pos rfl]
        refine he c (List.mem_of_getElem? hc) _ _ fun H5 s5 => ⟨s5 _ _ (s4 _ _ hp2), z.length - (i + 1), by omega, rfl, hlt, ?_, upd_same, fun b o e => ?_⟩
        · rw [et, List.filter_append, List.filter_cons, hg]
          simp
        · rw [upd_ne (ne_of_none e hp)]; exact s5 _ _ (s4 _ _ (sm _ _ e))
  · have e : i = z.length := by omega
    subst e
    refine .inl ⟨Nat.le_refl _, hQ H2 sm ?_⟩
    rw [hp2, ← hl, List.take_length]
end
section
variable {σ : St} {H : Hp} {Q : VK} {K : PySem.W.Frag} {tl te : TE} {tt : TT} {fr : List Nat}
theorem frV_nil : frV σ [] = [] := rfl
theorem frV_cons {i : Nat} {r : List Nat} : frV σ (i :: r) = (σ[i]?).getD none :: frV σ r := rfl
theorem jo_ref {z : Str} {p : Addr} : rJoin K (.str z) [.ref p] H Q ↔ ∃ ys : List Str, SqL K H p (ys.map V.str) ∧ (ys.map (·.length)).sum + ys.length * z.length ≤ 16777216 ∧ Q (.str (Txt.join z ys)) H := by
  constructor
  · rintro ⟨z', p', ys, h1, h2, h3⟩
    cases h1; cases h2
    exact ⟨ys, h3⟩
  · rintro ⟨ys, h⟩
    exact ⟨z, p, ys, rfl, rfl, h⟩
theorem rd_compS : tComp (iStr tl) fr tt te σ H Q ↔ tl σ H fun x H1 => ∃ z, x = .str z ∧ ∀ p, H1 p = none → CompI (Its z) p (frV σ fr) tt te Q H1 := Iff.rfl
theorem rd_compL : tComp (iList K tl) fr tt te σ H Q ↔ tl σ H fun x H1 => ∃ a, x = .ref a ∧ (∃ xs, SqL K H1 a xs) ∧ ∀ p, H1 p = none → CompI (Itl K a) p (frV σ fr) tt te Q H1 := Iff.rfl
end

/-! ### the rules again, the written part named -/
section
variable {X : Cx} {K : PySem.W.Frag}
theorem op_addK (h : X.K = K) : OpR X (binaryOp .Add) (rAddU K) := by subst h; exact op_addU
theorem ix_seqK (h : X.K = K) : IxR X (rIx K) := by subst h; exact ix_seq
theorem sl_anyK (h : X.K = K) : SlR X (rSl K) := by subst h; exact sl_any
theorem call_lenK (h : X.K = K) : CallR X (.builtin "len") (rLenU K) := by subst h; exact call_lenU
theorem mt_joinK (h : X.K = K) : MtR X "str.join" (rJoin K) := by subst h; exact mt_join
theorem pi_listK {tg l : Expr} {tl : TE} (h : X.K = K) (hl : PE X l tl) : PI X tg l (iList K tl) := by subst h; exact pi_list hl
variable {o e : Expr} {es : List Expr} {to : TE} {t : TA} {name : Str} {apos cpos : Pos} {T id : String} {r : V → List V → Hp → VK → Prop}
theorem pe_bmK (h : X.K = K) (pa : PlainAttrs T) (slot : Slot T name id) (hty : typeOf (.builtin id) = pure (.type "method_descriptor")) (hm : MtR X id r) (ho : PE X o to) (ha : PA X (e :: es) t)
    (hbase : attributeBase o name X.env (eval o X.env) = eval o X.env := by rfl)
    (hfew : ((backTo cpos (starEach (e :: es) X.env)).all (fun x => !x.1) && (backToKw cpos (keywordEach [] X.env)).all (fun x => x.1.isSome)
      && decide ((e :: es).length + ([] : List Keyword).length + (if ([] : List Keyword).isEmpty then 0 else 1) < 30)) = true := by rfl)
    (hline : (apos.endLine == cpos.line) = true := by rfl) (hs : starEach (e :: es) X.env = (false, eval e X.env) :: starEach es X.env := by rfl) (hplain : (backTo cpos (starEach es X.env)).any (·.1) = false := by rfl) :
    PE X (.Call (.Attribute o name apos) (e :: es) [] cpos) (tBM K T r to t) := by
  subst h; exact pe_bm pa slot hty hm ho ha hbase hfew hline hs hplain
end

/-! ### defs with a default -/
structure FunD (K : PySem.W.Frag) (x qual : Str) (st : Stmt) (f : Addr) (fd : FuncData) (T : Addr) : Prop where
  ex : ∃ (oc : Value) (od : Option Addr) (kV doc pm : Value) (an : Option Addr) (cdv ct : Value) (osl : Array (Option Value)),
    fd = PySem.W.fnOf x qual (defArgs st) (defBody st) (defScope st) (.ref T) kV doc pm an cdv ct ∧ K.lookup f = some ⟨oc, od, .func fd, osl⟩ ∧ PySem.W.codeIn K cdv qual = true
  kp : PySem.W.keepIn K (.ref f) = true
section
variable {P : Program} {w : World} {K : PySem.W.Frag} {mg : Str → Option Value} {base : Heap}
theorem FunD.ok {x qual : Str} {st : Stmt} {f T : Addr} {fd : FuncData} {N ps : List Str} {k : Nat} {sp : Sp} (F : FunD K x qual st f fd T) (S : FnScope N ps (defScope st)) (len : ∀ vs H Q E, sp vs H Q E → vs.length = ps.length)
    (hbody : ∀ (cdv : Value) (A : Around) (outer : List Env) (s : Shared) (H : Hp) (vs : List V) (Q : VK) (E : XK), Room k (A.deeper (envOfC qual (defScope st) s.heap.objs.size f cdv)) → sp vs H Q E →
      ∃ t, PSs (cxOf CX0 P w K mg base N qual (defScope st) f cdv A outer s H E).nox (defBody st) t ∧ t { nx := fun _ H' => Q .non H', rt := Q } (start N vs) H) : FnOk P w K mg base CX0 (k + 1) f fd ps sp := by
  obtain ⟨oc, od, kV, doc, pm, an, cdv, ct, osl, rfl, lk, hcd⟩ := F.ex
  refine fn_of lk hcd S len fun A outer s H vs Q E hr hsp => ?_
  obtain ⟨t, h, q⟩ := hbody cdv A outer s H vs Q E hr hsp
  exact ⟨t, h.nox, q⟩
theorem FunD.binds {x qual : Str} {st : Stmt} {f T : Addr} {fd : FuncData} {ps : List Str} {ds : List Value} {oc : Value} {od : Option Addr} {items : Array Value} {n : Nat} {sl : Array (Option Value)} (F : FunD K x qual st f fd T) (hT : K.lookup T = some ⟨oc, od, .seq items n, sl⟩)
    (h : ∀ (kV doc pm : Value) (an : Option Addr) (cdv ct : Value) (us : List Value), (us ++ ds).length = ps.length → ∃ k : Option (Array Value) → Sem (List (Str × Value)),
      bindArgs (PySem.W.fnOf x qual (defArgs st) (defBody st) (defScope st) (.ref T) kV doc pm an cdv ct) ⟨us, []⟩ = seqItems? (.ref T) >>= k ∧ k (some items) = pure (ps.zip (us ++ ds))) : Binds K fd ps ds := by
  obtain ⟨oc', od', kV, doc, pm, an, cdv, ct, osl, rfl, lk, hcd⟩ := F.ex
  intro s us X hl
  obtain ⟨k, h1, h2⟩ := h kV doc pm an cdv ct us hl
  exact BindsTo.of_defaults (T := T) rfl (X T _ hT) rfl h1 h2
end
/-! ### while, by a word with its measure -/
section
variable {σ : St} {H : Hp} {Q : VK}
theorem rd_un {r : V → Hp → VK → Prop} {ta : TE} : tUn r ta σ H Q ↔ ta σ H fun x H1 => r x H1 Q := Iff.rfl
theorem rd_U {g : Int → V} {i : Int} : rU g (.int i) H Q ↔ Q (g i) H := ⟨fun ⟨_, h1, h2⟩ => by cases h1; exact h2, fun h => ⟨i, rfl, h⟩⟩
theorem ap_ref {l : Addr} {y : V} : rAppend (.ref l) [y] H Q ↔ ∃ xs, H l = some (.lst xs) ∧ xs.length < sizeLine ∧ Q .non (upd H l (.lst (xs ++ [y]))) := by
  constructor
  · rintro ⟨l', xs, y', h1, h2, h3⟩
    cases h1; cases h2
    exact ⟨xs, h3⟩
  · rintro ⟨xs, h⟩
    exact ⟨l, xs, y, rfl, rfl, h⟩
theorem ty_list {K : PySem.W.Frag} {p : Addr} : tyV K "list" (.ref p) H ↔ ∃ xs, SqL K H p xs := by
  constructor
  · rintro (⟨_, h⟩ | ⟨h, _⟩ | ⟨h, _⟩ | ⟨h, _⟩)
    · exact h
    · exact absurd h (by decide)
    · exact absurd h (by decide)
    · exact absurd h (by decide)
  · intro h; exact .inl ⟨rfl, h⟩
end
end L2
/-! PLAIN DATA over the hand layer: what a value is, whole, as a tree; deep comparisons. -/
namespace L2
open PySem PySem.Spec PyProof.Rows
mutual
inductive Is (H : Hp) : PyData → V → Prop
  | non : Is H .none .non
  | bl (b : Bool) : Is H (.bool b) (.bl b)
  | int (i : Int) : Is H (.int i) (.int i)
  | str (x : Str) : Is H (.str x) (.str x)
  | lst {p : Addr} {xs : List V} {ds : List PyData} : H p = some (.lst xs) → IsAll H ds xs → Is H (.list ds) (.ref p)
  | tup {p : Addr} {xs : List V} {ds : List PyData} : H p = some (.tup xs) → IsAll H ds xs → Is H (.tuple ds) (.ref p)
inductive IsAll (H : Hp) : List PyData → List V → Prop
  | nil : IsAll H [] []
  | cons {d : PyData} {x : V} {ds : List PyData} {xs : List V} : Is H d x → IsAll H ds xs → IsAll H (d :: ds) (x :: xs)
end
mutual
theorem Is.mono {H H' : Hp} (sm : Same H H') : ∀ {d : PyData} {x : V}, Is H d x → Is H' d x
  | _, _, .non => .non
  | _, _, .bl b => .bl b
  | _, _, .int i => .int i
  | _, _, .str x => .str x
  | _, _, .lst h r => .lst (sm _ _ h) (IsAll.mono sm r)
  | _, _, .tup h r => .tup (sm _ _ h) (IsAll.mono sm r)
theorem IsAll.mono {H H' : Hp} (sm : Same H H') : ∀ {ds : List PyData} {xs : List V}, IsAll H ds xs → IsAll H' ds xs
  | _, _, .nil => .nil
  | _, _, .cons h r => .cons (Is.mono sm h) (IsAll.mono sm r)
end
theorem IsAll.length {H : Hp} : ∀ {ds : List PyData} {xs : List V}, IsAll H ds xs → ds.length = xs.length
  | _, _, .nil => rfl
  | _, _, .cons _ r => by rw [List.length_cons, List.length_cons, IsAll.length r]
theorem IsAll.append {H : Hp} : ∀ {ds es : List PyData} {xs ys : List V}, IsAll H ds xs → IsAll H es ys → IsAll H (ds ++ es) (xs ++ ys)
  | _, _, _, _, .nil, r => r
  | _, _, _, _, .cons h t, r => .cons h (t.append r)
theorem IsAll.at {H : Hp} : ∀ {ds : List PyData} {xs : List V}, IsAll H ds xs → ∀ (i : Nat) (x : V), xs[i]? = some x → ∃ d, ds[i]? = some d ∧ Is H d x
  | _, _, .nil, i, x, h => by simp at h
  | _, _, .cons q r, 0, x, h => by simp at h; subst h; exact ⟨_, rfl, q⟩
  | _, _, .cons q r, i + 1, x, h => by
    obtain ⟨d, h1, h2⟩ := r.at i x (by simpa using h)
    exact ⟨d, by simpa using h1, h2⟩
theorem IsAll.take {H : Hp} : ∀ {ds : List PyData} {xs : List V} (n : Nat), IsAll H ds xs → IsAll H (ds.take n) (xs.take n)
  | _, _, 0, _ => .nil
  | _, _, _ + 1, .nil => .nil
  | _, _, n + 1, .cons r t => .cons r (t.take n)
theorem IsAll.drop {H : Hp} : ∀ {ds : List PyData} {xs : List V} (n : Nat), IsAll H ds xs → IsAll H (ds.drop n) (xs.drop n)
  | _, _, 0, r => r
  | _, _, _ + 1, .nil => .nil
  | _, _, n + 1, .cons _ t => t.drop n
theorem IsAll.set {H : Hp} {d : PyData} {x : V} (h : Is H d x) : ∀ {ds : List PyData} {xs : List V} (n : Nat), IsAll H ds xs → IsAll H (ds.set n d) (xs.set n x)
  | _, _, _, .nil => .nil
  | _, _, 0, .cons _ t => .cons h t
  | _, _, n + 1, .cons r t => .cons r (t.set h n)
theorem IsAll.strs {H : Hp} : ∀ (l : List Str), IsAll H (l.map PyData.str) (l.map V.str)
  | [] => .nil
  | x :: r => .cons (.str x) (IsAll.strs r)
section
variable {X : Cx} {pins : List (Addr × Obj)} {σ : St} {H : Hp} {s : Shared}
mutual
theorem Is.reads (I : Inv X pins σ H s) : ∀ {d : PyData} {x : V} {v : Value}, Is H d x → RelV x v → ∃ as, Reads s.heap v d as
  | _, _, _, .non, r => by cases r; exact ⟨_, .none⟩
  | _, _, _, .bl b, r => by cases r; exact ⟨_, .bool b⟩
  | _, _, _, .int i, r => by obtain ⟨t, rfl⟩ := r; exact ⟨_, .int i t⟩
  | _, _, _, .str x, r => by obtain ⟨t, rfl⟩ := r; exact ⟨_, .str x t⟩
  | _, _, _, .lst h q, r => by
    cases r
    obtain ⟨its, vs, ⟨o, n, e, c, _, dt⟩, _⟩ := I.list (SqL.of h)
    obtain ⟨as, ra⟩ := IsAll.reads I q vs
    exact ⟨_, .list e c dt (by simpa using ra)⟩
  | _, _, _, .tup h q, r => by
    cases r
    obtain ⟨its, vs, ⟨o, e, c, n, dt⟩, _⟩ := I.tuple (SqT.of h)
    obtain ⟨as, ra⟩ := IsAll.reads I q vs
    exact ⟨_, .tuple e c dt (by simpa using ra)⟩
theorem IsAll.reads (I : Inv X pins σ H s) : ∀ {ds : List PyData} {xs : List V} {vs : List Value}, IsAll H ds xs → Vals xs vs → ∃ as, ReadsAll s.heap vs ds as
  | _, _, _, .nil, r => by cases r; exact ⟨_, .nil⟩
  | _, _, _, .cons q t, r => by
    cases r with
    | cons r1 r2 =>
      obtain ⟨as, h1⟩ := Is.reads I q r1
      obtain ⟨bs, h2⟩ := IsAll.reads I t r2
      exact ⟨_, .cons h1 h2⟩
end
def rEqD : R2 := fun x y H Q => ∃ d e, Is H d x ∧ Is H e y ∧ SeqAt.shaped d = true ∧ SeqAt.shaped e = true ∧ Q (.bl (PyData.eqv d e)) H
def rNeD : R2 := fun x y H Q => ∃ d e, Is H d x ∧ Is H e y ∧ SeqAt.shaped d = true ∧ SeqAt.shaped e = true ∧ Q (.bl (!PyData.eqv d e)) H
theorem op_eqD (hu : X.A.units + 64 < cLine) : OpR X (compareOp .Eq) rEqD := by
  intro pins s σ H x y v u Q I rx ry h
  obtain ⟨d, e, hx, hy, sx, sy, q⟩ := h
  obtain ⟨as, ra⟩ := hx.reads I rx
  obtain ⟨bs, rb⟩ := hy.reads I ry
  exact eq_dataH ra rb sx sy hu ⟨.bl _, H, I, rfl, q⟩
theorem op_neD (hu : X.A.units + 64 < cLine) : OpR X (compareOp .NotEq) rNeD := by
  intro pins s σ H x y v u Q I rx ry h
  obtain ⟨d, e, hx, hy, sx, sy, q⟩ := h
  obtain ⟨as, ra⟩ := hx.reads I rx
  obtain ⟨bs, rb⟩ := hy.reads I ry
  exact ne_dataH ra rb sx sy hu ⟨.bl _, H, I, rfl, q⟩
end
/-! ### data of tuples and scalars: no change of a list changes it -/
mutual
inductive IsT (H : Hp) : PyData → V → Prop
  | non : IsT H .none .non
  | bl (b : Bool) : IsT H (.bool b) (.bl b)
  | int (i : Int) : IsT H (.int i) (.int i)
  | str (x : Str) : IsT H (.str x) (.str x)
  | tup {p : Addr} {xs : List V} {ds : List PyData} : H p = some (.tup xs) → IsTAll H ds xs → IsT H (.tuple ds) (.ref p)
inductive IsTAll (H : Hp) : List PyData → List V → Prop
  | nil : IsTAll H [] []
  | cons {d : PyData} {x : V} {ds : List PyData} {xs : List V} : IsT H d x → IsTAll H ds xs → IsTAll H (d :: ds) (x :: xs)
end
def SameT (H H' : Hp) : Prop := ∀ b xs, H b = some (.tup xs) → H' b = some (.tup xs)
theorem SameT.refl (H : Hp) : SameT H H := fun _ _ e => e
theorem SameT.trans {H H' H'' : Hp} (h : SameT H H') (h' : SameT H' H'') : SameT H H'' := fun b xs e => h' b xs (h b xs e)
mutual
theorem IsT.mono {H H' : Hp} (sm : SameT H H') : ∀ {d : PyData} {x : V}, IsT H d x → IsT H' d x
  | _, _, .non => .non
  | _, _, .bl b => .bl b
  | _, _, .int i => .int i
  | _, _, .str x => .str x
  | _, _, .tup h r => .tup (sm _ _ h) (IsTAll.mono sm r)
theorem IsTAll.mono {H H' : Hp} (sm : SameT H H') : ∀ {ds : List PyData} {xs : List V}, IsTAll H ds xs → IsTAll H' ds xs
  | _, _, .nil => .nil
  | _, _, .cons h r => .cons (IsT.mono sm h) (IsTAll.mono sm r)
end
mutual
theorem IsT.is {H : Hp} : ∀ {d : PyData} {x : V}, IsT H d x → Is H d x
  | _, _, .non => .non
  | _, _, .bl b => .bl b
  | _, _, .int i => .int i
  | _, _, .str x => .str x
  | _, _, .tup h r => .tup h (IsTAll.is r)
theorem IsTAll.is {H : Hp} : ∀ {ds : List PyData} {xs : List V}, IsTAll H ds xs → IsAll H ds xs
  | _, _, .nil => .nil
  | _, _, .cons h r => .cons (IsT.is h) (IsTAll.is r)
end
theorem IsTAll.append {H : Hp} : ∀ {ds es : List PyData} {xs ys : List V}, IsTAll H ds xs → IsTAll H es ys → IsTAll H (ds ++ es) (xs ++ ys)
  | _, _, _, _, .nil, r => r
  | _, _, _, _, .cons h t, r => .cons h (t.append r)
theorem IsTAll.length {H : Hp} {ds : List PyData} {xs : List V} (h : IsTAll H ds xs) : ds.length = xs.length := h.is.length

/-! ### a comprehension over a list, no test, by a relation that grows with the heap -/
section
variable {p : Addr} {fv : St} {te : TE} {Q : VK} {H1 : Hp}
inductive All2 (R : V → V → Hp → Prop) (H : Hp) : List V → List V → Prop
  | nil : All2 R H [] []
  | cons {x y : V} {xs ys : List V} : R x y H → All2 R H xs ys → All2 R H (x :: xs) (y :: ys)
theorem All2.mono {R : V → V → Hp → Prop} (hm : ∀ x y H H', SameT H H' → R x y H → R x y H') {H H' : Hp} (sm : SameT H H') : ∀ {xs ys : List V}, All2 R H xs ys → All2 R H' xs ys
  | _, _, .nil => .nil
  | _, _, .cons h t => .cons (hm _ _ _ _ sm h) (t.mono hm sm)
theorem All2.snoc {R : V → V → Hp → Prop} {H : Hp} {x y : V} (h : R x y H) : ∀ {xs ys : List V}, All2 R H xs ys → All2 R H (xs ++ [x]) (ys ++ [y])
  | _, _, .nil => .cons h .nil
  | _, _, .cons q t => .cons q (t.snoc h)
theorem All2.length {R : V → V → Hp → Prop} {H : Hp} : ∀ {xs ys : List V}, All2 R H xs ys → xs.length = ys.length
  | _, _, .nil => rfl
  | _, _, .cons _ t => by rw [List.length_cons, List.length_cons, t.length]
end

/-! ### all, any of a list of truths -/
section
variable {X : Cx}
def rAllB (K : PySem.W.Frag) : List V → Hp → VK → Prop := fun vs H Q => ∃ (p : Addr) (bs : List Bool), vs = [.ref p] ∧ SqL K H p (bs.map V.bl) ∧ Q (.bl (bs.all id)) H
def rAnyB (K : PySem.W.Frag) : List V → Hp → VK → Prop := fun vs H Q => ∃ (p : Addr) (bs : List Bool), vs = [.ref p] ∧ SqL K H p (bs.map V.bl) ∧ Q (.bl (bs.any id)) H
theorem bools_at {bs : List Bool} : ∀ {us : List Value}, Vals (bs.map V.bl) us → ∀ (i : Nat) (v : Value), us[i]? = some v → ∃ b, bs[i]? = some b ∧ v = .bool b := by
  induction bs with
  | nil => intro us r i v h; rw [List.map_nil] at r; cases r; simp at h
  | cons b bs ih =>
    intro us r i v h
    rw [List.map_cons] at r
    cases r with
    | cons r1 r2 =>
      cases i with
      | zero => simp at h; subst h; exact ⟨b, rfl, r1⟩
      | succ i =>
        obtain ⟨c, h1, h2⟩ := ih r2 i v (by simpa using h)
        exact ⟨c, by simpa using h1, h2⟩
theorem call_allB (hc : X.calm = true) : CallR X (.builtin "all") (rAllB X.K) := by
  intro pins s σ H xs us Q I r h
  obtain ⟨p, bs, rfl, hq, q⟩ := h
  obtain ⟨u, rfl, ru⟩ := vals1 r
  cases ru
  obtain ⟨its, vs, pl, hl⟩ := I.list hq
  have hI := pl.isList
  have hlt : p < s.heap.objs.size := by obtain ⟨_, e, _⟩ := hI; exact Heap.lt_size e
  refine call_all_walk (wpAny_pyIter_list hI ?_)
  refine ⟨s.heap.objs.size, [s.heap.objs.size, p], [s.heap.objs.size], its.toArray.size, _, _, fun i => (bs[i]?).getD true, rfl, Walks.list (A := X.A.in1) (I.ok.hd hc) _ p (Nat.ne_of_lt hlt) its.toArray,
    ⟨⟨_, Heap.get?_push_size _ rfl, rfl, rfl⟩, hI.push _⟩, fun i v s' Q' E' hP hQ => ?_, fun h' tk hk => ?_⟩
  · obtain ⟨b, e, rfl⟩ := bools_at vs i v (by simpa using hP)
    simp only [e, Option.getD_some] at hQ
    exact wpAny_truthy_bool hQ
  · have hbl := vs.length
    rw [List.length_map] at hbl
    have e : ((List.range its.toArray.size).all fun i => (bs[i]?).getD true) = bs.all id := by
      rw [List.size_toArray, ← hbl]; exact PyProof.Rows.LSm.range_all bs
    exact ⟨.bl _, H, I.kept (t' := tk) (PyProof.Rows.LSm.kept_iter hk), rfl, by rw [e]; exact q⟩
variable {K : PySem.W.Frag}
theorem call_allK (h : X.K = K) (hc : X.calm = true) : CallR X (.builtin "all") (rAllB K) := by subst h; exact call_allB hc
def rListU (K : PySem.W.Frag) : List V → Hp → VK → Prop := fun xs H Q => ∃ p ys, xs = [.ref p] ∧ (SqL K H p ys ∨ SqT K H p ys) ∧ ∀ l, H l = none → Q (.ref l) (upd H l (.lst ys))
def rTupleU (K : PySem.W.Frag) : List V → Hp → VK → Prop := fun xs H Q => ∃ p ys, xs = [.ref p] ∧ ((SqL K H p ys ∧ ∀ l, H l = none → Q (.ref l) (upd H l (.tup ys))) ∨ (SqT K H p ys ∧ Q (.ref p) H))
end

/-! ### kinds, stores, targets -/
section
variable {H : Hp} {Q : VK} {K : PySem.W.Frag}
theorem isi_any {x : V} {T : String} : rIsiU [x, .ty T] H Q ↔ ∃ k, kindV x H = some k ∧ T ∈ ["bool", "int", "str", "list", "tuple"] ∧ Q (.bl (subT k T)) H := Iff.rfl
theorem kind_non : kindV .non H = some "NoneType" := rfl
theorem kind_bl {b : Bool} : kindV (.bl b) H = some "bool" := rfl
theorem kind_int {i : Int} : kindV (.int i) H = some "int" := rfl
theorem kind_str {x : Str} : kindV (.str x) H = some "str" := rfl
theorem kind_lst {p : Addr} {xs : List V} (h : H p = some (.lst xs)) : kindV (.ref p) H = some "list" := by simp only [kindV, h]
theorem kind_tup {p : Addr} {xs : List V} (h : H p = some (.tup xs)) : kindV (.ref p) H = some "tuple" := by simp only [kindV, h]
theorem memT_bool : ("bool" ∈ ["bool", "int", "str", "list", "tuple"]) = True := by simp
theorem memT_int : ("int" ∈ ["bool", "int", "str", "list", "tuple"]) = True := by simp
theorem memT_str : ("str" ∈ ["bool", "int", "str", "list", "tuple"]) = True := by simp
theorem memT_list : ("list" ∈ ["bool", "int", "str", "list", "tuple"]) = True := by simp
theorem memT_tuple : ("tuple" ∈ ["bool", "int", "str", "list", "tuple"]) = True := by simp
theorem sub_NoneType_bool : subT "NoneType" "bool" = false := by decide
theorem sub_NoneType_int : subT "NoneType" "int" = false := by decide
theorem sub_NoneType_str : subT "NoneType" "str" = false := by decide
theorem sub_NoneType_list : subT "NoneType" "list" = false := by decide
theorem sub_NoneType_tuple : subT "NoneType" "tuple" = false := by decide
theorem sub_bool_bool : subT "bool" "bool" = true := by decide
theorem sub_bool_int : subT "bool" "int" = true := by decide
theorem sub_bool_str : subT "bool" "str" = false := by decide
theorem sub_bool_list : subT "bool" "list" = false := by decide
theorem sub_bool_tuple : subT "bool" "tuple" = false := by decide
theorem sub_int_bool : subT "int" "bool" = false := by decide
theorem sub_int_int : subT "int" "int" = true := by decide
theorem sub_int_str : subT "int" "str" = false := by decide
theorem sub_int_list : subT "int" "list" = false := by decide
theorem sub_int_tuple : subT "int" "tuple" = false := by decide
theorem sub_str_bool : subT "str" "bool" = false := by decide
theorem sub_str_int : subT "str" "int" = false := by decide
theorem sub_str_str : subT "str" "str" = true := by decide
theorem sub_str_list : subT "str" "list" = false := by decide
theorem sub_str_tuple : subT "str" "tuple" = false := by decide
theorem sub_list_bool : subT "list" "bool" = false := by decide
theorem sub_list_int : subT "list" "int" = false := by decide
theorem sub_list_str : subT "list" "str" = false := by decide
theorem sub_list_list : subT "list" "list" = true := by decide
theorem sub_list_tuple : subT "list" "tuple" = false := by decide
theorem sub_tuple_bool : subT "tuple" "bool" = false := by decide
theorem sub_tuple_int : subT "tuple" "int" = false := by decide
theorem sub_tuple_str : subT "tuple" "str" = false := by decide
theorem sub_tuple_list : subT "tuple" "list" = false := by decide
theorem sub_tuple_tuple : subT "tuple" "tuple" = true := by decide
/-- the kind of a thing -/
def kindD : PyData → String
  | .none => "NoneType" | .bool _ => "bool" | .int _ => "int" | .str _ => "str" | .list _ => "list" | .tuple _ => "tuple" | .dict _ => "dict"
theorem Is.kind {d : PyData} {x : V} (h : Is H d x) : kindV x H = some (kindD d) := by
  cases h with
  | non => rfl
  | bl => rfl
  | int => rfl
  | str => rfl
  | lst h _ => exact kind_lst h
  | tup h _ => exact kind_tup h
theorem rd_gTup {n : Nat} {t : TGs} {v : V} {σ : St} {R : St → Hp → Prop} : gTup K n t v σ H R ↔ ∃ a xs, v = .ref a ∧ SqT K H a xs ∧ xs.length = n ∧ t xs σ H R := Iff.rfl
theorem rd_gCons {t : TG} {u : TGs} {vs : List V} {σ : St} {R : St → Hp → Prop} : gCons t u vs σ H R ↔ ∃ v r, vs = v :: r ∧ t v σ H fun σ' H' => u r σ' H' R := Iff.rfl
theorem rd_gNil {vs : List V} {σ : St} {R : St → Hp → Prop} : gNil vs σ H R ↔ vs = [] ∧ R σ H := Iff.rfl
theorem rd_gSub {to ti : TE} {t : TSet} {v : V} {σ : St} {R : St → Hp → Prop} : gSub to ti t v σ H R ↔ to σ H fun o H1 => ti σ H1 fun i H2 => t o i v H2 fun H3 => R σ H3 := Iff.rfl
theorem set_ref {p : Addr} {k : Int} {v : V} {R : Hp → Prop} : rSetL (.ref p) (.int k) v H R ↔ ∃ xs j, H p = some (.lst xs) ∧ ixN xs.length k = some j ∧ R (upd H p (.lst (xs.set j v))) := by
  constructor
  · rintro ⟨p', xs, k', j, h1, h2, h3⟩; cases h1; cases h2; exact ⟨xs, j, h3⟩
  · rintro ⟨xs, j, h⟩; exact ⟨p, xs, k, j, rfl, rfl, h⟩
end
section
variable {X : Cx} {K : PySem.W.Frag}
theorem pg_tupK {es : List Expr} {k : Nat} {t : TGs} {n : Nat} {pos : Pos} (h : X.K = K) (hc : X.calm = true) (hg : PGs X es t)
    (hn : (assignEach es X.env).length = n := by rfl) (hst : (assignEach es X.env).findIdx? (·.1) = none := by rfl) : PG X (.Tuple es k pos) (gTup K n t) := by
  subst h; exact pg_tup hc hg hn hst
end
/-! ### all but one address -/
def SameBut (p : Addr) (H H' : Hp) : Prop := ∀ b o, b ≠ p → H b = some o → H' b = some o
theorem SameBut.refl (p : Addr) (H : Hp) : SameBut p H H := fun _ _ _ e => e
theorem SameBut.trans {p : Addr} {H H' H'' : Hp} (h : SameBut p H H') (h' : SameBut p H' H'') : SameBut p H H'' := fun b o n e => h' b o n (h b o n e)
theorem Same.but {p : Addr} {H H' : Hp} (h : Same H H') : SameBut p H H' := fun b o _ e => h b o e
theorem SameBut.same {p : Addr} {H H' : Hp} (h : SameBut p H H') (hp : H p = none) : Same H H' := fun b o e => h b o (ne_of_none e hp) e

/-! ### a comprehension over a list or tuple whose values are known one by one -/
section
variable {p : Addr} {fv : St} {te : TE} {Q : VK} {H1 : Hp} {K : PySem.W.Frag}
theorem Same.tup {H H' : Hp} {a : Addr} {xs : List V} (e : Same H H') (h : SqT K H a xs) : SqT K H' a xs := by
  rcases h with (h | ⟨o, h⟩) | h
  · exact .inl (.inl (e _ _ h))
  · exact .inl (.inr ⟨o, e _ _ h⟩)
  · exact .inr h
variable {σ : St} {H : Hp} {tl : TE} {tt : TT} {fr : List Nat} {g : TG} {tb : TS} {D : Ends}
theorem rd_compT : tComp (iTup K tl) fr tt te σ H Q ↔ tl σ H fun x H1 => ∃ a, x = .ref a ∧ (∃ xs, SqT K H1 a xs) ∧ ∀ p, H1 p = none → CompI (Itt K a) p (frV σ fr) tt te Q H1 := Iff.rfl
theorem rd_forT : tFor (iTup K te) g tb D σ H ↔ te σ H fun x H1 => ∃ a, x = .ref a ∧ (∃ xs, SqT K H1 a xs) ∧ LoopI (Itt K a) g tb D σ H1 := Iff.rfl
theorem all_ref {a : Addr} : rAllB K [.ref a] H Q ↔ ∃ bs : List Bool, SqL K H a (bs.map V.bl) ∧ Q (.bl (bs.all id)) H := by
  constructor
  · rintro ⟨p, bs, h1, h2⟩; cases h1; exact ⟨bs, h2⟩
  · rintro ⟨bs, h⟩; exact ⟨a, bs, rfl, h⟩
theorem any_ref {a : Addr} : rAnyB K [.ref a] H Q ↔ ∃ bs : List Bool, SqL K H a (bs.map V.bl) ∧ Q (.bl (bs.any id)) H := by
  constructor
  · rintro ⟨p, bs, h1, h2⟩; cases h1; exact ⟨bs, h2⟩
  · rintro ⟨bs, h⟩; exact ⟨a, bs, rfl, h⟩
theorem li_ref {a : Addr} : rListU K [.ref a] H Q ↔ ∃ ys, (SqL K H a ys ∨ SqT K H a ys) ∧ ∀ l, H l = none → Q (.ref l) (upd H l (.lst ys)) := by
  constructor
  · rintro ⟨p, bs, h1, h2⟩; cases h1; exact ⟨bs, h2⟩
  · rintro ⟨bs, h⟩; exact ⟨a, bs, rfl, h⟩
theorem tu_ref {a : Addr} : rTupleU K [.ref a] H Q ↔ ∃ ys, (SqL K H a ys ∧ ∀ l, H l = none → Q (.ref l) (upd H l (.tup ys))) ∨ (SqT K H a ys ∧ Q (.ref a) H) := by
  constructor
  · rintro ⟨p, bs, h1, h2⟩; cases h1; exact ⟨bs, h2⟩
  · rintro ⟨bs, h⟩; exact ⟨a, bs, rfl, h⟩
theorem slT_ref {a : Addr} {lo hi : Option Int} : rSlT K (.ref a) lo hi H Q ↔ ∃ xs, SqT K H a xs ∧ ¬ (HT.sIx xs.length 0 lo = 0 ∧ HT.sIx xs.length xs.length hi = xs.length) ∧ ∀ p, H p = none → Q (.ref p) (upd H p (.tup (cutV xs lo hi))) := by
  constructor
  · rintro ⟨p, bs, h1, h2⟩; cases h1; exact ⟨bs, h2⟩
  · rintro ⟨bs, h⟩; exact ⟨a, bs, rfl, h⟩
end

/-! ### a block cut in two by what holds between -/
def tCut (t u : TS) : TS := fun D σ H => ∃ P : St → Hp → Prop, t { D with nx := P } σ H ∧ ∀ σ' H', P σ' H' → u D σ' H'
section
variable {X : Cx} {st : Stmt} {rest : List Stmt} {t u : TS}
theorem pss_cut (h1 : PS X st t) (h2 : PSs X rest u) : PSs X (st :: rest) (tCut t u) := by
  intro pins s σ H D I h
  obtain ⟨P, h, hu⟩ := h
  refine wpAny_execs_cons (thn (h1 pins s σ H { D with nx := P } I h) fun f s1 q => ?_)
  cases f with
  | next =>
    obtain ⟨σ', H', I', q⟩ := q
    exact h2 pins s1 σ' H' D I' (hu _ _ q)
  | ret v => exact q
  | brk => exact q
  | cont => exact q
/-- what is read only when it is come to: behind a cut, with the names' values at hand -/
def Later (u : TS) (D : Ends) (σ : St) (H : Hp) : Prop := u D σ H
theorem rd_later {D : Ends} {x : Option V} {σ : St} {H : Hp} : Later u D (x :: σ) H ↔ u D (x :: σ) H := Iff.rfl
theorem rd_cut {D : Ends} {σ : St} {H : Hp} : tCut t u D σ H ↔ ∃ P : St → Hp → Prop, t { D with nx := P } σ H ∧ ∀ σ' H', P σ' H' → Later u D σ' H' := Iff.rfl
end
theorem SameBut.free {p q : Addr} {H H' : Hp} (sb : SameBut p H H') (hq : H' q = none) (hne : q ≠ p) : H q = none := by
  cases e : H q with
  | none => rfl
  | some o => rw [sb q o hne e] at hq; cases hq
theorem SameBut.upd {p q : Addr} {H H' : Hp} {o : HO} (sb : SameBut p H H') (hq : H q = none) : SameBut p H (upd H' q o) := fun b u n e => by
  rw [upd_ne (ne_of_none e hq)]; exact sb b u n e
theorem IsTAll.strs {H : Hp} : ∀ (l : List (List Nat)), IsTAll H (l.map fun z => PyData.str ⟨z.toArray⟩) (l.map fun z => V.str ⟨z.toArray⟩)
  | [] => .nil
  | x :: r => .cons (.str _) (IsTAll.strs r)
theorem IsTAll.snoc {H : Hp} {ds : List PyData} {xs : List V} {d : PyData} {x : V} (h : IsTAll H ds xs) (hd : IsT H d x) : IsTAll H (ds ++ [d]) (xs ++ [x]) := h.append (.cons hd .nil)

/-! ### new objects, the heap behind them as any that holds them -/
theorem same_new {H : Hp} {p : Addr} {o : HO} (hp : H p = none) : Same H (upd H p o) := fun b u e => by rw [upd_ne (ne_of_none e hp)]; exact e
def tTupS (t : TA) : TE := fun σ H Q => t σ H fun xs H1 => xs.length ≤ sizeLine ∧ ∀ p H', H1 p = none → Same H1 H' → H' p = some (.tup xs) → Q (.ref p) H'
def tLstS (t : TA) : TE := fun σ H Q => t σ H fun xs H1 => xs.length ≤ sizeLine ∧ ∀ p H', H1 p = none → Same H1 H' → H' p = some (.lst xs) → Q (.ref p) H'
section
variable {X : Cx} {es : List Expr} {t : TA} {pos : Pos} {K : PySem.W.Frag}
theorem pe_tupS {x1} (h : PA X es t) : PE X (.Tuple es x1 pos) (tTupS t) := by
  intro pins s σ H Q I hq
  refine wpAny_Tuple_spliced (thn (h pos pins s σ H _ I hq) fun us s1 ⟨xs, H1, I1, r, z, q⟩ => ⟨by rw [← r.length]; exact z, ?_⟩)
  have hf : H1 s1.heap.objs.size = none := I1.hok.fresh (Nat.le_refl _)
  refine ⟨.ref s1.heap.objs.size, upd H1 s1.heap.objs.size (.tup xs), I1.laid (t' := s1.toks) (fun b u e => Heap.get?_push_of_some _ e) (Nat.le_refl _) ?_, rfl, q _ _ hf (same_new hf) upd_same⟩
  exact ⟨z, us, r, ⟨_, Heap.get?_push_size _ rfl, rfl, _, rfl⟩⟩
theorem pe_lstS (h : PA X es t) : PE X (.List es pos) (tLstS t) := by
  intro pins s σ H Q I hq
  refine wpAny_List_spliced (thn (h pos pins s σ H _ I hq) fun us s1 ⟨xs, H1, I1, r, z, q⟩ => ⟨by rw [← r.length]; exact z, ?_⟩)
  have hf : H1 s1.heap.objs.size = none := I1.hok.fresh (Nat.le_refl _)
  refine ⟨.ref s1.heap.objs.size, upd H1 s1.heap.objs.size (.lst xs), I1.laid (t' := s1.toks) (fun b u e => Heap.get?_push_of_some _ e) (Nat.le_refl _) ?_, rfl, q _ _ hf (same_new hf) upd_same⟩
  exact ⟨z, us, 0, r, Heap.get?_push_size _ rfl⟩
def rAddS (K : PySem.W.Frag) : R2 := fun x y H Q => match x, y with
  | .int i, .int j => Q (.int (i + j)) H
  | .str i, .str j => i.length + j.length ≤ sizeLine ∧ Q (.str (i ++ j)) H
  | .ref a, .ref b => (∃ xs zs, H a = some (.lst xs) ∧ H b = some (.lst zs) ∧ xs.length + zs.length ≤ sizeLine ∧ ∀ p H', H p = none → Same H H' → H' p = some (.lst (xs ++ zs)) → Q (.ref p) H') ∨
      (∃ xs ys, H a = some (.tup xs) ∧ H b = some (.tup ys) ∧ xs.length + ys.length ≤ sizeLine ∧ ∀ p H', Same H H' → H' p = some (.tup (xs ++ ys)) → Q (.ref p) H')
  | _, _ => False
theorem op_addS : OpR X (binaryOp .Add) (rAddS K) := by
  intro pins s σ H x y v u Q I rx ry h
  refine op_addU pins s σ H x y v u Q I rx ry ?_
  cases x with
  | int i =>
    cases y with
    | int j => exact h
    | _ => exact h.elim
  | str i =>
    cases y with
    | str j => exact h
    | _ => exact h.elim
  | ref a =>
    cases y with
    | ref b =>
      rcases h with ⟨xs, zs, h1, h2, h3, h4⟩ | h
      · exact .inl ⟨xs, zs, h1, h2, h3, fun p hp => h4 p _ hp (same_new hp) upd_same⟩
      · exact .inr h
    | _ => exact h.elim
  | _ => exact h.elim
def rListS (K : PySem.W.Frag) : List V → Hp → VK → Prop := fun xs H Q => ∃ p ys, xs = [.ref p] ∧ (SqL K H p ys ∨ SqT K H p ys) ∧ ∀ l H', H l = none → Same H H' → H' l = some (.lst ys) → Q (.ref l) H'
def rTupleS (K : PySem.W.Frag) : List V → Hp → VK → Prop := fun xs H Q => ∃ p ys, xs = [.ref p] ∧ (SqL K H p ys ∨ H p = some (.tup ys)) ∧ ∀ l H', Same H H' → H' l = some (.tup ys) → Q (.ref l) H'
theorem call_listS (h : X.K = K) : CallR X (.type "list") (rListS K) := by
  subst h
  intro pins s σ H xs us Q I r h
  obtain ⟨p, ys, h1, h2, h3⟩ := h
  exact call_list_of pins s σ H xs us Q I r ⟨p, ys, h1, h2, fun l hl => h3 l _ hl (same_new hl) upd_same⟩
def rSlS2 (K : PySem.W.Frag) : V → Option Int → Option Int → Hp → VK → Prop := fun x lo hi H Q => ∃ a xs, x = .ref a ∧ SqT K H a xs ∧
  ¬ (HT.sIx xs.length 0 lo = 0 ∧ HT.sIx xs.length xs.length hi = xs.length) ∧ ∀ p H', H p = none → Same H H' → H' p = some (.tup (cutV xs lo hi)) → Q (.ref p) H'
end
section
variable {σ : St} {H : Hp} {Q : VK} {K : PySem.W.Frag} {aa : TA}
theorem rd_tupS : tTupS aa σ H Q ↔ aa σ H fun xs H1 => xs.length ≤ sizeLine ∧ ∀ p H', H1 p = none → Same H1 H' → H' p = some (.tup xs) → Q (.ref p) H' := Iff.rfl
theorem rd_lstS : tLstS aa σ H Q ↔ aa σ H fun xs H1 => xs.length ≤ sizeLine ∧ ∀ p H', H1 p = none → Same H1 H' → H' p = some (.lst xs) → Q (.ref p) H' := Iff.rfl
theorem adS_int {i j : Int} : rAddS K (.int i) (.int j) H Q ↔ Q (.int (i + j)) H := Iff.rfl
theorem adS_str {i j : Str} : rAddS K (.str i) (.str j) H Q ↔ i.length + j.length ≤ sizeLine ∧ Q (.str (i ++ j)) H := Iff.rfl
theorem liS_ref {a : Addr} : rListS K [.ref a] H Q ↔ ∃ ys, (SqL K H a ys ∨ SqT K H a ys) ∧ ∀ l H', H l = none → Same H H' → H' l = some (.lst ys) → Q (.ref l) H' := by
  constructor
  · rintro ⟨p, bs, h1, h2⟩; cases h1; exact ⟨bs, h2⟩
  · rintro ⟨bs, h⟩; exact ⟨a, bs, rfl, h⟩
theorem tuS_ref {a : Addr} : rTupleS K [.ref a] H Q ↔ ∃ ys, (SqL K H a ys ∨ H a = some (.tup ys)) ∧ ∀ l H', Same H H' → H' l = some (.tup ys) → Q (.ref l) H' := by
  constructor
  · rintro ⟨p, bs, h1, h2⟩; cases h1; exact ⟨bs, h2⟩
  · rintro ⟨bs, h⟩; exact ⟨a, bs, rfl, h⟩
theorem slS_ref {a : Addr} {lo hi : Option Int} : rSlS2 K (.ref a) lo hi H Q ↔ ∃ xs, SqT K H a xs ∧ ¬ (HT.sIx xs.length 0 lo = 0 ∧ HT.sIx xs.length xs.length hi = xs.length) ∧ ∀ p H', H p = none → Same H H' → H' p = some (.tup (cutV xs lo hi)) → Q (.ref p) H' := by
  constructor
  · rintro ⟨p, bs, h1, h2⟩; cases h1; exact ⟨bs, h2⟩
  · rintro ⟨bs, h⟩; exact ⟨a, bs, rfl, h⟩
end

def rSlLS (K : PySem.W.Frag) : V → Option Int → Option Int → Hp → VK → Prop := fun x lo hi H Q => ∃ a xs, x = .ref a ∧ SqL K H a xs ∧ ∀ p H', H p = none → Same H H' → H' p = some (.lst (cutV xs lo hi)) → Q (.ref p) H'
theorem sl_listS {X : Cx} {K : PySem.W.Frag} (h : X.K = K) : SlR X (rSlLS K) := by
  subst h
  intro pins s σ H x v vl vu lo hi sl Q I rx hs pl pu h
  obtain ⟨a, xs, h1, h2, h3⟩ := h
  exact sl_list pins s σ H x v vl vu lo hi sl Q I rx hs pl pu ⟨a, xs, h1, h2, fun p hp => h3 p _ hp (same_new hp) upd_same⟩
theorem slLS_ref {K : PySem.W.Frag} {H : Hp} {Q : VK} {a : Addr} {lo hi : Option Int} : rSlLS K (.ref a) lo hi H Q ↔ ∃ xs, SqL K H a xs ∧ ∀ p H', H p = none → Same H H' → H' p = some (.lst (cutV xs lo hi)) → Q (.ref p) H' := by
  constructor
  · rintro ⟨p, bs, h1, h2⟩; cases h1; exact ⟨bs, h2⟩
  · rintro ⟨bs, h⟩; exact ⟨a, bs, rfl, h⟩

/-! ### is True, is False -/
def rIsB (neg : Bool) : R2 := fun x y H Q => match x, y with
  | .bl b, .bl c => Q (.bl (if neg then !decide (b = c) else decide (b = c))) H
  | _, _ => False
theorem isB_f {b c : Bool} {H : Hp} {Q : VK} : rIsB false (.bl b) (.bl c) H Q ↔ Q (.bl (decide (b = c))) H := Iff.rfl
end L2
namespace Wm
open PySem L2

/-! ### the signs, and what is told of them, over plain numbers -/
def isSg (c : Nat) : Bool := decide (32 ≤ c) && decide (c ≤ 126) && !decide (c = 37)
def SG : List Nat := (List.range 127).filter isSg
def hexd (n : Nat) : Nat := if n < 10 then 48 + n else 87 + n
def fig (a : Nat) : Option Nat := if 48 ≤ a ∧ a ≤ 57 then some (a - 48) else if 97 ≤ a ∧ a ≤ 102 then some (a - 87) else if 65 ≤ a ∧ a ≤ 70 then some (a - 55) else none
abbrev one (c : Nat) : V := .str ⟨#[c]⟩
theorem mem_SG {c : Nat} : c ∈ SG ↔ isSg c = true := by
  unfold SG
  rw [List.mem_filter, List.mem_range]
  constructor
  · exact fun h => h.2
  · intro h
    refine ⟨?_, h⟩
    simp only [isSg, Bool.and_eq_true, decide_eq_true_eq] at h
    omega
theorem isSg_lt {c : Nat} (h : isSg c = true) : 32 ≤ c ∧ c ≤ 126 ∧ c ≠ 37 := by
  simp only [isSg, Bool.and_eq_true, decide_eq_true_eq, Bool.not_eq_true', decide_eq_false_iff_not] at h
  omega
theorem SG_len : SG.length = 94 := by decide +kernel
/-! ### slices of a text as pieces of its list of signs -/
theorem pick_list (l : List Nat) (a : Nat) : ∀ k, ((List.range k).map fun j => a + j).filterMap (fun i => l[i]?) = (l.drop a).take k
  | 0 => by simp
  | k + 1 => by
    rw [List.range_succ, List.map_append, List.filterMap_append, pick_list l a k, List.take_add_one, List.getElem?_drop]
    simp only [List.map_cons, List.map_nil]
    cases e : l[a + k]? with
    | none => simp [e]
    | some c => simp [e]
def clipI (n : Nat) (v : Int) : Nat := (max 0 (min (if v < 0 then v + n else v) n)).toNat
theorem sl_range (a b : Nat) : sliceRange (a : Int) (b : Int) 1 = (List.range (b - a)).map fun j => a + j := by
  unfold sliceRange
  have h1 : (1 : Int) > 0 := by decide
  simp only [h1, if_true, Int.one_mul, Int.ediv_one]
  have e : (if (a : Int) < (b : Int) then (b : Int) - (a : Int) + 1 - 1 else 0).toNat = b - a := by split <;> omega
  rw [e]
  apply List.map_congr_left
  intro j _
  omega
theorem indices_gen (lo hi : Option Int) (n : Nat) : Builtin.Str.strSliceIndices lo hi 1 n = (List.range ((hi.elim n (clipI n)) - (lo.elim 0 (clipI n)))).map fun j => (lo.elim 0 (clipI n)) + j := by
  unfold Builtin.Str.strSliceIndices
  have h1 : (1 : Int) > 0 := by decide
  simp only [h1, if_true]
  rw [← sl_range]
  congr 1
  · cases lo with
    | none => rfl
    | some v => simp only [Option.elim_some, clipI]; omega
  · cases hi with
    | none => rfl
    | some v => simp only [Option.elim_some, clipI]; omega
theorem slice_gen (l : List Nat) (lo hi : Option Int) : Txt.slice (⟨l.toArray⟩ : Str) lo hi = ⟨((l.drop (lo.elim 0 (clipI l.length))).take ((hi.elim l.length (clipI l.length)) - (lo.elim 0 (clipI l.length)))).toArray⟩ := by
  have hl : (⟨l.toArray⟩ : Str).length = l.length := by simp [Str.length]
  have hb : hi.elim l.length (clipI l.length) ≤ l.length := by
    cases hi with
    | none => exact Nat.le_refl _
    | some v => simp only [Option.elim_some, clipI]; omega
  have hb' : lo.elim 0 (clipI l.length) ≤ l.length := by
    cases lo with
    | none => exact Nat.zero_le _
    | some v => simp only [Option.elim_some, clipI]; omega
  have ef : (fun i : Nat => (⟨l.toArray⟩ : Str).cps[i]?) = fun i => l[i]? := by funext i; simp
  unfold Txt.slice
  rw [hl, indices_gen, ef]
  split
  · rename_i h
    simp only [List.length_map, List.length_range, beq_self_eq_true, Bool.true_and, beq_iff_eq] at h
    have e1 : lo.elim 0 (clipI l.length) = 0 := by omega
    have e2 : hi.elim l.length (clipI l.length) = l.length := by omega
    rw [e1, e2]
    simp
  · rw [pick_list l (lo.elim 0 (clipI l.length)) ((hi.elim l.length (clipI l.length)) - (lo.elim 0 (clipI l.length)))]
theorem clip_nat (n k : Nat) : clipI n (k : Int) = min k n := by unfold clipI; split <;> omega
theorem slice_from (l : List Nat) (k : Nat) : Txt.slice (⟨l.toArray⟩ : Str) (some (k : Int)) none = ⟨(l.drop k).toArray⟩ := by
  rw [slice_gen]
  simp only [Option.elim_some, Option.elim_none, clip_nat]
  by_cases h : k ≤ l.length
  · rw [Nat.min_eq_left h, List.take_of_length_le (by simp)]
  · rw [Nat.min_eq_right (by omega), List.drop_eq_nil_of_le (Nat.le_refl _), List.drop_eq_nil_of_le (by omega)]
    simp
theorem slice_to (l : List Nat) (k : Nat) : Txt.slice (⟨l.toArray⟩ : Str) none (some (k : Int)) = ⟨(l.take k).toArray⟩ := by
  rw [slice_gen]
  simp only [Option.elim_some, Option.elim_none, clip_nat, List.drop_zero, Nat.sub_zero]
  by_cases h : k ≤ l.length
  · rw [Nat.min_eq_left h]
  · rw [Nat.min_eq_right (by omega), List.take_length, List.take_of_length_le (by omega)]
theorem slice_mid (l : List Nat) (i j : Nat) : Txt.slice (⟨l.toArray⟩ : Str) (some (i : Int)) (some (j : Int)) = ⟨((l.drop i).take (j - i)).toArray⟩ := by
  rw [slice_gen]
  simp only [Option.elim_some, clip_nat]
  by_cases h : i ≤ l.length
  · rw [Nat.min_eq_left h]
    by_cases h2 : j ≤ l.length
    · rw [Nat.min_eq_left h2]
    · rw [Nat.min_eq_right (by omega : l.length ≤ j), List.take_of_length_le (by simp), List.take_of_length_le (by simp; omega)]
  · rw [Nat.min_eq_right (by omega : l.length ≤ i), List.drop_eq_nil_of_le (Nat.le_refl _), List.drop_eq_nil_of_le (by omega)]
    simp
theorem emp_eq : Str.ofString "" = ⟨([] : List Nat).toArray⟩ := by decide +kernel
theorem join_one (ys : List Str) : Txt.join (⟨([] : List Nat).toArray⟩ : Str) ys = ⟨(ys.flatMap fun y => y.cps.toList).toArray⟩ := by
  show Builtin.Str.glued _ _ = _
  rw [StrLaws.glued_eq_join]
  induction ys with
  | nil => rfl
  | cons y r ih =>
    cases r with
    | nil =>
      show y = _
      simp
    | cons z r =>
      show y ++ (⟨#[]⟩ : Str) ++ Str.join ⟨#[]⟩ (z :: r) = _
      rw [ih]
      show Str.mk (y.cps ++ #[] ++ _) = _
      simp [List.flatMap_cons]
theorem mk_app (l m : List Nat) : ((⟨l.toArray⟩ : Str) ++ (⟨m.toArray⟩ : Str)) = ⟨(l ++ m).toArray⟩ := by
  show Str.mk (l.toArray ++ m.toArray) = _
  simp
theorem mk_inj {l m : List Nat} : ((⟨l.toArray⟩ : Str) = ⟨m.toArray⟩) ↔ l = m := by
  constructor
  · intro h; injection h with h; injection h
  · rintro rfl; rfl
theorem mk_len (l : List Nat) : (⟨l.toArray⟩ : Str).length = l.length := by simp [Str.length]

theorem tilde_eq : Str.ofString "~" = ⟨[126].toArray⟩ := by decide +kernel
theorem slice_1 (l : List Nat) : Txt.slice (⟨l.toArray⟩ : Str) (some 1) none = ⟨(l.drop 1).toArray⟩ := slice_from l 1
theorem at_mod' (l : List Nat) (m k : Int) (h0 : 0 < k) (h : k ≤ l.length) : ∃ a, a ∈ l ∧ atI l (m % k) = some a := by
  have h1 := Int.emod_nonneg m (show k ≠ 0 by omega)
  have h2 := Int.emod_lt_of_pos m h0
  have h3 : (m % k).toNat < l.length := by omega
  refine ⟨l[(m % k).toNat], List.getElem_mem _, ?_⟩
  have := atI_nat (xs := l) (j := (m % k).toNat) (v := l[(m % k).toNat]) (by simp [h3])
  rw [Int.toNat_of_nonneg h1] at this
  exact this
/-! ### written texts -/
def isPl (c : Nat) : Bool := decide (48 ≤ c ∧ c ≤ 57) || decide (65 ≤ c ∧ c ≤ 90) || decide (97 ≤ c ∧ c ≤ 122) || decide (c = 45) || decide (c = 46) || decide (c = 95)
def wr1 (c : Nat) : List Nat := if isPl c then [c] else [126, hexd (c / 16), hexd (c % 16)]
def wr (l : List Nat) : List Nat := l.flatMap wr1
theorem wr1_len (c : Nat) : (wr1 c).length ≤ 3 := by unfold wr1; split <;> simp
theorem wr_len (l : List Nat) : (wr l).length ≤ 3 * l.length := by
  induction l with
  | nil => simp [wr]
  | cons c r ih =>
    have := wr1_len c
    unfold wr at ih ⊢
    rw [List.flatMap_cons, List.length_append, List.length_cons]
    omega
/-! ### texts undone -/
def sgO (a b : Nat) : Option Nat := match fig a, fig b with
  | some h, some l => if isSg (h * 16 + l) then some (h * 16 + l) else none
  | _, _ => none
/-! ### what the laws draw -/
theorem cell_of {ns : List Int} {k : Nat} (h : k < ns.length) : atI (ns.map V.int) (k : Int) = some (.int (ns.getD k 0)) := by
  refine atI_nat ?_
  rw [List.getElem?_map, List.getElem?_eq_getElem h, List.getD_eq_getElem?_getD, List.getElem?_eq_getElem h]
  rfl
theorem le_line {n : Nat} (h : n ≤ 100000) : n ≤ sizeLine := Nat.le_trans h (by decide)
theorem map_arr (f : Nat → Nat) (l : List Nat) : (l.toArray).map f = (l.map f).toArray := by simp
theorem mk_list (l : List Nat) : (⟨l.toArray⟩ : Str).cps.toList = l := rfl
theorem at_modV (xs : List V) (m k : Int) (h0 : 0 < k) (h : k ≤ xs.length) : ∃ a, a ∈ xs ∧ atI xs (m % k) = some a := by
  have h1 := Int.emod_nonneg m (show k ≠ 0 by omega)
  have h2 := Int.emod_lt_of_pos m h0
  have h3 : (m % k).toNat < xs.length := by omega
  refine ⟨xs[(m % k).toNat], List.getElem_mem _, ?_⟩
  have := atI_nat (xs := xs) (j := (m % k).toNat) (v := xs[(m % k).toNat]) (by simp [h3])
  rw [Int.toNat_of_nonneg h1] at this
  exact this
end Wm
/-! ADDRESSES as data: what is_address tells, over trees -/
namespace Wm
open PySem L2
mutual
def smallD : PyData → Bool
  | .str x => decide (x.length ≤ 100000)
  | .list xs => decide (xs.length ≤ 100000) && smallAll xs
  | .tuple xs => decide (xs.length ≤ 100000) && smallAll xs
  | .dict _ => false
  | .none => true
  | .bool _ => true
  | .int _ => true
def smallAll : List PyData → Bool
  | [] => true
  | d :: ds => smallD d && smallAll ds
end
theorem smallAll_of : ∀ {ds : List PyData}, (∀ d ∈ ds, smallD d = true) → smallAll ds = true
  | [], _ => rfl
  | d :: ds, h => by
    simp only [smallAll, Bool.and_eq_true]
    exact ⟨h d List.mem_cons_self, smallAll_of fun e he => h e (List.mem_cons_of_mem _ he)⟩
theorem small_tup_of {ds : List PyData} (h : ds.length ≤ 100000) (h2 : smallAll ds = true) : smallD (.tuple ds) = true := by simp [smallD, h, h2]
def isLet (c : Nat) : Bool := decide (65 ≤ c ∧ c ≤ 90) || decide (97 ≤ c ∧ c ≤ 122)
def isAln (c : Nat) : Bool := isLet c || decide (48 ≤ c ∧ c ≤ 57)
def ftx : PyData → Bool
  | .str x => x.cps.toList.all isSg && decide (0 < x.length)
  | _ => false
def ntx : PyData → Bool
  | .none => true
  | .str x => x.cps.toList.all isSg
  | _ => false
def schD : PyData → Bool
  | .str x => x.cps.toList.all isSg && decide (x.length ≤ 8) && (x.cps.toList.take 1).all isLet && x.cps.toList.all isAln
  | _ => false
def houD : PyData → Bool
  | .none => true
  | .str x => x.cps.toList.all isSg && decide (0 < x.length) && decide (x.length ≤ 60)
  | _ => false
def dooD : PyData → Bool
  | .none => true
  | .int i => decide (0 ≤ i) && decide (i ≤ 65535)
  | _ => false
def wayD : PyData → Bool
  | .tuple [a, b, c] => match a, b, c with
    | .bool r, .tuple ds, .bool e => ds.all ftx && (decide (0 < ds.length) || decide (r = e))
    | _, _, _ => false
  | _ => false
def askD : PyData → Bool
  | .tuple [a, b] => ftx a && ntx b
  | _ => false
def queD : PyData → Bool
  | .none => true
  | .tuple ds => ds.all askD
  | _ => false
def nonD : PyData → Bool
  | .none => true
  | _ => false
def agrD (a b c d : PyData) : Bool := (nonD c || !nonD b) && ((match d with | .tuple (.bool r :: _) => r | _ => false) || !((match a with | .str x => !decide (x = ⟨#[]⟩) | _ => false) || !nonD b))
def addrD : PyData → Bool
  | .tuple [a, b, c, d, e, f] => (schD a && (houD b && (dooD c && (wayD d && (queD e && ntx f))))) && agrD a b c d
  | _ => false
/-! ### an address -/
abbrev st (l : List Nat) : PyData := .str ⟨l.toArray⟩
def oD : Option (List Nat) → PyData
  | none => .none
  | some l => st l
def iD : Option Int → PyData
  | none => .none
  | some i => .int i
def qD : Option (List (List Nat × Option (List Nat))) → PyData
  | none => .none
  | some ps => .tuple (ps.map fun p => .tuple [st p.1, oD p.2])
structure Ad where
  scheme : List Nat
  house : Option (List Nat)
  door : Option Int
  rooted : Bool
  steps : List (List Nat)
  ends : Bool
  quest : Option (List (List Nat × Option (List Nat)))
  mark : Option (List Nat)
def Ad.way (x : Ad) : PyData := .tuple [.bool x.rooted, .tuple (x.steps.map st), .bool x.ends]
def Ad.data (x : Ad) : PyData := .tuple [st x.scheme, oD x.house, iD x.door, x.way, qD x.quest, oD x.mark]
/-- a text of signs of at most so many -/
def Tx (n : Nat) (l : List Nat) : Prop := l.length ≤ n ∧ ∀ c ∈ l, isSg c = true
structure Ad.Ok (x : Ad) : Prop where
  sch : x.scheme.length ≤ 8 ∧ (∀ c ∈ x.scheme, isAln c = true) ∧ ∀ c ∈ x.scheme.take 1, isLet c = true
  hou : ∀ l, x.house = some l → 0 < l.length ∧ Tx 60 l
  doo : ∀ i, x.door = some i → (0 ≤ i ∧ i ≤ 65535) ∧ x.house ≠ none
  stp : x.steps.length ≤ 50 ∧ ∀ l ∈ x.steps, 0 < l.length ∧ Tx 60 l
  roo : x.scheme ≠ [] ∨ x.house ≠ none → x.rooted = true
  end_ : x.steps = [] → x.ends = x.rooted
  que : ∀ ps, x.quest = some ps → ps.length ≤ 20 ∧ ∀ p ∈ ps, (0 < p.1.length ∧ Tx 6 p.1) ∧ ∀ v, p.2 = some v → Tx 6 v
  mar : ∀ l, x.mark = some l → Tx 60 l
theorem aln_sg {c : Nat} (h : isAln c = true) : isSg c = true := by
  simp only [isAln, isLet, Bool.or_eq_true, decide_eq_true_eq] at h
  simp only [isSg, Bool.and_eq_true, decide_eq_true_eq, Bool.not_eq_true', decide_eq_false_iff_not]
  omega
theorem st_len (l : List Nat) : (⟨l.toArray⟩ : Str).length = l.length := mk_len l
theorem small_st {l : List Nat} {n : Nat} (h : Tx n l) (hn : n ≤ 100000) : smallD (st l) = true := by
  simp only [smallD, st_len, decide_eq_true_eq]
  have := h.1
  omega
theorem small_oD {o : Option (List Nat)} {n : Nat} (h : ∀ l, o = some l → Tx n l) (hn : n ≤ 100000) : smallD (oD o) = true := by
  cases o with
  | none => rfl
  | some l => exact small_st (h l rfl) hn
theorem Ad.Ok.smallWay {x : Ad} (h : x.Ok) : smallD x.way = true := by
  have h1 : smallD (.tuple (x.steps.map st)) = true := small_tup_of (by rw [List.length_map]; have := h.stp.1; omega) (smallAll_of fun d hd => by
    obtain ⟨l, hl, rfl⟩ := List.mem_map.mp hd
    exact small_st (h.stp.2 l hl).2 (by decide))
  exact small_tup_of (by simp) (by simp only [smallAll, h1]; rfl)
theorem Ad.Ok.smallQ {x : Ad} (h : x.Ok) : smallD (qD x.quest) = true := by
  cases e : x.quest with
  | none => rfl
  | some ps =>
    have hq := h.que ps e
    refine small_tup_of (by rw [List.length_map]; have := hq.1; omega) (smallAll_of fun d hd => ?_)
    obtain ⟨p, hp, rfl⟩ := List.mem_map.mp hd
    obtain ⟨h1, h2⟩ := hq.2 p hp
    exact small_tup_of (by simp) (by simp only [smallAll, small_st h1.2 (by decide), small_oD h2 (by decide)]; rfl)
theorem Ad.Ok.smallS {x : Ad} (h : x.Ok) : smallD (st x.scheme) = true := small_st ⟨h.sch.1, fun c hc => aln_sg (h.sch.2.1 c hc)⟩ (by decide)
theorem Ad.Ok.smallH {x : Ad} (h : x.Ok) : smallD (oD x.house) = true := small_oD (fun l e => (h.hou l e).2) (by decide)
theorem Ad.Ok.smallI {x : Ad} (h : x.Ok) : smallD (iD x.door) = true := by cases x.door <;> rfl
theorem Ad.Ok.smallM {x : Ad} (h : x.Ok) : smallD (oD x.mark) = true := small_oD h.mar (by decide)
theorem Ad.Ok.small {x : Ad} (h : x.Ok) : smallD x.data = true :=
  small_tup_of (by simp) (by simp only [smallAll, h.smallS, h.smallH, h.smallI, h.smallWay, h.smallQ, h.smallM]; rfl)

/-! ### decks that are drawn from -/
def Deck (H : Hp) (p : Addr) (n : Nat) : Prop := ∃ a b c : Int, H p = some (.lst [.int a, .int b, .int c]) ∧ 0 ≤ c ∧ c ≤ n
theorem Deck.lst {H : Hp} {p : Addr} {n : Nat} (h : Deck H p n) : ∃ xs, H p = some (.lst xs) := by obtain ⟨a, b, c, h, _⟩ := h; exact ⟨_, h⟩
theorem Deck.le {H : Hp} {p : Addr} {n m : Nat} (h : Deck H p n) (hm : n ≤ m) : Deck H p m := by obtain ⟨a, b, c, h, h1, h2⟩ := h; exact ⟨a, b, c, h, h1, by omega⟩
theorem Deck.same {H H' : Hp} {p : Addr} {n : Nat} (h : Deck H p n) (sm : Same H H') : Deck H' p n := by obtain ⟨a, b, c, h, r⟩ := h; exact ⟨a, b, c, sm _ _ h, r⟩
theorem Deck.ne {H : Hp} {p q : Addr} {n : Nat} (h : Deck H p n) (hq : H q = none) : q ≠ p := by
  obtain ⟨xs, e⟩ := h.lst
  exact (ne_of_none e hq).symm
theorem Deck.upd {H : Hp} {p q : Addr} {n : Nat} {o : HO} (h : Deck H p n) (hq : q ≠ p) : Deck (upd H q o) p n := by
  obtain ⟨a, b, c, h, r⟩ := h
  exact ⟨a, b, c, by rw [upd_ne (Ne.symm hq)]; exact h, r⟩
theorem mk_nil {l : List Nat} : ((⟨l.toArray⟩ : Str) = ⟨#[]⟩) ↔ l = [] := mk_inj (m := [])

/-! ### things that are none -/
def Bad (f : PyData → Bool) (H : Hp) (v : V) : Prop := ∃ d, Is H d v ∧ smallD d = true ∧ f d = false
theorem Bad.mono {f : PyData → Bool} {H H' : Hp} {v : V} (h : Bad f H v) (sm : Same H H') : Bad f H' v := by
  obtain ⟨d, h1, h2⟩ := h
  exact ⟨d, h1.mono sm, h2⟩
def Bads (f : PyData → Bool) (H : Hp) (vs : List V) : Prop := ∀ v ∈ vs, Bad f H v
theorem Bads.nil {f : PyData → Bool} {H : Hp} : Bads f H [] := fun v h => absurd h (by simp)
theorem Bads.cons {f : PyData → Bool} {H : Hp} {v : V} {vs : List V} (h : Bad f H v) (r : Bads f H vs) : Bads f H (v :: vs) := fun w hw => by
  rcases List.mem_cons.mp hw with rfl | hw
  · exact h
  · exact r w hw
theorem Bads.mono {f : PyData → Bool} {H H' : Hp} {vs : List V} (h : Bads f H vs) (sm : Same H H') : Bads f H' vs := fun v hv => (h v hv).mono sm
/-! ### one list left out of sight (it will be written to) -/
def HQ (qo : Option Addr) (H : Hp) : Prop := ∀ q, qo = some q → ∃ xs, H q = some (.lst xs)
theorem HQ.mono {qo : Option Addr} {H H' : Hp} (h : HQ qo H) (sm : Same H H') : HQ qo H' := fun q e => by
  obtain ⟨xs, hx⟩ := h q e
  exact ⟨xs, sm _ _ hx⟩
/-- six things of which one is none of its kind -/
def BadL (H : Hp) (xs : List V) : Prop := ∃ ds, IsAll H ds xs ∧ ds.length = 6 ∧ smallAll ds = true ∧ addrD (.tuple ds) = false

theorem same_over {q : Addr} {H H' : Hp} {o : HO} (hq : H q = none) (sm : Same H H') : Same H (upd H' q o) := fun b u e => by
  rw [upd_ne (ne_of_none e hq)]; exact sm _ _ e
theorem BadL.mono {H H' : Hp} {xs : List V} (h : BadL H xs) (sm : Same H H') : BadL H' xs := by
  obtain ⟨ds, r, h⟩ := h
  exact ⟨ds, r.mono sm, h⟩
end Wm
/-! SHOWING, as mathematics: the text of an address; unlike addresses have unlike texts -/
namespace Wm
open PySem L2
def dg (i : Int) : List Nat := (Str.ofString (toString i)).cps.toList
theorem dg_fig {i : Int} (hi : 0 ≤ i) : ∀ c ∈ dg i, 48 ≤ c ∧ c ≤ 57 := by
  intro c hc
  obtain ⟨n, rfl⟩ := Int.eq_ofNat_of_zero_le hi
  unfold dg at hc
  rw [PySem.W.KIN.signs_num, List.mem_map] at hc
  obtain ⟨d, hd, rfl⟩ := hc
  have := Nat.isDigit_of_mem_toDigits (by decide) (by decide) hd
  simp only [Char.isDigit, Bool.and_eq_true, decide_eq_true_eq] at this
  exact ⟨this.1, this.2⟩
theorem dg_len {i : Int} (hi : 0 ≤ i) (hi' : i ≤ 65535) : (dg i).length ≤ 5 := by
  have := PyProof.Rows.toString_length_le hi (k := 5) (by decide) (by omega)
  simpa [dg, Str.length] using this

/-! ### cutting at the first sign that parts -/
def Hd (p : Nat → Bool) (r : List Nat) : Prop := ∀ c r', r = c :: r' → p c = true
theorem Hd.nil {p : Nat → Bool} : Hd p [] := fun c r' h => by cases h
theorem Hd.cons {p : Nat → Bool} {c : Nat} {r : List Nat} (h : p c = true) : Hd p (c :: r) := fun d r' e => by injection e with e; exact e ▸ h
/-! ### what is written -/
def wch (c : Nat) : Bool := isPl c || decide (c = 126)
theorem hexd_pl : ∀ n, n < 16 → isPl (hexd n) = true := by decide +kernel
theorem wr_ch {l : List Nat} (h : ∀ c ∈ l, isSg c = true) : ∀ c ∈ wr l, wch c = true := by
  intro c hc
  unfold wr at hc
  obtain ⟨d, hd, hc⟩ := List.mem_flatMap.mp hc
  have := isSg_lt (h d hd)
  unfold wr1 at hc
  split at hc
  · next hp => rw [List.mem_singleton] at hc; rw [hc, wch, hp]; rfl
  · simp only [List.mem_cons, List.not_mem_nil, or_false] at hc
    rcases hc with rfl | rfl | rfl
    · rfl
    · rw [wch, hexd_pl _ (by omega)]; rfl
    · rw [wch, hexd_pl _ (by omega)]; rfl
theorem aln_wch {c : Nat} (h : isAln c = true) : wch c = true := by
  simp only [isAln, isLet, Bool.or_eq_true, decide_eq_true_eq] at h
  simp only [wch, isPl, Bool.or_eq_true, decide_eq_true_eq]
  omega
/-! ### pieces with a sign between two -/
def tlT (sep : Nat) : List (List Nat) → List Nat
  | [] => []
  | s :: r => sep :: (s ++ tlT sep r)
def joinT (sep : Nat) : List (List Nat) → List Nat
  | [] => []
  | s :: r => s ++ tlT sep r
def Free (sep : Nat) (ss : List (List Nat)) : Prop := ∀ s ∈ ss, ∀ c ∈ s, c ≠ sep
theorem Free.hd {sep : Nat} {s : List Nat} {ss : List (List Nat)} (h : Free sep (s :: ss)) : ∀ c ∈ s, (fun c => decide (c = sep)) c = false := fun c hc => decide_eq_false (h s (List.mem_cons_self ..) c hc)
theorem Free.tl {sep : Nat} {s : List Nat} {ss : List (List Nat)} (h : Free sep (s :: ss)) : Free sep ss := fun t ht => h t (List.mem_cons_of_mem _ ht)
theorem tl_all {sep : Nat} {P : Nat → Prop} (hs : P sep) : ∀ {a : List (List Nat)}, (∀ s ∈ a, ∀ c ∈ s, P c) → ∀ c ∈ tlT sep a, P c
  | [], _, c, hc => by cases hc
  | s :: a, h, c, hc => by
    simp only [tlT, List.mem_cons, List.mem_append] at hc
    rcases hc with rfl | hc | hc
    · exact hs
    · exact h s (List.mem_cons_self ..) c hc
    · exact tl_all hs (fun t ht => h t (List.mem_cons_of_mem _ ht)) c hc
theorem join_all {sep : Nat} {P : Nat → Prop} (hs : P sep) {a : List (List Nat)} (h : ∀ s ∈ a, ∀ c ∈ s, P c) : ∀ c ∈ joinT sep a, P c := by
  intro c hc
  match a with
  | [] => cases hc
  | s :: a =>
    simp only [joinT, List.mem_append] at hc
    rcases hc with hc | hc
    · exact h s (List.mem_cons_self ..) c hc
    · exact tl_all hs (fun t ht => h t (List.mem_cons_of_mem _ ht)) c hc

/-! ### the parts of an address, and the whole -/
def oT (sep : Nat) : Option (List Nat) → List Nat
  | none => []
  | some l => sep :: wr l
def pairT (p : List Nat × Option (List Nat)) : List Nat := wr p.1 ++ oT 61 p.2
def queT : Option (List (List Nat × Option (List Nat))) → List Nat
  | none => []
  | some ps => 63 :: joinT 38 (ps.map pairT)
def wayT (r : Bool) (ss : List (List Nat)) (e : Bool) : List Nat := (if r then [47] else []) ++ (joinT 47 (ss.map wr) ++ (if e && !ss.isEmpty then [47] else []))
def dooT : Option Int → List Nat
  | none => []
  | some i => 58 :: dg i
def houT : Option (List Nat) → List Nat
  | none => []
  | some l => 47 :: 47 :: wr l
def schT (s : List Nat) : List Nat := if s = [] then [] else s ++ [58]
def Ad.wayT (x : Ad) : List Nat := Wm.wayT x.rooted x.steps x.ends
def Ad.shw (x : Ad) : List Nat := schT x.scheme ++ (houT x.house ++ (dooT x.door ++ (x.wayT ++ (queT x.quest ++ oT 35 x.mark))))
theorem oT_all {sep : Nat} {P : Nat → Prop} (hs : P sep) (hw : ∀ c, wch c = true → P c) {o : Option (List Nat)} (h : ∀ l, o = some l → ∀ c ∈ l, isSg c = true) : ∀ c ∈ oT sep o, P c := by
  intro c hc
  cases o with
  | none => cases hc
  | some l =>
    simp only [oT, List.mem_cons] at hc
    rcases hc with rfl | hc
    · exact hs
    · exact hw c (wr_ch (h l rfl) c hc)
/-- a pair whose name has a sign, of signs -/
def PairOk (p : List Nat × Option (List Nat)) : Prop := (0 < p.1.length ∧ ∀ c ∈ p.1, isSg c = true) ∧ ∀ v, p.2 = some v → ∀ c ∈ v, isSg c = true
theorem pair_all {P : Nat → Prop} (hs : P 61) (hw : ∀ c, wch c = true → P c) {p : List Nat × Option (List Nat)} (h : PairOk p) : ∀ c ∈ pairT p, P c := by
  intro c hc
  rcases List.mem_append.mp hc with hc | hc
  · exact hw c (wr_ch h.1.2 c hc)
  · exact oT_all hs hw h.2 c hc
def StepOk (s : List Nat) : Prop := 0 < s.length ∧ ∀ c ∈ s, isSg c = true
def stpT (ss : List (List Nat)) (e : Bool) : List Nat := joinT 47 (ss.map wr) ++ (if e && !ss.isEmpty then [47] else [])
theorem wayT_eq (r : Bool) (ss : List (List Nat)) (e : Bool) : wayT r ss e = (if r then [47] else []) ++ stpT ss e := rfl
/-- what the document asks of an address, without the bounds of those that are drawn -/
structure Ad.Wf (x : Ad) : Prop where
  sch : x.scheme.length ≤ 8 ∧ (∀ c ∈ x.scheme, isAln c = true) ∧ ∀ c ∈ x.scheme.take 1, isLet c = true
  hou : ∀ l, x.house = some l → (0 < l.length ∧ l.length ≤ 60) ∧ ∀ c ∈ l, isSg c = true
  doo : ∀ i, x.door = some i → (0 ≤ i ∧ i ≤ 65535) ∧ x.house ≠ none
  stp : ∀ s ∈ x.steps, StepOk s
  roo : x.scheme ≠ [] ∨ x.house ≠ none → x.rooted = true
  end_ : x.steps = [] → x.ends = x.rooted
  que : ∀ ps, x.quest = some ps → ∀ p ∈ ps, PairOk p
  mar : ∀ l, x.mark = some l → ∀ c ∈ l, isSg c = true
theorem Ad.Ok.wf {x : Ad} (h : x.Ok) : x.Wf where
  sch := h.sch
  hou := fun l e => ⟨⟨(h.hou l e).1, (h.hou l e).2.1⟩, (h.hou l e).2.2⟩
  doo := h.doo
  stp := fun s hs => ⟨(h.stp.2 s hs).1, (h.stp.2 s hs).2.2⟩
  roo := h.roo
  end_ := h.end_
  que := fun ps e p hp => ⟨⟨((h.que ps e).2 p hp).1.1, ((h.que ps e).2 p hp).1.2.2⟩, fun v hv => (((h.que ps e).2 p hp).2 v hv).2⟩
  mar := fun l e => (h.mar l e).2
/-- house, door and way -/
def Ad.mid (x : Ad) : List Nat := houT x.house ++ (dooT x.door ++ x.wayT)
def Ad.pre (x : Ad) : List Nat := schT x.scheme ++ x.mid
theorem Ad.shw_eq (x : Ad) : x.shw = (x.pre ++ queT x.quest) ++ oT 35 x.mark := by simp [Ad.shw, Ad.pre, Ad.mid]
theorem stp_all {P : Nat → Prop} (hs : P 47) (hw : ∀ c, wch c = true → P c) {ss : List (List Nat)} {e : Bool} (h : ∀ s ∈ ss, StepOk s) : ∀ c ∈ stpT ss e, P c := by
  intro c hc
  rcases List.mem_append.mp hc with hc | hc
  · refine join_all hs (fun s hs' d hd => ?_) c hc
    obtain ⟨t, ht, rfl⟩ := List.mem_map.mp hs'
    exact hw d (wr_ch (h t ht).2 d hd)
  · split at hc
    · rw [List.mem_singleton.mp hc]; exact hs
    · cases hc
theorem way_all {P : Nat → Prop} (hs : P 47) (hw : ∀ c, wch c = true → P c) {r : Bool} {ss : List (List Nat)} {e : Bool} (h : ∀ s ∈ ss, StepOk s) : ∀ c ∈ wayT r ss e, P c := by
  intro c hc
  rw [wayT_eq] at hc
  rcases List.mem_append.mp hc with hc | hc
  · split at hc
    · rw [List.mem_singleton.mp hc]; exact hs
    · cases hc
  · exact stp_all hs hw h c hc
theorem dig_wch {c : Nat} (h : 48 ≤ c ∧ c ≤ 57) : wch c = true := by
  simp only [wch, isPl, Bool.or_eq_true, decide_eq_true_eq]; omega
theorem Ad.Wf.pre_all {P : Nat → Prop} {x : Ad} (h : x.Wf) (h1 : P 47) (h2 : P 58) (hw : ∀ c, wch c = true → P c) : ∀ c ∈ x.pre, P c := by
  intro c hc
  rcases List.mem_append.mp hc with hc | hc
  · unfold schT at hc
    split at hc
    · cases hc
    · rcases List.mem_append.mp hc with hc | hc
      · exact hw c (aln_wch (h.sch.2.1 c hc))
      · rw [List.mem_singleton.mp hc]; exact h2
  rcases List.mem_append.mp hc with hc | hc
  · cases hh : x.house with
    | none => rw [hh] at hc; cases hc
    | some l =>
      rw [hh] at hc
      simp only [houT, List.mem_cons] at hc
      rcases hc with rfl | rfl | hc
      · exact h1
      · exact h1
      · exact hw c (wr_ch (h.hou l hh).2 c hc)
  rcases List.mem_append.mp hc with hc | hc
  · cases hd : x.door with
    | none => rw [hd] at hc; cases hc
    | some i =>
      rw [hd] at hc
      simp only [dooT, List.mem_cons] at hc
      rcases hc with rfl | hc
      · exact h2
      · exact hw c (dig_wch (dg_fig (h.doo i hd).1.1 c hc))
  · exact way_all h1 hw h.stp c hc
/-! ### addresses as data: when two are ==, and that == may be asked of them -/
def LayAt (n : Nat) (d : PyData) : Prop := d.canLay0 = true ∧ d.depth ≤ n
theorem LayAt.shaped {n : Nat} {d : PyData} (h : LayAt n d) (hn : n ≤ 64) : SeqAt.shaped d = true := by
  unfold SeqAt.shaped; rw [h.1, decide_eq_true (Nat.le_trans h.2 hn)]; rfl
theorem LayAt.le {n m : Nat} {d : PyData} (h : LayAt n d) (hn : n ≤ m) : LayAt m d := ⟨h.1, Nat.le_trans h.2 hn⟩
theorem layAll {n : Nat} : ∀ {ds : List PyData}, (∀ d ∈ ds, LayAt n d) → PyData.canLayAll0 ds = true ∧ PyData.depthAll ds ≤ n
  | [], _ => ⟨rfl, Nat.zero_le _⟩
  | d :: ds, h => by
    obtain ⟨h1, h2⟩ := layAll (ds := ds) fun e he => h e (List.mem_cons_of_mem _ he)
    have := h d (List.mem_cons_self ..)
    simp only [PyData.canLayAll0, PyData.depthAll, this.1, h1, Bool.and_self, true_and]
    exact Nat.max_le.mpr ⟨this.2, h2⟩
theorem LayAt.tup {n : Nat} {ds : List PyData} (h : ∀ d ∈ ds, LayAt n d) : LayAt (n + 1) (.tuple ds) := by
  obtain ⟨h1, h2⟩ := layAll h
  exact ⟨by simp only [PyData.canLay0, h1], by simp only [PyData.depth]; omega⟩
theorem LayAt.st {l : List Nat} (h : ∀ c ∈ l, isSg c = true) : LayAt 0 (st l) := by
  refine ⟨?_, Nat.le_refl _⟩
  simp only [PyData.canLay0, PyData.strOk, List.all_toArray, List.all_eq_true, decide_eq_true_eq]
  intro c hc
  have := isSg_lt (h c hc)
  omega
theorem LayAt.bool {b : Bool} : LayAt 0 (.bool b) := ⟨rfl, Nat.le_refl _⟩
theorem LayAt.oD {o : Option (List Nat)} (h : ∀ l, o = some l → ∀ c ∈ l, isSg c = true) : LayAt 0 (oD o) := by
  cases o with
  | none => exact ⟨rfl, Nat.le_refl _⟩
  | some l => exact .st (h l rfl)
theorem LayAt.iD {o : Option Int} : LayAt 0 (iD o) := by
  cases o with
  | none => exact ⟨rfl, Nat.le_refl _⟩
  | some l => exact ⟨rfl, Nat.le_refl _⟩
theorem LayAt.qD {q : Option (List (List Nat × Option (List Nat)))} (h : ∀ ps, q = some ps → ∀ p ∈ ps, PairOk p) : LayAt 2 (qD q) := by
  cases q with
  | none => exact ⟨rfl, Nat.zero_le _⟩
  | some ps =>
    refine .tup (n := 1) fun d hd => ?_
    obtain ⟨p, hp, rfl⟩ := List.mem_map.mp hd
    have hk := h ps rfl p hp
    refine .tup (n := 0) fun e he => ?_
    simp only [List.mem_cons, List.not_mem_nil, or_false] at he
    rcases he with rfl | rfl
    · exact .st hk.1.2
    · exact .oD hk.2
theorem Ad.Wf.layWay {x : Ad} (h : x.Wf) : LayAt 2 x.way := by
  refine .tup (n := 1) fun e he => ?_
  simp only [List.mem_cons, List.not_mem_nil, or_false] at he
  rcases he with rfl | rfl | rfl
  · exact LayAt.bool.le (by decide)
  · refine .tup (n := 0) fun d hd => ?_
    obtain ⟨s, hs, rfl⟩ := List.mem_map.mp hd
    exact .st (h.stp s hs).2
  · exact LayAt.bool.le (by decide)
theorem Ad.Wf.lay {x : Ad} (h : x.Wf) : LayAt 3 x.data := by
  refine .tup (n := 2) fun e he => ?_
  simp only [List.mem_cons, List.not_mem_nil, or_false] at he
  rcases he with rfl | rfl | rfl | rfl | rfl | rfl
  · exact (LayAt.st fun c hc => aln_sg (h.sch.2.1 c hc)).le (by decide)
  · exact (LayAt.oD fun l e => (h.hou l e).2).le (by decide)
  · exact LayAt.iD.le (by decide)
  · exact h.layWay
  · exact .qD h.que
  · exact (LayAt.oD h.mar).le (by decide)
theorem Ad.Wf.shaped {x : Ad} (h : x.Wf) : SeqAt.shaped x.data = true := h.lay.shaped (by decide)
end Wm
namespace Wm
open PySem L2
/-! ### data of tuples, taken apart -/
end Wm
namespace Wm
/-- how large an address may be that is shown -/
structure Ad.Sz (x : Ad) : Prop where
  stp : ∀ s ∈ x.steps, s.length ≤ 2000
  que : ∀ ps, x.quest = some ps → ps.length ≤ 2000 ∧ ∀ p ∈ ps, p.1.length ≤ 2000 ∧ ∀ v, p.2 = some v → v.length ≤ 2000
  mar : ∀ l, x.mark = some l → l.length ≤ 2000
  num : x.steps.length ≤ 2000
  all : x.shw.length ≤ 90000
end Wm
namespace Wm
end Wm
namespace Wm
end Wm
namespace Wm
open PySem L2
end Wm
namespace Wm
open PySem L2
end Wm
namespace Wm
open PySem L2
theorem tl_bound {sep m : Nat} : ∀ {ys : List (List Nat)}, (∀ s ∈ ys, s.length ≤ m) → (tlT sep ys).length ≤ ys.length * (m + 1)
  | [], _ => by simp [tlT]
  | y :: r, h => by
    have h1 := h y (List.mem_cons_self ..)
    have h2 := tl_bound (sep := sep) (ys := r) fun s hs => h s (List.mem_cons_of_mem _ hs)
    simp only [tlT, List.length_cons, List.length_append, Nat.add_mul, Nat.one_mul]
    omega
theorem join_bound {sep m : Nat} {ys : List (List Nat)} (h : ∀ s ∈ ys, s.length ≤ m) : (joinT sep ys).length ≤ ys.length * (m + 1) := by
  cases ys with
  | nil => simp [joinT]
  | cons y r =>
    have h1 := h y (List.mem_cons_self ..)
    have h2 := tl_bound (sep := sep) (ys := r) fun s hs => h s (List.mem_cons_of_mem _ hs)
    simp only [joinT, List.length_cons, List.length_append, Nat.add_mul, Nat.one_mul]
    omega
theorem oT_len {sep n : Nat} {o : Option (List Nat)} (h : ∀ l, o = some l → l.length ≤ n) : (oT sep o).length ≤ 3 * n + 1 := by
  cases o with
  | none => simp [oT]
  | some l => have := h l rfl; have := wr_len l; simp only [oT, List.length_cons]; omega
theorem Ad.Ok.sz {x : Ad} (h : x.Ok) : x.Sz where
  stp := fun s hs => Nat.le_trans (h.stp.2 s hs).2.1 (by decide)
  que := fun ps e => ⟨Nat.le_trans (h.que ps e).1 (by decide), fun p hp => ⟨Nat.le_trans ((h.que ps e).2 p hp).1.2.1 (by decide), fun v hv => Nat.le_trans (((h.que ps e).2 p hp).2 v hv).1 (by decide)⟩⟩
  mar := fun l e => Nat.le_trans (h.mar l e).1 (by decide)
  num := Nat.le_trans h.stp.1 (by decide)
  all := by
    have a1 : (schT x.scheme).length ≤ 9 := by
      unfold schT
      split
      · simp
      · have := h.sch.1; simp only [List.length_append, List.length_cons, List.length_nil]; omega
    have a2 : (houT x.house).length ≤ 200 := by
      cases hh : x.house with
      | none => simp [houT]
      | some l => have := (h.hou l hh).2.1; have := wr_len l; simp only [houT, List.length_cons]; omega
    have a3 : (dooT x.door).length ≤ 6 := by
      cases hh : x.door with
      | none => simp [dooT]
      | some i => have b := (h.doo i hh).1; have := dg_len b.1 b.2; simp only [dooT, List.length_cons]; omega
    have a4 : x.wayT.length ≤ 9500 := by
      have hj := join_bound (sep := 47) (m := 180) (ys := x.steps.map wr) fun s hs => by
        obtain ⟨t, ht, rfl⟩ := List.mem_map.mp hs
        have := wr_len t; have := (h.stp.2 t ht).2.1; omega
      rw [List.length_map] at hj
      have := h.stp.1
      have e1 : (if x.rooted then [47] else [] : List Nat).length ≤ 1 := by split <;> simp
      have e2 : (if x.ends && !x.steps.isEmpty then [47] else [] : List Nat).length ≤ 1 := by split <;> simp
      simp only [Ad.wayT, Wm.wayT, List.length_append]
      have : x.steps.length * (180 + 1) ≤ 50 * 181 := Nat.mul_le_mul this (Nat.le_refl _)
      omega
    have a5 : (queT x.quest).length ≤ 1000 := by
      cases hq : x.quest with
      | none => simp [queT]
      | some ps =>
        have hk := h.que ps hq
        have hj := join_bound (sep := 38) (m := 37) (ys := ps.map pairT) fun s hs => by
          obtain ⟨p, hp, rfl⟩ := List.mem_map.mp hs
          have h1 := (hk.2 p hp).1.2.1
          have h2 := oT_len (sep := 61) (n := 6) (o := p.2) fun v hv => ((hk.2 p hp).2 v hv).1
          have := wr_len p.1
          simp only [pairT, List.length_append]
          omega
        rw [List.length_map] at hj
        have : ps.length * (37 + 1) ≤ 20 * 38 := Nat.mul_le_mul hk.1 (Nat.le_refl _)
        simp only [queT, List.length_cons]
        omega
    have a6 := oT_len (sep := 35) (n := 60) (o := x.mark) fun l e => (h.mar l e).1
    simp only [Ad.shw, List.length_append]
    omega
end Wm
namespace Wm
open PySem L2
end Wm
namespace L2
open PySem
theorem IsTAll.get {H : Hp} : ∀ {ds : List PyData} {xs : List V} {i : Nat} {d : PyData} {x : V}, IsTAll H ds xs → ds[i]? = some d → xs[i]? = some x → IsT H d x
  | _, _, 0, _, _, .cons h _, h1, h2 => by
    simp only [List.getElem?_cons_zero, Option.some.injEq] at h1 h2
    subst h1 h2; exact h
  | _, _, i + 1, _, _, .cons _ r, h1, h2 => by
    simp only [List.getElem?_cons_succ] at h1 h2
    exact r.get h1 h2
end L2
/-! WAYS GONE, as mathematics: from the first step on (the document) and from the last one back (the laws) -/
namespace Wm
open PySem L2
abbrev Stp := List Nat
def sUp : Stp := [46, 46]
def sStay : Stp := [46]
def isDot (s : Stp) : Bool := decide (s = sUp) || decide (s = sStay)
theorem up_ne_stay : sUp ≠ sStay := by decide
theorem isDot_false {s : Stp} : isDot s = false ↔ s ≠ sUp ∧ s ≠ sStay := by simp [isDot]
/-- one step, from the first on: how many steps up stand ahead, and the steps put behind them, the last one first -/
def fwd (r : Bool) (q : Nat × List Stp) (s : Stp) : Nat × List Stp :=
  if s = sUp then (match q.2 with | [] => (if r then q.1 else q.1 + 1, []) | _ :: t => (q.1, t))
  else if s = sStay then q else (q.1, s :: q.2)
def goneS (r : Bool) (ss : List Stp) : List Stp := List.replicate (ss.foldl (fwd r) (0, [])).1 sUp ++ (ss.foldl (fwd r) (0, [])).2.reverse
/-- one step, from the last one back -/
def bwd1 (s : Stp) (q : Nat × List Stp) : Nat × List Stp :=
  if s = sUp then (q.1 + 1, q.2) else if s ≠ sStay ∧ 0 < q.1 then (q.1 - 1, q.2) else if s ≠ sStay then (q.1, s :: q.2) else q
def bwd (ss : List Stp) : Nat × List Stp := ss.foldr bwd1 (0, [])
theorem bwd_cons (s : Stp) (ss : List Stp) : bwd (s :: ss) = bwd1 s (bwd ss) := rfl
theorem fwd_bwd (r : Bool) : ∀ (ss : List Stp) (u : Nat) (ns : List Stp),
    ss.foldl (fwd r) (u, ns) = (if r then u else u + ((bwd ss).1 - ns.length), (bwd ss).2.reverse ++ ns.drop (bwd ss).1)
  | [], u, ns => by simp [bwd]
  | s :: ss, u, ns => by
    rw [List.foldl_cons, bwd_cons]
    by_cases h1 : s = sUp
    · cases ns with
      | nil =>
        rw [show fwd r (u, []) s = (if r then u else u + 1, []) by simp [fwd, h1], fwd_bwd r ss]
        cases r <;> simp [bwd1, h1]
        omega
      | cons a t =>
        rw [show fwd r (u, a :: t) s = (u, t) by simp [fwd, h1], fwd_bwd r ss]
        simp [bwd1, h1]
    · by_cases h2 : s = sStay
      · rw [show fwd r (u, ns) s = (u, ns) by simp [fwd, h1, h2, up_ne_stay.symm], fwd_bwd r ss]
        simp [bwd1, h2, up_ne_stay.symm]
      · rw [show fwd r (u, ns) s = (u, s :: ns) by simp [fwd, h1, h2], fwd_bwd r ss]
        by_cases h3 : 0 < (bwd ss).1
        · obtain ⟨k, hk⟩ : ∃ k, (bwd ss).1 = k + 1 := ⟨(bwd ss).1 - 1, by omega⟩
          simp [bwd1, h1, h2, hk]
        · have h0 : (bwd ss).1 = 0 := by omega
          simp [bwd1, h1, h2, h0]
theorem gone_bwd (r : Bool) (ss : List Stp) : goneS r ss = (if r then [] else List.replicate (bwd ss).1 sUp) ++ (bwd ss).2 := by
  unfold goneS
  rw [fwd_bwd]
  cases r <;> simp
theorem bwd_snd {ss : List Stp} : ∀ s ∈ (bwd ss).2, s ∈ ss ∧ isDot s = false := by
  induction ss with
  | nil => simp [bwd]
  | cons t ss ih =>
    intro s hs
    rw [bwd_cons] at hs
    unfold bwd1 at hs
    split at hs
    · exact ⟨List.mem_cons_of_mem _ (ih s hs).1, (ih s hs).2⟩
    · next h1 =>
      split at hs
      · exact ⟨List.mem_cons_of_mem _ (ih s hs).1, (ih s hs).2⟩
      · split at hs
        · next h2 =>
          rcases List.mem_cons.mp hs with rfl | hs
          · exact ⟨List.mem_cons_self .., isDot_false.mpr ⟨h1, h2⟩⟩
          · exact ⟨List.mem_cons_of_mem _ (ih s hs).1, (ih s hs).2⟩
        · exact ⟨List.mem_cons_of_mem _ (ih s hs).1, (ih s hs).2⟩
theorem gone_mem {r : Bool} {ss : List Stp} : ∀ s ∈ goneS r ss, s ∈ ss ∧ isDot s = false ∨ r = false ∧ s = sUp := by
  intro s hs
  rw [gone_bwd] at hs
  rcases List.mem_append.mp hs with hs | hs
  · cases r with
    | true => cases hs
    | false => exact .inr ⟨rfl, (List.mem_replicate.mp (by simpa using hs)).2⟩
  · exact .inl (bwd_snd s hs)
/-- the last step is a dot -/
def lastDot (ss : List Stp) : Bool := match ss.getLast? with | some s => isDot s | none => false
/-- a way gone -/
def goneW (r : Bool) (ss : List Stp) (e : Bool) : Bool × List Stp × Bool :=
  if ss = [] then (r, [], e) else if goneS r ss = [] then (r, if r then [] else [sStay], true) else (r, goneS r ss, e || lastDot ss)
theorem goneW_fst (r : Bool) (ss : List Stp) (e : Bool) : (goneW r ss e).1 = r := by
  unfold goneW; split; rfl; split <;> rfl
end Wm
namespace Wm
open PySem L2
/-- the list that holds the state of going from the first step on -/
def stk (q : Nat × List Stp) : List Stp := List.replicate q.1 sUp ++ q.2.reverse
def StkOk (r : Bool) (q : Nat × List Stp) : Prop := (r = true → q.1 = 0) ∧ ∀ s ∈ q.2, s ≠ sUp
theorem StkOk.fwd {r : Bool} {q : Nat × List Stp} (h : StkOk r q) (s : Stp) : StkOk r (fwd r q s) := by
  obtain ⟨u, t⟩ := q
  obtain ⟨h1, h2⟩ := h
  dsimp only at h1 h2
  unfold Wm.fwd
  by_cases e : s = sUp
  · rw [if_pos e]
    cases t with
    | nil => exact ⟨fun z => by simp [z, h1 z], fun s hs => absurd hs (by simp)⟩
    | cons a t => exact ⟨h1, fun s hs => h2 s (List.mem_cons_of_mem _ hs)⟩
  · rw [if_neg e]
    by_cases e2 : s = sStay
    · rw [if_pos e2]; exact ⟨h1, h2⟩
    · rw [if_neg e2]
      refine ⟨h1, fun x hx => ?_⟩
      rcases List.mem_cons.mp hx with rfl | hx
      · exact e
      · exact h2 x hx
end Wm
/-! A TUPLE'S SLICE, the whole of it too -/
namespace L2
open PySem PySem.Spec PyProof.Rows HT
section
variable {prog : Program} {w : World} {A : Around} {E : Value → Shared → Prop} {s : Shared}
theorem getItem_tuple_same {t sl : Addr} {items : Array Value} {vl vu : Value} {lo hi : Option Int} {Q : Value → Shared → Prop} (ht : IsTup s.heap t items) (hs : s.heap.IsSliceOf sl vl vu .none) (pl : IsPart vl lo) (pu : IsPart vu hi)
    (hw : sIx items.size 0 lo = 0 ∧ sIx items.size items.size hi = items.size) (h : Q (.ref t) s) : wpAny (model prog w) A (getItem (.ref t) (.ref sl)) Q E s := by
  obtain ⟨os, hos, hcs, hds⟩ := id hs
  have hTs : s.TypeIs (.ref sl) "slice" := ⟨os, hos, hcs⟩
  unfold getItem
  try with_reducible refine wpAny_holding ?_
  first | refine wpAny_bind (wpAny_pure ?_) | skip
  refine wpAny_bind (wpAny_sequenceKey ht.typeIs (by decide) ?_)
  refine wpAny_bind (wpAny_callSpecial?_slot (name := Str.ofString "__getitem__") ht.typeIs PyProof.Rows.slot_tuple_getitem
    (wpAny_call_entry PyProof.Rows.slot_tuple_getitem ht.typeIs entry_tuple_getitem ?_ (args_tuple_getitem _ _)))
  show wpAny _ _ (Builtin.Tuple.tupleItemsOf (.ref t) >>= _) _ _ s
  refine wpAny_bind (tupleItemsOf_ ht ?_)
  refine wpAny_bind (wpAny_typeOf hTs ?_)
  rw [if_pos (by decide)]
  refine wpAny_bind (sliceApplied_gen hs pl pu ?_)
  show wpAny _ _ (if (((sIx items.size 0 lo : Nat) : Int) == 0 && (1 : Int) == 1 && (sIx items.size items.size hi - sIx items.size 0 lo) == items.size) = true then _ else _) _ _ s
  rw [if_pos (by rw [hw.1, hw.2]; simp)]
  refine wpAny_bind ?_
  show wpAny _ _ (typeOf (.ref t) >>= _) _ _ s
  refine wpAny_bind (wpAny_typeOf ht.typeIs (wpAny_pure ?_))
  rw [if_pos (by decide)]
  exact wpAny_bind (wpAny_rule (wpAny_pure ⟨_, rfl, wpAny_pure h⟩))
end
section
variable {X : Cx} {K : PySem.W.Frag}
def rSlTA : V → Option Int → Option Int → Hp → VK → Prop := fun x lo hi H Q => ∃ a xs, x = .ref a ∧ H a = some (.tup xs) ∧ ∀ p H', Same H H' → H' p = some (.tup (cutV xs lo hi)) → Q (.ref p) H'
theorem cutV_whole {xs : List V} {lo hi : Option Int} (h : sIx xs.length 0 lo = 0 ∧ sIx xs.length xs.length hi = xs.length) : cutV xs lo hi = xs := by
  unfold cutV
  rw [h.1, h.2, List.drop_zero, Nat.sub_zero, List.take_length]
theorem sl_tupA : SlR X rSlTA := by
  intro pins s σ H x v vl vu lo hi sl Q I rx hs pl pu h
  obtain ⟨a, xs, rfl, hx, q⟩ := h
  by_cases hw : sIx xs.length 0 lo = 0 ∧ sIx xs.length xs.length hi = xs.length
  · cases rx
    obtain ⟨its, r, ht, hz⟩ := I.tuple (SqT.of hx)
    have hlen : its.toArray.size = xs.length := by rw [List.size_toArray]; exact r.length.symm
    refine ⟨"tuple", _, PyProof.Rows.slot_tuple_getitem.lookup, ht.typeIs, ?_⟩
    exact getItem_tuple_same ht hs pl pu (by rw [hlen]; exact hw) ⟨.ref a, H, I, rfl, q a H (Same.refl _) (by rw [cutV_whole hw]; exact hx)⟩
  · exact sl_tup pins s σ H _ v vl vu lo hi sl Q I rx hs pl pu ⟨a, xs, rfl, SqT.of hx, hw, fun p hp => q p _ (same_new hp) upd_same⟩
theorem slTA_ref {a : Addr} {lo hi : Option Int} {H : Hp} {Q : VK} : rSlTA (.ref a) lo hi H Q ↔ ∃ xs, H a = some (.tup xs) ∧ ∀ p H', Same H H' → H' p = some (.tup (cutV xs lo hi)) → Q (.ref p) H' := by
  constructor
  · rintro ⟨p, bs, h1, h2⟩; cases h1; exact ⟨bs, h2⟩
  · rintro ⟨bs, h⟩; exact ⟨a, bs, rfl, h⟩
end
end L2
/-! DATA OF TUPLES that may be the module's own: a tuple that is tracked, or one of the module's constants -/
namespace L2
open PySem PySem.Spec PyProof.Rows HT
mutual
inductive IsK (K : PySem.W.Frag) (H : Hp) : PyData → V → Prop
  | non : IsK K H .none .non
  | bl (b : Bool) : IsK K H (.bool b) (.bl b)
  | int (i : Int) : IsK K H (.int i) (.int i)
  | str (x : Str) : IsK K H (.str x) (.str x)
  | tup {p : Addr} {xs : List V} {ds : List PyData} : SqT K H p xs → IsKAll K H ds xs → IsK K H (.tuple ds) (.ref p)
inductive IsKAll (K : PySem.W.Frag) (H : Hp) : List PyData → List V → Prop
  | nil : IsKAll K H [] []
  | cons {d : PyData} {x : V} {ds : List PyData} {xs : List V} : IsK K H d x → IsKAll K H ds xs → IsKAll K H (d :: ds) (x :: xs)
end
section
variable {K : PySem.W.Frag} {H H' : Hp}
mutual
theorem IsK.mono (sm : Same H H') : ∀ {d : PyData} {x : V}, IsK K H d x → IsK K H' d x
  | _, _, .non => .non
  | _, _, .bl b => .bl b
  | _, _, .int i => .int i
  | _, _, .str x => .str x
  | _, _, .tup h r => .tup (sm.tup h) (IsKAll.mono sm r)
theorem IsKAll.mono (sm : Same H H') : ∀ {ds : List PyData} {xs : List V}, IsKAll K H ds xs → IsKAll K H' ds xs
  | _, _, .nil => .nil
  | _, _, .cons h r => .cons (IsK.mono sm h) (IsKAll.mono sm r)
end
mutual
theorem IsT.k : ∀ {d : PyData} {x : V}, IsT H d x → IsK K H d x
  | _, _, .non => .non
  | _, _, .bl b => .bl b
  | _, _, .int i => .int i
  | _, _, .str x => .str x
  | _, _, .tup h r => .tup (SqT.of h) (IsTAll.k r)
theorem IsTAll.k : ∀ {ds : List PyData} {xs : List V}, IsTAll H ds xs → IsKAll K H ds xs
  | _, _, .nil => .nil
  | _, _, .cons h r => .cons (IsT.k h) (IsTAll.k r)
end
end
section
variable {X : Cx} {pins : List (Addr × Obj)} {σ : St} {H : Hp} {s : Shared}
mutual
theorem IsK.reads (I : Inv X pins σ H s) : ∀ {d : PyData} {x : V} {v : Value}, IsK X.K H d x → RelV x v → ∃ as, Reads s.heap v d as
  | _, _, _, .non, r => by cases r; exact ⟨_, .none⟩
  | _, _, _, .bl b, r => by cases r; exact ⟨_, .bool b⟩
  | _, _, _, .int i, r => by obtain ⟨t, rfl⟩ := r; exact ⟨_, .int i t⟩
  | _, _, _, .str x, r => by obtain ⟨t, rfl⟩ := r; exact ⟨_, .str x t⟩
  | _, _, _, .tup h q, r => by
    cases r
    obtain ⟨its, vs, ⟨o, e, c, n, dt⟩, _⟩ := I.tuple h
    obtain ⟨as, ra⟩ := IsKAll.reads I q vs
    exact ⟨_, .tuple e c dt (by simpa using ra)⟩
theorem IsKAll.reads (I : Inv X pins σ H s) : ∀ {ds : List PyData} {xs : List V} {vs : List Value}, IsKAll X.K H ds xs → Vals xs vs → ∃ as, ReadsAll s.heap vs ds as
  | _, _, _, .nil, r => by cases r; exact ⟨_, .nil⟩
  | _, _, _, .cons q t, r => by
    cases r with
    | cons r1 r2 =>
      obtain ⟨as, h1⟩ := IsK.reads I q r1
      obtain ⟨bs, h2⟩ := IsKAll.reads I t r2
      exact ⟨_, .cons h1 h2⟩
end
variable {K : PySem.W.Frag}
/-- a tuple's slice -/
def rSlX (K : PySem.W.Frag) : V → Option Int → Option Int → Hp → VK → Prop := fun x lo hi H Q => ∃ a xs, x = .ref a ∧ SqT K H a xs ∧ ∀ p H', Same H H' → SqT K H' p (cutV xs lo hi) → Q (.ref p) H'
theorem slX_ref {a : Addr} {lo hi : Option Int} {H : Hp} {Q : VK} : rSlX K (.ref a) lo hi H Q ↔ ∃ xs, SqT K H a xs ∧ ∀ p H', Same H H' → SqT K H' p (cutV xs lo hi) → Q (.ref p) H' := by
  constructor
  · rintro ⟨p, bs, h1, h2⟩; cases h1; exact ⟨bs, h2⟩
  · rintro ⟨bs, h⟩; exact ⟨a, bs, rfl, h⟩
/-- t + u of two tuples -/
def rCatX (K : PySem.W.Frag) : R2 := fun x y H Q => ∃ a b xs ys, x = .ref a ∧ y = .ref b ∧ SqT K H a xs ∧ SqT K H b ys ∧ xs.length + ys.length ≤ sizeLine ∧ ∀ p H', Same H H' → SqT K H' p (xs ++ ys) → Q (.ref p) H'
theorem catX_ref {a b : Addr} {H : Hp} {Q : VK} : rCatX K (.ref a) (.ref b) H Q ↔ ∃ xs ys, SqT K H a xs ∧ SqT K H b ys ∧ xs.length + ys.length ≤ sizeLine ∧ ∀ p H', Same H H' → SqT K H' p (xs ++ ys) → Q (.ref p) H' := by
  constructor
  · rintro ⟨p, p', xs, ys, h1, h2, h3⟩; cases h1; cases h2; exact ⟨xs, ys, h3⟩
  · rintro ⟨xs, ys, h⟩; exact ⟨a, b, xs, ys, rfl, rfl, h⟩
/-- isinstance of one built-in kind -/
def KindK (K : PySem.W.Frag) (H : Hp) (x : V) (k : String) : Prop := kindV x H = some k ∨ ∃ a xs, x = .ref a ∧ SqT K H a xs ∧ k = "tuple"
theorem KindK.tup {K : PySem.W.Frag} {H : Hp} {a : Addr} {xs : List V} (h : SqT K H a xs) : KindK K H (.ref a) "tuple" := .inr ⟨a, xs, rfl, h, rfl⟩
def rIsiX (K : PySem.W.Frag) : List V → Hp → VK → Prop := fun vs H Q => match vs with
  | [x, .ty T] => ∃ k, KindK K H x k ∧ T ∈ ["bool", "int", "str", "list", "tuple"] ∧ Q (.bl (subT k T)) H
  | _ => False
theorem isiX_any {x : V} {T : String} {H : Hp} {Q : VK} : rIsiX K [x, .ty T] H Q ↔ ∃ k, KindK K H x k ∧ T ∈ ["bool", "int", "str", "list", "tuple"] ∧ Q (.bl (subT k T)) H := Iff.rfl
end
end L2
namespace Wm
open PySem L2
section
variable {K : PySem.W.Frag} {H : Hp}
end
end Wm
/-! A LIST'S SLICE WITH A STEP -/
namespace L2
open PySem PySem.Spec PyProof.Rows
theorem Vals.at {xs : List V} {us : List Value} (h : Vals xs us) : ∀ (i : Nat), (∃ x u, xs[i]? = some x ∧ us[i]? = some u ∧ RelV x u) ∨ (xs[i]? = none ∧ us[i]? = none) := by
  induction h with
  | nil => intro i; exact .inr ⟨by simp, by simp⟩
  | cons r _ ih =>
    intro i
    cases i with
    | zero => exact .inl ⟨_, _, rfl, rfl, r⟩
    | succ i => simpa using ih i
def pickV {α : Type} (xs : List α) (lo hi st : Option Int) : List α :=
  (sliceRange (sliceBounds lo hi st xs.length).1 (sliceBounds lo hi st xs.length).2.1 (sliceBounds lo hi st xs.length).2.2).filterMap fun i => xs[i]?
section
variable {X : Cx}
def tSl3 (K : PySem.W.Frag) (te : TE) (tl th ts : TO) : TE := fun σ H Q => te σ H fun x H1 => tl σ H1 fun l H2 => th σ H2 fun u H3 => ts σ H3 fun k H4 =>
  ∃ a xs, x = .ref a ∧ SqL K H4 a xs ∧ k ≠ some 0 ∧ (pickV xs l u k).length ≤ sizeLine ∧ ∀ p, H4 p = none → Q (.ref p) (upd H4 p (.lst (pickV xs l u k)))
end
theorem rd_sl3 {K : PySem.W.Frag} {te : TE} {tl th ts : TO} {σ : St} {H : Hp} {Q : VK} : tSl3 K te tl th ts σ H Q ↔ te σ H fun x H1 => tl σ H1 fun l H2 => th σ H2 fun u H3 => ts σ H3 fun k H4 =>
  ∃ a xs, x = .ref a ∧ SqL K H4 a xs ∧ k ≠ some 0 ∧ (pickV xs l u k).length ≤ sizeLine ∧ ∀ p, H4 p = none → Q (.ref p) (upd H4 p (.lst (pickV xs l u k))) := Iff.rfl
end L2
/-! RESOLVING AND TELLING RELATIVE, as mathematics -/
namespace Wm
open PySem L2
abbrev Way := Bool × List Stp × Bool
def Ad.w (x : Ad) : Way := (x.rooted, x.steps, x.ends)
def Ad.withWay (x : Ad) (w : Way) : Ad := { x with rooted := w.1, steps := w.2.1, ends := w.2.2 }
def goneV (w : Way) : Way := goneW w.1 w.2.1 w.2.2
def Ad.gone (x : Ad) : Ad := x.withWay (goneV x.w)
/-! ### what a rooted way comes to -/
/-! ### a way gone that is rooted -/
/-! ### resolved: whole, and without dots; told relative and resolved it is the goal -/
/-! ### step by step -/
end Wm
namespace Wm
open PySem L2
theorem rv_ref {l : Addr} {H : Hp} {Q : VK} : rReverse (.ref l) [] H Q ↔ ∃ xs, H l = some (.lst xs) ∧ Q .non (upd H l (.lst xs.reverse)) :=
  ⟨fun ⟨_, xs, e, _, h, q⟩ => by cases e; exact ⟨xs, h, q⟩, fun ⟨xs, h, q⟩ => ⟨l, xs, rfl, rfl, h, q⟩⟩
end Wm
namespace Wm
open PySem L2
abbrev sV (l : List Nat) : V := .str ⟨l.toArray⟩
end Wm
namespace Wm
open PySem L2
theorem eqv_nilL (ds : List PyData) : PyData.eqv (.list ds) (.list []) = ds.isEmpty := by
  cases ds <;> simp [PyData.eqv, PyData.eqvAll]
end Wm
namespace Wm
open PySem L2
theorem atI_last {α : Type} {l : List α} {s : α} (g : α → V) (h : l.getLast? = some s) : atI (l.map g) (-1) = some (g s) := by
  obtain ⟨pre, rfl⟩ := List.getLast?_eq_some_iff.mp h
  have e : ixN ((pre ++ [s]).map g).length (-1) = some pre.length := by
    unfold ixN
    simp
    try omega
  unfold atI
  rw [e]
  simp
theorem inV_dot (s : Stp) : inV (sV s) [sV sStay, sV sUp] = isDot s := by
  have e : ∀ a : Stp, eqV (sV a) (sV s) = decide (s = a) := fun a => by
    show ((⟨a.toArray⟩ : Str) == ⟨s.toArray⟩) = decide (s = a)
    rw [Bool.eq_iff_iff, beq_iff_eq, decide_eq_true_eq, mk_inj]
    exact ⟨Eq.symm, Eq.symm⟩
  unfold inV isDot
  simp only [List.any_cons, List.any_nil, Bool.or_false, e]
  rw [Bool.or_comm]
end Wm
namespace Wm
open PySem L2
end Wm
namespace L2
open PySem
theorem op_in_seqK {X : Cx} {K : PySem.W.Frag} (h : X.K = K) : OpR X (compareOp .In) (rIn K false) := by subst h; exact op_in_seq
end L2
namespace L2
open PySem
theorem po_ref {l : Addr} {H : Hp} {Q : VK} : rPop (.ref l) [] H Q ↔ ∃ xs y, H l = some (.lst xs) ∧ xs[xs.length - 1]? = some y ∧ Q y (upd H l (.lst xs.dropLast)) :=
  ⟨fun ⟨_, xs, y, h1, _, h3, h4, h5⟩ => by cases h1; exact ⟨xs, y, h3, h4, h5⟩, fun ⟨xs, y, h3, h4, h5⟩ => ⟨_, xs, y, rfl, rfl, h3, h4, h5⟩⟩
end L2
namespace L2
open PySem
theorem rd_never {D : Ends} {σ : St} {H : Hp} : tNever D σ H ↔ False := Iff.rfl
end L2
namespace Wm
open PySem L2
/-- what the laws' small addresses keep to -/
structure Ad.Tiny (x : Ad) : Prop where
  stp : ∀ s ∈ x.steps, s.length ≤ 9
  que : ∀ ps, x.quest = some ps → ps.length ≤ 3 ∧ ∀ p ∈ ps, p.1.length ≤ 5 ∧ ∀ v, p.2 = some v → v.length ≤ 6
  mar : ∀ l, x.mark = some l → l.length ≤ 7
  hou : ∀ l, x.house = some l → l.length ≤ 13
end Wm
namespace Wm
open PySem L2
theorem stay_ok : StepOk sStay := ⟨by decide, by decide⟩
theorem up_ok : StepOk sUp := ⟨by decide, by decide⟩
theorem goneV_ok {w : Way} (h : ∀ s ∈ w.2.1, StepOk s) : ∀ s ∈ (goneV w).2.1, StepOk s := by
  intro s hs
  unfold goneV goneW at hs
  split at hs
  · cases hs
  · split at hs
    · cases e : w.1
      · rw [e] at hs; simp at hs; subst hs; exact stay_ok
      · rw [e] at hs; simp at hs
    · rcases gone_mem s hs with z | z
      · exact h s z.1
      · rw [z.2]; exact up_ok
theorem goneV_end_ {w : Way} (h : w.2.1 = [] → w.2.2 = w.1) : (goneV w).2.1 = [] → (goneV w).2.2 = (goneV w).1 := by
  intro e
  unfold goneV goneW at e ⊢
  split at e
  · rename_i z; rw [if_pos z]; exact h z
  · rename_i z
    rw [if_neg z]
    split at e
    · rename_i y
      rw [if_pos y]
      cases ew : w.1
      · rw [ew] at e; simp at e
      · rfl
    · rename_i y; exact absurd e y
theorem goneV_fst (w : Way) : (goneV w).1 = w.1 := goneW_fst _ _ _
theorem Ad.Wf.gone {x : Ad} (h : x.Wf) : x.gone.Wf where
  sch := h.sch
  hou := h.hou
  doo := h.doo
  stp := goneV_ok (w := x.w) h.stp
  roo := fun z => (goneV_fst x.w).trans (h.roo z)
  end_ := goneV_end_ (w := x.w) h.end_
  que := h.que
  mar := h.mar
end Wm
namespace Wm
end Wm
namespace Wm
open PySem L2
/-- a slice of anything -/
def cutA {α : Type} (xs : List α) (lo hi : Option Int) : List α := (xs.drop (HT.sIx xs.length 0 lo)).take (HT.sIx xs.length xs.length hi - HT.sIx xs.length 0 lo)
theorem cutV_map {α : Type} (f : α → V) (xs : List α) (lo hi : Option Int) : cutV (xs.map f) lo hi = (cutA xs lo hi).map f := by
  unfold cutV cutA; rw [List.length_map, List.map_take, List.map_drop]
theorem cutA_len {α : Type} (xs : List α) (lo hi : Option Int) : (cutA xs lo hi).length ≤ xs.length := by
  unfold cutA; rw [List.length_take, List.length_drop]; omega
/-- steps that may be shown: signs alone -/
def AllSg (ss : List Stp) : Prop := ∀ s ∈ ss, ∀ c ∈ s, isSg c = true
end Wm
namespace Wm
open PySem L2
end Wm
namespace L2
open PySem
theorem IsKAll.at {K : PySem.W.Frag} {H : Hp} : ∀ {ds : List PyData} {xs : List V} {i : Nat} {x : V}, IsKAll K H ds xs → xs[i]? = some x → ∃ d, ds[i]? = some d ∧ IsK K H d x
  | _, _, 0, _, .cons h _, h2 => by
    simp only [List.getElem?_cons_zero, Option.some.injEq] at h2
    subst h2; exact ⟨_, rfl, h⟩
  | _, _, i + 1, _, .cons _ r, h2 => by
    simp only [List.getElem?_cons_succ] at h2
    obtain ⟨d, h1, h3⟩ := r.at h2
    exact ⟨d, by simpa using h1, h3⟩
end L2
namespace Wm
open PySem L2
section
variable {H : Hp}
end
theorem Ad.Wf.sg {x : Ad} (h : x.Wf) : AllSg x.steps := fun s hs => (h.stp s hs).2
theorem Ad.Wf.bare {x : Ad} (h : x.Wf) : ({ x with scheme := [] } : Ad).Wf :=
  ⟨⟨Nat.zero_le _, (fun c hc => by cases hc), (fun c hc => by cases hc)⟩, h.hou, h.doo, h.stp, (fun z => h.roo (z.elim (fun y => absurd rfl y) .inr)), h.end_, h.que, h.mar⟩
theorem Ad.Wf.local {x : Ad} (h : x.Wf) : ({ x with scheme := [], house := none, door := none } : Ad).Wf :=
  ⟨⟨Nat.zero_le _, (fun c hc => by cases hc), (fun c hc => by cases hc)⟩, (fun l e => by cases e), (fun l e => by cases e), h.stp, (fun z => z.elim (fun y => absurd rfl y) (fun y => absurd rfl y)), h.end_, h.que, h.mar⟩
/-- values that are addresses, of at most so many steps -/
def Goods (n : Nat) (H : Hp) (vs : List V) : Prop := ∀ v ∈ vs, ∃ x : Ad, x.Wf ∧ x.steps.length ≤ n ∧ IsT H x.data v
theorem Goods.mono {n : Nat} {H H' : Hp} {vs : List V} (h : Goods n H vs) (sm : SameT H H') : Goods n H' vs := fun v hv => by
  obtain ⟨x, h1, h2, h3⟩ := h v hv
  exact ⟨x, h1, h2, h3.mono sm⟩
theorem Goods.nil {n : Nat} {H : Hp} : Goods n H [] := fun v hv => by cases hv
theorem Goods.cons {n : Nat} {H : Hp} {v : V} {vs : List V} {x : Ad} (h1 : x.Wf) (h2 : x.steps.length ≤ n) (h3 : IsT H x.data v) (h : Goods n H vs) : Goods n H (v :: vs) := fun u hu => by
  rcases List.mem_cons.mp hu with rfl | hu
  · exact ⟨x, h1, h2, h3⟩
  · exact h u hu
theorem Goods.snoc {n : Nat} {H : Hp} {v : V} {vs : List V} {x : Ad} (h : Goods n H vs) (h1 : x.Wf) (h2 : x.steps.length ≤ n) (h3 : IsT H x.data v) : Goods n H (vs ++ [v]) := fun u hu => by
  rcases List.mem_append.mp hu with hu | hu
  · exact h u hu
  · rw [List.mem_singleton.mp hu]; exact ⟨x, h1, h2, h3⟩
end Wm
namespace Wm
open PySem L2
end Wm
namespace Wm
open PySem L2
end Wm
namespace L2
open PySem PySem.Spec PyProof.Rows
theorem isB_t {b c : Bool} {H : Hp} {Q : VK} : rIsB true (.bl b) (.bl c) H Q ↔ Q (.bl (!decide (b = c))) H := Iff.rfl
end L2
namespace Wm
open PySem L2
end Wm
namespace Wm
open PySem L2
end Wm
namespace Wm
open PySem L2
end Wm
namespace Wm
open PySem L2
end Wm
namespace Wm
open PySem L2
/-- a whole address of the laws, of at most so many steps -/
structure GoodAd (n : Nat) (x : Ad) : Prop where
  wf : x.Wf
  ti : x.Tiny
  sc : x.scheme ≠ []
  ln : x.steps.length ≤ n
theorem GoodAd.le {n m : Nat} {x : Ad} (h : GoodAd n x) (hm : n ≤ m) : GoodAd m x := ⟨h.wf, h.ti, h.sc, Nat.le_trans h.ln hm⟩
theorem GoodAd.rt {n : Nat} {x : Ad} (h : GoodAd n x) : x.rooted = true := h.wf.roo (.inl h.sc)
/-- scheme, house and door of the one, all else of the other -/
theorem GoodAd.head {n m : Nat} {b g : Ad} (hb : GoodAd n b) (hg : GoodAd m g) : GoodAd m { g with scheme := b.scheme, house := b.house, door := b.door } :=
  ⟨⟨hb.wf.sch, hb.wf.hou, hb.wf.doo, hg.wf.stp, fun _ => hg.rt, hg.wf.end_, hg.wf.que, hg.wf.mar⟩, ⟨hg.ti.stp, hg.ti.que, hg.ti.mar, hb.ti.hou⟩, hb.sc, hg.ln⟩
theorem GoodAd.way {n m : Nat} {g : Ad} (hg : GoodAd n g) {ss : List Stp} {e : Bool} (h1 : ∀ s ∈ ss, StepOk s ∧ s.length ≤ 9) (h2 : ss.length ≤ m) (h3 : ss = [] → e = true) : GoodAd m { g with rooted := true, steps := ss, ends := e } :=
  ⟨⟨hg.wf.sch, hg.wf.hou, hg.wf.doo, fun s hs => (h1 s hs).1, fun _ => rfl, h3, hg.wf.que, hg.wf.mar⟩, ⟨fun s hs => (h1 s hs).2, hg.ti.que, hg.ti.mar, hg.ti.hou⟩, hg.sc, h2⟩
theorem GoodAd.quest {n m : Nat} {b g : Ad} (hb : GoodAd n b) (hg : GoodAd m g) : GoodAd m { g with quest := b.quest } :=
  ⟨⟨hg.wf.sch, hg.wf.hou, hg.wf.doo, hg.wf.stp, hg.wf.roo, hg.wf.end_, hb.wf.que, hg.wf.mar⟩, ⟨hg.ti.stp, hb.ti.que, hg.ti.mar, hg.ti.hou⟩, hg.sc, hg.ln⟩
end Wm
/-! REVERSED TUPLES over the hand layer -/
namespace L2
open PySem PySem.Spec PyProof.Rows
def IsRv (h : Heap) (a t : Addr) (i : Int) : Prop := ∃ o, h.get? a = some o ∧ o.cls = .type "reversed" ∧ o.data = .fields #[.ref t, rawInt i]
section
variable {prog : Program} {w : World} {A : Around} {E : Value → Shared → Prop} {s : Shared}
theorem IsRv.ty {a t : Addr} {i : Int} (x : IsRv s.heap a t i) : s.TypeIs (.ref a) "reversed" := let ⟨o, ho, hc, _⟩ := x; ⟨o, ho, hc⟩
end
/-- a tuple from its end: n its length -/
def Itv (K : PySem.W.Frag) (a : Addr) (n : Nat) : It :=
  ⟨fun i H => ∃ xs x, SqT K H a xs ∧ xs.length = n ∧ i < n ∧ xs[n - 1 - i]? = some x, fun i H x H' => H' = H ∧ ∀ xs, SqT K H a xs → xs.length = n → xs[n - 1 - i]? = some x, fun i _ => n ≤ i⟩
section
variable {X : Cx} {tg : Expr} {K : PySem.W.Frag}
def iRev (K : PySem.W.Frag) (ta : TA) : TI := fun σ H R => ta σ H fun vs H1 => ∃ a xs, vs = [.ref a] ∧ SqT K H1 a xs ∧ R (Itv K a xs.length) H1
variable {σ : St} {H : Hp} {D : Ends} {g : TG} {tb : TS} {aa : TA}
theorem rd_forV : tFor (iRev K aa) g tb D σ H ↔ aa σ H fun vs H1 => ∃ a xs, vs = [.ref a] ∧ SqT K H1 a xs ∧ LoopI (Itv K a xs.length) g tb D σ H1 := Iff.rfl
end
end L2
/-! A TUPLE TIMES A NUMBER -/
namespace L2
open PySem PySem.Spec PyProof.Rows
theorem tm_nofill : fillsNumberSlot (.type "tuple") "mul" = pure false := PySem.fillsNumberSlot_seq (id := "tuple.__mul__") (r := some (.builtin "tuple.__rmul__")) F.slot_tuple_mul.lookup (by decide +kernel) F.slot_tuple_rmul.lookup (by decide +kernel)
theorem tm_repeat : seqRepeat? (.type "tuple") = pure (some (.builtin "tuple.__mul__")) := by
  unfold seqRepeat?
  rw [PySem.seqSlot_of (T := "tuple") (name := "__mul__") (id := "tuple.__mul__") F.slot_tuple_mul.lookup (by decide +kernel), PySem.seqSlot_of (T := "tuple") (name := "__rmul__") (id := "tuple.__rmul__") F.slot_tuple_rmul.lookup (by decide +kernel)]
  rfl
theorem tm_rmul (a : Int) (t : Tok) (l : Addr) (items : Array Value) (n : Nat) (dd : Option Addr) (sl : Array (Option Value)) :
    Meets (Builtin.«int.__rmul__» ⟨[.int a t, .ref l], []⟩) (fun _ R s => s.heap.get? l = some { cls := .type "tuple", dict := dd, data := .seq items n, slots := sl } ∧ R (.ok (.ret Value.notImplemented)) s) :=
  .of_wp fun prog w A R s h => by
    obtain ⟨hp, g, d, tk, os⟩ := s; obtain ⟨hl, h⟩ := h
    wp_walk; exact ⟨_, rfl, h⟩
theorem tm_mul (l : Addr) (items : Array Value) (n : Nat) (dd : Option Addr) (sl : Array (Option Value)) (x : Int) (u : Tok) (h0 : items.isEmpty = false) (h1 : ¬ (decide (x < -(2 ^ 63)) || decide (x ≥ 2 ^ 63)) = true) (h2 : 2 ≤ x) (h3 : ¬ ((items.size : Int) * x > (2 ^ 63 - 1) / 8)) (h4 : (items.size : Int) * x ≤ sizeLine) :
    Meets (Builtin.«tuple.__mul__» ⟨[.ref l, .int x u], []⟩) (fun _ R s => s.heap.get? l = some { cls := .type "tuple", dict := dd, data := .seq items n, slots := sl } ∧
      R (.ok (.ret (Value.ref s.heap.objs.size))) { s with heap := s.heap.push { cls := Value.type "tuple", data := Data.seq (List.foldl (fun x1 x2 => x1 ++ x2) #[] (List.replicate x.toNat items)) }, toks := s.toks }) :=
  .of_wp fun prog w A R s h => by
    obtain ⟨hp, g, d, tk, os⟩ := s; obtain ⟨hl, h⟩ := h
    unfold Builtin.«tuple.__mul__»
    wp_walk
    have hx1 : ¬ (items.isEmpty || x == 1) = true := by rw [h0, Bool.false_or]; intro z; have := eq_of_beq z; omega
    have hx2 : ¬ (decide (x ≤ 0) || items.isEmpty) = true := by rw [h0, Bool.or_false, decide_eq_true_eq]; omega
    have hx3 : ¬ Builtin.Tuple.tupleTooMany ((items.size : Int) * x) = true := by unfold Builtin.Tuple.tupleTooMany; rw [decide_eq_true_eq]; omega
    rw [if_neg h1]
    wp_walk
    rw [if_neg hx1]
    try dsimp only
    rw [if_neg hx2]
    try dsimp only
    rw [if_neg h3]
    try dsimp only
    rw [if_neg hx3]
    refine wpAny_bind (m := Builtin.Tuple.tupleExact _) (wpAny_newObj_type (wpAny_pure ⟨_, rfl, h⟩) ?_)
    show (List.foldl (fun x1 x2 => x1 ++ x2) #[] (List.replicate x.toNat items)).size ≤ sizeLine
    have e : List.foldl (fun x1 x2 => x1 ++ x2) #[] (List.replicate x.toNat items.toList.toArray) = (List.replicate x.toNat items.toList).flatten.toArray := by
      have := foldl_rep items.toList x.toNat []
      rw [List.nil_append] at this
      exact this
    rw [show items.toList.toArray = items by simp] at e
    rw [e, List.size_toArray, len_rep, Array.length_toList]
    have : (items.size : Int) * x = ((x.toNat * items.size : Nat) : Int) := by rw [Int.natCast_mul, Int.toNat_of_nonneg (by omega), Int.mul_comm]
    omega
section
variable {X : Cx}
def rRepT : R2 := fun x y H Q => ∃ a k xs, x = .ref a ∧ y = .int k ∧ H a = some (.tup xs) ∧ 2 ≤ k ∧ k < 1000 ∧ xs.length * k.toNat ≤ sizeLine ∧ ∀ p H', Same H H' → H' p = some (.tup (List.replicate k.toNat xs).flatten) → Q (.ref p) H'
theorem tm_same (l : Addr) (items : Array Value) (n : Nat) (dd : Option Addr) (sl : Array (Option Value)) (x : Int) (u : Tok) (h0 : items.isEmpty = true) (h1 : ¬ (decide (x < -(2 ^ 63)) || decide (x ≥ 2 ^ 63)) = true) :
    Meets (Builtin.«tuple.__mul__» ⟨[.ref l, .int x u], []⟩) (fun _ R s => s.heap.get? l = some { cls := .type "tuple", dict := dd, data := .seq items n, slots := sl } ∧ R (.ok (.ret (Value.ref l))) s) :=
  .of_wp fun prog w A R s h => by
    obtain ⟨hp, g, d, tk, os⟩ := s; obtain ⟨hl, h⟩ := h
    unfold Builtin.«tuple.__mul__»
    have hx1 : (items.isEmpty || x == 1) = true := by rw [h0, Bool.true_or]
    wp_walk
    rw [if_neg h1]
    wp_walk
    exact ⟨_, rfl, h⟩
theorem op_repT : OpR X (binaryOp .Mult) rRepT := by
  intro pins s σ H x y v u Q I rx ry h
  obtain ⟨a, k, xs, rfl, rfl, hH, h1, h2, hz, q⟩ := h
  cases rx
  obtain ⟨t, rfl⟩ := ry
  obtain ⟨its, r, p, hl⟩ := I.tuple (SqT.of hH)
  obtain ⟨⟨cls, dd, data, sl⟩, ho, hc, n, hd⟩ := id p
  simp only at hc hd
  subst hc hd
  have hlen := r.length
  have hb : ¬ (decide (k < -(2 ^ 63)) || decide (k ≥ 2 ^ 63)) = true := by
    rw [Bool.or_eq_true, decide_eq_true_eq, decide_eq_true_eq]; omega
  have hprod : ((its.toArray.size : Nat) : Int) * k ≤ sizeLine := by
    rw [List.size_toArray, ← hlen]
    have : (xs.length : Int) * k = ((xs.length * k.toNat : Nat) : Int) := by rw [Int.natCast_mul, Int.toNat_of_nonneg (by omega)]
    omega
  refine wpAny_binaryOp_repeat_ref (T := "tuple") (U := "int") (by decide) p.typeIs (fun s' => typeIs_int s' k t) tm_nofill F.fills_int_mul F.slot_int_rmul tm_repeat F.slot_int_index.lookup
    (call_meets F.slot_int_rmul (typeIs_int s k t) F.entry_int_rmul (F.args_int_rmul_2 _ _) (tm_rmul k t a its.toArray n dd sl) ⟨ho, rfl, p.typeIs, ?_⟩)
  by_cases he : its = []
  · subst he
    have hx0 : xs = [] := r.nil_iff.mp rfl
    subst hx0
    exact call_meets F.slot_tuple_mul p.typeIs F.entry_tuple_mul (F.args_tuple_mul_2 _ _) (tm_same a _ n dd sl k t rfl hb) ⟨ho, .ref a, H, I, rfl, q a H (Same.refl _) (by rw [hH]; congr 2; exact (List.flatten_eq_nil_iff.mpr fun l hl => (List.mem_replicate.mp hl).2).symm)⟩
  · have h0 : its.toArray.isEmpty = false := by simpa using he
    have hcap : ¬ (((its.toArray.size : Nat) : Int) * k > (2 ^ 63 - 1) / 8) := by
      have : (sizeLine : Int) ≤ (2 ^ 63 - 1) / 8 := by decide
      omega
    refine call_meets F.slot_tuple_mul p.typeIs F.entry_tuple_mul (F.args_tuple_mul_2 _ _) (tm_mul a _ n dd sl k t h0 hb h1 hcap hprod) ⟨ho, ?_⟩
    have e : List.foldl (fun x1 x2 => x1 ++ x2) #[] (List.replicate k.toNat its.toArray) = (List.replicate k.toNat its).flatten.toArray := by
      have := foldl_rep its k.toNat []
      rw [List.nil_append] at this
      exact this
    rw [e]
    have hf : H s.heap.objs.size = none := I.hok.fresh (Nat.le_refl _)
    refine ⟨.ref s.heap.objs.size, _, I.laid (t' := s.toks) (o := .tup (List.replicate k.toNat xs).flatten) (fun b ob q => Heap.get?_push_of_some _ q) (Nat.le_refl _) ?_, rfl, q _ _ (same_new hf) upd_same⟩
    exact ⟨by rw [len_rep, Nat.mul_comm]; exact hz, _, r.rep k.toNat, IsTup.new _ _⟩
theorem repT_ref {a : Addr} {k : Int} {H : Hp} {Q : VK} : rRepT (.ref a) (.int k) H Q ↔ ∃ xs, H a = some (.tup xs) ∧ 2 ≤ k ∧ k < 1000 ∧ xs.length * k.toNat ≤ sizeLine ∧ ∀ p H', Same H H' → H' p = some (.tup (List.replicate k.toNat xs).flatten) → Q (.ref p) H' := by
  constructor
  · rintro ⟨a', k', xs, h1, h2, h⟩; cases h1; cases h2; exact ⟨xs, h⟩
  · rintro ⟨xs, h⟩; exact ⟨a, k, xs, rfl, rfl, h⟩
/-- a list times a number, the heap behind it as any that holds it -/
def rRepS : R2 := fun x y H Q => ∃ l k xs, x = .ref l ∧ y = .int k ∧ H l = some (.lst xs) ∧ 0 ≤ k ∧ k < 1000000 ∧ xs.length * k.toNat ≤ sizeLine ∧ ∀ p H', H p = none → Same H H' → H' p = some (.lst (List.replicate k.toNat xs).flatten) → Q (.ref p) H'
theorem repS_ref {a : Addr} {k : Int} {H : Hp} {Q : VK} : rRepS (.ref a) (.int k) H Q ↔ ∃ xs, H a = some (.lst xs) ∧ 0 ≤ k ∧ k < 1000000 ∧ xs.length * k.toNat ≤ sizeLine ∧ ∀ p H', H p = none → Same H H' → H' p = some (.lst (List.replicate k.toNat xs).flatten) → Q (.ref p) H' := by
  constructor
  · rintro ⟨a', k', xs, h1, h2, h⟩; cases h1; cases h2; exact ⟨xs, h⟩
  · rintro ⟨xs, h⟩; exact ⟨a, k, xs, rfl, rfl, h⟩
end
end L2
/-! A TUPLE TIMES ANY NUMBER from 0 on -/
namespace L2
open PySem PySem.Spec PyProof.Rows
theorem tm_one (l : Addr) (items : Array Value) (n : Nat) (dd : Option Addr) (sl : Array (Option Value)) (u : Tok) :
    Meets (Builtin.«tuple.__mul__» ⟨[.ref l, .int 1 u], []⟩) (fun _ R s => s.heap.get? l = some { cls := .type "tuple", dict := dd, data := .seq items n, slots := sl } ∧ R (.ok (.ret (Value.ref l))) s) :=
  .of_wp fun prog w A R s h => by
    obtain ⟨hp, g, d, tk, os⟩ := s; obtain ⟨hl, h⟩ := h
    unfold Builtin.«tuple.__mul__»
    have hx1 : (items.isEmpty || ((1 : Int) == 1)) = true := by simp
    have h1 : ¬ (decide ((1 : Int) < -(2 ^ 63)) || decide ((1 : Int) ≥ 2 ^ 63)) = true := by decide
    wp_walk
    first | rw [if_neg h1] | skip
    wp_walk
    first | rw [if_pos hx1] | skip
    wp_walk
    exact ⟨_, rfl, h⟩
theorem tm_zero (l : Addr) (items : Array Value) (n : Nat) (dd : Option Addr) (sl : Array (Option Value)) (u : Tok) (h0 : items.isEmpty = false) :
    Meets (Builtin.«tuple.__mul__» ⟨[.ref l, .int 0 u], []⟩) (fun _ R s => s.heap.get? l = some { cls := .type "tuple", dict := dd, data := .seq items n, slots := sl } ∧
      R (.ok (.ret (Value.ref s.heap.objs.size))) { s with heap := s.heap.push { cls := Value.type "tuple", data := Data.seq #[] }, toks := s.toks }) :=
  .of_wp fun prog w A R s h => by
    obtain ⟨hp, g, d, tk, os⟩ := s; obtain ⟨hl, h⟩ := h
    unfold Builtin.«tuple.__mul__»
    have h1 : ¬ (decide ((0 : Int) < -(2 ^ 63)) || decide ((0 : Int) ≥ 2 ^ 63)) = true := by decide
    have hx1 : ¬ (items.isEmpty || ((0 : Int) == 1)) = true := by rw [h0]; decide
    have hx2 : (decide ((0 : Int) ≤ 0) || items.isEmpty) = true := by simp
    wp_walk
    first | rw [if_neg h1] | skip
    wp_walk
    first | rw [if_neg hx1] | skip
    try dsimp only
    first | rw [if_pos hx2] | skip
    exact ⟨_, rfl, h⟩
section
variable {X : Cx}
def rRepN : R2 := fun x y H Q => ∃ a k xs, x = .ref a ∧ y = .int k ∧ H a = some (.tup xs) ∧ 0 ≤ k ∧ k < 1000 ∧ xs.length * k.toNat ≤ sizeLine ∧ ∀ p H', Same H H' → H' p = some (.tup (List.replicate k.toNat xs).flatten) → Q (.ref p) H'
theorem op_repN : OpR X (binaryOp .Mult) rRepN := by
  intro pins s σ H x y v u Q I rx ry h
  obtain ⟨a, k, xs, rfl, rfl, hH, h1, h2, hz, q⟩ := h
  by_cases hk : 2 ≤ k
  · exact op_repT pins s σ H _ _ v u Q I rx ry ⟨a, k, xs, rfl, rfl, hH, hk, h2, hz, q⟩
  cases rx
  obtain ⟨t, rfl⟩ := ry
  obtain ⟨its, r, p, hl⟩ := I.tuple (SqT.of hH)
  obtain ⟨⟨cls, dd, data, sl⟩, ho, hc, n, hd⟩ := id p
  simp only at hc hd
  subst hc hd
  refine wpAny_binaryOp_repeat_ref (T := "tuple") (U := "int") (by decide) p.typeIs (fun s' => typeIs_int s' k t) tm_nofill F.fills_int_mul F.slot_int_rmul tm_repeat F.slot_int_index.lookup
    (call_meets F.slot_int_rmul (typeIs_int s k t) F.entry_int_rmul (F.args_int_rmul_2 _ _) (tm_rmul k t a its.toArray n dd sl) ⟨ho, rfl, p.typeIs, ?_⟩)
  have h01 : k = 0 ∨ k = 1 := by omega
  rcases h01 with rfl | rfl
  · by_cases he : its = []
    · subst he
      have hx0 : xs = [] := r.nil_iff.mp rfl
      subst hx0
      exact call_meets F.slot_tuple_mul p.typeIs F.entry_tuple_mul (F.args_tuple_mul_2 _ _) (tm_same a _ n dd sl 0 t rfl (by decide)) ⟨ho, .ref a, H, I, rfl, q a H (Same.refl _) hH⟩
    · have h0 : its.toArray.isEmpty = false := by simpa using he
      refine call_meets F.slot_tuple_mul p.typeIs F.entry_tuple_mul (F.args_tuple_mul_2 _ _) (tm_zero a _ n dd sl t h0) ⟨ho, ?_⟩
      have hf : H s.heap.objs.size = none := I.hok.fresh (Nat.le_refl _)
      refine ⟨.ref s.heap.objs.size, _, I.laid (t' := s.toks) (o := .tup []) (fun b ob q => Heap.get?_push_of_some _ q) (Nat.le_refl _) ?_, rfl, q _ _ (same_new hf) upd_same⟩
      exact ⟨Nat.zero_le _, [], .nil, IsTup.new _ _⟩
  · exact call_meets F.slot_tuple_mul p.typeIs F.entry_tuple_mul (F.args_tuple_mul_2 _ _) (tm_one a _ n dd sl t) ⟨ho, .ref a, H, I, rfl, q a H (Same.refl _) (by rw [hH]; simp)⟩
theorem repN_ref {a : Addr} {k : Int} {H : Hp} {Q : VK} : rRepN (.ref a) (.int k) H Q ↔ ∃ xs, H a = some (.tup xs) ∧ 0 ≤ k ∧ k < 1000 ∧ xs.length * k.toNat ≤ sizeLine ∧ ∀ p H', Same H H' → H' p = some (.tup (List.replicate k.toNat xs).flatten) → Q (.ref p) H' := by
  constructor
  · rintro ⟨a', k', xs, h1, h2, h⟩; cases h1; cases h2; exact ⟨xs, h⟩
  · rintro ⟨xs, h⟩; exact ⟨a, k, xs, rfl, rfl, h⟩
end
end L2
/-! list(range(n)), and the smaller one of two numbers -/
namespace L2
open PySem PySem.Spec PyProof.Rows
section
variable {X : Cx}
/-- the ints from lo on -/
def intsV (lo : Int) (n : Nat) : List V := (List.range n).map fun k => .int (lo + (k : Nat))
def tLR (ta : TA) : TE := fun σ H Q => ta σ H fun vs H1 => ∃ j : Int, vs = [.int j] ∧ 0 ≤ j ∧ j ≤ 1000000 ∧ ∀ p, H1 p = none → Q (.ref p) (upd H1 p (.lst (intsV 0 j.toNat)))
end
theorem rd_LR {ta : TA} {σ : St} {H : Hp} {Q : VK} : tLR ta σ H Q ↔ ta σ H fun vs H1 => ∃ j : Int, vs = [.int j] ∧ 0 ≤ j ∧ j ≤ 1000000 ∧ ∀ p, H1 p = none → Q (.ref p) (upd H1 p (.lst (intsV 0 j.toNat))) := Iff.rfl
end L2
/-! A COMPREHENSION over a tuple with a test: the items themselves are kept or left out, as is known one by one -/
namespace L2
open PySem
section
variable {p : Addr} {fv : St} {tt : TT} {te : TE} {Q : VK} {H1 : Hp} {K : PySem.W.Frag}
end
end L2
/-! COMPREHENSIONS of one for whose target is a tuple of two names -/
namespace L2
open PySem PySem.Spec PyProof.Rows
section
variable {X : Cx} {pins : List (Addr × Obj)} {σ : St} {H1 : Hp} {s3 : Shared} {x x2 : Str} {fx : List Str} {fr : List Nat} {scope : Scope} {cl : List (Str × Addr)} {fp : List Addr}
theorem comp_ok2 (I : Inv X pins σ H1 s3) (hkind : scope.kind = .function) (hcl : ∀ y c, cl.lookup y = some c → X.env.cells.lookup y = some c)
    (F : Frees X (relabel scope X.env) cl fx fr) (hfx : ((relabel scope X.env).names.all fun p => if (p.2 == .cell || p.2 == .free) then fx.contains p.1 else true) = true)
    (ffp : ∀ b ∈ fp, FpOk X pins H1 b) (flt : ∀ b ∈ fp, b < s3.heap.objs.size) : (compCx X (x :: x2 :: fx) scope cl s3 H1 fp).Ok where
  mod := I.ok.mod
  kind := hkind
  glob := I.ok.glob
  blt := I.ok.blt
  above := Nat.le_refl _
  inj := fun y z c h1 h2 => I.ok.inj y z c (hcl y c h1) (hcl z c h2)
  has := fun y h => by
    have h : (relabel scope X.env).names.lookup y = some .cell ∨ (relabel scope X.env).names.lookup y = some .free := h
    have key : y ∈ fx := by
      rcases h with h | h
      · have q := List.all_eq_true.mp hfx _ (PySem.mem_of_lookup h)
        simpa using q
      · have q := List.all_eq_true.mp hfx _ (PySem.mem_of_lookup h)
        simpa using q
    obtain ⟨k1, k2⟩ := F.mem y key
    obtain ⟨c, e⟩ := I.ok.has y (.inl k1)
    exact ⟨c, k2.trans e⟩
  cab := fun y c h => by cases (show false = true from h)
  hd := I.ok.hd
  frames := I.ok.frames
  stk := .inl rfl
  exf := fun b hb => ⟨Nat.ne_of_lt (flt b hb), fun y c e => (ffp b hb).2.2.2.2.1 y c (hcl y c e)⟩
  bs := I.bs
  bsz := Nat.le_trans I.ok.bsz I.sz
  noex := fun b o e hb => by
    rcases (ffp b hb).2.2.2.1 with z | z
    · exact I.ok.noex b o e z
    · exact absurd (Nat.lt_of_lt_of_le (Heap.lt_size (I.ok.bs b o e).1) z) (Nat.lt_irrefl _)
  exfs := fun b hb z => by
    rcases List.mem_cons.mp (I.stkSub b z) with q | q
    · exact (ffp b hb).2.1 q
    · exact (ffp b hb).2.2.1 q
  funs := I.stack
  frf := I.stkFree
theorem comp_start2 (I : Inv X pins σ H1 s3) (hkind : scope.kind = .function) (hcl : ∀ y c, cl.lookup y = some c → X.env.cells.lookup y = some c)
    (F : Frees X (relabel scope X.env) cl fx fr) (hfx : ((relabel scope X.env).names.all fun p => if (p.2 == .cell || p.2 == .free) then fx.contains p.1 else true) = true)
    (ffp : ∀ b ∈ fp, FpOk X pins H1 b) (flt : ∀ b ∈ fp, b < s3.heap.objs.size) {h1 : Heap} {t : Nat} {m : Str → Option Value} (hn : h1.Ns s3.heap.objs.size m)
    (keep : ∀ b u, s3.heap.get? b = some u → h1.get? b = some u) : Inv (compCx X (x :: x2 :: fx) scope cl s3 H1 fp) [] (none :: none :: frV σ fr) H1 { s3 with heap := h1, toks := t } := by
  refine ⟨comp_ok2 I hkind hcl F hfx ffp flt, rfl, I.bare, Un.kept keep, ⟨m, hn, fun i y v e1 e2 e3 => ?_⟩, fun y c e => ?_, I.hok.fresh (Nat.le_refl _), fun y c e => I.freeC y c (hcl y c e), fun p hp => absurd (show p ∈ ([] : List (Addr × Obj)) from hp) (by simp), I.hok.kept keep, ?_⟩
  · cases i with
    | zero => simp at e2
    | succ j =>
     cases j with
     | zero => simp at e2
     | succ j =>
      obtain ⟨i0, k1, k2, k3, k4, k5⟩ := F.at (σ := σ) j y v (by simpa [compCx] using e1) (by simpa using e2)
      obtain ⟨m0, hn0, hl0⟩ := I.loc
      obtain ⟨u, r, l⟩ := hl0 i0 y v k1 k2 (.inr (.inl k3))
      refine ⟨u, r, ?_⟩
      rcases l with ⟨z, _⟩ | ⟨_, c, e, o, ho, hd⟩
      · rw [k3] at z; cases z
      · exact .inr ⟨.inl k4, c, k5.trans e, o, keep c o ho, hd⟩
  · obtain ⟨v, o, ho, hd⟩ := I.cell y c (hcl y c e)
    exact ⟨v, o, keep c o ho, hd⟩
  · show (none :: none :: frV σ fr).length = (x :: x2 :: fx).length
    simp [frV, F.len]
end
/-- the walk: each item is a tuple of two -/
def CompI2 (K : PySem.W.Frag) (J : It) (p : Addr) (fv : St) (tt : TT) (te : TE) (Q : VK) (H1 : Hp) : Prop :=
  ∃ W : Nat → Nat → List V → Hp → Prop, (∃ m, W 0 m [] (upd H1 p (.lst []))) ∧ ∀ i m ys H2, W i m ys H2 → H2 p = some (.lst ys) ∧
    ((J.stop i H2 ∧ Q (.ref p) H2) ∨ (J.go i H2 ∧ ys.length < sizeLine ∧ ∀ z H3, J.yld i H2 z H3 → ∃ a x y, z = .ref a ∧ SqT K H3 a [x, y] ∧ tt (some x :: some y :: fv) H3 fun b H4 =>
      if b = true then te (some x :: some y :: fv) H4 fun y H5 => H5 p = some (.lst ys) ∧ ∃ m', m' < m ∧ W (i + 1) m' (ys ++ [y]) (upd H5 p (.lst (ys ++ [y])))
      else ∃ m', m' < m ∧ W (i + 1) m' ys H4))
def tComp2 (K : PySem.W.Frag) (wi : TI) (fr : List Nat) (tt : TT) (te : TE) : TE := fun σ H Q => wi σ H fun J H1 => ∀ p, H1 p = none → CompI2 K J p (frV σ fr) tt te Q H1
section
variable {X : Cx} {elt iter : Expr} {x x2 : Str} {px px2 ptx pos : Pos} {kx : Nat} {ifs : List Expr} {scope : Scope} {cl : List (Str × Addr)} {fx : List Str} {fr : List Nat} {wi : TI} {tt : TT} {te : TE}
theorem comp_block2 {pins : List (Addr × Obj)} {σ : St} {H3 : Hp} {s3 : Shared} {it p : Addr} {fp : List Addr} {tn : Nat → Heap → Prop} {J : It} {Q : VK} {W : Nat → Nat → List V → Hp → Prop} {m0 t : Nat} {h₁ : Heap} {m : Str → Option Value} {RR : Result → Shared → Prop}
    (hc : X.calm = true) (hkind : scope.kind = .function) (hx : scope.names.lookup x = some .local) (hx2 : scope.names.lookup x2 = some .local) (hnd : (x :: x2 :: fx).Nodup)
    (hcl : ∀ y c, cl.lookup y = some c → X.env.cells.lookup y = some c) (F : Frees X (relabel scope X.env) cl fx fr)
    (hfx : ((relabel scope X.env).names.all fun p => if (p.2 == .cell || p.2 == .free) then fx.contains p.1 else true) = true)
    (ht : ∀ s H fp, PF (compCx X (x :: x2 :: fx) scope cl s H fp) ifs tt) (he : ∀ s H fp, PE (compCx X (x :: x2 :: fx) scope cl s H fp) elt te)
    (I3 : Inv X pins σ H3 s3) (T : Turn X.prog X.w X.K (.Tuple [.Name x px, .Name x2 px2] kx ptx) J fp it tn) (st3 : tn 0 s3.heap) (ffp : ∀ b ∈ fp, FpOk X pins H3 b) (flt3 : ∀ b ∈ fp, b < s3.heap.objs.size)
    (w0 : W 0 m0 [] H3) (turn : ∀ i m ys H2, W i m ys H2 → H2 p = some (.lst ys) ∧
      ((J.stop i H2 ∧ Q (.ref p) H2) ∨ (J.go i H2 ∧ ys.length < sizeLine ∧ ∀ z H3, J.yld i H2 z H3 → ∃ a x y, z = .ref a ∧ SqT X.K H3 a [x, y] ∧ tt (some x :: some y :: frV σ fr) H3 fun b H4 =>
        if b = true then te (some x :: some y :: frV σ fr) H4 fun y H5 => H5 p = some (.lst ys) ∧ ∃ m', m' < m ∧ W (i + 1) m' (ys ++ [y]) (upd H5 p (.lst (ys ++ [y])))
        else ∃ m', m' < m ∧ W (i + 1) m' ys H4)))
    (hns : h₁.Ns s3.heap.objs.size m) (keep1 : ∀ b u, s3.heap.get? b = some u → h₁.get? b = some u)
    (fin : ∀ s6 H5 o o2, Inv (compCx X (x :: x2 :: fx) scope cl s3 H3 fp) [] (o :: o2 :: frV σ fr) H5 s6 → Q (.ref p) H5 → RR (.ok .next) s6) :
    codeAny (model X.prog X.w) X.A (.compStart (.ListComp elt [⟨.Tuple [.Name x px, .Name x2 px2] kx ptx, iter, ifs, 0⟩] scope pos) 0 (.ref it) (.ref p) (compEnvC scope cl s3.heap.objs.size X.env))
      RR { s3 with heap := h₁, toks := t } := by
  have I4 := comp_start2 (x := x) (x2 := x2) (t := t) I3 hkind hcl F hfx ffp flt3 hns keep1
  have st4 : tn 0 h₁ := T.keep _ _ _ st3 fun b hb o e => keep1 b o e
  have fp0 : ∀ b ∈ fp, H3 b = none := fun b hb => (ffp b hb).1
  have hcal : (compCx X (x :: x2 :: fx) scope cl s3 H3 fp).calm = true := hc
  have stat : ∀ {H' : Hp}, (∀ b ∈ fp, H' b = none) → ∀ b ∈ fp, FpOk (compCx X (x :: x2 :: fx) scope cl s3 H3 fp) [] H' b := fun {H'} hn b hb => by
    obtain ⟨f0, f1, f2, f3, f4, f5⟩ := ffp b hb
    exact ⟨hn b hb, Nat.ne_of_lt (flt3 b hb), I4.ok.exfs b hb, .inl hb, fun y c e => f4 y c (hcl y c e), fun q hq => absurd (show q ∈ ([] : List (Addr × Obj)) from hq) (by simp)⟩
  have hxl : (relabel scope X.env).names.lookup x = some .local := lookup_relabel_local hx
  have hxl2 : (relabel scope X.env).names.lookup x2 = some .local := lookup_relabel_local hx2
  have pg : PG (compCx X (x :: x2 :: fx) scope cl s3 H3 fp) (.Tuple [.Name x px, .Name x2 px2] kx ptx) (gTup X.K 2 (gCons (gName 0) (gCons (gName 1) gNil))) := pg_tup hcal (pgs_cons (pg_name (i := 0) hnd rfl (.inl hxl) (.inr hxl)) (pgs_cons (pg_name (i := 1) hnd rfl (.inl hxl2) (.inr hxl2)) pgs_nil))
  have loop : codeAny (model X.prog X.w) X.A (.compLoop (.ListComp elt [⟨.Tuple [.Name x px, .Name x2 px2] kx ptx, iter, ifs, 0⟩] scope pos) 0 (.ref it) (.ref p) (compEnvC scope cl s3.heap.objs.size X.env))
        RR { s3 with heap := h₁, toks := t } := by
    refine compLoop_any (fun n s' => ∃ i ys H' o o2, Inv (compCx X (x :: x2 :: fx) scope cl s3 H3 fp) [] (o :: o2 :: frV σ fr) H' s' ∧ tn i s'.heap ∧ (∀ b ∈ fp, H' b = none) ∧ W i n ys H') ?_ m0 ⟨0, [], _, none, none, I4, st4, fp0, w0⟩
    rintro n s5 ⟨i, ys, H5, o, o2, I5, st5, fr5, w5⟩
    obtain ⟨hp5, alt⟩ := turn i n ys H5 w5
    rcases alt with ⟨stop, qn⟩ | ⟨go, hlen, step⟩
    · refine thn (T.done (compCx X (x :: x2 :: fx) scope cl s3 H3 fp) rfl rfl rfl hcal i [] s5 (o :: o2 :: frV σ fr) H5 _ I5 (stat fr5) st5 stop) fun r s6 ⟨hr, I6⟩ => ?_
      subst hr
      exact fin s6 H5 o o2 I6 qn
    · refine thn (T.item (compCx X (x :: x2 :: fx) scope cl s3 H3 fp) rfl rfl rfl hcal i [] s5 (o :: o2 :: frV σ fr) H5 _ I5 (stat fr5) st5 go) fun r s6 ⟨u, hr, h6⟩ => ?_
      subst hr
      refine thn h6 fun _ s7 ⟨y7, H7, I7, r7, yl7, st7, fr7⟩ => ?_
      have I7' := I7.pinned (stat fr7) (T.obj _ _ st7)
      have back : ∀ {σ' : St} {H' : Hp} {s' : Shared}, Inv (compCx X (x :: x2 :: fx) scope cl s3 H3 fp) ([] ++ pinsAt fp s7.heap) σ' H' s' → tn (i + 1) s'.heap ∧ ∀ b ∈ fp, H' b = none := fun {σ' H' s'} I' => by
        refine ⟨T.keep _ _ _ st7 fun b hb o e => (I'.pin (b, o) (List.mem_append_right _ (List.mem_append_right _ (mem_pinsAt hb e)))).1, fun b hb => ?_⟩
        obtain ⟨o, e, d⟩ := T.obj _ _ st7 b hb
        exact (I'.pin (b, o) (List.mem_append_right _ (List.mem_append_right _ (mem_pinsAt hb e)))).2.1
      obtain ⟨a7, z1, z2, e7, q7, step7⟩ := step y7 _ yl7
      subst e7
      refine thn (pg _ s7 _ H7 (.ref a7) u (fun σ' H' => σ' = some z1 :: some z2 :: frV σ fr ∧ H' = H7) I7' r7 ⟨a7, [z1, z2], rfl, q7, rfl, z1, [z2], rfl, z2, [], rfl, rfl, rfl, rfl⟩) fun _ s8 ⟨σ8, H8, I8, e8, e8'⟩ => ?_
      subst e8 e8'
      refine thn (ht s3 H3 fp _ s8 _ _ _ I8 step7) fun b s9 ⟨H9, I9, q9⟩ => ?_
      cases b with
      | false =>
        rw [if_neg Bool.false_ne_true] at q9 ⊢
        obtain ⟨m', hm, w9⟩ := q9
        exact ⟨m', hm, i + 1, ys, H9, some z1, some z2, I9.unpinned, (back I9).1, (back I9).2, w9⟩
      | true =>
        rw [if_pos rfl] at q9 ⊢
        refine thn (he s3 H3 fp _ s9 _ H9 _ I9 q9) fun u10 s10 ⟨y10, H10, I10, r10, hp10, m', hm, w10⟩ => ?_
        refine thn (mt_append _ s10 _ H10 (.ref p) [y10] (.ref p) [u10] (fun _ H' => H' = upd H10 p (.lst (ys ++ [y10]))) I10 rfl (.cons r10 .nil) ⟨p, ys, y10, rfl, rfl, hp10, hlen, rfl⟩) fun _ s11 ⟨_, H11, I11, _, e11⟩ => ?_
        subst e11
        exact ⟨m', hm, i + 1, ys ++ [y10], _, some z1, some z2, I11.unpinned, (back I11).1, (back I11).2, w10⟩
  exact codeAny_compStart_list loop (T.self _ 0 _ _ _ st4 loop)
theorem pe_comp2 (hc : X.calm = true) (hclos : closureFor scope X.env = pure cl) (hcell : ∀ y ∈ scope.names, y.2 ≠ .cell) (hkind : scope.kind = .function)
    (hnames : ∀ y ∈ scope.names, y.2 = .local → scope.names.lookup y.1 = some .local) (hx : scope.names.lookup x = some .local) (hx2 : scope.names.lookup x2 = some .local) (hnd : (x :: x2 :: fx).Nodup)
    (hk : (cl.all fun q => fx.contains q.1) = true) (F : Frees X (relabel scope X.env) cl fx fr)
    (hfx : ((relabel scope X.env).names.all fun p => if (p.2 == .cell || p.2 == .free) then fx.contains p.1 else true) = true)
    (hi : PI X (.Tuple [.Name x px, .Name x2 px2] kx ptx) iter wi) (ht : ∀ s H fp, PF (compCx X (x :: x2 :: fx) scope cl s H fp) ifs tt) (he : ∀ s H fp, PE (compCx X (x :: x2 :: fx) scope cl s H fp) elt te)
    (hs : ∀ x, foldedSetIterable iter X.env x = pure x := by intro _; rfl) :
    PE X (.ListComp elt [⟨.Tuple [.Name x px, .Name x2 px2] kx ptx, iter, ifs, 0⟩] scope pos) (tComp2 X.K wi fr tt te) := by
  intro pins s σ H Q I h
  have hcl : ∀ y c, cl.lookup y = some c → X.env.cells.lookup y = some c := fun y c e => by
    have q := List.all_eq_true.mp hk _ (PySem.mem_of_lookup e)
    rw [← (F.mem y (by simpa using q)).2]
    exact e
  rw [eval_ListComp]
  refine wpAny_comprehension_free (use := none) rfl hs hclos hkind hnames ?_
  refine thn (hi pins s σ H _ I h) fun v s1 h1 => thn h1 fun itv s2 h2 => ?_
  obtain ⟨it, fp, tn, J, H2, e, I2, T, st2, f2, q2⟩ := h2
  subst e
  have hp0 : H2 s2.heap.objs.size = none := I2.hok.fresh (Nat.le_refl _)
  obtain ⟨W, ⟨m0, w0⟩, turn⟩ := q2 _ hp0
  have flt : ∀ b ∈ fp, b < s2.heap.objs.size := fun b hb => by
    obtain ⟨o, e, _⟩ := T.obj _ _ st2 b hb
    exact Heap.lt_size e
  refine wpAny_newObj_type (wpAny_newFunctionEnv hcell (by intro y hy; simp at hy) (fun h₁ hns₁ hsb₁ => ?_) hkind)
  dsimp only at hns₁ hsb₁ ⊢
  have hlay : ∀ b u, s2.heap.get? b = some u → (s2.heap.push { cls := .type "list", dict := none, data := .seq ([] : List Value).toArray }).get? b = some u := fun b u e => Heap.get?_push_of_some _ e
  have hnew : (s2.heap.push { cls := .type "list", dict := none, data := .seq ([] : List Value).toArray }).get? s2.heap.objs.size = some { cls := .type "list", dict := none, data := .seq ([] : List Value).toArray } := Heap.get?_push_size _ rfl
  have hsz : (s2.heap.push { cls := .type "list", dict := none, data := .seq ([] : List Value).toArray }).objs.size = s2.heap.objs.size + 1 := Heap.size_push _ _
  generalize hHH : s2.heap.push { cls := .type "list", dict := none, data := .seq ([] : List Value).toArray } = HH at hns₁ hsb₁ hlay hnew hsz ⊢
  have I3 : Inv X pins σ (upd H2 s2.heap.objs.size (.lst [])) { s2 with heap := HH, toks := s2.toks } :=
    I2.laid (t' := s2.toks) (o := .lst []) hlay (Nat.le_refl _) ⟨Nat.zero_le _, [], 0, .nil, hnew⟩
  have ffp : ∀ b ∈ fp, FpOk X pins (upd H2 s2.heap.objs.size (.lst [])) b := fun b hb => by
    obtain ⟨f0, fr'⟩ := f2 b hb
    exact ⟨by rw [upd_ne (Nat.ne_of_lt (flt b hb))]; exact f0, fr'⟩
  have keep1 : ∀ b u, HH.get? b = some u → h₁.get? b = some u := fun b u e => hsb₁.extBut b u (Nat.ne_of_lt (Heap.lt_size e)) (Heap.get?_push_of_some _ e)
  exact comp_block2 (s3 := { s2 with heap := HH, toks := s2.toks }) hc hkind hx hx2 hnd hcl F hfx ht he I3 T (T.keep _ _ _ st2 fun b hb o e => hlay b o e) ffp (fun b hb => by show b < HH.objs.size; rw [hsz]; exact Nat.lt_succ_of_lt (flt b hb)) w0 turn hns₁ keep1 fun s6 H5 o o2 I6 qn => by
    obtain ⟨m, hn6, _⟩ := id I6.loc
    exact ⟨m, hn6, fun h' sb => ⟨.ref _, H5, comp_done I3 I6 ffp sb, rfl, qn⟩⟩
theorem pe_comp2K {K : PySem.W.Frag} (h : X.K = K) (hc : X.calm = true) (hclos : closureFor scope X.env = pure cl) (hcell : ∀ y ∈ scope.names, y.2 ≠ .cell) (hkind : scope.kind = .function)
    (hnames : ∀ y ∈ scope.names, y.2 = .local → scope.names.lookup y.1 = some .local) (hx : scope.names.lookup x = some .local) (hx2 : scope.names.lookup x2 = some .local) (hnd : (x :: x2 :: fx).Nodup)
    (hk : (cl.all fun q => fx.contains q.1) = true) (F : Frees X (relabel scope X.env) cl fx fr)
    (hfx : ((relabel scope X.env).names.all fun p => if (p.2 == .cell || p.2 == .free) then fx.contains p.1 else true) = true)
    (hi : PI X (.Tuple [.Name x px, .Name x2 px2] kx ptx) iter wi) (ht : ∀ s H fp, PF (compCx X (x :: x2 :: fx) scope cl s H fp) ifs tt) (he : ∀ s H fp, PE (compCx X (x :: x2 :: fx) scope cl s H fp) elt te)
    (hs : ∀ x, foldedSetIterable iter X.env x = pure x := by intro _; rfl) :
    PE X (.ListComp elt [⟨.Tuple [.Name x px, .Name x2 px2] kx ptx, iter, ifs, 0⟩] scope pos) (tComp2 K wi fr tt te) := by
  subst h; exact pe_comp2 hc hclos hcell hkind hnames hx hx2 hnd hk F hfx hi ht he hs
end
section
variable {p : Addr} {fv : St} {te : TE} {Q : VK} {H1 : Hp} {K : PySem.W.Frag}
theorem rd_comp2T {tl : TE} {tt : TT} {fr : List Nat} {σ : St} {H : Hp} : tComp2 K (iTup K tl) fr tt te σ H Q ↔ tl σ H fun x H1 => ∃ a, x = .ref a ∧ (∃ xs, SqT K H1 a xs) ∧ ∀ p, H1 p = none → CompI2 K (Itt K a) p (frV σ fr) tt te Q H1 := Iff.rfl
end
end L2
/-! A TEXT'S find -/
namespace L2
open PySem PySem.Spec PyProof.Rows
section
variable {X : Cx}
def rFind : V → List V → Hp → VK → Prop := fun x vs H Q => match x, vs with
  | .str z, [.str y] => Q (.int (Txt.find z y)) H
  | _, _ => False
theorem fi_find {z y : Str} {H : Hp} {Q : VK} : rFind (.str z) [.str y] H Q ↔ Q (.int (Txt.find z y)) H := Iff.rfl
end
end L2
namespace Wm
open PySem L2
end Wm
namespace Wm
open PySem L2
end Wm
namespace Wm
open PySem L2
end Wm
namespace Wm
end Wm
namespace L2
open PySem
theorem pa_ref {l : Addr} {H : Hp} {Q : VK} {i : Int} : rPopAt (.ref l) [.int i] H Q ↔ ∃ xs k y, H l = some (.lst xs) ∧ -(2 ^ 63) ≤ i ∧ i < 2 ^ 63 ∧ seqIndex? i xs.length = some k ∧ xs[k]? = some y ∧ Q y (upd H l (.lst (xs.eraseIdx k))) :=
  ⟨fun ⟨_, xs, _, k, y, h1, h2, h⟩ => by cases h1; cases h2; exact ⟨xs, k, y, h⟩, fun ⟨xs, k, y, h⟩ => ⟨_, xs, _, k, y, rfl, rfl, h⟩⟩
end L2
/-! EXCEPTIONS of own classes: raised without arguments, leaving a def, caught around one call -/
namespace L2
open PySem PySem.Spec PySem.W PyProof.Rows
/-! ### raise C() -/
def tRaise (E : XK) (C : Addr) : TS := fun _ _ H => E (.ref C) none H
theorem rd_raise {E : XK} {C : Addr} {D : Ends} {σ : St} {H : Hp} : tRaise E C D σ H ↔ E (.ref C) none H := Iff.rfl
/-! ### an exception that leaves a def -/
theorem ObjOk.ex {P : Program} {w : World} {H : Hp} {h : Heap} {a : Addr} {o : HO} (x : ObjOk P w H h a o) : ∃ u, h.get? a = some u := by
  cases o with
  | lst xs => obtain ⟨_, _, _, _, e⟩ := x; exact ⟨_, e⟩
  | tup xs => obtain ⟨_, _, _, _, e, _⟩ := x; exact ⟨_, e⟩
  | dK kvs => obtain ⟨_, _, _, _, _, _, _, e, _⟩ := x; exact ⟨_, e⟩
  | dT kvs => obtain ⟨_, _, _, _, _, _, _, e, _⟩ := x; exact ⟨_, e⟩
  | set S n => obtain ⟨_, _, _, _, e, _⟩ := x; exact ⟨_, e⟩
  | ins C dx fs => obtain ⟨_, _, _, e, _⟩ := x; exact ⟨_, e⟩
  | own y => exact x
  | xd fs => obtain ⟨_, ⟨_, _, _, e, _⟩, _⟩ := x; exact ⟨_, e⟩
  | rng lo hi => obtain ⟨_, _, _, e⟩ := x; exact ⟨_, e⟩
  | frz ob u => exact ⟨_, x.1⟩
  | tbl ps => exact ⟨_, x⟩
  | met f y => exact ⟨_, x⟩
  | ext φ => exact x.2.1
/-- how it lies behind a call: in the heap s', with the abstract heap H'; B is all but the frames and the exception's own records -/
structure Flown (P : Program) (w : World) (base : Heap) (outer : List Env) (H : Hp) (s : Shared) (a t C : Addr) (B : Heap) (H' : Hp) (s' : Shared) : Prop where
  os : s'.os = s.os
  bare : AllBare s'.gens
  st : base.StaysIn B
  fly : Heap.FlyingW B outer a (.ref C) (.ref t) s'.heap
  hok : HOk P w H' B
  un : Un (frs outer) [] H H' s.heap s'.heap
  kb : ∀ b o, s.heap.get? b = some o → H b = none → b ∉ frs outer → B.get? b = some o
  thB : ∀ b o, s.heap.get? b = some o → b ∉ frs outer → ∃ o', B.get? b = some o'
section
variable {P : Program} {w : World} {K : Frag} {mg : Str → Option Value} {base : Heap} {N : List Str} {qual : Str} {scope : Scope} {f : Addr} {cd : Value} {A : Around} {outer : List Env} {s : Shared} {H : Hp} {E : XK}
end
end L2
namespace L2
open PySem PySem.Spec PySem.W PyProof.Rows
/-! ### try: f(..), except W as n -/
/-- what is kept of an exception that was caught: its class -/
def exO (a C : Addr) : HO := .ext fun h => ∃ o, h.get? a = some o ∧ o.cls = .ref C
abbrev Cx.handling (X : Cx) (e : Value) : Cx := { X with A := X.A.mark (some e), calm := false, xe := fun _ _ => False }
section
variable {X : Cx} {pins : List (Addr × Obj)} {σ : St} {H H1 H2 : Hp} {s s1 s2 : Shared}
theorem Inv.handling (e : Value) (I : Inv X pins σ H s) : Inv (X.handling e) pins σ H s :=
  ⟨⟨I.ok.mod, I.ok.kind, I.ok.glob, I.ok.blt, I.ok.above, I.ok.inj, I.ok.has, I.ok.cab, (fun z => by cases z), I.ok.frames, I.ok.stk, I.ok.exf, I.ok.bs, I.ok.bsz, I.ok.noex, I.ok.exfs, I.ok.funs, I.ok.frf⟩, I.os, I.bare, I.base, I.loc, I.cell, I.free, I.freeC, I.pin, I.hok, I.len⟩
theorem Inv.handled {e : Value} (J : X.Ok) (I : Inv (X.handling e) pins σ H s) : Inv X pins σ H s := ⟨J, I.os, I.bare, I.base, I.loc, I.cell, I.free, I.freeC, I.pin, I.hok, I.len⟩
theorem Flown.new {P : Program} {w : World} {base B h5 : Heap} {outer : List Env} {a t C : Addr} {a0 : Value} (W : Flown P w base outer H1 s1 a t C B H2 s2) : H2 a = none := by
  cases q : H2 a with
  | none => rfl
  | some u =>
    obtain ⟨o, z⟩ := (W.hok a u q).ex
    rw [W.fly.2.1] at z
    cases z
theorem Inv.caught {a t C : Addr} {B h5 : Heap} {a0 : Value} (I : Inv X pins σ H1 s1) (W : Flown X.prog X.w X.base X.stack H1 s1 a t C B H2 s2) (f5 : Heap.FlyingW B X.stack a (.ref C) a0 h5) (sm : s2.heap.UpToSlots h5) :
    Inv X pins σ (upd H2 a (exO a C)) { s2 with heap := h5 } := by
  have hn : H2 a = none := W.new (h5 := h5) (a0 := a0)
  obtain ⟨oe, vs, T, oT, ts, he, _, hd, _⟩ := W.fly.2.2.2
  have fr : ∀ b ∈ frs X.stack, ∀ o, s2.heap.get? b = some o → b ≠ a ∧ ∃ sl, h5.get? b = some { o with slots := sl } := fun b hb o q => by
    obtain ⟨_, o2, q2, nd⟩ := W.fly.2.2.1.mem hb
    rw [q] at q2
    cases q2
    refine ⟨fun z => ?_, sm b o q nd⟩
    rw [z, he] at q
    cases q
    exact nd _ hd
  have na : ∀ b o, s1.heap.get? b = some o → b ≠ a := fun b o q => by
    by_cases hb : b ∈ frs X.stack
    · obtain ⟨o', z⟩ := W.un.there b o q (by simp)
      exact (fr b hb o' z).1
    · obtain ⟨o', z⟩ := W.thB b o q hb
      rintro rfl
      rw [W.fly.2.1] at z
      cases z
  refine I.call' (H' := upd H2 a (exO a C)) (s' := { s2 with heap := h5 }) (ch := []) W.os ⟨fun b o q n nf _ => f5.1 b o (W.kb b o q n nf), fun b o q n hb _ => ?_, fun b o q n _ => ?_, fun b o q _ => ?_, fun b xs q => ?_, fun b o u q => ?_, fun b ps q => ?_⟩ (fun b u q => ?_) W.bare (fun b z => by cases z)
  · obtain ⟨sl, z⟩ := W.un.slot b o q n hb (by simp)
    obtain ⟨_, sl', z'⟩ := fr b hb _ z
    exact ⟨sl', z'⟩
  · rw [upd_ne (na b o q)]
    exact W.un.free b o q n (by simp)
  · by_cases hb : b ∈ frs X.stack
    · obtain ⟨o', z⟩ := W.un.there b o q (by simp)
      obtain ⟨_, sl', z'⟩ := fr b hb _ z
      exact ⟨_, z'⟩
    · obtain ⟨o', z⟩ := W.thB b o q hb
      exact ⟨o', f5.1 b o' z⟩
  · have z := W.un.tups b xs q
    rw [upd_ne (ne_of_none z hn)]
    exact z
  · have z := W.un.frzs b o u q
    rw [upd_ne (ne_of_none z hn)]
    exact z
  · obtain ⟨m, z⟩ := W.un.tbls b ps q
    exact ⟨m, by rw [upd_ne (ne_of_none z hn)]; exact z⟩
  · by_cases hb : b = a
    · subst hb
      rw [upd_same] at q
      cases q
      obtain ⟨ob, hob, hoc⟩ := f5.there
      exact ⟨⟨ob, hob, hoc⟩, ⟨ob, hob⟩, fun h1 h2 ⟨o, z, c⟩ k => ⟨o, k o z, c⟩⟩
    · rw [upd_ne hb] at q
      refine (W.hok b u q).stay (fun c v _ z => f5.1 c v z) (fun c z => ?_) fun c xs z => ?_
      · rw [upd_ne (ne_of_none z hn)]; exact z
      · rw [upd_ne (ne_of_none z hn)]; exact z
end
/-- a class that may be caught, and what stands under it -/
structure Catch (K : Frag) (W : Addr) : Prop where
  ty : typeIn K (.ref W) = some (.type "type")
  ex : subIn K (.ref W) (.type "BaseException") = some true
  cl : (clsIn K W).isSome = true
end L2
namespace L2
open PySem PySem.Spec PySem.W PyProof.Rows
def tTry (K : Frag) (sp : Sp) (t : TA) (W : Addr) (i : Nat) (tb : TS) : TS := fun D σ H => t σ H fun vs H1 => sp vs H1 (fun _ H2 => D.nx σ H2) fun cls _ H2 =>
  ∃ C, cls = .ref C ∧ subIn K (.ref C) (.ref W) = some true ∧ ∀ a, H2 a = none → tb { nx := fun σ' H' => D.nx (σ'.set i none) H', rt := D.rt } (σ.set i (some (.ref a))) (upd H2 a (exO a C))
end L2
namespace L2
open PySem PySem.Spec PySem.W PySem.Calls PyProof.Rows PySem.Builtin PySem.Builtin.ObjectAttr PySem.Builtin.Getset_descriptor
/-! ### isinstance of an exception that was caught -/
/-- how __class__ is found on an exception of the class at C -/
structure ExLook (K : Frag) (C : Addr) : Prop where
  ga : findIn K (.ref C) "__getattribute__" = some (some (.builtin "BaseException.__getattribute__"))
  cl : findIn K (.ref C) "__class__" = some (some (.builtin "object.__class__"))
  na : findIn K (.ref C) "__getattr__" = some none
  mo : mroIn K C (.type "object") = some true
  mb : mroIn K C (.type "BaseException") = some true
  is : (clsIn K C).isSome = true
section
variable {prog : Program} {w : World} {A : Around} {E : Value → Shared → Prop} {hh : Heap} {g : Array GenState} {dr : Drawn} {t : Nat} {os : OsState} {K : Frag} {a C : Addr} {o : Obj}
end
/-- what isinstance says of an exception of the class at C -/
inductive KitAns (K : Frag) (H : Hp) (C : Addr) : V → Bool → Prop
  | cls {W : Addr} {b : Bool} : kitOne K (.ref C) (.ref W) = some b → KitAns K H C (.ref W) b
  | ty {T : String} {b : Bool} : kitOne K (.ref C) (.type T) = some b → KitAns K H C (.ty T) b
  | tup {p : Addr} {cs : List Addr} {b : Bool} : H p = some (.tup (cs.map V.ref)) → kitAny K (.ref C) (cs.map Value.ref) = some b → KitAns K H C (.ref p) b
def rIsE (K : Frag) : List V → Hp → VK → Prop := fun vs H Q => ∃ a c C b, vs = [.ref a, c] ∧ H a = some (exO a C) ∧ ExLook K C ∧ KitAns K H C c b ∧ Q (.bl b) H
end L2
namespace L2
open PySem PySem.W
theorem rd_isE {K : Frag} {a : Addr} {c : V} {H : Hp} {Q : VK} : rIsE K [.ref a, c] H Q ↔ ∃ C b, H a = some (exO a C) ∧ ExLook K C ∧ KitAns K H C c b ∧ Q (.bl b) H :=
  ⟨fun ⟨_, _, C, b, e, h⟩ => by cases e; exact ⟨C, b, h⟩, fun ⟨C, b, h⟩ => ⟨a, c, C, b, rfl, h⟩⟩
theorem rd_try {K : Frag} {sp : Sp} {t : TA} {W : Addr} {i : Nat} {tb : TS} {D : Ends} {σ : St} {H : Hp} : tTry K sp t W i tb D σ H ↔ t σ H fun vs H1 => sp vs H1 (fun _ H2 => D.nx σ H2) fun cls _ H2 =>
  ∃ C, cls = .ref C ∧ subIn K (.ref C) (.ref W) = some true ∧ ∀ a, H2 a = none → tb { nx := fun σ' H' => D.nx (σ'.set i none) H', rt := D.rt } (σ.set i (some (.ref a))) (upd H2 a (exO a C)) := Iff.rfl
end L2
/-! A TEXT'S startswith with a place -/
namespace L2
open PySem PySem.Spec PyProof.Rows
section
variable {X : Cx}
def rStarts : V → List V → Hp → VK → Prop := fun x vs H Q => ∃ z y, ∃ i : Nat, x = .str z ∧ vs = [.str y, .int (i : Int)] ∧ Q (.bl (decide (i + y.length ≤ z.length) && Builtin.Str.subAt z y i)) H
end
end L2
namespace L2
open PySem PySem.Spec PyProof.Rows
section
variable {X : Cx}
def rPart : V → List V → Hp → VK → Prop := fun x vs H Q => ∃ z y, x = .str z ∧ vs = [.str y] ∧ (y.length == 0) = false ∧ z.length ≤ sizeLine ∧
  ∀ p, H p = none → Q (.ref p) (upd H p (.tup [.str (Txt.partition z y).1, .str (Txt.partition z y).2.1, .str (Txt.partition z y).2.2]))
end
end L2
/-! READING: a text and the place up to which it is read -/
namespace L2
open PySem PySem.Spec PyProof.Rows
section
variable {X : Cx}
/-- int of a text of figures -/
def rIntS : List V → Hp → VK → Prop := fun xs H Q => ∃ z n, xs = [.str z] ∧ z.length ≤ 640 ∧ PySem.intText? z = some n ∧ Q (.int n) H
theorem call_intS : CallR X (.type "int") rIntS := by
  intro pins s σ H xs us Q I r h
  obtain ⟨z, n, rfl, hz, hn, q⟩ := h
  obtain ⟨u, rfl, t, rfl⟩ := vals1 r
  exact PySem.W.KIN.call_text hn hz ⟨.int n, H, I.tok _, ⟨_, rfl⟩, q⟩
theorem inS_str {z : Str} {H : Hp} {Q : VK} : rIntS [.str z] H Q ↔ ∃ n, z.length ≤ 640 ∧ PySem.intText? z = some n ∧ Q (.int n) H :=
  ⟨fun ⟨_, n, e, h⟩ => by cases e; exact ⟨n, h⟩, fun ⟨n, h⟩ => ⟨z, n, rfl, h⟩⟩
theorem sw_str {z y : Str} {i : Nat} {H : Hp} {Q : VK} : rStarts (.str z) [.str y, .int (i : Int)] H Q ↔ Q (.bl (decide (i + y.length ≤ z.length) && Builtin.Str.subAt z y i)) H :=
  ⟨fun ⟨_, _, j, e1, e2, h⟩ => by
    cases e1
    injection e2 with e2 e3
    cases e2
    injection e3 with e3
    injection e3 with e3
    obtain rfl : i = j := by omega
    exact h, fun h => ⟨z, y, i, rfl, rfl, h⟩⟩
theorem pt_str {z y : Str} {H : Hp} {Q : VK} : rPart (.str z) [.str y] H Q ↔ (y.length == 0) = false ∧ z.length ≤ sizeLine ∧ ∀ p, H p = none → Q (.ref p) (upd H p (.tup [.str (Txt.partition z y).1, .str (Txt.partition z y).2.1, .str (Txt.partition z y).2.2])) :=
  ⟨fun ⟨_, _, e1, e2, h⟩ => by cases e1; cases e2; exact h, fun h => ⟨z, y, rfl, rfl, h⟩⟩
theorem rd_fld {K : PySem.W.Frag} {ta : TE} {f : Str} {σ : St} {H : Hp} {Q : VK} : tFld K ta f σ H Q ↔ ta σ H fun x H1 => ∃ a C dx fs v, x = .ref a ∧ H1 a = some (.ins C dx fs) ∧ Cls K C ∧ NoAttr K C f ∧ fs.lookup f = some v ∧ Q v H1 := Iff.rfl
theorem rd_sfld {K : PySem.W.Frag} {ta tv : TE} {f : Str} {D : Ends} {σ : St} {H : Hp} : sFld K ta tv f D σ H ↔ tv σ H fun y H1 => ta σ H1 fun x H2 => ∃ a C dx fs, x = .ref a ∧ H2 a = some (.ins C dx fs) ∧ Cls K C ∧ NoAttr K C f ∧ fs.length < 1000 ∧ D.nx σ (upd H2 a (.ins C dx (putF f y fs))) := Iff.rfl
theorem rd_meth {C : Addr} {m : Str} {sp : Sp} {dvs : List V} {E : XK} {ta : TE} {t : TA} {σ : St} {H : Hp} {Q : VK} : tMeth C m sp dvs E ta t σ H Q ↔ ta σ H fun x H1 => ∃ a dx fs, x = .ref a ∧ H1 a = some (.ins C dx fs) ∧ fs.lookup m = none ∧ t σ H1 fun vs H2 => sp (x :: (vs ++ dvs)) H2 Q E := Iff.rfl
theorem rd_make {C : Addr} {sp : Sp} {dvs : List V} {E : XK} {t : TA} {σ : St} {H : Hp} {Q : VK} : tMake C sp dvs E t σ H Q ↔ t σ H fun vs H1 => ∀ x dx, H1 x = none → H1 dx = none → dx ≠ x → sp (.ref x :: (vs ++ dvs)) (upd (upd H1 dx (.own x)) x (.ins C dx [])) (fun v H2 => v = .non ∧ Q (.ref x) H2) E := Iff.rfl
end
end L2
namespace Wm
open PySem L2
/-- the part of a text ahead of its first colon -/
def ahead (t : List Nat) : List Nat := t.takeWhile fun c => decide (c ≠ 58)
/-! ### a cursor: its text and its place -/
def Cur (H : Hp) (C p : Addr) (t : List Nat) (k : Nat) : Prop := ∃ dx, H p = some (.ins C dx [("text", .str ⟨t.toArray⟩), ("place", .int (k : Int))])
/-- w writes s, the signs of fr being free -/
inductive WrT (fr : List Nat) : List Nat → List Nat → Prop
  | nil : WrT fr [] []
  | self {c : Nat} {s w : List Nat} : (isPl c = true ∨ c ∈ fr) → c ≠ 126 → WrT fr s w → WrT fr (c :: s) (c :: w)
  | pair {c a b : Nat} {s w : List Nat} : sgO a b = some c → WrT fr s w → WrT fr (c :: s) (126 :: a :: b :: w)
/-! ### reading through a cursor -/
section
variable {K : PySem.W.Frag} {H : Hp} {C p : Addr} {t : List Nat} {i : Nat}
theorem Cur.same {H' : Hp} (h : Cur H C p t i) (s : Same H H') : Cur H' C p t i := let ⟨dx, hp⟩ := h; ⟨dx, s _ _ hp⟩
end

def frS : List Nat := (Str.ofString "!$'()*,;@&=+").cps.toList
def frQ : List Nat := (Str.ofString "!$'()*,;@+/?:").cps.toList
def ValW (o : Option (List Nat)) (w : List Nat) : Prop := match o with
  | none => w = []
  | some s => ∃ v, w = 61 :: v ∧ WrT frQ s v

/-- what is written behind a step: nothing, a / at the end, or a / and further steps -/
inductive TlW : List (List Nat) → Bool → List Nat → Prop
  | stop : TlW [] false []
  | ends : TlW [] true [47]
  | more {s w : List Nat} {ss : List (List Nat)} {e : Bool} {v : List Nat} : WrT frS s w → s ≠ [] → TlW ss e v → TlW (s :: ss) e (47 :: (w ++ v))
inductive StpW : List (List Nat) → Bool → List Nat → Prop
  | none {e : Bool} : StpW [] e []
  | some {s w : List Nat} {ss : List (List Nat)} {e : Bool} {v : List Nat} : WrT frS s w → s ≠ [] → TlW ss e v → StpW (s :: ss) e (w ++ v)
/-- how pairs behind the first are written -/
inductive PrsW : List (List Nat × Option (List Nat)) → List Nat → Prop
  | nil : PrsW [] []
  | cons {n w v : List Nat} {o : Option (List Nat)} {ps : List (List Nat × Option (List Nat))} {r : List Nat} : WrT frQ n w → n ≠ [] → ValW o v → PrsW ps r → PrsW ((n, o) :: ps) (38 :: (w ++ (v ++ r)))
def pD (a : List Nat × Option (List Nat)) : PyData := .tuple [st a.1, oD a.2]
def PrL (H : Hp) (vs : List V) (dn : List (List Nat × Option (List Nat))) : Prop := vs.length = dn.length ∧ ∀ (i : Nat) (a : List Nat × Option (List Nat)) (y : V), dn[i]? = some a → vs[i]? = some y → IsT H (pD a) y
theorem PrL.mono {H H' : Hp} {vs : List V} {dn : List (List Nat × Option (List Nat))} (h : PrL H vs dn) (s : SameT H H') : PrL H' vs dn := ⟨h.1, fun i a y e1 e2 => (h.2 i a y e1 e2).mono s⟩
theorem PrL.snoc {H : Hp} {vs : List V} {dn : List (List Nat × Option (List Nat))} {a : List Nat × Option (List Nat)} {y : V} (h : PrL H vs dn) (hy : IsT H (pD a) y) : PrL H (vs ++ [y]) (dn ++ [a]) := by
  refine ⟨by simp [h.1], fun i b z e1 e2 => ?_⟩
  by_cases hi : i < dn.length
  · rw [List.getElem?_append_left hi] at e1
    rw [List.getElem?_append_left (by rw [h.1]; exact hi)] at e2
    exact h.2 i b z e1 e2
  · have := (List.getElem?_eq_some_iff.mp e1).1
    rw [List.length_append, List.length_singleton] at this
    have e : i = dn.length := by omega
    subst e
    rw [List.getElem?_append_right (Nat.le_refl _), Nat.sub_self] at e1
    rw [← h.1, List.getElem?_append_right (Nat.le_refl _), Nat.sub_self] at e2
    cases e1
    cases e2
    exact hy
def fgS : List Nat := (Str.ofString "0123456789").cps.toList
theorem fgS_in {c : Nat} : c ∈ fgS ↔ 48 ≤ c ∧ c ≤ 57 := by
  rw [show fgS = [48, 49, 50, 51, 52, 53, 54, 55, 56, 57] by decide +kernel]
  simp only [List.mem_cons, List.not_mem_nil, or_false]
  omega
/-! ### the scheme -/
end Wm
namespace L2
open PySem
theorem IsKAll.length {K : PySem.W.Frag} {H : Hp} : ∀ {ds : List PyData} {xs : List V}, IsKAll K H ds xs → xs.length = ds.length
  | _, _, .nil => rfl
  | _, _, .cons _ r => by simp [IsKAll.length r]
end L2
namespace Wm
open PySem L2
/-! ### the shown text is a text that is read -/
theorem que_all2 {P : Nat → Prop} (h1 : P 63) (h2 : P 38) (h3 : P 61) (hw : ∀ c, wch c = true → P c) {q : Option (List (List Nat × Option (List Nat)))} (h : ∀ ps, q = some ps → ∀ p ∈ ps, PairOk p) : ∀ c ∈ queT q, P c := by
  intro c hc
  cases q with
  | none => cases hc
  | some ps =>
    simp only [queT, List.mem_cons] at hc
    rcases hc with rfl | hc
    · exact h1
    · refine join_all h2 (fun s hs d hd => ?_) c hc
      obtain ⟨p, hp, rfl⟩ := List.mem_map.mp hs
      exact pair_all h3 hw (h ps rfl p hp) d hd
theorem Ad.Wf.all {P : Nat → Prop} {x : Ad} (h : x.Wf) (h1 : P 47) (h2 : P 58) (h3 : P 63) (h4 : P 38) (h5 : P 61) (h6 : P 35) (hw : ∀ c, wch c = true → P c) : ∀ c ∈ x.shw, P c := by
  intro c hc
  rw [Ad.shw_eq] at hc
  rcases List.mem_append.mp hc with hc | hc
  · rcases List.mem_append.mp hc with hc | hc
    · exact h.pre_all h1 h2 hw c hc
    · exact que_all2 h3 h4 h5 hw h.que c hc
  · exact oT_all h6 hw h.mar c hc
/-! ### sizes -/
theorem Ad.Tiny.sz {x : Ad} (h : x.Wf) (t : x.Tiny) (hn : x.steps.length ≤ 300) : x.Sz where
  stp := fun s hs => Nat.le_trans (t.stp s hs) (by decide)
  que := fun ps e => ⟨Nat.le_trans (t.que ps e).1 (by decide), fun p hp => ⟨Nat.le_trans ((t.que ps e).2 p hp).1 (by decide), fun v hv => Nat.le_trans (((t.que ps e).2 p hp).2 v hv) (by decide)⟩⟩
  mar := fun l e => Nat.le_trans (t.mar l e) (by decide)
  num := Nat.le_trans hn (by decide)
  all := by
    have a1 : (schT x.scheme).length ≤ 9 := by
      unfold schT
      split
      · simp
      · have := h.sch.1; simp only [List.length_append, List.length_cons, List.length_nil]; omega
    have a2 : (houT x.house).length ≤ 200 := by
      cases hh : x.house with
      | none => simp [houT]
      | some l => have := (h.hou l hh).1.2; have := wr_len l; simp only [houT, List.length_cons]; omega
    have a3 : (dooT x.door).length ≤ 6 := by
      cases hh : x.door with
      | none => simp [dooT]
      | some i => have b := (h.doo i hh).1; have := dg_len b.1 b.2; simp only [dooT, List.length_cons]; omega
    have a4 : x.wayT.length ≤ 9000 := by
      have hj := join_bound (sep := 47) (m := 27) (ys := x.steps.map wr) fun s hs => by
        obtain ⟨u, hu, rfl⟩ := List.mem_map.mp hs
        have := wr_len u; have := t.stp u hu; omega
      rw [List.length_map] at hj
      have e1 : (if x.rooted then [47] else [] : List Nat).length ≤ 1 := by split <;> simp
      have e2 : (if x.ends && !x.steps.isEmpty then [47] else [] : List Nat).length ≤ 1 := by split <;> simp
      simp only [Ad.wayT, Wm.wayT, List.length_append]
      have : x.steps.length * (27 + 1) ≤ 300 * 28 := Nat.mul_le_mul hn (Nat.le_refl _)
      omega
    have a5 : (queT x.quest).length ≤ 1000 := by
      cases hq : x.quest with
      | none => simp [queT]
      | some ps =>
        have hk := t.que ps hq
        have hj := join_bound (sep := 38) (m := 37) (ys := ps.map pairT) fun s hs => by
          obtain ⟨p, hp, rfl⟩ := List.mem_map.mp hs
          have h1 := (hk.2 p hp).1
          have h2 := oT_len (sep := 61) (n := 6) (o := p.2) fun v hv => (hk.2 p hp).2 v hv
          have := wr_len p.1
          simp only [pairT, List.length_append]
          omega
        rw [List.length_map] at hj
        have : ps.length * (37 + 1) ≤ 3 * 38 := Nat.mul_le_mul hk.1 (Nat.le_refl _)
        simp only [queT, List.length_cons]
        omega
    have a6 := oT_len (sep := 35) (n := 60) (o := x.mark) fun l e => Nat.le_trans (t.mar l e) (by decide)
    simp only [Ad.shw, List.length_append]
    omega
theorem goneV_tiny {w : Way} (h : ∀ s ∈ w.2.1, s.length ≤ 9) : ∀ s ∈ (goneV w).2.1, s.length ≤ 9 := by
  intro s hs
  unfold goneV goneW at hs
  split at hs
  · cases hs
  · split at hs
    · split at hs
      · cases hs
      · rw [List.mem_singleton.mp hs]; decide
    · rcases gone_mem s hs with z | z
      · exact h s z.1
      · rw [z.2]; decide
theorem Ad.Tiny.gone {x : Ad} (h : x.Tiny) : x.gone.Tiny := ⟨goneV_tiny (w := x.w) h.stp, h.que, h.mar, h.hou⟩
/-! ### plain forms go along with resolving -/
/-! ### values that are small addresses -/
def GoodsT (n : Nat) (H : Hp) (vs : List V) : Prop := ∀ v ∈ vs, ∃ x : Ad, (x.Wf ∧ x.Tiny ∧ x.steps.length ≤ n) ∧ IsT H x.data v
theorem GoodsT.mono {n : Nat} {H H' : Hp} {vs : List V} (h : GoodsT n H vs) (sm : SameT H H') : GoodsT n H' vs := fun v hv => by
  obtain ⟨x, h1, h3⟩ := h v hv
  exact ⟨x, h1, h3.mono sm⟩
theorem GoodsT.nil {n : Nat} {H : Hp} : GoodsT n H [] := fun v hv => by cases hv
theorem GoodsT.cons {n : Nat} {H : Hp} {v : V} {vs : List V} {x : Ad} (h1 : x.Wf ∧ x.Tiny ∧ x.steps.length ≤ n) (h3 : IsT H x.data v) (h : GoodsT n H vs) : GoodsT n H (v :: vs) := fun u hu => by
  rcases List.mem_cons.mp hu with rfl | hu
  · exact ⟨x, h1, h3⟩
  · exact h u hu
theorem GoodsT.snoc {n : Nat} {H : Hp} {v : V} {vs : List V} {x : Ad} (h : GoodsT n H vs) (h1 : x.Wf ∧ x.Tiny ∧ x.steps.length ≤ n) (h3 : IsT H x.data v) : GoodsT n H (vs ++ [v]) := fun u hu => by
  rcases List.mem_append.mp hu with hu | hu
  · exact h u hu
  · rw [List.mem_singleton.mp hu]; exact ⟨x, h1, h3⟩
theorem Ad.Tiny.bare {x : Ad} (h : x.Tiny) : ({ x with scheme := [] } : Ad).Tiny := ⟨h.stp, h.que, h.mar, h.hou⟩
theorem Ad.Tiny.local {x : Ad} (h : x.Tiny) : ({ x with scheme := [], house := none, door := none } : Ad).Tiny := ⟨h.stp, h.que, h.mar, fun l e => by cases e⟩
end Wm
/-! WALKS THAT YIELD TUPLES OF THEIR OWN (enumerate, zip) over the hand layer -/
namespace L2
open PySem PySem.Spec PyProof.Rows
section
variable {X : Cx} {pins : List (Addr × Obj)} {σ : St} {H : Hp} {s : Shared} {h' : Heap}
theorem Inv.walked {t' : Nat} {wr : List Addr} {T : Addr} {o : HO} (I : Inv X pins σ H s) (hf : ∀ b ∈ wr, FpOk X pins H b) (k : ∀ b u, b ∉ wr → s.heap.get? b = some u → h'.get? b = some u) (hT : s.heap.objs.size ≤ T)
    (new : ObjOk X.prog X.w (upd H T o) h' T o) : Inv X pins σ (upd H T o) { s with heap := h', toks := t' } := by
  have hn : H T = none := I.hok.fresh hT
  have nw : ∀ b u, H b = some u → b ∉ wr := fun b u e z => by rw [(hf b z).1] at e; cases e
  refine I.step (g' := s.gens) (d' := s.drawn) (ch := wr) (fun b hb => ?_) (fun b u _ _ hc e _ => k b u hc e) (fun b u _ _ hc e _ => ⟨u.slots, k b u hc e⟩) (fun b u _ q n => ?_)
    (fun b u hc e => ⟨u, k b u hc e⟩) (fun b xs q => ?_) (fun b u xs q => ?_) (fun b ps q => ?_) (fun m hm => ?_) (fun b u e => ?_) I.bare
  · obtain ⟨f0, f1, f2, f3, f4, f5⟩ := hf b hb
    exact ⟨f3, f1, f4, f5⟩
  · rw [upd_ne (Nat.ne_of_lt (Nat.lt_of_lt_of_le (Heap.lt_size q) hT))]; exact n
  · rw [upd_ne (ne_of_none q hn)]; exact q
  · rw [upd_ne (ne_of_none q hn)]; exact q
  · exact ⟨#[], by rw [upd_ne (ne_of_none q hn), q]; simp⟩
  · obtain ⟨u, es, ep, ho, r⟩ := hm
    refine ⟨u, es, ep, k _ u (fun z => ?_) ho, r⟩
    exact (hf _ z).2.1 rfl
  · by_cases hb : b = T
    · subst hb; rw [upd_same] at e; cases e; exact new
    · rw [upd_ne hb] at e
      refine (I.hok b u e).stay (fun c v hc q => k c v ?_ q) (fun c q => by rw [upd_ne (ne_of_none q hn)]; exact q) fun c xs q => by rw [upd_ne (ne_of_none q hn)]; exact q
      rcases hc with z | z
      · rw [z]; exact nw b u e
      · exact nw c _ z
theorem Inv.turnedL {t' : Nat} {wr : List Addr} (I : Inv X pins σ H s) (hf : ∀ b ∈ wr, FpOk X pins H b) (k : ∀ b u, b ∉ wr → s.heap.get? b = some u → h'.get? b = some u) : Inv X pins σ H { s with heap := h', toks := t' } := by
  have nw : ∀ b u, H b = some u → b ∉ wr := fun b u e z => by rw [(hf b z).1] at e; cases e
  refine I.step (g' := s.gens) (d' := s.drawn) (ch := wr) (fun b hb => ?_) (fun b u _ _ hc e _ => k b u hc e) (fun b u _ _ hc e _ => ⟨u.slots, k b u hc e⟩) (fun _ _ _ _ n => n)
    (fun b u hc e => ⟨u, k b u hc e⟩) (fun _ _ e => e) (fun _ _ _ e => e) (fun b ps e => ⟨#[], by rw [e]; simp⟩) (fun m hm => ?_) (fun b u e => ?_) I.bare
  · obtain ⟨f0, f1, f2, f3, f4, f5⟩ := hf b hb
    exact ⟨f3, f1, f4, f5⟩
  · obtain ⟨u, es, ep, ho, r⟩ := hm
    refine ⟨u, es, ep, k _ u (fun z => ?_) ho, r⟩
    exact (hf _ z).2.1 rfl
  · refine (I.hok b u e).stay (fun c v hc q => k c v ?_ q) (fun _ q => q) fun _ _ q => q
    rcases hc with z | z
    · rw [z]; exact nw b u e
    · exact nw c _ z
end
/-- a walk that yields new tuples, told by what stands in them; `ok` says that what it walks is there -/
def ItW (n : Nat) (ok : Hp → Prop) (pt : Nat → Hp → List V → Prop) : It :=
  ⟨fun i H => i < n ∧ ok H, fun i H x H' => ∃ T xs, x = .ref T ∧ H T = none ∧ H' = upd H T (.tup xs) ∧ pt i H xs, fun i H => i = n ∧ ok H⟩
theorem turn_walk {P : Program} {w : World} {K : PySem.W.Frag} {elts : List Expr} {k : Nat} {pos : Pos} {I : Addr} {fp wr fq : List Addr} {n : Nat} {α : Type} {Pt : α → Nat → Array Value → Prop} {Sn : α → Nat → Heap → Prop} {Mid : α → Nat → Addr → Heap → Prop} {tn : Nat → Heap → Prop} {ok : Hp → Prop} {pt : Nat → Hp → List V → Prop}
    (hI : I ∈ fq) (hq : ∀ b ∈ wr, b ∈ fq) (hW : ∀ (A : Around) (a : α), A.handled = none → WalksT P w A I fp wr n (Pt a) (Sn a) (Mid a))
    (hself : ∀ (A : Around) (i : Nat) (s : Shared) (Q : Value → Shared → Prop) (E : Value → Shared → Prop), tn i s.heap → Q (.ref I) s → wpAny (model P w) A (pyIter (.ref I)) Q E s)
    (hobj : ∀ i h, tn i h → ∀ b ∈ fq, ∃ o, h.get? b = some o ∧ ∀ v, o.data ≠ .cell v)
    (hkeep : ∀ i h h', tn i h → (∀ b ∈ fq, ∀ o, h.get? b = some o → h'.get? b = some o) → tn i h')
    (hin : ∀ (X : Cx), X.prog = P → X.w = w → X.K = K → ∀ (i : Nat) (pins : List (Addr × Obj)) (s : Shared) (σ : St) (H : Hp), Inv X pins σ H s → (∀ b ∈ fq, FpOk X pins H b) → tn i s.heap → ok H → ∃ a, Sn a i s.heap ∧ ∀ vals, Pt a i vals → ∃ xs, xs.length ≤ sizeLine ∧ Vals xs vals.toList ∧ pt i H xs)
    (hout : ∀ a i h, Sn a i h → tn i h) :
    Turn P w K (.Tuple elts k pos) (ItW n ok pt) fq I tn where
  mem := hI
  obj := hobj
  keep := hkeep
  item := by
    intro X hP hw hK hc i pins s σ H E J hf st hg
    obtain ⟨hi, hok⟩ := hg
    have hfw : ∀ b ∈ wr, FpOk X pins H b := fun b hb => hf b (hq b hb)
    obtain ⟨a, hst, hv⟩ := hin X hP hw hK i pins s σ H J hf st hok
    obtain ⟨hW1, hW2, hW3, hW4, hW5, hW6, hW7⟩ := hW X.A a (J.ok.hd hc)
    refine hW3 i s _ E hi hst fun T vals h1 tk hPt hT hTup hmid hk => ?_
    refine ⟨.ref T, rfl, ?_⟩
    refine hW4 elts k pos i T _ _ E hmid fun h2 st2 hk2 => ?_
    obtain ⟨xs, hxl, hvs, hpt⟩ := hv vals hPt
    have hTw : T ∉ wr := hW5 i T h1 hmid
    have hTn : H T = none := J.hok.fresh hT
    have hk3 : ∀ b u, b ∉ wr → s.heap.get? b = some u → h2.get? b = some u := fun b u hb e => hk2 b u hb (hk b u hb e)
    obtain ⟨o, ho, hcl, m, hd⟩ := hTup
    have hT2 : IsTup h2 T vals.toList.toArray := by
      refine ⟨o, hk2 T o hTw ho, hcl, m, ?_⟩
      rw [hd]
    refine ⟨.ref T, upd H T (.tup xs), J.walked (t' := tk) hfw hk3 hT ⟨hxl, vals.toList, hvs, hT2⟩, rfl, ⟨T, xs, rfl, hTn, rfl, hpt⟩, hout a _ _ st2, fun b hb => ?_⟩
    have : b ≠ T := fun z => by
      obtain ⟨o, e, _⟩ := hobj i _ st b hb
      exact absurd (Heap.lt_size e) (by rw [z]; exact Nat.not_lt.mpr hT)
    rw [upd_ne this]
    exact (hf b hb).1
  done := by
    intro X hP hw hK hc i pins s σ H E J hf st hg
    obtain ⟨hi, hok⟩ := hg
    subst hi
    have hfw : ∀ b ∈ wr, FpOk X pins H b := fun b hb => hf b (hq b hb)
    obtain ⟨a, hst, _⟩ := hin X hP hw hK i pins s σ H J hf st hok
    obtain ⟨hW1, hW2, hW3, hW4, hW5, hW6, hW7⟩ := hW X.A a (J.ok.hd hc)
    exact hW6 s _ E hst fun h1 tk hk => ⟨rfl, J.turnedL hfw hk⟩
  self := hself
section
variable {σ : St} {H : Hp} {D : Ends} {g : TG} {tb : TS}
/-- a loop over such a walk -/
theorem loop_walk {n : Nat} {ok : Hp → Prop} {pt : Nat → Hp → List V → Prop} (Pv : Nat → St → Hp → Prop) (h0 : Pv 0 σ H) (hl : ∀ i σ H, i ≤ n → Pv i σ H → ok H)
    (hs : ∀ i σ H T xs, i < n → Pv i σ H → H T = none → pt i H xs → g (.ref T) σ (upd H T (.tup xs)) fun σ2 H2 => tb { D with nx := Pv (i + 1), ct := Pv (i + 1), bk := D.nx } σ2 H2) (hd : ∀ σ H, Pv n σ H → D.nx σ H) : LoopI (ItW n ok pt) g tb D σ H := by
  refine ⟨fun i m σ H => m = n - i ∧ i ≤ n ∧ Pv i σ H, ⟨n, by simp, Nat.zero_le _, h0⟩, ?_⟩
  rintro i m σ H ⟨rfl, hi, p⟩
  have hq := hl i σ H hi p
  by_cases hlt : i < n
  · refine .inr ⟨⟨hlt, hq⟩, Pv (i + 1), fun σ' H' p' => ⟨n - (i + 1), by omega, rfl, hlt, p'⟩, fun x H' y => ?_⟩
    obtain ⟨T, xs, rfl, hT, rfl, hp⟩ := y
    exact hs i σ _ T xs hlt p hT hp
  · have e : i = n := by omega
    subst e
    exact .inl ⟨⟨rfl, hq⟩, hd σ H p⟩
end
/-! ### a tuple's items, drawn one by one -/
section
variable {prog : Program} {w : World} {A : Around} {E : Value → Shared → Prop} {s : Shared}
theorem tup_drawn {it a : Addr} {i : Nat} {its : Array Value} {x : Value} {Q : Value → Shared → Prop} (hi : s.heap.IsTupleIter it a i) (ha : s.heap.IsTuple a its) (hx : its[i]? = some x)
    (q : ∀ h', h'.IsTupleIter it a (i + 1) → Heap.SameBut it s.heap h' → Q x { s with heap := h' }) : wpAny (model prog w) A (Builtin.SmallTypes.nextOf (.ref it)) Q E s := by
  obtain ⟨u, hu, hcu, hdu⟩ := id hi
  obtain ⟨v, hv, _, m, hdv⟩ := ha
  unfold Builtin.SmallTypes.nextOf
  refine wpAny_bind (wpAny_callSpecial?_slot (name := Str.ofString "__next__") hi.typeIs F.slot_tuple_iterator_next (wpAny_call_entry F.slot_tuple_iterator_next hi.typeIs F.entry_tuple_iterator_next ?_ (F.args_tuple_iterator_next_1 _)))
  show wpAny _ _ (field (.ref it) 0 >>= _) _ _ _
  refine wpAny_bind (wpAny_field hu hdu (x := .ref a) rfl ?_)
  show wpAny _ _ (if (Value.ref a == Value.none) = true then _ else _) _ _ _
  rw [if_neg (by exact Bool.false_ne_true)]
  show wpAny _ _ (field (.ref it) 1 >>= _) _ _ _
  refine wpAny_bind (wpAny_field hu hdu (x := .int i 0) rfl ?_)
  show wpAny _ _ (seqItems? (.ref a) >>= _) _ _ _
  refine wpAny_bind (wpAny_seqItems hv hdv ?_)
  simp only [Int.toNat_natCast, hx]
  refine wpAny_bind (wpAny_setField hu hdu (by simp) (wpAny_pure ⟨x, rfl, wpAny_pure (q _ ⟨_, Heap.get?_update_self _ hu (Obj.isFreed_of_fields (Obj.data_mapFields hdu _)), (Obj.cls_mapFields ..).trans hcu, ?_⟩ (Heap.SameBut.update ..))⟩))
  rw [Obj.data_mapFields hdu]
  simp [rawInt]
theorem tup_ended {it a : Addr} {i : Nat} {its : Array Value} {Q : Value → Shared → Prop} (hh : A.handled = none) (hi : s.heap.IsTupleIter it a i) (ha : s.heap.IsTuple a its) (hx : its[i]? = none)
    (q : ∀ h' e, Heap.ExtBut it s.heap h' → (∃ o, h'.get? e = some o ∧ o.cls = .type "StopIteration") → E (.ref e) { s with heap := h' }) : wpAny (model prog w) A (Builtin.SmallTypes.nextOf (.ref it)) Q E s := by
  obtain ⟨u, hu, hcu, hdu⟩ := id hi
  obtain ⟨v, hv, _, m, hdv⟩ := ha
  unfold Builtin.SmallTypes.nextOf
  refine wpAny_bind (wpAny_callSpecial?_slot (name := Str.ofString "__next__") hi.typeIs F.slot_tuple_iterator_next (wpAny_call_entry F.slot_tuple_iterator_next hi.typeIs F.entry_tuple_iterator_next ?_ (F.args_tuple_iterator_next_1 _)))
  show wpAny _ _ (field (.ref it) 0 >>= _) _ _ _
  refine wpAny_bind (wpAny_field hu hdu (x := .ref a) rfl ?_)
  show wpAny _ _ (if (Value.ref a == Value.none) = true then _ else _) _ _ _
  rw [if_neg (by exact Bool.false_ne_true)]
  show wpAny _ _ (field (.ref it) 1 >>= _) _ _ _
  refine wpAny_bind (wpAny_field hu hdu (x := .int i 0) rfl ?_)
  show wpAny _ _ (seqItems? (.ref a) >>= _) _ _ _
  refine wpAny_bind (wpAny_seqItems hv hdv ?_)
  simp only [Int.toNat_natCast, hx]
  refine wpAny_bind (wpAny_rule (wpAny_bind (wpAny_setField hu hdu (by simp) ?_)))
  show wpAny _ A.in1 (newExc (.type "StopIteration") [] >>= _) _ _ _
  unfold newExc newTuple
  refine wpAny_bind (wpAny_bind (wpAny_newObj_type (wpAny_bind (m := firstArgMember _ _) (wpAny_of_eq (a := Value.none) (by first | rfl | (simp only [firstArgMember]; rfl)) (wpAny_newObj_type ?_ (by size_fits)))) (by size_fits)))
  unfold raiseNew
  refine wpAny_bind (wpAny_handled ?_)
  rw [show A.in1.handled = none from hh]
  exact wpAny_bind (wpAny_pure (wpAny_throw (q _ _ (((Heap.SameBut.update ..).extBut.push _).push _) ⟨_, Heap.get?_push_size _ rfl, rfl⟩)))
theorem draws_tup (hh : A.handled = none) (it a : Addr) (hne : a ≠ it) (its : Array Value) : Draws prog w A it [it, a] its.size (fun i v => its[i]? = some v) (fun i h => h.IsTupleIter it a i ∧ h.IsTuple a its) where
  live := fun _ _ st => let ⟨o, ho, _⟩ := st.1; ⟨o, ho⟩
  frame := fun _ _ _ st hk => ⟨let ⟨o, ho, r⟩ := st.1; ⟨o, hk it (by simp) o ho, r⟩, let ⟨o, ho, r⟩ := st.2; ⟨o, hk a (by simp) o ho, r⟩⟩
  item := fun i s Q E hi st hQ => tup_drawn st.1 st.2 (x := its[i]) (by simp [hi]) fun h' hit' hs' => hQ _ h' s.toks (by simp [hi]) ⟨hit', st.2.extBut hs'.extBut hne⟩ hs'
  done := fun s Q E st hE => tup_ended hh st.1 st.2 (by simp) hE
end
/-! ### enumerate of a tuple, made -/
abbrev titO (t : Addr) : Obj := { cls := .type "tuple_iterator", data := .fields #[.ref t, .int 0 0] }
abbrev enuO (it : Addr) : Obj := { cls := .type "enumerate", data := .fields #[.none, .bool false, .ref it, rawInt 0, .none, .none] }
theorem enum_new (t : Addr) (its : Array Value) : Meets (Builtin.«enumerate.__new__» ⟨[.type "enumerate", .ref t], []⟩) (fun _ R s => s.heap.IsTuple t its ∧
    R (.ok (.ret (.ref (s.heap.push (titO t)).objs.size))) { s with heap := (s.heap.push (titO t)).push (enuO s.heap.objs.size) }) :=
  .of_wp fun prog w A R s h => by
    obtain ⟨hp, g, d, tk, os⟩ := s; obtain ⟨hl, h⟩ := h
    have hsub := sub_enumerate
    wp_walk using wpAny_pyIter_tuple hl
    refine wpAny_stack_any fun _ => wpAny_pure ?_
    split
    · rename_i z _ _ _ _ _
      cases (z == Value.type "enumerate") <;> (wp_walk using wpAny_pyIter_tuple hl) <;> exact ⟨_, rfl, h⟩
    · wp_walk using wpAny_pyIter_tuple hl
      exact ⟨_, rfl, h⟩
section
variable {prog : Program} {w : World} {A : Around} {E : Value → Shared → Prop} {s : Shared}
theorem call_enum {t : Addr} {its : Array Value} {Q : Value → Shared → Prop} (ht : s.heap.IsTuple t its)
    (h : ∀ h', IsEnum h' (s.heap.objs.size + 1) s.heap.objs.size 0 .none → h'.IsTupleIter s.heap.objs.size t 0 → (∀ b o, s.heap.get? b = some o → h'.get? b = some o) → Q (.ref (s.heap.objs.size + 1)) { s with heap := h' }) :
    wpAny (model prog w) A (call (.type "enumerate") [.ref t]) Q E s := by
  refine callType_new F.called_enumerate (by decide) (F.typeCall_enumerate_1 _) (F.newCall_enumerate_1 _) (fun obj => F.args_object_init_2 obj _) F.entry_enumerate_new (enum_new t its) ⟨ht, ?_⟩
  have hz : (s.heap.push (titO t)).objs.size = s.heap.objs.size + 1 := Heap.size_push ..
  show _ ∧ _
  rw [hz]
  have he : IsEnum ((s.heap.push (titO t)).push (enuO s.heap.objs.size)) (s.heap.objs.size + 1) s.heap.objs.size 0 .none := by
    have := Heap.get?_push_size (s.heap.push (titO t)) (o := enuO s.heap.objs.size) rfl
    rw [hz] at this
    exact this
  exact ⟨⟨_, he, rfl⟩, h _ he ⟨_, Heap.get?_push_of_some _ (Heap.get?_push_size _ rfl), rfl, rfl⟩ fun b o x => Heap.get?_push_of_some _ (Heap.get?_push_of_some _ x)⟩
end
/-! ### for i, x in enumerate(a tuple) -/
def ItE (K : PySem.W.Frag) (a : Addr) (xs : List V) : It := ItW xs.length (fun H => SqT K H a xs) fun i _ ys => ∃ v, xs[i]? = some v ∧ ys = [.int (i : Int), v]
theorem turn_enum {P : Program} {w : World} {K : PySem.W.Frag} {elts : List Expr} {k : Nat} {pos : Pos} (a it e : Addr) (xs : List V) (h1 : a ≠ it) (h2 : e ≠ it) (h3 : e ≠ a) :
    Turn P w K (.Tuple elts k pos) (ItE K a xs) [e, it] e (fun i h => (∃ old, IsEnum h e it i old) ∧ h.IsTupleIter it a i) := by
  refine turn_walk (fp := e :: [it, a]) (α := { its : Array Value // its.size = xs.length }) (Pt := fun z i vals => ∃ t x, z.1[i]? = some x ∧ vals = #[.int i t, x])
    (Sn := fun z i h => (∃ old, IsEnum h e it i old) ∧ (h.IsTupleIter it a i ∧ h.IsTuple a z.1)) (Mid := fun z i T h => (∃ x, IsEnumOut h e it ((i : Int) + 1) x T) ∧ (h.IsTupleIter it a (i + 1) ∧ h.IsTuple a z.1) ∧ T ≠ e ∧ T ≠ it)
    (by simp) (fun _ z => z) (fun A z hh => ?_) (fun A i s Q E st q => ?_) (fun i h st b hb => ?_) (fun i h h' st kp => ?_) ?_ (fun z i h st => ⟨st.1, st.2.1⟩)
  · have := WalksT.enumerateD (draws_tup (prog := P) (w := w) (A := A.in1) hh it a h1 z.1) e h2 (by simp [h2, h3]) (by simp)
    rw [z.2] at this
    exact this
  · obtain ⟨⟨old, he⟩, _⟩ := st
    exact wpAny_pyIter_enum he q
  · obtain ⟨⟨old, he⟩, o, ho, hc, hd⟩ := st
    rcases List.mem_cons.mp hb with rfl | hb
    · exact ⟨_, he, fun v z => by cases z⟩
    · rw [List.mem_singleton.mp hb]
      exact ⟨o, ho, fun v z => by rw [hd] at z; cases z⟩
  · obtain ⟨⟨old, he⟩, o, ho, r⟩ := st
    exact ⟨⟨old, kp e (by simp) _ he⟩, o, kp it (by simp) o ho, r⟩
  · intro X hP hw hK i pins s σ H J hf st hok
    subst hP hw hK
    obtain ⟨its, rv, p, hz⟩ := J.tuple hok
    refine ⟨⟨its.toArray, by have := rv.length; simp; omega⟩, ⟨st.1, st.2, p⟩, ?_⟩
    rintro vals ⟨t, x, hx, rfl⟩
    have hx' : its[i]? = some x := by simpa using hx
    have hi : i < xs.length := by have := rv.length; have := (List.getElem?_eq_some_iff.mp hx').1; omega
    obtain ⟨u, hu, ru⟩ := rv.get (List.getElem?_eq_getElem hi)
    rw [hx'] at hu
    cases hu
    exact ⟨[.int (i : Int), xs[i]], (show 2 ≤ sizeLine by decide), .cons ⟨t, rfl⟩ (.cons ru .nil), xs[i], List.getElem?_eq_getElem hi, rfl⟩
section
variable {X : Cx} {K : PySem.W.Frag} {elts : List Expr} {kk : Nat} {tpos : Pos}
def iEnum (K : PySem.W.Frag) (ta : TA) : TI := fun σ H R => ta σ H fun vs H1 => ∃ a xs, vs = [.ref a] ∧ SqT K H1 a xs ∧ R (ItE K a xs) H1
theorem pi_enum {a : Expr} {ta : TA} {p pos : Pos} (h : X.K = K) (hg : Gl X "enumerate") (hm : X.mg "enumerate" = none) (ha : PA X [a] ta) (hs : starEach [a] X.env = [(false, eval a X.env)] := by rfl) : PI X (.Tuple elts kk tpos) (.Call (.Name "enumerate" p) [a] [] pos) (iEnum K ta) := by
  subst h
  intro pins s σ H R I q
  refine Call_ (ld_blt I hg hm boot_enumerate (PyProof.Rows.callWith_type1 (thn (ha pos pins s σ H _ I q) fun us s1 ⟨vs, H1, I1, r1, q1⟩ => ?_) hs rfl))
  obtain ⟨a, xs, e, hq, q⟩ := q1
  subst e
  obtain ⟨u, rfl, ru⟩ := vals1 r1
  cases ru
  obtain ⟨its, rv, pt, hz⟩ := I1.tuple hq
  refine call_enum (show s1.heap.IsTuple a its.toArray from pt) fun h' he hi hk => ?_
  refine wpAny_pyIter_enum (s := { s1 with heap := h' }) he ?_
  have hal : a < s1.heap.objs.size := by obtain ⟨o, ho, _⟩ := pt; exact Heap.lt_size ho
  have hkept : Inv X pins σ H1 { s1 with heap := h' } := I1.kept (t' := s1.toks) hk
  refine ⟨s1.heap.objs.size + 1, [s1.heap.objs.size + 1, s1.heap.objs.size], _, _, H1, rfl, hkept, turn_enum a s1.heap.objs.size (s1.heap.objs.size + 1) xs (Nat.ne_of_lt hal) (Nat.succ_ne_self _) (Nat.ne_of_gt (Nat.lt_succ_of_lt hal)), ⟨⟨_, he⟩, hi⟩, fun b hb => ?_, q⟩
  simp only [List.mem_cons, List.not_mem_nil, or_false] at hb
  have hb' : s1.heap.objs.size ≤ b := by
    rcases hb with rfl | rfl
    · exact Nat.le_succ _
    · exact Nat.le_refl _
  exact I1.fpOk hb' (I1.hok.fresh hb')
variable {σ : St} {H : Hp} {D : Ends} {g : TG} {tb : TS} {aa : TA}
theorem rd_forE : tFor (iEnum K aa) g tb D σ H ↔ aa σ H fun vs H1 => ∃ a xs, vs = [.ref a] ∧ SqT K H1 a xs ∧ LoopI (ItE K a xs) g tb D σ H1 := Iff.rfl
theorem loop_enum {a : Addr} {xs : List V} (Pv : Nat → St → Hp → Prop) (h0 : Pv 0 σ H) (hl : ∀ i σ H, i ≤ xs.length → Pv i σ H → SqT K H a xs)
    (hs : ∀ i v σ H T, xs[i]? = some v → Pv i σ H → H T = none → g (.ref T) σ (upd H T (.tup [.int (i : Int), v])) fun σ2 H2 => tb { D with nx := Pv (i + 1), ct := Pv (i + 1), bk := D.nx } σ2 H2) (hd : ∀ σ H, Pv xs.length σ H → D.nx σ H) : LoopI (ItE K a xs) g tb D σ H :=
  loop_walk Pv h0 hl (fun i σ H T ys _ p hT hy => by obtain ⟨v, hv, rfl⟩ := hy; exact hs i v σ H T hv p hT) hd
end
/-! ### zip of two things that are drawn -/
structure Zap (z TI TO i1 i2 l1 l2 : Addr) : Prop where
  a1 : TI ≠ z ∧ TO ≠ z ∧ i1 ≠ z ∧ i2 ≠ z ∧ l1 ≠ z ∧ l2 ≠ z
  a2 : TI ≠ TO ∧ TI ≠ i1 ∧ TI ≠ i2 ∧ TO ≠ i1 ∧ TO ≠ i2 ∧ i1 ≠ i2
  a3 : l1 ≠ TO ∧ l2 ≠ TO ∧ l1 ≠ i2 ∧ l2 ≠ i1
section
variable {prog : Program} {w : World} {A : Around} {E : Value → Shared → Prop} {s : Shared}
variable {z TI TO i1 i2 l1 l2 : Addr} {n1 n2 k : Nat} {P1 P2 : Nat → Value → Prop} {S1 S2 : Nat → Heap → Prop}
theorem still {it l b : Addr} {n i : Nat} {P : Nat → Value → Prop} {S : Nat → Heap → Prop} {h h' : Heap} (D : Draws prog w A it [it, l] n P S) (st : S i h) (e : Heap.ExtBut b h h') (h1 : it ≠ b) (h2 : l ≠ b) : S i h' :=
  D.frame i h h' st fun c hc o q => e c o (by rcases List.mem_cons.mp hc with rfl | hc; exact h1; rw [List.mem_singleton.mp hc]; exact h2) q
theorem zip_goes (hh : A.handled = none) (d1 : ∀ A : Around, A.handled = none → Draws prog w A i1 [i1, l1] n1 P1 S1) (d2 : ∀ A : Around, A.handled = none → Draws prog w A i2 [i2, l2] n2 P2 S2) (ap : Zap z TI TO i1 i2 l1 l2) {a b : Value} {Q : Value → Shared → Prop}
    (hz : IsZip s.heap z TI TO .none) (hTI : IsPair s.heap TI (.ref i1) (.ref i2)) (hTO : IsPair s.heap TO a b) (t1 : S1 k s.heap) (t2 : S2 k s.heap) (k1 : k < n1) (k2 : k < n2)
    (q : ∀ x y h' tk, P1 k x → P2 k y → IsZip h' z TI TO (rawInt s.heap.objs.size) → IsPair h' TO x y → S1 (k + 1) h' → S2 (k + 1) h' → IsPair h' s.heap.objs.size x y →
      (∀ c o, c ≠ z → c ≠ TO → c ≠ i1 → c ≠ i2 → s.heap.get? c = some o → h'.get? c = some o) → Q (.ref s.heap.objs.size) { s with heap := h', toks := tk }) :
    wpAny (model prog w) A (Builtin.«zip.__next__» ⟨[.ref z], []⟩) (fun fin s' => ∃ v, fin = .done (.ret v) ∧ Q v s') E s := by
  obtain ⟨⟨p1, p2, p3, p4, p5, p6⟩, ⟨q1, q2, q3, q4, q5, q6⟩, r1, r2, r3, r4⟩ := ap
  show wpAny _ _ (field (.ref z) 2 >>= _) _ _ s
  refine wpAny_bind (wpAny_field (s := s) hz rfl (x := .bool false) rfl ?_)
  show wpAny _ _ (field (.ref z) 3 >>= _) _ _ s
  refine wpAny_bind (wpAny_field (s := s) hz rfl (x := .ref TI) rfl (wpAny_bind (wpAny_seqItems hTI rfl ?_)))
  show wpAny _ _ (Builtin.SmallTypes.ownedTupleIsFree (.ref z) >>= _) _ _ s
  unfold Builtin.SmallTypes.ownedTupleIsFree
  refine wpAny_bind (wpAny_bind (wpAny_field (s := s) hz rfl (x := .none) rfl (wpAny_pure ?_)))
  simp only [if_true]
  refine wpAny_bind (wpAny_rule (wpAny_bind (wpAny_field (s := s) hz rfl (x := .ref TO) rfl (wpAny_bind (wpAny_setField_rec hz (by simp) fun ha za sa => ?_)))))
  replace za : IsZip ha z TI TO .ellipsis := za
  simp only [List.zipIdx_cons, List.zipIdx_nil, List.forIn_cons, List.forIn_nil]
  refine wpAny_bind (wpAny_bind (wpAny_bind (wpAny_onRaise ?_)))
  show wpAny _ _ (Builtin.SmallTypes.nextOf (.ref i1) >>= _) _ _ _
  refine wpAny_bind ((d1 A hh).item k _ _ _ k1 (still (d1 A hh) t1 sa.extBut p3 p5) fun x hb tb px s1b sb => wpAny_pure ?_)
  have ob : IsPair hb TO a b := sb.extBut _ _ q4 (sa.extBut _ _ p2 hTO)
  refine wpAny_bind (wpAny_seqItems ob rfl (wpAny_bind (wpAny_updateSeq_pair ob fun hc oc sc => wpAny_bind (wpAny_letGo (wpAny_pure ?_)))))
  replace oc : IsPair hc TO x b := oc
  refine wpAny_bind (wpAny_bind (wpAny_onRaise ?_))
  show wpAny _ _ (Builtin.SmallTypes.nextOf (.ref i2) >>= _) _ _ _
  have t2c : S2 k hc := still (d2 A hh) (still (d2 A hh) (still (d2 A hh) t2 sa.extBut p4 p6) sb.extBut q6.symm r4) sc.extBut q5.symm r2
  refine wpAny_bind ((d2 A hh).item k _ _ _ k2 t2c fun y hd td py s2d sd => wpAny_pure ?_)
  have od : IsPair hd TO x b := sd.extBut _ _ q5 oc
  refine wpAny_bind (wpAny_seqItems od rfl (wpAny_bind (wpAny_updateSeq_pair od fun he oe se => wpAny_bind (wpAny_letGo (wpAny_pure (wpAny_pure ?_))))))
  replace oe : IsPair he TO x y := oe
  refine wpAny_bind (wpAny_seqItems oe rfl (wpAny_bind (wpAny_newTuple ?_)))
  have ze : IsZip he z TI TO .ellipsis := se.extBut _ _ p2.symm (sd.extBut _ _ p4.symm (sc.extBut _ _ p2.symm (sb.extBut _ _ p3.symm za)))
  have hsz : he.objs.size = s.heap.objs.size := by rw [se.1, sd.1, sc.1, sb.1, sa.1]
  have ke : ∀ c o, c ≠ z → c ≠ TO → c ≠ i1 → c ≠ i2 → s.heap.get? c = some o → he.get? c = some o := fun c o c1 c2 c3 c4 e => se.extBut _ _ c2 (sd.extBut _ _ c4 (sc.extBut _ _ c2 (sb.extBut _ _ c3 (sa.extBut _ _ c1 e))))
  have s1e : S1 (k + 1) he := still (d1 A hh) (still (d1 A hh) (still (d1 A hh) s1b sc.extBut q4.symm r1) sd.extBut q6 r3) se.extBut q4.symm r1
  have s2e : S2 (k + 1) he := still (d2 A hh) s2d se.extBut q5.symm r2
  have zl : z < he.objs.size := Heap.lt_size ze
  show wpAny _ _ (Builtin.SmallTypes.ownedTupleHandOut (.ref z) (.ref he.objs.size) >>= _) _ _ _
  unfold Builtin.SmallTypes.ownedTupleHandOut
  have zf : IsZip (he.push { cls := .type "tuple", data := .seq #[x, y] }) z TI TO .ellipsis := Heap.get?_push_of_some _ ze
  refine wpAny_bind (wpAny_bind (wpAny_setField_rec zf (by simp) fun hf zg sf => ?_))
  replace zg : IsZip hf z TI TO (rawInt he.objs.size) := zg
  refine wpAny_setField_rec zg (by simp) fun hg zh sg => ?_
  replace zh : IsZip hg z TI TO (rawInt he.objs.size) := zh
  have up : ∀ c o, c ≠ z → he.get? c = some o → hg.get? c = some o := fun c o c1 e => sg.extBut _ _ c1 (sf.extBut _ _ c1 (Heap.get?_push_of_some _ e))
  have tg : IsPair hg he.objs.size x y := sg.extBut _ _ (Nat.ne_of_gt zl) (sf.extBut _ _ (Nat.ne_of_gt zl) (Heap.get?_push_size _ rfl))
  rw [hsz] at zh tg
  refine wpAny_pure ⟨_, rfl, ?_⟩
  show Q (.ref he.objs.size) _
  rw [hsz]
  exact q x y hg td px py zh (up _ _ p2 oe) ((d1 A hh).frame _ _ _ s1e fun c hc o e => up c o (by rcases List.mem_cons.mp hc with rfl | hc; exact p3; rw [List.mem_singleton.mp hc]; exact p5) e) ((d2 A hh).frame _ _ _ s2e fun c hc o e => up c o (by rcases List.mem_cons.mp hc with rfl | hc; exact p4; rw [List.mem_singleton.mp hc]; exact p6) e) tg fun c o c1 c2 c3 c4 e => up c o c1 (ke c o c1 c2 c3 c4 e)
theorem zip_ends (hh : A.handled = none) (d1 : ∀ A : Around, A.handled = none → Draws prog w A i1 [i1, l1] n1 P1 S1) (d2 : ∀ A : Around, A.handled = none → Draws prog w A i2 [i2, l2] n2 P2 S2) (ap : Zap z TI TO i1 i2 l1 l2) {a b : Value} {Q : Fin → Shared → Prop}
    (hz : IsZip s.heap z TI TO .none) (hTI : IsPair s.heap TI (.ref i1) (.ref i2)) (hTO : IsPair s.heap TO a b) (t1 : S1 k s.heap) (t2 : S2 k s.heap) (hk : k = n1 ∨ (k < n1 ∧ k = n2))
    (q : ∀ h' e tk, (∀ c o, c ≠ z → c ≠ TO → c ≠ i1 → c ≠ i2 → s.heap.get? c = some o → h'.get? c = some o) → (∃ o, h'.get? e = some o ∧ o.cls = .type "StopIteration") → E (.ref e) { s with heap := h', toks := tk }) :
    wpAny (model prog w) A (Builtin.«zip.__next__» ⟨[.ref z], []⟩) Q E s := by
  obtain ⟨⟨p1, p2, p3, p4, p5, p6⟩, ⟨q1, q2, q3, q4, q5, q6⟩, r1, r2, r3, r4⟩ := ap
  show wpAny _ _ (field (.ref z) 2 >>= _) _ _ s
  refine wpAny_bind (wpAny_field (s := s) hz rfl (x := .bool false) rfl ?_)
  show wpAny _ _ (field (.ref z) 3 >>= _) _ _ s
  refine wpAny_bind (wpAny_field (s := s) hz rfl (x := .ref TI) rfl (wpAny_bind (wpAny_seqItems hTI rfl ?_)))
  show wpAny _ _ (Builtin.SmallTypes.ownedTupleIsFree (.ref z) >>= _) _ _ s
  unfold Builtin.SmallTypes.ownedTupleIsFree
  refine wpAny_bind (wpAny_bind (wpAny_field (s := s) hz rfl (x := .none) rfl (wpAny_pure ?_)))
  simp only [if_true]
  refine wpAny_bind (wpAny_rule (wpAny_bind (wpAny_field (s := s) hz rfl (x := .ref TO) rfl (wpAny_bind (wpAny_setField_rec hz (by simp) fun ha za sa => ?_)))))
  replace za : IsZip ha z TI TO .ellipsis := za
  simp only [List.zipIdx_cons, List.zipIdx_nil, List.forIn_cons, List.forIn_nil]
  refine wpAny_bind (wpAny_bind (wpAny_bind (wpAny_onRaise ?_)))
  show wpAny _ _ (Builtin.SmallTypes.nextOf (.ref i1) >>= _) _ _ _
  rcases hk with rfl | ⟨k1, rfl⟩
  · refine wpAny_bind ((d1 A hh).done _ _ _ (still (d1 A hh) t1 sa.extBut p3 p5) fun hb e sb ⟨oe, ho, hc⟩ => ?_)
    have zb : IsZip hb z TI TO .ellipsis := sb _ _ p3.symm za
    have ez : e ≠ z := fun y => by subst y; rw [zb] at ho; cases ho; simp at hc
    exact wpAny_setField_rec zb (by simp) fun hd _ sd => q hd e _ (fun c o c1 _ c3 _ y => sd.extBut _ _ c1 (sb _ _ c3 (sa.extBut _ _ c1 y))) ⟨oe, sd.extBut _ _ ez ho, hc⟩
  refine wpAny_bind ((d1 A hh).item _ _ _ _ k1 (still (d1 A hh) t1 sa.extBut p3 p5) fun x hb tb px s1b sb => wpAny_pure ?_)
  have ob : IsPair hb TO a b := sb.extBut _ _ q4 (sa.extBut _ _ p2 hTO)
  refine wpAny_bind (wpAny_seqItems ob rfl (wpAny_bind (wpAny_updateSeq_pair ob fun hc oc sc => wpAny_bind (wpAny_letGo (wpAny_pure ?_)))))
  refine wpAny_bind (wpAny_bind (wpAny_onRaise ?_))
  show wpAny _ _ (Builtin.SmallTypes.nextOf (.ref i2) >>= _) _ _ _
  have t2c := still (d2 A hh) (still (d2 A hh) (still (d2 A hh) t2 sa.extBut p4 p6) sb.extBut q6.symm r4) sc.extBut q5.symm r2
  refine wpAny_bind ((d2 A hh).done _ _ _ t2c fun hd e sd ⟨oe, ho, hce⟩ => ?_)
  have zd : IsZip hd z TI TO .ellipsis := sd _ _ p4.symm (sc.extBut _ _ p2.symm (sb.extBut _ _ p3.symm za))
  have ez : e ≠ z := fun y => by subst y; rw [zd] at ho; cases ho; simp at hce
  exact wpAny_setField_rec zd (by simp) fun hf _ sf => q hf e _ (fun c o c1 c2 c3 c4 y => sf.extBut _ _ c1 (sd _ _ c4 (sc.extBut _ _ c2 (sb.extBut _ _ c3 (sa.extBut _ _ c1 y))))) ⟨oe, sf.extBut _ _ ez ho, hce⟩
theorem walks_zip (hh : A.handled = none) (d1 : ∀ A : Around, A.handled = none → Draws prog w A i1 [i1, l1] n1 P1 S1) (d2 : ∀ A : Around, A.handled = none → Draws prog w A i2 [i2, l2] n2 P2 S2) (ap : Zap z TI TO i1 i2 l1 l2) :
    WalksT prog w A z [z, TI, TO, i1, i2, l1, l2] [z, TO, i1, i2] (min n1 n2) (fun i vals => ∃ x y, P1 i x ∧ P2 i y ∧ vals = #[x, y])
      (fun i h => IsZip h z TI TO .none ∧ IsPair h TI (.ref i1) (.ref i2) ∧ (∃ a b, IsPair h TO a b) ∧ S1 i h ∧ S2 i h)
      (fun i T h => IsZip h z TI TO (rawInt T) ∧ IsPair h TI (.ref i1) (.ref i2) ∧ (∃ a b, IsPair h TO a b) ∧ S1 (i + 1) h ∧ S2 (i + 1) h ∧ T ≠ z ∧ T ≠ TO ∧ T ≠ i1 ∧ T ≠ i2) where
  sub := fun c hc => by simp at hc ⊢; rcases hc with rfl | rfl | rfl | rfl <;> simp
  frame := fun i h h' st hk => by
    obtain ⟨hz, hTI, ⟨a, b, hTO⟩, t1, t2⟩ := st
    exact ⟨hk z (by simp) _ hz, hk TI (by simp) _ hTI, ⟨a, b, hk TO (by simp) _ hTO⟩, (d1 A hh).frame _ _ _ t1 fun c hc o e => hk c (by simp at hc ⊢; rcases hc with rfl | rfl <;> simp) o e, (d2 A hh).frame _ _ _ t2 fun c hc o e => hk c (by simp at hc ⊢; rcases hc with rfl | rfl <;> simp) o e⟩
  item := fun i s Q E hi st hQ => by
    obtain ⟨hz, hTI, ⟨a, b, hTO⟩, t1, t2⟩ := st
    have hT : s.TypeIs (.ref z) "zip" := ⟨_, hz, rfl⟩
    have lt : ∀ {c o}, s.heap.get? c = some o → s.heap.objs.size ≠ c := fun e => Nat.ne_of_gt (Heap.lt_size e)
    unfold pyNext
    refine wpAny_bind (wpAny_attempt (wpAny_callSpecial?_slot (name := Str.ofString "__next__") hT F.slot_zip_next (wpAny_call_entry F.slot_zip_next hT F.entry_zip_next ?_ (F.args_zip_next_1 _))))
    refine zip_goes (A := A.in1) hh d1 d2 ap hz hTI hTO t1 t2 (Nat.lt_of_lt_of_le hi (Nat.min_le_left ..)) (Nat.lt_of_lt_of_le hi (Nat.min_le_right ..)) fun x y h' tk px py z' o' s1 s2 T' hk => wpAny_pure ?_
    obtain ⟨o1, e1⟩ := (d1 A hh).live _ _ t1
    obtain ⟨o2, e2⟩ := (d2 A hh).live _ _ t2
    exact hQ s.heap.objs.size #[x, y] h' tk ⟨x, y, px, py, rfl⟩ (Nat.le_refl _) ⟨_, T', rfl, _, rfl⟩
      ⟨z', hk _ _ ap.a1.1 ap.a2.1 ap.a2.2.1 ap.a2.2.2.1 hTI, ⟨_, _, o'⟩, s1, s2, lt hz, lt hTO, lt e1, lt e2⟩
      fun c o hc e => hk c o (fun y => hc (by simp [y])) (fun y => hc (by simp [y])) (fun y => hc (by simp [y])) (fun y => hc (by simp [y])) e
  go := fun elts k pos i T s Q E hm hQ => by
    obtain ⟨hz, hTI, ⟨a, b, hTO⟩, t1, t2, _⟩ := hm
    obtain ⟨⟨p1, p2, p3, p4, p5, p6⟩, _⟩ := ap
    exact wpAny_letOwnedTupleGo_zip hz fun h' z' s' => hQ h' ⟨z', s'.extBut _ _ p1 hTI, ⟨a, b, s'.extBut _ _ p2 hTO⟩, still (d1 A hh) t1 s'.extBut p3 p5, still (d2 A hh) t2 s'.extBut p4 p6⟩ fun c o hc e => s'.extBut _ _ (fun y => hc (by simp [y])) e
  apart := fun i T h hm hT => by
    obtain ⟨_, _, _, _, _, t1, t2, t3, t4⟩ := hm
    simp only [List.mem_cons, List.not_mem_nil, or_false] at hT
    rcases hT with h | h | h | h
    · exact t1 h
    · exact t2 h
    · exact t3 h
    · exact t4 h
  done := fun s Q E st hQ => by
    obtain ⟨hz, hTI, ⟨a, b, hTO⟩, t1, t2⟩ := st
    have hT : s.TypeIs (.ref z) "zip" := ⟨_, hz, rfl⟩
    unfold pyNext
    refine wpAny_bind (wpAny_attempt (wpAny_callSpecial?_slot (name := Str.ofString "__next__") hT F.slot_zip_next (wpAny_call_entry F.slot_zip_next hT F.entry_zip_next ?_ (F.args_zip_next_1 _))))
    refine zip_ends (A := A.in1) hh d1 d2 ap hz hTI hTO t1 t2 (by omega) fun h' e tk hk ⟨o, ho, hc⟩ => ?_
    refine wpAny_bind (wpAny_isInstance (T := "StopIteration") (b := true) ⟨o, ho, hc⟩ isSubtype_stop (wpAny_pure (hQ h' tk fun c o hc e => ?_)))
    exact hk c o (fun y => hc (by simp [y])) (fun y => hc (by simp [y])) (fun y => hc (by simp [y])) (fun y => hc (by simp [y])) e
  self := fun i s Q E st hQ => wpAny_pyIter_zip st.1 hQ
end
/-! ### zip of two tuples, made -/
abbrev zA (h : Heap) (a : Addr) : Heap := h.push (titO a)
abbrev zB (h : Heap) (a b : Addr) : Heap := (zA h a).push (titO b)
abbrev zC (h : Heap) (a b : Addr) : Heap := (zB h a b).push { cls := .type "tuple", data := .seq #[.ref h.objs.size, .ref (zA h a).objs.size] }
abbrev zD (h : Heap) (a b : Addr) : Heap := (zC h a b).push { cls := .type "tuple", data := .seq #[.none, .none] }
abbrev zE (h : Heap) (a b : Addr) : Heap := (zD h a b).push { cls := .type "zip", data := .fields #[.none, .bool false, .bool false, .ref (zB h a b).objs.size, .ref (zC h a b).objs.size] }
theorem zip_new (a b : Addr) (xs ys : Array Value) : Meets (Builtin.«zip.__new__» ⟨[.type "zip", .ref a, .ref b], []⟩) (fun _ R s => s.heap.IsTuple a xs ∧ s.heap.IsTuple b ys ∧ R (.ok (.ret (.ref (zD s.heap a b).objs.size))) { s with heap := zE s.heap a b }) :=
  .of_wp fun prog w A R s h => by
    obtain ⟨hp, g, d, tk, os⟩ := s; obtain ⟨ha, hb, h⟩ := h
    have hsub := sub_zip
    have h1 : Heap.IsTuple (Shared.heap ⟨hp, g, d, tk, os⟩) a xs := ha
    have h2 : Heap.IsTuple (Shared.heap ⟨hp.push (titO a), g, d, tk, os⟩) b ys := Heap.IsTuple.push hb _
    wp_walk using wpAny_pyIter_tuple h1, wpAny_pyIter_tuple h2
    exact ⟨_, rfl, h⟩
section
variable {prog : Program} {w : World} {A : Around} {E : Value → Shared → Prop} {s : Shared}
theorem call_zip {a b : Addr} {xs ys : Array Value} {Q : Value → Shared → Prop} (ha : s.heap.IsTuple a xs) (hb : s.heap.IsTuple b ys)
    (h : ∀ h', IsZip h' (s.heap.objs.size + 4) (s.heap.objs.size + 2) (s.heap.objs.size + 3) .none → IsPair h' (s.heap.objs.size + 2) (.ref s.heap.objs.size) (.ref (s.heap.objs.size + 1)) → IsPair h' (s.heap.objs.size + 3) .none .none →
      h'.IsTupleIter s.heap.objs.size a 0 → h'.IsTupleIter (s.heap.objs.size + 1) b 0 → (∀ c o, s.heap.get? c = some o → h'.get? c = some o) → Q (.ref (s.heap.objs.size + 4)) { s with heap := h' }) :
    wpAny (model prog w) A (call (.type "zip") [.ref a, .ref b]) Q E s := by
  refine callType_new F.called_zip (by decide) (F.typeCall_zip_2 _ _) (F.newCall_zip_2 _ _) (fun obj => F.args_object_init_3 obj _ _) F.entry_zip_new (zip_new a b xs ys) ⟨ha, hb, ?_⟩
  have y1 : (zA s.heap a).objs.size = s.heap.objs.size + 1 := Heap.size_push ..
  have y2 : (zB s.heap a b).objs.size = s.heap.objs.size + 2 := by rw [Heap.size_push, y1]
  have y3 : (zC s.heap a b).objs.size = s.heap.objs.size + 3 := by rw [Heap.size_push, y2]
  have y4 : (zD s.heap a b).objs.size = s.heap.objs.size + 4 := by rw [Heap.size_push, y3]
  have up : ∀ {h : Heap} {o : Obj} {c : Addr} {u : Obj}, h.get? c = some u → (h.push o).get? c = some u := fun e => Heap.get?_push_of_some _ e
  have e5 : (zE s.heap a b).get? (zD s.heap a b).objs.size = some _ := Heap.get?_push_size _ rfl
  have e4 : (zE s.heap a b).get? (zC s.heap a b).objs.size = some _ := up (Heap.get?_push_size _ rfl)
  have e3 : (zE s.heap a b).get? (zB s.heap a b).objs.size = some _ := up (up (Heap.get?_push_size _ rfl))
  have e2 : (zE s.heap a b).get? (zA s.heap a).objs.size = some _ := up (up (up (Heap.get?_push_size _ rfl)))
  have e1 : (zE s.heap a b).get? s.heap.objs.size = some _ := up (up (up (up (Heap.get?_push_size _ rfl))))
  show _ ∧ _
  rw [y2, y3, y4] at e5
  rw [y1, y2] at e3
  rw [y3] at e4
  rw [y1] at e2
  rw [y4]
  exact ⟨⟨_, e5, rfl⟩, h _ e5 e3 e4 ⟨_, e1, rfl, rfl⟩ ⟨_, e2, rfl, rfl⟩ fun c o x => up (up (up (up (up x))))⟩
end
/-! ### for x, y in zip(a tuple, a tuple) -/
def ItZ (K : PySem.W.Frag) (a b : Addr) (xs ys : List V) : It := ItW (min xs.length ys.length) (fun H => SqT K H a xs ∧ SqT K H b ys) fun i _ vs => ∃ x y, xs[i]? = some x ∧ ys[i]? = some y ∧ vs = [x, y]
theorem turn_zip {P : Program} {w : World} {K : PySem.W.Frag} {elts : List Expr} {k : Nat} {pos : Pos} {z TI TO i1 i2 a b : Addr} (xs ys : List V) (ap : Zap z TI TO i1 i2 a b) (h1 : a ≠ i1) (h2 : b ≠ i2) :
    Turn P w K (.Tuple elts k pos) (ItZ K a b xs ys) [z, TO, i1, i2, TI] z (fun i h => IsZip h z TI TO .none ∧ IsPair h TI (.ref i1) (.ref i2) ∧ (∃ u v, IsPair h TO u v) ∧ h.IsTupleIter i1 a i ∧ h.IsTupleIter i2 b i) := by
  refine turn_walk (fp := [z, TI, TO, i1, i2, a, b]) (wr := [z, TO, i1, i2]) (α := { q : Array Value × Array Value // q.1.size = xs.length ∧ q.2.size = ys.length }) (Pt := fun q i vals => ∃ x y, q.1.1[i]? = some x ∧ q.1.2[i]? = some y ∧ vals = #[x, y])
    (Sn := fun q i h => IsZip h z TI TO .none ∧ IsPair h TI (.ref i1) (.ref i2) ∧ (∃ a b, IsPair h TO a b) ∧ (h.IsTupleIter i1 a i ∧ h.IsTuple a q.1.1) ∧ (h.IsTupleIter i2 b i ∧ h.IsTuple b q.1.2))
    (Mid := fun q i T h => IsZip h z TI TO (rawInt T) ∧ IsPair h TI (.ref i1) (.ref i2) ∧ (∃ a b, IsPair h TO a b) ∧ (h.IsTupleIter i1 a (i + 1) ∧ h.IsTuple a q.1.1) ∧ (h.IsTupleIter i2 b (i + 1) ∧ h.IsTuple b q.1.2) ∧ T ≠ z ∧ T ≠ TO ∧ T ≠ i1 ∧ T ≠ i2)
    (by simp) (fun b hb => by simp at hb ⊢; rcases hb with rfl | rfl | rfl | rfl <;> simp) (fun A q hh => ?_) (fun A i s Q E st q => wpAny_pyIter_zip st.1 q) (fun i h st b hb => ?_) (fun i h h' st kp => ?_) ?_ (fun q i h st => ⟨st.1, st.2.1, st.2.2.1, st.2.2.2.1.1, st.2.2.2.2.1⟩)
  · have := walks_zip (prog := P) (w := w) (A := A) hh (fun B hB => draws_tup (prog := P) (w := w) (A := B) hB i1 a h1 q.1.1) (fun B hB => draws_tup (prog := P) (w := w) (A := B) hB i2 b h2 q.1.2) ap
    rw [q.2.1, q.2.2] at this
    exact this
  · obtain ⟨hz, hI, ⟨u, v, hO⟩, ⟨o1, e1, c1, d1⟩, o2, e2, c2, d2⟩ := st
    simp only [List.mem_cons, List.not_mem_nil, or_false] at hb
    rcases hb with rfl | rfl | rfl | rfl | rfl
    · exact ⟨_, hz, fun v z => by cases z⟩
    · exact ⟨_, hO, fun v z => by cases z⟩
    · exact ⟨o1, e1, fun v z => by rw [d1] at z; cases z⟩
    · exact ⟨o2, e2, fun v z => by rw [d2] at z; cases z⟩
    · exact ⟨_, hI, fun v z => by cases z⟩
  · obtain ⟨hz, hI, ⟨u, v, hO⟩, ⟨o1, e1, r1⟩, o2, e2, r2⟩ := st
    exact ⟨kp z (by simp) _ hz, kp TI (by simp) _ hI, ⟨u, v, kp TO (by simp) _ hO⟩, ⟨o1, kp i1 (by simp) _ e1, r1⟩, o2, kp i2 (by simp) _ e2, r2⟩
  · intro X hP hw hK i pins s σ H J hf st hok
    subst hP hw hK
    obtain ⟨l1, rv1, p1, hz1⟩ := J.tuple hok.1
    obtain ⟨l2, rv2, p2, hz2⟩ := J.tuple hok.2
    refine ⟨⟨(l1.toArray, l2.toArray), by have := rv1.length; simp; omega, by have := rv2.length; simp; omega⟩, ⟨st.1, st.2.1, st.2.2.1, ⟨st.2.2.2.1, p1⟩, st.2.2.2.2, p2⟩, ?_⟩
    rintro vals ⟨x, y, hx, hy, rfl⟩
    have hx' : l1[i]? = some x := by simpa using hx
    have hy' : l2[i]? = some y := by simpa using hy
    have hi : i < xs.length := by have := rv1.length; have := (List.getElem?_eq_some_iff.mp hx').1; omega
    have hj : i < ys.length := by have := rv2.length; have := (List.getElem?_eq_some_iff.mp hy').1; omega
    obtain ⟨u, hu, ru⟩ := rv1.get (List.getElem?_eq_getElem hi)
    obtain ⟨v, hv, rv⟩ := rv2.get (List.getElem?_eq_getElem hj)
    rw [hx'] at hu
    rw [hy'] at hv
    cases hu
    cases hv
    exact ⟨[xs[i], ys[i]], (show 2 ≤ sizeLine by decide), .cons ru (.cons rv .nil), xs[i], ys[i], List.getElem?_eq_getElem hi, List.getElem?_eq_getElem hj, rfl⟩
section
variable {X : Cx} {K : PySem.W.Frag} {elts : List Expr} {kk : Nat} {tpos : Pos}
theorem zap_new {n a b : Nat} (ha : a < n) (hb : b < n) : Zap (n + 4) (n + 2) (n + 3) n (n + 1) a b := by
  refine ⟨⟨?_, ?_, ?_, ?_, ?_, ?_⟩, ⟨?_, ?_, ?_, ?_, ?_, ?_⟩, ?_, ?_, ?_, ?_⟩ <;> (show ¬ ((_ : Nat) = _)) <;> omega
def iZip (K : PySem.W.Frag) (ta : TA) : TI := fun σ H R => ta σ H fun vs H1 => ∃ a b xs ys, vs = [.ref a, .ref b] ∧ SqT K H1 a xs ∧ SqT K H1 b ys ∧ R (ItZ K a b xs ys) H1
theorem pi_zip {a b : Expr} {ta : TA} {p pos : Pos} (h : X.K = K) (hg : Gl X "zip") (hm : X.mg "zip" = none) (ha : PA X [a, b] ta) (hs : starEach [a, b] X.env = [(false, eval a X.env), (false, eval b X.env)] := by rfl) (hs2 : starEach [b] X.env = [(false, eval b X.env)] := by rfl) : PI X (.Tuple elts kk tpos) (.Call (.Name "zip" p) [a, b] [] pos) (iZip K ta) := by
  subst h
  intro pins s σ H R I q
  refine Call_ (ld_blt I hg hm boot_zip (PyProof.Rows.callWith_type1 (thn (ha pos pins s σ H _ I q) fun us s1 ⟨vs, H1, I1, r1, q1⟩ => ?_) (by rw [hs, hs2]) (by rw [hs2]; rfl)))
  obtain ⟨a, b, xs, ys, e, hq1, hq2, q⟩ := q1
  subst e
  obtain ⟨u, v, rfl, ru, rv⟩ := vals2 r1
  cases ru
  cases rv
  obtain ⟨l1, rv1, p1, hz1⟩ := I1.tuple hq1
  obtain ⟨l2, rv2, p2, hz2⟩ := I1.tuple hq2
  refine call_zip (show s1.heap.IsTuple a l1.toArray from p1) (show s1.heap.IsTuple b l2.toArray from p2) fun h' he hI hO hi hj hk => ?_
  refine wpAny_pyIter_zip (s := { s1 with heap := h' }) he ?_
  have hal : a < s1.heap.objs.size := by obtain ⟨o, ho, _⟩ := p1; exact Heap.lt_size ho
  have hbl : b < s1.heap.objs.size := by obtain ⟨o, ho, _⟩ := p2; exact Heap.lt_size ho
  have hkept : Inv X pins σ H1 { s1 with heap := h' } := I1.kept (t' := s1.toks) hk
  refine ⟨s1.heap.objs.size + 4, [s1.heap.objs.size + 4, s1.heap.objs.size + 3, s1.heap.objs.size, s1.heap.objs.size + 1, s1.heap.objs.size + 2], _, _, H1, rfl, hkept, turn_zip xs ys (zap_new hal hbl) (Nat.ne_of_lt hal) (Nat.ne_of_lt (Nat.lt_succ_of_lt hbl)), ⟨he, hI, ⟨_, _, hO⟩, hi, hj⟩, fun b hb => ?_, q⟩
  simp only [List.mem_cons, List.not_mem_nil, or_false] at hb
  have hb' : s1.heap.objs.size ≤ b := by
    rcases hb with rfl | rfl | rfl | rfl | rfl
    · exact Nat.le_add_right _ _
    · exact Nat.le_add_right _ _
    · exact Nat.le_refl _
    · exact Nat.le_add_right _ _
    · exact Nat.le_add_right _ _
  exact I1.fpOk hb' (I1.hok.fresh hb')
variable {σ : St} {H : Hp} {D : Ends} {g : TG} {tb : TS} {aa : TA}
theorem rd_forZ : tFor (iZip K aa) g tb D σ H ↔ aa σ H fun vs H1 => ∃ a b xs ys, vs = [.ref a, .ref b] ∧ SqT K H1 a xs ∧ SqT K H1 b ys ∧ LoopI (ItZ K a b xs ys) g tb D σ H1 := Iff.rfl
variable {p : Addr} {fv : St} {tt : TT} {te : TE} {Q : VK} {H1 : Hp} {fr : List Nat}
theorem rd_comp2Z : tComp2 K (iZip K aa) fr tt te σ H Q ↔ aa σ H fun vs H1 => ∃ a b xs ys, vs = [.ref a, .ref b] ∧ SqT K H1 a xs ∧ SqT K H1 b ys ∧ ∀ p, H1 p = none → CompI2 K (ItZ K a b xs ys) p (frV σ fr) tt te Q H1 := Iff.rfl
theorem comp_zip {a b : Addr} {xs ys zs : List V} (hxs : SqT K H1 a xs) (hys : SqT K H1 b ys) (hlen : zs.length ≤ sizeLine) (hp : H1 p = none) (hz : zs.length = min xs.length ys.length)
    (he : ∀ (i : Nat) (x y z : V), xs[i]? = some x → ys[i]? = some y → zs[i]? = some z → ∀ (H' : Hp) (T : VK), Same H1 H' → (∀ H'', Same H' H'' → T z H'') → te (some x :: some y :: fv) H' T)
    (hQ : ∀ H', Same H1 H' → H' p = some (.lst zs) → Q (.ref p) H') : CompI2 K (ItZ K a b xs ys) p fv tYes te Q H1 := by
  refine ⟨fun i m ws H2 => m = zs.length - i ∧ i ≤ zs.length ∧ ws = zs.take i ∧ H2 p = some (.lst ws) ∧ Same H1 H2, ⟨zs.length, by simp, Nat.zero_le _, by simp, upd_same, fun b o e => by rw [upd_ne (ne_of_none e hp)]; exact e⟩, ?_⟩
  rintro i m ws H2 ⟨rfl, hi, rfl, hp2, sm⟩
  refine ⟨hp2, ?_⟩
  have qx := sm.tup hxs
  have qy := sm.tup hys
  by_cases hlt : i < zs.length
  · refine .inr ⟨⟨by rw [← hz]; exact hlt, qx, qy⟩, by rw [List.length_take]; omega, fun x H3 y => ?_⟩
    obtain ⟨T, vs, rfl, hT, rfl, x, y, hx, hy, rfl⟩ := y
    have s3 : Same H2 (upd H2 T (.tup [x, y])) := fun b o e => by rw [upd_ne (ne_of_none e hT)]; exact e
    refine ⟨T, x, y, rfl, .inl (.inl upd_same), ?_⟩
    unfold tYes
    dsimp only
    rw [if_pos rfl]
    have hzi : zs[i]? = some zs[i] := by simp [hlt]
    refine he i x y _ hx hy hzi _ _ (sm.trans s3) fun H5 s5 => ⟨s5 _ _ (s3 _ _ hp2), zs.length - (i + 1), by omega, rfl, hlt, ?_, upd_same, fun b o e => ?_⟩
    · rw [List.take_add_one, hzi]; rfl
    · rw [upd_ne (ne_of_none e hp)]; exact s5 _ _ (s3 _ _ (sm _ _ e))
  · have e : i = zs.length := by omega
    subst e
    refine .inl ⟨⟨hz, qx, qy⟩, hQ H2 sm ?_⟩
    rw [hp2, List.take_length]
end
/-! ### a comprehension over a range -/
section
variable {p : Addr} {fv : St} {tt : TT} {te : TE} {Q : VK} {H1 H : Hp} {fr : List Nat} {aa : TA} {σ : St}
theorem rd_compRg : tComp (iRng1 aa) fr tt te σ H Q ↔ aa σ H fun vs H1 => ∃ j : Int, vs = [.int j] ∧ -(2 ^ 62) ≤ j ∧ j < 2 ^ 62 ∧ ∀ p, H1 p = none → CompI (Itr 0 j.toNat) p (frV σ fr) tt te Q H1 := Iff.rfl
theorem comp_rangeJ {n : Nat} (J : Nat → List V → Hp → Prop) (hlen : n ≤ sizeLine) (h0 : J 0 [] (upd H1 p (.lst [])))
    (he : ∀ (i : Nat) (ys : List V) (H2 : Hp) (T : VK), i < n → J i ys H2 → H2 p = some (.lst ys) → (∀ y H3, H3 p = some (.lst ys) → J (i + 1) (ys ++ [y]) (upd H3 p (.lst (ys ++ [y]))) → T y H3) → te (some (.int (0 + (i : Int))) :: fv) H2 T)
    (hQ : ∀ ys H2, J n ys H2 → H2 p = some (.lst ys) → Q (.ref p) H2) : CompI (Itr 0 n) p fv tYes te Q H1 := by
  refine ⟨fun i m ys H2 => m = n - i ∧ i ≤ n ∧ ys.length = i ∧ H2 p = some (.lst ys) ∧ J i ys H2, ⟨n, by simp, Nat.zero_le _, rfl, upd_same, h0⟩, ?_⟩
  rintro i m ys H2 ⟨rfl, hi, hyl, hp2, hJ⟩
  refine ⟨hp2, ?_⟩
  by_cases hlt : i < n
  · refine .inr ⟨hlt, by omega, fun x H3 y => ?_⟩
    obtain ⟨rfl, rfl⟩ := y
    unfold tYes
    dsimp only
    rw [if_pos rfl]
    exact he i ys _ _ hlt hJ hp2 fun y H5 hp5 hJ5 => ⟨hp5, n - (i + 1), by omega, rfl, hlt, by rw [List.length_append, hyl]; rfl, upd_same, hJ5⟩
  · have e : i = n := by omega
    subst e
    exact .inl ⟨Nat.le_refl _, hQ ys H2 hJ hp2⟩
end
end L2
/-! PATTERNS: a text's startswith and endswith, and what a piece is -/
namespace L2
open PySem PySem.Spec PyProof.Rows
section
variable {X : Cx}
def rStart1 : V → List V → Hp → VK → Prop := fun x vs H Q => ∃ z y : List Nat, x = .str ⟨z.toArray⟩ ∧ vs = [.str ⟨y.toArray⟩] ∧ Q (.bl (decide (z.take y.length = y))) H
def rEnd1 : V → List V → Hp → VK → Prop := fun x vs H Q => ∃ z y : List Nat, x = .str ⟨z.toArray⟩ ∧ vs = [.str ⟨y.toArray⟩] ∧ Q (.bl (decide (z.drop (z.length - y.length) = y))) H
theorem sub_eq (z y : List Nat) (i : Nat) : Builtin.Str.subAt ⟨z.toArray⟩ ⟨y.toArray⟩ i = decide ((z.drop i).take y.length = y) := by
  unfold Builtin.Str.subAt
  have hl : (⟨y.toArray⟩ : Str).length = y.length := rfl
  rw [hl, Bool.eq_iff_iff, beq_iff_eq, decide_eq_true_eq]
  show (z.toArray.extract i (i + y.length) = y.toArray) ↔ _
  rw [← Array.toList_inj]
  simp
theorem start_eq (z y : List Nat) : (decide (0 + (⟨y.toArray⟩ : Str).length ≤ (⟨z.toArray⟩ : Str).length) && Builtin.Str.subAt ⟨z.toArray⟩ ⟨y.toArray⟩ 0) = decide (z.take y.length = y) := by
  rw [sub_eq, List.drop_zero]
  show (decide (0 + y.length ≤ z.length) && _) = _
  by_cases h : z.take y.length = y
  · have := congrArg List.length h
    rw [List.length_take] at this
    rw [decide_eq_true h, decide_eq_true (show 0 + y.length ≤ z.length by omega)]
    rfl
  · rw [decide_eq_false h, Bool.and_false]
theorem end_eq (z y : List Nat) : (decide (0 + (⟨y.toArray⟩ : Str).length ≤ (⟨z.toArray⟩ : Str).length) && Builtin.Str.subAt ⟨z.toArray⟩ ⟨y.toArray⟩ ((⟨z.toArray⟩ : Str).length - (⟨y.toArray⟩ : Str).length)) = decide (z.drop (z.length - y.length) = y) := by
  rw [sub_eq]
  show (decide (0 + y.length ≤ z.length) && decide ((z.drop (z.length - y.length)).take y.length = y)) = _
  have e : (z.drop (z.length - y.length)).length ≤ y.length → (z.drop (z.length - y.length)).take y.length = z.drop (z.length - y.length) := fun h => List.take_of_length_le h
  rw [e (by rw [List.length_drop]; omega)]
  by_cases h : z.drop (z.length - y.length) = y
  · have := congrArg List.length h
    rw [List.length_drop] at this
    rw [decide_eq_true h, decide_eq_true (show 0 + y.length ≤ z.length by omega)]
    rfl
  · rw [decide_eq_false h, Bool.and_false]
theorem mt_start1 : MtR X "str.startswith" rStart1 := by
  intro pins s σ H x vs v us Q I rx rv h
  obtain ⟨z, y, rfl, rfl, q⟩ := h
  obtain ⟨t, rfl⟩ := rx
  obtain ⟨u, rfl, t', rfl⟩ := vals1 rv
  refine call_meets F.slot_str_startswith (typeIs_str _ _ _) F.entry_str_startswith (F.args_str_startswith_2 _ _) (gives_str_startswith _ _ t t').meets ?_
  refine ⟨.bl _, H, I, rfl, ?_⟩
  rw [← start_eq] at q
  exact q
theorem mt_end1 : MtR X "str.endswith" rEnd1 := by
  intro pins s σ H x vs v us Q I rx rv h
  obtain ⟨z, y, rfl, rfl, q⟩ := h
  obtain ⟨t, rfl⟩ := rx
  obtain ⟨u, rfl, t', rfl⟩ := vals1 rv
  refine call_meets F.slot_str_endswith (typeIs_str _ _ _) F.entry_str_endswith (F.args_str_endswith_2 _ _) (gives_str_endswith _ _ t t').meets ?_
  refine ⟨.bl _, H, I, rfl, ?_⟩
  rw [← end_eq] at q
  exact q
theorem rd_par {i j : Nat} {ta : TA} {D : Ends} {σ : St} {H : Hp} : tPar i j ta D σ H ↔ ta σ H fun vs H1 => ∃ v w, vs = [v, w] ∧ D.nx ((σ.set i (some v)).set j (some w)) H1 := Iff.rfl
theorem st1_str {z y : List Nat} {H : Hp} {Q : VK} : rStart1 (.str ⟨z.toArray⟩) [.str ⟨y.toArray⟩] H Q ↔ Q (.bl (decide (z.take y.length = y))) H :=
  ⟨fun ⟨z', y', e1, e2, h⟩ => by
    injection e1 with e1; injection e1 with e1
    injection e2 with e2; injection e2 with e2; injection e2 with e2
    have h1 : z = z' := by simpa using congrArg Array.toList e1
    have h2 : y = y' := by simpa using congrArg Array.toList e2
    subst h1 h2; exact h, fun h => ⟨z, y, rfl, rfl, h⟩⟩
theorem en1_str {z y : List Nat} {H : Hp} {Q : VK} : rEnd1 (.str ⟨z.toArray⟩) [.str ⟨y.toArray⟩] H Q ↔ Q (.bl (decide (z.drop (z.length - y.length) = y))) H :=
  ⟨fun ⟨z', y', e1, e2, h⟩ => by
    injection e1 with e1; injection e1 with e1
    injection e2 with e2; injection e2 with e2; injection e2 with e2
    have h1 : z = z' := by simpa using congrArg Array.toList e1
    have h2 : y = y' := by simpa using congrArg Array.toList e2
    subst h1 h2; exact h, fun h => ⟨z, y, rfl, rfl, h⟩⟩
end
end L2
namespace L2
open PySem
section
variable {p : Addr} {fv : St} {tt : TT} {te : TE} {Q : VK} {H1 : Hp} {K : PySem.W.Frag}
/-- a comprehension over a list with a test -/
theorem comp_listF {a : Addr} {xs : List V} (f : V → Bool) (g : V → V) (hxs : SqL K H1 a xs) (hlen : xs.length ≤ sizeLine) (hp : H1 p = none)
    (ht : ∀ (i : Nat) (x : V), xs[i]? = some x → ∀ (H' : Hp) (R : Bool → Hp → Prop), Same H1 H' → (∀ H'', Same H' H'' → R (f x) H'') → tt (some x :: fv) H' R)
    (he : ∀ (i : Nat) (x : V), xs[i]? = some x → f x = true → ∀ (H' : Hp) (T : VK), Same H1 H' → (∀ H'', Same H' H'' → T (g x) H'') → te (some x :: fv) H' T)
    (hQ : ∀ H', Same H1 H' → H' p = some (.lst ((xs.filter f).map g)) → Q (.ref p) H') : CompI (Itl K a) p fv tt te Q H1 := by
  refine ⟨fun i m ys H2 => m = xs.length - i ∧ i ≤ xs.length ∧ ys = ((xs.take i).filter f).map g ∧ H2 p = some (.lst ys) ∧ Same H1 H2, ⟨xs.length, by simp, Nat.zero_le _, by simp, upd_same, fun b o e => by rw [upd_ne (ne_of_none e hp)]; exact e⟩, ?_⟩
  rintro i m ys H2 ⟨rfl, hi, rfl, hp2, sm⟩
  refine ⟨hp2, ?_⟩
  have q := sm.seq hxs
  by_cases hlt : i < xs.length
  · refine .inr ⟨⟨xs, xs[i], q, by simp [hlt]⟩, ?_, fun x H3 y => ?_⟩
    · rw [List.length_map]
      have := List.length_filter_le f (xs.take i)
      rw [List.length_take] at this
      omega
    · obtain ⟨rfl, y⟩ := y
      have hc := y xs q
      refine ht i x hc _ _ sm fun H4 s4 => ?_
      by_cases hf : f x = true
      · rw [if_pos hf]
        refine he i x hc hf _ _ (sm.trans s4) fun H5 s5 => ⟨(s4.trans s5) _ _ hp2, xs.length - (i + 1), by omega, rfl, hlt, ?_, upd_same, fun b o e => ?_⟩
        · rw [List.take_add_one, hc]; simp [hf]
        · rw [upd_ne (ne_of_none e hp)]; exact (s4.trans s5) _ _ (sm _ _ e)
      · rw [if_neg hf]
        refine ⟨xs.length - (i + 1), by omega, rfl, hlt, ?_, s4 _ _ hp2, sm.trans s4⟩
        rw [List.take_add_one, hc]; simp [hf]
  · have e : i = xs.length := by omega
    subst e
    refine .inl ⟨⟨xs, q, Nat.le_refl _⟩, hQ H2 sm ?_⟩
    rw [hp2, List.take_length]
end
end L2
namespace Wm
open PySem L2
inductive Pc
  | step (s : List Nat)
  | part (h n t : List Nat)
  | num (n : List Nat)
  | word (n : List Nat)
  | gap (n : List Nat)
  | rest (n : List Nat)
abbrev tV (l : List Nat) : V := .str ⟨l.toArray⟩
def Pc.kw : Pc → Str
  | .step _ => Str.ofString "step"
  | .part .. => Str.ofString "part"
  | .num _ => Str.ofString "number"
  | .word _ => Str.ofString "word"
  | .gap _ => Str.ofString "gap"
  | .rest _ => Str.ofString "rest"
def Pc.tl : Pc → List V
  | .step s => [tV s]
  | .part h n t => [tV h, tV n, tV t]
  | .num n => [tV n]
  | .word n => [tV n]
  | .gap n => [tV n]
  | .rest n => [tV n]
def Pc.vals (c : Pc) : List V := .str c.kw :: c.tl
def Pc.name : Pc → List Nat
  | .step _ => []
  | .part _ n _ => n
  | .num n => n
  | .word n => n
  | .gap n => n
  | .rest n => n
def Pc.head : Pc → List Nat | .part h _ _ => h | _ => []
def Pc.tail : Pc → List Nat | .part _ _ t => t | _ => []
def Pc.isStep : Pc → Bool | .step _ => true | _ => false
def Pc.isPart : Pc → Bool | .part .. => true | _ => false
def Pc.isNum : Pc → Bool | .num _ => true | _ => false
def Pc.isWord : Pc → Bool | .word _ => true | _ => false
def Pc.isRest : Pc → Bool | .rest _ => true | _ => false
theorem Pc.at0 (c : Pc) : atI c.vals 0 = some (.str c.kw) := atI_nat (j := 0) rfl
theorem kw_step (c : Pc) : decide (c.kw = Str.ofString "step") = c.isStep := by cases c <;> first | exact decide_eq_true rfl | exact decide_eq_false (show ¬ (Str.ofString _ = Str.ofString _) by decide +kernel)
theorem kw_part (c : Pc) : decide (c.kw = Str.ofString "part") = c.isPart := by cases c <;> first | exact decide_eq_true rfl | exact decide_eq_false (show ¬ (Str.ofString _ = Str.ofString _) by decide +kernel)
theorem kw_num (c : Pc) : decide (c.kw = Str.ofString "number") = c.isNum := by cases c <;> first | exact decide_eq_true rfl | exact decide_eq_false (show ¬ (Str.ofString _ = Str.ofString _) by decide +kernel)
theorem kw_word (c : Pc) : decide (c.kw = Str.ofString "word") = c.isWord := by cases c <;> first | exact decide_eq_true rfl | exact decide_eq_false (show ¬ (Str.ofString _ = Str.ofString _) by decide +kernel)
theorem kw_rest (c : Pc) : decide (c.kw = Str.ofString "rest") = c.isRest := by cases c <;> first | exact decide_eq_true rfl | exact decide_eq_false (show ¬ (Str.ofString _ = Str.ofString _) by decide +kernel)
def isFig (c : Nat) : Bool := decide (48 ≤ c ∧ c ≤ 57)
def isSma (c : Nat) : Bool := decide (97 ≤ c ∧ c ≤ 122)
def numB (l : List Nat) : Bool := decide (1 ≤ l.length) && decide (l.length ≤ 60) && l.all isFig && (decide (l = [48]) || !decide (l.head? = some 48))
def wordB (l : List Nat) : Bool := decide (1 ≤ l.length) && decide (l.length ≤ 60) && l.all isSma
def partB (h t s : List Nat) : Bool := decide (s.take h.length = h) && (decide (s.drop (s.length - t.length) = t) && decide (h.length + t.length < s.length))
def fitsM (c : Pc) (s : List Nat) : Bool := !isDot s && match c with
  | .step w => decide (s = w)
  | .part h _ t => partB h t s
  | .num _ => numB s
  | .word _ => wordB s
  | .gap _ => true
  | .rest _ => true
/-- what a gap is bound to -/
inductive Vl
  | txt (l : List Nat)
  | int (i : Int)
  | lst (ls : List (List Nat))
def intOf (l : List Nat) : Int := (PySem.intText? ⟨l.toArray⟩).getD 0
def amid (h t s : List Nat) : List Nat := (s.drop h.length).take (s.length - t.length - h.length)
def valM (c : Pc) (ss : List (List Nat)) : Vl := match c with
  | .rest _ => .lst ss
  | .num _ => .int (intOf (ss.headD []))
  | _ => .txt (amid c.head c.tail (ss.headD []))
def VlV (H : Hp) : Vl → V → Prop
  | .txt l, v => v = tV l
  | .int i, v => v = .int i
  | .lst ls, v => ∃ p, v = .ref p ∧ H p = some (.lst (ls.map tV))
theorem VlV.mono {H H' : Hp} (s : Same H H') : ∀ {x : Vl} {v : V}, VlV H x v → VlV H' x v
  | .txt _, _, h => h
  | .int _, _, h => h
  | .lst _, _, ⟨p, e, h⟩ => ⟨p, e, s _ _ h⟩
theorem int_fig {l : List Nat} (h : l.all isFig = true) (h0 : 1 ≤ l.length) (h1 : l.length ≤ 60) : PySem.intText? ⟨l.toArray⟩ = some (intOf l) := by
  have e := intText_digits (x := ⟨l.toArray⟩) (fun c hc => by
    have := List.all_eq_true.mp h c (by simpa using hc)
    simpa [isFig] using this) (by intro z; simp at z; rw [z] at h0; simp at h0) (by show l.length ≤ 4300; omega)
  unfold intOf
  rw [e]
  rfl
/-- pieces, each a tuple -/
inductive PcAll (K : PySem.W.Frag) (H : Hp) : List Pc → List V → Prop
  | nil : PcAll K H [] []
  | cons {c : Pc} {p : Addr} {cs : List Pc} {xs : List V} : SqT K H p c.vals → PcAll K H cs xs → PcAll K H (c :: cs) (.ref p :: xs)
theorem PcAll.mono {K : PySem.W.Frag} {H H' : Hp} (s : Same H H') : ∀ {cs : List Pc} {xs : List V}, PcAll K H cs xs → PcAll K H' cs xs
  | _, _, .nil => .nil
  | _, _, .cons h r => .cons (s.tup h) (PcAll.mono s r)
theorem PcAll.length {K : PySem.W.Frag} {H : Hp} : ∀ {cs : List Pc} {xs : List V}, PcAll K H cs xs → xs.length = cs.length
  | _, _, .nil => rfl
  | _, _, .cons _ r => by simp [PcAll.length r]
theorem PcAll.get {K : PySem.W.Frag} {H : Hp} : ∀ {cs : List Pc} {xs : List V}, PcAll K H cs xs → ∀ {i : Nat} {v : V}, xs[i]? = some v → ∃ c p, cs[i]? = some c ∧ v = .ref p ∧ SqT K H p c.vals
  | _, _, .nil, i, v, e => by simp at e
  | _, _, .cons h r, 0, v, e => by cases e; exact ⟨_, _, rfl, rfl, h⟩
  | _, _, .cons h r, i + 1, v, e => by simp only [List.getElem?_cons_succ] at e ⊢; exact r.get e
theorem PcAll.append {K : PySem.W.Frag} {H : Hp} {ds : List Pc} {ys : List V} (h2 : PcAll K H ds ys) : ∀ {cs : List Pc} {xs : List V}, PcAll K H cs xs → PcAll K H (cs ++ ds) (xs ++ ys)
  | _, _, .nil => h2
  | _, _, .cons h r => .cons h (PcAll.append h2 r)
def hasRest (cs : List Pc) : Bool := match cs.getLast? with
  | some c => c.isRest
  | none => false
def smaL : List Nat := (Str.ofString "abcdefghijklmnopqrstuvwxyz").cps.toList
theorem smaL_in : ∀ c, c < 128 → (c ∈ smaL ↔ isSma c = true) := by decide +kernel
theorem smaL_128 : ∀ c ∈ smaL, c < 128 := by decide +kernel
theorem all_sma (l : List Nat) : l.all isSma = l.all fun c => decide (c ∈ smaL) := by
  congr 1
  funext c
  by_cases h : c < 128
  · rw [Bool.eq_iff_iff, decide_eq_true_eq]; exact (smaL_in c h).symm
  · have h1 : ¬ c ∈ smaL := fun z => h (smaL_128 c z)
    rw [decide_eq_false h1]
    unfold isSma
    exact decide_eq_false (by omega)
theorem all_fig (l : List Nat) : (l.all fun c => decide (c ∈ fgS)) = l.all isFig := by
  congr 1
  funext c
  unfold isFig
  exact decide_eq_decide.mpr fgS_in
theorem PcAll.last {K : PySem.W.Frag} {H : Hp} {cs : List Pc} {xs : List V} {c : Pc} (h : PcAll K H cs xs) (hc : cs.getLast? = some c) : ∃ v, atI xs (-1) = some v ∧ ∃ p, v = .ref p ∧ SqT K H p c.vals := by
  have hl := h.length
  have hn : cs ≠ [] := by rintro rfl; cases hc
  have hp := List.length_pos_iff.mpr hn
  obtain ⟨v, hx⟩ : ∃ v, xs[cs.length - 1]? = some v := ⟨_, List.getElem?_eq_getElem (by omega)⟩
  obtain ⟨d, p, e1, e2, e3⟩ := h.get hx
  rw [List.getLast?_eq_getElem?] at hc
  rw [hc] at e1
  cases e1
  refine ⟨v, ?_, p, e2, e3⟩
  have hg : xs.getLast? = some v := by rw [List.getLast?_eq_getElem?, hl]; exact hx
  have := atI_last (l := xs) (fun v => v) hg
  simpa using this
/-- the pieces, the last one as often as need be where it is a rest -/
def spreadM (cs : List Pc) (n : Nat) : Option (List Pc) := if hasRest cs = true ∧ cs.length ≤ n then some (cs ++ (List.replicate (n - cs.length) (cs.drop (cs.length - 1))).flatten) else if n = cs.length then some cs else none
theorem amid_nil (s : List Nat) : amid [] [] s = s := by unfold amid; simp
def fitsP (cs : List Pc) (cl r : Bool) (ss : List (List Nat)) (e : Bool) : Bool := match spreadM cs ss.length with
  | none => false
  | some ds => r && decide (e = cl) && (List.zipWith fitsM ds ss).all id
def boundM : List Pc → List (List Nat) → List (List Nat × Vl)
  | [], _ => []
  | c :: cs, ss => (if c.isStep then [] else [(c.name, valM c ss)]) ++ boundM cs (ss.drop 1)
/-- pairs of a name and a value; no value is the list l itself -/
inductive BndV (H : Hp) (l : Addr) : List (List Nat × Vl) → List V → Prop
  | nil : BndV H l [] []
  | cons {n : List Nat} {x : Vl} {p : Addr} {v : V} {bs : List (List Nat × Vl)} {ys : List V} : H p = some (.tup [tV n, v]) → VlV H x v → (∀ q, v = .ref q → q ≠ l) → BndV H l bs ys → BndV H l ((n, x) :: bs) (.ref p :: ys)
theorem BndV.mono {H H' : Hp} {l : Addr} (s : Same H H') : ∀ {bs : List (List Nat × Vl)} {ys : List V}, BndV H l bs ys → BndV H' l bs ys
  | _, _, .nil => .nil
  | _, _, .cons h v n r => .cons (s _ _ h) (v.mono s) n (BndV.mono s r)
theorem VlV.upd {H : Hp} {l : Addr} {o : HO} : ∀ {x : Vl} {v : V}, VlV H x v → (∀ q, v = .ref q → q ≠ l) → VlV (L2.upd H l o) x v
  | .txt _, _, h, _ => h
  | .int _, _, h, _ => h
  | .lst _, _, ⟨p, e, h⟩, hn => ⟨p, e, by rw [upd_ne (hn p e)]; exact h⟩
theorem BndV.upd {H : Hp} {l : Addr} {o : HO} {xs : List V} (hl : H l = some (.lst xs)) : ∀ {bs : List (List Nat × Vl)} {ys : List V}, BndV H l bs ys → BndV (L2.upd H l o) l bs ys
  | _, _, .nil => .nil
  | _, _, .cons h v n r => .cons (by rw [upd_ne (ne_of h hl (by intro z; cases z))]; exact h) (v.upd n) n (BndV.upd hl r)
theorem BndV.snoc {H : Hp} {l : Addr} {n : List Nat} {x : Vl} {p : Addr} {v : V} (h : H p = some (.tup [tV n, v])) (hv : VlV H x v) (hn : ∀ q, v = .ref q → q ≠ l) : ∀ {bs : List (List Nat × Vl)} {ys : List V}, BndV H l bs ys → BndV H l (bs ++ [(n, x)]) (ys ++ [.ref p])
  | _, _, .nil => .cons h hv hn .nil
  | _, _, .cons a b c r => .cons a b c (BndV.snoc h hv hn r)
theorem BndV.length {H : Hp} {l : Addr} : ∀ {bs : List (List Nat × Vl)} {ys : List V}, BndV H l bs ys → ys.length = bs.length
  | _, _, .nil => rfl
  | _, _, .cons _ _ _ r => by simp [BndV.length r]
theorem boundM_len : ∀ (cs : List Pc) (ss : List (List Nat)), (boundM cs ss).length ≤ cs.length
  | [], _ => Nat.le_refl _
  | c :: cs, ss => by
    have := boundM_len cs (ss.drop 1)
    unfold boundM
    rw [List.length_append]
    split <;> simp only [List.length_nil, List.length_cons] <;> omega
theorem boundM_take : ∀ (cs : List Pc) (ss : List (List Nat)) (i : Nat) (c : Pc), cs[i]? = some c → boundM (cs.take (i + 1)) ss = boundM (cs.take i) ss ++ (if c.isStep then [] else [(c.name, valM c (ss.drop i))])
  | [], ss, i, c, h => by simp at h
  | d :: cs, ss, 0, c, h => by
    cases h
    show _ ++ boundM (cs.take 0) (ss.drop 1) = boundM [] ss ++ _
    simp [boundM]
  | d :: cs, ss, i + 1, c, h => by
    have := boundM_take cs (ss.drop 1) i c (by simpa using h)
    show _ ++ boundM (cs.take (i + 1)) (ss.drop 1) = (_ ++ boundM (cs.take i) (ss.drop 1)) ++ _
    rw [this, List.append_assoc, List.drop_drop, Nat.add_comm 1 i]
theorem spread_pre {cs ds : List Pc} {n : Nat} (h : spreadM cs n = some ds) : cs.length ≤ n ∧ ∃ es, ds = cs ++ es := by
  unfold spreadM at h
  split at h
  · rename_i hh
    cases h
    exact ⟨hh.2, _, rfl⟩
  · split at h
    · rename_i hh
      cases h
      exact ⟨by omega, [], by simp⟩
    · cases h
theorem fitsP_at {cs : List Pc} {cl r e : Bool} {ss : List (List Nat)} (h : fitsP cs cl r ss e = true) {i : Nat} {c : Pc} (hc : cs[i]? = some c) : ∃ s, ss[i]? = some s ∧ fitsM c s = true := by
  unfold fitsP at h
  split at h
  · cases h
  · rename_i ds hd
    obtain ⟨hl, es, rfl⟩ := spread_pre hd
    have hi := (List.getElem?_eq_some_iff.mp hc).1
    have hs : ss[i]? = some ss[i] := List.getElem?_eq_getElem (by omega)
    refine ⟨_, hs, ?_⟩
    have ha := (Bool.and_eq_true _ _ ▸ h).2
    have hz : (List.zipWith fitsM (cs ++ es) ss)[i]? = some (fitsM c ss[i]) := by
      rw [List.getElem?_zipWith, List.getElem?_append_left hi, hc, hs]
    exact List.all_eq_true.mp ha _ (List.mem_of_getElem? hz)
theorem fits_num {n s : List Nat} (h : fitsM (.num n) s = true) : 1 ≤ s.length ∧ s.length ≤ 60 ∧ s.all isFig = true := by
  unfold fitsM numB at h
  simp only [Bool.and_eq_true, decide_eq_true_eq] at h
  exact ⟨h.2.1.1.1, h.2.1.1.2, h.2.1.2⟩
theorem fits_part_len {h n t s : List Nat} (hf : fitsM (.part h n t) s = true) : (Pc.part h n t).head.length + (Pc.part h n t).tail.length ≤ s.length := by
  unfold fitsM partB at hf
  simp only [Bool.and_eq_true, decide_eq_true_eq] at hf
  have := hf.2.2.2
  show h.length + t.length ≤ s.length
  omega
theorem cut_last (xs : List V) : cutV xs (some (-1)) none = xs.drop (xs.length - 1) := by
  unfold cutV
  rw [HT.sIx_none]
  have e : HT.sIx xs.length 0 (some (-1)) = xs.length - 1 := by
    unfold HT.sIx
    simp only [if_pos (show (-1 : Int) < 0 by decide)]
    omega
  rw [e, List.take_of_length_le (by rw [List.length_drop]; omega)]
theorem PcAll.drop {K : PySem.W.Frag} {H : Hp} : ∀ {cs : List Pc} {xs : List V}, PcAll K H cs xs → ∀ i, PcAll K H (cs.drop i) (xs.drop i)
  | _, _, h, 0 => h
  | _, _, .nil, i + 1 => .nil
  | _, _, .cons _ r, i + 1 => r.drop i
theorem PcAll.reps {K : PySem.W.Frag} {H : Hp} {cs : List Pc} {xs : List V} (h : PcAll K H cs xs) : ∀ m : Nat, PcAll K H (List.replicate m cs).flatten (List.replicate m xs).flatten
  | 0 => .nil
  | m + 1 => by
    rw [List.replicate_succ, List.replicate_succ, List.flatten_cons, List.flatten_cons]
    exact (h.reps m).append h
theorem reps_len {α : Type} (xs : List α) (m : Nat) (h : xs.length ≤ 1) : (List.replicate m xs).flatten.length ≤ m := by
  induction m with
  | zero => simp
  | succ m ih =>
    rw [List.replicate_succ, List.flatten_cons, List.length_append]
    omega
def PcSz (cs : List Pc) : Prop := ∀ c ∈ cs, c.head.length ≤ 100000 ∧ c.tail.length ≤ 100000
theorem spread_mem {cs ds : List Pc} {n : Nat} (h : spreadM cs n = some ds) : ∀ c ∈ ds, c ∈ cs := by
  unfold spreadM at h
  split at h
  · cases h
    intro c hc
    rcases List.mem_append.mp hc with hc | hc
    · exact hc
    · obtain ⟨l, hl, hc⟩ := List.mem_flatten.mp hc
      rw [List.eq_of_mem_replicate hl] at hc
      exact List.mem_of_mem_drop hc
  · split at h
    · cases h; exact fun c hc => hc
    · cases h
theorem spread_len {cs ds : List Pc} {n : Nat} (h : spreadM cs n = some ds) : ds.length = n := by
  unfold spreadM at h
  split at h
  · rename_i hh
    cases h
    have hne : cs ≠ [] := by rintro rfl; exact absurd hh.1 (by decide)
    have hp := List.length_pos_iff.mpr hne
    have e : ∀ m, (List.replicate m (cs.drop (cs.length - 1))).flatten.length = m := fun m => by
      induction m with
      | zero => simp
      | succ m ih =>
        rw [List.replicate_succ, List.flatten_cons, List.length_append, ih, List.length_drop]
        omega
    rw [List.length_append, e]
    omega
  · split at h
    · rename_i hh
      cases h; omega
    · cases h
theorem cut_from (xs : List V) (i : Nat) : cutV xs (some (i : Int)) none = xs.drop i := by
  unfold cutV
  rw [HT.sIx_none, HT.sIx_nat]
  by_cases h : i ≤ xs.length
  · rw [Nat.min_eq_left h, List.take_of_length_le (by rw [List.length_drop]; omega)]
  · rw [Nat.min_eq_right (by omega), List.drop_of_length_le (Nat.le_refl _), List.drop_of_length_le (by omega)]
    simp
theorem sma_at (i : Int) : ∃ c, atI smaL (i % 26) = some c ∧ isSma c = true := by
  have h1 := Int.emod_nonneg i (show (26 : Int) ≠ 0 by decide)
  have h2 := Int.emod_lt_of_pos i (show (0 : Int) < 26 by decide)
  have hl : smaL.length = 26 := by decide +kernel
  have h3 : (i % 26).toNat < smaL.length := by omega
  refine ⟨smaL[(i % 26).toNat], ?_, (smaL_in _ (smaL_128 _ (List.getElem_mem h3))).mp (List.getElem_mem h3)⟩
  have := atI_nat (List.getElem?_eq_getElem h3)
  rw [Int.toNat_of_nonneg h1] at this
  exact this
/-- what a law makes of pieces -/
def PcOk : Pc → Prop
  | .step s => 0 < s.length ∧ s.length ≤ 5 ∧ (∀ c ∈ s, isSg c = true) ∧ isDot s = false
  | .part h _ t => h.length ≤ 4 ∧ t.length ≤ 4 ∧ (∀ c ∈ h, isSg c = true) ∧ (∀ c ∈ t, isSg c = true) ∧ h ++ t ≠ []
  | _ => True
theorem inV_dots3 (s : Stp) : inV (sV s) [sV [], sV sStay, sV sUp] = (decide (s = []) || isDot s) := by
  have e : ∀ a : Stp, eqV (sV a) (sV s) = decide (s = a) := fun a => by
    show ((⟨a.toArray⟩ : Str) == ⟨s.toArray⟩) = decide (s = a)
    rw [Bool.eq_iff_iff, beq_iff_eq, decide_eq_true_eq, mk_inj]
    exact ⟨Eq.symm, Eq.symm⟩
  have h := inV_dot s
  unfold inV at h ⊢
  rw [List.any_cons, h, e]
theorem dot_snoc (l : List Nat) (d : Nat) (h : d ≠ 46) : isDot (l ++ [d]) = false := by
  refine isDot_false.mpr ⟨fun z => ?_, fun z => ?_⟩
  · have : (l ++ [d]).getLast? = sUp.getLast? := by rw [z]
    rw [List.getLast?_append] at this
    exact h (by simpa [sUp] using this)
  · have : (l ++ [d]).getLast? = sStay.getLast? := by rw [z]
    rw [List.getLast?_append] at this
    exact h (by simpa [sStay] using this)
theorem isAll_ones {H : Hp} : ∀ (ss : List Nat), IsAll H (ss.map fun c => st [c]) (ss.map fun c => V.str ⟨#[c]⟩)
  | [] => .nil
  | c :: ss => .cons (.str _) (isAll_ones ss)
theorem layL {n : Nat} {ds : List PyData} (h : ∀ d ∈ ds, LayAt n d) : LayAt (n + 1) (.list ds) := by
  obtain ⟨h1, h2⟩ := layAll h
  exact ⟨by simp only [PyData.canLay0, h1], by simp only [PyData.depth]; omega⟩
theorem shaped_chs {ss : List Nat} (h : ∀ c ∈ ss, isSg c = true) : SeqAt.shaped (.list (ss.map fun c => st [c])) = true := by
  refine LayAt.shaped (n := 1) (layL (n := 0) fun d hd => ?_) (by decide)
  obtain ⟨c, hc, rfl⟩ := List.mem_map.mp hd
  exact .st fun e he => by rw [List.mem_singleton.mp he]; exact h c hc
theorem filt_fig (l : List Nat) : (l.filter fun c => !decide (c ∈ fgS)).isEmpty = l.all isFig := by
  rw [← all_fig]
  induction l with
  | nil => rfl
  | cons c l ih =>
    rw [List.filter_cons, List.all_cons]
    by_cases h : c ∈ fgS
    · rw [decide_eq_true h]; simpa using ih
    · rw [decide_eq_false h]; rfl
theorem filt_sma (l : List Nat) : (l.filter fun c => !decide (c ∈ smaL)).isEmpty = l.all isSma := by
  rw [all_sma]
  induction l with
  | nil => rfl
  | cons c l ih =>
    rw [List.filter_cons, List.all_cons]
    by_cases h : c ∈ smaL
    · rw [decide_eq_true h]; simpa using ih
    · rw [decide_eq_false h]; rfl
theorem a_one : MulOk (⟨#[97]⟩ : Str) 1 ∧ PySem.Txt.mul (⟨#[97]⟩ : PySem.Str) 1 = ⟨[97].toArray⟩ :=
  ⟨⟨by decide, fun _ _ => by decide +kernel, fun _ _ => by decide +kernel⟩, by decide +kernel⟩
theorem a_zero : MulOk (⟨#[97]⟩ : Str) 0 ∧ PySem.Txt.mul (⟨#[97]⟩ : PySem.Str) 0 = ⟨([] : List Nat).toArray⟩ :=
  ⟨⟨by decide, fun a b => by exfalso; revert a b; decide +kernel, fun a b => by exfalso; revert a b; decide +kernel⟩, by decide +kernel⟩
theorem sum_ones (l : List Nat) : (l.map ((fun x : Str => x.length) ∘ fun c => (⟨#[c]⟩ : Str))).sum = l.length := by
  induction l with
  | nil => rfl
  | cons c l ih => simp only [List.map_cons, List.sum_cons, ih, List.length_cons]; show 1 + l.length = _; omega
theorem join_ones (l : List Nat) : Txt.join (⟨#[]⟩ : Str) (l.map fun c => (⟨#[c]⟩ : Str)) = ⟨l.toArray⟩ := by
  rw [show (⟨#[]⟩ : Str) = ⟨([] : List Nat).toArray⟩ from rfl, join_one]
  congr 2
  induction l with
  | nil => rfl
  | cons c l ih => simp only [List.map_cons, List.flatMap_cons, ih]; rfl
theorem slice_sub (l : List Nat) (lo hi : Option Int) : ∃ l' : List Nat, Txt.slice (⟨l.toArray⟩ : Str) lo hi = ⟨l'.toArray⟩ ∧ l'.length ≤ l.length ∧ ∀ c ∈ l', c ∈ l := by
  refine ⟨_, slice_gen l lo hi, ?_, fun c hc => List.mem_of_mem_drop (List.mem_of_mem_take hc)⟩
  rw [List.length_take, List.length_drop]
  omega
theorem spread_one (c : Pc) : spreadM [c] 1 = some [c] := by
  unfold spreadM
  by_cases h : hasRest [c] = true ∧ [c].length ≤ 1
  · rw [if_pos h]; rfl
  · rw [if_neg h, if_pos (show 1 = [c].length from rfl)]
theorem fitsP_one (c : Pc) (s : List Nat) (e : Bool) : fitsP [c] e true [s] e = fitsM c s := by
  unfold fitsP
  rw [show [s].length = 1 from rfl, spread_one]
  simp
def vlD : Vl → PyData
  | .txt l => st l
  | .int i => .int i
  | .lst ls => .list (ls.map st)
theorem isAll_tV {H : Hp} : ∀ (ls : List (List Nat)), IsAll H (ls.map st) (ls.map tV)
  | [] => .nil
  | l :: ls => .cons (.str _) (isAll_tV ls)
theorem VlV.is {H : Hp} : ∀ {x : Vl} {v : V}, VlV H x v → Is H (vlD x) v
  | .txt l, _, h => by cases h; exact .str _
  | .int i, _, h => by cases h; exact .int _
  | .lst ls, _, ⟨p, e, h⟩ => by cases e; exact .lst h (isAll_tV ls)
theorem layVl {c : Pc} {s : List Nat} (hs : ∀ x ∈ s, isSg x = true) : LayAt 1 (vlD (valM c [s])) := by
  have ha : ∀ h t : List Nat, LayAt 1 (st (amid h t s)) := fun h t => (LayAt.st fun x hx => hs x (List.mem_of_mem_drop (List.mem_of_mem_take hx))).le (by decide)
  cases c with
  | rest n =>
    refine layL (n := 0) fun d hd => ?_
    obtain ⟨l, hl, rfl⟩ := List.mem_map.mp hd
    rw [List.mem_singleton.mp hl]
    exact .st hs
  | num n => exact ⟨rfl, Nat.zero_le _⟩
  | step w => exact ha _ _
  | part h n t => exact ha _ _
  | word n => exact ha _ _
  | gap n => exact ha _ _
theorem layPair {n : List Nat} {d : PyData} (hn : ∀ x ∈ n, isSg x = true) (hd : LayAt 1 d) : LayAt 3 (.list [.tuple [st n, d]]) :=
  layL (n := 2) fun e he => by
    rw [List.mem_singleton.mp he]
    refine .tup (n := 1) fun f hf => ?_
    simp only [List.mem_cons, List.not_mem_nil, or_false] at hf
    rcases hf with rfl | rfl
    · exact (LayAt.st hn).le (by decide)
    · exact hd
theorem vl_bool {H : Hp} {x : Vl} {v : V} (h : VlV H x v) : ∃ k, kindV v H = some k ∧ subT k "bool" = false := by
  cases x with
  | txt l => cases h; exact ⟨"str", rfl, by decide⟩
  | int i => cases h; exact ⟨"int", rfl, by decide⟩
  | lst ls =>
    obtain ⟨p, rfl, hp⟩ := h
    exact ⟨"list", L2.kind_lst hp, by decide⟩
theorem bnd_step {H : Hp} {l : Addr} {c : Pc} {s : List Nat} {ys : List V} (h : BndV H l (boundM [c] [s]) ys) (hc : c.isStep = true) : ys = [] := by
  unfold boundM at h
  rw [hc, if_pos rfl] at h
  cases h
  rfl
theorem bnd_gap {H : Hp} {l : Addr} {c : Pc} {s : List Nat} {ys : List V} (h : BndV H l (boundM [c] [s]) ys) (hc : c.isStep = false) : ∃ (p : Addr) (v : V), ys = [.ref p] ∧ H p = some (.tup [tV c.name, v]) ∧ VlV H (valM c [s]) v := by
  unfold boundM at h
  rw [hc, if_neg (by decide)] at h
  cases h with
  | cons a b _ r =>
    cases r
    exact ⟨_, _, rfl, a, b⟩
theorem sma_sg {l : List Nat} (h : l.all isSma = true) : ∀ c ∈ l, isSg c = true := fun c hc => by
  have := List.all_eq_true.mp h c hc
  simp only [isSma, decide_eq_true_eq] at this
  simp only [isSg, Bool.and_eq_true, decide_eq_true_eq, Bool.not_eq_true', decide_eq_false_iff_not]
  omega
end Wm
namespace Wm
open PySem L2
def top (i : Nat) : Stmt := PySem.Challenge.pw_waymark_k53_steps_and_single_pieces.main.body.getD i (.Pass ⟨0, 0, 0, 0⟩)
abbrev s_made_of : Stmt := top 3
abbrev s_is_dot : Stmt := top 10
abbrev s_is_gap : Stmt := top 14
abbrev s_name_of : Stmt := top 15
abbrev s_head_of : Stmt := top 16
abbrev s_tail_of : Stmt := top 17
abbrev s_has_rest : Stmt := top 18
abbrev s__law_cell_at : Stmt := top 31
abbrev s__law_names : Stmt := top 32
abbrev s__law_signs : Stmt := top 33
abbrev s__law_is_figures : Stmt := top 39
abbrev s_spread : Stmt := top 24
abbrev s_fits_part : Stmt := top 26
abbrev s_is_number : Stmt := top 27
abbrev s_is_word : Stmt := top 28
abbrev s_bound_value : Stmt := top 29
abbrev s__law_text : Stmt := top 34
abbrev s__law_value : Stmt := top 40
abbrev s_step_fits : Stmt := top 25
abbrev s__law_step : Stmt := top 35
abbrev s_fits : Stmt := top 23
abbrev s__law_piece : Stmt := top 36
abbrev s__law_near : Stmt := top 38
abbrev s_bound : Stmt := top 22
abbrev s__law_right : Stmt := top 41
abbrev s_law : Stmt := top 42
abbrev k_SMALL_LETTERS : V := .str (Str.ofString "abcdefghijklmnopqrstuvwxyz")
abbrev k_FIGURES : V := .str (Str.ofString "0123456789")
abbrev k_ROOTED : V := .int 0
abbrev k_STEPS : V := .int 1
abbrev k_ENDS : V := .int 2
abbrev k_STAY : V := .str (Str.ofString ".")
abbrev k_UP : V := .str (Str.ofString "..")
abbrev k_PIECES : V := .int 0
abbrev k_CLOSES : V := .int 1
abbrev k_LONGEST_NUMBER : V := .int 60
abbrev k_LONGEST_WORD : V := .int 60
set_option genInjectivity false
set_option genSizeOf false
set_option genSizeOfSpec false
structure G (K : PySem.W.Frag) (mg : Str → Option Value) where
  a_made_of : Addr
  fd_made_of : FuncData
  F_made_of : Fun K "made_of" "made_of" s_made_of a_made_of fd_made_of
  m_made_of : mg "made_of" = some (.ref a_made_of)
  b_made_of : Binds K fd_made_of ["text", "signs"] []
  a_is_dot : Addr
  fd_is_dot : FuncData
  F_is_dot : Fun K "is_dot" "is_dot" s_is_dot a_is_dot fd_is_dot
  m_is_dot : mg "is_dot" = some (.ref a_is_dot)
  b_is_dot : Binds K fd_is_dot ["step"] []
  a_is_gap : Addr
  fd_is_gap : FuncData
  F_is_gap : Fun K "is_gap" "is_gap" s_is_gap a_is_gap fd_is_gap
  m_is_gap : mg "is_gap" = some (.ref a_is_gap)
  b_is_gap : Binds K fd_is_gap ["piece"] []
  a_name_of : Addr
  fd_name_of : FuncData
  F_name_of : Fun K "name_of" "name_of" s_name_of a_name_of fd_name_of
  m_name_of : mg "name_of" = some (.ref a_name_of)
  b_name_of : Binds K fd_name_of ["gap"] []
  a_head_of : Addr
  fd_head_of : FuncData
  F_head_of : Fun K "head_of" "head_of" s_head_of a_head_of fd_head_of
  m_head_of : mg "head_of" = some (.ref a_head_of)
  b_head_of : Binds K fd_head_of ["piece"] []
  a_tail_of : Addr
  fd_tail_of : FuncData
  F_tail_of : Fun K "tail_of" "tail_of" s_tail_of a_tail_of fd_tail_of
  m_tail_of : mg "tail_of" = some (.ref a_tail_of)
  b_tail_of : Binds K fd_tail_of ["piece"] []
  a_has_rest : Addr
  fd_has_rest : FuncData
  F_has_rest : Fun K "has_rest" "has_rest" s_has_rest a_has_rest fd_has_rest
  m_has_rest : mg "has_rest" = some (.ref a_has_rest)
  b_has_rest : Binds K fd_has_rest ["pattern"] []
  a__law_cell_at : Addr
  fd__law_cell_at : FuncData
  F__law_cell_at : Fun K "_law_cell_at" "_law_cell_at" s__law_cell_at a__law_cell_at fd__law_cell_at
  m__law_cell_at : mg "_law_cell_at" = some (.ref a__law_cell_at)
  b__law_cell_at : Binds K fd__law_cell_at ["_law_script", "_law_k"] []
  a__law_names : Addr
  fd__law_names : FuncData
  F__law_names : Fun K "_law_names" "_law_names" s__law_names a__law_names fd__law_names
  m__law_names : mg "_law_names" = some (.ref a__law_names)
  b__law_names : Binds K fd__law_names ["_law_cell", "_law_many"] []
  a__law_signs : Addr
  fd__law_signs : FuncData
  F__law_signs : Fun K "_law_signs" "_law_signs" s__law_signs a__law_signs fd__law_signs
  m__law_signs : mg "_law_signs" = some (.ref a__law_signs)
  b__law_signs : Binds K fd__law_signs [] []
  a__law_is_figures : Addr
  fd__law_is_figures : FuncData
  F__law_is_figures : Fun K "_law_is_figures" "_law_is_figures" s__law_is_figures a__law_is_figures fd__law_is_figures
  m__law_is_figures : mg "_law_is_figures" = some (.ref a__law_is_figures)
  b__law_is_figures : Binds K fd__law_is_figures ["_law_step_here"] []
  a_spread : Addr
  fd_spread : FuncData
  F_spread : Fun K "spread" "spread" s_spread a_spread fd_spread
  m_spread : mg "spread" = some (.ref a_spread)
  b_spread : Binds K fd_spread ["pattern", "count"] []
  a_fits_part : Addr
  fd_fits_part : FuncData
  F_fits_part : Fun K "fits_part" "fits_part" s_fits_part a_fits_part fd_fits_part
  m_fits_part : mg "fits_part" = some (.ref a_fits_part)
  b_fits_part : Binds K fd_fits_part ["part", "step"] []
  a_is_number : Addr
  fd_is_number : FuncData
  F_is_number : Fun K "is_number" "is_number" s_is_number a_is_number fd_is_number
  m_is_number : mg "is_number" = some (.ref a_is_number)
  b_is_number : Binds K fd_is_number ["text"] []
  a_is_word : Addr
  fd_is_word : FuncData
  F_is_word : Fun K "is_word" "is_word" s_is_word a_is_word fd_is_word
  m_is_word : mg "is_word" = some (.ref a_is_word)
  b_is_word : Binds K fd_is_word ["text"] []
  a_bound_value : Addr
  fd_bound_value : FuncData
  F_bound_value : Fun K "bound_value" "bound_value" s_bound_value a_bound_value fd_bound_value
  m_bound_value : mg "bound_value" = some (.ref a_bound_value)
  b_bound_value : Binds K fd_bound_value ["gap", "steps"] []
  a__law_text : Addr
  fd__law_text : FuncData
  F__law_text : Fun K "_law_text" "_law_text" s__law_text a__law_text fd__law_text
  m__law_text : mg "_law_text" = some (.ref a__law_text)
  b__law_text : Binds K fd__law_text ["_law_cell"] []
  a__law_value : Addr
  fd__law_value : FuncData
  F__law_value : Fun K "_law_value" "_law_value" s__law_value a__law_value fd__law_value
  m__law_value : mg "_law_value" = some (.ref a__law_value)
  b__law_value : Binds K fd__law_value ["_law_piece_here", "_law_step_here"] []
  a_step_fits : Addr
  fd_step_fits : FuncData
  F_step_fits : Fun K "step_fits" "step_fits" s_step_fits a_step_fits fd_step_fits
  m_step_fits : mg "step_fits" = some (.ref a_step_fits)
  b_step_fits : Binds K fd_step_fits ["piece", "step"] []
  a__law_step : Addr
  fd__law_step : FuncData
  F__law_step : Fun K "_law_step" "_law_step" s__law_step a__law_step fd__law_step
  m__law_step : mg "_law_step" = some (.ref a__law_step)
  b__law_step : Binds K fd__law_step ["_law_cell"] []
  a_fits : Addr
  fd_fits : FuncData
  F_fits : Fun K "fits" "fits" s_fits a_fits fd_fits
  m_fits : mg "fits" = some (.ref a_fits)
  b_fits : Binds K fd_fits ["pattern", "way"] []
  a__law_piece : Addr
  fd__law_piece : FuncData
  F__law_piece : Fun K "_law_piece" "_law_piece" s__law_piece a__law_piece fd__law_piece
  m__law_piece : mg "_law_piece" = some (.ref a__law_piece)
  b__law_piece : Binds K fd__law_piece ["_law_cell", "_law_name"] []
  a__law_near : Addr
  fd__law_near : FuncData
  F__law_near : Fun K "_law_near" "_law_near" s__law_near a__law_near fd__law_near
  m__law_near : mg "_law_near" = some (.ref a__law_near)
  b__law_near : Binds K fd__law_near ["_law_piece_here", "_law_cell"] []
  a_bound : Addr
  fd_bound : FuncData
  F_bound : Fun K "bound" "bound" s_bound a_bound fd_bound
  m_bound : mg "bound" = some (.ref a_bound)
  b_bound : Binds K fd_bound ["pattern", "way"] []
  a__law_right : Addr
  fd__law_right : FuncData
  F__law_right : Fun K "_law_right" "_law_right" s__law_right a__law_right fd__law_right
  m__law_right : mg "_law_right" = some (.ref a__law_right)
  b__law_right : Binds K fd__law_right ["_law_piece_here", "_law_name", "_law_step_here", "_law_ends"] []
  a_law : Addr
  fd_law : FuncData
  F_law : Fun K "law" "law" s_law a_law fd_law
  m_law : mg "law" = some (.ref a_law)
  b_law : Binds K fd_law ["_law_script"] []
  t_SMALL_LETTERS : Tok
  c_SMALL_LETTERS : mg "SMALL_LETTERS" = some (.str (Str.ofString "abcdefghijklmnopqrstuvwxyz") t_SMALL_LETTERS)
  t_FIGURES : Tok
  c_FIGURES : mg "FIGURES" = some (.str (Str.ofString "0123456789") t_FIGURES)
  t_ROOTED : Tok
  c_ROOTED : mg "ROOTED" = some (.int 0 t_ROOTED)
  t_STEPS : Tok
  c_STEPS : mg "STEPS" = some (.int 1 t_STEPS)
  t_ENDS : Tok
  c_ENDS : mg "ENDS" = some (.int 2 t_ENDS)
  t_STAY : Tok
  c_STAY : mg "STAY" = some (.str (Str.ofString ".") t_STAY)
  t_UP : Tok
  c_UP : mg "UP" = some (.str (Str.ofString "..") t_UP)
  t_PIECES : Tok
  c_PIECES : mg "PIECES" = some (.int 0 t_PIECES)
  t_CLOSES : Tok
  c_CLOSES : mg "CLOSES" = some (.int 1 t_CLOSES)
  t_LONGEST_NUMBER : Tok
  c_LONGEST_NUMBER : mg "LONGEST_NUMBER" = some (.int 60 t_LONGEST_NUMBER)
  t_LONGEST_WORD : Tok
  c_LONGEST_WORD : mg "LONGEST_WORD" = some (.int 60 t_LONGEST_WORD)
  b_all : mg "all" = none
  b_len : mg "len" = none
  b_range : mg "range" = none
  b_int : mg "int" = none
  b_list : mg "list" = none
  b_zip : mg "zip" = none
  b_enumerate : mg "enumerate" = none
  b_isinstance : mg "isinstance" = none
  b_bool : mg "bool" = none
  b_tuple : mg "tuple" = none
/-! ### what each def promises -/
def sp_made_of : Sp := fun vs H Q _ => ∃ x y : Str, vs = [.str x, .str y] ∧ x.length ≤ 100000 ∧ ∀ H', Same H H' → Q (.bl (x.cps.toList.all fun c => decide (c ∈ y.cps.toList))) H'
def sp_is_dot : Sp := fun vs H Q _ => ∃ s : Stp, vs = [sV s] ∧ Q (.bl (isDot s)) H
def sp_is_gap (K : PySem.W.Frag) : Sp := fun vs H Q _ => ∃ (c : Pc) (p : Addr), vs = [.ref p] ∧ SqT K H p c.vals ∧ Q (.bl (!c.isStep)) H
def sp_name_of (K : PySem.W.Frag) : Sp := fun vs H Q _ => ∃ (c : Pc) (p : Addr), vs = [.ref p] ∧ SqT K H p c.vals ∧ c.isStep = false ∧ Q (tV c.name) H
def sp_head_of (K : PySem.W.Frag) : Sp := fun vs H Q _ => ∃ (c : Pc) (p : Addr), vs = [.ref p] ∧ SqT K H p c.vals ∧ Q (tV c.head) H
def sp_tail_of (K : PySem.W.Frag) : Sp := fun vs H Q _ => ∃ (c : Pc) (p : Addr), vs = [.ref p] ∧ SqT K H p c.vals ∧ Q (tV c.tail) H
def sp_has_rest (K : PySem.W.Frag) : Sp := fun vs H Q _ => ∃ (cs : List Pc) (xs : List V) (p q : Addr) (e : Bool), vs = [.ref p] ∧ SqT K H p [.ref q, .bl e] ∧ SqT K H q xs ∧ PcAll K H cs xs ∧ cs.length ≤ 1000 ∧ Q (.bl (hasRest cs)) H
def sp__law_cell_at (K : PySem.W.Frag) : Sp := fun vs H Q _ => ∃ (a : Addr) (ns : List Int) (k : Nat), vs = [.ref a, .int (k : Int)] ∧ SqL K H a (ns.map V.int) ∧ Q (.int (ns.getD k 0)) H
def sp__law_names (K : PySem.W.Frag) : Sp := fun vs H Q _ => ∃ (c : Int) (m : Nat), vs = [.int c, .int (m : Int)] ∧ m ≤ 100 ∧ ∀ (ns : List (List Nat)) (p : Addr) (H' : Hp), ns.length = m → (∀ n ∈ ns, 0 < n.length ∧ n.length ≤ 8 ∧ n.all isSma = true) → Same H H' → H' p = some (.lst (ns.map tV)) → Q (.ref p) H'
def sp__law_signs : Sp := fun vs H Q _ => vs = [] ∧ Q (.str ⟨SG.toArray⟩) H
def sp__law_is_figures (K : PySem.W.Frag) : Sp := fun vs H Q _ => ∃ (l : List Nat), vs = [tV l] ∧ 0 < l.length ∧ l.length ≤ 1000 ∧ (∀ c ∈ l, isSg c = true) ∧ ∀ H', Same H H' → Q (.bl (numB l)) H'
def sp_spread (K : PySem.W.Frag) : Sp := fun vs H Q _ => ∃ (cs : List Pc) (xs : List V) (p q : Addr) (e : Bool) (n : Nat), vs = [.ref p, .int (n : Int)] ∧ SqT K H p [.ref q, .bl e] ∧ H q = some (.tup xs) ∧ PcAll K H cs xs ∧ cs.length ≤ 100 ∧ n ≤ 500 ∧ (spreadM cs n = none → Q .non H) ∧ ∀ (ds : List Pc) (ys : List V) (r : Addr) (H' : Hp), spreadM cs n = some ds → Same H H' → SqT K H' r ys → PcAll K H' ds ys → Q (.ref r) H'
def sp_fits_part (K : PySem.W.Frag) : Sp := fun vs H Q _ => ∃ (h n t s : List Nat) (p : Addr), vs = [.ref p, tV s] ∧ SqT K H p (Pc.part h n t).vals ∧ s.length ≤ 100000 ∧ h.length ≤ 100000 ∧ t.length ≤ 100000 ∧ Q (.bl (partB h t s)) H
def sp_is_number : Sp := fun vs H Q _ => ∃ (l : List Nat), vs = [tV l] ∧ l.length ≤ 100000 ∧ ∀ H', Same H H' → Q (.bl (numB l)) H'
def sp_is_word : Sp := fun vs H Q _ => ∃ (l : List Nat), vs = [tV l] ∧ l.length ≤ 100000 ∧ ∀ H', Same H H' → Q (.bl (wordB l)) H'
def sp_bound_value (K : PySem.W.Frag) : Sp := fun vs H Q _ => ∃ (c : Pc) (s : List Nat) (ss : List (List Nat)) (p q : Addr), vs = [.ref p, .ref q] ∧ SqT K H p c.vals ∧ H q = some (.tup ((s :: ss).map tV)) ∧ fitsM c s = true ∧ s.length ≤ 100000 ∧ c.head.length ≤ 100000 ∧ c.tail.length ≤ 100000 ∧ ss.length ≤ 1000 ∧ ∀ v H', Same H H' → VlV H' (valM c (s :: ss)) v → (∀ q, v = .ref q → H q = none) → Q v H'
def sp__law_text (K : PySem.W.Frag) : Sp := fun vs H Q _ => ∃ c : Int, vs = [.int c] ∧ ∀ (l : List Nat) (H' : Hp), l.length ≤ 4 → (∀ c ∈ l, isSg c = true) → Same H H' → Q (tV l) H'
def sp__law_value (K : PySem.W.Frag) : Sp := fun vs H Q _ => ∃ (pc : Pc) (p : Addr) (s : List Nat), vs = [.ref p, tV s] ∧ H p = some (.tup pc.vals) ∧ PcOk pc ∧ 0 < s.length ∧ s.length ≤ 1000 ∧ (∀ c ∈ s, isSg c = true) ∧ (fitsM pc s = false → ∀ H', Same H H' → Q .non H') ∧ (fitsM pc s = true → ∀ (q : Addr) (v : V) (H' : Hp), Same H H' → H' q = some (.lst [v]) → (pc.isStep = false → VlV H' (valM pc [s]) v) → Q (.ref q) H')
def sp_step_fits (K : PySem.W.Frag) : Sp := fun vs H Q _ => ∃ (c : Pc) (s : List Nat) (p : Addr), vs = [.ref p, tV s] ∧ SqT K H p c.vals ∧ s.length ≤ 100000 ∧ c.head.length ≤ 100000 ∧ c.tail.length ≤ 100000 ∧ ∀ H', Same H H' → Q (.bl (fitsM c s)) H'
def sp__law_step (K : PySem.W.Frag) : Sp := fun vs H Q _ => ∃ c : Int, vs = [.int c] ∧ ∀ (l : List Nat) (H' : Hp), 0 < l.length → l.length ≤ 5 → (∀ c ∈ l, isSg c = true) → isDot l = false → Same H H' → Q (tV l) H'
def sp_fits (K : PySem.W.Frag) : Sp := fun vs H Q _ => ∃ (cs : List Pc) (xs : List V) (p q pw ps : Addr) (cl r e : Bool) (ss : List (List Nat)), vs = [.ref p, .ref pw] ∧ SqT K H p [.ref q, .bl cl] ∧ H q = some (.tup xs) ∧ PcAll K H cs xs ∧ cs.length ≤ 100 ∧ PcSz cs ∧ SqT K H pw [.bl r, .ref ps, .bl e] ∧ SqT K H ps (ss.map tV) ∧ ss.length ≤ 500 ∧ (∀ s ∈ ss, s.length ≤ 100000) ∧ ∀ H', Same H H' → Q (.bl (fitsP cs cl r ss e)) H'
def sp__law_piece (K : PySem.W.Frag) : Sp := fun vs H Q _ => ∃ (c : Int) (n : List Nat), vs = [.int c, tV n] ∧ ∀ (pc : Pc) (p : Addr) (H' : Hp), PcOk pc → pc.isRest = false → (pc.isStep = false → pc.name = n) → Same H H' → H' p = some (.tup pc.vals) → Q (.ref p) H'
def sp__law_near (K : PySem.W.Frag) : Sp := fun vs H Q _ => ∃ (pc : Pc) (p : Addr) (c : Int), vs = [.ref p, .int c] ∧ H p = some (.tup pc.vals) ∧ PcOk pc ∧ ∀ (l : List Nat) (H' : Hp), 0 < l.length → l.length ≤ 70 → (∀ c ∈ l, isSg c = true) → Same H H' → Q (tV l) H'
def sp_bound (K : PySem.W.Frag) : Sp := fun vs H Q _ => ∃ (cs : List Pc) (xs : List V) (p q pw ps : Addr) (cl r e : Bool) (ss : List (List Nat)), vs = [.ref p, .ref pw] ∧ SqT K H p [.ref q, .bl cl] ∧ H q = some (.tup xs) ∧ PcAll K H cs xs ∧ cs.length ≤ 100 ∧ PcSz cs ∧ SqT K H pw [.bl r, .ref ps, .bl e] ∧ H ps = some (.tup (ss.map tV)) ∧ ss.length ≤ 500 ∧ (∀ s ∈ ss, s.length ≤ 100000) ∧
  (fitsP cs cl r ss e = false → ∀ H', Same H H' → Q .non H') ∧ (fitsP cs cl r ss e = true → ∀ (l : Addr) (ys : List V) (H' : Hp), Same H H' → H' l = some (.lst ys) → BndV H' l (boundM cs ss) ys → Q (.ref l) H')
def sp__law_right (K : PySem.W.Frag) : Sp := fun vs H Q _ => ∃ (pc : Pc) (p : Addr) (n s : List Nat) (e : Bool), vs = [.ref p, tV n, tV s, .bl e] ∧ H p = some (.tup pc.vals) ∧ PcOk pc ∧ (pc.isStep = false → pc.name = n) ∧ (∀ c ∈ n, isSg c = true) ∧ 0 < s.length ∧ s.length ≤ 1000 ∧ (∀ c ∈ s, isSg c = true) ∧ ∀ H', Same H H' → Q (.bl true) H'
def sp_law (K : PySem.W.Frag) : Sp := fun vs H Q _ => ∃ (a : Addr) (ns : List Int), vs = [.ref a] ∧ SqL K H a (ns.map V.int) ∧ ns.length ≤ 63 ∧ ∀ H', Q (.bl true) H'
section
variable {H : Hp} {Q : VK} {E : XK} {K : PySem.W.Frag}
theorem c_signs : sp__law_signs [] H Q E ↔ Q (.str ⟨SG.toArray⟩) H := ⟨fun h => h.2, fun h => ⟨rfl, h⟩⟩
end
section
variable {P : Program} {w : World} {K : PySem.W.Frag} {mg : Str → Option Value} {base : Heap}
seal PE PA PT PS PSs PG PI PF PO PW
local macro_rules | `(tactic| walk_at "rd") => `(tactic| simp only [L2.start, List.map_cons, List.map_nil, List.length_cons, List.length_nil, Nat.reduceAdd, Nat.reduceSub, Nat.zero_add, List.replicate_succ, List.replicate_zero, L2.rd_var, L2.rd_C, L2.rd_seq, L2.rd_cut, L2.rd_later, L2.rd_asg, L2.rd_name, L2.rd_ifS, L2.rd_next, L2.rd_brk, L2.rd_ret, L2.rd_drop, L2.rd_op, L2.rd_test, L2.rd_B, L2.rd_and, L2.rd_or, L2.rd_not, L2.rd_andV, L2.rd_orV, L2.rd_notV, L2.rd_if, L2.rd_chain, L2.rd_nil, L2.rd_cons, L2.rd_lst, L2.rd_tup, L2.rd_tupS, L2.rd_lstS, L2.adS_int, L2.adS_str, L2.liS_ref, L2.tuS_ref, L2.slS_ref, L2.slLS_ref, L2.rd_call, L2.rd_cb, L2.rd_bm, L2.rd_bm0, L2.rd_sl, L2.rd_noPart, L2.rd_part, L2.rd_tyStr, L2.rd_I, L2.rd_I0, L2.rd_eqII, L2.rd_eqSS, L2.rd_eqBB, L2.rd_neII, L2.rd_neSS, L2.rd_neBB, L2.rd_neNN, L2.rd_neSN, L2.rd_neNSx, L2.rd_eqNN, L2.rd_eqSN, L2.rd_eqNSx, L2.rd_ixS, L2.rd_slS, L2.rd_slL, L2.rd_ixR, L2.ad_ref, L2.isi_any, L2.kind_non, L2.kind_bl, L2.kind_int, L2.kind_str, L2.memT_bool, L2.memT_int, L2.memT_str, L2.memT_list, L2.memT_tuple, L2.sub_NoneType_bool, L2.sub_NoneType_int, L2.sub_NoneType_str, L2.sub_NoneType_list, L2.sub_NoneType_tuple, L2.sub_bool_bool, L2.sub_bool_int, L2.sub_bool_str, L2.sub_bool_list, L2.sub_bool_tuple, L2.sub_int_bool, L2.sub_int_int, L2.sub_int_str, L2.sub_int_list, L2.sub_int_tuple, L2.sub_str_bool, L2.sub_str_int, L2.sub_str_str, L2.sub_str_list, L2.sub_str_tuple, L2.sub_list_bool, L2.sub_list_int, L2.sub_list_str, L2.sub_list_list, L2.sub_list_tuple, L2.sub_tuple_bool, L2.sub_tuple_int, L2.sub_tuple_str, L2.sub_tuple_list, L2.sub_tuple_tuple, L2.rd_gTup, L2.rd_gSub, L2.rd_gCons, L2.rd_gNil, L2.set_ref, L2.cx_K, L2.ad_int, L2.ad_str, L2.mu_int, L2.mu_str, L2.le_str, L2.le_ref, L2.or_one, L2.in_bl, L2.in_one, L2.notin_one, L2.isN_f, L2.isB_f, L2.isN_t, L2.rd_compS, L2.rd_compL, L2.frV_nil, L2.frV_cons, Option.getD_some, L2.jo_ref, L2.rd_un, L2.rd_U, L2.ap_ref, L2.ty_list, L2.rd_compT, L2.rd_forT, L2.all_ref, L2.any_ref, L2.li_ref, L2.tu_ref, L2.slT_ref, L2.rd_forS, L2.rd_forL, L2.rd_forR, List.getElem?_cons_zero, List.getElem?_cons_succ, List.set_cons_zero, List.set_cons_succ, List.nil_append, List.cons_append, List.append_nil, Option.some.injEq, exists_eq_left, exists_eq_left', true_and, and_true, L2.V.bl.injEq, L2.V.int.injEq, L2.V.str.injEq, L2.V.ref.injEq, List.cons.injEq, reduceCtorEq, false_and, and_false, exists_false, false_or, or_false, decide_eq_true_eq, Bool.not_true, Bool.not_false, ↓reduceIte, if_true, if_false, not_true_eq_false, not_false_eq_true, decide_true, decide_false, Bool.false_eq_true, c_signs, L2.slTA_ref, L2.slX_ref, L2.catX_ref, L2.isiX_any, L2.rd_sl3, rv_ref, L2.po_ref, L2.rd_never, L2.isB_t, L2.rd_forV, L2.repT_ref, L2.repS_ref, L2.repN_ref, L2.rd_LR, L2.rd_comp2T, L2.fi_find, L2.pa_ref, L2.rd_raise, L2.rd_try, L2.rd_isE, L2.inS_str, L2.sw_str, L2.pt_str, L2.rd_fld, L2.rd_meth, L2.rd_make, L2.rd_sfld, L2.rd_forE, L2.rd_forZ, L2.rd_comp2Z, L2.rd_compRg, L2.st1_str, L2.en1_str, L2.rd_par, emp_eq, tilde_eq, mk_app, mk_len, mk_list, slice_1, map_arr, List.drop_succ_cons, List.drop_zero, L2.ix_index, L2.up_str, L2.lo_str, L2.an_str, Bool.not_eq_true', decide_eq_false_iff_not])
theorem sc_made_of : FnScope ["text", "signs"] ["text", "signs"] (defScope s_made_of) := ⟨rfl, rfl, rfl, by decide +kernel, rfl, by decide +kernel, by decide +kernel⟩
theorem sc_is_dot : FnScope ["step"] ["step"] (defScope s_is_dot) := ⟨rfl, rfl, rfl, by decide +kernel, rfl, by decide +kernel, by decide +kernel⟩
theorem sc_is_gap : FnScope ["piece"] ["piece"] (defScope s_is_gap) := ⟨rfl, rfl, rfl, by decide +kernel, rfl, by decide +kernel, by decide +kernel⟩
theorem sc_name_of : FnScope ["gap"] ["gap"] (defScope s_name_of) := ⟨rfl, rfl, rfl, by decide +kernel, rfl, by decide +kernel, by decide +kernel⟩
theorem sc_head_of : FnScope ["piece"] ["piece"] (defScope s_head_of) := ⟨rfl, rfl, rfl, by decide +kernel, rfl, by decide +kernel, by decide +kernel⟩
theorem sc_tail_of : FnScope ["piece"] ["piece"] (defScope s_tail_of) := ⟨rfl, rfl, rfl, by decide +kernel, rfl, by decide +kernel, by decide +kernel⟩
theorem sc_has_rest : FnScope ["pattern", "pieces"] ["pattern"] (defScope s_has_rest) := ⟨rfl, rfl, rfl, by decide +kernel, rfl, by decide +kernel, by decide +kernel⟩
theorem sc__law_cell_at : FnScope ["_law_script", "_law_k"] ["_law_script", "_law_k"] (defScope s__law_cell_at) := ⟨rfl, rfl, rfl, by decide +kernel, rfl, by decide +kernel, by decide +kernel⟩
theorem sc__law_names : FnScope ["_law_cell", "_law_many", "_law_letters", "_law_size", "_law_at", "_law_names_here", "_law_k", "_law_name", "_law_j", "_law_step_here"] ["_law_cell", "_law_many"] (defScope s__law_names) := ⟨rfl, rfl, rfl, by decide +kernel, rfl, by decide +kernel, by decide +kernel⟩
theorem sc__law_signs : FnScope ["_law_some"] [] (defScope s__law_signs) := ⟨rfl, rfl, rfl, by decide +kernel, rfl, by decide +kernel, by decide +kernel⟩
theorem sc__law_is_figures : FnScope ["_law_step_here"] ["_law_step_here"] (defScope s__law_is_figures) := ⟨rfl, rfl, rfl, by decide +kernel, rfl, by decide +kernel, by decide +kernel⟩
theorem sc_spread : FnScope ["pattern", "count", "pieces", "more"] ["pattern", "count"] (defScope s_spread) := ⟨rfl, rfl, rfl, by decide +kernel, rfl, by decide +kernel, by decide +kernel⟩
theorem sc_fits_part : FnScope ["part", "step", "head", "tail"] ["part", "step"] (defScope s_fits_part) := ⟨rfl, rfl, rfl, by decide +kernel, rfl, by decide +kernel, by decide +kernel⟩
theorem sc_is_number : FnScope ["text"] ["text"] (defScope s_is_number) := ⟨rfl, rfl, rfl, by decide +kernel, rfl, by decide +kernel, by decide +kernel⟩
theorem sc_is_word : FnScope ["text"] ["text"] (defScope s_is_word) := ⟨rfl, rfl, rfl, by decide +kernel, rfl, by decide +kernel, by decide +kernel⟩
theorem sc_bound_value : FnScope ["gap", "steps"] ["gap", "steps"] (defScope s_bound_value) := ⟨rfl, rfl, rfl, by decide +kernel, rfl, by decide +kernel, by decide +kernel⟩
theorem sc__law_text : FnScope ["_law_cell", "_law_pool", "_law_text_here", "_law_k"] ["_law_cell"] (defScope s__law_text) := ⟨rfl, rfl, rfl, by decide +kernel, rfl, by decide +kernel, by decide +kernel⟩
theorem sc__law_value : FnScope ["_law_piece_here", "_law_step_here", "_law_head", "_law_tail", "_law_far", "_law_odd"] ["_law_piece_here", "_law_step_here"] (defScope s__law_value) := ⟨rfl, rfl, rfl, by decide +kernel, rfl, by decide +kernel, by decide +kernel⟩
theorem sc_step_fits : FnScope ["piece", "step"] ["piece", "step"] (defScope s_step_fits) := ⟨rfl, rfl, rfl, by decide +kernel, rfl, by decide +kernel, by decide +kernel⟩
theorem sc__law_step : FnScope ["_law_cell", "_law_text_here"] ["_law_cell"] (defScope s__law_step) := ⟨rfl, rfl, rfl, by decide +kernel, rfl, by decide +kernel, by decide +kernel⟩
theorem sc_fits : FnScope ["pattern", "way", "steps", "pieces"] ["pattern", "way"] (defScope s_fits) := ⟨rfl, rfl, rfl, by decide +kernel, rfl, by decide +kernel, by decide +kernel⟩
theorem sc__law_piece : FnScope ["_law_cell", "_law_name", "_law_head", "_law_tail"] ["_law_cell", "_law_name"] (defScope s__law_piece) := ⟨rfl, rfl, rfl, by decide +kernel, rfl, by decide +kernel, by decide +kernel⟩
theorem sc__law_near : FnScope ["_law_piece_here", "_law_cell", "_law_way", "_law_amid", "_law_step_here", "_law_long", "_law_pool"] ["_law_piece_here", "_law_cell"] (defScope s__law_near) := ⟨rfl, rfl, rfl, by decide +kernel, rfl, by decide +kernel, by decide +kernel⟩
theorem sc_bound : FnScope ["pattern", "way", "values", "place", "piece"] ["pattern", "way"] (defScope s_bound) := ⟨rfl, rfl, rfl, by decide +kernel, rfl, by decide +kernel, by decide +kernel⟩
theorem sc__law_right : FnScope ["_law_piece_here", "_law_name", "_law_step_here", "_law_ends", "_law_value_here", "_law_found"] ["_law_piece_here", "_law_name", "_law_step_here", "_law_ends"] (defScope s__law_right) := ⟨rfl, rfl, rfl, by decide +kernel, rfl, by decide +kernel, by decide +kernel⟩
theorem sc_law : FnScope ["_law_script", "_law_name", "_law_cell", "_law_piece_here", "_law_near_here", "_law_step_here"] ["_law_script"] (defScope s_law) := ⟨rfl, rfl, rfl, by decide +kernel, rfl, by decide +kernel, by decide +kernel⟩
theorem ok_made_of (g : G K mg) : FnOk P w K mg base CX0 1 g.a_made_of g.fd_made_of ["text", "signs"] sp_made_of := by
  refine g.F_made_of.ok sc_made_of (fun vs H Q E h => ?_) (fun cdv A outer s H vs Q E hr h => ?_)
  · obtain ⟨x, y, rfl, _⟩ := h; rfl
  · obtain ⟨x, y, rfl, hx, k⟩ := h
    refine ⟨_, (pss_one (ps_ret (pe_callB (call_allK (K := K) rfl rfl) rfl g.b_all PyProof.Rows.boot_all (pa_cons (pe_comp (fx := ["signs"]) (fr := [1]) rfl rfl (by decide +kernel) rfl (by decide +kernel) rfl (by decide +kernel) rfl (.cons rfl rfl rfl rfl .nil) rfl (pi_str (pv 0)) (fun _ _ _ => pf_nil) (fun _ _ _ => (pe_cmpR op_inU (pv 0) (pv 1) (by with_unfolding_all rfl)))) pa_nil)))), ?_⟩
    walk_at "rd"
    intro p hp
    refine comp_str (z := x) (le_line hx) hp (fun c => .bl (decide (c ∈ y.cps.toList))) (fun c hc H' R hR => ?_) (fun H' sm hp' => ?_)
    · walk_at "rd"
      exact hR H' (Same.refl _)
    · refine all_ref.mpr ⟨x.cps.toList.map fun c => decide (c ∈ y.cps.toList), SqL.of (by rw [hp', List.map_map]; rfl), ?_⟩
      rw [List.all_map]
      exact k H' sm
theorem ok_is_dot (g : G K mg) : FnOk P w K mg base CX0 1 g.a_is_dot g.fd_is_dot ["step"] sp_is_dot := by
  refine g.F_is_dot.ok sc_is_dot (fun vs H Q E h => ?_) (fun cdv A outer s H vs Q E hr h => ?_)
  · obtain ⟨s, rfl, _⟩ := h; rfl
  · obtain ⟨s, rfl, k⟩ := h
    refine ⟨_, (pss_one (ps_ret (pe_or (pe_cmpR op_eq (pv 0) (pe_glob (v := k_STAY) rfl g.c_STAY ⟨_, rfl⟩) (nomark _)) (pe_one (pe_cmpR op_eq (pv 0) (pe_glob (v := k_UP) rfl g.c_UP ⟨_, rfl⟩) (nomark _)))))), ?_⟩
    have d1 : Str.ofString ".." = ⟨sUp.toArray⟩ := by decide +kernel
    have d2 : Str.ofString "." = ⟨sStay.toArray⟩ := by decide +kernel
    walk_at "rd"
    rw [d1, d2]
    simp only [mk_inj]
    by_cases h2 : s = sStay
    · rw [if_pos h2]
      rw [show isDot s = true by simp [isDot, h2]] at k
      exact k
    · rw [if_neg h2]
      rw [show isDot s = decide (s = sUp) by simp [isDot, h2]] at k
      exact k
theorem ok_is_gap (g : G K mg) : FnOk P w K mg base CX0 1 g.a_is_gap g.fd_is_gap ["piece"] (sp_is_gap K) := by
  refine g.F_is_gap.ok sc_is_gap (fun vs H Q E h => ?_) (fun cdv A outer s H vs Q E hr h => ?_)
  · obtain ⟨c, p, rfl, _⟩ := h; rfl
  · obtain ⟨c, p, rfl, hp, k⟩ := h
    refine ⟨_, (pss_one (ps_ret (pe_cmpR op_ne (pe_ix (ix_seqK (K := K) rfl) (pv 0) pe_int (fun _ _ => rfl)) pe_str (nomark _)))), ?_⟩
    walk_at "rd"
    refine ⟨_, _, .inr hp, c.at0, ?_⟩
    refine L2.rd_neSS.mpr ?_
    rw [kw_step]
    exact k
theorem ok_name_of (g : G K mg) : FnOk P w K mg base CX0 1 g.a_name_of g.fd_name_of ["gap"] (sp_name_of K) := by
  refine g.F_name_of.ok sc_name_of (fun vs H Q E h => ?_) (fun cdv A outer s H vs Q E hr h => ?_)
  · obtain ⟨c, p, rfl, _⟩ := h; rfl
  · obtain ⟨c, p, rfl, hp, hc, k⟩ := h
    refine ⟨_, (pss_one (ps_ret (pe_ifExp (pt_cmpR op_eq (pe_ix (ix_seqK (K := K) rfl) (pv 0) pe_int (fun _ _ => rfl)) pe_str (nomark _)) (pe_ix (ix_seqK (K := K) rfl) (pv 0) pe_int (fun _ _ => rfl)) (pe_ix (ix_seqK (K := K) rfl) (pv 0) pe_int (fun _ _ => rfl))))), ?_⟩
    walk_at "rd"
    refine ⟨_, _, .inr hp, c.at0, ?_⟩
    refine L2.rd_eqSS.mpr ⟨_, rfl, ?_⟩
    rw [kw_part]
    cases c with
    | step s => cases hc
    | part h n t => exact ite2 (fun _ => ⟨_, _, .inr hp, atI_nat (j := 2) rfl, k⟩) (fun z => absurd rfl z)
    | num n => exact ite2 (fun z => by cases z) (fun _ => ⟨_, _, .inr hp, atI_nat (j := 1) rfl, k⟩)
    | word n => exact ite2 (fun z => by cases z) (fun _ => ⟨_, _, .inr hp, atI_nat (j := 1) rfl, k⟩)
    | gap n => exact ite2 (fun z => by cases z) (fun _ => ⟨_, _, .inr hp, atI_nat (j := 1) rfl, k⟩)
    | rest n => exact ite2 (fun z => by cases z) (fun _ => ⟨_, _, .inr hp, atI_nat (j := 1) rfl, k⟩)
theorem ok_head_of (g : G K mg) : FnOk P w K mg base CX0 1 g.a_head_of g.fd_head_of ["piece"] (sp_head_of K) := by
  refine g.F_head_of.ok sc_head_of (fun vs H Q E h => ?_) (fun cdv A outer s H vs Q E hr h => ?_)
  · obtain ⟨c, p, rfl, _⟩ := h; rfl
  · obtain ⟨c, p, rfl, hp, k⟩ := h
    refine ⟨_, (pss_one (ps_ret (pe_ifExp (pt_cmpR op_eq (pe_ix (ix_seqK (K := K) rfl) (pv 0) pe_int (fun _ _ => rfl)) pe_str (nomark _)) (pe_ix (ix_seqK (K := K) rfl) (pv 0) pe_int (fun _ _ => rfl)) pe_str))), ?_⟩
    walk_at "rd"
    refine ⟨_, _, .inr hp, c.at0, ?_⟩
    refine L2.rd_eqSS.mpr ⟨_, rfl, ?_⟩
    rw [kw_part]
    cases c with
    | part h n t => exact ite2 (fun _ => ⟨_, _, .inr hp, atI_nat (j := 1) rfl, k⟩) (fun z => absurd rfl z)
    | _ => exact ite2 (fun z => by cases z) (fun _ => k)
theorem ok_tail_of (g : G K mg) : FnOk P w K mg base CX0 1 g.a_tail_of g.fd_tail_of ["piece"] (sp_tail_of K) := by
  refine g.F_tail_of.ok sc_tail_of (fun vs H Q E h => ?_) (fun cdv A outer s H vs Q E hr h => ?_)
  · obtain ⟨c, p, rfl, _⟩ := h; rfl
  · obtain ⟨c, p, rfl, hp, k⟩ := h
    refine ⟨_, (pss_one (ps_ret (pe_ifExp (pt_cmpR op_eq (pe_ix (ix_seqK (K := K) rfl) (pv 0) pe_int (fun _ _ => rfl)) pe_str (nomark _)) (pe_ix (ix_seqK (K := K) rfl) (pv 0) pe_int (fun _ _ => rfl)) pe_str))), ?_⟩
    walk_at "rd"
    refine ⟨_, _, .inr hp, c.at0, ?_⟩
    refine L2.rd_eqSS.mpr ⟨_, rfl, ?_⟩
    rw [kw_part]
    cases c with
    | part h n t => exact ite2 (fun _ => ⟨_, _, .inr hp, atI_nat (j := 3) rfl, k⟩) (fun z => absurd rfl z)
    | _ => exact ite2 (fun z => by cases z) (fun _ => k)
theorem ok_has_rest (g : G K mg) : FnOk P w K mg base CX0 1 g.a_has_rest g.fd_has_rest ["pattern"] (sp_has_rest K) := by
  refine g.F_has_rest.ok sc_has_rest (fun vs H Q E h => ?_) (fun cdv A outer s H vs Q E hr h => ?_)
  · obtain ⟨cs, xs, p, q, e, rfl, _⟩ := h; rfl
  · obtain ⟨cs, xs, p, q, e, rfl, hp, hq, hx, hn, k⟩ := h
    refine ⟨_, (pss_cons (ps_set (i := 1) sc_has_rest.nd rfl (Or.inl rfl) (pe_ix (ix_seqK (K := K) rfl) (pv 0) (pe_glob (v := k_PIECES) rfl g.c_PIECES ⟨_, rfl⟩) (fun _ _ => rfl)))
      (pss_one (ps_ret (pe_and (pe_cmpR op_gt (pe_callB (call_lenK (K := K) rfl) rfl g.b_len PySem.boot_len (pa_cons (pv 1) pa_nil)) pe_int (nomark _)) (pe_one (pe_cmpR op_eq (pe_ix (ix_seqK (K := K) rfl) (pe_ix (ix_seqK (K := K) rfl) (pv 1) (pe_un un_neg pe_int) (fun _ _ => rfl)) pe_int (fun _ _ => rfl)) pe_str (nomark _))))))), ?_⟩
    walk_at "rd"
    refine ⟨_, _, .inr hp, atI_nat (j := 0) rfl, ?_⟩
    walk_at "rd"
    refine ⟨xs, .inr hq, ?_⟩
    have hl := hx.length
    by_cases h0 : cs = []
    · subst h0
      refine ite2 (fun z => ?_) (fun _ => k)
      rw [hl] at z
      simp at z
    obtain ⟨c, hc⟩ : ∃ c, cs.getLast? = some c := ⟨_, List.getLast?_eq_some_getLast h0⟩
    have hr : hasRest cs = c.isRest := by unfold hasRest; rw [hc]
    obtain ⟨v, hv, pc, rfl, hpc⟩ := hx.last hc
    refine ite2 (fun _ => ?_) (fun z => absurd (show (0 : Int) < (xs.length : Int) by rw [hl]; have := List.length_pos_iff.mpr h0; omega) z)
    refine ⟨_, _, .inr hq, hv, ?_⟩
    walk_at "rd"
    refine ⟨_, _, .inr hpc, c.at0, ?_⟩
    refine L2.rd_eqSS.mpr ?_
    rw [kw_rest, ← hr]
    exact k
theorem ok__law_cell_at (g : G K mg) : FnOk P w K mg base CX0 1 g.a__law_cell_at g.fd__law_cell_at ["_law_script", "_law_k"] (sp__law_cell_at K) := by
  refine g.F__law_cell_at.ok sc__law_cell_at (fun vs H Q E h => ?_) (fun cdv A outer s H vs Q E hr h => ?_)
  · obtain ⟨a, ns, k, rfl, _⟩ := h; rfl
  · obtain ⟨a, ns, i, rfl, hS, k⟩ := h
    refine ⟨_, (pss_cons (ps_if (pt_cmpR op_lt (pv 1) (pe_callB (call_lenK (K := K) rfl) rfl g.b_len PySem.boot_len (pa_cons (pv 0) pa_nil)) (nomark _))
        (pss_one (ps_ret (pe_ix (ix_seqK (K := K) rfl) (pv 0) (pv 1) (fun _ _ => rfl)))) pss_nil)
      (pss_one (ps_ret pe_int))), ?_⟩
    walk_at "rd"
    refine ⟨ns.map V.int, .inl hS, ite2 (fun h => ?_) (fun h => ?_)⟩
    · rw [List.length_map] at h
      exact ⟨ns.map V.int, _, .inl hS, cell_of (by omega), k⟩
    · rw [List.length_map] at h
      rw [List.getD_eq_getElem?_getD, List.getElem?_eq_none (by omega)] at k
      exact k
theorem ok__law_names (g : G K mg) : FnOk P w K mg base CX0 1 g.a__law_names g.fd__law_names ["_law_cell", "_law_many"] (sp__law_names K) := by
  refine g.F__law_names.ok sc__law_names (fun vs H Q E h => ?_) (fun cdv A outer s H vs Q E hr h => ?_)
  · obtain ⟨c, m, rfl, _⟩ := h; rfl
  · obtain ⟨c, m, rfl, hm, k⟩ := h
    refine ⟨_, (pss_cons (ps_set (i := 2) sc__law_names.nd rfl (Or.inl rfl) pe_str)
      (pss_cons (ps_set (i := 3) sc__law_names.nd rfl (Or.inl rfl) (pe_op (op_addS (K := K)) pe_int (pe_op op_mod (pv 0) pe_int)))
      (pss_cons (ps_set (i := 4) sc__law_names.nd rfl (Or.inl rfl) (pe_op op_mod (pe_op op_fdiv (pv 0) pe_int) (pv 3)))
      (pss_cons (ps_set (i := 5) sc__law_names.nd rfl (Or.inl rfl) (pe_lstS pa_nil))
      (pss_cons (ps_for PassesOwn.never rfl (pi_range1 rfl g.b_range (pa_cons (pv 1) pa_nil)) (pg_name (i := 6) sc__law_names.nd rfl (Or.inl rfl))
      (pss_cons (ps_set (i := 7) sc__law_names.nd rfl (Or.inl rfl) pe_str)
      (pss_cut (ps_for PassesOwn.never rfl (pi_range1 rfl g.b_range (pa_cons (pv 3) pa_nil)) (pg_name (i := 8) sc__law_names.nd rfl (Or.inl rfl))
      (pss_cons (ps_set (i := 9) sc__law_names.nd rfl (Or.inl rfl) (pe_op (op_addS (K := K)) (pe_op op_fdiv (pv 0) (pe_op (op_addS (K := K)) pe_int (pe_op op_mulU pe_int (pv 8)))) (pe_op op_mulU (pe_op op_mulU pe_int (pv 8)) (pv 8))))
      (pss_cut (ps_if (pt_cmpR op_eq (pv 8) (pv 4) (nomark _))
        (pss_one (ps_set (i := 9) sc__law_names.nd rfl (Or.inl rfl) (pe_op (op_addS (K := K)) (pv 9) (pv 6)))) pss_nil)
      (pss_one (ps_set (i := 7) sc__law_names.nd rfl (Or.inl rfl) (pe_op (op_addS (K := K)) (pv 7) (pe_ix (ix_seqK (K := K) rfl) (pv 2) (pe_op op_mod (pv 9) pe_int) (fun _ _ => rfl))))))))
      (pss_cut (ps_if (PW.pt (pw_and (pt_cmpR op_eq (pe_op op_mod (pe_op op_fdiv (pv 0) pe_int) pe_int) pe_int (nomark _)) (pw_and1 (pt_cmpR op_eq (pe_op op_mod (pv 6) pe_int) pe_int (nomark _)))))
        (pss_one (ps_set (i := 7) sc__law_names.nd rfl (Or.inl rfl) (pe_op (op_addS (K := K)) (pv 7) (pe_ix (ix_seqK (K := K) rfl) (pv 2) (pe_op op_mod (pe_op op_fdiv (pv 0) pe_int) pe_int) (fun _ _ => rfl))))) pss_nil)
      (pss_one (ps_expr (pe_bmK (K := K) rfl PySem.F.plainAttrs_list PySem.F.slot_list_append PySem.F.type_list_append mt_append (pv 5) (pa_cons (pv 7) pa_nil))))))))
      (pss_one (ps_ret (pv 5)))))))), ?_⟩
    have eL : Str.ofString "abcdefghijklmnopqrstuvwxyz" = ⟨smaL.toArray⟩ := by unfold smaL; simp
    rw [eL]
    walk_at "rd"
    refine ⟨by decide, ⟨by decide, by decide⟩, by omega, by decide, fun p H1 n1 s1 e1 => ⟨by omega, by omega, ?_⟩⟩
    rw [Int.toNat_natCast]
    obtain ⟨sz, hsz, hs1, hs7⟩ : ∃ sz : Nat, 1 + c % 7 = (sz : Int) ∧ 1 ≤ sz ∧ sz ≤ 7 := ⟨(1 + c % 7).toNat, by omega, by omega, by omega⟩
    rw [hsz]
    generalize c / 7 % (sz : Int) = at0
    refine loop_range (fun i σ H' => ∃ (ns : List (List Nat)) (v6 v7 v8 v9 : Option V), σ = [some (.int c), some (.int (m : Int)), some (tV smaL), some (.int (sz : Int)), some (.int at0), some (.ref p), v6, v7, v8, v9] ∧ ns.length = i ∧ (∀ n ∈ ns, 0 < n.length ∧ n.length ≤ 8 ∧ n.all isSma = true) ∧ Same H H' ∧ H' p = some (.lst (ns.map tV))) ⟨[], none, none, none, none, rfl, rfl, by simp, s1, e1⟩ ?_ ?_
    · rintro i σ H2 hi ⟨ns, v6, v7, v8, v9, rfl, hl, hns, s2, e2⟩
      walk_at "rd"
      refine ⟨fun σ H3 => H3 = H2 ∧ ∃ (l : List Nat) (v8 v9 : Option V), l.length = sz ∧ l.all isSma = true ∧ σ = [some (.int c), some (.int (m : Int)), some (tV smaL), some (.int (sz : Int)), some (.int at0), some (.ref p), some (.int (0 + (i : Int))), some (tV l), v8, v9], ?_, ?_⟩
      · refine ⟨by omega, by omega, ?_⟩
        rw [Int.toNat_natCast]
        refine loop_range (fun j σ H3 => H3 = H2 ∧ ∃ (l : List Nat) (v8 v9 : Option V), l.length = j ∧ l.all isSma = true ∧ σ = [some (.int c), some (.int (m : Int)), some (tV smaL), some (.int (sz : Int)), some (.int at0), some (.ref p), some (.int (0 + (i : Int))), some (tV l), v8, v9]) ⟨rfl, [], _, _, rfl, rfl, rfl⟩ ?_ (fun σ H3 h => h)
        rintro j σ H3 hj ⟨rfl, l, v8, v9, hll, hla, rfl⟩
        walk_at "rd"
        refine ⟨.inl ⟨by decide, by decide⟩, ⟨by omega, by omega⟩, .inl ⟨by decide, by decide⟩, .inr ⟨by omega, by omega⟩, ?_⟩
        refine ⟨fun σ H4 => H4 = H3 ∧ ∃ x : Int, σ = [some (.int c), some (.int (m : Int)), some (tV smaL), some (.int (sz : Int)), some (.int at0), some (.ref p), some (.int (0 + (i : Int))), some (tV l), some (.int (0 + (j : Int))), some (.int x)], ?_, ?_⟩
        · exact ite2 (fun _ => ⟨rfl, _, rfl⟩) (fun _ => ⟨rfl, _, rfl⟩)
        rintro σ H4 ⟨rfl, x, rfl⟩
        obtain ⟨d, hd, hds⟩ := sma_at x
        walk_at "rd"
        refine ⟨by decide, d, by decide +kernel, hd, le_line (by omega), l ++ [d], _, _, by rw [List.length_append, List.length_singleton, hll], by rw [List.all_append, hla]; simp [hds], rfl, rfl, rfl⟩
      rintro σ H3 ⟨rfl, l, v8, v9, hll, hla, rfl⟩
      walk_at "rd"
      refine ⟨fun σ H4 => H4 = H3 ∧ ∃ (l : List Nat), (0 < l.length ∧ l.length ≤ 8 ∧ l.all isSma = true) ∧ σ = [some (.int c), some (.int (m : Int)), some (tV smaL), some (.int (sz : Int)), some (.int at0), some (.ref p), some (.int (0 + (i : Int))), some (tV l), v8, v9], ?_, ?_⟩
      · have stay : H3 = H3 ∧ ∃ (l' : List Nat), (0 < l'.length ∧ l'.length ≤ 8 ∧ l'.all isSma = true) ∧ [some (V.int c), some (.int (m : Int)), some (tV smaL), some (.int (sz : Int)), some (.int at0), some (.ref p), some (.int (0 + (i : Int))), some (tV l), v8, v9] = [some (V.int c), some (.int (m : Int)), some (tV smaL), some (.int (sz : Int)), some (.int at0), some (.ref p), some (.int (0 + (i : Int))), some (tV l'), v8, v9] := ⟨rfl, l, ⟨by omega, by omega, hla⟩, rfl⟩
        refine ⟨⟨by decide, by decide⟩, by decide, ite2 (fun _ => ⟨by decide, ite2 (fun _ => ?_) (fun _ => stay)⟩) (fun _ => stay)⟩
        obtain ⟨d, hd, hds⟩ := sma_at (c / 686)
        refine ⟨⟨by decide, by decide⟩, by decide, d, by decide +kernel, hd, le_line (by omega), rfl, l ++ [d], ⟨by rw [List.length_append, List.length_singleton]; omega, by rw [List.length_append, List.length_singleton]; omega, by rw [List.all_append, hla]; simp [hds]⟩, ?_⟩
        simp
      rintro σ H4 ⟨rfl, l2, hl2, rfl⟩
      walk_at "rd"
      refine ⟨⟨_, .of e2⟩, _, e2, by rw [List.length_map]; exact Nat.lt_of_le_of_lt (show ns.length ≤ 100 by omega) (by decide), ns ++ [l2], _, _, _, _, ⟨rfl, rfl, rfl, rfl⟩, by rw [List.length_append, List.length_singleton, hl], fun n hn => ?_, same_over n1 s2, by rw [upd_same, List.map_append]; rfl⟩
      rcases List.mem_append.mp hn with z | z
      · exact hns n z
      · rw [List.mem_singleton.mp z]; exact hl2
    · rintro σ H2 ⟨ns, v6, v7, v8, v9, rfl, hl, hns, s2, e2⟩
      walk_at "rd"
      exact k ns p H2 hl hns s2 e2
theorem ok__law_signs (g : G K mg) : FnOk P w K mg base CX0 1 g.a__law_signs g.fd__law_signs [] sp__law_signs := by
  refine g.F__law_signs.ok sc__law_signs (fun vs H Q E h => ?_) (fun cdv A outer s H vs Q E hr h => ?_)
  · obtain ⟨rfl, _⟩ := h; rfl
  · obtain ⟨rfl, k⟩ := h
    refine ⟨_, (pss_cons (ps_set (i := 0) sc__law_signs.nd rfl (Or.inl rfl) pe_str)
      (pss_one (ps_ret (pe_op (op_addK (K := K) rfl) (pv 0) pe_str)))), ?_⟩
    walk_at "rd"
    rw [show Str.ofString " !\"#$&'()*+,-./0123456789:;<=>?@ABCDEFGHIJKLMNOPQRSTUVWXYZ" ++ Str.ofString "[\\]^_`abcdefghijklmnopqrstuvwxyz{|}~" = ⟨SG.toArray⟩ by decide +kernel]
    exact ⟨by decide +kernel, k⟩
theorem ok__law_is_figures (g : G K mg) : FnOk P w K mg base CX0 1 g.a__law_is_figures g.fd__law_is_figures ["_law_step_here"] (sp__law_is_figures K) := by
  refine g.F__law_is_figures.ok sc__law_is_figures (fun vs H Q E h => ?_) (fun cdv A outer s H vs Q E hr h => ?_)
  · obtain ⟨l, rfl, _⟩ := h; rfl
  · obtain ⟨l, rfl, h0, hl, hs, k⟩ := h
    refine ⟨_, (pss_cons (ps_if (PW.pt (pw_or (pt_cmpR (op_neD hr.units) (pe_comp (fx := []) (fr := []) rfl rfl (by decide +kernel) rfl (by decide +kernel) rfl (by decide +kernel) rfl .nil rfl (pi_str (pv 0)) (fun _ _ _ => (pf_one (pt_cmpR op_notinU (pv 0) pe_str (by with_unfolding_all rfl)))) (fun _ _ _ => (pv 0))) (pe_lstS pa_nil) (nomark _)) (pw_or1 (pt_cmpR op_gt (pe_callB (call_lenK (K := K) rfl) rfl g.b_len PySem.boot_len (pa_cons (pv 0) pa_nil)) pe_int (nomark _)))))
        (pss_one (ps_ret pe_bl)) pss_nil)
      (pss_one (ps_ret (pe_or (pe_cmpR op_ne (pe_ix (ix_seqK (K := K) rfl) (pv 0) pe_int (fun _ _ => rfl)) pe_str (nomark _)) (pe_one (pe_cmpR op_eq (pv 0) pe_str (nomark _))))))), ?_⟩
    have eF : Str.ofString "0123456789" = ⟨fgS.toArray⟩ := by unfold fgS; simp
    have e0 : Str.ofString "0" = ⟨[48].toArray⟩ := by decide +kernel
    rw [eF, e0]
    walk_at "rd"
    intro p hp
    refine comp_strIf (z := ⟨l.toArray⟩) (le_line (by show l.length ≤ 100000; omega)) hp (fun c => !decide (c ∈ fgS)) (fun c => V.str ⟨#[c]⟩) (fun c hc H' R hR => ?_) (fun c hc H' R hR => ?_) (fun H1 s1 e1 => ?_)
    · walk_at "rd"
      exact hR H' (Same.refl _)
    · walk_at "rd"
      exact hR H' (Same.refl _)
    refine ⟨by decide, fun p2 H2 n2 s2 e2 => ?_⟩
    have hf : ∀ c ∈ l.filter (fun c => !decide (c ∈ fgS)), isSg c = true := fun c hc => hs c (List.mem_filter.mp hc).1
    refine ⟨.list ((l.filter fun c => !decide (c ∈ fgS)).map fun c => st [c]), .list [], .lst (s2 _ _ e1) (isAll_ones _), .lst e2 .nil, shaped_chs hf, by decide, _, rfl, ?_⟩
    have em : ((l.filter fun c => !decide (c ∈ fgS)).map fun c => st [c]).isEmpty = l.all isFig := by
      rw [← filt_fig]; cases l.filter (fun c => !decide (c ∈ fgS)) <;> rfl
    rw [eqv_nilL, em]
    have s12 := s1.trans s2
    have k' := k H2 s12
    refine ite2 (fun h1 => ?_) (fun h1 => ?_)
    · have : numB l = false := by unfold numB; rw [show l.all isFig = false by simpa using h1]; simp
      rw [this] at k'
      exact k'
    have hall : l.all isFig = true := by simpa using h1
    refine ⟨le_line (by omega), ite2 (fun h2 => ?_) (fun h2 => ?_)⟩
    · have : numB l = false := by unfold numB; rw [decide_eq_false (show ¬ l.length ≤ 60 by omega)]; simp
      rw [this] at k'
      exact k'
    have en : numB l = (decide (l = [48]) || !decide (l.head? = some 48)) := by
      unfold numB
      rw [decide_eq_true (show 1 ≤ l.length by omega), decide_eq_true (show l.length ≤ 60 by omega), hall]
      rfl
    rw [en] at k'
    cases l with
    | nil => simp at h0
    | cons c r =>
      have e48 : ((⟨#[c]⟩ : Str) = ⟨[48].toArray⟩) ↔ c = 48 := by
        rw [show (⟨#[c]⟩ : Str) = ⟨[c].toArray⟩ from rfl, mk_inj]; simp
      refine ⟨c, le_line (by simp at hl ⊢; omega), atI_nat (j := 0) rfl, ite2 (fun h3 => ?_) (fun h3 => ?_)⟩
      · have : ¬ c = 48 := fun z => h3 (e48.mpr z)
        rw [show decide ((c :: r).head? = some 48) = false from decide_eq_false (by simpa using this)] at k'
        simpa using k'
      · have h3 : c = 48 := e48.mp (Classical.not_not.mp h3)
        rw [show decide ((c :: r).head? = some 48) = true from decide_eq_true (by simpa using h3)] at k'
        rw [show decide ((⟨(c :: r).toArray⟩ : Str) = ⟨[48].toArray⟩) = decide (c :: r = [48]) from decide_eq_decide.mpr mk_inj]
        simpa using k'
theorem ok_spread (g : G K mg) : FnOk P w K mg base CX0 2 g.a_spread g.fd_spread ["pattern", "count"] (sp_spread K) := by
  refine g.F_spread.ok sc_spread (fun vs H Q E h => ?_) (fun cdv A outer s H vs Q E hr h => ?_)
  · obtain ⟨cs, xs, p, q, e, n, rfl, _⟩ := h; rfl
  · obtain ⟨cs, xs, p, q, e, n, rfl, hp, hq, hx, hn, hnn, k0, k⟩ := h
    refine ⟨_, (pss_cons (ps_set (i := 2) sc_spread.nd rfl (Or.inl rfl) (pe_ix (ix_seqK (K := K) rfl) (pv 0) (pe_glob (v := k_PIECES) rfl g.c_PIECES ⟨_, rfl⟩) (fun _ _ => rfl)))
      (pss_cons (ps_set (i := 3) sc_spread.nd rfl (Or.inl rfl) (pe_op op_sub (pv 1) (pe_callB (call_lenK (K := K) rfl) rfl g.b_len PySem.boot_len (pa_cons (pv 2) pa_nil))))
      (pss_cons (ps_if (PW.pt (pw_and (pt_val (pe_call (ok_has_rest g) (hr.mono (by decide)) rfl g.m_has_rest g.F_has_rest.kp g.b_has_rest .nil pass0 (pa_cons (pv 0) pa_nil))) (pw_and1 (pt_cmpR op_ge (pv 3) pe_int (nomark _)))))
        (pss_one (ps_ret (pe_op (op_addS (K := K)) (pv 2) (pe_op op_repN (pe_slice sl_tupA (pv 2) (po_some (pe_un un_neg pe_int)) po_none) (pv 3))))) pss_nil)
      (pss_one (ps_ret (pe_ifExp (pt_cmpR op_eq (pv 3) pe_int (nomark _)) (pv 2) pe_non)))))), ?_⟩
    walk_at "rd"
    refine ⟨_, _, .inr hp, atI_nat (j := 0) rfl, ?_⟩
    have hl := hx.length
    walk_at "rd"
    refine ⟨xs, .inr (.of hq), ?_⟩
    refine ⟨cs, xs, p, q, e, rfl, hp, .of hq, hx, by omega, _, rfl, ?_⟩
    rw [hl]
    have tail : ¬ (hasRest cs = true ∧ cs.length ≤ n) → if (n : Int) - (cs.length : Int) = 0 then Q (.ref q) H else Q .non H := fun hnot => by
      refine ite2 (fun h0 => ?_) (fun h0 => ?_)
      · refine k cs xs q H ?_ (Same.refl _) (.of hq) hx
        unfold spreadM
        rw [if_neg hnot, if_pos (by omega)]
      · refine k0 ?_
        unfold spreadM
        rw [if_neg hnot, if_neg (by omega)]
    refine ite2 (fun hr => ite2 (fun hm => ?_) (fun hm => tail fun z => by omega)) (fun hr => tail fun z => hr z.1)
    have hd1 : (xs.drop (xs.length - 1)).length ≤ 1 := by rw [List.length_drop]; omega
    have ht : ((n : Int) - (cs.length : Int)).toNat = n - cs.length := by omega
    refine ⟨_, hq, fun p1 H1 s1 e1 => ⟨_, e1, hm, by omega, ?_, fun p2 H2 s2 e2 => .inr ⟨_, _, (s1.trans s2) _ _ hq, e2, ?_, fun p3 H3 s3 e3 => ?_⟩⟩⟩
    · rw [cut_last, ht]
      exact le_line (Nat.le_trans (Nat.mul_le_mul hd1 (Nat.le_refl _)) (by omega))
    · rw [cut_last, ht]
      have := reps_len (xs.drop (xs.length - 1)) (n - cs.length) hd1
      exact le_line (by omega)
    · rw [cut_last, ht, hl] at e3
      have s03 := s1.trans (s2.trans s3)
      refine k _ _ p3 H3 ?_ s03 (.of e3) (PcAll.append (((hx.drop (cs.length - 1)).reps (n - cs.length)).mono s03) (hx.mono s03))
      unfold spreadM
      rw [if_pos ⟨hr, by omega⟩]
theorem ok_fits_part (g : G K mg) : FnOk P w K mg base CX0 2 g.a_fits_part g.fd_fits_part ["part", "step"] (sp_fits_part K) := by
  refine g.F_fits_part.ok sc_fits_part (fun vs H Q E h => ?_) (fun cdv A outer s H vs Q E hr h => ?_)
  · obtain ⟨h1, n, t, s, p, rfl, _⟩ := h; rfl
  · obtain ⟨h1, n, t, s, p, rfl, hp, hs, hh, ht, k⟩ := h
    refine ⟨_, (pss_cons (ps_set (i := 2) sc_fits_part.nd rfl (Or.inl rfl) (pe_call (ok_head_of g) (hr.mono (by decide)) rfl g.m_head_of g.F_head_of.kp g.b_head_of .nil pass0 (pa_cons (pv 0) pa_nil)))
      (pss_cons (ps_set (i := 3) sc_fits_part.nd rfl (Or.inl rfl) (pe_call (ok_tail_of g) (hr.mono (by decide)) rfl g.m_tail_of g.F_tail_of.kp g.b_tail_of .nil pass0 (pa_cons (pv 0) pa_nil)))
      (pss_one (ps_ret (pe_and (pe_bmK (K := K) rfl PySem.F.plainAttrs_str PySem.F.slot_str_startswith PySem.F.type_str_startswith mt_start1 (pv 1) (pa_cons (pv 2) pa_nil)) (pe_and (pe_bmK (K := K) rfl PySem.F.plainAttrs_str PySem.F.slot_str_endswith PySem.F.type_str_endswith mt_end1 (pv 1) (pa_cons (pv 3) pa_nil)) (pe_one (pe_cmpR op_gt (pe_callB (call_lenK (K := K) rfl) rfl g.b_len PySem.boot_len (pa_cons (pv 1) pa_nil)) (pe_op (op_addK (K := K) rfl) (pe_callB (call_lenK (K := K) rfl) rfl g.b_len PySem.boot_len (pa_cons (pv 2) pa_nil)) (pe_callB (call_lenK (K := K) rfl) rfl g.b_len PySem.boot_len (pa_cons (pv 3) pa_nil))) (nomark _))))))))), ?_⟩
    walk_at "rd"
    refine ⟨_, p, rfl, hp, _, p, rfl, hp, ?_⟩
    show rStart1 (tV s) [tV h1] H _
    rw [L2.st1_str]
    have kp : partB h1 t s = (decide (s.take h1.length = h1) && (decide (s.drop (s.length - t.length) = t) && decide (h1.length + t.length < s.length))) := rfl
    rw [kp] at k
    refine ⟨_, rfl, ite2 (fun ha => ?_) (fun ha => ?_)⟩
    rotate_left
    · rw [(Bool.not_eq_true _).mp ha] at k
      exact k
    rw [ha, Bool.true_and] at k
    show rEnd1 (tV s) [tV t] H _
    rw [L2.en1_str]
    refine ⟨_, rfl, ite2 (fun hb => ?_) (fun hb => ?_)⟩
    rotate_left
    · rw [(Bool.not_eq_true _).mp hb] at k
      exact k
    rw [hb, Bool.true_and] at k
    refine ⟨le_line hs, ?_⟩
    show rLenU K [tV h1] H _
    walk_at "rd"
    refine ⟨le_line hh, le_line ht, ?_⟩
    show Q (V.bl (decide ((h1.length : Int) + (t.length : Int) < (s.length : Int)))) H
    rw [show decide ((h1.length : Int) + (t.length : Int) < (s.length : Int)) = decide (h1.length + t.length < s.length) from decide_eq_decide.mpr (by omega)]
    exact k
theorem ok_is_number (g : G K mg) : FnOk P w K mg base CX0 2 g.a_is_number g.fd_is_number ["text"] sp_is_number := by
  refine g.F_is_number.ok sc_is_number (fun vs H Q E h => ?_) (fun cdv A outer s H vs Q E hr h => ?_)
  · obtain ⟨l, rfl, _⟩ := h; rfl
  · obtain ⟨l, rfl, hl, k⟩ := h
    refine ⟨_, (pss_cons (ps_if (PW.pt (pw_or (pt_not (pt_chain op_le op_le pe_int (pe_callB (call_lenK (K := K) rfl) rfl g.b_len PySem.boot_len (pa_cons (pv 0) pa_nil)) (pe_glob (v := k_LONGEST_NUMBER) rfl g.c_LONGEST_NUMBER ⟨_, rfl⟩))) (pw_or1 (pt_not (pt_val (pe_call (ok_made_of g) (hr.mono (by decide)) rfl g.m_made_of g.F_made_of.kp g.b_made_of .nil pass0 (pa_cons (pv 0) (pa_cons (pe_glob (v := k_FIGURES) rfl g.c_FIGURES ⟨_, rfl⟩) pa_nil))))))))
        (pss_one (ps_ret pe_bl)) pss_nil)
      (pss_one (ps_ret (pe_or (pe_cmpR op_eq (pv 0) pe_str (nomark _)) (pe_one (pe_cmpR op_ne (pe_ix (ix_seqK (K := K) rfl) (pv 0) pe_int (fun _ _ => rfl)) pe_str (nomark _))))))), ?_⟩
    have eF : k_FIGURES = .str ⟨fgS.toArray⟩ := by
      show V.str (Str.ofString _) = _
      unfold fgS; simp
    have e0 : Str.ofString "0" = ⟨[48].toArray⟩ := by decide +kernel
    rw [eF, e0]
    walk_at "rd"
    have no : ∀ H', Same H H' → (¬ (1 ≤ l.length ∧ l.length ≤ 60 ∧ l.all isFig = true)) → Q (.bl false) H' := fun H' sm h => by
      have : numB l = false := by
        unfold numB
        by_cases h1 : 1 ≤ l.length
        · by_cases h2 : l.length ≤ 60
          · rw [show l.all isFig = false by simpa using fun z => h ⟨h1, h2, z⟩]; simp
          · rw [decide_eq_false h2]; simp
        · rw [decide_eq_false h1]; simp
      rw [← this]
      exact k H' sm
    refine ⟨le_line hl, ite2 (fun h1 => ite2 (fun h2 => no _ (Same.refl _) (by omega)) (fun h2 => ?_)) (fun h1 => no _ (Same.refl _) (by omega))⟩
    refine ⟨_, _, rfl, hl, fun H' sm => ⟨_, rfl, ?_⟩⟩
    have ea : ((⟨l.toArray⟩ : Str).cps.toList.all fun c => decide (c ∈ (⟨fgS.toArray⟩ : Str).cps.toList)) = l.all isFig := by
      rw [← all_fig]
    rw [ea]
    refine ite2 (fun h3 => no H' sm (by rw [h3]; simp)) (fun h3 => ?_)
    have h3 : l.all isFig = true := by simpa using h3
    have en : numB l = (decide (l = [48]) || !decide (l.head? = some 48)) := by
      unfold numB
      rw [decide_eq_true (show 1 ≤ l.length by omega), decide_eq_true (show l.length ≤ 60 by omega), h3]
      rfl
    have k' := k H' sm
    rw [en] at k'
    cases l with
    | nil => simp at h1
    | cons c r =>
      refine ite2 (fun h4 => ?_) (fun h4 => ⟨c, le_line hl, atI_nat (j := 0) rfl, ?_⟩)
      · rw [decide_eq_true (mk_inj.mp h4)] at k'
        exact k'
      · rw [decide_eq_false (fun z => h4 (by rw [z]))] at k'
        have : decide ((⟨#[c]⟩ : Str) = ⟨[48].toArray⟩) = decide ((c :: r).head? = some 48) := by
          refine decide_eq_decide.mpr ?_
          rw [show (⟨#[c]⟩ : Str) = ⟨[c].toArray⟩ from rfl, mk_inj]
          simp
        first | (rw [this]; simpa using k') | (simp at this ⊢; simpa [this] using k')
theorem ok_is_word (g : G K mg) : FnOk P w K mg base CX0 2 g.a_is_word g.fd_is_word ["text"] sp_is_word := by
  refine g.F_is_word.ok sc_is_word (fun vs H Q E h => ?_) (fun cdv A outer s H vs Q E hr h => ?_)
  · obtain ⟨l, rfl, _⟩ := h; rfl
  · obtain ⟨l, rfl, hl, k⟩ := h
    refine ⟨_, (pss_one (ps_ret (pe_and (pe_chain op_le op_le pe_int (pe_callB (call_lenK (K := K) rfl) rfl g.b_len PySem.boot_len (pa_cons (pv 0) pa_nil)) (pe_glob (v := k_LONGEST_WORD) rfl g.c_LONGEST_WORD ⟨_, rfl⟩)) (pe_one (pe_call (ok_made_of g) (hr.mono (by decide)) rfl g.m_made_of g.F_made_of.kp g.b_made_of .nil pass0 (pa_cons (pv 0) (pa_cons (pe_glob (v := k_SMALL_LETTERS) rfl g.c_SMALL_LETTERS ⟨_, rfl⟩) pa_nil))))))), ?_⟩
    have eF : k_SMALL_LETTERS = .str ⟨smaL.toArray⟩ := by
      show V.str (Str.ofString _) = _
      unfold smaL; simp
    rw [eF]
    walk_at "rd"
    have no : (¬ (1 ≤ l.length ∧ l.length ≤ 60)) → Q (.bl false) H := fun h => by
      have : wordB l = false := by
        unfold wordB
        by_cases h1 : 1 ≤ l.length
        · rw [decide_eq_false (show ¬ l.length ≤ 60 from fun z => h ⟨h1, z⟩)]; simp
        · rw [decide_eq_false h1]; simp
      rw [← this]
      exact k H (Same.refl _)
    refine ⟨le_line hl, ite2 (fun h1 => ite2 (fun h2 => ?_) (fun h2 => no (by omega))) (fun h1 => no (by omega))⟩
    refine ⟨_, _, rfl, hl, fun H' sm => ?_⟩
    have e : wordB l = (l.all fun c => decide (c ∈ smaL)) := by
      unfold wordB
      rw [decide_eq_true (show 1 ≤ l.length by omega), decide_eq_true (show l.length ≤ 60 by omega), all_sma]
      rfl
    have := k H' sm
    rw [e] at this
    simpa using this
theorem ok_bound_value (g : G K mg) : FnOk P w K mg base CX0 2 g.a_bound_value g.fd_bound_value ["gap", "steps"] (sp_bound_value K) := by
  refine g.F_bound_value.ok sc_bound_value (fun vs H Q E h => ?_) (fun cdv A outer s H vs Q E hr h => ?_)
  · obtain ⟨c, s, ss, p, q, rfl, _⟩ := h; rfl
  · obtain ⟨c, s, ss, p, q, rfl, hp, hq, hf, hs, hh, ht, hn, k⟩ := h
    refine ⟨_, (pss_cons (ps_if (pt_cmpR op_eq (pe_ix (ix_seqK (K := K) rfl) (pv 0) pe_int (fun _ _ => rfl)) pe_str (nomark _))
        (pss_one (ps_ret (pe_callTy (call_listS (K := K) rfl) rfl g.b_list bt_list (pa_cons (pv 1) pa_nil)))) pss_nil)
      (pss_cons (ps_if (pt_cmpR op_eq (pe_ix (ix_seqK (K := K) rfl) (pv 0) pe_int (fun _ _ => rfl)) pe_str (nomark _))
        (pss_one (ps_ret (pe_callTy call_intS rfl g.b_int bt_int (pa_cons (pe_ix (ix_seqK (K := K) rfl) (pv 1) pe_int (fun _ _ => rfl)) pa_nil)))) pss_nil)
      (pss_one (ps_ret (pe_slice (sl_anyK (K := K) rfl) (pe_ix (ix_seqK (K := K) rfl) (pv 1) pe_int (fun _ _ => rfl)) (po_some (pe_callB (call_lenK (K := K) rfl) rfl g.b_len PySem.boot_len (pa_cons (pe_call (ok_head_of g) (hr.mono (by decide)) rfl g.m_head_of g.F_head_of.kp g.b_head_of .nil pass0 (pa_cons (pv 0) pa_nil)) pa_nil))) (po_some (pe_op op_sub (pe_callB (call_lenK (K := K) rfl) rfl g.b_len PySem.boot_len (pa_cons (pe_ix (ix_seqK (K := K) rfl) (pv 1) pe_int (fun _ _ => rfl)) pa_nil)) (pe_callB (call_lenK (K := K) rfl) rfl g.b_len PySem.boot_len (pa_cons (pe_call (ok_tail_of g) (hr.mono (by decide)) rfl g.m_tail_of g.F_tail_of.kp g.b_tail_of .nil pass0 (pa_cons (pv 0) pa_nil)) pa_nil))))))))), ?_⟩
    walk_at "rd"
    refine ⟨_, _, .inr hp, c.at0, ?_⟩
    refine L2.rd_eqSS.mpr ⟨_, rfl, ?_⟩
    rw [kw_rest]
    have rest : c.isRest = false → c.isNum = false → c.head.length + c.tail.length ≤ s.length → ∃ xs v, (SqL K H q xs ∨ SqT K H q xs) ∧ atI xs 0 = some v ∧ sp_head_of K [V.ref p] H (fun x H1 => rLenU K [x] H1 fun x H1 => ∃ i, x = V.int i ∧ ∃ xs v_1, (SqL K H1 q xs ∨ SqT K H1 q xs) ∧ atI xs 0 = some v_1 ∧ rLenU K [v_1] H1 fun x H1 => sp_tail_of K [V.ref p] H1 (fun x_1 H1 => rLenU K [x_1] H1 fun y H2 => rI0 (fun i j => V.int (i - j)) x y H2 fun x H1 => ∃ i_1, x = V.int i_1 ∧ rSl K v (some i) (some i_1) H1 Q) E0) E0 := fun h1 h2 hle => by
      refine ⟨_, _, .inr (.of hq), atI_nat (j := 0) rfl, c, p, rfl, hp, le_line hh, _, rfl, _, _, .inr (.of hq), atI_nat (j := 0) rfl, le_line hs, c, p, rfl, hp, le_line ht, ?_⟩
      refine ⟨_, _, rfl, rfl, _, rfl, ?_⟩
      refine L2.rd_slS.mpr ⟨le_line hs, ?_⟩
      show Q (.str (Txt.slice ⟨s.toArray⟩ (some (c.head.length : Int)) (some ((s.length : Int) - (c.tail.length : Int))))) H
      rw [show (s.length : Int) - (c.tail.length : Int) = ((s.length - c.tail.length : Nat) : Int) by omega, slice_mid]
      refine k _ H (Same.refl _) ?_ (fun q z => by cases z)
      cases c with
      | rest n => cases h1
      | num n => cases h2
      | _ => rfl
    cases c with
    | rest n =>
      refine ite2 (fun _ => ?_) (fun z => absurd rfl z)
      exact ⟨_, .inr (.of hq), fun l H1 n1 s1 e1 => k _ H1 s1 ⟨l, rfl, e1⟩ (fun q z => by cases z; exact n1)⟩
    | num n =>
      refine ite2 (fun z => by cases z) (fun _ => ⟨_, _, .inr hp, Pc.at0 _, ?_⟩)
      refine L2.rd_eqSS.mpr ⟨_, rfl, ?_⟩
      rw [kw_num]
      refine ite2 (fun _ => ⟨_, _, .inr (.of hq), atI_nat (j := 0) rfl, ?_⟩) (fun z => absurd rfl z)
      have hn := fits_num hf
      exact ⟨⟨s.toArray⟩, intOf s, rfl, by show s.length ≤ 640; omega, int_fig hn.2.2 hn.1 hn.2.1, k _ H (Same.refl _) rfl (fun q z => by cases z)⟩
    | part h n t =>
      refine ite2 (fun z => by cases z) (fun _ => ⟨_, _, .inr hp, Pc.at0 _, ?_⟩)
      refine L2.rd_eqSS.mpr ⟨_, rfl, ?_⟩
      rw [kw_num]
      exact ite2 (fun z => by cases z) (fun _ => rest rfl rfl (fits_part_len hf))
    | _ =>
      refine ite2 (fun z => by cases z) (fun _ => ⟨_, _, .inr hp, Pc.at0 _, ?_⟩)
      refine L2.rd_eqSS.mpr ⟨_, rfl, ?_⟩
      rw [kw_num]
      exact ite2 (fun z => by cases z) (fun _ => rest rfl rfl (by show 0 + 0 ≤ _; omega))
theorem ok__law_text (g : G K mg) : FnOk P w K mg base CX0 2 g.a__law_text g.fd__law_text ["_law_cell"] (sp__law_text K) := by
  refine g.F__law_text.ok sc__law_text (fun vs H Q E h => ?_) (fun cdv A outer s H vs Q E hr h => ?_)
  · obtain ⟨c, rfl, _⟩ := h; rfl
  · obtain ⟨c, rfl, k⟩ := h
    refine ⟨_, (pss_cons (ps_set (i := 1) sc__law_text.nd rfl (Or.inl rfl) (pe_ix (ix_seqK (K := K) rfl) (pe_lstS (pa_cons pe_str (pa_cons pe_str (pa_cons pe_str (pa_cons pe_str (pa_cons (pe_call0 (ok__law_signs g) (hr.mono (by decide)) rfl g.m__law_signs g.F__law_signs.kp g.b__law_signs .nil pass0) (pa_cons pe_str pa_nil))))))) (pe_op op_mod (pv 0) pe_int) (fun _ _ => rfl)))
      (pss_cons (ps_set (i := 2) sc__law_text.nd rfl (Or.inl rfl) pe_str)
      (pss_cons (ps_for PassesOwn.never rfl (pi_range1 rfl g.b_range (pa_cons (pe_op op_mod (pe_op op_fdiv (pv 0) pe_int) pe_int) pa_nil)) (pg_name (i := 3) sc__law_text.nd rfl (Or.inl rfl))
      (pss_one (ps_set (i := 2) sc__law_text.nd rfl (Or.inl rfl) (pe_op (op_addS (K := K)) (pv 2) (pe_ix (ix_seqK (K := K) rfl) (pv 1) (pe_op op_mod (pe_op op_fdiv (pv 0) (pe_op (op_addS (K := K)) pe_int (pe_op op_mulU (pe_op op_mulU pe_int (pv 3)) (pv 3)))) (pe_callB (call_lenK (K := K) rfl) rfl g.b_len PySem.boot_len (pa_cons (pv 1) pa_nil))) (fun _ _ => rfl))))))
      (pss_one (ps_ret (pv 2)))))), ?_⟩
    walk_at "rd"
    refine ⟨by decide, fun p H1 n1 s1 e1 => ⟨by decide, ?_⟩⟩
    obtain ⟨v, hv, hat⟩ := at_modV [V.str (Str.ofString "ab"), V.str (Str.ofString "a1"), V.str (Str.ofString "0123456789"), V.str (Str.ofString "a."), V.str { cps := SG.toArray }, V.str (Str.ofString "./{}~ab")] c 6 (by decide) (by decide)
    have hpool : ∃ l : List Nat, v = tV l ∧ 0 < l.length ∧ l.length ≤ 94 ∧ ∀ c ∈ l, isSg c = true := by
      simp only [List.mem_cons, List.not_mem_nil, or_false] at hv
      rcases hv with rfl | rfl | rfl | rfl | rfl | rfl
      · exact ⟨[97, 98], congrArg V.str (by decide +kernel), by decide, by decide, by decide⟩
      · exact ⟨[97, 49], congrArg V.str (by decide +kernel), by decide, by decide, by decide⟩
      · exact ⟨[48, 49, 50, 51, 52, 53, 54, 55, 56, 57], congrArg V.str (by decide +kernel), by decide, by decide, by decide⟩
      · exact ⟨[97, 46], congrArg V.str (by decide +kernel), by decide, by decide, by decide⟩
      · exact ⟨SG, rfl, by rw [SG_len]; decide, by rw [SG_len]; decide, fun c hc => mem_SG.mp hc⟩
      · exact ⟨[46, 47, 123, 125, 126, 97, 98], congrArg V.str (by decide +kernel), by decide, by decide, by decide⟩
    obtain ⟨pl, rfl, hp0, hp94, hpl⟩ := hpool
    refine ⟨_, _, .inl (.of e1), hat, ⟨by decide, by decide⟩, by decide, by omega, by omega, ?_⟩
    refine loop_range (fun j σ H2 => H2 = H1 ∧ ∃ (w : List Nat) (v3 : Option V), σ = [some (.int c), some (tV pl), some (tV w), v3] ∧ w.length = j ∧ ∀ c ∈ w, isSg c = true) ⟨rfl, [], none, rfl, rfl, by simp⟩ ?_ ?_
    · rintro j σ H2 hj ⟨rfl, w, v3, rfl, hwl, hw⟩
      have hj5 : j = 0 ∨ j = 1 ∨ j = 2 ∨ j = 3 ∨ j = 4 := by omega
      have hb : 0 < 30 + 17 * (0 + (j : Int)) * (0 + (j : Int)) ∧ 30 + 17 * (0 + (j : Int)) * (0 + (j : Int)) < 1073741824 := by
        rcases hj5 with rfl | rfl | rfl | rfl | rfl <;> decide
      obtain ⟨d, hd, hda⟩ := at_mod' pl (c / (30 + 17 * (0 + (j : Int)) * (0 + (j : Int)))) (pl.length : Int) (by omega) (by omega)
      walk_at "rd"
      refine ⟨.inl ⟨by decide, by decide⟩, .inr ⟨by omega, by omega⟩, hb, le_line (by omega), by omega, d, le_line (by omega), hda, le_line (by omega), w ++ [d], _, ⟨by simp, rfl⟩, by rw [List.length_append, List.length_singleton, hwl], fun e he => ?_⟩
      rcases List.mem_append.mp he with z | z
      · exact hw e z
      · rw [List.mem_singleton.mp z]; exact hpl d hd
    · rintro σ H2 ⟨rfl, w, v3, rfl, hwl, hw⟩
      walk_at "rd"
      exact k w H2 (by omega) hw s1
theorem ok__law_value (g : G K mg) : FnOk P w K mg base CX0 2 g.a__law_value g.fd__law_value ["_law_piece_here", "_law_step_here"] (sp__law_value K) := by
  refine g.F__law_value.ok sc__law_value (fun vs H Q E h => ?_) (fun cdv A outer s H vs Q E hr h => ?_)
  · obtain ⟨pc, p, s, rfl, _⟩ := h; rfl
  · obtain ⟨pc, p, s, rfl, hp, hok, h0, hl, hs, k0, k⟩ := h
    refine ⟨_, (pss_cons (ps_if (pt_cmpR (op_in_seqK (K := K) rfl) (pv 1) (pe_tupS (pa_cons pe_str (pa_cons pe_str pa_nil))) (by with_unfolding_all rfl))
        (pss_one (ps_ret pe_non)) pss_nil)
      (pss_cons (ps_if (pt_cmpR op_eq (pe_ix (ix_seqK (K := K) rfl) (pv 0) pe_int (fun _ _ => rfl)) pe_str (nomark _))
        (pss_one (ps_ret (pe_ifExp (pt_cmpR op_eq (pv 1) (pe_ix (ix_seqK (K := K) rfl) (pv 0) pe_int (fun _ _ => rfl)) (nomark _)) (pe_lstS (pa_cons pe_str pa_nil)) pe_non))) pss_nil)
      (pss_cons (ps_if (pt_cmpR op_eq (pe_ix (ix_seqK (K := K) rfl) (pv 0) pe_int (fun _ _ => rfl)) pe_str (nomark _))
        (pss_cons (ps_par (i := 2) (j := 3) rfl sc__law_value.nd rfl rfl (by decide) rfl rfl (pa_cons (pe_ix (ix_seqK (K := K) rfl) (pv 0) pe_int (fun _ _ => rfl)) (pa_cons (pe_ix (ix_seqK (K := K) rfl) (pv 0) pe_int (fun _ _ => rfl)) pa_nil)) rfl)
      (pss_cons (ps_set (i := 4) sc__law_value.nd rfl (Or.inl rfl) (pe_op op_sub (pe_callB (call_lenK (K := K) rfl) rfl g.b_len PySem.boot_len (pa_cons (pv 1) pa_nil)) (pe_callB (call_lenK (K := K) rfl) rfl g.b_len PySem.boot_len (pa_cons (pv 3) pa_nil))))
      (pss_cons (ps_if (PW.pt (pw_or (pt_cmpR op_le (pv 4) (pe_callB (call_lenK (K := K) rfl) rfl g.b_len PySem.boot_len (pa_cons (pv 2) pa_nil)) (nomark _)) (pw_or (pt_cmpR op_ne (pe_slice (sl_anyK (K := K) rfl) (pv 1) po_none (po_some (pe_callB (call_lenK (K := K) rfl) rfl g.b_len PySem.boot_len (pa_cons (pv 2) pa_nil)))) (pv 2) (nomark _)) (pw_or1 (pt_cmpR op_ne (pe_slice (sl_anyK (K := K) rfl) (pv 1) (po_some (pv 4)) po_none) (pv 3) (nomark _))))))
        (pss_one (ps_ret pe_non)) pss_nil)
      (pss_one (ps_ret (pe_lstS (pa_cons (pe_slice (sl_anyK (K := K) rfl) (pv 1) (po_some (pe_callB (call_lenK (K := K) rfl) rfl g.b_len PySem.boot_len (pa_cons (pv 2) pa_nil))) (po_some (pv 4))) pa_nil))))))) pss_nil)
      (pss_cons (ps_if (pt_cmpR op_eq (pe_ix (ix_seqK (K := K) rfl) (pv 0) pe_int (fun _ _ => rfl)) pe_str (nomark _))
        (pss_one (ps_ret (pe_ifExp (pt_val (pe_call (ok__law_is_figures g) (hr.mono (by decide)) rfl g.m__law_is_figures g.F__law_is_figures.kp g.b__law_is_figures .nil pass0 (pa_cons (pv 1) pa_nil))) (pe_lstS (pa_cons (pe_callTy call_intS rfl g.b_int bt_int (pa_cons (pv 1) pa_nil)) pa_nil)) pe_non))) pss_nil)
      (pss_cons (ps_if (pt_cmpR op_eq (pe_ix (ix_seqK (K := K) rfl) (pv 0) pe_int (fun _ _ => rfl)) pe_str (nomark _))
        (pss_cons (ps_setC (i := 5) (fx := []) (fr := []) sc__law_value.nd rfl rfl rfl rfl (by decide +kernel) rfl (by decide +kernel) rfl (by decide +kernel) rfl .nil rfl (pi_str (pv 1)) (fun _ _ _ => (pf_one (pt_cmpR op_notinU (pv 0) pe_str (by with_unfolding_all rfl)))) (fun _ _ _ => (pv 0)))
      (pss_one (ps_ret (pe_ifExp (PW.pt (pw_and (pt_cmpR (op_eqD hr.units) (pv 5) (pe_lstS pa_nil) (nomark _)) (pw_and1 (pt_cmpR op_le (pe_callB (call_lenK (K := K) rfl) rfl g.b_len PySem.boot_len (pa_cons (pv 1) pa_nil)) pe_int (nomark _))))) (pe_lstS (pa_cons (pv 1) pa_nil)) pe_non)))) pss_nil)
      (pss_one (ps_ret (pe_ifExp (pt_cmpR op_eq (pe_ix (ix_seqK (K := K) rfl) (pv 0) pe_int (fun _ _ => rfl)) pe_str (nomark _)) (pe_lstS (pa_cons (pe_lstS (pa_cons (pv 1) pa_nil)) pa_nil)) (pe_lstS (pa_cons (pv 1) pa_nil)))))))))), ?_⟩
    have d1 : Str.ofString ".." = ⟨sUp.toArray⟩ := by decide +kernel
    have d2 : Str.ofString "." = ⟨sStay.toArray⟩ := by decide +kernel
    have eA : Str.ofString "abcdefghijklmnopqrstuvwxyz" = ⟨smaL.toArray⟩ := by unfold smaL; simp
    rw [d1, d2, eA]
    walk_at "rd"
    refine ⟨by decide, fun p1 H1 n1 s1 e1 => ?_⟩
    refine ⟨p1, _, rfl, .inr (.of e1), rfl, rfl, _, rfl, ?_⟩
    show if (if false then _ else inV (sV s) [sV sStay, sV sUp]) = true then _ else _
    rw [if_neg (show ¬ false = true by decide), inV_dot]
    refine ite2 (fun hd => k0 (by unfold fitsM; rw [hd]; rfl) H1 s1) (fun hd => ?_)
    have hd : isDot s = false := by simpa using hd
    have hp1 : SqT K H1 p pc.vals := .of (s1 _ _ hp)
    refine ⟨_, _, .inr hp1, Pc.at0 _, ?_⟩
    refine L2.rd_eqSS.mpr ⟨_, rfl, ?_⟩
    rw [kw_step]
    cases pc with
    | step w =>
      refine ite2 (fun _ => ⟨_, _, .inr hp1, atI_nat (j := 1) rfl, ?_⟩) (fun z => absurd rfl z)
      refine L2.rd_eqSS.mpr ⟨_, rfl, ?_⟩
      have ef : fitsM (.step w) s = decide ((⟨s.toArray⟩ : Str) = ⟨w.toArray⟩) := by
        unfold fitsM; rw [hd]
        show decide (s = w) = _
        exact decide_eq_decide.mpr mk_inj.symm
      refine ite2 (fun h => ⟨by decide, fun p2 H2 n2 s2 e2 => k (ef.trans h) p2 _ H2 (s1.trans s2) e2 (fun z => by cases z)⟩) (fun h => k0 (by rw [ef]; simpa using h) H1 s1)
    | part h n t =>
      obtain ⟨ok1, ok2, ok3, ok4, ok5⟩ := hok
      refine ite2 (fun z => by cases z) (fun _ => ⟨_, _, .inr hp1, Pc.at0 _, ?_⟩)
      refine L2.rd_eqSS.mpr ⟨_, rfl, ?_⟩
      rw [kw_part]
      refine ite2 (fun _ => ⟨_, _, .inr hp1, atI_nat (j := 1) rfl, _, _, .inr hp1, atI_nat (j := 3) rfl, ?_⟩) (fun z => absurd rfl z)
      refine ⟨_, _, ⟨rfl, rfl⟩, ?_⟩
      have ef : fitsM (.part h n t) s = (decide (s.take h.length = h) && (decide (s.drop (s.length - t.length) = t) && decide (h.length + t.length < s.length))) := by unfold fitsM; rw [hd]; rfl
      have ls : s.length ≤ sizeLine := le_line (by omega)
      have lh : h.length ≤ sizeLine := le_line (by omega)
      walk_at "rd"
      refine ⟨ls, le_line (by omega), lh, ite2 (fun h1 => ?_) (fun h1 => ⟨lh, ls, ?_⟩)⟩
      · exact k0 (by rw [ef, decide_eq_false (show ¬ h.length + t.length < s.length by omega)]; simp) H1 s1
      rw [slice_to]
      refine ite2 (fun h2 => k0 (by rw [ef, decide_eq_false (fun z => h2 (mk_inj.mpr z))]; rfl) H1 s1) (fun h2 => ⟨ls, ?_⟩)
      have h2 : s.take h.length = h := mk_inj.mp (Classical.not_not.mp h2)
      rw [show (s.length : Int) - (t.length : Int) = ((s.length - t.length : Nat) : Int) by omega, slice_from]
      refine ite2 (fun h3 => k0 (by rw [ef, decide_eq_false (fun z => h3 (mk_inj.mpr z))]; simp) H1 s1) (fun h3 => ⟨lh, ls, by decide, fun p2 H2 n2 s2 e2 => ?_⟩)
      have h3 : s.drop (s.length - t.length) = t := mk_inj.mp (Classical.not_not.mp h3)
      rw [slice_mid] at e2
      exact k (by rw [ef, decide_eq_true h2, decide_eq_true h3, decide_eq_true (show h.length + t.length < s.length by omega)]; rfl) p2 _ H2 (s1.trans s2) e2 (fun _ => rfl)
    | num n =>
      refine ite2 (fun z => by cases z) (fun _ => ⟨_, _, .inr hp1, Pc.at0 _, ?_⟩)
      refine L2.rd_eqSS.mpr ⟨_, rfl, ?_⟩
      rw [kw_part]
      refine ite2 (fun z => by cases z) (fun _ => ⟨_, _, .inr hp1, Pc.at0 _, ?_⟩)
      refine L2.rd_eqSS.mpr ⟨_, rfl, ?_⟩
      rw [kw_num]
      refine ite2 (fun _ => ?_) (fun z => absurd rfl z)
      have ef : fitsM (.num n) s = numB s := by unfold fitsM; rw [hd]; rfl
      refine ⟨s, rfl, h0, hl, hs, fun H2 s2 => ⟨_, rfl, ?_⟩⟩
      refine ite2 (fun hn => ?_) (fun hn => k0 (by rw [ef]; simpa using hn) H2 (s1.trans s2))
      have hf := fits_num (n := n) (ef.trans hn)
      exact ⟨intOf s, by show s.length ≤ 640; omega, int_fig hf.2.2 hf.1 hf.2.1, by decide, fun p3 H3 n3 s3 e3 => k (ef.trans hn) p3 _ H3 (s1.trans (s2.trans s3)) e3 (fun _ => rfl)⟩
    | word n =>
      refine ite2 (fun z => by cases z) (fun _ => ⟨_, _, .inr hp1, Pc.at0 _, ?_⟩)
      refine L2.rd_eqSS.mpr ⟨_, rfl, ?_⟩
      rw [kw_part]
      refine ite2 (fun z => by cases z) (fun _ => ⟨_, _, .inr hp1, Pc.at0 _, ?_⟩)
      refine L2.rd_eqSS.mpr ⟨_, rfl, ?_⟩
      rw [kw_num]
      refine ite2 (fun z => by cases z) (fun _ => ⟨_, _, .inr hp1, Pc.at0 _, ?_⟩)
      refine L2.rd_eqSS.mpr ⟨_, rfl, ?_⟩
      rw [kw_word]
      refine ite2 (fun _ => ?_) (fun z => absurd rfl z)
      intro pc nc
      have ef : fitsM (.word n) s = wordB s := by unfold fitsM; rw [hd]; rfl
      refine comp_strIf (z := ⟨s.toArray⟩) (le_line (by show s.length ≤ 100000; omega)) nc (fun c => !decide (c ∈ smaL)) (fun c => V.str ⟨#[c]⟩) (fun c hc H' R hR => ?_) (fun c hc H' R hR => ?_) (fun H2 s2 e2 => ?_)
      · walk_at "rd"
        exact hR H' (Same.refl _)
      · walk_at "rd"
        exact hR H' (Same.refl _)
      refine ⟨by decide, fun p3 H3 n3 s3 e3 => ?_⟩
      have hf : ∀ c ∈ s.filter (fun c => !decide (c ∈ smaL)), isSg c = true := fun c hc => hs c (List.mem_filter.mp hc).1
      refine ⟨.list ((s.filter fun c => !decide (c ∈ smaL)).map fun c => st [c]), .list [], .lst (s3 _ _ e2) (isAll_ones _), .lst e3 .nil, shaped_chs hf, by decide, _, rfl, ?_⟩
      have em : ((s.filter fun c => !decide (c ∈ smaL)).map fun c => st [c]).isEmpty = s.all isSma := by
        rw [← filt_sma]; cases s.filter (fun c => !decide (c ∈ smaL)) <;> rfl
      rw [eqv_nilL, em]
      have s13 := s1.trans (s2.trans s3)
      refine ite2 (fun h1 => ⟨le_line (by omega), ite2 (fun h2 => ?_) (fun h2 => ?_)⟩) (fun h1 => ?_)
      · refine ⟨by decide, fun p4 H4 n4 s4 e4 => k ?_ p4 _ H4 (s13.trans s4) e4 (fun _ => ?_)⟩
        · rw [ef]; unfold wordB; rw [decide_eq_true (show 1 ≤ s.length by omega), decide_eq_true (show s.length ≤ 60 by omega), h1]; rfl
        · show _ = tV (amid [] [] s)
          rw [amid_nil]
      · exact k0 (by rw [ef]; unfold wordB; rw [decide_eq_false (show ¬ s.length ≤ 60 by omega)]; simp) H3 s13
      · exact k0 (by rw [ef]; unfold wordB; rw [show s.all isSma = false by simpa using h1]; simp) H3 s13
    | gap n =>
      refine ite2 (fun z => by cases z) (fun _ => ⟨_, _, .inr hp1, Pc.at0 _, ?_⟩)
      refine L2.rd_eqSS.mpr ⟨_, rfl, ?_⟩
      rw [kw_part]
      refine ite2 (fun z => by cases z) (fun _ => ⟨_, _, .inr hp1, Pc.at0 _, ?_⟩)
      refine L2.rd_eqSS.mpr ⟨_, rfl, ?_⟩
      rw [kw_num]
      refine ite2 (fun z => by cases z) (fun _ => ⟨_, _, .inr hp1, Pc.at0 _, ?_⟩)
      refine L2.rd_eqSS.mpr ⟨_, rfl, ?_⟩
      rw [kw_word]
      refine ite2 (fun z => by cases z) (fun _ => ⟨_, _, .inr hp1, Pc.at0 _, ?_⟩)
      refine L2.rd_eqSS.mpr ⟨_, rfl, ?_⟩
      rw [kw_rest]
      refine ite2 (fun z => by cases z) (fun _ => ⟨by decide, fun p2 H2 n2 s2 e2 => k (by unfold fitsM; rw [hd]; rfl) p2 _ H2 (s1.trans s2) e2 (fun _ => ?_)⟩)
      show _ = tV (amid [] [] s)
      rw [amid_nil]
    | rest n =>
      refine ite2 (fun z => by cases z) (fun _ => ⟨_, _, .inr hp1, Pc.at0 _, ?_⟩)
      refine L2.rd_eqSS.mpr ⟨_, rfl, ?_⟩
      rw [kw_part]
      refine ite2 (fun z => by cases z) (fun _ => ⟨_, _, .inr hp1, Pc.at0 _, ?_⟩)
      refine L2.rd_eqSS.mpr ⟨_, rfl, ?_⟩
      rw [kw_num]
      refine ite2 (fun z => by cases z) (fun _ => ⟨_, _, .inr hp1, Pc.at0 _, ?_⟩)
      refine L2.rd_eqSS.mpr ⟨_, rfl, ?_⟩
      rw [kw_word]
      refine ite2 (fun z => by cases z) (fun _ => ⟨_, _, .inr hp1, Pc.at0 _, ?_⟩)
      refine L2.rd_eqSS.mpr ⟨_, rfl, ?_⟩
      rw [kw_rest]
      refine ite2 (fun _ => ⟨by decide, fun p2 H2 n2 s2 e2 => ⟨by decide, fun p3 H3 n3 s3 e3 => k (by unfold fitsM; rw [hd]; rfl) p3 _ H3 (s1.trans (s2.trans s3)) e3 (fun _ => ⟨p2, rfl, s3 _ _ e2⟩)⟩⟩) (fun z => absurd rfl z)
theorem ok_step_fits (g : G K mg) : FnOk P w K mg base CX0 3 g.a_step_fits g.fd_step_fits ["piece", "step"] (sp_step_fits K) := by
  refine g.F_step_fits.ok sc_step_fits (fun vs H Q E h => ?_) (fun cdv A outer s H vs Q E hr h => ?_)
  · obtain ⟨c, s, p, rfl, _⟩ := h; rfl
  · obtain ⟨c, s, p, rfl, hp, hs, hh, ht, k⟩ := h
    refine ⟨_, (pss_cons (ps_if (pt_val (pe_call (ok_is_dot g) (hr.mono (by decide)) rfl g.m_is_dot g.F_is_dot.kp g.b_is_dot .nil pass0 (pa_cons (pv 1) pa_nil)))
        (pss_one (ps_ret pe_bl)) pss_nil)
      (pss_cons (ps_if (pt_cmpR op_eq (pe_ix (ix_seqK (K := K) rfl) (pv 0) pe_int (fun _ _ => rfl)) pe_str (nomark _))
        (pss_one (ps_ret (pe_cmpR op_eq (pv 1) (pe_ix (ix_seqK (K := K) rfl) (pv 0) pe_int (fun _ _ => rfl)) (nomark _)))) pss_nil)
      (pss_cons (ps_if (pt_cmpR op_eq (pe_ix (ix_seqK (K := K) rfl) (pv 0) pe_int (fun _ _ => rfl)) pe_str (nomark _))
        (pss_one (ps_ret (pe_call (ok_fits_part g) (hr.mono (by decide)) rfl g.m_fits_part g.F_fits_part.kp g.b_fits_part .nil pass0 (pa_cons (pv 0) (pa_cons (pv 1) pa_nil))))) pss_nil)
      (pss_cons (ps_if (pt_cmpR op_eq (pe_ix (ix_seqK (K := K) rfl) (pv 0) pe_int (fun _ _ => rfl)) pe_str (nomark _))
        (pss_one (ps_ret (pe_call (ok_is_number g) (hr.mono (by decide)) rfl g.m_is_number g.F_is_number.kp g.b_is_number .nil pass0 (pa_cons (pv 1) pa_nil)))) pss_nil)
      (pss_one (ps_ret (pe_ifExp (pt_cmpR op_eq (pe_ix (ix_seqK (K := K) rfl) (pv 0) pe_int (fun _ _ => rfl)) pe_str (nomark _)) (pe_call (ok_is_word g) (hr.mono (by decide)) rfl g.m_is_word g.F_is_word.kp g.b_is_word .nil pass0 (pa_cons (pv 1) pa_nil)) pe_bl))))))), ?_⟩
    walk_at "rd"
    refine ⟨s, rfl, _, rfl, ?_⟩
    have kk := k
    by_cases hdt : isDot s = true
    · rw [if_pos hdt]
      have e : fitsM c s = false := by unfold fitsM; rw [hdt]; rfl
      rw [e] at k
      exact k H (Same.refl _)
    rw [if_neg hdt]
    have hdf : isDot s = false := by simpa using hdt
    refine ⟨_, _, .inr hp, c.at0, ?_⟩
    refine L2.rd_eqSS.mpr ⟨_, rfl, ?_⟩
    rw [kw_step]
    cases c with
    | step w =>
      refine ite2 (fun _ => ⟨_, _, .inr hp, atI_nat (j := 1) rfl, ?_⟩) (fun z => absurd rfl z)
      refine L2.rd_eqSS.mpr ?_
      have e : fitsM (.step w) s = decide ((⟨s.toArray⟩ : Str) = ⟨w.toArray⟩) := by
        unfold fitsM; rw [hdf]
        show decide (s = w) = _
        exact decide_eq_decide.mpr mk_inj.symm
      rw [← e]
      exact k H (Same.refl _)
    | part h n t =>
      refine ite2 (fun z => by cases z) (fun _ => ⟨_, _, .inr hp, Pc.at0 _, ?_⟩)
      refine L2.rd_eqSS.mpr ⟨_, rfl, ?_⟩
      rw [kw_part]
      refine ite2 (fun _ => ?_) (fun z => absurd rfl z)
      have e : fitsM (.part h n t) s = partB h t s := by unfold fitsM; rw [hdf]; rfl
      exact ⟨h, n, t, s, p, rfl, hp, hs, hh, ht, by rw [← e]; exact k H (Same.refl _)⟩
    | num n =>
      refine ite2 (fun z => by cases z) (fun _ => ⟨_, _, .inr hp, Pc.at0 _, ?_⟩)
      refine L2.rd_eqSS.mpr ⟨_, rfl, ?_⟩
      rw [kw_part]
      refine ite2 (fun z => by cases z) (fun _ => ⟨_, _, .inr hp, Pc.at0 _, ?_⟩)
      refine L2.rd_eqSS.mpr ⟨_, rfl, ?_⟩
      rw [kw_num]
      refine ite2 (fun _ => ?_) (fun z => absurd rfl z)
      have e : fitsM (.num n) s = numB s := by unfold fitsM; rw [hdf]; rfl
      exact ⟨s, rfl, hs, fun H' sm => by rw [← e]; exact k H' sm⟩
    | word n =>
      refine ite2 (fun z => by cases z) (fun _ => ⟨_, _, .inr hp, Pc.at0 _, ?_⟩)
      refine L2.rd_eqSS.mpr ⟨_, rfl, ?_⟩
      rw [kw_part]
      refine ite2 (fun z => by cases z) (fun _ => ⟨_, _, .inr hp, Pc.at0 _, ?_⟩)
      refine L2.rd_eqSS.mpr ⟨_, rfl, ?_⟩
      rw [kw_num]
      refine ite2 (fun z => by cases z) (fun _ => ⟨_, _, .inr hp, Pc.at0 _, ?_⟩)
      refine L2.rd_eqSS.mpr ⟨_, rfl, ?_⟩
      rw [kw_word]
      refine ite2 (fun _ => ?_) (fun z => absurd rfl z)
      have e : fitsM (.word n) s = wordB s := by unfold fitsM; rw [hdf]; rfl
      exact ⟨s, rfl, hs, fun H' sm => by rw [← e]; exact k H' sm⟩
    | _ =>
      refine ite2 (fun z => by cases z) (fun _ => ⟨_, _, .inr hp, Pc.at0 _, ?_⟩)
      refine L2.rd_eqSS.mpr ⟨_, rfl, ?_⟩
      rw [kw_part]
      refine ite2 (fun z => by cases z) (fun _ => ⟨_, _, .inr hp, Pc.at0 _, ?_⟩)
      refine L2.rd_eqSS.mpr ⟨_, rfl, ?_⟩
      rw [kw_num]
      refine ite2 (fun z => by cases z) (fun _ => ⟨_, _, .inr hp, Pc.at0 _, ?_⟩)
      refine L2.rd_eqSS.mpr ⟨_, rfl, ?_⟩
      rw [kw_word]
      refine ite2 (fun z => by cases z) (fun _ => ?_)
      have e := k H (Same.refl _)
      unfold fitsM at e
      rw [hdf] at e
      exact e
theorem ok__law_step (g : G K mg) : FnOk P w K mg base CX0 3 g.a__law_step g.fd__law_step ["_law_cell"] (sp__law_step K) := by
  refine g.F__law_step.ok sc__law_step (fun vs H Q E h => ?_) (fun cdv A outer s H vs Q E hr h => ?_)
  · obtain ⟨c, rfl, _⟩ := h; rfl
  · obtain ⟨c, rfl, k⟩ := h
    refine ⟨_, (pss_cons (ps_set (i := 1) sc__law_step.nd rfl (Or.inl rfl) (pe_call (ok__law_text g) (hr.mono (by decide)) rfl g.m__law_text g.F__law_text.kp g.b__law_text .nil pass0 (pa_cons (pv 0) pa_nil)))
      (pss_cut (ps_if (pt_cmpR (op_in_seqK (K := K) rfl) (pv 1) (pe_tupS (pa_cons pe_str (pa_cons pe_str (pa_cons pe_str pa_nil)))) (by with_unfolding_all rfl))
        (pss_one (ps_set (i := 1) sc__law_step.nd rfl (Or.inl rfl) (pe_op (op_addS (K := K)) (pv 1) (pe_ix (ix_seqK (K := K) rfl) pe_str (pe_op op_mod (pe_op op_fdiv (pv 0) pe_int) pe_int) (fun _ _ => rfl))))) pss_nil)
      (pss_one (ps_ret (pv 1))))), ?_⟩
    have d1 : Str.ofString ".." = ⟨sUp.toArray⟩ := by decide +kernel
    have d2 : Str.ofString "." = ⟨sStay.toArray⟩ := by decide +kernel
    rw [d1, d2]
    walk_at "rd"
    refine ⟨c, rfl, fun l H1 hl hs s1 => ?_⟩
    refine ⟨fun σ H2 => Same H H2 ∧ ∃ l : List Nat, 0 < l.length ∧ l.length ≤ 5 ∧ (∀ c ∈ l, isSg c = true) ∧ isDot l = false ∧ σ = [some (.int c), some (tV l)], ?_, ?_⟩
    · refine ⟨by decide, fun p H2 n2 s2 e2 => ?_⟩
      refine ⟨p, _, rfl, .inr (.of e2), rfl, rfl, _, rfl, ?_⟩
      show if (if false then _ else inV (sV l) [sV [], sV sStay, sV sUp]) = true then _ else _
      rw [if_neg (show ¬ false = true by decide), inV_dots3]
      refine ite2 (fun hin => ?_) (fun hin => ?_)
      · obtain ⟨d, hd, hda⟩ := at_mod' (Str.ofString "ab1z").cps.toList (c / 30) 4 (by decide) (by decide +kernel)
        have hd' : d ≠ 46 ∧ isSg d = true := by
          rw [show (Str.ofString "ab1z").cps.toList = [97, 98, 49, 122] by decide +kernel] at hd
          simp only [List.mem_cons, List.not_mem_nil, or_false] at hd
          rcases hd with rfl | rfl | rfl | rfl <;> decide
        refine ⟨⟨by decide, by decide⟩, by decide, d, by decide +kernel, hda, ?_⟩
        walk_at "rd"
        refine ⟨le_line (by omega), s1.trans s2, l ++ [d], by simp, by simp; omega, fun e he => ?_, dot_snoc l d hd'.1, by simp⟩
        rcases List.mem_append.mp he with z | z
        · exact hs e z
        · rw [List.mem_singleton.mp z]; exact hd'.2
      · simp only [Bool.or_eq_true, decide_eq_true_eq, not_or, Bool.not_eq_true] at hin
        exact ⟨s1.trans s2, l, List.length_pos_iff.mpr hin.1, by omega, hs, hin.2, rfl⟩
    rintro σ H2 ⟨s2, l, h1, h2, h3, h4, rfl⟩
    walk_at "rd"
    exact k l H2 h1 h2 h3 h4 s2
theorem ok_fits (g : G K mg) : FnOk P w K mg base CX0 4 g.a_fits g.fd_fits ["pattern", "way"] (sp_fits K) := by
  refine g.F_fits.ok sc_fits (fun vs H Q E h => ?_) (fun cdv A outer s H vs Q E hr h => ?_)
  · obtain ⟨cs, xs, p, q, pw, ps, cl, r, e, ss, rfl, _⟩ := h; rfl
  · obtain ⟨cs, xs, p, q, pw, ps, cl, r, e, ss, rfl, hp, hq, hx, hn, hz, hw, hps, hsn, hsl, k⟩ := h
    refine ⟨_, (pss_cons (ps_set (i := 2) sc_fits.nd rfl (Or.inl rfl) (pe_ix (ix_seqK (K := K) rfl) (pv 1) (pe_glob (v := k_STEPS) rfl g.c_STEPS ⟨_, rfl⟩) (fun _ _ => rfl)))
      (pss_cut (ps_set (i := 3) sc_fits.nd rfl (Or.inl rfl) (pe_call (ok_spread g) (hr.mono (by decide)) rfl g.m_spread g.F_spread.kp g.b_spread .nil pass0 (pa_cons (pv 0) (pa_cons (pe_callB (call_lenK (K := K) rfl) rfl g.b_len PySem.boot_len (pa_cons (pv 2) pa_nil)) pa_nil))))
      (pss_cons (ps_if (PW.pt (pw_or (pt_cmpR op_isNU (pv 3) pe_non (nomark _)) (pw_or (pt_not (pt_val (pe_ix (ix_seqK (K := K) rfl) (pv 1) (pe_glob (v := k_ROOTED) rfl g.c_ROOTED ⟨_, rfl⟩) (fun _ _ => rfl)))) (pw_or1 (pt_cmpR op_ne (pe_ix (ix_seqK (K := K) rfl) (pv 1) (pe_glob (v := k_ENDS) rfl g.c_ENDS ⟨_, rfl⟩) (fun _ _ => rfl)) (pe_ix (ix_seqK (K := K) rfl) (pv 0) (pe_glob (v := k_CLOSES) rfl g.c_CLOSES ⟨_, rfl⟩) (fun _ _ => rfl)) (nomark _))))))
        (pss_one (ps_ret pe_bl)) pss_nil)
      (pss_one (ps_ret (pe_callB (call_allK (K := K) rfl rfl) rfl g.b_all PyProof.Rows.boot_all (pa_cons (pe_comp2K (K := K) (fx := []) (fr := []) rfl rfl rfl (by decide +kernel) rfl (by decide +kernel) rfl rfl (by decide +kernel) rfl .nil rfl (pi_zip (K := K) rfl rfl g.b_zip (pa_cons (pv 3) (pa_cons (pv 2) pa_nil))) (fun _ _ _ => pf_nil) (fun _ _ _ => (pe_call (ok_step_fits g) (hr.mono (by decide)) rfl g.m_step_fits g.F_step_fits.kp g.b_step_fits .nil pass0 (pa_cons (pv 0) (pa_cons (pv 1) pa_nil))))) pa_nil))))))), ?_⟩
    walk_at "rd"
    refine ⟨_, _, .inr hw, atI_nat (j := 1) rfl, ?_⟩
    refine ⟨fun σ H1 => Same H H1 ∧ ((spreadM cs ss.length = none ∧ σ = [some (.ref p), some (.ref pw), some (.ref ps), some .non]) ∨ ∃ (ds : List Pc) (ys : List V) (r' : Addr), spreadM cs ss.length = some ds ∧ SqT K H1 r' ys ∧ PcAll K H1 ds ys ∧ σ = [some (.ref p), some (.ref pw), some (.ref ps), some (.ref r')]), ?_, ?_⟩
    · walk_at "rd"
      refine ⟨_, .inr hps, ?_⟩
      rw [List.length_map]
      exact ⟨cs, xs, p, q, cl, ss.length, rfl, hp, hq, hx, hn, hsn, fun h => ⟨Same.refl _, .inl ⟨h, rfl⟩⟩, fun ds ys r' H1 h s1 h1 h2 => ⟨s1, .inr ⟨ds, ys, r', h, h1, h2, rfl⟩⟩⟩
    rintro σ H1 ⟨s1, ⟨h0, rfl⟩ | ⟨ds, ys, r', h0, hr', hy, rfl⟩⟩
    · walk_at "rd"
      have e : fitsP cs cl r ss e = false := by unfold fitsP; rw [h0]
      rw [e] at k
      exact k H1 s1
    have ef : fitsP cs cl r ss e = (r && decide (e = cl) && (List.zipWith fitsM ds ss).all id) := by unfold fitsP; rw [h0]
    have hw1 := s1.tup hw
    have hp1 := s1.tup hp
    have hps1 := s1.tup hps
    walk_at "rd"
    refine ⟨_, _, .inr hw1, atI_nat (j := 0) rfl, r, rfl, ?_⟩
    cases r with
    | false =>
      refine ite2 (fun _ => ?_) (fun z => absurd rfl z)
      rw [ef] at k
      exact k H1 s1
    | true =>
      refine ite2 (fun z => by cases z) (fun _ => ?_)
      refine ⟨_, _, .inr hw1, atI_nat (j := 2) rfl, _, _, .inr hp1, atI_nat (j := 1) rfl, ?_⟩
      refine L2.rd_neBB.mpr ⟨_, rfl, ?_⟩
      by_cases hec : e = cl
      · rw [decide_eq_true hec] at ef
        refine ite2 (fun z => by rw [decide_eq_true hec] at z; cases z) (fun _ => ?_)
        refine ⟨r', ps, ys, ss.map tV, ⟨rfl, rfl⟩, hr', hps1, fun pc nc => ?_⟩
        have hyl := hy.length
        have hdl := spread_len h0
        refine comp_zip (zs := (List.zipWith fitsM ds ss).map V.bl) hr' hps1 (le_line (by rw [List.length_map, List.length_zipWith]; omega)) nc (by rw [List.length_map, List.length_zipWith, List.length_map, hyl]) (fun i x y z hx' hy' hz' H2 T s2 hT => ?_) (fun H2 s2 e2 => ?_)
        · obtain ⟨c, p', hc, rfl, hcp⟩ := hy.get hx'
          obtain ⟨s, hs, rfl⟩ : ∃ s, ss[i]? = some s ∧ tV s = y := by
            rw [List.getElem?_map] at hy'
            cases hs : ss[i]? with
            | none => rw [hs] at hy'; cases hy'
            | some s => rw [hs] at hy'; exact ⟨s, rfl, by simpa using hy'⟩
          have hz' : V.bl (fitsM c s) = z := by
            rw [List.getElem?_map, List.getElem?_zipWith, hc, hs] at hz'
            simpa using hz'
          subst hz'
          obtain ⟨z1, z2⟩ := hz c (spread_mem h0 c (List.mem_of_getElem? hc))
          walk_at "rd"
          exact ⟨c, s, p', rfl, s2.tup hcp, hsl s (List.mem_of_getElem? hs), z1, z2, hT⟩
        · refine ⟨pc, _, rfl, .of e2, ?_⟩
          rw [ef] at k
          exact k H2 (s1.trans s2)
      · rw [decide_eq_false hec] at ef
        refine ite2 (fun _ => ?_) (fun z => by rw [decide_eq_false hec] at z; exact absurd rfl z)
        rw [ef] at k
        exact k H1 s1
theorem ok__law_piece (g : G K mg) : FnOk P w K mg base CX0 4 g.a__law_piece g.fd__law_piece ["_law_cell", "_law_name"] (sp__law_piece K) := by
  refine g.F__law_piece.ok sc__law_piece (fun vs H Q E h => ?_) (fun cdv A outer s H vs Q E hr h => ?_)
  · obtain ⟨c, n, rfl, _⟩ := h; rfl
  · obtain ⟨c, n, rfl, k⟩ := h
    refine ⟨_, (pss_cons (ps_if (pt_cmpR op_lt (pe_op op_mod (pv 0) pe_int) pe_int (nomark _))
        (pss_one (ps_ret (pe_tupS (pa_cons pe_str (pa_cons (pe_call (ok__law_step g) (hr.mono (by decide)) rfl g.m__law_step g.F__law_step.kp g.b__law_step .nil pass0 (pa_cons (pe_op op_fdiv (pv 0) pe_int) pa_nil)) pa_nil))))) pss_nil)
      (pss_cons (ps_if (pt_cmpR op_lt (pe_op op_mod (pv 0) pe_int) pe_int (nomark _))
        (pss_cons (ps_set (i := 2) sc__law_piece.nd rfl (Or.inl rfl) (pe_call (ok__law_text g) (hr.mono (by decide)) rfl g.m__law_text g.F__law_text.kp g.b__law_text .nil pass0 (pa_cons (pe_op op_fdiv (pv 0) pe_int) pa_nil)))
      (pss_cons (ps_set (i := 3) sc__law_piece.nd rfl (Or.inl rfl) (pe_call (ok__law_text g) (hr.mono (by decide)) rfl g.m__law_text g.F__law_text.kp g.b__law_text .nil pass0 (pa_cons (pe_op op_fdiv (pv 0) pe_int) pa_nil)))
      (pss_cut (ps_if (pt_cmpR op_eq (pe_op (op_addS (K := K)) (pv 2) (pv 3)) pe_str (nomark _))
        (pss_one (ps_set (i := 2) sc__law_piece.nd rfl (Or.inl rfl) (pe_ix (ix_seqK (K := K) rfl) pe_str (pe_op op_mod (pe_op op_fdiv (pv 0) pe_int) pe_int) (fun _ _ => rfl)))) pss_nil)
      (pss_one (ps_ret (pe_tupS (pa_cons pe_str (pa_cons (pv 2) (pa_cons (pv 1) (pa_cons (pv 3) pa_nil)))))))))) pss_nil)
      (pss_one (ps_ret (pe_tupS (pa_cons (pe_ix (ix_seqK (K := K) rfl) (pe_lstS (pa_cons pe_str (pa_cons pe_str (pa_cons pe_str (pa_cons pe_str pa_nil))))) (pe_op op_sub (pe_op op_mod (pv 0) pe_int) pe_int) (fun _ _ => rfl)) (pa_cons (pv 1) pa_nil))))))), ?_⟩
    walk_at "rd"
    have c0 := Int.emod_nonneg c (show (8 : Int) ≠ 0 by decide)
    have c1 := Int.emod_lt_of_pos c (show (0 : Int) < 8 by decide)
    refine ⟨by decide, ite2 (fun _ => ⟨⟨by decide, by decide⟩, ?_⟩) (fun h2 => ⟨by decide, ite2 (fun _ => ⟨⟨by decide, by decide⟩, ?_⟩) (fun h4 => ?_)⟩)⟩
    · exact ⟨_, rfl, fun l H1 h1 h2 h3 h4 s1 => ⟨by decide, fun p H2 n2 s2 e2 => k (.step l) p H2 ⟨h1, h2, h3, h4⟩ rfl (fun z => by cases z) (s1.trans s2) e2⟩⟩
    · refine ⟨_, rfl, fun hd H1 l1 h1 s1 => ⟨⟨by decide, by decide⟩, _, rfl, fun tl H2 l2 h2 s2 => ?_⟩⟩
      refine ⟨fun σ H3 => Same H H3 ∧ ∃ hd : List Nat, hd.length ≤ 4 ∧ (∀ c ∈ hd, isSg c = true) ∧ hd ++ tl ≠ [] ∧ σ = [some (.int c), some (tV n), some (tV hd), some (tV tl)], ?_, ?_⟩
      · walk_at "rd"
        refine ⟨le_line (by omega), ite2 (fun h0 => ?_) (fun h0 => ⟨s1.trans s2, hd, l1, h1, fun z => h0 (by rw [z]), rfl⟩)⟩
        obtain ⟨d, hdm, hda⟩ := at_mod' (Str.ofString "ab1.").cps.toList (c / 16) 4 (by decide) (by decide +kernel)
        have hd' : isSg d = true := by
          rw [show (Str.ofString "ab1.").cps.toList = [97, 98, 49, 46] by decide +kernel] at hdm
          simp only [List.mem_cons, List.not_mem_nil, or_false] at hdm
          rcases hdm with rfl | rfl | rfl | rfl <;> decide
        exact ⟨⟨by decide, by decide⟩, by decide, d, by decide +kernel, hda, s1.trans s2, [d], by simp, fun e he => by rw [List.mem_singleton.mp he]; exact hd', by simp, rfl⟩
      rintro σ H3 ⟨s3, hd, l1, h1, hne, rfl⟩
      walk_at "rd"
      exact ⟨by decide, fun p H4 n4 s4 e4 => k (.part hd n tl) p H4 ⟨l1, l2, h1, h2, hne⟩ rfl (fun _ => rfl) (s3.trans s4) e4⟩
    · refine ⟨by decide, fun p H1 n1 s1 e1 => ⟨by decide, ?_⟩⟩
      have h : c % 8 - 4 = 0 ∨ c % 8 - 4 = 1 ∨ c % 8 - 4 = 2 ∨ c % 8 - 4 = 3 := by omega
      rcases h with h | h | h | h <;> rw [h]
      · exact ⟨_, _, .inl (.of e1), atI_nat (j := 0) rfl, by decide, fun p2 H2 n2 s2 e2 => k (.num n) p2 H2 trivial rfl (fun _ => rfl) (s1.trans s2) e2⟩
      · exact ⟨_, _, .inl (.of e1), atI_nat (j := 1) rfl, by decide, fun p2 H2 n2 s2 e2 => k (.word n) p2 H2 trivial rfl (fun _ => rfl) (s1.trans s2) e2⟩
      · exact ⟨_, _, .inl (.of e1), atI_nat (j := 2) rfl, by decide, fun p2 H2 n2 s2 e2 => k (.gap n) p2 H2 trivial rfl (fun _ => rfl) (s1.trans s2) e2⟩
      · exact ⟨_, _, .inl (.of e1), atI_nat (j := 3) rfl, by decide, fun p2 H2 n2 s2 e2 => k (.gap n) p2 H2 trivial rfl (fun _ => rfl) (s1.trans s2) e2⟩
theorem ok__law_near (g : G K mg) : FnOk P w K mg base CX0 4 g.a__law_near g.fd__law_near ["_law_piece_here", "_law_cell"] (sp__law_near K) := by
  refine g.F__law_near.ok sc__law_near (fun vs H Q E h => ?_) (fun cdv A outer s H vs Q E hr h => ?_)
  · obtain ⟨pc, p, c, rfl, _⟩ := h; rfl
  · obtain ⟨pc, p, c, rfl, hp, hok, k⟩ := h
    refine ⟨_, (pss_cons (ps_set (i := 2) sc__law_near.nd rfl (Or.inl rfl) (pe_op op_mod (pv 1) pe_int))
      (pss_cons (ps_if (pt_cmpR op_eq (pe_ix (ix_seqK (K := K) rfl) (pv 0) pe_int (fun _ _ => rfl)) pe_str (nomark _))
        (pss_one (ps_ret (pe_ix (ix_seqK (K := K) rfl) (pe_lstS (pa_cons (pe_ix (ix_seqK (K := K) rfl) (pv 0) pe_int (fun _ _ => rfl)) (pa_cons (pe_op (op_addS (K := K)) (pe_ix (ix_seqK (K := K) rfl) (pv 0) pe_int (fun _ _ => rfl)) pe_str) (pa_cons (pe_op (op_addS (K := K)) (pe_slice (sl_anyK (K := K) rfl) (pe_ix (ix_seqK (K := K) rfl) (pv 0) pe_int (fun _ _ => rfl)) (po_some pe_int) po_none) pe_str) (pa_cons pe_str (pa_cons pe_str (pa_cons (pe_ix (ix_seqK (K := K) rfl) (pv 0) pe_int (fun _ _ => rfl)) (pa_cons (pe_ix (ix_seqK (K := K) rfl) (pv 0) pe_int (fun _ _ => rfl)) (pa_cons pe_str pa_nil))))))))) (pv 2) (fun _ _ => rfl)))) pss_nil)
      (pss_cons (ps_if (pt_cmpR op_eq (pe_ix (ix_seqK (K := K) rfl) (pv 0) pe_int (fun _ _ => rfl)) pe_str (nomark _))
        (pss_cons (ps_set (i := 3) sc__law_near.nd rfl (Or.inl rfl) (pe_call (ok__law_text g) (hr.mono (by decide)) rfl g.m__law_text g.F__law_text.kp g.b__law_text .nil pass0 (pa_cons (pe_op op_fdiv (pv 1) pe_int) pa_nil)))
      (pss_cut (ps_set (i := 4) sc__law_near.nd rfl (Or.inl rfl) (pe_op (op_addS (K := K)) (pe_op (op_addS (K := K)) (pe_ix (ix_seqK (K := K) rfl) (pv 0) pe_int (fun _ _ => rfl)) (pe_ix (ix_seqK (K := K) rfl) (pe_lstS (pa_cons (pv 3) (pa_cons pe_str (pa_cons pe_str (pa_cons pe_str (pa_cons (pv 3) (pa_cons pe_str pa_nil))))))) (pe_op op_mod (pv 2) pe_int) (fun _ _ => rfl))) (pe_ix (ix_seqK (K := K) rfl) (pv 0) pe_int (fun _ _ => rfl))))
      (pss_cut (ps_if (pt_cmpR op_eq (pv 2) pe_int (nomark _))
        (pss_one (ps_set (i := 4) sc__law_near.nd rfl (Or.inl rfl) (pe_op (op_addS (K := K)) (pe_slice (sl_anyK (K := K) rfl) (pv 4) (po_some pe_int) po_none) pe_str))) pss_nil)
      (pss_one (ps_ret (pe_op (op_addS (K := K)) (pv 4) (pe_op op_mulU pe_str (pe_callTy call_intU rfl g.b_int bt_int (pa_cons (pe_cmpR op_eq (pv 4) pe_str (nomark _)) pa_nil))))))))) pss_nil)
      (pss_cons (ps_set (i := 5) sc__law_near.nd rfl (Or.inl rfl) (pe_ix (ix_seqK (K := K) rfl) (pe_lstS (pa_cons pe_int (pa_cons pe_int (pa_cons pe_int (pa_cons pe_int (pa_cons pe_int (pa_cons pe_int (pa_cons pe_int (pa_cons pe_int pa_nil))))))))) (pe_op op_mod (pe_op op_fdiv (pv 1) pe_int) pe_int) (fun _ _ => rfl)))
      (pss_cons (ps_set (i := 6) sc__law_near.nd rfl (Or.inr rfl) (pe_ix (ix_seqK (K := K) rfl) (pe_lstS (pa_cons pe_str (pa_cons pe_str pa_nil))) (pe_op op_mod (pe_op op_fdiv (pv 1) pe_int) pe_int) (fun _ _ => rfl)))
      (pss_cut (ps_set (i := 4) sc__law_near.nd rfl (Or.inl rfl) (pe_bmK (K := K) rfl PySem.F.plainAttrs_str PySem.F.slot_str_join PySem.F.type_str_join (mt_joinK (K := K) rfl) pe_str (pa_cons (pe_comp (fx := ["_law_pool", "_law_cell"]) (fr := [6, 1]) rfl rfl (by decide +kernel) rfl (by decide +kernel) rfl (by decide +kernel) rfl (.cons rfl rfl rfl rfl (.cons rfl rfl rfl rfl .nil)) rfl (pi_range1 rfl g.b_range (pa_cons (pv 5) pa_nil)) (fun _ _ _ => pf_nil) (fun _ _ _ => (pe_ix (ix_seqK (K := K) rfl) (pv 1) (pe_op op_mod (pe_op op_fdiv (pv 2) (pe_op (op_addS (K := K)) pe_int (pe_op op_mulU (pv 0) (pv 0)))) (pe_callB (call_lenK (K := K) rfl) rfl g.b_len PySem.boot_len (pa_cons (pv 1) pa_nil))) (fun _ _ => rfl)))) pa_nil)))
      (pss_cons (ps_if (pt_cmpR op_lt (pv 2) pe_int (nomark _))
        (pss_one (ps_ret (pv 4))) pss_nil)
      (pss_cons (ps_if (pt_cmpR op_eq (pv 2) pe_int (nomark _))
        (pss_one (ps_ret (pe_op (op_addS (K := K)) pe_str (pv 4)))) pss_nil)
      (pss_cons (ps_if (pt_cmpR op_eq (pv 2) pe_int (nomark _))
        (pss_one (ps_ret (pe_op (op_addS (K := K)) (pe_slice (sl_anyK (K := K) rfl) (pv 4) po_none (po_some (pe_un un_neg pe_int))) (pe_ix (ix_seqK (K := K) rfl) (pe_lstS (pa_cons pe_str (pa_cons pe_str (pa_cons pe_str (pa_cons pe_str pa_nil))))) (pe_op op_mod (pe_op op_fdiv (pv 1) pe_int) pe_int) (fun _ _ => rfl))))) pss_nil)
      (pss_one (ps_ret (pe_ix (ix_seqK (K := K) rfl) (pe_lstS (pa_cons pe_str (pa_cons pe_str (pa_cons (pe_call (ok__law_step g) (hr.mono (by decide)) rfl g.m__law_step g.F__law_step.kp g.b__law_step .nil pass0 (pa_cons (pe_op op_fdiv (pv 1) pe_int) pa_nil)) pa_nil)))) (pe_op op_mod (pe_op op_fdiv (pv 1) pe_int) pe_int) (fun _ _ => rfl))))))))))))), ?_⟩
    have eA : Str.ofString "a" = ⟨[97].toArray⟩ := by decide +kernel
    have eB : Str.ofString "b" = ⟨[98].toArray⟩ := by decide +kernel
    have eX : Str.ofString "x" = ⟨[120].toArray⟩ := by decide +kernel
    have e1 : Str.ofString "1" = ⟨[49].toArray⟩ := by decide +kernel
    have e0 : Str.ofString "0" = ⟨[48].toArray⟩ := by decide +kernel
    have d1 : Str.ofString ".." = ⟨sUp.toArray⟩ := by decide +kernel
    have d2 : Str.ofString "." = ⟨sStay.toArray⟩ := by decide +kernel
    rw [eA, eB, eX, e1, e0, d1, d2]
    have gd : ∀ v : V, ∀ H', Same H H' → (∃ l : List Nat, v = tV l ∧ 0 < l.length ∧ l.length ≤ 70 ∧ ∀ c ∈ l, isSg c = true) → Q v H' := fun v H' sm ⟨l, e, h1, h2, h3⟩ => by rw [e]; exact k l H' h1 h2 h3 sm
    have c0 := Int.emod_nonneg c (show (8 : Int) ≠ 0 by decide)
    have c8 := Int.emod_lt_of_pos c (show (0 : Int) < 8 by decide)
    walk_at "rd"
    refine ⟨by decide, _, _, .inr (.of hp), Pc.at0 _, ?_⟩
    refine L2.rd_eqSS.mpr ⟨_, rfl, ?_⟩
    rw [kw_step]
    have hpT : SqT K H p pc.vals := .of hp
    have kwS : ∀ (R : Prop) (R2 : Prop), pc.isStep = false → R2 → if pc.isStep = true then R else R2 := fun R R2 h r => by rw [h]; exact r
    cases pc with
    | step w =>
      obtain ⟨w1, w2, w3, w4⟩ := hok
      refine ite2 (fun _ => ?_) (fun z => absurd rfl z)
      have lw : w.length ≤ sizeLine := le_line (by omega)
      refine ⟨_, _, .inr hpT, atI_nat (j := 1) rfl, _, _, .inr hpT, atI_nat (j := 1) rfl, ?_⟩
      show rAddS K (tV w) (tV [97]) H _
      walk_at "rd"
      refine ⟨le_line (by omega), _, _, .inr hpT, atI_nat (j := 1) rfl, ?_⟩
      show rSl K (tV w) (some 1) none H _
      walk_at "rd"
      refine ⟨lw, le_line (by rw [List.length_drop]; omega), _, _, .inr hpT, atI_nat (j := 1) rfl, _, _, .inr hpT, atI_nat (j := 1) rfl, by decide, fun q H1 n1 s1 e1 => ?_⟩
      obtain ⟨v, hv, hat⟩ := at_modV [tV w, tV (w ++ [97]), tV (w.drop 1 ++ [98]), tV sStay, tV sUp, tV w, tV w, tV [97]] c 8 (by decide) (by simp)
      refine ⟨_, v, .inl (.of e1), hat, gd v H1 s1 ?_⟩
      have sg1 : ∀ (l : List Nat) (d : Nat), (∀ c ∈ l, isSg c = true) → isSg d = true → ∀ c ∈ l ++ [d], isSg c = true := fun l d h1 h2 c hc => by
        rcases List.mem_append.mp hc with z | z
        · exact h1 c z
        · rw [List.mem_singleton.mp z]; exact h2
      simp only [List.mem_cons, List.not_mem_nil, or_false] at hv
      rcases hv with rfl | rfl | rfl | rfl | rfl | rfl | rfl | rfl
      · exact ⟨_, rfl, w1, by omega, w3⟩
      · exact ⟨_, rfl, by simp, by simp; omega, sg1 _ _ w3 (by decide)⟩
      · exact ⟨_, rfl, by simp, by simp; omega, sg1 _ _ (fun c hc => w3 c (List.mem_of_mem_drop hc)) (by decide)⟩
      · exact ⟨_, rfl, by decide, by decide, by decide⟩
      · exact ⟨_, rfl, by decide, by decide, by decide⟩
      · exact ⟨_, rfl, w1, by omega, w3⟩
      · exact ⟨_, rfl, w1, by omega, w3⟩
      · exact ⟨_, rfl, by decide, by decide, by decide⟩
    | part h n t =>
      obtain ⟨o1, o2, o3, o4, o5⟩ := hok
      refine ite2 (fun z => by cases z) (fun _ => ⟨_, _, .inr hpT, Pc.at0 _, ?_⟩)
      refine L2.rd_eqSS.mpr ⟨_, rfl, ?_⟩
      rw [kw_part]
      refine ite2 (fun _ => ⟨⟨by decide, by decide⟩, _, rfl, fun am H1 a1 a2 s1 => ?_⟩) (fun z => absurd rfl z)
      have hp1 := s1 _ _ hp
      refine ⟨fun σ H2 => Same H H2 ∧ ∃ l : List Nat, l.length ≤ 12 ∧ (∀ c ∈ l, isSg c = true) ∧ σ = [some (.ref p), some (.int c), some (.int (c % 8)), some (tV am), some (tV l), none, none], ?_, ?_⟩
      · refine ⟨_, _, .inr (.of hp1), atI_nat (j := 1) rfl, by decide, fun q H2 n2 s2 e2 => ⟨by decide, ?_⟩⟩
        obtain ⟨v, hv, hat⟩ := at_modV [tV am, tV [97], tV [], tV sStay, tV am, tV [49]] (c % 8) 6 (by decide) (by simp)
        have hv' : ∃ l : List Nat, v = tV l ∧ l.length ≤ 4 ∧ ∀ c ∈ l, isSg c = true := by
          simp only [List.mem_cons, List.not_mem_nil, or_false] at hv
          rcases hv with rfl | rfl | rfl | rfl | rfl | rfl
          · exact ⟨_, rfl, a1, a2⟩
          · exact ⟨_, rfl, by decide, by decide⟩
          · exact ⟨_, rfl, by decide, by decide⟩
          · exact ⟨_, rfl, by decide, by decide⟩
          · exact ⟨_, rfl, a1, a2⟩
          · exact ⟨_, rfl, by decide, by decide⟩
        obtain ⟨m, rfl, m1, m2⟩ := hv'
        refine ⟨_, _, .inl (.of e2), hat, ?_⟩
        show rAddS K (tV h) (tV m) H2 _
        walk_at "rd"
        refine ⟨le_line (by omega), _, _, .inr (.of (s2 _ _ hp1)), atI_nat (j := 3) rfl, ?_⟩
        show rAddS K (tV (h ++ m)) (tV t) H2 _
        walk_at "rd"
        refine ⟨le_line (by simp; omega), s1.trans s2, h ++ m ++ t, by simp; omega, fun d hd => ?_, rfl⟩
        simp only [List.mem_append] at hd
        rcases hd with (z | z) | z
        · exact o3 d z
        · exact m2 d z
        · exact o4 d z
      rintro σ H2 ⟨s2, l, l1, l2, rfl⟩
      walk_at "rd"
      refine ⟨fun σ H3 => H3 = H2 ∧ ∃ l : List Nat, l.length ≤ 13 ∧ (∀ c ∈ l, isSg c = true) ∧ σ = [some (.ref p), some (.int c), some (.int (c % 8)), some (tV am), some (tV l), none, none], ?_, ?_⟩
      · refine ite2 (fun _ => ?_) (fun _ => ⟨rfl, l, by omega, l2, rfl⟩)
        refine ⟨le_line (by omega), le_line (by rw [List.length_drop]; omega), rfl, l.drop 1 ++ [120], by simp; omega, fun d hd => ?_, by simp⟩
        rcases List.mem_append.mp hd with z | z
        · exact l2 d (List.mem_of_mem_drop z)
        · rw [List.mem_singleton.mp z]; decide
      rintro σ H3 ⟨rfl, l, l1, l2, rfl⟩
      walk_at "rd"
      by_cases h0 : l = []
      · subst h0
        rw [if_pos rfl, a_one.2]
        refine ⟨a_one.1, by decide, gd _ H3 s2 ⟨[97], rfl, by decide, by decide, by decide⟩⟩
      · rw [if_neg (fun z => h0 (mk_nil.mp z)), a_zero.2]
        refine ⟨a_zero.1, le_line (by rw [mk_len]; simp; omega), gd _ H3 s2 ⟨l, ?_, List.length_pos_iff.mpr h0, by omega, l2⟩⟩
        rw [mk_app, List.append_nil]
    | _ =>
      refine ite2 (fun z => by cases z) (fun _ => ⟨_, _, .inr hpT, Pc.at0 _, ?_⟩)
      refine L2.rd_eqSS.mpr ⟨_, rfl, ?_⟩
      rw [kw_part]
      refine ite2 (fun z => by cases z) (fun _ => ?_)
      refine ⟨by decide, fun p1 H1 n1 s1 e1 => ⟨⟨by decide, by decide⟩, by decide, ?_⟩⟩
      obtain ⟨v, hv, hat⟩ := at_modV [V.int 1, V.int 2, V.int 3, V.int 59, V.int 60, V.int 61, V.int 62, V.int 5] (c / 8) 8 (by decide) (by decide)
      obtain ⟨m, rfl, m1, m2⟩ : ∃ m : Nat, v = .int (m : Int) ∧ 1 ≤ m ∧ m ≤ 62 := by
        simp only [List.mem_cons, List.not_mem_nil, or_false] at hv
        rcases hv with rfl | rfl | rfl | rfl | rfl | rfl | rfl | rfl
        · exact ⟨1, rfl, by decide, by decide⟩
        · exact ⟨2, rfl, by decide, by decide⟩
        · exact ⟨3, rfl, by decide, by decide⟩
        · exact ⟨59, rfl, by decide, by decide⟩
        · exact ⟨60, rfl, by decide, by decide⟩
        · exact ⟨61, rfl, by decide, by decide⟩
        · exact ⟨62, rfl, by decide, by decide⟩
        · exact ⟨5, rfl, by decide, by decide⟩
      refine ⟨_, _, .inl (.of e1), hat, by decide, fun p2 H2 n2 s2 e2 => ⟨⟨by decide, by decide⟩, by decide, ?_⟩⟩
      obtain ⟨v, hv, hat2⟩ := at_modV [V.str (Str.ofString "0123456789"), V.str (Str.ofString "abcxyz")] (c / 64) 2 (by decide) (by decide)
      obtain ⟨pl, rfl, pl1, pl2, pl3⟩ : ∃ pl : List Nat, v = tV pl ∧ 1 ≤ pl.length ∧ pl.length ≤ 10 ∧ ∀ c ∈ pl, isSg c = true := by
        simp only [List.mem_cons, List.not_mem_nil, or_false] at hv
        rcases hv with rfl | rfl
        · exact ⟨[48, 49, 50, 51, 52, 53, 54, 55, 56, 57], congrArg V.str (by decide +kernel), by decide, by decide, by decide⟩
        · exact ⟨[97, 98, 99, 120, 121, 122], congrArg V.str (by decide +kernel), by decide, by decide, by decide⟩
      have s02 := s1.trans s2
      refine ⟨_, _, .inl (.of e2), hat2, ?_⟩
      refine ⟨fun σ H3 => Same H H3 ∧ ∃ l : List Nat, 0 < l.length ∧ l.length ≤ 62 ∧ (∀ c ∈ l, isSg c = true) ∧ σ = [some (.ref p), some (.int c), some (.int (c % 8)), none, some (tV l), some (.int (m : Int)), some (tV pl)], ?_, ?_⟩
      · refine ⟨m, rfl, by omega, by omega, fun p3 n3 => ?_⟩
        rw [Int.toNat_natCast]
        refine comp_rangeJ (fun j ys H3 => Same H2 H3 ∧ ∃ l : List Nat, ys = l.map (fun c => V.str ⟨#[c]⟩) ∧ l.length = j ∧ ∀ c ∈ l, isSg c = true) (le_line (by omega)) ⟨same_new n3, [], rfl, rfl, by simp⟩ (fun j ys H3 T hj hJ e3 hT => ?_) (fun ys H3 hJ e3 => ?_)
        · obtain ⟨s3, l, rfl, hl, hls⟩ := hJ
          have hjj : j * j ≤ 62 * 62 := Nat.mul_le_mul (by omega) (by omega)
          have ejj : (0 + (j : Int)) * (0 + (j : Int)) = ((j * j : Nat) : Int) := by simp
          obtain ⟨d, hd, hda⟩ := at_mod' pl (c / (128 + (0 + (j : Int)) * (0 + (j : Int)))) (pl.length : Int) (by omega) (by omega)
          walk_at "rd"
          refine ⟨.inr ⟨by omega, by omega⟩, ⟨by rw [ejj]; omega, by rw [ejj]; omega⟩, le_line (by omega), by omega, d, le_line (by omega), hda, hT _ _ e3 ⟨same_over n3 s3, l ++ [d], by rw [List.map_append]; rfl, by rw [List.length_append, List.length_singleton, hl], fun e he => ?_⟩⟩
          rcases List.mem_append.mp he with z | z
          · exact hls e z
          · rw [List.mem_singleton.mp z]; exact pl3 d hd
        · obtain ⟨s3, l, rfl, hl, hls⟩ := hJ
          walk_at "rd"
          refine ⟨l.map fun c => ⟨#[c]⟩, .of (by rw [e3, List.map_map]; rfl), ?_, s02.trans s3, l, by omega, by omega, hls, ?_⟩
          · rw [List.map_map, sum_ones, List.length_map]
            simp
            omega
          · rw [join_ones]
      rintro σ H3 ⟨s3, l, l1, l2, l3, rfl⟩
      walk_at "rd"
      refine ite2 (fun _ => k l H3 l1 (by omega) l3 s3) (fun _ => ite2 (fun _ => ⟨le_line (by omega), gd _ H3 s3 ⟨48 :: l, rfl, by simp, by simp; omega, fun d hd => ?_⟩⟩) (fun _ => ite2 (fun _ => ⟨le_line (by omega), by decide, fun p4 H4 n4 s4 e4 => ⟨⟨by decide, by decide⟩, by decide, ?_⟩⟩) (fun _ => ⟨⟨by decide, by decide⟩, _, rfl, fun l4 H4 q1 q2 q3 q4 s4 => ⟨by decide, fun p5 H5 n5 s5 e5 => ⟨⟨by decide, by decide⟩, by decide, ?_⟩⟩⟩)))
      · rcases List.mem_cons.mp hd with rfl | z
        · decide
        · exact l3 d z
      · obtain ⟨v, hv, hat4⟩ := at_modV [V.str (Str.ofString "A"), V.str (Str.ofString "-"), V.str { cps := List.toArray sStay }, V.str { cps := #[126] }] (c / 64) 4 (by decide) (by decide)
        obtain ⟨d, rfl, hd⟩ : ∃ d : Nat, v = tV [d] ∧ isSg d = true := by
          simp only [List.mem_cons, List.not_mem_nil, or_false] at hv
          rcases hv with rfl | rfl | rfl | rfl
          · exact ⟨65, congrArg V.str (by decide +kernel), by decide⟩
          · exact ⟨45, congrArg V.str (by decide +kernel), by decide⟩
          · exact ⟨46, rfl, by decide⟩
          · exact ⟨126, rfl, by decide⟩
        refine ⟨_, _, .inl (.of e4), hat4, ?_⟩
        obtain ⟨l', e', b1, b2⟩ := slice_sub l none (some (-1))
        rw [e']
        show rAddS K (tV l') (tV [d]) H4 Q
        walk_at "rd"
        refine ⟨le_line (by omega), gd _ H4 (s3.trans s4) ⟨l' ++ [d], rfl, by simp, by simp; omega, fun x hx => ?_⟩⟩
        rcases List.mem_append.mp hx with z | z
        · exact l3 x (b2 x z)
        · rw [List.mem_singleton.mp z]; exact hd
      · obtain ⟨v, hv, hat5⟩ := at_modV [tV sStay, tV sUp, tV l4] (c / 64) 3 (by decide) (by simp)
        refine ⟨_, v, .inl (.of e5), hat5, gd v H5 (s3.trans (s4.trans s5)) ?_⟩
        simp only [List.mem_cons, List.not_mem_nil, or_false] at hv
        rcases hv with rfl | rfl | rfl
        · exact ⟨_, rfl, by decide, by decide, by decide⟩
        · exact ⟨_, rfl, by decide, by decide, by decide⟩
        · exact ⟨_, rfl, q1, by omega, q3⟩
theorem ok_bound (g : G K mg) : FnOk P w K mg base CX0 5 g.a_bound g.fd_bound ["pattern", "way"] (sp_bound K) := by
  refine g.F_bound.ok sc_bound (fun vs H Q E h => ?_) (fun cdv A outer s H vs Q E hr h => ?_)
  · obtain ⟨cs, xs, p, q, pw, ps, cl, r, e, ss, rfl, _⟩ := h; rfl
  · obtain ⟨cs, xs, p, q, pw, ps, cl, r, e, ss, rfl, hp, hq, hx, hn, hz, hw, hps, hsn, hsl, k0, k⟩ := h
    refine ⟨_, (pss_cons (ps_if (pt_not (pt_val (pe_call (ok_fits g) (hr.mono (by decide)) rfl g.m_fits g.F_fits.kp g.b_fits .nil pass0 (pa_cons (pv 0) (pa_cons (pv 1) pa_nil)))))
        (pss_one (ps_ret pe_non)) pss_nil)
      (pss_cons (ps_set (i := 2) sc_bound.nd rfl (Or.inl rfl) (pe_lstS pa_nil))
      (pss_cons (ps_for PassesOwn.never rfl (pi_enum (K := K) rfl rfl g.b_enumerate (pa_cons (pe_ix (ix_seqK (K := K) rfl) (pv 0) (pe_glob (v := k_PIECES) rfl g.c_PIECES ⟨_, rfl⟩) (fun _ _ => rfl)) pa_nil)) (pg_tupK (n := 2) (K := K) rfl rfl (pgs_cons (pg_name (i := 3) sc_bound.nd rfl (Or.inl rfl)) (pgs_cons (pg_name (i := 4) sc_bound.nd rfl (Or.inl rfl)) pgs_nil)))
      (pss_one (ps_if (pt_val (pe_call (ok_is_gap g) (hr.mono (by decide)) rfl g.m_is_gap g.F_is_gap.kp g.b_is_gap .nil pass0 (pa_cons (pv 4) pa_nil)))
        (pss_one (ps_expr (pe_bmK (K := K) rfl PySem.F.plainAttrs_list PySem.F.slot_list_append PySem.F.type_list_append mt_append (pv 2) (pa_cons (pe_tupS (pa_cons (pe_call (ok_name_of g) (hr.mono (by decide)) rfl g.m_name_of g.F_name_of.kp g.b_name_of .nil pass0 (pa_cons (pv 4) pa_nil)) (pa_cons (pe_call (ok_bound_value g) (hr.mono (by decide)) rfl g.m_bound_value g.F_bound_value.kp g.b_bound_value .nil pass0 (pa_cons (pv 4) (pa_cons (pe_slice sl_tupA (pe_ix (ix_seqK (K := K) rfl) (pv 1) (pe_glob (v := k_STEPS) rfl g.c_STEPS ⟨_, rfl⟩) (fun _ _ => rfl)) (po_some (pv 3)) po_none) pa_nil))) pa_nil))) pa_nil)))) pss_nil)))
      (pss_one (ps_ret (pv 2)))))), ?_⟩
    walk_at "rd"
    refine ⟨cs, xs, p, q, pw, ps, cl, r, e, ss, rfl, hp, hq, hx, hn, hz, hw, .of hps, hsn, hsl, fun H1 s1 => ⟨_, rfl, ?_⟩⟩
    cases hf : fitsP cs cl r ss e with
    | false => exact ite2 (fun _ => k0 hf H1 s1) (fun z => absurd rfl z)
    | true =>
      refine ite2 (fun z => by cases z) (fun _ => ⟨by decide, fun l H2 n2 s2 e2 => ?_⟩)
      have s02 := s1.trans s2
      have hl := hx.length
      refine ⟨_, _, .inr (s02.tup hp), atI_nat (j := 0) rfl, q, xs, rfl, .of (s02 _ _ hq), ?_⟩
      have nl : H l = none := by
        cases hh : H l with
        | none => rfl
        | some o => rw [s1 _ _ hh] at n2; cases n2
      refine loop_enum (fun i σ H' => ∃ (ys : List V) (v3 v4 : Option V), σ = [some (.ref p), some (.ref pw), some (.ref l), v3, v4] ∧ H' l = some (.lst ys) ∧ BndV H' l (boundM (cs.take i) ss) ys ∧ Same H H') ⟨[], none, none, rfl, e2, .nil, s02⟩ (fun i σ H' _ h => by obtain ⟨_, _, _, _, _, _, hh⟩ := h; exact .of (hh _ _ hq)) ?_ ?_
      · rintro i v σ H3 T hv ⟨ys, v3, v4, rfl, e3, hb, s3⟩ hT
        obtain ⟨c, pc, hc, rfl, hpc⟩ := hx.get hv
        have st : Same H3 (upd H3 T (.tup [.int (i : Int), .ref pc])) := same_new hT
        have hpc' := (s3.trans st).tup hpc
        have et := boundM_take cs ss i c hc
        obtain ⟨s, hs, hfs⟩ := fitsP_at hf hc
        walk_at "rd"
        refine ⟨T, _, rfl, .of upd_same, rfl, _, _, rfl, _, _, rfl, rfl, ?_⟩
        walk_at "rd"
        refine ⟨c, pc, rfl, hpc', _, rfl, ?_⟩
        have hbl := hb.length
        have hbn := boundM_len (cs.take i) ss
        rw [List.length_take] at hbn
        cases hcs : c.isStep with
        | true =>
          refine ite2 (fun z => by cases z) (fun _ => ?_)
          rw [hcs, if_pos rfl, List.append_nil] at et
          exact ⟨ys, _, _, ⟨rfl, rfl⟩, st _ _ e3, by rw [et]; exact hb.mono st, s3.trans st⟩
        | false =>
          refine ite2 (fun _ => ?_) (fun z => absurd rfl z)
          rw [hcs, if_neg (by decide)] at et
          have sT := s3.trans st
          have hsi : ss.drop i = s :: ss.drop (i + 1) := by
            have hi := (List.getElem?_eq_some_iff.mp hs)
            rw [List.drop_eq_getElem_cons hi.1, hi.2]
          obtain ⟨z1, z2⟩ := hz c (List.mem_of_getElem? hc)
          refine ⟨⟨_, .of (st _ _ e3)⟩, c, pc, rfl, hpc', hcs, _, _, .inr (sT.tup hw), atI_nat (j := 1) rfl, ps, _, rfl, sT _ _ hps, fun p4 H4 s4 e4 => ?_⟩
          rw [cut_from, ← List.map_drop, hsi] at e4
          refine ⟨c, s, ss.drop (i + 1), pc, p4, rfl, s4.tup hpc', e4, hfs, hsl s (List.mem_of_getElem? hs), z1, z2, by rw [List.length_drop]; omega, fun v H5 s5 hv5 hn5 => ⟨by decide, fun p6 H6 n6 s6 e6 => ?_⟩⟩
          have e36 := (st.trans (s4.trans (s5.trans s6))) _ _ e3
          have hvn : ∀ q, v = .ref q → q ≠ l := fun q z w => by
            have := hn5 q z
            rw [w, s4 _ _ (st _ _ e3)] at this
            cases this
          refine ⟨_, e36, Nat.lt_of_le_of_lt (show ys.length ≤ 100 by omega) (by decide), ys ++ [.ref p6], _, _, ⟨rfl, rfl⟩, by rw [upd_same], ?_, same_over nl (sT.trans (s4.trans (s5.trans s6)))⟩
          rw [et, hsi]
          exact ((hb.mono (st.trans (s4.trans (s5.trans s6)))).snoc e6 (hv5.mono s6) hvn).upd e36
      · rintro σ H3 ⟨ys, v3, v4, rfl, e3, hb, s3⟩
        rw [hl, List.take_length] at hb
        walk_at "rd"
        exact k hf l ys H3 s3 e3 hb
theorem ok__law_right (g : G K mg) : FnOk P w K mg base CX0 6 g.a__law_right g.fd__law_right ["_law_piece_here", "_law_name", "_law_step_here", "_law_ends"] (sp__law_right K) := by
  refine g.F__law_right.ok sc__law_right (fun vs H Q E h => ?_) (fun cdv A outer s H vs Q E hr h => ?_)
  · obtain ⟨pc, p, n, s, e, rfl, _⟩ := h; rfl
  · obtain ⟨pc, p, n, s, e, rfl, hp, hok, hnm, hns, h0, hl, hs, k⟩ := h
    refine ⟨_, (pss_cut (ps_set (i := 4) sc__law_right.nd rfl (Or.inl rfl) (pe_call (ok__law_value g) (hr.mono (by decide)) rfl g.m__law_value g.F__law_value.kp g.b__law_value .nil pass0 (pa_cons (pv 0) (pa_cons (pv 2) pa_nil))))
      (pss_cut (ps_set (i := 5) sc__law_right.nd rfl (Or.inl rfl) (pe_call (ok_bound g) (hr.mono (by decide)) rfl g.m_bound g.F_bound.kp g.b_bound .nil pass0 (pa_cons (pe_tupS (pa_cons (pe_tupS (pa_cons (pv 0) pa_nil)) (pa_cons (pv 3) pa_nil))) (pa_cons (pe_tupS (pa_cons pe_bl (pa_cons (pe_tupS (pa_cons (pv 2) pa_nil)) (pa_cons (pv 3) pa_nil)))) pa_nil))))
      (pss_cons (ps_if (pt_cmpR op_isNU (pv 4) pe_non (nomark _))
        (pss_one (ps_ret (pe_cmpR op_isNU (pv 5) pe_non (nomark _)))) pss_nil)
      (pss_cons (ps_if (PW.pt (pw_or (pt_not (pt_val (pe_callB call_isiU rfl g.b_isinstance boot_isinstance (pa_cons (pv 5) (pa_cons (pe_bltn (v := .ty "list") rfl g.b_list bt_list rfl) pa_nil))))) (pw_or1 (pt_cmpR (op_neD hr.units) (pe_comp (fx := []) (fr := []) rfl rfl (by decide +kernel) rfl (by decide +kernel) rfl (by decide +kernel) rfl .nil rfl (pi_listK (K := K) rfl (pv 5)) (fun _ _ _ => (pf_one (pt_not (pt_val (pe_callB call_isiU rfl g.b_isinstance boot_isinstance (pa_cons (pv 0) (pa_cons (pe_bltn (v := .ty "tuple") rfl g.b_tuple bt_tuple rfl) pa_nil))))))) (fun _ _ _ => (pv 0))) (pe_lstS pa_nil) (nomark _)))))
        (pss_one (ps_ret pe_bl)) pss_nil)
      (pss_cons (ps_if (pt_cmpR op_eq (pe_ix (ix_seqK (K := K) rfl) (pv 0) pe_int (fun _ _ => rfl)) pe_str (nomark _))
        (pss_one (ps_ret (pe_cmpR (op_eqD hr.units) (pv 5) (pe_lstS pa_nil) (nomark _)))) pss_nil)
      (pss_cons (ps_if (pt_cmpR (op_neD hr.units) (pe_comp (fx := []) (fr := []) rfl rfl (by decide +kernel) rfl (by decide +kernel) rfl (by decide +kernel) rfl .nil rfl (pi_listK (K := K) rfl (pv 5)) (fun _ _ _ => (pf_one (pt_val (pe_callB call_isiU rfl g.b_isinstance boot_isinstance (pa_cons (pe_ix (ix_seqK (K := K) rfl) (pv 0) pe_int (fun _ _ => rfl)) (pa_cons (pe_bltn (v := .ty "bool") rfl g.b_bool bt_bool rfl) pa_nil)))))) (fun _ _ _ => (pv 0))) (pe_lstS pa_nil) (nomark _))
        (pss_one (ps_ret pe_bl)) pss_nil)
      (pss_one (ps_ret (pe_cmpR (op_eqD hr.units) (pv 5) (pe_lstS (pa_cons (pe_tupS (pa_cons (pv 1) (pa_cons (pe_ix (ix_seqK (K := K) rfl) (pv 4) pe_int (fun _ _ => rfl)) pa_nil))) pa_nil)) (nomark _)))))))))), ?_⟩
    walk_at "rd"
    refine ⟨fun σ H1 => Same H H1 ∧ ((fitsM pc s = false ∧ σ = [some (.ref p), some (tV n), some (tV s), some (.bl e), some .non, none]) ∨ (fitsM pc s = true ∧ ∃ (q : Addr) (v : V), H1 q = some (.lst [v]) ∧ (pc.isStep = false → VlV H1 (valM pc [s]) v) ∧ σ = [some (.ref p), some (tV n), some (tV s), some (.bl e), some (.ref q), none])), ?_, ?_⟩
    · exact ⟨pc, p, s, rfl, hp, hok, h0, hl, hs, fun hf H1 s1 => ⟨s1, .inl ⟨hf, rfl⟩⟩, fun hf q v H1 s1 e1 hv => ⟨s1, .inr ⟨hf, q, v, e1, hv, rfl⟩⟩⟩
    have hz : PcSz [pc] := fun c hc => by
      rw [List.mem_singleton.mp hc]
      cases pc with
      | part h m t => exact ⟨by show h.length ≤ 100000; have := hok.1; omega, by show t.length ≤ 100000; have := hok.2.1; omega⟩
      | _ => exact ⟨Nat.zero_le _, Nat.zero_le _⟩
    have bnd : ∀ (H1 : Hp) (R : VK), Same H H1 → (fitsM pc s = false → ∀ H', Same H1 H' → R .non H') → (fitsM pc s = true → ∀ (l : Addr) (ys : List V) (H' : Hp), Same H1 H' → H' l = some (.lst ys) → BndV H' l (boundM [pc] [s]) ys → R (.ref l) H') → 1 ≤ sizeLine ∧ ∀ (p1 : Addr) (Ha : Hp), H1 p1 = none → Same H1 Ha → Ha p1 = some (.tup [.ref p]) → 2 ≤ sizeLine ∧ ∀ (p2 : Addr) (Hb : Hp), Ha p2 = none → Same Ha Hb → Hb p2 = some (.tup [.ref p1, .bl e]) → 1 ≤ sizeLine ∧ ∀ (p3 : Addr) (Hc : Hp), Hb p3 = none → Same Hb Hc → Hc p3 = some (.tup [tV s]) → 3 ≤ sizeLine ∧ ∀ (p4 : Addr) (Hd : Hp), Hc p4 = none → Same Hc Hd → Hd p4 = some (.tup [.bl true, .ref p3, .bl e]) → sp_bound K [.ref p2, .ref p4] Hd R E0 := fun H1 R s1 r0 r1 =>
      ⟨by decide, fun p1 Ha na sa ea => ⟨by decide, fun p2 Hb nb sb eb => ⟨by decide, fun p3 Hc nc sc ec => ⟨by decide, fun p4 Hd nd sd ed => by
        have z := (sa.trans sb).trans (sc.trans sd)
        refine ⟨[pc], [.ref p], p2, p1, p4, p3, e, true, e, [s], rfl, .of ((sc.trans sd) _ _ eb), (sb.trans (sc.trans sd)) _ _ ea, .cons (.of ((s1.trans z) _ _ hp)) .nil, by simp, hz, .of ed, sd _ _ ec, by simp, fun x hx => by rw [List.mem_singleton.mp hx]; omega, ?_, ?_⟩
        · rw [fitsP_one]; exact fun h H' sm => r0 h H' (z.trans sm)
        · rw [fitsP_one]; exact fun h l ys H' sm e1 e2 => r1 h l ys H' (z.trans sm) e1 e2⟩⟩⟩⟩
    rintro σ H1 ⟨s1, ⟨hf, rfl⟩ | ⟨hf, q, v, e1, hv, rfl⟩⟩
    · walk_at "rd"
      refine ⟨fun σ H2 => Same H H2 ∧ σ = [some (.ref p), some (tV n), some (tV s), some (.bl e), some .non, some .non], bnd H1 _ s1 (fun _ H2 s2 => ⟨s1.trans s2, rfl⟩) (fun h => by rw [hf] at h; cases h), ?_⟩
      rintro σ H2 ⟨s2, rfl⟩
      walk_at "rd"
      exact k H2 s2
    walk_at "rd"
    refine ⟨fun σ H2 => Same H1 H2 ∧ ∃ (l : Addr) (ys : List V), H2 l = some (.lst ys) ∧ BndV H2 l (boundM [pc] [s]) ys ∧ σ = [some (.ref p), some (tV n), some (tV s), some (.bl e), some (.ref q), some (.ref l)], bnd H1 _ s1 (fun h => by rw [hf] at h; cases h) (fun _ l ys H2 s2 e2 hb => ⟨s2, l, ys, e2, hb, rfl⟩), ?_⟩
    rintro σ H2 ⟨s2, l, ys, e2, hb, rfl⟩
    have hp2 := (s1.trans s2) _ _ hp
    have e12 := s2 _ _ e1
    walk_at "rd"
    refine ⟨_, L2.kind_lst e2, ?_⟩
    rw [if_neg (by decide)]
    refine ⟨⟨_, .of e2⟩, fun p3 n3 => ?_⟩
    have hyl : ys.length ≤ 1 := by have := hb.length; have := boundM_len [pc] [s]; simp at this; omega
    have htup : ∀ x ∈ ys, ∃ (pp : Addr) (w : V), x = .ref pp ∧ H2 pp = some (.tup [tV pc.name, w]) ∧ VlV H2 (valM pc [s]) w := fun x hx => by
      cases hcs : pc.isStep with
      | true => rw [bnd_step hb hcs] at hx; cases hx
      | false =>
        obtain ⟨pp, w, rfl, h1, h2⟩ := bnd_gap hb hcs
        rw [List.mem_singleton.mp hx]
        exact ⟨pp, w, rfl, h1, h2⟩
    refine comp_listF (fun _ => false) (fun x => x) (.of e2) (le_line (by omega)) n3 (fun i x hx H' R sm hR => ?_) (fun i x hx hf' => by cases hf') (fun H3 s3 e3 => ?_)
    · obtain ⟨pp, w, rfl, h1, h2⟩ := htup x (List.mem_of_getElem? hx)
      walk_at "rd"
      refine ⟨_, L2.kind_tup (sm _ _ h1), ?_⟩
      exact hR H' (Same.refl _)
    have e3 : H3 p3 = some (.lst []) := by rw [e3]; simp
    refine ⟨by decide, fun p4 H4 n4 s4 e4 => ⟨.list [], .list [], .lst (s4 _ _ e3) .nil, .lst e4 .nil, by decide, by decide, _, rfl, ?_⟩⟩
    rw [eqv_nilL]
    refine ite2 (fun z => absurd z (by decide)) (fun _ => ?_)
    have s24 := s3.trans s4
    refine ⟨_, _, .inr (.of (s24 _ _ hp2)), Pc.at0 _, ?_⟩
    refine L2.rd_eqSS.mpr ⟨_, rfl, ?_⟩
    rw [kw_step]
    have s04 := s1.trans (s2.trans s24)
    cases hcs : pc.isStep with
    | true =>
      have hy := bnd_step hb hcs
      subst hy
      refine ite2 (fun _ => ⟨by decide, fun p5 H5 n5 s5 e5 => ⟨.list [], .list [], .lst ((s24.trans s5) _ _ e2) .nil, .lst e5 .nil, by decide, by decide, ?_⟩⟩) (fun z => absurd rfl z)
      rw [eqv_nilL]
      exact k H5 (s04.trans s5)
    | false =>
      obtain ⟨pp, w, rfl, h1, h2⟩ := bnd_gap hb hcs
      refine ite2 (fun z => by cases z) (fun _ => ⟨⟨_, .of (s24 _ _ e2)⟩, fun p5 n5 => ?_⟩)
      refine comp_listF (fun _ => false) (fun x => x) (.of (s24 _ _ e2)) (le_line (by simp)) n5 (fun i x hx H' R sm hR => ?_) (fun i x hx hf' => by cases hf') (fun H5 s5 e5 => ?_)
      · have hx : x = .ref pp := by
          have := List.mem_of_getElem? hx
          simpa using this
        subst hx
        obtain ⟨kk, hk1, hk2⟩ := vl_bool (h2.mono (s24.trans sm))
        walk_at "rd"
        refine ⟨_, _, .inr (.of ((s24.trans sm) _ _ h1)), atI_nat (j := 1) rfl, ?_⟩
        refine ⟨_, hk1, ?_⟩
        rw [hk2]
        exact hR H' (Same.refl _)
      have e5 : H5 p5 = some (.lst []) := by rw [e5]; simp
      refine ⟨by decide, fun p6 H6 n6 s6 e6 => ⟨.list [], .list [], .lst (s6 _ _ e5) .nil, .lst e6 .nil, by decide, by decide, _, rfl, ?_⟩⟩
      rw [eqv_nilL]
      refine ite2 (fun z => absurd z (by decide)) (fun _ => ?_)
      have s26 := s24.trans (s5.trans s6)
      refine ⟨_, _, .inl (.of (s26 _ _ e12)), atI_nat (j := 0) rfl, by decide, fun p7 H7 n7 s7 e7 => ⟨by decide, fun p8 H8 n8 s8 e8 => ?_⟩⟩
      have s28 := s26.trans (s7.trans s8)
      have hv2 := (hv hcs).mono (s2.trans s28)
      have hnn := hnm hcs
      refine ⟨.list [.tuple [st n, vlD (valM pc [s])]], .list [.tuple [st n, vlD (valM pc [s])]], .lst (s28 _ _ e2) (.cons (.tup (by rw [← hnn]; exact s28 _ _ h1) (.cons (.str _) (.cons (h2.mono s28).is .nil))) .nil), .lst e8 (.cons (.tup (s8 _ _ e7) (.cons (.str _) (.cons hv2.is .nil))) .nil), (layPair hns (layVl hs)).shaped (by decide), (layPair hns (layVl hs)).shaped (by decide), ?_⟩
      rw [PySem.SeqAt.eqv_refl _ (layPair hns (layVl hs)).1]
      exact k H8 (s1.trans (s2.trans s28))
theorem ok_law (g : G K mg) : FnOk P w K mg base CX0 7 g.a_law g.fd_law ["_law_script"] (sp_law K) := by
  refine g.F_law.ok sc_law (fun vs H Q E h => ?_) (fun cdv A outer s H vs Q E hr h => ?_)
  · obtain ⟨a, ns, rfl, _⟩ := h; rfl
  · obtain ⟨a, ns, rfl, hS, hn, k⟩ := h
    refine ⟨_, (pss_cons (ps_set (i := 1) sc_law.nd rfl (Or.inl rfl) (pe_ix (ix_seqK (K := K) rfl) (pe_call (ok__law_names g) (hr.mono (by decide)) rfl g.m__law_names g.F__law_names.kp g.b__law_names .nil pass0 (pa_cons (pe_call (ok__law_cell_at g) (hr.mono (by decide)) rfl g.m__law_cell_at g.F__law_cell_at.kp g.b__law_cell_at .nil pass0 (pa_cons (pv 0) (pa_cons pe_int pa_nil))) (pa_cons pe_int pa_nil))) pe_int (fun _ _ => rfl)))
      (pss_cons (ps_for PassesOwn.never rfl (pi_listK (K := K) rfl (pe_op (op_addS (K := K)) (pe_lstS (pa_cons (pe_call (ok__law_cell_at g) (hr.mono (by decide)) rfl g.m__law_cell_at g.F__law_cell_at.kp g.b__law_cell_at .nil pass0 (pa_cons (pv 0) (pa_cons pe_int pa_nil))) pa_nil)) (pe_slice (sl_listS (K := K) rfl) (pv 0) (po_some pe_int) (po_some pe_int)))) (pg_name (i := 2) sc_law.nd rfl (Or.inl rfl))
      (pss_cons (ps_set (i := 3) sc_law.nd rfl (Or.inl rfl) (pe_call (ok__law_piece g) (hr.mono (by decide)) rfl g.m__law_piece g.F__law_piece.kp g.b__law_piece .nil pass0 (pa_cons (pe_op op_fdiv (pv 2) pe_int) (pa_cons (pv 1) pa_nil))))
      (pss_cut (ps_if (pt_cmpR op_eq (pe_op op_mod (pv 2) pe_int) pe_int (nomark _))
        (pss_one (ps_set (i := 3) sc_law.nd rfl (Or.inl rfl) (pe_tupS (pa_cons pe_str (pa_cons (pv 1) pa_nil))))) pss_nil)
      (pss_one (ps_for PassesOwn.never rfl (pi_listK (K := K) rfl (pe_lstS (pa_cons (pe_op op_fdiv (pv 2) pe_int) (pa_cons (pe_op (op_addS (K := K)) (pe_op op_fdiv (pv 2) pe_int) pe_int) pa_nil)))) (pg_name (i := 4) sc_law.nd rfl (Or.inl rfl))
      (pss_cons (ps_set (i := 5) sc_law.nd rfl (Or.inl rfl) (pe_call (ok__law_near g) (hr.mono (by decide)) rfl g.m__law_near g.F__law_near.kp g.b__law_near .nil pass0 (pa_cons (pv 3) (pa_cons (pv 4) pa_nil))))
      (pss_one (ps_if (pt_not (pt_val (pe_call (ok__law_right g) (hr.mono (by decide)) rfl g.m__law_right g.F__law_right.kp g.b__law_right .nil pass0 (pa_cons (pv 3) (pa_cons (pv 1) (pa_cons (pv 5) (pa_cons (pe_cmpR op_eq (pe_op op_mod (pe_op op_fdiv (pv 2) pe_int) pe_int) pe_int (nomark _)) pa_nil)))))))
        (pss_one (ps_ret pe_bl)) pss_nil))))))))
      (pss_one (ps_ret pe_bl)))), ?_⟩
    walk_at "rd"
    refine ⟨a, ns, 0, rfl, hS, _, 1, rfl, by decide, fun nms pn H1 hl1 hns s1 e1 => ?_⟩
    obtain ⟨nm, rfl⟩ : ∃ nm, nms = [nm] := by
      cases nms with
      | nil => cases hl1
      | cons x r =>
        cases r with
        | nil => exact ⟨x, rfl⟩
        | cons y r => simp at hl1
    obtain ⟨m1, m2, m3⟩ := hns nm (by simp)
    have msg := sma_sg m3
    walk_at "rd"
    refine ⟨_, tV nm, .inl (.of e1), atI_nat (j := 0) rfl, a, ns, 1, rfl, s1.seq hS, by decide, fun p2 H2 n2 s2 e2 => ⟨_, (s1.trans s2).seq hS, fun p3 H3 n3 s3 e3 => .inl ?_⟩⟩
    rw [cutV_map] at e3
    have hcl := cutA_len ns (some 2) (some 42)
    refine ⟨_, _, s3 _ _ e2, e3, ?_, fun p4 H4 n4 s4 e4 => ?_⟩
    · exact le_line (by rw [List.length_map]; simp only [List.length_cons, List.length_nil]; omega)
    have e4' : H4 p4 = some (.lst ((ns.getD 1 0 :: cutA ns (some 2) (some 42)).map V.int)) := e4
    refine ⟨p4, rfl, ⟨_, .of e4'⟩, ?_⟩
    generalize ns.getD 1 0 :: cutA ns (some 2) (some 42) = cs at e4'
    refine loop_list (xs := cs.map V.int) (fun i σ H' => Same H4 H' ∧ ∃ v2 v3 v4 v5, σ = [some (.ref a), some (tV nm), v2, v3, v4, v5]) ⟨Same.refl _, _, _, _, _, rfl⟩ (fun i σ H' _ h => .of (h.1 _ _ e4')) ?_ ?_
    rotate_left
    · rintro σ H5 ⟨s5, v2, v3, v4, v5, rfl⟩
      walk_at "rd"
      exact k H5
    rintro i vc σ H5 hvc ⟨s5, v2, v3, v4, v5, rfl⟩
    obtain ⟨c, _, rfl⟩ := List.mem_map.mp (List.mem_of_getElem? hvc)
    walk_at "rd"
    refine ⟨⟨by decide, by decide⟩, _, nm, rfl, fun pc p6 H6 hok hnr hpn s6 e6 => ?_⟩
    refine ⟨fun σ H7 => Same H5 H7 ∧ ∃ (pc : Pc) (p7 : Addr), PcOk pc ∧ (pc.isStep = false → pc.name = nm) ∧ H7 p7 = some (.tup pc.vals) ∧ σ = [some (.ref a), some (tV nm), some (.int c), some (.ref p7), v4, v5], ?_, ?_⟩
    · refine ⟨by decide, ite2 (fun _ => ⟨by decide, fun p7 H7 n7 s7 e7 => ⟨s6.trans s7, .rest nm, p7, trivial, fun _ => rfl, e7, rfl⟩⟩) (fun _ => ⟨s6, pc, p6, hok, hpn, e6, rfl⟩)⟩
    clear hok hnr hpn e6
    rintro σ H7 ⟨s7, pc, p7, hok, hpn, e7, rfl⟩
    walk_at "rd"
    refine ⟨⟨by decide, by decide⟩, ⟨by decide, by decide⟩, by decide, fun p8 H8 n8 s8 e8 => ⟨⟨_, .of e8⟩, ?_⟩⟩
    refine loop_list (xs := [V.int (c / 64), V.int (c / 512 + 3)]) (fun i σ H' => Same H8 H' ∧ ∃ v4 v5, σ = [some (.ref a), some (tV nm), some (.int c), some (.ref p7), v4, v5]) ⟨Same.refl _, _, _, rfl⟩ (fun i σ H' _ h => .of (h.1 _ _ e8)) ?_ ?_
    rotate_left
    · rintro σ H9 ⟨s9, v4, v5, rfl⟩
      exact ⟨s5.trans (s7.trans (s8.trans s9)), _, _, _, _, rfl⟩
    rintro j vd σ H9 hvd ⟨s9, v4, v5, rfl⟩
    obtain ⟨d, rfl⟩ : ∃ d : Int, vd = .int d := by
      have := List.mem_of_getElem? hvd
      simp only [List.mem_cons, List.not_mem_nil, or_false] at this
      rcases this with rfl | rfl
      · exact ⟨_, rfl⟩
      · exact ⟨_, rfl⟩
    have e9 := (s8.trans s9) _ _ e7
    walk_at "rd"
    refine ⟨pc, p7, d, rfl, e9, hok, fun l H10 l1 l2 l3 s10 => ⟨⟨by decide, by decide⟩, by decide, ?_⟩⟩
    refine ⟨pc, p7, nm, l, _, rfl, s10 _ _ e9, hok, hpn, msg, l1, by omega, l3, fun H11 s11 => ⟨true, rfl, ?_⟩⟩
    rw [if_neg (by decide)]
    exact ⟨s9.trans (s10.trans s11), _, _, rfl, rfl⟩
end
theorem all_mk {l : PySem.W.OpenLaw} {w : World} {K : PySem.W.Frag} {h : Heap} {mg : Str → Option Value} {fa : Addr} (X : K.In h) (Gl : h.Ns mainGlobals mg) (hfa : mg "law" = some (.ref fa))
    {f1 : Addr} {od1 an1 : Option Addr} {sl1 : Array (Option Value)} {oc1 kV1 dc1 pm1 cd1 ct1 : Value}
    (a1 : PySem.W.nsIn K mainGlobals "made_of" = some (some (.ref f1))) (l1 : K.lookup f1 = some ⟨oc1, od1, .func (PySem.W.fnOf "made_of" "made_of" (defArgs s_made_of) (defBody s_made_of) (defScope s_made_of) .none kV1 dc1 pm1 an1 cd1 ct1), sl1⟩)
    {f2 : Addr} {od2 an2 : Option Addr} {sl2 : Array (Option Value)} {oc2 kV2 dc2 pm2 cd2 ct2 : Value}
    (a2 : PySem.W.nsIn K mainGlobals "is_dot" = some (some (.ref f2))) (l2 : K.lookup f2 = some ⟨oc2, od2, .func (PySem.W.fnOf "is_dot" "is_dot" (defArgs s_is_dot) (defBody s_is_dot) (defScope s_is_dot) .none kV2 dc2 pm2 an2 cd2 ct2), sl2⟩)
    {f3 : Addr} {od3 an3 : Option Addr} {sl3 : Array (Option Value)} {oc3 kV3 dc3 pm3 cd3 ct3 : Value}
    (a3 : PySem.W.nsIn K mainGlobals "is_gap" = some (some (.ref f3))) (l3 : K.lookup f3 = some ⟨oc3, od3, .func (PySem.W.fnOf "is_gap" "is_gap" (defArgs s_is_gap) (defBody s_is_gap) (defScope s_is_gap) .none kV3 dc3 pm3 an3 cd3 ct3), sl3⟩)
    {f4 : Addr} {od4 an4 : Option Addr} {sl4 : Array (Option Value)} {oc4 kV4 dc4 pm4 cd4 ct4 : Value}
    (a4 : PySem.W.nsIn K mainGlobals "name_of" = some (some (.ref f4))) (l4 : K.lookup f4 = some ⟨oc4, od4, .func (PySem.W.fnOf "name_of" "name_of" (defArgs s_name_of) (defBody s_name_of) (defScope s_name_of) .none kV4 dc4 pm4 an4 cd4 ct4), sl4⟩)
    {f5 : Addr} {od5 an5 : Option Addr} {sl5 : Array (Option Value)} {oc5 kV5 dc5 pm5 cd5 ct5 : Value}
    (a5 : PySem.W.nsIn K mainGlobals "head_of" = some (some (.ref f5))) (l5 : K.lookup f5 = some ⟨oc5, od5, .func (PySem.W.fnOf "head_of" "head_of" (defArgs s_head_of) (defBody s_head_of) (defScope s_head_of) .none kV5 dc5 pm5 an5 cd5 ct5), sl5⟩)
    {f6 : Addr} {od6 an6 : Option Addr} {sl6 : Array (Option Value)} {oc6 kV6 dc6 pm6 cd6 ct6 : Value}
    (a6 : PySem.W.nsIn K mainGlobals "tail_of" = some (some (.ref f6))) (l6 : K.lookup f6 = some ⟨oc6, od6, .func (PySem.W.fnOf "tail_of" "tail_of" (defArgs s_tail_of) (defBody s_tail_of) (defScope s_tail_of) .none kV6 dc6 pm6 an6 cd6 ct6), sl6⟩)
    {f7 : Addr} {od7 an7 : Option Addr} {sl7 : Array (Option Value)} {oc7 kV7 dc7 pm7 cd7 ct7 : Value}
    (a7 : PySem.W.nsIn K mainGlobals "has_rest" = some (some (.ref f7))) (l7 : K.lookup f7 = some ⟨oc7, od7, .func (PySem.W.fnOf "has_rest" "has_rest" (defArgs s_has_rest) (defBody s_has_rest) (defScope s_has_rest) .none kV7 dc7 pm7 an7 cd7 ct7), sl7⟩)
    {f8 : Addr} {od8 an8 : Option Addr} {sl8 : Array (Option Value)} {oc8 kV8 dc8 pm8 cd8 ct8 : Value}
    (a8 : PySem.W.nsIn K mainGlobals "_law_cell_at" = some (some (.ref f8))) (l8 : K.lookup f8 = some ⟨oc8, od8, .func (PySem.W.fnOf "_law_cell_at" "_law_cell_at" (defArgs s__law_cell_at) (defBody s__law_cell_at) (defScope s__law_cell_at) .none kV8 dc8 pm8 an8 cd8 ct8), sl8⟩)
    {f9 : Addr} {od9 an9 : Option Addr} {sl9 : Array (Option Value)} {oc9 kV9 dc9 pm9 cd9 ct9 : Value}
    (a9 : PySem.W.nsIn K mainGlobals "_law_names" = some (some (.ref f9))) (l9 : K.lookup f9 = some ⟨oc9, od9, .func (PySem.W.fnOf "_law_names" "_law_names" (defArgs s__law_names) (defBody s__law_names) (defScope s__law_names) .none kV9 dc9 pm9 an9 cd9 ct9), sl9⟩)
    {f10 : Addr} {od10 an10 : Option Addr} {sl10 : Array (Option Value)} {oc10 kV10 dc10 pm10 cd10 ct10 : Value}
    (a10 : PySem.W.nsIn K mainGlobals "_law_signs" = some (some (.ref f10))) (l10 : K.lookup f10 = some ⟨oc10, od10, .func (PySem.W.fnOf "_law_signs" "_law_signs" (defArgs s__law_signs) (defBody s__law_signs) (defScope s__law_signs) .none kV10 dc10 pm10 an10 cd10 ct10), sl10⟩)
    {f11 : Addr} {od11 an11 : Option Addr} {sl11 : Array (Option Value)} {oc11 kV11 dc11 pm11 cd11 ct11 : Value}
    (a11 : PySem.W.nsIn K mainGlobals "_law_is_figures" = some (some (.ref f11))) (l11 : K.lookup f11 = some ⟨oc11, od11, .func (PySem.W.fnOf "_law_is_figures" "_law_is_figures" (defArgs s__law_is_figures) (defBody s__law_is_figures) (defScope s__law_is_figures) .none kV11 dc11 pm11 an11 cd11 ct11), sl11⟩)
    {f12 : Addr} {od12 an12 : Option Addr} {sl12 : Array (Option Value)} {oc12 kV12 dc12 pm12 cd12 ct12 : Value}
    (a12 : PySem.W.nsIn K mainGlobals "spread" = some (some (.ref f12))) (l12 : K.lookup f12 = some ⟨oc12, od12, .func (PySem.W.fnOf "spread" "spread" (defArgs s_spread) (defBody s_spread) (defScope s_spread) .none kV12 dc12 pm12 an12 cd12 ct12), sl12⟩)
    {f13 : Addr} {od13 an13 : Option Addr} {sl13 : Array (Option Value)} {oc13 kV13 dc13 pm13 cd13 ct13 : Value}
    (a13 : PySem.W.nsIn K mainGlobals "fits_part" = some (some (.ref f13))) (l13 : K.lookup f13 = some ⟨oc13, od13, .func (PySem.W.fnOf "fits_part" "fits_part" (defArgs s_fits_part) (defBody s_fits_part) (defScope s_fits_part) .none kV13 dc13 pm13 an13 cd13 ct13), sl13⟩)
    {f14 : Addr} {od14 an14 : Option Addr} {sl14 : Array (Option Value)} {oc14 kV14 dc14 pm14 cd14 ct14 : Value}
    (a14 : PySem.W.nsIn K mainGlobals "is_number" = some (some (.ref f14))) (l14 : K.lookup f14 = some ⟨oc14, od14, .func (PySem.W.fnOf "is_number" "is_number" (defArgs s_is_number) (defBody s_is_number) (defScope s_is_number) .none kV14 dc14 pm14 an14 cd14 ct14), sl14⟩)
    {f15 : Addr} {od15 an15 : Option Addr} {sl15 : Array (Option Value)} {oc15 kV15 dc15 pm15 cd15 ct15 : Value}
    (a15 : PySem.W.nsIn K mainGlobals "is_word" = some (some (.ref f15))) (l15 : K.lookup f15 = some ⟨oc15, od15, .func (PySem.W.fnOf "is_word" "is_word" (defArgs s_is_word) (defBody s_is_word) (defScope s_is_word) .none kV15 dc15 pm15 an15 cd15 ct15), sl15⟩)
    {f16 : Addr} {od16 an16 : Option Addr} {sl16 : Array (Option Value)} {oc16 kV16 dc16 pm16 cd16 ct16 : Value}
    (a16 : PySem.W.nsIn K mainGlobals "bound_value" = some (some (.ref f16))) (l16 : K.lookup f16 = some ⟨oc16, od16, .func (PySem.W.fnOf "bound_value" "bound_value" (defArgs s_bound_value) (defBody s_bound_value) (defScope s_bound_value) .none kV16 dc16 pm16 an16 cd16 ct16), sl16⟩)
    {f17 : Addr} {od17 an17 : Option Addr} {sl17 : Array (Option Value)} {oc17 kV17 dc17 pm17 cd17 ct17 : Value}
    (a17 : PySem.W.nsIn K mainGlobals "_law_text" = some (some (.ref f17))) (l17 : K.lookup f17 = some ⟨oc17, od17, .func (PySem.W.fnOf "_law_text" "_law_text" (defArgs s__law_text) (defBody s__law_text) (defScope s__law_text) .none kV17 dc17 pm17 an17 cd17 ct17), sl17⟩)
    {f18 : Addr} {od18 an18 : Option Addr} {sl18 : Array (Option Value)} {oc18 kV18 dc18 pm18 cd18 ct18 : Value}
    (a18 : PySem.W.nsIn K mainGlobals "_law_value" = some (some (.ref f18))) (l18 : K.lookup f18 = some ⟨oc18, od18, .func (PySem.W.fnOf "_law_value" "_law_value" (defArgs s__law_value) (defBody s__law_value) (defScope s__law_value) .none kV18 dc18 pm18 an18 cd18 ct18), sl18⟩)
    {f19 : Addr} {od19 an19 : Option Addr} {sl19 : Array (Option Value)} {oc19 kV19 dc19 pm19 cd19 ct19 : Value}
    (a19 : PySem.W.nsIn K mainGlobals "step_fits" = some (some (.ref f19))) (l19 : K.lookup f19 = some ⟨oc19, od19, .func (PySem.W.fnOf "step_fits" "step_fits" (defArgs s_step_fits) (defBody s_step_fits) (defScope s_step_fits) .none kV19 dc19 pm19 an19 cd19 ct19), sl19⟩)
    {f20 : Addr} {od20 an20 : Option Addr} {sl20 : Array (Option Value)} {oc20 kV20 dc20 pm20 cd20 ct20 : Value}
    (a20 : PySem.W.nsIn K mainGlobals "_law_step" = some (some (.ref f20))) (l20 : K.lookup f20 = some ⟨oc20, od20, .func (PySem.W.fnOf "_law_step" "_law_step" (defArgs s__law_step) (defBody s__law_step) (defScope s__law_step) .none kV20 dc20 pm20 an20 cd20 ct20), sl20⟩)
    {f21 : Addr} {od21 an21 : Option Addr} {sl21 : Array (Option Value)} {oc21 kV21 dc21 pm21 cd21 ct21 : Value}
    (a21 : PySem.W.nsIn K mainGlobals "fits" = some (some (.ref f21))) (l21 : K.lookup f21 = some ⟨oc21, od21, .func (PySem.W.fnOf "fits" "fits" (defArgs s_fits) (defBody s_fits) (defScope s_fits) .none kV21 dc21 pm21 an21 cd21 ct21), sl21⟩)
    {f22 : Addr} {od22 an22 : Option Addr} {sl22 : Array (Option Value)} {oc22 kV22 dc22 pm22 cd22 ct22 : Value}
    (a22 : PySem.W.nsIn K mainGlobals "_law_piece" = some (some (.ref f22))) (l22 : K.lookup f22 = some ⟨oc22, od22, .func (PySem.W.fnOf "_law_piece" "_law_piece" (defArgs s__law_piece) (defBody s__law_piece) (defScope s__law_piece) .none kV22 dc22 pm22 an22 cd22 ct22), sl22⟩)
    {f23 : Addr} {od23 an23 : Option Addr} {sl23 : Array (Option Value)} {oc23 kV23 dc23 pm23 cd23 ct23 : Value}
    (a23 : PySem.W.nsIn K mainGlobals "_law_near" = some (some (.ref f23))) (l23 : K.lookup f23 = some ⟨oc23, od23, .func (PySem.W.fnOf "_law_near" "_law_near" (defArgs s__law_near) (defBody s__law_near) (defScope s__law_near) .none kV23 dc23 pm23 an23 cd23 ct23), sl23⟩)
    {f24 : Addr} {od24 an24 : Option Addr} {sl24 : Array (Option Value)} {oc24 kV24 dc24 pm24 cd24 ct24 : Value}
    (a24 : PySem.W.nsIn K mainGlobals "bound" = some (some (.ref f24))) (l24 : K.lookup f24 = some ⟨oc24, od24, .func (PySem.W.fnOf "bound" "bound" (defArgs s_bound) (defBody s_bound) (defScope s_bound) .none kV24 dc24 pm24 an24 cd24 ct24), sl24⟩)
    {f25 : Addr} {od25 an25 : Option Addr} {sl25 : Array (Option Value)} {oc25 kV25 dc25 pm25 cd25 ct25 : Value}
    (a25 : PySem.W.nsIn K mainGlobals "_law_right" = some (some (.ref f25))) (l25 : K.lookup f25 = some ⟨oc25, od25, .func (PySem.W.fnOf "_law_right" "_law_right" (defArgs s__law_right) (defBody s__law_right) (defScope s__law_right) .none kV25 dc25 pm25 an25 cd25 ct25), sl25⟩)
    {f26 : Addr} {od26 an26 : Option Addr} {sl26 : Array (Option Value)} {oc26 kV26 dc26 pm26 cd26 ct26 : Value}
    (a26 : PySem.W.nsIn K mainGlobals "law" = some (some (.ref f26))) (l26 : K.lookup f26 = some ⟨oc26, od26, .func (PySem.W.fnOf "law" "law" (defArgs s_law) (defBody s_law) (defScope s_law) .none kV26 dc26 pm26 an26 cd26 ct26), sl26⟩)
    {t_SMALL_LETTERS : Tok} (e_SMALL_LETTERS : PySem.W.nsIn K mainGlobals "SMALL_LETTERS" = some (some (.str (Str.ofString "abcdefghijklmnopqrstuvwxyz") t_SMALL_LETTERS)))
    {t_FIGURES : Tok} (e_FIGURES : PySem.W.nsIn K mainGlobals "FIGURES" = some (some (.str (Str.ofString "0123456789") t_FIGURES)))
    {t_ROOTED : Tok} (e_ROOTED : PySem.W.nsIn K mainGlobals "ROOTED" = some (some (.int 0 t_ROOTED)))
    {t_STEPS : Tok} (e_STEPS : PySem.W.nsIn K mainGlobals "STEPS" = some (some (.int 1 t_STEPS)))
    {t_ENDS : Tok} (e_ENDS : PySem.W.nsIn K mainGlobals "ENDS" = some (some (.int 2 t_ENDS)))
    {t_STAY : Tok} (e_STAY : PySem.W.nsIn K mainGlobals "STAY" = some (some (.str (Str.ofString ".") t_STAY)))
    {t_UP : Tok} (e_UP : PySem.W.nsIn K mainGlobals "UP" = some (some (.str (Str.ofString "..") t_UP)))
    {t_PIECES : Tok} (e_PIECES : PySem.W.nsIn K mainGlobals "PIECES" = some (some (.int 0 t_PIECES)))
    {t_CLOSES : Tok} (e_CLOSES : PySem.W.nsIn K mainGlobals "CLOSES" = some (some (.int 1 t_CLOSES)))
    {t_LONGEST_NUMBER : Tok} (e_LONGEST_NUMBER : PySem.W.nsIn K mainGlobals "LONGEST_NUMBER" = some (some (.int 60 t_LONGEST_NUMBER)))
    {t_LONGEST_WORD : Tok} (e_LONGEST_WORD : PySem.W.nsIn K mainGlobals "LONGEST_WORD" = some (some (.int 60 t_LONGEST_WORD)))
    (z_all : PySem.W.nsIn K mainGlobals "all" = some none)
    (z_len : PySem.W.nsIn K mainGlobals "len" = some none)
    (z_range : PySem.W.nsIn K mainGlobals "range" = some none)
    (z_int : PySem.W.nsIn K mainGlobals "int" = some none)
    (z_list : PySem.W.nsIn K mainGlobals "list" = some none)
    (z_zip : PySem.W.nsIn K mainGlobals "zip" = some none)
    (z_enumerate : PySem.W.nsIn K mainGlobals "enumerate" = some none)
    (z_isinstance : PySem.W.nsIn K mainGlobals "isinstance" = some none)
    (z_bool : PySem.W.nsIn K mainGlobals "bool" = some none)
    (z_tuple : PySem.W.nsIn K mainGlobals "tuple" = some none)
    (kk : (PySem.W.keepIn K (.ref f1) && (PySem.W.keepIn K (.ref f2) && (PySem.W.keepIn K (.ref f3) && (PySem.W.keepIn K (.ref f4) && (PySem.W.keepIn K (.ref f5) && (PySem.W.keepIn K (.ref f6) && (PySem.W.keepIn K (.ref f7) && (PySem.W.keepIn K (.ref f8) && (PySem.W.keepIn K (.ref f9) && (PySem.W.keepIn K (.ref f10) && (PySem.W.keepIn K (.ref f11) && (PySem.W.keepIn K (.ref f12) && (PySem.W.keepIn K (.ref f13) && (PySem.W.keepIn K (.ref f14) && (PySem.W.keepIn K (.ref f15) && (PySem.W.keepIn K (.ref f16) && (PySem.W.keepIn K (.ref f17) && (PySem.W.keepIn K (.ref f18) && (PySem.W.keepIn K (.ref f19) && (PySem.W.keepIn K (.ref f20) && (PySem.W.keepIn K (.ref f21) && (PySem.W.keepIn K (.ref f22) && (PySem.W.keepIn K (.ref f23) && (PySem.W.keepIn K (.ref f24) && (PySem.W.keepIn K (.ref f25) && (PySem.W.keepIn K (.ref f26))))))))))))))))))))))))))) = true)
    (cc : (PySem.W.codeIn K cd1 "made_of" && (PySem.W.codeIn K cd2 "is_dot" && (PySem.W.codeIn K cd3 "is_gap" && (PySem.W.codeIn K cd4 "name_of" && (PySem.W.codeIn K cd5 "head_of" && (PySem.W.codeIn K cd6 "tail_of" && (PySem.W.codeIn K cd7 "has_rest" && (PySem.W.codeIn K cd8 "_law_cell_at" && (PySem.W.codeIn K cd9 "_law_names" && (PySem.W.codeIn K cd10 "_law_signs" && (PySem.W.codeIn K cd11 "_law_is_figures" && (PySem.W.codeIn K cd12 "spread" && (PySem.W.codeIn K cd13 "fits_part" && (PySem.W.codeIn K cd14 "is_number" && (PySem.W.codeIn K cd15 "is_word" && (PySem.W.codeIn K cd16 "bound_value" && (PySem.W.codeIn K cd17 "_law_text" && (PySem.W.codeIn K cd18 "_law_value" && (PySem.W.codeIn K cd19 "step_fits" && (PySem.W.codeIn K cd20 "_law_step" && (PySem.W.codeIn K cd21 "fits" && (PySem.W.codeIn K cd22 "_law_piece" && (PySem.W.codeIn K cd23 "_law_near" && (PySem.W.codeIn K cd24 "bound" && (PySem.W.codeIn K cd25 "_law_right" && (PySem.W.codeIn K cd26 "law")))))))))))))))))))))))))) = true) :
    ∃ fd : FuncData, (∀ (s : Shared) (v : Value), BindsTo s fd ⟨[v], []⟩ [("_law_script", v)]) ∧ ∀ base : Heap, K.In base → base.Ns mainGlobals mg → FnOk l.prog w K mg base CX0 7 fa fd ["_law_script"] (sp_law K) := by
  simp only [Bool.and_eq_true] at kk cc
  obtain ⟨k1, k2, k3, k4, k5, k6, k7, k8, k9, k10, k11, k12, k13, k14, k15, k16, k17, k18, k19, k20, k21, k22, k23, k24, k25, k26⟩ := kk
  obtain ⟨c1, c2, c3, c4, c5, c6, c7, c8, c9, c10, c11, c12, c13, c14, c15, c16, c17, c18, c19, c20, c21, c22, c23, c24, c25, c26⟩ := cc
  have e := hfa.symm.trans (PySem.W.mg_of X Gl a26)
  have e2 : f26 = fa := by cases e; rfl
  subst e2
  let g : G K mg := {
    a_made_of := f1, fd_made_of := _, F_made_of := fun_mk (st := s_made_of) l1 c1 k1, m_made_of := PySem.W.mg_of X Gl a1,
    b_made_of := (fun_mk (st := s_made_of) l1 c1 k1).binds (ps := ["text", "signs"]) fun _ _ _ _ _ _ us hl => match us, hl with | [_, _], _ => rfl,
    a_is_dot := f2, fd_is_dot := _, F_is_dot := fun_mk (st := s_is_dot) l2 c2 k2, m_is_dot := PySem.W.mg_of X Gl a2,
    b_is_dot := (fun_mk (st := s_is_dot) l2 c2 k2).binds (ps := ["step"]) fun _ _ _ _ _ _ us hl => match us, hl with | [_], _ => rfl,
    a_is_gap := f3, fd_is_gap := _, F_is_gap := fun_mk (st := s_is_gap) l3 c3 k3, m_is_gap := PySem.W.mg_of X Gl a3,
    b_is_gap := (fun_mk (st := s_is_gap) l3 c3 k3).binds (ps := ["piece"]) fun _ _ _ _ _ _ us hl => match us, hl with | [_], _ => rfl,
    a_name_of := f4, fd_name_of := _, F_name_of := fun_mk (st := s_name_of) l4 c4 k4, m_name_of := PySem.W.mg_of X Gl a4,
    b_name_of := (fun_mk (st := s_name_of) l4 c4 k4).binds (ps := ["gap"]) fun _ _ _ _ _ _ us hl => match us, hl with | [_], _ => rfl,
    a_head_of := f5, fd_head_of := _, F_head_of := fun_mk (st := s_head_of) l5 c5 k5, m_head_of := PySem.W.mg_of X Gl a5,
    b_head_of := (fun_mk (st := s_head_of) l5 c5 k5).binds (ps := ["piece"]) fun _ _ _ _ _ _ us hl => match us, hl with | [_], _ => rfl,
    a_tail_of := f6, fd_tail_of := _, F_tail_of := fun_mk (st := s_tail_of) l6 c6 k6, m_tail_of := PySem.W.mg_of X Gl a6,
    b_tail_of := (fun_mk (st := s_tail_of) l6 c6 k6).binds (ps := ["piece"]) fun _ _ _ _ _ _ us hl => match us, hl with | [_], _ => rfl,
    a_has_rest := f7, fd_has_rest := _, F_has_rest := fun_mk (st := s_has_rest) l7 c7 k7, m_has_rest := PySem.W.mg_of X Gl a7,
    b_has_rest := (fun_mk (st := s_has_rest) l7 c7 k7).binds (ps := ["pattern"]) fun _ _ _ _ _ _ us hl => match us, hl with | [_], _ => rfl,
    a__law_cell_at := f8, fd__law_cell_at := _, F__law_cell_at := fun_mk (st := s__law_cell_at) l8 c8 k8, m__law_cell_at := PySem.W.mg_of X Gl a8,
    b__law_cell_at := (fun_mk (st := s__law_cell_at) l8 c8 k8).binds (ps := ["_law_script", "_law_k"]) fun _ _ _ _ _ _ us hl => match us, hl with | [_, _], _ => rfl,
    a__law_names := f9, fd__law_names := _, F__law_names := fun_mk (st := s__law_names) l9 c9 k9, m__law_names := PySem.W.mg_of X Gl a9,
    b__law_names := (fun_mk (st := s__law_names) l9 c9 k9).binds (ps := ["_law_cell", "_law_many"]) fun _ _ _ _ _ _ us hl => match us, hl with | [_, _], _ => rfl,
    a__law_signs := f10, fd__law_signs := _, F__law_signs := fun_mk (st := s__law_signs) l10 c10 k10, m__law_signs := PySem.W.mg_of X Gl a10,
    b__law_signs := (fun_mk (st := s__law_signs) l10 c10 k10).binds (ps := []) fun _ _ _ _ _ _ us hl => match us, hl with | [], _ => rfl,
    a__law_is_figures := f11, fd__law_is_figures := _, F__law_is_figures := fun_mk (st := s__law_is_figures) l11 c11 k11, m__law_is_figures := PySem.W.mg_of X Gl a11,
    b__law_is_figures := (fun_mk (st := s__law_is_figures) l11 c11 k11).binds (ps := ["_law_step_here"]) fun _ _ _ _ _ _ us hl => match us, hl with | [_], _ => rfl,
    a_spread := f12, fd_spread := _, F_spread := fun_mk (st := s_spread) l12 c12 k12, m_spread := PySem.W.mg_of X Gl a12,
    b_spread := (fun_mk (st := s_spread) l12 c12 k12).binds (ps := ["pattern", "count"]) fun _ _ _ _ _ _ us hl => match us, hl with | [_, _], _ => rfl,
    a_fits_part := f13, fd_fits_part := _, F_fits_part := fun_mk (st := s_fits_part) l13 c13 k13, m_fits_part := PySem.W.mg_of X Gl a13,
    b_fits_part := (fun_mk (st := s_fits_part) l13 c13 k13).binds (ps := ["part", "step"]) fun _ _ _ _ _ _ us hl => match us, hl with | [_, _], _ => rfl,
    a_is_number := f14, fd_is_number := _, F_is_number := fun_mk (st := s_is_number) l14 c14 k14, m_is_number := PySem.W.mg_of X Gl a14,
    b_is_number := (fun_mk (st := s_is_number) l14 c14 k14).binds (ps := ["text"]) fun _ _ _ _ _ _ us hl => match us, hl with | [_], _ => rfl,
    a_is_word := f15, fd_is_word := _, F_is_word := fun_mk (st := s_is_word) l15 c15 k15, m_is_word := PySem.W.mg_of X Gl a15,
    b_is_word := (fun_mk (st := s_is_word) l15 c15 k15).binds (ps := ["text"]) fun _ _ _ _ _ _ us hl => match us, hl with | [_], _ => rfl,
    a_bound_value := f16, fd_bound_value := _, F_bound_value := fun_mk (st := s_bound_value) l16 c16 k16, m_bound_value := PySem.W.mg_of X Gl a16,
    b_bound_value := (fun_mk (st := s_bound_value) l16 c16 k16).binds (ps := ["gap", "steps"]) fun _ _ _ _ _ _ us hl => match us, hl with | [_, _], _ => rfl,
    a__law_text := f17, fd__law_text := _, F__law_text := fun_mk (st := s__law_text) l17 c17 k17, m__law_text := PySem.W.mg_of X Gl a17,
    b__law_text := (fun_mk (st := s__law_text) l17 c17 k17).binds (ps := ["_law_cell"]) fun _ _ _ _ _ _ us hl => match us, hl with | [_], _ => rfl,
    a__law_value := f18, fd__law_value := _, F__law_value := fun_mk (st := s__law_value) l18 c18 k18, m__law_value := PySem.W.mg_of X Gl a18,
    b__law_value := (fun_mk (st := s__law_value) l18 c18 k18).binds (ps := ["_law_piece_here", "_law_step_here"]) fun _ _ _ _ _ _ us hl => match us, hl with | [_, _], _ => rfl,
    a_step_fits := f19, fd_step_fits := _, F_step_fits := fun_mk (st := s_step_fits) l19 c19 k19, m_step_fits := PySem.W.mg_of X Gl a19,
    b_step_fits := (fun_mk (st := s_step_fits) l19 c19 k19).binds (ps := ["piece", "step"]) fun _ _ _ _ _ _ us hl => match us, hl with | [_, _], _ => rfl,
    a__law_step := f20, fd__law_step := _, F__law_step := fun_mk (st := s__law_step) l20 c20 k20, m__law_step := PySem.W.mg_of X Gl a20,
    b__law_step := (fun_mk (st := s__law_step) l20 c20 k20).binds (ps := ["_law_cell"]) fun _ _ _ _ _ _ us hl => match us, hl with | [_], _ => rfl,
    a_fits := f21, fd_fits := _, F_fits := fun_mk (st := s_fits) l21 c21 k21, m_fits := PySem.W.mg_of X Gl a21,
    b_fits := (fun_mk (st := s_fits) l21 c21 k21).binds (ps := ["pattern", "way"]) fun _ _ _ _ _ _ us hl => match us, hl with | [_, _], _ => rfl,
    a__law_piece := f22, fd__law_piece := _, F__law_piece := fun_mk (st := s__law_piece) l22 c22 k22, m__law_piece := PySem.W.mg_of X Gl a22,
    b__law_piece := (fun_mk (st := s__law_piece) l22 c22 k22).binds (ps := ["_law_cell", "_law_name"]) fun _ _ _ _ _ _ us hl => match us, hl with | [_, _], _ => rfl,
    a__law_near := f23, fd__law_near := _, F__law_near := fun_mk (st := s__law_near) l23 c23 k23, m__law_near := PySem.W.mg_of X Gl a23,
    b__law_near := (fun_mk (st := s__law_near) l23 c23 k23).binds (ps := ["_law_piece_here", "_law_cell"]) fun _ _ _ _ _ _ us hl => match us, hl with | [_, _], _ => rfl,
    a_bound := f24, fd_bound := _, F_bound := fun_mk (st := s_bound) l24 c24 k24, m_bound := PySem.W.mg_of X Gl a24,
    b_bound := (fun_mk (st := s_bound) l24 c24 k24).binds (ps := ["pattern", "way"]) fun _ _ _ _ _ _ us hl => match us, hl with | [_, _], _ => rfl,
    a__law_right := f25, fd__law_right := _, F__law_right := fun_mk (st := s__law_right) l25 c25 k25, m__law_right := PySem.W.mg_of X Gl a25,
    b__law_right := (fun_mk (st := s__law_right) l25 c25 k25).binds (ps := ["_law_piece_here", "_law_name", "_law_step_here", "_law_ends"]) fun _ _ _ _ _ _ us hl => match us, hl with | [_, _, _, _], _ => rfl,
    a_law := f26, fd_law := _, F_law := fun_mk (st := s_law) l26 c26 k26, m_law := PySem.W.mg_of X Gl a26,
    b_law := (fun_mk (st := s_law) l26 c26 k26).binds (ps := ["_law_script"]) fun _ _ _ _ _ _ us hl => match us, hl with | [_], _ => rfl,
    t_SMALL_LETTERS := t_SMALL_LETTERS, c_SMALL_LETTERS := PySem.W.mg_of X Gl e_SMALL_LETTERS,
    t_FIGURES := t_FIGURES, c_FIGURES := PySem.W.mg_of X Gl e_FIGURES,
    t_ROOTED := t_ROOTED, c_ROOTED := PySem.W.mg_of X Gl e_ROOTED,
    t_STEPS := t_STEPS, c_STEPS := PySem.W.mg_of X Gl e_STEPS,
    t_ENDS := t_ENDS, c_ENDS := PySem.W.mg_of X Gl e_ENDS,
    t_STAY := t_STAY, c_STAY := PySem.W.mg_of X Gl e_STAY,
    t_UP := t_UP, c_UP := PySem.W.mg_of X Gl e_UP,
    t_PIECES := t_PIECES, c_PIECES := PySem.W.mg_of X Gl e_PIECES,
    t_CLOSES := t_CLOSES, c_CLOSES := PySem.W.mg_of X Gl e_CLOSES,
    t_LONGEST_NUMBER := t_LONGEST_NUMBER, c_LONGEST_NUMBER := PySem.W.mg_of X Gl e_LONGEST_NUMBER,
    t_LONGEST_WORD := t_LONGEST_WORD, c_LONGEST_WORD := PySem.W.mg_of X Gl e_LONGEST_WORD,
    b_all := PySem.W.mg_none_of X Gl z_all,
    b_len := PySem.W.mg_none_of X Gl z_len,
    b_range := PySem.W.mg_none_of X Gl z_range,
    b_int := PySem.W.mg_none_of X Gl z_int,
    b_list := PySem.W.mg_none_of X Gl z_list,
    b_zip := PySem.W.mg_none_of X Gl z_zip,
    b_enumerate := PySem.W.mg_none_of X Gl z_enumerate,
    b_isinstance := PySem.W.mg_none_of X Gl z_isinstance,
    b_bool := PySem.W.mg_none_of X Gl z_bool,
    b_tuple := PySem.W.mg_none_of X Gl z_tuple }
  exact ⟨g.fd_law, fun s v => .of_eq rfl, fun base _ _ => ok_law g⟩
theorem walk {l : PySem.W.OpenLaw} {q : Program} {loose : List Str} {XP : (Str → Option Value) → Heap → Prop} {YP : World → Heap → Prop} {d : DefRec} {K : Params → PySem.W.Frag} (hn : l.most = some 63) (hdf : d.params.defaults = [])
    (hY : ∀ (w : World) (h : Heap), YP w h → (K w.params).In h)
    (F : ∀ (w : World) (mg : Str → Option Value) (fa : Addr) (h : Heap), (K w.params).In h → h.Ns mainGlobals mg → mg d.name = some (.ref fa) →
      ∃ fd : FuncData, (∀ (s : Shared) (u : Value), BindsTo s fd ⟨[u], []⟩ [("_law_script", u)]) ∧ ∀ base : Heap, (K w.params).In base → base.Ns mainGlobals mg → FnOk l.prog w (K w.params) mg base CX0 7 fa fd ["_law_script"] (sp_law (K w.params))) :
    PySem.W.WalkO q loose XP YP l.row.toRowW d [] (fun f vs => PySem.call f vs) :=
  L2.walk_of (n := 63) (k := 7) (x := "_law_script") (CX := fun _ => CX0) (sp := fun w => sp_law (K w.params)) hn (by decide) hdf ⟨rfl, by decide, by decide⟩ hY F (fun _ _ a ns hl _ hS => ⟨a, ns, rfl, hS, hl, fun _ => rfl⟩) fun _ _ _ _ _ z => z
end Wm
/-! names that are taken, so that helper lemmas which nothing needs are not made -/
theorem PySem.W.Fast.tw9849920638484329676 : True := trivial
theorem PySem.W.Fast.tw9478148336646923877 : True := trivial
theorem PySem.W.Fast.tw16486283943242463205 : True := trivial
theorem PySem.W.Fast.tw12086615744707811831 : True := trivial
theorem PySem.W.Fast.tw16000052412613760718 : True := trivial
theorem PySem.W.Fast.tw5970157960408671014 : True := trivial
theorem PySem.W.Fast.tw16171694487831984401 : True := trivial
theorem PySem.W.Fast.tw16223296170775499284 : True := trivial
theorem PySem.W.Fast.tw15287042879680429075 : True := trivial
theorem PySem.W.Fast.tw8896855273728601444 : True := trivial
theorem PySem.W.Fast.tw13562372236848060974 : True := trivial
theorem PySem.W.Fast.tw4228320621851428164 : True := trivial
theorem PySem.W.Fast.tw18350685479025645774 : True := trivial
theorem PySem.W.Fast.tw865672135604900735 : True := trivial
theorem PySem.W.Fast.tw14279687026202285321 : True := trivial
theorem PySem.W.Fast.tw16146312717800425624 : True := trivial
theorem PySem.W.Fast.tw8825561257579881988 : True := trivial
theorem PySem.W.Fast.tw15299665622252035313 : True := trivial
theorem PySem.W.Fast.tw11602851373312311522 : True := trivial
theorem PySem.W.Fast.tw14412843366567174618 : True := trivial
theorem PySem.W.Fast.tw11326182934109340458 : True := trivial
theorem PySem.W.Fast.tw18206921787466104056 : True := trivial
theorem PySem.W.Fast.tw18326539773591289469 : True := trivial
theorem PySem.W.Fast.tw834609058279902507 : True := trivial
theorem PySem.W.Fast.tw16405566614642101635 : True := trivial
theorem PySem.W.Fast.tw13421965442084574505 : True := trivial
theorem PySem.W.Fast.tw7742880105249042862 : True := trivial
theorem PySem.W.Fast.tw15381037211278907318 : True := trivial
theorem PySem.W.Fast.tw13470797156677304035 : True := trivial
theorem PySem.W.Fast.tw10246904327828190846 : True := trivial
theorem PySem.W.Fast.tw18388101493325633500 : True := trivial
theorem PySem.W.Fast.tw15363018604951779885 : True := trivial
theorem PySem.W.Fast.tw8803419772245467482 : True := trivial
theorem PySem.W.Fast.tw1794605309285363856 : True := trivial
theorem PySem.W.Fast.tw3688077195921463774 : True := trivial
theorem PySem.W.Fast.tw12132957781872153361 : True := trivial
theorem PySem.W.Fast.tw7236530168262462855 : True := trivial
theorem PySem.W.Fast.tw16126541740841547622 : True := trivial
theorem PySem.W.Fast.tw7409996303071374986 : True := trivial
theorem PySem.W.Fast.tw12426645266314597485 : True := trivial
theorem PySem.W.Fast.tw18216322421247212009 : True := trivial
theorem PySem.W.Fast.tw9199858800632088152 : True := trivial
theorem PySem.W.Fast.tw14673178127917436752 : True := trivial
theorem PySem.W.Fast.tw2743314822013532268 : True := trivial
theorem PySem.W.Fast.tw9219678575452906711 : True := trivial
theorem PySem.W.Fast.tw12536452094768720165 : True := trivial
theorem PySem.W.Fast.tw4568147653434539159 : True := trivial
theorem PySem.W.Fast.tw13411085197942863363 : True := trivial
theorem PySem.W.Fast.tw2658613704193432201 : True := trivial
theorem PySem.W.Fast.tw9681028404290975191 : True := trivial
theorem PySem.W.Fast.tw15279763305655216027 : True := trivial
theorem PySem.W.Fast.tw8507085507613352841 : True := trivial
theorem PySem.W.Fast.tw9061683935875451803 : True := trivial
theorem PySem.W.Fast.tw18219074527290736180 : True := trivial
theorem PySem.W.Fast.tw15350213815535096876 : True := trivial
theorem PySem.W.Fast.tw9107009156261893861 : True := trivial
theorem PySem.W.Fast.tw8711361069375506834 : True := trivial
theorem PySem.W.Fast.tw16596559331958200031 : True := trivial
open PySem PySem.W PyProof.Rows
set_option maxRecDepth 100000 in
set_option maxHeartbeats 0 in
theorem PySem.Challenge.cw_waymark_k53_steps_and_single_pieces_holds : PySem.Challenge.rw_waymark_k53_steps_and_single_pieces.Holds := by
  w_on; o_law; k_head; (case hw => w_witness2)
  k_fill
  refine Wm.walk (l := PySem.Challenge.rw_waymark_k53_steps_and_single_pieces) rfl rfl (fun w h Y => PySem.W.kIn_of Y) ?F
  case F =>
    intro w mg fa h KX G hmg
    refine' Wm.all_mk KX G hmg ?a1 ?l1 ?a2 ?l2 ?a3 ?l3 ?a4 ?l4 ?a5 ?l5 ?a6 ?l6 ?a7 ?l7 ?a8 ?l8 ?a9 ?l9 ?a10 ?l10 ?a11 ?l11 ?a12 ?l12 ?a13 ?l13 ?a14 ?l14 ?a15 ?l15 ?a16 ?l16 ?a17 ?l17 ?a18 ?l18 ?a19 ?l19 ?a20 ?l20 ?a21 ?l21 ?a22 ?l22 ?a23 ?l23 ?a24 ?l24 ?a25 ?l25 ?a26 ?l26 ?e_SMALL_LETTERS ?e_FIGURES ?e_ROOTED ?e_STEPS ?e_ENDS ?e_STAY ?e_UP ?e_PIECES ?e_CLOSES ?e_LONGEST_NUMBER ?e_LONGEST_WORD ?z_all ?z_len ?z_range ?z_int ?z_list ?z_zip ?z_enumerate ?z_isinstance ?z_bool ?z_tuple ?kk ?cc
    (case a1 => k_is)
    (case l1 => k_is)
    (case a2 => k_is)
    (case l2 => k_is)
    (case a3 => k_is)
    (case l3 => k_is)
    (case a4 => k_is)
    (case l4 => k_is)
    (case a5 => k_is)
    (case l5 => k_is)
    (case a6 => k_is)
    (case l6 => k_is)
    (case a7 => k_is)
    (case l7 => k_is)
    (case a8 => k_is)
    (case l8 => k_is)
    (case a9 => k_is)
    (case l9 => k_is)
    (case a10 => k_is)
    (case l10 => k_is)
    (case a11 => k_is)
    (case l11 => k_is)
    (case a12 => k_is)
    (case l12 => k_is)
    (case a13 => k_is)
    (case l13 => k_is)
    (case a14 => k_is)
    (case l14 => k_is)
    (case a15 => k_is)
    (case l15 => k_is)
    (case a16 => k_is)
    (case l16 => k_is)
    (case a17 => k_is)
    (case l17 => k_is)
    (case a18 => k_is)
    (case l18 => k_is)
    (case a19 => k_is)
    (case l19 => k_is)
    (case a20 => k_is)
    (case l20 => k_is)
    (case a21 => k_is)
    (case l21 => k_is)
    (case a22 => k_is)
    (case l22 => k_is)
    (case a23 => k_is)
    (case l23 => k_is)
    (case a24 => k_is)
    (case l24 => k_is)
    (case a25 => k_is)
    (case l25 => k_is)
    (case a26 => k_is)
    (case l26 => k_is)
    (case e_SMALL_LETTERS => k_is)
    (case e_FIGURES => k_is)
    (case e_ROOTED => k_is)
    (case e_STEPS => k_is)
    (case e_ENDS => k_is)
    (case e_STAY => k_is)
    (case e_UP => k_is)
    (case e_PIECES => k_is)
    (case e_CLOSES => k_is)
    (case e_LONGEST_NUMBER => k_is)
    (case e_LONGEST_WORD => k_is)
    (case z_all => k_is)
    (case z_len => k_is)
    (case z_range => k_is)
    (case z_int => k_is)
    (case z_list => k_is)
    (case z_zip => k_is)
    (case z_enumerate => k_is)
    (case z_isinstance => k_is)
    (case z_bool => k_is)
    (case z_tuple => k_is)
    (case kk => first | k_is | with_unfolding_all kernel_rfl | with_unfolding_all rfl)
    (case cc => first | k_is | with_unfolding_all kernel_rfl | with_unfolding_all rfl)
