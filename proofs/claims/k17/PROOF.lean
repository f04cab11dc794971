import PyProof.Rows.All
import Wide.All
import OpenK.AllK
import Wide.FinOn
import Lean
import PyProof.EqAt
import PyProof.EqKinds
import PyProof.TupleCall
import PySem.Challenge.RW_waymark_k17_what_is_no_text
set_option Elab.async false
set_option linter.all false
set_option maxRecDepth 100000
/-! THE HAND LAYER, for ints, bools, texts, own classes, LISTS and tuples (index, slices, in, append, pop ..), calls, loops. Paste it whole ahead of your own text; what your proof does not reach may be deleted. -/
namespace L2
open PySem PySem.Spec PyProof.Rows

/-- a key: an int or a str -/
abbrev Key := Sum Int Str
def keyIs : Key → Value → Bool
  | .inl k, v => Value.isInt k v
  | .inr x, v => Value.isStrOf x v
def keyH (w : World) : Key → Int
  | .inl k => hashInt k
  | .inr x => hashStr w x
theorem keyIs_shape : ∀ {k : Key} {v : Value}, keyIs k v = true → (∃ i t, k = Sum.inl i ∧ v = Value.int i t) ∨ (∃ x t, k = Sum.inr x ∧ v = Value.str x t)
  | .inl i, v, h => by
    obtain ⟨t, e⟩ := Value.isInt_shape (k := i) (v := v) h
    exact .inl ⟨i, t, rfl, e⟩
  | .inr x, v, h => by
    obtain ⟨t, e⟩ := Value.isStrOf_shape (x := x) (v := v) h
    exact .inr ⟨x, t, rfl, e⟩
theorem key_ll (a b : Int) : decide ((Sum.inl a : Key) = Sum.inl b) = (a == b) := by
  by_cases e : a = b
  · subst e; simp
  · have h : ¬ (Sum.inl a : Key) = Sum.inl b := fun q => e (Sum.inl.inj q)
    rw [decide_eq_false h]
    exact (beq_eq_false_iff_ne.mpr e).symm
theorem key_rr (a b : Str) : decide ((Sum.inr a : Key) = Sum.inr b) = decide (a = b) := by
  by_cases e : a = b
  · subst e; simp
  · have h : ¬ (Sum.inr a : Key) = Sum.inr b := fun q => e (Sum.inr.inj q)
    rw [decide_eq_false h, decide_eq_false e]
theorem key_lr (a : Int) (b : Str) : decide ((Sum.inl a : Key) = Sum.inr b) = false := decide_eq_false (fun q => nomatch q)
theorem key_rl (a : Str) (b : Int) : decide ((Sum.inr a : Key) = Sum.inl b) = false := decide_eq_false (fun q => nomatch q)

def mixKind (prog : Program) (w : World) : PySem.KeyKind prog w Key where
  is := keyIs
  hash := keyH w
  inj := fun v a b ha hb => by
    rcases keyIs_shape ha with ⟨i, t, rfl, rfl⟩ | ⟨x, t, rfl, rfl⟩
    · rcases keyIs_shape hb with ⟨j, u, rfl, e⟩ | ⟨y, u, rfl, e⟩
      · injection e with e1 _; rw [e1]
      · exact nomatch e
    · rcases keyIs_shape hb with ⟨j, u, rfl, e⟩ | ⟨y, u, rfl, e⟩
      · exact nomatch e
      · injection e with e1 _; rw [e1]
  byValue := fun k v h => by
    rcases keyIs_shape h with ⟨i, t, rfl, rfl⟩ | ⟨x, t, rfl, rfl⟩ <;> rfl
  pyHash := fun hv h => by
    rcases keyIs_shape hv with ⟨i, t, rfl, rfl⟩ | ⟨x, t, rfl, rfl⟩
    · exact wpAny_pyHash_int h
    · exact wpAny_pyHash_str h
  eqBool := fun hu hv h => by
    rcases keyIs_shape hu with ⟨i, t, rfl, rfl⟩ | ⟨x, t, rfl, rfl⟩
    · rcases keyIs_shape hv with ⟨j, u, rfl, rfl⟩ | ⟨y, u, rfl, rfl⟩
      · rw [key_ll] at h; exact wpAny_eqBool_int h
      · rw [key_lr] at h; exact SeqAt.EqAt.int_str i t y u _ _ _ _ h
    · rcases keyIs_shape hv with ⟨j, u, rfl, rfl⟩ | ⟨y, u, rfl, rfl⟩
      · rw [key_rl] at h; exact SeqAt.EqAt.str_int x t j u _ _ _ _ h
      · rw [key_rr] at h; exact wpAny_eqBool_str h
  «strs» := fun k x t v h => by
    rcases keyIs_shape h with ⟨i, u, rfl, e⟩ | ⟨y, u, rfl, e⟩
    · exact nomatch e
    · injection e with e1 _
      subst e1
      cases v <;> rfl

end L2

namespace L2
open PySem PySem.Spec PyProof.Rows

/-- a value, without the heap -/
inductive V where
  | non | bl (b : Bool) | int (i : Int) | str (x : Str) | byt (b : Array UInt8) | flt (b : UInt64) | ref (a : Addr) | ty (n : String)
  deriving DecidableEq

def RelV : V → Value → Prop
  | .non, u => u = Value.none
  | .bl b, u => u = Value.bool b
  | .int i, u => ∃ t, u = Value.int i t
  | .str x, u => ∃ t, u = Value.str x t
  | .byt b, u => ∃ t, u = Value.bytes b t
  | .flt b, u => ∃ t, u = Value.float b t
  | .ref a, u => u = Value.ref a
  | .ty n, u => u = Value.type n

abbrev Vals : List V → List Value → Prop := Paired RelV
theorem Vals.length {xs : List V} {us : List Value} (r : Vals xs us) : xs.length = us.length := Paired.length r
theorem Vals.get : ∀ {xs : List V} {us : List Value} {i : Nat} {x : V}, Vals xs us → xs[i]? = some x → ∃ u, us[i]? = some u ∧ RelV x u
  | _, _, _, _, .nil, e => by simp at e
  | _, _, 0, _, .cons r _, e => by simp at e; subst e; exact ⟨_, rfl, r⟩
  | _, _, i + 1, x, .cons _ t, e => by
    obtain ⟨u, h1, h2⟩ := Vals.get (i := i) (x := x) t (by simpa using e)
    exact ⟨u, by simpa using h1, h2⟩
theorem Vals.set {x : V} {u : Value} (r : RelV x u) : ∀ {xs : List V} {us : List Value} (i : Nat), Vals xs us → Vals (xs.set i x) (us.set i u)
  | _, _, _, .nil => .nil
  | _, _, 0, .cons _ t => .cons r t
  | _, _, i + 1, .cons q t => .cons q (Vals.set r i t)
theorem Vals.append : ∀ {xs ys : List V} {us ws : List Value}, Vals xs us → Vals ys ws → Vals (xs ++ ys) (us ++ ws)
  | _, _, _, _, .nil, s => s
  | _, _, _, _, .cons r t, s => .cons r (Vals.append t s)
theorem Vals.take : ∀ {xs : List V} {us : List Value} (n : Nat), Vals xs us → Vals (xs.take n) (us.take n)
  | _, _, 0, _ => .nil
  | _, _, _ + 1, .nil => .nil
  | _, _, n + 1, .cons r t => .cons r (Vals.take n t)
theorem Vals.drop : ∀ {xs : List V} {us : List Value} (n : Nat), Vals xs us → Vals (xs.drop n) (us.drop n)
  | _, _, 0, r => r
  | _, _, _ + 1, .nil => .nil
  | _, _, n + 1, .cons _ t => Vals.drop n t
theorem Vals.none_of : ∀ {xs : List V} {us : List Value} {i : Nat}, Vals xs us → xs[i]? = none → us[i]? = none := fun {xs us i} r e => by
  have h1 := r.length
  have h2 : xs.length ≤ i := List.getElem?_eq_none_iff.mp e
  exact List.getElem?_eq_none_iff.mpr (by omega)

def RelO : Option V → Option Value → Prop
  | some v, some u => RelV v u
  | none, none => True
  | _, _ => False
def KV {κ : Type} : List (κ × V) → List (κ × Value) → Prop := Paired fun (p : κ × V) (q : κ × Value) => p.1 = q.1 ∧ RelV p.2 q.2

/-- a key of a dict (00_mix): an int or a text -/
def kV : Key → V
  | .inl i => .int i
  | .inr x => .str x

/-- what stands at a tracked address -/
inductive HO where
  /-- a list -/
  | lst (xs : List V)
  /-- a tuple (never changes) -/
  | tup (xs : List V)
  /-- a dict whose keys are ints and texts; one whose keys are tuples of ints and texts (the empty one is both) -/
  | dK (kvs : List (Key × V)) | dT (kvs : List (List Key × V))
  /-- a set of ints: its members, its size -/
  | set (S : Int → Bool) (n : Nat)
  /-- an instance of the class at C, its dict at dx, its attributes -/
  | ins (C dx : Addr) (fs : List (Str × V))
  /-- the dict of the instance at x -/
  | own (x : Addr)
  /-- the dict of an exception -/
  | xd (fs : List (Str × V))
  /-- a bound method, f of x -/
  | met (f x : Addr)
  /-- a range object lo, lo + 1, .. below hi -/
  | rng (lo hi : Int)
  /-- a thing that is known to the object (the script; a dict while a loop walks it): read, never written while it is so -/
  | frz (o : Obj) (u : HO)
  /-- a code object's table -/
  | tbl (ps : Array Value)
  /-- any other thing, by what is true of its one object (a def of one's own: SetO a S n := HO.ext fun h => ..) -/
  | ext (φ : Heap → Prop)

abbrev Hp := Addr → Option HO
def upd (H : Hp) (a : Addr) (o : HO) : Hp := fun b => if b = a then some o else H b
theorem upd_same {H : Hp} {a : Addr} {o : HO} : upd H a o a = some o := by unfold upd; rw [if_pos rfl]
theorem upd_ne {H : Hp} {a b : Addr} {o : HO} (h : b ≠ a) : upd H a o b = H b := by unfold upd; rw [if_neg h]
theorem upd_upd {H : Hp} {a : Addr} {o u : HO} : upd (upd H a o) a u = upd H a u := by
  funext b; unfold upd; split <;> rfl
/-- two objects of different content stand apart -/
theorem ne_of {H : Hp} {a b : Addr} {o u : HO} (h : H a = some o) (h' : H b = some u) (d : o ≠ u) : a ≠ b := by
  intro e; subst e; rw [h] at h'; exact d (Option.some.inj h')
theorem ne_of_none {H : Hp} {a b : Addr} {o : HO} (h : H a = some o) (h' : H b = none) : a ≠ b := by
  intro e; subst e; rw [h] at h'; cases h'

section
variable (P : Program) (w : World)
def ObjOk (H : Hp) (h : Heap) (a : Addr) : HO → Prop
  | .lst xs => xs.length ≤ sizeLine ∧ ∃ (its : List Value) (n : Nat), Vals xs its ∧ h.get? a = some { cls := .type "list", data := .seq its.toArray n }
  | .tup xs => xs.length ≤ sizeLine ∧ ∃ its : List Value, Vals xs its ∧ IsTup h a its.toArray
  | .dK kvs => kvs.length ≤ sizeLine ∧ (a == sysModules) = false ∧ ∃ vs, KV kvs vs ∧ h.DictOf (mixKind P w) a vs
  | .dT kvs => kvs.length ≤ sizeLine ∧ (a == sysModules) = false ∧ ∃ xs : List (List Key × Addr × Value),
      Paired (fun (p : List Key × V) (q : List Key × Addr × Value) => p.1 = q.1 ∧ H q.2.1 = some (.tup (p.1.map kV)) ∧ RelV p.2 q.2.2) kvs xs ∧
      ∃ o es ep, h.get? a = some o ∧ o.ExactDict ∧ o.data = .dict es ep ∧ es.toList = xs.map (entryOfKey (tupleKind (mixKind P w))) ∧ (xs.map (·.1)).Nodup
  | .set S n => h.SetOf (intKind P w) a S n
  | .ins C dx fs => H dx = some (.own a) ∧ fs.length ≤ 1000 ∧ dx ≠ a ∧ h.get? a = some (PySem.W.instObj C dx) ∧
      ∃ mA, h.Ns1 dx mA ∧ (∀ f, RelO (fs.lookup f) (mA f)) ∧ PySem.Within mA (fs.map (·.1))
  | .own _ => ∃ o, h.get? a = some o
  | .xd fs => ∃ mA, h.Ns1 a mA ∧ ∀ f, RelO (fs.lookup f) (mA f)
  | .rng lo hi => ∃ t u v, h.get? a = some { cls := .type "range", data := .fields #[.int lo t, .int hi u, .int 1 v] }
  | .frz o u => h.get? a = some o ∧ ObjOk H h a u
  | .tbl ps => h.get? a = some { cls := .none, data := .fields ps }
  | .met f x => h.get? a = some (PySem.W.methodObj (.ref f) (.ref x))
  | .ext φ => φ h ∧ (∃ o, h.get? a = some o) ∧ ∀ h1 h2 : Heap, φ h1 → (∀ o, h1.get? a = some o → h2.get? a = some o) → φ h2
/-- the abstract heap is held -/
def HOk (H : Hp) (h : Heap) : Prop := ∀ a o, H a = some o → ObjOk P w H h a o
end

section
variable {P : Program} {w : World} {H H' : Hp} {h h' : Heap} {a : Addr} {o : HO}
theorem ObjOk.lt (x : ObjOk P w H h a o) : a < h.objs.size := by
  cases o with
  | lst xs => obtain ⟨_, _, _, _, e⟩ := x; exact Heap.lt_size e
  | tup xs => obtain ⟨_, _, _, p⟩ := x; exact p.lt
  | dK kvs => obtain ⟨_, _, _, _, o, _, _, e, _⟩ := x; exact Heap.lt_size e
  | dT kvs => obtain ⟨_, _, _, _, o, _, _, e, _⟩ := x; exact Heap.lt_size e
  | set S n => obtain ⟨o, _, _, _, e, _⟩ := x; exact Heap.lt_size e
  | ins C dx fs => obtain ⟨_, _, _, e, _⟩ := x; exact Heap.lt_size e
  | own y => obtain ⟨_, e⟩ := x; exact Heap.lt_size e
  | xd fs => obtain ⟨_, ⟨_, _, _, e, _⟩, _⟩ := x; exact Heap.lt_size e
  | rng lo hi => obtain ⟨_, _, _, e⟩ := x; exact Heap.lt_size e
  | frz ob u => obtain ⟨e, _⟩ := x; exact Heap.lt_size e
  | tbl ps => exact Heap.lt_size (show h.get? a = some _ from x)
  | met f y => exact Heap.lt_size (show h.get? a = some _ from x)
  | ext φ => obtain ⟨_, ⟨_, e⟩, _⟩ := x; exact Heap.lt_size e
theorem Paired.mapP {α β : Type} {F G : α → β → Prop} : ∀ {l₁ : List α} {l₂ : List β}, Paired F l₁ l₂ → (∀ a b, F a b → G a b) → Paired G l₁ l₂
  | _, _, .nil, _ => .nil
  | _, _, .cons r t, f => .cons (f _ _ r) (Paired.mapP t f)
/-- what an object's description leans on: its own object, its own dict, the tuples -/
theorem ObjOk.stay (x : ObjOk P w H h a o) (k : ∀ b u, (b = a ∨ H b = some (.own a)) → h.get? b = some u → h'.get? b = some u)
    (ho : ∀ b, H b = some (.own a) → H' b = some (.own a)) (ht : ∀ b xs, H b = some (.tup xs) → H' b = some (.tup xs)) : ObjOk P w H' h' a o := by
  induction o with
  | lst xs => obtain ⟨z, its, n, r, e⟩ := x; exact ⟨z, its, n, r, k _ _ (.inl rfl) e⟩
  | tup xs => obtain ⟨z, its, r, ob, e, c⟩ := x; exact ⟨z, its, r, ob, k _ _ (.inl rfl) e, c⟩
  | dK kvs => obtain ⟨z, y, vs, r, ob, es, ep, e, c⟩ := x; exact ⟨z, y, vs, r, ob, es, ep, k _ _ (.inl rfl) e, c⟩
  | dT kvs =>
    obtain ⟨z, y, xs, r, ob, es, ep, e, c⟩ := x
    exact ⟨z, y, xs, Paired.mapP r fun p q z => ⟨z.1, ht _ _ z.2.1, z.2.2⟩, ob, es, ep, k _ _ (.inl rfl) e, c⟩
  | set S n => obtain ⟨ob, es, ep, t, e, c⟩ := x; exact ⟨ob, es, ep, t, k _ _ (.inl rfl) e, c⟩
  | ins C dx fs =>
    obtain ⟨d, z, ne, e, mA, ⟨od, es, ep, e2, c⟩, r⟩ := x
    exact ⟨ho _ d, z, ne, k _ _ (.inl rfl) e, mA, ⟨od, es, ep, k _ _ (.inr d) e2, c⟩, r⟩
  | own y => obtain ⟨ob, e⟩ := x; exact ⟨ob, k _ _ (.inl rfl) e⟩
  | xd fs => obtain ⟨mA, ⟨od, es, ep, e, c⟩, r⟩ := x; exact ⟨mA, ⟨od, es, ep, k _ _ (.inl rfl) e, c⟩, r⟩
  | rng lo hi => obtain ⟨t, u, v, e⟩ := x; exact ⟨t, u, v, k _ _ (.inl rfl) e⟩
  | frz ob u ih => obtain ⟨e, q⟩ := x; exact ⟨k _ _ (.inl rfl) e, ih q⟩
  | tbl ps =>
    have e : h.get? a = some { cls := .none, data := .fields ps } := x
    show h'.get? a = some { cls := .none, data := .fields ps }
    exact k a _ (.inl rfl) e
  | met f y =>
    have e : h.get? a = some (PySem.W.methodObj (.ref f) (.ref y)) := x
    show h'.get? a = some (PySem.W.methodObj (.ref f) (.ref y))
    exact k a _ (.inl rfl) e
  | ext φ => obtain ⟨p, ⟨o, e⟩, st⟩ := x; exact ⟨st _ _ p fun o q => k _ _ (.inl rfl) q, ⟨o, k _ _ (.inl rfl) e⟩, st⟩
theorem HOk.lt (x : HOk P w H h) (e : H a = some o) : a < h.objs.size := (x a o e).lt
theorem HOk.fresh (x : HOk P w H h) (e : h.objs.size ≤ a) : H a = none := by
  cases q : H a with
  | none => rfl
  | some u => exact absurd (Nat.lt_of_lt_of_le (x.lt q) e) (Nat.lt_irrefl _)
/-- every object of the heap is kept -/
theorem HOk.kept (x : HOk P w H h) (k : ∀ b u, h.get? b = some u → h'.get? b = some u) : HOk P w H h' := fun a o e =>
  (x a o e).stay (fun b u _ q => k b u q) (fun _ q => q) fun _ _ q => q
/-- a new object is laid and tracked -/
theorem HOk.laid (x : HOk P w H h) (k : ∀ b u, h.get? b = some u → h'.get? b = some u) (hp : h.objs.size ≤ a) (new : ObjOk P w (upd H a o) h' a o) : HOk P w (upd H a o) h' := fun b u e => by
  have hn := x.fresh hp
  by_cases hb : b = a
  · subst hb; rw [upd_same] at e; cases e; exact new
  · rw [upd_ne hb] at e
    exact (x b u e).stay (fun c v _ q => k c v q) (fun c q => by rw [upd_ne (ne_of_none q hn)]; exact q) fun c xs q => by rw [upd_ne (ne_of_none q hn)]; exact q
end

/-- what may be read as u: it is u, or a known u -/
def Rd (H : Hp) (a : Addr) (u : HO) : Prop := H a = some u ∨ ∃ o, H a = some (.frz o u)
theorem Rd.of {H : Hp} {a : Addr} {u : HO} (h : H a = some u) : Rd H a u := .inl h
theorem Rd.ok {P : Program} {w : World} {H : Hp} {h : Heap} {a : Addr} {u : HO} (r : Rd H a u) (x : HOk P w H h) : ObjOk P w H h a u := by
  rcases r with r | ⟨o, r⟩
  · exact x a u r
  · obtain ⟨_, q⟩ := x a _ r
    exact q
/-- what may be written -/
def Mut : Option HO → Prop
  | some (.lst _) => True
  | some (.dK _) => True
  | some (.dT _) => True
  | some (.set _ _) => True
  | some (.ins _ _ _) => True
  | some (.ext _) => True
  | _ => False
section
variable {P : Program} {w : World} {H : Hp} {h h' : Heap} {x e : Addr} {o' : HO}
/-- the object at e is changed: x itself, or the dict of the instance x -/
theorem HOk.write (ok : HOk P w H h) (mu : Mut (H x)) (he : e = x ∨ H e = some (.own x)) (k : ∀ b u, b ≠ e → h.get? b = some u → h'.get? b = some u) (heo : ∃ u, h'.get? e = some u)
    (new : ObjOk P w (upd H x o') h' x o') : HOk P w (upd H x o') h' := fun b u q => by
  have nown : ∀ c y, H c = some (.own y) → c ≠ x := fun c y r z => by subst z; rw [r] at mu; exact mu
  have ntup : ∀ c xs, H c = some (.tup xs) → c ≠ x := fun c xs r z => by subst z; rw [r] at mu; exact mu
  by_cases hb : b = x
  · subst hb; rw [upd_same] at q; cases q; exact new
  · rw [upd_ne hb] at q
    by_cases hbe : b = e
    · have q' : H b = some (.own x) := by
        rcases he with z | z
        · exact absurd (hbe.trans z) hb
        · rw [hbe]; exact z
      rw [q] at q'; cases q'
      obtain ⟨v, hv⟩ := heo
      exact ⟨v, by rw [hbe]; exact hv⟩
    · refine (ok b u q).stay (fun c v hc r => k c v ?_ r) (fun c r => by rw [upd_ne (nown c b r)]; exact r) fun c xs r => by rw [upd_ne (ntup c xs r)]; exact r
      rcases hc with rfl | hc
      · exact hbe
      · rintro rfl
        rcases he with z | z
        · exact nown c b hc z
        · rw [hc] at z; cases z; exact hb rfl
end

/-! ### kept unless tracked; of the frames at fs (the callers') the slots may change (an exception that passes writes there); of the records at ex (iterators) nothing is said -/
structure Un (fs ex : List Addr) (H H' : Hp) (h h' : Heap) : Prop where
  keep : ∀ b o, h.get? b = some o → H b = none → b ∉ fs → b ∉ ex → h'.get? b = some o
  slot : ∀ b o, h.get? b = some o → H b = none → b ∈ fs → b ∉ ex → ∃ sl, h'.get? b = some { o with slots := sl }
  free : ∀ b o, h.get? b = some o → H b = none → b ∉ ex → H' b = none
  there : ∀ b o, h.get? b = some o → b ∉ ex → ∃ o', h'.get? b = some o'
  tups : ∀ b xs, H b = some (.tup xs) → H' b = some (.tup xs)
  frzs : ∀ b o u, H b = some (.frz o u) → H' b = some (.frz o u)
  tbls : ∀ b ps, H b = some (.tbl ps) → ∃ more, H' b = some (.tbl (ps ++ more))
section
variable {fs fs' ex ex' : List Addr} {H H1 H2 : Hp} {h h1 h2 h' : Heap} {a x e : Addr} {o : HO}
theorem Un.any (u : Un fs ex H H1 h h1) {b : Addr} {ob : Obj} (q : h.get? b = some ob) (n : H b = none) (hx : b ∉ ex) : ∃ sl, h1.get? b = some { ob with slots := sl } := by
  by_cases hb : b ∈ fs
  · exact u.slot b ob q n hb hx
  · exact ⟨ob.slots, u.keep b ob q n hb hx⟩
theorem Un.trans (a : Un fs ex H H1 h h1) (b : Un fs ex H1 H2 h1 h2) : Un fs ex H H2 h h2 where
  keep := fun c ob q n hc hx => b.keep c ob (a.keep c ob q n hc hx) (a.free c ob q n hx) hc hx
  slot := fun c ob q n hc hx => by
    obtain ⟨sl, e1⟩ := a.slot c ob q n hc hx
    obtain ⟨sl', e2⟩ := b.slot c _ e1 (a.free c ob q n hx) hc hx
    exact ⟨sl', e2⟩
  free := fun c ob q n hx => by
    obtain ⟨o', e1⟩ := a.there c ob q hx
    exact b.free c o' e1 (a.free c ob q n hx) hx
  there := fun c ob q hx => by
    obtain ⟨o', e1⟩ := a.there c ob q hx
    exact b.there c o' e1 hx
  tups := fun c xs q => b.tups c xs (a.tups c xs q)
  frzs := fun c ob xs q => b.frzs c ob xs (a.frzs c ob xs q)
  tbls := fun c ps q => by
    obtain ⟨m1, e1⟩ := a.tbls c ps q
    obtain ⟨m2, e2⟩ := b.tbls c _ e1
    exact ⟨m1 ++ m2, by rw [e2, Array.append_assoc]⟩
theorem Un.kept (k : ∀ b u, h.get? b = some u → h'.get? b = some u) : Un fs ex H H h h' :=
  ⟨fun b ob q _ _ _ => k b ob q, fun b ob q _ _ _ => ⟨ob.slots, k b ob q⟩, fun _ _ _ n _ => n, fun b ob q _ => ⟨ob, k b ob q⟩, fun _ _ q => q, fun _ _ _ q => q, fun _ ps q => ⟨#[], by rw [q]; simp⟩⟩
theorem Un.refl : Un fs ex H H h h := Un.kept fun _ _ q => q
theorem Un.laid (k : ∀ b u, h.get? b = some u → h'.get? b = some u) (hp : h.objs.size ≤ a) (hn : H a = none) : Un fs ex H (upd H a o) h h' where
  keep := fun b u q _ _ _ => k b u q
  slot := fun b u q _ _ _ => ⟨u.slots, k b u q⟩
  free := fun b u q n _ => by rw [upd_ne (Nat.ne_of_lt (Nat.lt_of_lt_of_le (Heap.lt_size q) hp))]; exact n
  there := fun b u q _ => ⟨u, k b u q⟩
  tups := fun b xs q => by rw [upd_ne (ne_of_none q hn)]; exact q
  frzs := fun b u xs q => by rw [upd_ne (ne_of_none q hn)]; exact q
  tbls := fun b ps q => ⟨#[], by rw [upd_ne (ne_of_none q hn), q]; simp⟩
theorem Un.write (mu : Mut (H x)) (he : e = x ∨ H e = some (.own x)) (k : ∀ b u, b ≠ e → h.get? b = some u → h'.get? b = some u) (heo : ∃ u, h'.get? e = some u) : Un fs ex H (upd H x o) h h' := by
  have hx : ∀ b, H b = none → b ≠ x := fun b n z => by subst z; rw [n] at mu; exact mu
  have hb : ∀ b, H b = none → b ≠ e := fun b n z => by
    subst z
    rcases he with r | r
    · exact hx b n r
    · rw [n] at r; cases r
  have hm : ∀ b u, H b = some u → ¬ Mut (some u) → b ≠ x := fun b u q nm z => by subst z; rw [q] at mu; exact nm mu
  refine ⟨fun b u q n _ _ => k b u (hb b n) q, fun b u q n _ _ => ⟨u.slots, k b u (hb b n) q⟩, fun b u q n _ => by rw [upd_ne (hx b n)]; exact n, fun b u q _ => ?_,
    fun b xs q => by rw [upd_ne (hm b _ q fun z => z)]; exact q, fun b u xs q => by rw [upd_ne (hm b _ q fun z => z)]; exact q, fun b ps q => ⟨#[], by rw [upd_ne (hm b _ q fun z => z), q]; simp⟩⟩
  by_cases hbe : b = e
  · subst hbe; exact heo
  · exact ⟨u, k b u hbe q⟩
theorem Un.mono (u : Un fs ex H H1 h h1) (hs : ∀ b ∈ fs, b ∈ fs') (hx : ∀ b ∈ ex, b ∈ ex') : Un fs' ex' H H1 h h1 :=
  ⟨fun b ob q n hb he => u.keep b ob q n (fun z => hb (hs b z)) fun z => he (hx b z), fun _ _ q n _ he => u.any q n fun z => he (hx _ z), fun b ob q n he => u.free b ob q n fun z => he (hx b z), fun b ob q he => u.there b ob q fun z => he (hx b z), u.tups, u.frzs, u.tbls⟩
end

/-! ### the heap without what is tracked -/
def trk (h : Heap) (H : Hp) : List Addr := (List.range h.objs.size).filter fun a => (H a).isSome
def hidT (h : Heap) (H : Hp) : Heap := PySem.W.hideAll h (trk h H)
theorem hidT_size (h : Heap) (H : Hp) : (hidT h H).objs.size = h.objs.size := PySem.W.hideAll_size _ _
theorem hidT_get {h : Heap} {H : Hp} {b : Addr} {o : Obj} (e : h.get? b = some o) (n : H b = none) : (hidT h H).get? b = some o :=
  PySem.W.hideAll_get _ e fun hm => by
    have q : (H b).isSome = true := (List.mem_filter.mp hm).2
    rw [n] at q; simp at q
theorem of_hidT {h : Heap} {H : Hp} {b : Addr} {o : Obj} (e : (hidT h H).get? b = some o) : h.get? b = some o ∧ H b = none := by
  have e' : h.get? b = some o := PySem.W.of_hideAll (trk h H) e
  refine ⟨e', ?_⟩
  cases q : H b with
  | none => rfl
  | some x =>
    have hm : b ∈ trk h H := List.mem_filter.mpr ⟨List.mem_range.mpr (Heap.lt_size e'), by simp [q]⟩
    have z : (hidT h H).get? b = none := PySem.W.hideAll_none (trk h H) hm
    rw [z] at e; cases e

/-! ### OpenK's ledger, filled with every new object but one -/
def allNews (g h : Heap) (L : Addr) : List (Addr × Obj) := (List.range h.objs.size).filterMap fun a => if a = L ∨ (g.get? a).isSome = true then none else (h.get? a).map fun o => (a, o)
def rest (g h : Heap) (L d : Addr) : List (Addr × Obj) := (allNews g h L).filter fun p => decide (p.1 ≠ d)
end L2

namespace L2
open PySem PySem.Spec PyProof.Rows

/-- the module's facts, over the base: the heap at the law's entry without what is tracked there -/
structure Mod (K : PySem.W.Frag) (mg : Str → Option Value) (base : Heap) : Prop where
  kin : K.In base
  glob : base.Ns mainGlobals mg
  blt : ∃ mb, base.Ns builtinsNs mb ∧ ∀ x : Str, x ≠ "__name__" → mb x = bootBuiltins x
  nolimit : base.NoLimit

/-- the context: a def's body (or a comprehension's block) running. base: fixed through the whole law; s₀, H₀: the entry; outer: the frames whose slots others may change (a def's callers); stack: all frames that run;
   ex: iterators that were made ahead of the entry and are walked here (a comprehension's); fn: the names whose cells were made at the entry (a def: all; a comprehension's block: its own); calm: not within an except suite; pn: pins that every state bears; xe: what is wanted of an exception that leaves the code -/
structure Cx where
  prog : Program
  w : World
  K : PySem.W.Frag
  mg : Str → Option Value
  base : Heap
  A : Around
  N : List Str
  s₀ : Shared
  H₀ : Hp
  env : Env
  outer : List Env
  stack : List Env
  ex : List Addr
  fn : Str → Bool
  calm : Bool
  pn : List (Addr × Obj)
  xe : Value → Shared → Prop
/-- the callers' frames -/
def frs (l : List Env) : List Addr := l.filterMap (·.frame)
abbrev Cx.fs (X : Cx) : List Addr := frs X.outer

def Vis (sc : Scope) (x : Str) : Prop := sc.names.lookup x = some .local ∨ sc.names.lookup x = some .cell ∨ sc.names.lookup x = some .free
def Loc (sc : Scope) (x : Str) : Prop := sc.names.lookup x = some .local ∨ sc.names.lookup x = some .cell
def Look (env : Env) (h : Heap) (m : Str → Option Value) (x : Str) (u : Value) : Prop :=
  (env.kindOf x = some .local ∧ m x = some u) ∨ ((env.kindOf x = some .cell ∨ env.kindOf x = some .free) ∧ ∃ c, env.cells.lookup x = some c ∧ h.IsCell c (some u))

structure Cx.Ok (X : Cx) : Prop where
  mod : Mod X.K X.mg X.base
  kind : X.env.scope.kind = .function
  glob : X.env.globals = mainGlobals
  blt : X.env.builtins = builtinsNs
  above : X.s₀.heap.objs.size ≤ X.env.locals
  inj : ∀ x y c, X.env.cells.lookup x = some c → X.env.cells.lookup y = some c → x = y
  has : ∀ x, (X.env.kindOf x = some .cell ∨ X.env.kindOf x = some .free) → ∃ c, X.env.cells.lookup x = some c
  cab : ∀ x c, X.fn x = true → X.env.cells.lookup x = some c → X.s₀.heap.objs.size ≤ c
  hd : X.calm = true → X.A.handled = none
  frames : X.A.frames = some X.stack
  stk : X.stack = X.outer ∨ (X.stack = X.env :: X.outer ∧ X.env.frame = some X.env.locals)
  exf : ∀ b ∈ X.ex, b ≠ X.env.locals ∧ ∀ x c, X.env.cells.lookup x = some c → c ≠ b
  bs : ∀ b o, X.base.get? b = some o → X.s₀.heap.get? b = some o ∧ X.H₀ b = none
  bsz : X.base.objs.size ≤ X.s₀.heap.objs.size
  noex : ∀ b o, X.base.get? b = some o → b ∉ X.ex
  exfs : ∀ b ∈ X.ex, b ∉ X.fs
  funs : X.s₀.heap.FunFrames X.base X.outer
  frf : ∀ b ∈ X.fs, X.H₀ b = none

structure Inv (X : Cx) (pins : List (Addr × Obj)) (σ : List (Option V)) (H : Hp) (s : Shared) : Prop where
  ok : X.Ok
  os : s.os = X.s₀.os
  bare : AllBare s.gens
  base : Un X.fs X.ex X.H₀ H X.s₀.heap s.heap
  loc : ∃ m, s.heap.Ns X.env.locals m ∧ ∀ (i : Nat) (x : Str) (v : V), X.N[i]? = some x → σ[i]? = some (some v) → Vis X.env.scope x → ∃ u, RelV v u ∧ Look X.env s.heap m x u
  cell : ∀ x c, X.env.cells.lookup x = some c → ∃ v, s.heap.IsCell c v
  free : H X.env.locals = none
  freeC : ∀ x c, X.env.cells.lookup x = some c → H c = none
  pin : ∀ p ∈ X.pn ++ pins, s.heap.get? p.1 = some p.2 ∧ H p.1 = none ∧ p.1 ≠ X.env.locals ∧ p.1 ∉ X.fs ∧ ∀ v, p.2.data ≠ .cell v
  hok : HOk X.prog X.w H s.heap
  len : σ.length = X.N.length

section
variable {X : Cx} {pins : List (Addr × Obj)} {σ : List (Option V)} {H H' : Hp} {s : Shared} {h' : Heap}

theorem Cx.Ok.nofr (ok : X.Ok) {b : Addr} {o : Obj} (e : X.base.get? b = some o) : b ∉ X.fs := fun hb => by
  have := (ok.funs.mem hb).1
  rw [e] at this; cases this
theorem Inv.bs (I : Inv X pins σ H s) : ∀ b o, X.base.get? b = some o → s.heap.get? b = some o ∧ H b = none := fun b o e =>
  ⟨I.base.keep b o (I.ok.bs b o e).1 (I.ok.bs b o e).2 (I.ok.nofr e) (I.ok.noex b o e), I.base.free b o (I.ok.bs b o e).1 (I.ok.bs b o e).2 (I.ok.noex b o e)⟩
theorem Inv.bk (I : Inv X pins σ H s) : ∀ b o, X.base.get? b = some o → s.heap.get? b = some o := fun b o e => (I.bs b o e).1
theorem Inv.mod (I : Inv X pins σ H s) : Mod X.K X.mg X.base := I.ok.mod
theorem Inv.kIn (I : Inv X pins σ H s) : X.K.In s.heap := I.ok.mod.kin.keeps I.bk
theorem Inv.nolimit (I : Inv X pins σ H s) : s.heap.NoLimit := I.ok.mod.nolimit.keeps I.bk
/-- the frame over the base: for OpenK's rules (K.In X.base is I.mod.kin) -/
theorem Inv.fr (I : Inv X pins σ H s) : ∃ m, Fr X.base X.env.locals s.heap m :=
  let ⟨m, hn, _⟩ := I.loc
  ⟨m, hn, I.bk, Nat.le_trans I.ok.bsz I.ok.above⟩
theorem Inv.lt (I : Inv X pins σ H s) : X.env.locals < s.heap.objs.size := let ⟨_, hn, _⟩ := I.loc; hn.lt
theorem Inv.sz (I : Inv X pins σ H s) : X.s₀.heap.objs.size ≤ s.heap.objs.size := Nat.le_trans I.ok.above (Nat.le_of_lt I.lt)
theorem Inv.nofs (I : Inv X pins σ H s) {a : Addr} (h : s.heap.objs.size ≤ a) : a ∉ X.fs := fun hb => by
  obtain ⟨_, o, ho, _⟩ := I.ok.funs.mem hb
  exact absurd (Nat.lt_of_lt_of_le (Heap.lt_size ho) (Nat.le_trans I.sz h)) (Nat.lt_irrefl _)
theorem Inv.cne (I : Inv X pins σ H s) : ∀ x c, X.env.cells.lookup x = some c → c ≠ X.env.locals := fun x c e z => by
  obtain ⟨v, o, ho, hd⟩ := I.cell x c e
  obtain ⟨m, ⟨o', es, ep, ho', hd', _⟩, _⟩ := I.loc
  rw [z, ho'] at ho; cases ho; rw [hd'] at hd; cases hd
theorem Inv.funs (I : Inv X pins σ H s) : s.heap.FunFrames X.base X.outer := by
  have all : ∀ (l : List Env), (∀ b ∈ frs l, b ∈ X.fs) → X.s₀.heap.FunFrames X.base l → s.heap.FunFrames X.base l := by
    intro l
    induction l with
    | nil => intro _ _; trivial
    | cons env r ih =>
      intro hs hl
      obtain ⟨hk, ⟨L, o, hf, hn, ho, hd⟩, hr⟩ := hl
      have hL : L ∈ X.fs := hs L (by unfold frs; rw [List.filterMap_cons, hf]; exact List.mem_cons_self)
      obtain ⟨sl, e⟩ := I.base.slot L o ho (I.ok.frf L hL) hL fun z => I.ok.exfs L z hL
      exact ⟨hk, ⟨L, _, hf, hn, e, hd⟩, ih (fun b hb => hs b (by unfold frs; rw [List.filterMap_cons, hf]; exact List.mem_cons_of_mem _ hb)) hr⟩
  exact all X.outer (fun _ hb => hb) I.ok.funs

/-- the frames that run, for a call -/
theorem Inv.stack (I : Inv X pins σ H s) : s.heap.FunFrames X.base X.stack := by
  rcases I.ok.stk with e | ⟨e, hf⟩
  · rw [e]; exact I.funs
  · rw [e]
    obtain ⟨m, hn, _⟩ := I.loc
    refine .cons (by rw [I.ok.kind]; decide) hf hn ?_ I.funs
    exact Heap.get?_none_of_le (Nat.le_trans I.ok.bsz I.ok.above)
theorem Inv.stkSub (I : Inv X pins σ H s) : ∀ b ∈ frs X.stack, b ∈ X.env.locals :: X.fs := fun b hb => by
  rcases I.ok.stk with e | ⟨e, hf⟩
  · rw [e] at hb; exact List.mem_cons_of_mem _ hb
  · rw [e] at hb
    unfold frs at hb
    rw [List.filterMap_cons, hf] at hb
    exact hb
theorem Inv.stkFree (I : Inv X pins σ H s) : ∀ b ∈ frs X.stack, H b = none := fun b hb => by
  rcases List.mem_cons.mp (I.stkSub b hb) with e | hb
  · rw [e]; exact I.free
  · obtain ⟨_, o, ho, _⟩ := I.ok.funs.mem hb
    exact I.base.free b o ho (I.ok.frf b hb) fun z => I.ok.exfs b z hb

/-- THE STEP: the untracked objects but the frame and the records at ch are kept (the callers' frames up to slots), the frame's map is kept, the new abstract heap is held -/
theorem Inv.step {g' : Array GenState} {t' : Nat} {d' : Drawn} {ch : List Addr} (I : Inv X pins σ H s)
    (hch : ∀ b ∈ ch, (b ∈ X.ex ∨ X.s₀.heap.objs.size ≤ b) ∧ b ≠ X.env.locals ∧ (∀ x c, X.env.cells.lookup x = some c → c ≠ b) ∧ ∀ p ∈ X.pn ++ pins, p.1 ≠ b)
    (keep : ∀ b o, b ≠ X.env.locals → b ∉ X.fs → b ∉ ch → s.heap.get? b = some o → H b = none → h'.get? b = some o)
    (slot : ∀ b o, b ≠ X.env.locals → b ∈ X.fs → b ∉ ch → s.heap.get? b = some o → H b = none → ∃ sl, h'.get? b = some { o with slots := sl }) (free : ∀ b o, b ∉ ch → s.heap.get? b = some o → H b = none → H' b = none)
    (there : ∀ b o, b ∉ ch → s.heap.get? b = some o → ∃ o', h'.get? b = some o')
    (tups : ∀ b xs, H b = some (.tup xs) → H' b = some (.tup xs)) (frzs : ∀ b o u, H b = some (.frz o u) → H' b = some (.frz o u)) (tbls : ∀ b ps, H b = some (.tbl ps) → ∃ more, H' b = some (.tbl (ps ++ more)))
    (ns : ∀ m, s.heap.Ns X.env.locals m → h'.Ns X.env.locals m) (hok : HOk X.prog X.w H' h') (hg : AllBare g') :
    Inv X pins σ H' { s with heap := h', gens := g', drawn := d', toks := t' } := by
  have neL : ∀ b o, X.s₀.heap.get? b = some o → b ≠ X.env.locals := fun b o e => Nat.ne_of_lt (Nat.lt_of_lt_of_le (Heap.lt_size e) I.ok.above)
  have neC : ∀ b o, X.s₀.heap.get? b = some o → b ∉ X.ex → b ∉ ch := fun b o e hx hb => by
    rcases (hch b hb).1 with z | z
    · exact hx z
    · exact absurd (Nat.lt_of_lt_of_le (Heap.lt_size e) z) (Nat.lt_irrefl _)
  have cellK : ∀ x c, X.env.cells.lookup x = some c → ∀ v, s.heap.IsCell c v → h'.IsCell c v := fun x c e v ⟨o, ho, hd⟩ => by
    have nch : c ∉ ch := fun z => (hch c z).2.2.1 x c e rfl
    by_cases hc : c ∈ X.fs
    · obtain ⟨sl, q⟩ := slot c o (I.cne x c e) hc nch ho (I.freeC x c e)
      exact ⟨_, q, hd⟩
    · exact ⟨o, keep c o (I.cne x c e) hc nch ho (I.freeC x c e), hd⟩
  refine ⟨I.ok, I.os, hg, ⟨fun b o e n hb hx => ?_, fun b o e n hb hx => ?_, fun b o e n hx => ?_, fun b o e hx => ?_, fun b xs e => tups b xs (I.base.tups b xs e), fun b o xs e => frzs b o xs (I.base.frzs b o xs e), fun b ps e => ?_⟩, ?_, fun x c e => ?_, ?_, fun x c e => ?_, fun p hp => ?_, hok, I.len⟩
  · exact keep b o (neL b o e) hb (neC b o e hx) (I.base.keep b o e n hb hx) (I.base.free b o e n hx)
  · obtain ⟨sl, e1⟩ := I.base.slot b o e n hb hx
    obtain ⟨sl', e2⟩ := slot b _ (neL b o e) hb (neC b o e hx) e1 (I.base.free b o e n hx)
    exact ⟨sl', e2⟩
  · obtain ⟨o', e1⟩ := I.base.there b o e hx
    exact free b o' (neC b o e hx) e1 (I.base.free b o e n hx)
  · obtain ⟨o', e1⟩ := I.base.there b o e hx
    exact there b o' (neC b o e hx) e1
  · obtain ⟨m1, e1⟩ := I.base.tbls b ps e
    obtain ⟨m2, e2⟩ := tbls b _ e1
    exact ⟨m1 ++ m2, by rw [e2, Array.append_assoc]⟩
  · obtain ⟨m, hn, hl⟩ := I.loc
    refine ⟨m, ns m hn, fun i x v e1 e2 e3 => ?_⟩
    obtain ⟨u, r, l⟩ := hl i x v e1 e2 e3
    refine ⟨u, r, ?_⟩
    rcases l with l | ⟨k, c, e, z⟩
    · exact .inl l
    · exact .inr ⟨k, c, e, cellK x c e _ z⟩
  · obtain ⟨v, z⟩ := I.cell x c e
    exact ⟨v, cellK x c e v z⟩
  · obtain ⟨m, ⟨o, _, _, ho, _⟩, _⟩ := I.loc
    exact free _ o (fun z => (hch _ z).2.1 rfl) ho I.free
  · obtain ⟨v, o, ho, hd⟩ := I.cell x c e
    exact free c o (fun z => (hch c z).2.2.1 x c e rfl) ho (I.freeC x c e)
  · obtain ⟨e, n, ne, nf, d⟩ := I.pin p hp
    have nch : p.1 ∉ ch := fun z => (hch p.1 z).2.2.2 p hp rfl
    exact ⟨keep p.1 p.2 ne nf nch e n, free p.1 p.2 nch e n, ne, nf, d⟩
/-- .. where the frame's own object is kept too -/
theorem Inv.un {t' : Nat} (I : Inv X pins σ H s) (u : Un X.fs [] H H' s.heap h') (hok : HOk X.prog X.w H' h') : Inv X pins σ H' { s with heap := h', toks := t' } := by
  obtain ⟨m, ⟨o, es, ep, ho, r⟩, _⟩ := id I.loc
  obtain ⟨sl, hL⟩ := u.any ho I.free (by simp)
  exact I.step (g' := s.gens) (d' := s.drawn) (ch := []) (fun _ z => nomatch z) (fun b o _ hb _ e n => u.keep b o e n hb (by simp)) (fun b o _ hb _ e n => u.slot b o e n hb (by simp)) (fun b o _ e n => u.free b o e n (by simp)) (fun b o _ e => u.there b o e (by simp)) u.tups u.frzs u.tbls (fun m' hm => by
    obtain ⟨o', es', ep', ho', r'⟩ := hm
    rw [ho] at ho'; cases ho'
    exact ⟨_, es', ep', hL, r'⟩) hok I.bare
/-- behind a call (or a comprehension's block): the slots of this frame may have changed too, the records at ch may have turned -/
theorem Inv.call {g' : Array GenState} {t' : Nat} {d' : Drawn} {ch : List Addr} (I : Inv X pins σ H s) (u : Un (frs X.stack) ch H H' s.heap h') (hok : HOk X.prog X.w H' h') (hg : AllBare g')
    (hch : ∀ b ∈ ch, (b ∈ X.ex ∨ X.s₀.heap.objs.size ≤ b) ∧ b ≠ X.env.locals ∧ (∀ x c, X.env.cells.lookup x = some c → c ≠ b) ∧ ∀ p ∈ X.pn ++ pins, p.1 ≠ b) :
    Inv X pins σ H' { s with heap := h', gens := g', drawn := d', toks := t' } := by
  obtain ⟨m, ⟨o, es, ep, ho, r⟩, _⟩ := id I.loc
  obtain ⟨sl, hL⟩ := u.any ho I.free fun z => (hch _ z).2.1 rfl
  exact I.step (ch := ch) hch (fun b o hL hb hc e n => u.keep b o e n (fun z => (List.mem_cons.mp (I.stkSub b z)).elim hL hb) hc) (fun b o _ _ hc e n => u.any e n hc) (fun b o hc e n => u.free b o e n hc) (fun b o hc e => u.there b o e hc) u.tups u.frzs u.tbls (fun m' hm => by
    obtain ⟨o', es', ep', ho', r'⟩ := hm
    rw [ho] at ho'; cases ho'
    exact ⟨_, es', ep', hL, r'⟩) hok hg
/-- an untracked record of ours (an iterator) has turned -/
theorem Inv.turned {t' : Nat} {it : Addr} (I : Inv X pins σ H s) (k : ∀ b o, b ≠ it → s.heap.get? b = some o → h'.get? b = some o) (hn : H it = none) (hL : it ≠ X.env.locals)
    (h1 : it ∈ X.ex ∨ X.s₀.heap.objs.size ≤ it) (h2 : ∀ x c, X.env.cells.lookup x = some c → c ≠ it) (h3 : ∀ p ∈ X.pn ++ pins, p.1 ≠ it) : Inv X pins σ H { s with heap := h', toks := t' } := by
  have nit : ∀ b u, H b = some u → b ≠ it := fun b u e z => by rw [z, hn] at e; cases e
  refine I.step (g' := s.gens) (d' := s.drawn) (ch := [it]) (fun b hb => ?_) (fun b o _ _ hc e _ => k b o (fun z => hc (by simp [z])) e) (fun b o _ _ hc e _ => ⟨o.slots, k b o (fun z => hc (by simp [z])) e⟩) (fun _ _ _ _ n => n)
    (fun b o hc e => ⟨o, k b o (fun z => hc (by simp [z])) e⟩) (fun _ _ e => e) (fun _ _ _ e => e) (fun b ps e => ⟨#[], by rw [e]; simp⟩) (fun m hm => ?_) (fun b u e => ?_) I.bare
  · have e : b = it := by simpa using hb
    subst e
    exact ⟨h1, hL, h2, h3⟩
  · obtain ⟨o, es, ep, ho, r⟩ := hm
    exact ⟨o, es, ep, k _ o (Ne.symm hL) ho, r⟩
  · refine (I.hok b u e).stay (fun c v hc q => k c v ?_ q) (fun _ q => q) fun _ _ q => q
    rcases hc with z | z
    · rw [z]; exact nit b u e
    · exact nit c _ z
theorem Inv.tok (I : Inv X pins σ H s) (t : Nat) : Inv X pins σ H { s with toks := t } := I.un (h' := s.heap) (t' := t) Un.refl I.hok
/-- all objects kept -/
theorem Inv.kept {t' : Nat} (I : Inv X pins σ H s) (k : ∀ b u, s.heap.get? b = some u → h'.get? b = some u) : Inv X pins σ H { s with heap := h', toks := t' } := I.un (Un.kept k) (I.hok.kept k)
/-- a new object laid and tracked -/
theorem Inv.laid {a : Addr} {o : HO} {t' : Nat} (I : Inv X pins σ H s) (k : ∀ b u, s.heap.get? b = some u → h'.get? b = some u) (hp : s.heap.objs.size ≤ a) (new : ObjOk X.prog X.w (upd H a o) h' a o) :
    Inv X pins σ (upd H a o) { s with heap := h', toks := t' } := I.un (Un.laid k hp (I.hok.fresh hp)) (I.hok.laid k hp new)
/-- an object written -/
theorem Inv.write {x e : Addr} {o : HO} {t' : Nat} (I : Inv X pins σ H s) (mu : Mut (H x)) (he : e = x ∨ H e = some (.own x)) (k : ∀ b u, b ≠ e → s.heap.get? b = some u → h'.get? b = some u) (heo : ∃ u, h'.get? e = some u)
    (new : ObjOk X.prog X.w (upd H x o) h' x o) : Inv X pins σ (upd H x o) { s with heap := h', toks := t' } := I.un (Un.write mu he k heo) (I.hok.write mu he k heo new)
theorem Inv.pins_of {pins' : List (Addr × Obj)} (I : Inv X pins σ H s) (h : ∀ p ∈ pins', s.heap.get? p.1 = some p.2 ∧ H p.1 = none ∧ p.1 ≠ X.env.locals ∧ p.1 ∉ X.fs ∧ ∀ v, p.2.data ≠ .cell v) : Inv X pins' σ H s :=
  ⟨I.ok, I.os, I.bare, I.base, I.loc, I.cell, I.free, I.freeC, fun p hp => (List.mem_append.mp hp).elim (fun z => I.pin p (List.mem_append_left _ z)) (h p), I.hok, I.len⟩

theorem nodup_ix {N : List Str} (hN : N.Nodup) {i j : Nat} {x : Str} (a : N[i]? = some x) (b : N[j]? = some x) : i = j := by
  obtain ⟨h1, e1⟩ := List.getElem?_eq_some_iff.mp a
  obtain ⟨h2, e2⟩ := List.getElem?_eq_some_iff.mp b
  exact (List.getElem_inj hN).mp (e1.trans e2.symm)

/-- a name is stored; what changed -/
theorem store_ok2 {M : Model} {A : Around} {E : Value → Shared → Prop} {i : Nat} {x : Str} {v : V} {u : Value} {Q : Unit → Shared → Prop} (I : Inv X pins σ H s) (hN : X.N.Nodup) (hi : X.N[i]? = some x) (hx : Loc X.env.scope x) (r : RelV v u)
    (h : ∀ s', Inv X pins (σ.set i (some v)) H s' → (∃ a, Heap.SameBut a s.heap s'.heap ∧ (a = X.env.locals ∨ X.env.cells.lookup x = some a)) → Q () s') (hf : X.fn x = true ∨ X.env.scope.names.lookup x = some .local := by first | exact .inl rfl | exact .inr rfl | assumption) : wpAny M A (storeName X.env x u) Q E s := by
  obtain ⟨m, hn, hl⟩ := id I.loc
  have hcls : (X.env.scope.kind == .class || (X.env.scope.kind == .module && X.env.locals != X.env.globals)) = false := by rw [I.ok.kind]; rfl
  have hiσ : i < σ.length := by rw [I.len]; exact (List.getElem?_eq_some_iff.mp hi).1
  have cne := I.cne
  have tracked : ∀ {a : Addr} {h' : Heap}, (∃ o, s.heap.get? a = some o ∧ H a = none) → Heap.SameBut a s.heap h' → HOk X.prog X.w H h' := fun {a h'} ha hs b ob e => by
    obtain ⟨_, _, hfree⟩ := ha
    refine (I.hok b ob e).stay (fun c w' hc q => (hs.2 c ?_).trans q) (fun _ q => q) fun _ _ q => q
    rintro rfl
    rcases hc with rfl | hc
    · rw [hfree] at e; cases e
    · rw [hfree] at hc; cases hc
  rcases hx with hk | hk
  · refine wpAny_storeName_local hk hn (fun h' hn' hs => ?_) hcls
    obtain ⟨oL, _, _, hoL, _⟩ := id hn
    refine h _ ⟨I.ok, I.os, I.bare, ⟨fun b o e n hb hx => ?_, fun b o e n hb hx => ?_, I.base.free, fun b o e hx => ?_, I.base.tups, I.base.frzs, I.base.tbls⟩, ⟨_, hn', fun j y v' e1 e2 e3 => ?_⟩, fun y c e => ?_, I.free, I.freeC, fun p hp => ?_, tracked ⟨oL, hoL, I.free⟩ hs, by simpa using I.len⟩ ⟨_, hs, .inl rfl⟩
    · exact (hs.2 b (Nat.ne_of_lt (Nat.lt_of_lt_of_le (Heap.lt_size e) I.ok.above))).trans (I.base.keep b o e n hb hx)
    · obtain ⟨sl, e1⟩ := I.base.slot b o e n hb hx
      exact ⟨sl, (hs.2 b (Nat.ne_of_lt (Nat.lt_of_lt_of_le (Heap.lt_size e) I.ok.above))).trans e1⟩
    · obtain ⟨o', e1⟩ := I.base.there b o e hx
      exact ⟨o', (hs.2 b (Nat.ne_of_lt (Nat.lt_of_lt_of_le (Heap.lt_size e) I.ok.above))).trans e1⟩
    · by_cases hj : j = i
      · subst hj
        rw [hi] at e1; cases e1
        rw [List.getElem?_set_self hiσ] at e2
        cases e2
        exact ⟨u, r, .inl ⟨hk, by simp⟩⟩
      · rw [List.getElem?_set_ne (Ne.symm hj)] at e2
        obtain ⟨u', r', q⟩ := hl j y v' e1 e2 e3
        refine ⟨u', r', ?_⟩
        rcases q with ⟨k, e⟩ | ⟨k, c, e, z⟩
        · refine .inl ⟨k, ?_⟩
          have : y ≠ x := fun e => hj (nodup_ix hN e1 (e ▸ hi))
          simp [this, e]
        · exact .inr ⟨k, c, e, z.sameBut hs (cne y c e)⟩
    · obtain ⟨w', z⟩ := I.cell y c e
      exact ⟨w', z.sameBut hs (cne y c e)⟩
    · obtain ⟨e, n, ne, nf, d⟩ := I.pin p hp
      exact ⟨(hs.2 p.1 ne).trans e, n, ne, nf, d⟩
  · have hfn : X.fn x = true := by
      rcases hf with z | z
      · exact z
      · rw [z] at hk; cases hk
    obtain ⟨c, hc⟩ := I.ok.has x (.inl hk)
    obtain ⟨w', z⟩ := I.cell x c hc
    refine wpAny_storeName_cell I.ok.kind hk hc z (fun h' hc' hs => ?_)
    obtain ⟨oc, hoc, hocd⟩ := id z
    refine h { s with heap := h' } ⟨I.ok, I.os, I.bare, ⟨fun b o e n hb hx => ?_, fun b o e n hb hx => ?_, I.base.free, fun b o e hx => ?_, I.base.tups, I.base.frzs, I.base.tbls⟩, ⟨m, hn.sameBut hs (Ne.symm (cne x c hc)), fun j y v' e1 e2 e3 => ?_⟩, fun y c' e => ?_, I.free, I.freeC, fun p hp => ?_, tracked ⟨oc, hoc, I.freeC x c hc⟩ hs, by simpa using I.len⟩ ⟨c, hs, .inr hc⟩
    · exact (hs.2 b (Nat.ne_of_lt (Nat.lt_of_lt_of_le (Heap.lt_size e) (I.ok.cab x c hfn hc)))).trans (I.base.keep b o e n hb hx)
    · obtain ⟨sl, e1⟩ := I.base.slot b o e n hb hx
      exact ⟨sl, (hs.2 b (Nat.ne_of_lt (Nat.lt_of_lt_of_le (Heap.lt_size e) (I.ok.cab x c hfn hc)))).trans e1⟩
    · obtain ⟨o', e1⟩ := I.base.there b o e hx
      exact ⟨o', (hs.2 b (Nat.ne_of_lt (Nat.lt_of_lt_of_le (Heap.lt_size e) (I.ok.cab x c hfn hc)))).trans e1⟩
    · by_cases hj : j = i
      · subst hj
        rw [hi] at e1; cases e1
        rw [List.getElem?_set_self hiσ] at e2
        cases e2
        exact ⟨u, r, .inr ⟨.inl hk, c, hc, hc'⟩⟩
      · rw [List.getElem?_set_ne (Ne.symm hj)] at e2
        obtain ⟨u', r', q⟩ := hl j y v' e1 e2 e3
        refine ⟨u', r', ?_⟩
        rcases q with q | ⟨k, c', e, z'⟩
        · exact .inl q
        · refine .inr ⟨k, c', e, z'.sameBut hs ?_⟩
          rintro rfl
          exact hj (nodup_ix hN e1 (I.ok.inj _ _ _ e hc ▸ hi))
    · by_cases hcc : c' = c
      · subst hcc; exact ⟨_, hc'⟩
      · obtain ⟨w2, z2⟩ := I.cell y c' e
        exact ⟨w2, z2.sameBut hs hcc⟩
    · obtain ⟨e, n, ne, nf, d⟩ := I.pin p hp
      refine ⟨(hs.2 p.1 ?_).trans e, n, ne, nf, d⟩
      intro q
      rw [q, hoc] at e
      have q' : oc = p.2 := Option.some.inj e
      exact d w' (by rw [← q']; exact hocd)
theorem store_ok {M : Model} {A : Around} {E : Value → Shared → Prop} {i : Nat} {x : Str} {v : V} {u : Value} {Q : Unit → Shared → Prop} (I : Inv X pins σ H s) (hN : X.N.Nodup) (hi : X.N[i]? = some x) (hx : Loc X.env.scope x) (r : RelV v u)
    (h : ∀ s', Inv X pins (σ.set i (some v)) H s' → Q () s') (hf : X.fn x = true ∨ X.env.scope.names.lookup x = some .local := by first | exact .inl rfl | exact .inr rfl | assumption) : wpAny M A (storeName X.env x u) Q E s :=
  store_ok2 I hN hi hx r (fun s' I' _ => h s' I') hf
/-- behind a call or a block, the state as it is -/
theorem Inv.call' {s' : Shared} {ch : List Addr} (I : Inv X pins σ H s) (ho : s'.os = s.os) (u : Un (frs X.stack) ch H H' s.heap s'.heap) (hok : HOk X.prog X.w H' s'.heap) (hg : AllBare s'.gens)
    (hch : ∀ b ∈ ch, (b ∈ X.ex ∨ X.s₀.heap.objs.size ≤ b) ∧ b ≠ X.env.locals ∧ (∀ x c, X.env.cells.lookup x = some c → c ≠ b) ∧ ∀ p ∈ X.pn ++ pins, p.1 ≠ b) : Inv X pins σ H' s' := by
  obtain ⟨h', g', d', t', o'⟩ := s'
  have e : o' = s.os := ho
  subst e
  exact I.call (g' := g') (t' := t') (d' := d') u hok hg hch
end

/-! ### the judgements -/
/-- an exception: its class, its own dict's address (where it has one), the abstract heap behind it -/
abbrev XK := Value → Option Addr → Hp → Prop
abbrev St := List (Option V)
abbrev VK := V → Hp → Prop
/-- an expression's reading; a test's; an argument list's -/
abbrev TE := St → Hp → VK → Prop
abbrev TT := St → Hp → (Bool → Hp → Prop) → Prop
abbrev TA := St → Hp → (List V → Hp → Prop) → Prop
/-- what is wanted behind a statement -/
structure Ends where
  nx : St → Hp → Prop
  rt : VK
  bk : St → Hp → Prop := fun _ _ => False
  ct : St → Hp → Prop := fun _ _ => False
abbrev TS := Ends → St → Hp → Prop

def EP (X : Cx) (pins : List (Addr × Obj)) (σ : St) (Q : VK) (u : Value) (s' : Shared) : Prop := ∃ v H', Inv X pins σ H' s' ∧ RelV v u ∧ Q v H'
def TP (X : Cx) (pins : List (Addr × Obj)) (σ : St) (Q : Bool → Hp → Prop) (b : Bool) (s' : Shared) : Prop := ∃ H', Inv X pins σ H' s' ∧ Q b H'
def AP (X : Cx) (pins : List (Addr × Obj)) (σ : St) (Q : List V → Hp → Prop) (us : List Value) (s' : Shared) : Prop := ∃ vs H', Inv X pins σ H' s' ∧ Vals vs us ∧ Q vs H'
def SP (X : Cx) (pins : List (Addr × Obj)) (D : Ends) (f : Flow) (s' : Shared) : Prop :=
  match f with
  | .next => ∃ σ' H', Inv X pins σ' H' s' ∧ D.nx σ' H'
  | .brk => ∃ σ' H', Inv X pins σ' H' s' ∧ D.bk σ' H'
  | .cont => ∃ σ' H', Inv X pins σ' H' s' ∧ D.ct σ' H'
  | .ret u => ∃ v σ' H', Inv X pins σ' H' s' ∧ RelV v u ∧ D.rt v H'

def PE (X : Cx) (e : Expr) (t : TE) : Prop :=
  ∀ (pins : List (Addr × Obj)) (s : Shared) (σ : St) (H : Hp) (Q : VK), Inv X pins σ H s → t σ H Q → wpAny (model X.prog X.w) X.A (eval e X.env) (EP X pins σ Q) X.xe s
def PT (X : Cx) (e : Expr) (t : TT) : Prop :=
  ∀ (pins : List (Addr × Obj)) (s : Shared) (σ : St) (H : Hp) (Q : Bool → Hp → Prop), Inv X pins σ H s → t σ H Q → wpAny (model X.prog X.w) X.A (isTrue e X.env (eval e X.env)) (TP X pins σ Q) X.xe s
/-- a test whatever its 'whole' is (and, or) -/
def PW (X : Cx) (e : Expr) (t : TT) : Prop :=
  ∀ (whole : Sem Value) (pins : List (Addr × Obj)) (s : Shared) (σ : St) (H : Hp) (Q : Bool → Hp → Prop), Inv X pins σ H s → t σ H Q → wpAny (model X.prog X.w) X.A (isTrue e X.env whole) (TP X pins σ Q) X.xe s
theorem PW.pt {X : Cx} {e : Expr} {t : TT} (h : PW X e t) : PT X e t := h _
/-- an argument list (no star), from the left -/
def PA (X : Cx) (es : List Expr) (t : TA) : Prop :=
  ∀ (pos : Pos) (pins : List (Addr × Obj)) (s : Shared) (σ : St) (H : Hp) (Q : List V → Hp → Prop), Inv X pins σ H s → t σ H Q → wpAny (model X.prog X.w) X.A (spliced (backTo pos (starEach es X.env))) (AP X pins σ Q) X.xe s
def PS (X : Cx) (st : Stmt) (t : TS) : Prop :=
  ∀ (pins : List (Addr × Obj)) (s : Shared) (σ : St) (H : Hp) (D : Ends), Inv X pins σ H s → t D σ H → wpAny (model X.prog X.w) X.A (exec st X.env) (SP X pins D) X.xe s
def PSs (X : Cx) (st : List Stmt) (t : TS) : Prop :=
  ∀ (pins : List (Addr × Obj)) (s : Shared) (σ : St) (H : Hp) (D : Ends), Inv X pins σ H s → t D σ H → wpAny (model X.prog X.w) X.A (execs st X.env) (SP X pins D) X.xe s
/-- weaken the end -/
theorem thn {α : Type} {t : Sem α} {Q Q' : α → Shared → Prop} {M : Model} {A : Around} {E : Value → Shared → Prop} {s : Shared} (h : wpAny M A t Q E s) (hQ : ∀ a s, Q a s → Q' a s) : wpAny M A t Q' E s := wpAny_mono h hQ fun _ _ x => x
end L2

namespace L2
open PySem PySem.Spec PyProof.Rows
section
variable {X : Cx}

/-! ### names and constants -/
def tVar (i : Nat) : TE := fun σ H Q => ∃ v, σ[i]? = some (some v) ∧ Q v H
def tC (v : V) : TE := fun _ H Q => Q v H
theorem pe_var {i : Nat} {x : Str} {pos : Pos} (hN : X.N[i]? = some x) (hv : Vis X.env.scope x) (hd : (x == ("__debug__" : Str)) = false := by decide) (hcd : (x == ("__classdict__" : Str)) = false := by decide) : PE X (.Name x pos) (tVar i) := by
  intro pins s σ H Q I h
  obtain ⟨v, e, h⟩ := h
  obtain ⟨m, hn, hl⟩ := I.loc
  obtain ⟨u, r, l⟩ := hl i x v hN e hv
  have fin : EP X pins σ Q u s := ⟨v, H, I, r, h⟩
  rcases l with ⟨hk, hm⟩ | ⟨hk, c, hc, hcell⟩
  · exact wpAny_Name (wpAny_loadName_local I.ok.kind hk hn hm fin) hd
  · rcases hk with hk | hk
    · exact wpAny_Name (wpAny_loadName_cell I.ok.kind hk hc hcell fin) hd
    · exact wpAny_Name (wpAny_loadName_free I.ok.kind hk hc hcell fin hcd) hd
theorem pe_int {i j pos} : PE X (.Constant (.int i) j pos) (tC (.int i)) := fun _ _ _ H _ I h => wpAny_Constant_int ⟨.int i, H, I.tok _, ⟨_, rfl⟩, h⟩
theorem pe_bl {b j pos} : PE X (.Constant (.bool b) j pos) (tC (.bl b)) := fun _ _ _ H _ I h => Constant_bool ⟨.bl b, H, I, rfl, h⟩
theorem pe_non {j pos} : PE X (.Constant .none j pos) (tC .non) := fun _ _ _ H _ I h => Constant_none ⟨.non, H, I, rfl, h⟩
theorem pe_str {x j pos} : PE X (.Constant (.str x) j pos) (tC (.str x)) := fun _ _ _ H _ I h => Calls.Constant_str ⟨.str x, H, I.tok _, ⟨_, rfl⟩, h⟩

/-- a global name of the def -/
def Gl (X : Cx) (x : Str) : Prop := X.env.kindOf x = some .globalImplicit
theorem ld_glob {E : Value → Shared → Prop} {pins : List (Addr × Obj)} {s : Shared} {σ : St} {H : Hp} {x : Str} {u : Value} {pos : Pos} {Q : Value → Shared → Prop} (I : Inv X pins σ H s) (hg : Gl X x) (hm : X.mg x = some u) (h : Q u s)
    (hd : (x == ("__debug__" : Str)) = false := by decide) : wpAny (model X.prog X.w) X.A (eval (.Name x pos) X.env) Q E s :=
  Calls.Name_function_global I.ok.kind hg (Calls.loadGlobal_global (by rw [I.ok.glob]; exact I.mod.glob.keeps I.bk) hm h) hd
theorem ld_blt {E : Value → Shared → Prop} {pins : List (Addr × Obj)} {s : Shared} {σ : St} {H : Hp} {x : Str} {u : Value} {pos : Pos} {Q : Value → Shared → Prop} (I : Inv X pins σ H s) (hg : Gl X x) (hm : X.mg x = none) (hv : bootBuiltins x = some u) (h : Q u s)
    (hn : x ≠ "__name__" := by decide) (hd : (x == ("__debug__" : Str)) = false := by decide) : wpAny (model X.prog X.w) X.A (eval (.Name x pos) X.env) Q E s := by
  obtain ⟨mb, h1, h2⟩ := I.mod.blt
  exact Calls.Name_function_global I.ok.kind hg (Calls.loadGlobal_builtin (by rw [I.ok.glob]; exact I.mod.glob.keeps I.bk) hm (by rw [I.ok.blt]; exact h1.keeps I.bk) ((h2 x hn).trans hv) h) hd
/-- a module's constant, a class, a function, as a value -/
theorem pe_glob {x : Str} {v : V} {u : Value} {pos : Pos} (hg : Gl X x) (hm : X.mg x = some u) (r : RelV v u) (hd : (x == ("__debug__" : Str)) = false := by decide) : PE X (.Name x pos) (tC v) :=
  fun _ _ _ H _ I h => ld_glob I hg hm ⟨v, H, I, r, h⟩ hd
theorem pe_bltn {x : Str} {v : V} {u : Value} {pos : Pos} (hg : Gl X x) (hm : X.mg x = none) (hv : bootBuiltins x = some u) (r : RelV v u) (hn : x ≠ "__name__" := by decide) (hd : (x == ("__debug__" : Str)) = false := by decide) : PE X (.Name x pos) (tC v) :=
  fun _ _ _ H _ I h => ld_blt I hg hm hv ⟨v, H, I, r, h⟩ hn hd

/-! ### arithmetic -/
variable {a b : Expr} {ta tb : TE} {pos : Pos}
/-! ### comparisons -/
/-- a comparison as a value, as a test -/
def tB (t : TE) : TT := fun σ H Q => t σ H fun x H1 => ∃ c, x = .bl c ∧ Q c H1
/-- an expression whose value is a bool, as a test -/
theorem pt_val {e : Expr} {t : TE} (h : PE X e t) (he : ∀ whole, isTrue e X.env whole = (do let v ← whole; standAt e.pos; holding [v] (truthy v)) := by intro _; rfl) : PT X e (tB t) := by
  intro pins s σ H Q I hw
  refine isTrue_plain (thn (h pins s σ H _ I hw) fun v s1 ⟨x, H1, I1, r1, q1⟩ => ?_) (he _)
  obtain ⟨d, rfl, q⟩ := q1
  cases r1
  exact wpAny_truthy_bool ⟨H1, I1, q⟩

/-! ### and, or, not -/
variable {tA tB' : TT} {rest : List Expr}
def tAnd (t u : TT) : TT := fun σ H Q => t σ H fun c H1 => if c = true then u σ H1 Q else Q false H1
def tOr (t u : TT) : TT := fun σ H Q => t σ H fun c H1 => if c = true then Q true H1 else u σ H1 Q
def tNot (t : TT) : TT := fun σ H Q => t σ H fun c H1 => Q (!c) H1
theorem pw_and1 (ha : PT X a tA) : PW X (.BoolOp .And [a] pos) tA := by
  intro wh pins s σ H Q I h
  refine isTrue_and (thn (ha pins s σ H Q I h) fun c s1 e => ?_)
  cases c with
  | true => exact isTrue_and_nil e
  | false => exact e
theorem pw_or1 (ha : PT X a tA) : PW X (.BoolOp .Or [a] pos) tA := by
  intro wh pins s σ H Q I h
  refine isTrue_or (thn (ha pins s σ H Q I h) fun c s1 e => ?_)
  cases c with
  | false => exact isTrue_or_nil e
  | true => exact e
theorem pw_and (ha : PT X a tA) (hb : PW X (.BoolOp .And (b :: rest) pos) tB') : PW X (.BoolOp .And (a :: b :: rest) pos) (tAnd tA tB') := by
  intro wh pins s σ H Q I h
  refine isTrue_and (thn (ha pins s σ H _ I h) fun c s1 ⟨H1, I1, q1⟩ => ?_)
  cases c with
  | true => exact hb wh pins s1 σ H1 Q I1 q1
  | false => exact ⟨H1, I1, q1⟩
theorem pw_or (ha : PT X a tA) (hb : PW X (.BoolOp .Or (b :: rest) pos) tB') : PW X (.BoolOp .Or (a :: b :: rest) pos) (tOr tA tB') := by
  intro wh pins s σ H Q I h
  refine isTrue_or (thn (ha pins s σ H _ I h) fun c s1 ⟨H1, I1, q1⟩ => ?_)
  cases c with
  | true => exact ⟨H1, I1, q1⟩
  | false => exact hb wh pins s1 σ H1 Q I1 q1
theorem pt_not (ha : PT X a tA) : PT X (.UnaryOp .Not a pos) (tNot tA) := by
  intro pins s σ H Q I h
  exact isTrue_not (ha pins s σ H (fun c H1 => Q (!c) H1) I h)
/-- .. as values (bools) -/
def tAndV (ta tb : TE) : TE := fun σ H Q => ta σ H fun x H1 => ∃ c, x = .bl c ∧ if c = true then tb σ H1 Q else Q (.bl false) H1
def tOrV (ta tb : TE) : TE := fun σ H Q => ta σ H fun x H1 => ∃ c, x = .bl c ∧ if c = true then Q (.bl true) H1 else tb σ H1 Q
def tNotV (ta : TE) : TE := fun σ H Q => ta σ H fun x H1 => ∃ c, x = .bl c ∧ Q (.bl (!c)) H1
theorem pe_one {op} {t : TE} (h : PE X a t) : PE X (.BoolOp op [a] pos) t := fun pins s σ H Q I hw => BoolOp_one (h pins s σ H Q I hw)
theorem pe_and (ha : PE X a ta) (hb : PE X (.BoolOp .And (b :: rest) pos) tb) : PE X (.BoolOp .And (a :: b :: rest) pos) (tAndV ta tb) := by
  intro pins s σ H Q I h
  refine BoolOp_and (thn (ha pins s σ H _ I h) fun v s1 ⟨x, H1, I1, r1, q1⟩ => ?_)
  obtain ⟨c, rfl, q1⟩ := q1
  cases r1
  refine wpAny_truthy_bool ?_
  cases c with
  | true => exact hb pins s1 σ H1 Q I1 q1
  | false => exact ⟨.bl false, H1, I1, rfl, q1⟩
theorem pe_or (ha : PE X a ta) (hb : PE X (.BoolOp .Or (b :: rest) pos) tb) : PE X (.BoolOp .Or (a :: b :: rest) pos) (tOrV ta tb) := by
  intro pins s σ H Q I h
  refine BoolOp_or (thn (ha pins s σ H _ I h) fun v s1 ⟨x, H1, I1, r1, q1⟩ => ?_)
  obtain ⟨c, rfl, q1⟩ := q1
  cases r1
  refine wpAny_truthy_bool ?_
  cases c with
  | false => exact hb pins s1 σ H1 Q I1 q1
  | true => exact ⟨.bl true, H1, I1, rfl, q1⟩
theorem pe_not (ha : PE X a ta) : PE X (.UnaryOp .Not a pos) (tNotV ta) := by
  intro pins s σ H Q I h
  refine UnaryOp_ (thn (ha pins s σ H _ I h) fun v s1 ⟨x, H1, I1, r1, q1⟩ => ?_)
  obtain ⟨c, rfl, q1⟩ := q1
  cases r1
  exact not_of (wpAny_truthy_bool ⟨.bl (!c), H1, I1, rfl, q1⟩)
/-- a if t else b -/
def tIf (t : TT) (ta tb : TE) : TE := fun σ H Q => t σ H fun c H1 => if c = true then ta σ H1 Q else tb σ H1 Q
theorem pe_ifExp {c : Expr} (hc : PT X c tA) (ha : PE X a ta) (hb : PE X b tb) : PE X (.IfExp c a b pos) (tIf tA ta tb) := by
  intro pins s σ H Q I h
  refine wpAny_IfExp (thn (hc pins s σ H _ I h) fun d s1 ⟨H1, I1, q1⟩ => ?_)
  cases d with
  | true => exact ha pins s1 σ H1 Q I1 q1
  | false => exact hb pins s1 σ H1 Q I1 q1
end
end L2

namespace L2
open PySem PySem.Spec PyProof.Rows

/-! ### a list, a tuple that is read: tracked, frozen, or an object of the module -/
def SqL (K : PySem.W.Frag) (H : Hp) (a : Addr) (xs : List V) : Prop :=
  Rd H a (.lst xs) ∨
    ∃ (o : Obj) (its : Array Value) (n : Nat), K.lookup a = some o ∧ o.cls = .type "list" ∧ o.dict = none ∧ o.data = .seq its n ∧ its.size ≤ sizeLine ∧ Vals xs its.toList
def SqT (K : PySem.W.Frag) (H : Hp) (a : Addr) (xs : List V) : Prop :=
  Rd H a (.tup xs) ∨
    ∃ (o : Obj) (its : Array Value) (n : Nat), K.lookup a = some o ∧ o.cls = .type "tuple" ∧ o.data = .seq its n ∧ its.size ≤ sizeLine ∧ Vals xs its.toList
def absV : Value → Option V
  | .none => some .non
  | .bool b => some (.bl b)
  | .int i _ => some (.int i)
  | .str x _ => some (.str x)
  | .bytes b _ => some (.byt b)
  | .float b _ => some (.flt b)
  | .ref a => some (.ref a)
  | .type n => some (.ty n)
  | _ => none
theorem RelV.abs {x : V} {u : Value} (r : RelV x u) : absV u = some x := by
  cases x with
  | non => cases r; rfl
  | bl _ => cases r; rfl
  | int _ => obtain ⟨t, rfl⟩ := r; rfl
  | str _ => obtain ⟨t, rfl⟩ := r; rfl
  | byt _ => obtain ⟨t, rfl⟩ := r; rfl
  | flt _ => obtain ⟨t, rfl⟩ := r; rfl
  | ref _ => cases r; rfl
  | ty _ => cases r; rfl
theorem RelV.inj {x y : V} {u : Value} (r : RelV x u) (q : RelV y u) : x = y := Option.some.inj (r.abs.symm.trans q.abs)
theorem Vals.inj : ∀ {xs ys : List V} {us : List Value}, Vals xs us → Vals ys us → xs = ys
  | _, _, _, .nil, .nil => rfl
  | _, _, _, .cons r t, .cons r' t' => by rw [r.inj r', Vals.inj t t']
section
variable {X : Cx} {pins : List (Addr × Obj)} {σ : St} {H : Hp} {s : Shared} {a : Addr} {xs ys : List V}
theorem SqL.of {K : PySem.W.Frag} (h : H a = some (.lst xs)) : SqL K H a xs := .inl (.inl h)
theorem SqT.of {K : PySem.W.Frag} (h : H a = some (.tup xs)) : SqT K H a xs := .inl (.inl h)
theorem Inv.list (I : Inv X pins σ H s) (h : SqL X.K H a xs) : ∃ its : List Value, Vals xs its ∧ PlainL s.heap a its.toArray ∧ xs.length ≤ sizeLine := by
  rcases h with h | ⟨o, its, n, hk, hc, hd, hs, hz, r⟩
  · obtain ⟨z, its, n, r, e⟩ := h.ok I.hok
    exact ⟨its, r, ⟨_, n, e, rfl, rfl, rfl⟩, z⟩
  · refine ⟨its.toList, r, ⟨o, n, I.kIn a o hk, hc, hd, by simpa using hs⟩, ?_⟩
    have e := r.length
    simp only [Array.length_toList] at e
    omega
theorem Inv.tuple (I : Inv X pins σ H s) (h : SqT X.K H a xs) : ∃ its : List Value, Vals xs its ∧ IsTup s.heap a its.toArray ∧ xs.length ≤ sizeLine := by
  rcases h with h | ⟨o, its, n, hk, hc, hs, hz, r⟩
  · obtain ⟨z, its, r, p⟩ := h.ok I.hok
    exact ⟨its, r, p, z⟩
  · refine ⟨its.toList, r, ⟨o, I.kIn a o hk, hc, n, by simpa using hs⟩, ?_⟩
    have e := r.length
    simp only [Array.length_toList] at e
    omega
theorem Inv.list_inj (I : Inv X pins σ H s) (h : SqL X.K H a xs) (h' : SqL X.K H a ys) : xs = ys := by
  obtain ⟨its, r, ⟨o, n, e, _, _, d⟩, _⟩ := I.list h
  obtain ⟨its', r', ⟨o', n', e', _, _, d'⟩, _⟩ := I.list h'
  rw [e] at e'; cases e'
  rw [d] at d'
  injection d' with d1 _
  have : its = its' := by simpa using congrArg Array.toList d1
  subst this
  exact r.inj r'
end

/-! ### another wish about exceptions -/
abbrev Cx.wish (X : Cx) (E : Value → Shared → Prop) : Cx := { X with xe := E }
/-- no exception leaves -/
abbrev Cx.nox (X : Cx) : Cx := X.wish fun _ _ => False
theorem Cx.Ok.wish {X : Cx} (ok : X.Ok) (E : Value → Shared → Prop) : (X.wish E).Ok :=
  ⟨ok.mod, ok.kind, ok.glob, ok.blt, ok.above, ok.inj, ok.has, ok.cab, ok.hd, ok.frames, ok.stk, ok.exf, ok.bs, ok.bsz, ok.noex, ok.exfs, ok.funs, ok.frf⟩
theorem Cx.Ok.unwish {X : Cx} {E : Value → Shared → Prop} (ok : (X.wish E).Ok) : X.Ok :=
  ⟨ok.mod, ok.kind, ok.glob, ok.blt, ok.above, ok.inj, ok.has, ok.cab, ok.hd, ok.frames, ok.stk, ok.exf, ok.bs, ok.bsz, ok.noex, ok.exfs, ok.funs, ok.frf⟩
section
variable {X : Cx} {pins : List (Addr × Obj)} {σ : St} {H : Hp} {s : Shared} {E : Value → Shared → Prop}
theorem Inv.wish (I : Inv X pins σ H s) (E : Value → Shared → Prop) : Inv (X.wish E) pins σ H s := ⟨I.ok.wish E, I.os, I.bare, I.base, I.loc, I.cell, I.free, I.freeC, I.pin, I.hok, I.len⟩
theorem Inv.unwish (I : Inv (X.wish E) pins σ H s) : Inv X pins σ H s := ⟨I.ok.unwish, I.os, I.bare, I.base, I.loc, I.cell, I.free, I.freeC, I.pin, I.hok, I.len⟩
theorem SP.unwish {D : Ends} {f : Flow} {s' : Shared} (h : SP (X.wish E) pins D f s') : SP X pins D f s' := by
  cases f with
  | next => obtain ⟨σ', H', I, q⟩ := h; exact ⟨σ', H', I.unwish, q⟩
  | brk => obtain ⟨σ', H', I, q⟩ := h; exact ⟨σ', H', I.unwish, q⟩
  | cont => obtain ⟨σ', H', I, q⟩ := h; exact ⟨σ', H', I.unwish, q⟩
  | ret u => obtain ⟨v, σ', H', I, r, q⟩ := h; exact ⟨v, σ', H', I.unwish, r, q⟩
theorem PE.nox {e : Expr} {t : TE} (h : PE X.nox e t) : PE X e t := fun pins s σ H Q I hw =>
  wpAny_mono (h pins s σ H Q (I.wish _) hw) (fun _ _ ⟨v, H', I', r, q⟩ => ⟨v, H', I'.unwish, r, q⟩) fun _ _ z => False.elim z
theorem PT.nox {e : Expr} {t : TT} (h : PT X.nox e t) : PT X e t := fun pins s σ H Q I hw =>
  wpAny_mono (h pins s σ H Q (I.wish _) hw) (fun _ _ ⟨H', I', q⟩ => ⟨H', I'.unwish, q⟩) fun _ _ z => False.elim z
theorem PSs.nox {st : List Stmt} {t : TS} (h : PSs X.nox st t) : PSs X st t := fun pins s σ H D I hw =>
  wpAny_mono (h pins s σ H D (I.wish _) hw) (fun _ _ q => q.unwish) fun _ _ z => False.elim z
end

/-! ### blocks and small statements -/
section
variable {X : Cx} {st : Stmt} {rest : List Stmt} {t u : TS} {e : Expr} {te : TE} {pos : Pos}
def tNext : TS := fun D σ H => D.nx σ H
def tSeq (t u : TS) : TS := fun D σ H => t { D with nx := u D } σ H
theorem pss_nil : PSs X [] tNext := fun _ _ σ H _ I h => wpAny_execs_nil ⟨σ, H, I, h⟩
theorem pss_cons (h1 : PS X st t) (h2 : PSs X rest u) : PSs X (st :: rest) (tSeq t u) := by
  intro pins s σ H D I h
  refine wpAny_execs_cons (thn (h1 pins s σ H { D with nx := u D } I h) fun f s1 q => ?_)
  cases f with
  | next =>
    obtain ⟨σ', H', I', q⟩ := q
    exact h2 pins s1 σ' H' D I' q
  | ret v => exact q
  | brk => exact q
  | cont => exact q
theorem pss_one (h1 : PS X st t) : PSs X [st] t := by
  intro pins s σ H D I h
  refine wpAny_execs_cons (thn (h1 pins s σ H D I h) fun f s1 q => ?_)
  cases f with
  | next => exact wpAny_execs_nil q
  | ret v => exact q
  | brk => exact q
  | cont => exact q
def tBreak : TS := fun D σ H => D.bk σ H
/-- in a def's body nothing is shown -/
theorem Inv.quiet {pins : List (Addr × Obj)} {σ : St} {H : Hp} {s : Shared} (I : Inv X pins σ H s) : interactive X.env = false := by simp [interactive, I.ok.kind]
/-- an expression whose value is dropped -/
def tDrop (te : TE) : TS := fun D σ H => te σ H fun _ H1 => D.nx σ H1
theorem ps_expr (he : PE X e te) (hs : swapsWith e none pos.line X.env = pure false := by rfl) : PS X (.Expr e pos) (tDrop te) := by
  intro pins s σ H D I h
  exact wpAny_Expr_any (thn (he pins s σ H _ I h) fun v s1 ⟨x, H1, I1, r1, q1⟩ => ⟨σ, H1, I1, q1⟩) I.quiet hs
def tRet (te : TE) : TS := fun D σ H => te σ H D.rt
theorem ps_ret (he : PE X e te) : PS X (.Return (some e) pos) (tRet te) := by
  intro pins s σ H D I h
  exact wpAny_Return_some (thn (he pins s σ H _ I h) fun v s1 ⟨x, H1, I1, r1, q1⟩ => ⟨x, σ, H1, I1, r1, q1⟩)
def tIfS (c : TT) (t u : TS) : TS := fun D σ H => c σ H fun b H1 => if b = true then t D σ H1 else u D σ H1
theorem ps_if {c : Expr} {a b : List Stmt} {tc : TT} (hc : PT X c tc) (ha : PSs X a t) (hb : PSs X b u) : PS X (.If c a b pos) (tIfS tc t u) := by
  intro pins s σ H D I h
  refine wpAny_If (thn (hc pins s σ H _ I h) fun d s1 ⟨H1, I1, q1⟩ => ?_)
  cases d with
  | true => exact ha pins s1 σ H1 D I1 q1
  | false => exact hb pins s1 σ H1 D I1 q1
/-- code that the proof never comes to -/
def tNever : TS := fun _ _ _ => False
end

/-! ### targets -/
abbrev TG := V → St → Hp → (St → Hp → Prop) → Prop
abbrev TGs := List V → St → Hp → (St → Hp → Prop) → Prop
def PG (X : Cx) (target : Expr) (t : TG) : Prop :=
  ∀ (pins : List (Addr × Obj)) (s : Shared) (σ : St) (H : Hp) (v : V) (u : Value) (Q : St → Hp → Prop), Inv X pins σ H s → RelV v u → t v σ H Q →
    wpAny (model X.prog X.w) X.A (assign target X.env u) (fun _ s' => ∃ σ' H', Inv X pins σ' H' s' ∧ Q σ' H') X.xe s
/-- o[i] = v, by values -/
abbrev TSet := V → V → V → Hp → (Hp → Prop) → Prop
section
variable {X : Cx} {pos : Pos}
def gName (i : Nat) : TG := fun v σ H Q => Q (σ.set i (some v)) H
theorem pg_name {i : Nat} {x : Str} (hN : X.N.Nodup) (hi : X.N[i]? = some x) (hx : Loc X.env.scope x) (hf : X.fn x = true ∨ X.env.scope.names.lookup x = some .local := by first | exact .inl rfl | exact .inr rfl | assumption) : PG X (.Name x pos) (gName i) := by
  intro pins s σ H v u Q I r h
  exact wpAny_assign_Name (store_ok I hN hi hx r (fun s' I' => ⟨_, H, I', h⟩) hf)
def gNil : TGs := fun vs σ H Q => vs = [] ∧ Q σ H
def gCons (t : TG) (u : TGs) : TGs := fun vs σ H Q => ∃ v r, vs = v :: r ∧ t v σ H fun σ' H' => u r σ' H' Q
/-- (a, b, ..) = a tuple of that length -/
def gTup (K : PySem.W.Frag) (n : Nat) (t : TGs) : TG := fun v σ H Q => ∃ a xs, v = .ref a ∧ SqT K H a xs ∧ xs.length = n ∧ t xs σ H Q
/-- o[i] = .. -/
def gSub (to ti : TE) (t : TSet) : TG := fun v σ H Q => to σ H fun o H1 => ti σ H1 fun i H2 => t o i v H2 fun H3 => Q σ H3
/-- target = value -/
def tAsg (te : TE) (g : TG) : TS := fun D σ H => te σ H fun x H1 => g x σ H1 D.nx
/-- name = value -/
theorem ps_set {i : Nat} {x : Str} {e : Expr} {te : TE} {pos' : Pos} (hN : X.N.Nodup) (hi : X.N[i]? = some x) (hx : Loc X.env.scope x) (he : PE X e te) (hs : swapsWith e (some (.Name x pos')) pos.line X.env = pure false := by rfl) (hf : X.fn x = true ∨ X.env.scope.names.lookup x = some .local := by first | exact .inl rfl | exact .inr rfl | assumption) :
    PS X (.Assign [.Name x pos'] e pos) (tAsg te (gName i)) := by
  intro pins s σ H D I h
  refine wpAny_Assign_Name (thn (he pins s σ H _ I h) fun v s1 ⟨y, H1, I1, r1, q1⟩ => ?_) hs
  exact store_ok I1 hN hi hx r1 (fun s2 I2 => ⟨_, H1, I2, q1⟩) hf
end

/-! ### while -/
section
variable {X : Cx} {pos : Pos}
/-- the invariant W with its measure -/
def tWhile (c : TT) (tb : TS) : TS := fun D σ H => ∃ W : Nat → St → Hp → Prop, (∃ m, W m σ H) ∧ ∀ m σ H, W m σ H →
  c σ H fun b H1 => if b = true then ∃ N : St → Hp → Prop, (∀ σ' H', N σ' H' → ∃ m', m' < m ∧ W m' σ' H') ∧ tb { D with nx := N, ct := N, bk := D.nx } σ H1 else D.nx σ H1
theorem ps_while {c : Expr} {body : List Stmt} {tc : TT} {tb : TS} (hp : PassesOwn (model X.prog X.w) X.A X.env X.xe) (hc : PT X c tc) (hb : PSs X body tb) : PS X (.While c body [] pos) (tWhile tc tb) := by
  intro pins s σ H D I h
  obtain ⟨W, ⟨m0, w0⟩, turn⟩ := h
  refine wpAny_While (codeAny_whileLoop (fun n s' => ∃ σ' H', Inv X pins σ' H' s' ∧ W n σ' H') ?_ m0 ⟨σ, H, I, w0⟩)
  rintro n s1 ⟨σ1, H1, I1, w1⟩
  refine wpAny_passesOwn hp (thn (hc pins s1 σ1 H1 _ I1 (turn n σ1 H1 w1)) fun b s2 ⟨H2, I2, q2⟩ => ?_)
  cases b with
  | true =>
    obtain ⟨N, hN, q2⟩ := q2
    rw [if_pos rfl]
    refine wpAny_passesOwn hp (thn (hb pins s2 σ1 H2 _ I2 q2) fun f s3 q3 => ?_)
    cases f with
    | next =>
      obtain ⟨σ3, H3, I3, n3⟩ := q3
      obtain ⟨m', hm, w3⟩ := hN σ3 H3 n3
      exact ⟨m', hm, σ3, H3, I3, w3⟩
    | cont =>
      obtain ⟨σ3, H3, I3, n3⟩ := q3
      obtain ⟨m', hm, w3⟩ := hN σ3 H3 n3
      exact ⟨m', hm, σ3, H3, I3, w3⟩
    | brk => exact q3
    | ret v => exact q3
  | false =>
    rw [if_neg Bool.false_ne_true]
    exact wpAny_execs_nil ⟨σ1, H2, I2, q2⟩
end

/-! ### what a loop or a comprehension walks -/
/-- at turn i: it yields x (the heap may grow), or it stops -/
structure It where
  go : Nat → Hp → Prop
  yld : Nat → Hp → V → Hp → Prop
  stop : Nat → Hp → Prop
/-- the iterator's own objects may turn: they are not the frame's, not pinned, younger than the entry (or a comprehension's own) -/
def FpOk (X : Cx) (pins : List (Addr × Obj)) (H : Hp) (b : Addr) : Prop :=
  H b = none ∧ b ≠ X.env.locals ∧ b ∉ X.fs ∧ (b ∈ X.ex ∨ X.s₀.heap.objs.size ≤ b) ∧ (∀ x c, X.env.cells.lookup x = some c → c ≠ b) ∧ ∀ p ∈ X.pn ++ pins, p.1 ≠ b
theorem Inv.fpOk {X : Cx} {pins : List (Addr × Obj)} {σ : St} {H H' : Hp} {s : Shared} {b : Addr} (I : Inv X pins σ H s) (hb : s.heap.objs.size ≤ b) (hn : H' b = none) : FpOk X pins H' b := by
  refine ⟨hn, Nat.ne_of_gt (Nat.lt_of_lt_of_le I.lt hb), I.nofs hb, .inr (Nat.le_trans I.sz hb), fun x c e z => ?_, fun p hp z => ?_⟩
  · obtain ⟨v, q⟩ := I.cell x c e
    exact absurd (Nat.lt_of_lt_of_le q.lt (by rw [z]; exact hb)) (Nat.lt_irrefl _)
  · exact absurd (Nat.lt_of_lt_of_le (Heap.lt_size (I.pin p hp).1) (by rw [z]; exact hb)) (Nat.lt_irrefl _)
structure Turn (P : Program) (w : World) (K : PySem.W.Frag) (tg : Expr) (J : It) (fp : List Addr) (it : Addr) (tn : Nat → Heap → Prop) : Prop where
  mem : it ∈ fp
  obj : ∀ i h, tn i h → ∀ b ∈ fp, ∃ o, h.get? b = some o ∧ ∀ v, o.data ≠ .cell v
  keep : ∀ i h h', tn i h → (∀ b ∈ fp, ∀ o, h.get? b = some o → h'.get? b = some o) → tn i h'
  item : ∀ (X : Cx), X.prog = P → X.w = w → X.K = K → X.calm = true → ∀ (i : Nat) (pins : List (Addr × Obj)) (s : Shared) (σ : St) (H : Hp) (E : Value → Shared → Prop), Inv X pins σ H s → (∀ b ∈ fp, FpOk X pins H b) → tn i s.heap → J.go i H →
    wpAny (model P w) X.A (pyNext (.ref it)) (fun r s1 => ∃ u, r = some u ∧
      wpAny (model P w) X.A (letOwnedTupleGo tg (.ref it) u) (fun _ s2 => ∃ x H', Inv X pins σ H' s2 ∧ RelV x u ∧ J.yld i H x H' ∧ tn (i + 1) s2.heap ∧ ∀ b ∈ fp, H' b = none) E s1) E s
  done : ∀ (X : Cx), X.prog = P → X.w = w → X.K = K → X.calm = true → ∀ (i : Nat) (pins : List (Addr × Obj)) (s : Shared) (σ : St) (H : Hp) (E : Value → Shared → Prop), Inv X pins σ H s → (∀ b ∈ fp, FpOk X pins H b) → tn i s.heap → J.stop i H →
    wpAny (model P w) X.A (pyNext (.ref it)) (fun r s1 => r = none ∧ Inv X pins σ H s1) E s
  self : ∀ (A : Around) (i : Nat) (s : Shared) (Q : Value → Shared → Prop) (E : Value → Shared → Prop), tn i s.heap → Q (.ref it) s → wpAny (model P w) A (pyIter (.ref it)) Q E s
abbrev TI := St → Hp → (It → Hp → Prop) → Prop
/-- an iterator has come -/
def PIE (X : Cx) (pins : List (Addr × Obj)) (σ : St) (tg : Expr) (R : It → Hp → Prop) (itv : Value) (s2 : Shared) : Prop :=
  ∃ (it : Addr) (fp : List Addr) (tn : Nat → Heap → Prop) (J : It) (H' : Hp), itv = .ref it ∧ Inv X pins σ H' s2 ∧ Turn X.prog X.w X.K tg J fp it tn ∧ tn 0 s2.heap ∧ (∀ b ∈ fp, FpOk X pins H' b) ∧ R J H'
def PI (X : Cx) (tg iter : Expr) (wi : TI) : Prop :=
  ∀ (pins : List (Addr × Obj)) (s : Shared) (σ : St) (H : Hp) (R : It → Hp → Prop), Inv X pins σ H s → wi σ H R →
    wpAny (model X.prog X.w) X.A (eval iter X.env) (fun v s1 => wpAny (model X.prog X.w) X.A (pyIter v) (PIE X pins σ tg R) X.xe s1) X.xe s

/-- the step ahead of the store is nothing for an iterator that keeps no tuple -/
theorem go_of {M : Model} {A : Around} {E : Value → Shared → Prop} {s : Shared} {tg : Expr} {it : Addr} {u : Value} {o : Obj} {n : String} {vs : Array Value} {Q : Unit → Shared → Prop} (ho : s.heap.get? it = some o) (hc : o.cls = .type n) (hd : o.data = .fields vs)
    (hn : ["enumerate", "zip", "dict_itemiterator", "dict_reverseitemiterator", "odict_iterator", "itertools.zip_longest", "itertools.pairwise"].contains n = false) (hQ : Q () s) : wpAny M A (letOwnedTupleGo tg (.ref it) u) Q E s := by
  unfold letOwnedTupleGo
  cases tg <;> first
    | exact wpAny_pure hQ
    | (cases u <;> first
        | exact wpAny_pure hQ
        | (refine wpAny_bind (wpAny_load ho ?_)
           rw [hc, hd]
           show wpAny M A (if (["enumerate", "zip", "dict_itemiterator", "dict_reverseitemiterator", "odict_iterator", "itertools.zip_longest", "itertools.pairwise"].contains n && vs[0]? == some (rawInt _)) = true then _ else _) Q E s
           rw [if_neg (by intro h; rw [hn, Bool.false_and] at h; cases h)]
           exact wpAny_pure hQ))

/-- the list at a, as it stands at each turn (a loop may append to it) -/
def Itl (K : PySem.W.Frag) (a : Addr) : It :=
  ⟨fun i H => ∃ xs x, SqL K H a xs ∧ xs[i]? = some x, fun i H x H' => H' = H ∧ ∀ xs, SqL K H a xs → xs[i]? = some x, fun i H => ∃ xs, SqL K H a xs ∧ xs.length ≤ i⟩
def Itt (K : PySem.W.Frag) (a : Addr) : It :=
  ⟨fun i H => ∃ xs x, SqT K H a xs ∧ xs[i]? = some x, fun i H x H' => H' = H ∧ ∀ xs, SqT K H a xs → xs[i]? = some x, fun i H => ∃ xs, SqT K H a xs ∧ xs.length ≤ i⟩
/-- lo, lo + 1, .. (n of them) -/
def Itr (lo : Int) (n : Nat) : It := ⟨fun i _ => i < n, fun i H x H' => H' = H ∧ x = .int (lo + i), fun i _ => n ≤ i⟩
theorem turn_list {P : Program} {w : World} {K : PySem.W.Frag} {tg : Expr} (a it : Addr) : Turn P w K tg (Itl K a) [it] it (fun i h => h.IsListIter it a i) where
  mem := by simp
  obj := fun i h st b hb => by
    have e : b = it := by simpa using hb
    subst e
    obtain ⟨o, e, c, d⟩ := st
    exact ⟨o, e, fun v z => by rw [d] at z; cases z⟩
  keep := fun i h h' st k => st.at fun o e => k it (by simp) o e
  item := by
    intro X hP hw hK hc i pins s σ H E I hf st hg
    subst hP hw hK
    obtain ⟨xs, x, hq, hx⟩ := hg
    obtain ⟨its, rv, p, hz⟩ := I.list hq
    obtain ⟨u, hu, ru⟩ := rv.get hx
    obtain ⟨f0, f1, f2, f3, f4, f5⟩ := hf it (by simp)
    refine wpAny_pyNext_list_item st p.isList (x := u) (by simpa using hu) fun h' st' sb => ?_
    have I1 : Inv X pins σ H { s with heap := h' } := I.turned (t' := s.toks) (fun b o hb e => (sb.2 b hb).trans e) f0 f1 f3 f4 f5
    obtain ⟨o, e, c, d⟩ := id st'
    exact ⟨u, rfl, go_of (s := { s with heap := h' }) e c d (by decide) ⟨x, H, I1, ru, ⟨rfl, fun ys hy => by rw [I.list_inj hy hq]; exact hx⟩, st', fun b hb => (hf b hb).1⟩⟩
  done := by
    intro X hP hw hK hc i pins s σ H E I hf st hg
    subst hP hw hK
    obtain ⟨xs, hq, hx⟩ := hg
    obtain ⟨its, rv, p, hz⟩ := I.list hq
    obtain ⟨f0, f1, f2, f3, f4, f5⟩ := hf it (by simp)
    have hl := rv.length
    exact wpAny_pyNext_list_end (I.ok.hd hc) st p.isList (by simp; omega) fun h' eb => ⟨rfl, I.turned (t' := s.toks) (fun b o hb e => eb b o hb e) f0 f1 f3 f4 f5⟩
  self := fun _ _ _ _ _ st h => wpAny_pyIter_listiter st h
end L2

namespace L2
open PySem PySem.Spec PyProof.Rows
section
variable {X : Cx} {tg : Expr}
def iList (K : PySem.W.Frag) (tl : TE) : TI := fun σ H R => tl σ H fun x H1 => ∃ a, x = .ref a ∧ (∃ xs, SqL K H1 a xs) ∧ R (Itl K a) H1
def iTup (K : PySem.W.Frag) (tl : TE) : TI := fun σ H R => tl σ H fun x H1 => ∃ a, x = .ref a ∧ (∃ xs, SqT K H1 a xs) ∧ R (Itt K a) H1
theorem pi_list {l : Expr} {tl : TE} (hl : PE X l tl) : PI X tg l (iList X.K tl) := by
  intro pins s σ H R I h
  refine thn (hl pins s σ H _ I h) fun v s1 ⟨x, H1, I1, r1, q1⟩ => ?_
  obtain ⟨a, e, ⟨xs, hq⟩, q⟩ := q1
  subst e
  cases r1
  obtain ⟨its, rv, p, hz⟩ := I1.list hq
  refine wpAny_pyIter_list p.isList ?_
  refine ⟨s1.heap.objs.size, [s1.heap.objs.size], _, _, H1, rfl, I1.kept (t' := s1.toks) fun b o e => Heap.get?_push_of_some _ e, turn_list a _, ⟨_, Heap.get?_push_size _ rfl, rfl, rfl⟩, fun b hb => ?_, q⟩
  have e : b = s1.heap.objs.size := by simpa using hb
  subst e
  exact I1.fpOk (Nat.le_refl _) (I1.hok.fresh (Nat.le_refl _))
def iRng1 (ta : TA) : TI := fun σ H R => ta σ H fun vs H1 => ∃ j : Int, vs = [.int j] ∧ -(2 ^ 62) ≤ j ∧ j < 2 ^ 62 ∧ R (Itr 0 j.toNat) H1
/-! ### for -/
/-- W: the invariant by the turn and a measure; N: what the body is to reach -/
def tFor (wi : TI) (g : TG) (tb : TS) : TS := fun D σ H => wi σ H fun J H1 => ∃ W : Nat → Nat → St → Hp → Prop, (∃ m, W 0 m σ H1) ∧ ∀ i m σ H, W i m σ H →
  (J.stop i H ∧ D.nx σ H) ∨ (J.go i H ∧ ∃ N : St → Hp → Prop, (∀ σ' H', N σ' H' → ∃ m', m' < m ∧ W (i + 1) m' σ' H') ∧ ∀ x H', J.yld i H x H' → g x σ H' fun σ2 H2 => tb { D with nx := N, ct := N, bk := D.nx } σ2 H2)
/-- the records at fp as they stand -/
def pinsAt (fp : List Addr) (h : Heap) : List (Addr × Obj) := fp.filterMap fun b => (h.get? b).map fun o => (b, o)
theorem mem_pinsAt {fp : List Addr} {h : Heap} {b : Addr} {o : Obj} (hb : b ∈ fp) (e : h.get? b = some o) : (b, o) ∈ pinsAt fp h := List.mem_filterMap.mpr ⟨b, hb, by rw [e]; rfl⟩
theorem of_pinsAt {fp : List Addr} {h : Heap} {p : Addr × Obj} (hp : p ∈ pinsAt fp h) : p.1 ∈ fp ∧ h.get? p.1 = some p.2 := by
  obtain ⟨b, hb, e⟩ := List.mem_filterMap.mp hp
  cases q : h.get? b with
  | none => rw [q] at e; cases e
  | some o =>
    rw [q] at e
    have e' : (b, o) = p := Option.some.inj e
    subst e'
    exact ⟨hb, q⟩
theorem Inv.pinned {pins : List (Addr × Obj)} {σ : St} {H : Hp} {s : Shared} {fp : List Addr} (I : Inv X pins σ H s) (hf : ∀ b ∈ fp, FpOk X pins H b) (ho : ∀ b ∈ fp, ∃ o, s.heap.get? b = some o ∧ ∀ v, o.data ≠ .cell v) : Inv X (pins ++ pinsAt fp s.heap) σ H s :=
  I.pins_of fun p hp => (List.mem_append.mp hp).elim (fun z => I.pin p (List.mem_append_right _ z)) fun z => by
    obtain ⟨hb, e⟩ := of_pinsAt z
    obtain ⟨f0, f1, f2, _⟩ := hf p.1 hb
    obtain ⟨o, e', d⟩ := ho p.1 hb
    rw [e] at e'; cases e'
    exact ⟨e, f0, f1, f2, d⟩
theorem Inv.unpinned {pins pl : List (Addr × Obj)} {σ : St} {H : Hp} {s : Shared} (I : Inv X (pins ++ pl) σ H s) : Inv X pins σ H s := I.pins_of fun p hp => I.pin p (List.mem_append_right _ (List.mem_append_left _ hp))
theorem ps_for {iter : Expr} {body : List Stmt} {wi : TI} {g : TG} {tb : TS} {pos : Pos} (hp : PassesOwn (model X.prog X.w) X.A X.env X.xe) (hc : X.calm = true) (hi : PI X tg iter wi) (hg : PG X tg g) (hb : PSs X body tb)
    (hs : ∀ x, foldedSetIterable iter X.env x = pure x := by intro _; rfl) : PS X (.For tg iter body [] pos) (tFor wi g tb) := by
  intro pins s σ H D I h
  refine wpAny_For (thn (hi pins s σ H _ I h) fun v s1 h1 => thn h1 fun itv s2 h2 => ?_) hs
  obtain ⟨it, fp, tn, J, H2, e, I2, T, st2, f2, W, ⟨m0, w0⟩, turn⟩ := h2
  subst e
  -- what stays true of the iterator's objects through the loop
  have stat : ∀ {H' : Hp}, (∀ b ∈ fp, H' b = none) → ∀ b ∈ fp, FpOk X pins H' b := fun hn b hb => ⟨hn b hb, (f2 b hb).2⟩
  refine codeAny_forLoop_any (fun n s' => ∃ i σ' H', Inv X pins σ' H' s' ∧ tn i s'.heap ∧ (∀ b ∈ fp, H' b = none) ∧ W i n σ' H') ?_ m0 ⟨0, σ, H2, I2, st2, fun b hb => (f2 b hb).1, w0⟩
  rintro n s3 ⟨i, σ3, H3, I3, st3, fr3, w3⟩
  rcases turn i n σ3 H3 w3 with ⟨stop, qn⟩ | ⟨go, N, hN, step⟩
  · refine wpAny_passesOwn hp (thn (T.done X rfl rfl rfl hc i pins s3 σ3 H3 X.xe I3 (stat fr3) st3 stop) fun r s4 ⟨hr, I4⟩ => ?_)
    subst hr
    exact wpAny_execs_nil ⟨σ3, H3, I4, qn⟩
  · refine wpAny_passesOwn hp (thn (T.item X rfl rfl rfl hc i pins s3 σ3 H3 X.xe I3 (stat fr3) st3 go) fun r s4 ⟨u, hr, h4⟩ => ?_)
    subst hr
    refine wpAny_passesOwn hp (thn h4 fun _ s5 ⟨x, H5, I5, r5, y5, st5, fr5⟩ => ?_)
    have I5' := I5.pinned (stat fr5) (T.obj _ _ st5)
    refine wpAny_passesOwn hp (thn (hg _ s5 σ3 H5 x u _ I5' r5 (step x H5 y5)) fun _ s6 ⟨σ6, H6, I6, q6⟩ => ?_)
    refine wpAny_passesOwn hp (thn (hb _ s6 σ6 H6 _ I6 q6) fun f s7 q7 => ?_)
    have again : ∀ {σ7 : St} {H7 : Hp}, Inv X (pins ++ pinsAt fp s5.heap) σ7 H7 s7 → N σ7 H7 → ∃ m, m < n ∧ ∃ i σ' H', Inv X pins σ' H' s7 ∧ tn i s7.heap ∧ (∀ b ∈ fp, H' b = none) ∧ W i m σ' H' := fun {σ7 H7} I7 n7 => by
      obtain ⟨m', hm, w7⟩ := hN σ7 H7 n7
      refine ⟨m', hm, i + 1, σ7, H7, I7.unpinned, T.keep _ _ _ st5 fun b hb o e => (I7.pin (b, o) (List.mem_append_right _ (List.mem_append_right _ (mem_pinsAt hb e)))).1, fun b hb => ?_, w7⟩
      obtain ⟨o, e, d⟩ := T.obj _ _ st5 b hb
      exact (I7.pin (b, o) (List.mem_append_right _ (List.mem_append_right _ (mem_pinsAt hb e)))).2.1
    cases f with
    | next => obtain ⟨σ7, H7, I7, n7⟩ := q7; exact again I7 n7
    | cont => obtain ⟨σ7, H7, I7, n7⟩ := q7; exact again I7 n7
    | brk => obtain ⟨σ7, H7, I7, q7⟩ := q7; exact ⟨σ7, H7, I7.unpinned, q7⟩
    | ret v => obtain ⟨x7, σ7, H7, I7, r7, q7⟩ := q7; exact ⟨x7, σ7, H7, I7.unpinned, r7, q7⟩
end

/-! ### the forms one uses -/
/-- over a list that the body leaves as it is -/
theorem for_list {K : PySem.W.Frag} {a : Addr} {xs : List V} {g : TG} {tb : TS} {D : Ends} {σ : St} {H : Hp} (Pv : Nat → St → Hp → Prop) (h0 : Pv 0 σ H) (hl : ∀ i σ H, i ≤ xs.length → Pv i σ H → SqL K H a xs)
    (hs : ∀ i x σ H, xs[i]? = some x → Pv i σ H → g x σ H fun σ2 H2 => tb { D with nx := Pv (i + 1), ct := Pv (i + 1), bk := D.nx } σ2 H2) (hd : ∀ σ H, Pv xs.length σ H → D.nx σ H) :
    ∃ W : Nat → Nat → St → Hp → Prop, (∃ m, W 0 m σ H) ∧ ∀ i m σ H, W i m σ H →
      ((Itl K a).stop i H ∧ D.nx σ H) ∨ ((Itl K a).go i H ∧ ∃ N : St → Hp → Prop, (∀ σ' H', N σ' H' → ∃ m', m' < m ∧ W (i + 1) m' σ' H') ∧ ∀ x H', (Itl K a).yld i H x H' → g x σ H' fun σ2 H2 => tb { D with nx := N, ct := N, bk := D.nx } σ2 H2) := by
  refine ⟨fun i m σ H => m = xs.length - i ∧ i ≤ xs.length ∧ Pv i σ H, ⟨xs.length, by simp, Nat.zero_le _, h0⟩, ?_⟩
  rintro i m σ H ⟨rfl, hi, p⟩
  have q := hl i σ H hi p
  by_cases hlt : i < xs.length
  · refine .inr ⟨⟨xs, xs[i], q, by simp [hlt]⟩, Pv (i + 1), fun σ' H' p' => ⟨xs.length - (i + 1), by omega, rfl, hlt, p'⟩, fun x H' y => ?_⟩
    obtain ⟨e, y⟩ := y
    subst e
    exact hs i x σ _ (y xs q) p
  · have e : i = xs.length := by omega
    subst e
    exact .inl ⟨⟨xs, q, Nat.le_refl _⟩, hd σ H p⟩
end L2

namespace L2
open PySem PySem.Spec PyProof.Rows

abbrev R2 := V → V → Hp → VK → Prop
/-- a two-place operation on values: f is binaryOp op, inplaceOp op or compareOp op -/
def OpR (X : Cx) (f : Value → Value → Sem Value) (r : R2) : Prop :=
  ∀ (pins : List (Addr × Obj)) (s : Shared) (σ : St) (H : Hp) (x y : V) (v u : Value) (Q : VK), Inv X pins σ H s → RelV x v → RelV y u → r x y H Q →
    wpAny (model X.prog X.w) X.A (f v u) (EP X pins σ Q) X.xe s
/-- a call of a value that is known (a builtin, a type) with values -/
def CallR (X : Cx) (f : Value) (r : List V → Hp → VK → Prop) : Prop :=
  ∀ (pins : List (Addr × Obj)) (s : Shared) (σ : St) (H : Hp) (xs : List V) (us : List Value) (Q : VK), Inv X pins σ H s → Vals xs us → r xs H Q →
    wpAny (model X.prog X.w) X.A (call f us) (EP X pins σ Q) X.xe s
def tOp (r : R2) (ta tb : TE) : TE := fun σ H Q => ta σ H fun x H1 => tb σ H1 fun y H2 => r x y H2 Q
def tUn (r : V → Hp → VK → Prop) (ta : TE) : TE := fun σ H Q => ta σ H fun x H1 => r x H1 Q
/-- ints in, under C, and a value out -/
def rI (C : Int → Int → Prop) (g : Int → Int → V) : R2 := fun x y H Q => ∃ i j, x = .int i ∧ y = .int j ∧ C i j ∧ Q (g i j) H
def rI0 (g : Int → Int → V) : R2 := fun x y H Q => ∃ i j, x = .int i ∧ y = .int j ∧ Q (g i j) H
def rU (g : Int → V) : V → Hp → VK → Prop := fun x H Q => ∃ i, x = .int i ∧ Q (g i) H

section
variable {X : Cx} {a b c : Expr} {ta tb tc : TE} {pos : Pos}

theorem binT (ha : PE X a ta) (hb : PE X b tb) {pins : List (Addr × Obj)} {s : Shared} {σ : St} {H : Hp} {R : V → V → Hp → Prop} (I : Inv X pins σ H s)
    (h : ta σ H fun x H1 => tb σ H1 fun y H2 => R x y H2) {Q : Value → Shared → Prop} {f : Value → Value → Sem Value}
    (hf : ∀ v u s2 x y H2, Inv X pins σ H2 s2 → RelV x v → RelV y u → R x y H2 → wpAny (model X.prog X.w) X.A (f v u) Q X.xe s2) :
    wpAny (model X.prog X.w) X.A (eval a X.env) (fun v s₁ => wpAny (model X.prog X.w) X.A (eval b X.env) (fun u s₂ => wpAny (model X.prog X.w) X.A (f v u) Q X.xe s₂) X.xe s₁) X.xe s := by
  refine thn (ha pins s σ H _ I h) fun v s1 ⟨x, H1, I1, r1, q1⟩ => ?_
  refine thn (hb pins s1 σ H1 _ I1 q1) fun u s2 ⟨y, H2, I2, r2, q2⟩ => ?_
  exact hf v u s2 x y H2 I2 r1 r2 q2

theorem pe_op {op : Operator} {r : R2} (ho : OpR X (binaryOp op) r) (ha : PE X a ta) (hb : PE X b tb) : PE X (.BinOp a op b pos) (tOp r ta tb) := by
  intro pins s σ H Q I h
  exact wpAny_BinOp (binT ha hb I h fun v u s2 x y H2 I2 rx ry q => ho pins s2 σ H2 x y v u Q I2 rx ry q)
/-! ### ints -/
theorem opI {f : Value → Value → Sem Value} {C : Int → Int → Prop} {g : Int → Int → Int}
    (rule : ∀ (i j : Int) (t u : Tok) (s : Shared) (Q : Value → Shared → Prop) (E : Value → Shared → Prop), C i j → Q (.int (g i j) s.toks) { s with toks := s.toks + 1 } → wpAny (model X.prog X.w) X.A (f (.int i t) (.int j u)) Q E s) :
    OpR X f (rI C fun i j => .int (g i j)) := by
  intro pins s σ H x y v u Q I rx ry h
  obtain ⟨i, j, rfl, rfl, hc, q⟩ := h
  obtain ⟨t, rfl⟩ := rx
  obtain ⟨t', rfl⟩ := ry
  exact rule i j t t' s _ _ hc ⟨.int (g i j), H, I.tok _, ⟨_, rfl⟩, q⟩
theorem opI0 {f : Value → Value → Sem Value} {g : Int → Int → Int}
    (rule : ∀ (i j : Int) (t u : Tok) (s : Shared) (Q : Value → Shared → Prop) (E : Value → Shared → Prop), Q (.int (g i j) s.toks) { s with toks := s.toks + 1 } → wpAny (model X.prog X.w) X.A (f (.int i t) (.int j u)) Q E s) :
    OpR X f (rI0 fun i j => .int (g i j)) := by
  intro pins s σ H x y v u Q I rx ry h
  obtain ⟨i, j, rfl, rfl, q⟩ := h
  obtain ⟨t, rfl⟩ := rx
  obtain ⟨t', rfl⟩ := ry
  exact rule i j t t' s _ _ ⟨.int (g i j), H, I.tok _, ⟨_, rfl⟩, q⟩
theorem opB0 {f : Value → Value → Sem Value} {g : Int → Int → Bool}
    (rule : ∀ (i j : Int) (t u : Tok) (s : Shared) (Q : Value → Shared → Prop) (E : Value → Shared → Prop), Q (.bool (g i j)) s → wpAny (model X.prog X.w) X.A (f (.int i t) (.int j u)) Q E s) :
    OpR X f (rI0 fun i j => .bl (g i j)) := by
  intro pins s σ H x y v u Q I rx ry h
  obtain ⟨i, j, rfl, rfl, q⟩ := h
  obtain ⟨t, rfl⟩ := rx
  obtain ⟨t', rfl⟩ := ry
  exact rule i j t t' s _ _ ⟨.bl (g i j), H, I, rfl, q⟩

def CDiv (i j : Int) : Prop := 0 < j ∧ j < 1073741824
def CPow (i j : Int) : Prop := 0 ≤ j ∧ j ≤ 1000000 ∧ i.natAbs < 2 ^ 64
def CMul (i j : Int) : Prop := (-(2 ^ 64) < i ∧ i < 2 ^ 64) ∨ (-(2 ^ 64) < j ∧ j < 2 ^ 64)
theorem CMul.ok {i j : Int} (h : CMul i j) : IntMulOk i j := by
  rcases h with ⟨h1, h2⟩ | ⟨h1, h2⟩
  · exact .of_left (intBits_le_64 h1 h2)
  · exact .of_right (intBits_le_64 h1 h2)
theorem op_add : OpR X (binaryOp .Add) (rI0 fun i j => .int (i + j)) := opI0 fun _ _ _ _ _ _ _ q => add_int q
theorem op_sub : OpR X (binaryOp .Sub) (rI0 fun i j => .int (i - j)) := opI0 fun _ _ _ _ _ _ _ q => sub_int q
theorem op_mul : OpR X (binaryOp .Mult) (rI CMul fun i j => .int (i * j)) := opI fun _ _ _ _ _ _ _ hc q => mul_int q hc.ok
/-- // by a positive divisor -/
theorem op_fdiv : OpR X (binaryOp .FloorDiv) (rI CDiv fun i j => .int (i / j)) := opI fun i j _ _ _ _ _ hc q => by
  have h1 : (0 : Int) < j := hc.1
  have h2 : j < 1073741824 := hc.2
  exact floordiv_int (by omega) (by rw [Int.fdiv_eq_ediv_of_nonneg i (by omega)]; exact q) (.inl (PyProof.noPylong_small (by omega)))
/-- % by a positive divisor of any size -/
theorem op_mod : OpR X (binaryOp .Mod) (rI (fun _ j => 0 < j) fun i j => .int (i % j)) := opI fun i j _ _ _ _ _ hc q => by
  have h1 : (0 : Int) < j := hc
  exact mod_int' (by omega) (by rw [Int.fmod_eq_emod_of_nonneg i (by omega)]; exact q)
theorem op_pow : OpR X (binaryOp .Pow) (rI CPow fun i j => .int (i ^ j.toNat)) := opI fun _ _ _ _ _ _ _ hc q => pow_int_small hc.1 hc.2.1 hc.2.2 q
/-! ### bools among ints: n += (a < b) -/
end

/-! ### comparisons -/
/-- the scalars that == tells apart as data does -/
def scal : V → V → Bool
  | .non, .non => true | .non, .int _ => true | .int _, .non => true | .non, .bl _ => true | .bl _, .non => true | .non, .str _ => true | .str _, .non => true
  | .int _, .int _ => true | .bl _, .bl _ => true | .str _, .str _ => true | .byt _, .byt _ => true
  | .int _, .str _ => true | .str _, .int _ => true | .bl _, .str _ => true | .str _, .bl _ => true
  | _, _ => false
def rEq : R2 := fun x y H Q => scal x y = true ∧ Q (.bl (decide (x = y))) H
def rNe : R2 := fun x y H Q => scal x y = true ∧ Q (.bl (!decide (x = y))) H

theorem dec_int {i j : Int} : decide (V.int i = V.int j) = (i == j) := by
  rw [Bool.eq_iff_iff]
  simp
theorem dec_bl {i j : Bool} : decide (V.bl i = V.bl j) = (i == j) := by
  rw [Bool.eq_iff_iff]
  simp
theorem dec_str {i j : Str} : decide (V.str i = V.str j) = (i == j) := by
  rw [Bool.eq_iff_iff]
  simp
theorem dec_byt {i j : Array UInt8} : decide (V.byt i = V.byt j) = (i.toList == j.toList) := by
  rw [Bool.eq_iff_iff]
  cases i
  cases j
  simp

section
variable {X : Cx} {a b c : Expr} {ta tb tc : TE} {pos : Pos}
theorem fin_bl {pins : List (Addr × Obj)} {σ : St} {H : Hp} {s : Shared} {Q : VK} {k k' : Bool} (I : Inv X pins σ H s) (q : Q (.bl k) H) (e : k = k') : EP X pins σ Q (.bool k') s := by
  subst e
  exact ⟨.bl k, H, I, rfl, q⟩
theorem op_eq : OpR X (compareOp .Eq) rEq := by
  intro pins s σ H x y v u Q I rx ry h
  obtain ⟨hs, q⟩ := h
  cases x with
  | non =>
    cases rx
    cases y with
    | non => cases ry; exact PySem.EqNone.eq_none_none (fin_bl I q (by simp))
    | bl j => cases ry; exact PySem.EqNone.eq_none_bool (fin_bl I q (by simp))
    | int j => obtain ⟨t', rfl⟩ := ry; exact PySem.EqNone.eq_none_int (fin_bl I q (by simp))
    | str j => obtain ⟨t', rfl⟩ := ry; exact PySem.EqNone.eq_none_str (fin_bl I q (by simp))
    | _ => exact absurd (show false = true from hs) Bool.false_ne_true
  | bl i =>
    cases rx
    cases y with
    | non => cases ry; exact PySem.EqNone.eq_bool_none (fin_bl I q (by simp))
    | bl j => cases ry; exact eq_bool (fin_bl I q dec_bl)
    | str j => obtain ⟨t', rfl⟩ := ry; exact PySem.EqMixed.eq_bool_str (fin_bl I q (by simp))
    | _ => exact absurd (show false = true from hs) Bool.false_ne_true
  | int i =>
    obtain ⟨t, rfl⟩ := rx
    cases y with
    | non => cases ry; exact PySem.EqNone.eq_int_none (fin_bl I q (by simp))
    | int j => obtain ⟨t', rfl⟩ := ry; exact eq_int (fin_bl I q dec_int)
    | str j => obtain ⟨t', rfl⟩ := ry; exact PySem.EqMixed.eq_int_str (fin_bl I q (by simp))
    | _ => exact absurd (show false = true from hs) Bool.false_ne_true
  | str i =>
    obtain ⟨t, rfl⟩ := rx
    cases y with
    | non => cases ry; exact PySem.EqNone.eq_str_none (fin_bl I q (by simp))
    | bl j => cases ry; exact PySem.EqMixed.eq_str_bool (fin_bl I q (by simp))
    | int j => obtain ⟨t', rfl⟩ := ry; exact PySem.EqMixed.eq_str_int (fin_bl I q (by simp))
    | str j => obtain ⟨t', rfl⟩ := ry; exact eq_str (fin_bl I q dec_str)
    | _ => exact absurd (show false = true from hs) Bool.false_ne_true
  | byt i =>
    obtain ⟨t, rfl⟩ := rx
    cases y with
    | byt j => obtain ⟨t', rfl⟩ := ry; exact PySem.W.eq_bytes (fin_bl I q dec_byt)
    | _ => exact absurd (show false = true from hs) Bool.false_ne_true
  | _ => cases y <;> exact absurd (show false = true from hs) Bool.false_ne_true
theorem op_ne : OpR X (compareOp .NotEq) rNe := by
  intro pins s σ H x y v u Q I rx ry h
  obtain ⟨hs, q⟩ := h
  cases x with
  | non =>
    cases rx
    cases y with
    | non => cases ry; exact PySem.EqNone.ne_none_none (fin_bl I q (by simp))
    | bl j => cases ry; exact PySem.EqNone.ne_none_bool (fin_bl I q (by simp))
    | int j => obtain ⟨t', rfl⟩ := ry; exact PySem.EqNone.ne_none_int (fin_bl I q (by simp))
    | str j => obtain ⟨t', rfl⟩ := ry; exact PySem.EqNone.ne_none_str (fin_bl I q (by simp))
    | _ => exact absurd (show false = true from hs) Bool.false_ne_true
  | bl i =>
    cases rx
    cases y with
    | non => cases ry; exact PySem.EqNone.ne_bool_none (fin_bl I q (by simp))
    | bl j => cases ry; exact ne_bool (fin_bl I q (congrArg not dec_bl))
    | str j => obtain ⟨t', rfl⟩ := ry; exact PySem.EqMixed.ne_bool_str (fin_bl I q (by simp))
    | _ => exact absurd (show false = true from hs) Bool.false_ne_true
  | int i =>
    obtain ⟨t, rfl⟩ := rx
    cases y with
    | non => cases ry; exact PySem.EqNone.ne_int_none (fin_bl I q (by simp))
    | int j => obtain ⟨t', rfl⟩ := ry; exact ne_int (fin_bl I q (congrArg not dec_int))
    | str j => obtain ⟨t', rfl⟩ := ry; exact PySem.EqMixed.ne_int_str (fin_bl I q (by simp))
    | _ => exact absurd (show false = true from hs) Bool.false_ne_true
  | str i =>
    obtain ⟨t, rfl⟩ := rx
    cases y with
    | non => cases ry; exact PySem.EqNone.ne_str_none (fin_bl I q (by simp))
    | bl j => cases ry; exact PySem.EqMixed.ne_str_bool (fin_bl I q (by simp))
    | int j => obtain ⟨t', rfl⟩ := ry; exact PySem.EqMixed.ne_str_int (fin_bl I q (by simp))
    | str j => obtain ⟨t', rfl⟩ := ry; exact ne_str (fin_bl I q (congrArg not dec_str))
    | _ => exact absurd (show false = true from hs) Bool.false_ne_true
  | byt i =>
    obtain ⟨t, rfl⟩ := rx
    cases y with
    | byt j => obtain ⟨t', rfl⟩ := ry; exact PySem.W.ne_bytes (fin_bl I q (congrArg not dec_byt))
    | _ => exact absurd (show false = true from hs) Bool.false_ne_true
  | _ => cases y <;> exact absurd (show false = true from hs) Bool.false_ne_true

theorem op_lt : OpR X (compareOp .Lt) (rI0 fun i j => .bl (decide (i < j))) := opB0 fun _ _ _ _ _ _ _ q => lt_int q
theorem op_le : OpR X (compareOp .LtE) (rI0 fun i j => .bl (decide (i ≤ j))) := opB0 fun _ _ _ _ _ _ _ q => le_int q
theorem op_gt : OpR X (compareOp .Gt) (rI0 fun i j => .bl (decide (j < i))) := opB0 fun _ _ _ _ _ _ _ q => gt_int q
/-- the one string within the other -/
theorem op_in_str : OpR X (compareOp .In) (fun x y H Q => ∃ i j, x = .str i ∧ y = .str j ∧ Q (.bl (!(Builtin.Str.occurrences j i 0 j.length 1).isEmpty)) H) := by
  intro pins s σ H x y v u Q I rx ry h
  obtain ⟨i, j, rfl, rfl, q⟩ := h
  obtain ⟨t, rfl⟩ := rx
  obtain ⟨t', rfl⟩ := ry
  exact in_str (fin_bl I q rfl)

/-- is None, is not None: the right side a value none -/
theorem op_isN : OpR X (compareOp .Is) (fun x y H Q => y = .non ∧ Q (.bl (decide (x = .non))) H) := by
  intro pins s σ H x y v u Q I rx ry h
  obtain ⟨rfl, q⟩ := h
  cases ry
  refine is_none_gen (fin_bl I q ?_)
  cases x <;> first
    | (cases rx; rfl)
    | (obtain ⟨t, rfl⟩ := rx; rfl)
theorem op_notN : OpR X (compareOp .IsNot) (fun x y H Q => y = .non ∧ Q (.bl (!decide (x = .non))) H) := by
  intro pins s σ H x y v u Q I rx ry h
  obtain ⟨rfl, q⟩ := h
  cases ry
  refine isnot_none_gen (fin_bl I q ?_)
  cases x <;> first
    | (cases rx; rfl)
    | (obtain ⟨t, rfl⟩ := rx; rfl)

/-- two rules for one operation: by cases -/
theorem OpR.or {f : Value → Value → Sem Value} {r r' : R2} (h : OpR X f r) (h' : OpR X f r') : OpR X f (fun x y H Q => r x y H Q ∨ r' x y H Q) := by
  intro pins s σ H x y v u Q I rx ry q
  rcases q with q | q
  · exact h pins s σ H x y v u Q I rx ry q
  · exact h' pins s σ H x y v u Q I rx ry q

theorem nomark (b : Expr) {op : CmpOp} (h : op ≠ .In := by decide) (h2 : op ≠ .NotIn := by decide) : behindInMarks op b = false := by
  have e1 : (op == CmpOp.In) = false := by cases op <;> first | rfl | exact absurd rfl h
  have e2 : (op == CmpOp.NotIn) = false := by cases op <;> first | rfl | exact absurd rfl h2
  cases b <;> simp [behindInMarks, e1, e2]
/-- a comparison as a value; hm: nomark b, or (for in, not in) by with_unfolding_all rfl -/
theorem pe_cmpR {op : CmpOp} {r : R2} (ho : OpR X (compareOp op) r) (ha : PE X a ta) (hb : PE X b tb) (hm : behindInMarks op b = false) : PE X (.Compare a [op] [b] pos) (tOp r ta tb) := by
  intro pins s σ H Q I h
  exact wpAny_Compare1 (binT ha hb I h fun v u s2 x y H2 I2 rx ry q => ho pins s2 σ H2 x y v u Q I2 rx ry q) hm
/-- a reading of a value as a test -/
def tTest (t : TE) : TT := fun σ H Q => t σ H fun x H' => ∃ k, x = .bl k ∧ Q k H'
theorem pt_cmpR {op : CmpOp} {r : R2} (ho : OpR X (compareOp op) r) (ha : PE X a ta) (hb : PE X b tb) (hm : behindInMarks op b = false) : PT X (.Compare a [op] [b] pos) (tTest (tOp r ta tb)) := by
  intro pins s σ H Q I h
  refine wpAny_isTrue_Compare1 (thn (ha pins s σ H _ I h) fun v s1 ⟨x, H1, I1, r1, q1⟩ => thn (hb pins s1 σ H1 _ I1 q1) fun u s2 ⟨y, H2, I2, r2, q2⟩ =>
    thn (ho pins s2 σ H2 x y v u _ I2 r1 r2 q2) fun c s3 ⟨z, H3, I3, r3, k, e, q3⟩ => ?_) hm
  subst e
  cases r3
  exact wpAny_truthy_bool ⟨H3, I3, q3⟩
/-- a op1 b op2 c -/
def tChain (r r' : R2) (ta tb tc : TE) : TE := fun σ H Q => ta σ H fun x H1 => tb σ H1 fun y H2 => r x y H2 fun z H3 => ∃ k, z = .bl k ∧
  (if k = true then tc σ H3 fun w' H4 => r' y w' H4 Q else Q (.bl false) H3)
/-! ### truth -/
theorem line63 : (sizeLine : Nat) < 2 ^ 63 := by rw [sizeLine_eq]; decide
/-! ### strs and bytes -/
theorem op_add_str : OpR X (binaryOp .Add) (fun x y H Q => ∃ i j, x = .str i ∧ y = .str j ∧ i.length + j.length ≤ sizeLine ∧ Q (.str (i ++ j)) H) := by
  intro pins s σ H x y v u Q I rx ry h
  obtain ⟨i, j, rfl, rfl, hz, q⟩ := h
  obtain ⟨t, rfl⟩ := rx
  obtain ⟨t', rfl⟩ := ry
  exact add_str (fun t' tk => ⟨.str (i ++ j), H, I.tok _, ⟨_, rfl⟩, q⟩) hz
/-! ### scalar builtins, by CallR -/
theorem vals1 {x : V} {us : List Value} (r : Vals [x] us) : ∃ u, us = [u] ∧ RelV x u := by
  cases r with
  | cons r1 r2 => cases r2; exact ⟨_, rfl, r1⟩
theorem vals2 {x y : V} {us : List Value} (r : Vals [x, y] us) : ∃ u w', us = [u, w'] ∧ RelV x u ∧ RelV y w' := by
  cases r with
  | cons r1 r2 =>
    cases r2 with
    | cons r3 r4 => cases r4; exact ⟨_, _, rfl, r1, r3⟩
end
end L2

namespace L2
open PySem PySem.Spec PyProof.Rows

/-! ### an instance, its attributes a map -/
structure ObjM (h : Heap) (x dx C : Addr) (mA : Str → Option Value) : Prop where
  obj : h.get? x = some (PySem.W.instObj C dx)
  ns : h.Ns1 dx mA
  ne : dx ≠ x

theorem lookIn_ns {h : Heap} {dx : Addr} {mA : Str → Option Value} (n : h.Ns1 dx mA) : ∃ od, h.get? dx = some od ∧ ∀ name, PySem.W.lookIn name od = some (mA name) := by
  obtain ⟨o, es, ep, ho, hd, hk, _, hm⟩ := n
  refine ⟨o, ho, fun name => ?_⟩
  have e := hm name
  unfold nsFind findBy at e
  rw [← Array.find?_toList] at e
  unfold PySem.W.lookIn
  rw [hd]
  dsimp only
  split
  · rename_i y q
    rw [q] at e
    exact congrArg some e
  · rename_i q
    rw [q] at e
    have a : es.toList.any (·.refKey) = false := by
      rw [List.any_eq_false]
      intro y hy
      obtain ⟨z, t, hkey⟩ := hk y (Array.mem_toList_iff.mp hy)
      simp [DictEntry.refKey, hkey]
    have a' : ¬ es.toList.any (·.refKey) = true := by rw [a]; exact Bool.false_ne_true
    rw [if_neg a']
    exact congrArg some e

theorem ObjM.look {h : Heap} {x dx C : Addr} {mA : Str → Option Value} (I : ObjM h x dx C mA) : ∃ od, PySem.W.InstAt h x (PySem.W.instObj C dx) C (some od) ∧ ∀ name, PySem.W.lookIn name od = some (mA name) :=
  let ⟨od, ho, hl⟩ := lookIn_ns I.ns
  ⟨od, ⟨I.obj, rfl, rfl, ho⟩, hl⟩

section
variable {prog : Program} {w : World} {A : Around} {E : Value → Shared → Prop} {s : Shared} {K : PySem.W.Frag} {x dx C f : Addr} {mA : Str → Option Value} {name : Str} {v : Value}

theorem get_map {expr : Bool} {Q : Value → Shared → Prop} (X : K.In s.heap) (I : ObjM s.heap x dx C mA) (hg : PySem.W.plainGet K C name = true) (hh : PySem.W.hasDictIn K C = true)
    (ha : PySem.W.findIn K (.ref C) name = some none) (hv : mA name = some v) (hv' : PySem.W.handedIn v = true) (h : Q v { s with toks := s.toks + 1 }) :
    wpAny (model prog w) A (getAttr (.ref x) name expr) Q E s := by
  obtain ⟨od, J, hl⟩ := I.look
  exact PySem.W.get_value X J (PySem.W.plainGet_of hg).1 (PySem.W.findObj_own hh ha rfl (by rw [hl, hv])) hv' h

theorem get_meth {pl : Sem Bool} {Q : Value × List Value → Shared → Prop} (X : K.In s.heap) (I : ObjM s.heap x dx C mA) (hg : PySem.W.plainGet K C name = true)
    (hf : PySem.W.findIn K (.ref C) name = some (some (.ref f))) (ht : PySem.W.isFn K (.ref f) = true) (hv : mA name = none) (h : Q (.ref f, [.ref x]) s) :
    wpAny (model prog w) A (getMethod (.ref x) name pl) Q E s := by
  obtain ⟨od, J, hl⟩ := I.look
  exact PySem.W.method_fn X J (PySem.W.plainGet_of hg).1 (PySem.W.plainGet_of hg).2 hf (beq_iff_eq.mp ht) (by show (PySem.W.lookIn name od).map (·.isSome) = some false; rw [hl, hv]; rfl) h

theorem set_map {ns : List Str} {Q : Unit → Shared → Prop} (X : K.In s.heap) (I : ObjM s.heap x dx C mA)
    (hs : PySem.W.findIn K (.ref C) "__setattr__" = some (some (.builtin "object.__setattr__"))) (hp : PySem.W.plainOver K C = true) (ht : PySem.W.takerIn K C name = some none) (hh : PySem.W.hasDictIn K C = true)
    (hw : PySem.Within mA ns) (hsz : ns.length ≤ sizeLine)
    (h : ∀ h', ObjM h' x dx C (fun y => if y = name then some v else mA y) → Heap.SameBut dx s.heap h' → Q () { s with heap := h', toks := s.toks + 2 }) :
    wpAny (model prog w) A (setAttr (.ref x) name v) Q E s := by
  obtain ⟨od, J, hl⟩ := I.look
  refine PySem.W.set_plain X J hs (PySem.W.osa_open (s := { s with toks := s.toks + 1 }) (r := none) X J hp ht fun b => ?_)
  obtain ⟨cd, hc, hd'⟩ := PySem.W.any_some hh
  have hx : s.heap.get? x = some ⟨.ref C, some dx, .plain, #[]⟩ := I.obj
  refine wpAny_bind (wpAny_pure (wpAny_bind (wpAny_bind (wpAny_loadPart hx (wpAny_bind (PySem.W.Looks.here (s := { s with toks := s.toks + 1 }) (PySem.W.looks_clsIn X hc) ?_))))))
  rw [hd']
  refine wpAny_pure (a := some dx) (wpAny_bind (wpAny_pure (wpAny_bind ?_)))
  refine wpAny_nsSet1 (s := { s with toks := s.toks + 1 }) I.ns fun h' hn2 hs2 => ?_
  obtain ⟨oD, esD, epD, hoD, hdD, hcD⟩ := hn2.count (PySem.Within.cons name v hw)
  refine wpAny_bind (wpAny_lookBehind hoD (by rw [hdD]; exact pastItsLine_dict (Nat.le_trans hcD (by rw [List.length_cons]; omega))) ?_)
  exact wpAny_pure (h _ ⟨(hs2.2 _ (Ne.symm I.ne)).trans I.obj, hn2, I.ne⟩ hs2)

/-- C(..): the dict at the heap's end, the instance behind it; then its __init__ -/
theorem make_map {R : Result → Shared → Prop} {vs : List Value} {kw : List (Str × Value)} (X : K.In s.heap) (hm : PySem.W.makesIn K C = true)
    (hi : PySem.W.findIn K (.ref C) "__init__" = some (some (.ref f))) (hf : PySem.W.typeIn K (.ref f) = some (.type "function"))
    (h : codeAny (model prog w) (A.under (.builtin "type.__call__" ⟨.ref C :: vs, kw⟩)) (.call (.ref f) ⟨.ref (s.heap.objs.size + 1) :: vs, kw⟩) (PySem.W.InitBack (s.heap.objs.size + 1) R)
      { s with heap := (s.heap.push PySem.W.emptyDict).push (PySem.W.instObj C s.heap.objs.size) }) :
    codeAny (model prog w) A (.call (.ref C) ⟨vs, kw⟩) R s := by
  obtain ⟨hh, g, d, t, os⟩ := s
  exact PySem.W.make_core (PySem.W.makes_of X hm) (PySem.W.looks_findIn X hi) (fun self => PySem.W.bind_fn X self hf) (.inl rfl) h
end

/-! ### the attributes as a list of pairs -/
def putF (f : Str) (v : V) : List (Str × V) → List (Str × V)
  | [] => [(f, v)]
  | (g, x) :: r => if g = f then (g, v) :: r else (g, x) :: putF f v r
theorem lookup_putF (f g : Str) (v : V) : ∀ fs : List (Str × V), (putF f v fs).lookup g = if g = f then some v else fs.lookup g
  | [] => by
    show List.lookup g [(f, v)] = _
    by_cases h : g = f
    · have hb : (g == f) = true := beq_iff_eq.mpr h
      simp only [List.lookup, hb, if_pos h]
    · have hb : (g == f) = false := beq_eq_false_iff_ne.mpr h
      simp only [List.lookup, hb, if_neg h]
  | (k, x) :: r => by
    have ih := lookup_putF f g v r
    rw [show putF f v ((k, x) :: r) = (if k = f then (k, v) :: r else (k, x) :: putF f v r) from rfl]
    by_cases hk : k = f
    · rw [if_pos hk]
      by_cases h : g = k
      · have hb : (g == k) = true := beq_iff_eq.mpr h
        simp only [List.lookup, hb, if_pos (h.trans hk)]
      · have hb : (g == k) = false := beq_eq_false_iff_ne.mpr h
        simp only [List.lookup, hb, if_neg (fun e : g = f => h (e.trans hk.symm))]
    · rw [if_neg hk]
      by_cases h : g = k
      · have hb : (g == k) = true := beq_iff_eq.mpr h
        simp only [List.lookup, hb, if_neg (fun e : g = f => hk (h.symm.trans e))]
      · have hb : (g == k) = false := beq_eq_false_iff_ne.mpr h
        simp only [List.lookup, hb]
        exact ih
theorem keys_putF (f : Str) (v : V) : ∀ fs : List (Str × V), f ∈ (putF f v fs).map (·.1) ∧ ∀ g, g ∈ fs.map (·.1) → g ∈ (putF f v fs).map (·.1)
  | [] => ⟨by simp [putF], fun g h => by simp at h⟩
  | (k, x) :: r => by
    obtain ⟨i1, i2⟩ := keys_putF f v r
    rw [show putF f v ((k, x) :: r) = (if k = f then (k, v) :: r else (k, x) :: putF f v r) from rfl]
    by_cases hk : k = f
    · rw [if_pos hk]
      subst hk
      exact ⟨by simp, fun g h => by simpa using h⟩
    · rw [if_neg hk]
      refine ⟨?_, fun g h => ?_⟩
      · rw [List.map_cons]
        exact List.mem_cons_of_mem _ i1
      · rw [List.map_cons] at h ⊢
        rcases List.mem_cons.mp h with e | e
        · exact List.mem_cons.mpr (.inl e)
        · exact List.mem_cons_of_mem _ (i2 g e)
theorem length_putF (f : Str) (v : V) : ∀ fs : List (Str × V), (putF f v fs).length ≤ fs.length + 1
  | [] => by simp [putF]
  | (k, x) :: r => by
    have ih := length_putF f v r
    rw [show putF f v ((k, x) :: r) = (if k = f then (k, v) :: r else (k, x) :: putF f v r) from rfl]
    by_cases hk : k = f
    · rw [if_pos hk, List.length_cons, List.length_cons]; omega
    · rw [if_neg hk, List.length_cons, List.length_cons]; omega

theorem RelO.some_of {v : V} {o : Option Value} (r : RelO (some v) o) : ∃ u, o = some u ∧ RelV v u := by
  cases o with
  | none => exact (show False from r).elim
  | some u => exact ⟨u, rfl, r⟩
theorem RelO.none_of {o : Option Value} (r : RelO none o) : o = none := by
  cases o with
  | none => rfl
  | some u => exact (show False from r).elim
theorem handed_of {v : V} {u : Value} (r : RelV v u) : PySem.W.handedIn u = true := by
  cases v with
  | non => cases (show u = Value.none from r); rfl
  | bl b => cases (show u = Value.bool b from r); rfl
  | int i => obtain ⟨t, e⟩ := (show ∃ t, u = Value.int i t from r); cases e; rfl
  | str x => obtain ⟨t, e⟩ := (show ∃ t, u = Value.str x t from r); cases e; rfl
  | byt b => obtain ⟨t, e⟩ := (show ∃ t, u = Value.bytes b t from r); cases e; rfl
  | flt b => obtain ⟨t, e⟩ := (show ∃ t, u = Value.float b t from r); cases e; rfl
  | ref a => cases (show u = Value.ref a from r); rfl
  | ty n => cases (show u = Value.type n from r); rfl

section
variable {P : Program} {w : World} {H H' : Hp} {h h' : Heap} {a C dx : Addr} {fs fs' : List (Str × V)}
theorem ins_get (hok : HOk P w H h) (e : H a = some (.ins C dx fs)) : ∃ mA, ObjM h a dx C mA ∧ (∀ f, RelO (fs.lookup f) (mA f)) ∧ PySem.Within mA (fs.map (·.1)) ∧ fs.length ≤ 1000 ∧ H dx = some (.own a) := by
  obtain ⟨d, z, ne, ob, mA, n, r, q⟩ := (show ObjOk P w H h a (.ins C dx fs) from hok a _ e)
  exact ⟨mA, ⟨ob, n, ne⟩, r, q, z, d⟩
end

/-! ### what of the text a class must have -/
structure Cls (K : PySem.W.Frag) (C : Addr) : Prop where
  pg : PySem.W.plainGet K C Str.empty = true
  hd : PySem.W.hasDictIn K C = true
  po : PySem.W.plainOver K C = true
  sa : PySem.W.findIn K (.ref C) "__setattr__" = some (some (.builtin "object.__setattr__"))
theorem Cls.get {K : PySem.W.Frag} {C : Addr} (c : Cls K C) (f : Str) : PySem.W.plainGet K C f = true := c.pg
/-- no class of it has the name -/
def NoAttr (K : PySem.W.Frag) (C : Addr) (f : Str) : Prop := PySem.W.findIn K (.ref C) f = some none
theorem NoAttr.taker {K : PySem.W.Frag} {C : Addr} {f : Str} (n : NoAttr K C f) : PySem.W.takerIn K C f = some none := by
  unfold PySem.W.takerIn
  rw [show PySem.W.findIn K (.ref C) f = some none from n]
  rfl
/-- a constant of the class -/
structure Con (K : PySem.W.Frag) (C : Addr) (f : Str) (v : V) (u : Value) : Prop where
  at_ : PySem.W.findIn K (.ref C) f = some (some u)
  rel : RelV v u
  get : PySem.W.specialIn K u "__get__" = some none
  cp : PySem.W.copiedNames.contains f = false
/-- a method: a plain def of the class or of one above it -/
structure Meth (K : PySem.W.Frag) (C : Addr) (m : Str) (f : Addr) : Prop where
  at_ : PySem.W.findIn K (.ref C) m = some (some (.ref f))
  fn : PySem.W.isFn K (.ref f) = true
  kp : PySem.W.keepIn K (.ref f) = true

section
variable {X : Cx} {pins : List (Addr × Obj)} {σ : St} {H : Hp} {s : Shared} {a C dx : Addr} {fs : List (Str × V)} {f : Str} {v : V} {A : Around} {E : Value → Shared → Prop}

theorem getattr_ok {b : Bool} {Q : Value → Shared → Prop} (I : Inv X pins σ H s) (e : H a = some (.ins C dx fs)) (c : Cls X.K C) (n : NoAttr X.K C f) (l : fs.lookup f = some v)
    (h : ∀ u s', Inv X pins σ H s' → RelV v u → Q u s') : wpAny (model X.prog X.w) A (getAttr (.ref a) f b) Q E s := by
  obtain ⟨mA, O, r, _, _, _⟩ := ins_get I.hok e
  obtain ⟨u, hu, ru⟩ := RelO.some_of (v := v) (o := mA f) (by rw [← l]; exact r f)
  exact get_map I.kIn O (c.get f) c.hd n hu (handed_of ru) (h u _ (I.tok _) ru)

theorem getmeth_ok {m : Str} {g : Addr} {pl : Sem Bool} {Q : Value × List Value → Shared → Prop} (I : Inv X pins σ H s) (e : H a = some (.ins C dx fs)) (c : Cls X.K C) (k : Meth X.K C m g) (l : fs.lookup m = none)
    (h : Q (.ref g, [.ref a]) s) : wpAny (model X.prog X.w) A (getMethod (.ref a) m pl) Q E s := by
  obtain ⟨mA, O, r, _, _, _⟩ := ins_get I.hok e
  have hn : mA m = none := RelO.none_of (by rw [← l]; exact r m)
  exact get_meth I.kIn O (c.get m) k.at_ k.fn hn h

theorem setattr_ok {y : V} {u : Value} {Q : Unit → Shared → Prop} (I : Inv X pins σ H s) (e : H a = some (.ins C dx fs)) (c : Cls X.K C) (n : NoAttr X.K C f) (hl : fs.length < 1000) (ry : RelV y u)
    (h : ∀ s', Inv X pins σ (upd H a (.ins C dx (putF f y fs))) s' → Q () s') : wpAny (model X.prog X.w) A (setAttr (.ref a) f u) Q E s := by
  obtain ⟨mA, O, r, wi, _, ho⟩ := ins_get I.hok e
  have hz : (fs.map (·.1)).length ≤ sizeLine := by rw [List.length_map, sizeLine_eq]; omega
  refine set_map I.kIn O c.sa c.po n.taker c.hd wi hz fun h' O' sb => h _ ?_
  have hd : ∃ o, h'.get? dx = some o := let ⟨o, _, _, e', _⟩ := O'.ns; ⟨o, e'⟩
  refine I.write (x := a) (e := dx) (by rw [e]; exact True.intro) (.inr ho) (fun b q hb z => (sb.2 b hb).trans z) hd ?_
  refine ⟨by rw [upd_ne O.ne]; exact ho, ?_, O.ne, O'.obj, _, O'.ns, fun g => ?_, fun g hg => ?_⟩
  · have := length_putF f y fs; omega
  · show RelO ((putF f y fs).lookup g) (if g = f then some u else mA g)
    rw [lookup_putF]
    by_cases q : g = f
    · rw [if_pos q, if_pos q]; exact ry
    · rw [if_neg q, if_neg q]; exact r g
  · by_cases q : g = f
    · rw [q]; exact (keys_putF f y fs).1
    · refine (keys_putF f y fs).2 g (wi g fun z => hg ?_)
      show (if g = f then some u else mA g) = none
      rw [if_neg q]; exact z

/-- a new instance, tracked, without attributes -/
theorem Inv.made (I : Inv X pins σ H s) : Inv X pins σ (upd (upd H s.heap.objs.size (.own (s.heap.objs.size + 1))) (s.heap.objs.size + 1) (.ins C s.heap.objs.size []))
    { s with heap := (s.heap.push PySem.W.emptyDict).push (PySem.W.instObj C s.heap.objs.size) } := by
  have e1 : (s.heap.push PySem.W.emptyDict).get? s.heap.objs.size = some PySem.W.emptyDict := Heap.get?_push_size s.heap rfl
  have e2 : ((s.heap.push PySem.W.emptyDict).push (PySem.W.instObj C s.heap.objs.size)).get? (s.heap.objs.size + 1) = some (PySem.W.instObj C s.heap.objs.size) := by
    have := Heap.get?_push_size (s.heap.push PySem.W.emptyDict) (o := PySem.W.instObj C s.heap.objs.size) rfl
    rwa [Heap.size_push] at this
  have e3 : (s.heap.push PySem.W.emptyDict).Ns s.heap.objs.size (fun _ => none) := ⟨PySem.W.emptyDict, #[], _, e1, rfl, (fun e he => absurd he (by simp)), fun _ => rfl⟩
  have I1 := I.laid (a := s.heap.objs.size) (o := .own (s.heap.objs.size + 1)) (h' := s.heap.push PySem.W.emptyDict) (t' := s.toks) (fun b u q => Heap.get?_push_of_some _ q) (Nat.le_refl _) ⟨_, e1⟩
  refine I1.laid (a := s.heap.objs.size + 1) (o := .ins C s.heap.objs.size []) (t' := s.toks) (fun b u q => Heap.get?_push_of_some _ q) (Nat.le_of_eq (Heap.size_push _ _)) ?_
  have ne : s.heap.objs.size ≠ s.heap.objs.size + 1 := Nat.ne_of_lt (Nat.lt_succ_self _)
  refine ⟨by rw [upd_ne ne, upd_same], Nat.zero_le _, ne, e2, fun _ => none, (Heap.Ns1.of_empty e3).at fun o q => Heap.get?_push_of_some _ q, fun _ => True.intro, fun y hy => absurd rfl hy⟩

/-- e.f where nothing but the object is asked: through attributeBase (super) and the last hold -/
theorem attr_of {prog : Program} {w : World} {env : Env} {e : Expr} {f : Str} {pos : Pos} {s : Shared} {Q : Value → Shared → Prop} (hb : attributeBase e f env (eval e env) = eval e env)
    (h : wpAny (model prog w) A (eval e env) (fun o s₁ => wpAny (model prog w) A (getAttr o f true) Q E s₁) E s) : wpAny (model prog w) A (eval (.Attribute e f pos) env) Q E s :=
  Attribute_any_ h (by rw [arm_eval_Attribute, hb])
end

/-! ### readings and rules -/
/-- e.f, an attribute of the instance -/
def tFld (K : PySem.W.Frag) (ta : TE) (f : Str) : TE := fun σ H Q => ta σ H fun x H1 => ∃ a C dx fs v, x = .ref a ∧ H1 a = some (.ins C dx fs) ∧ Cls K C ∧ NoAttr K C f ∧ fs.lookup f = some v ∧ Q v H1
/-- e.f = value -/
def sFld (K : PySem.W.Frag) (ta tv : TE) (f : Str) : TS := fun D σ H => tv σ H fun y H1 => ta σ H1 fun x H2 => ∃ a C dx fs, x = .ref a ∧ H2 a = some (.ins C dx fs) ∧ Cls K C ∧ NoAttr K C f ∧ fs.length < 1000 ∧
  D.nx σ (upd H2 a (.ins C dx (putF f y fs)))
section
variable {X : Cx} {o e value : Expr} {f : Str} {pos pos' tpos : Pos} {ta tv : TE}
theorem pe_fld (he : PE X e ta) (hb : attributeBase e f X.env (eval e X.env) = eval e X.env) : PE X (.Attribute e f pos) (tFld X.K ta f) := by
  intro pins s σ H Q I h
  refine attr_of hb (thn (he pins s σ H _ I h) fun u s1 ⟨x, H1, I1, rx, a, C, dx, fs, v, ex, ea, c, n, l, q⟩ => ?_)
  subst ex
  obtain rfl : u = Value.ref a := rx
  exact getattr_ok I1 ea c n l fun u' s2 I2 ru => ⟨v, H1, I2, ru, q⟩
theorem ps_fld (ha : PE X o ta) (hv : PE X value tv) (hs : swapsWith value (some (.Attribute o f pos')) pos.line X.env = pure false) : PS X (.Assign [.Attribute o f pos'] value pos) (sFld X.K ta tv f) := by
  intro pins s σ H D I h
  refine plainObj_wpAny_Assign_Attribute (thn (hv pins s σ H _ I h) fun u s1 ⟨y, H1, I1, ry, q⟩ => thn (ha pins s1 σ H1 _ I1 q) fun ov s2 ⟨x, H2, I2, rx, a, C, dx, fs, ex, ea, c, n, l, q2⟩ => ?_) hs
  subst ex
  obtain rfl : ov = Value.ref a := rx
  exact setattr_ok I2 ea c n l ry fun s3 I3 => ⟨σ, _, I3, q2⟩
end

/-! ### isinstance -/
section
variable {X : Cx} {pins : List (Addr × Obj)} {σ : St} {H : Hp} {s : Shared} {A : Around} {E : Value → Shared → Prop} {Q : Value → Shared → Prop} {c : Value} {b : Bool}
/-- the type of a value, as the fragment's deciders take it; for an instance its class -/
inductive TyOf (K : PySem.W.Frag) (H : Hp) : V → Value → Prop where
  | non : TyOf K H .non (.type "NoneType")
  | bl (x : Bool) : TyOf K H (.bl x) (.type "bool")
  | int (i : Int) : TyOf K H (.int i) (.type "int")
  | str (x : Str) : TyOf K H (.str x) (.type "str")
  | flt (x : UInt64) : TyOf K H (.flt x) (.type "float")
  | lst {a : Addr} {xs : List V} (e : H a = some (.lst xs)) : TyOf K H (.ref a) (.type "list")
  | frz {a : Addr} {o : Obj} {xs : List V} (e : H a = some (.frz o (.lst xs))) : TyOf K H (.ref a) (.type "list")
  | tup {a : Addr} {xs : List V} (e : H a = some (.tup xs)) : TyOf K H (.ref a) (.type "tuple")
  | dK {a : Addr} {kvs : List (Key × V)} (e : H a = some (.dK kvs)) : TyOf K H (.ref a) (.type "dict")
  | dT {a : Addr} {kvs : List (List Key × V)} (e : H a = some (.dT kvs)) : TyOf K H (.ref a) (.type "dict")
  | ins {a C dx : Addr} {fs : List (Str × V)} (e : H a = some (.ins C dx fs)) (cl : Cls K C) (ha : PySem.W.findIn K (.ref C) "__class__" = some (some (.builtin "object.__class__")))
      (hn : PySem.W.specialIn K (.builtin "object.__class__") "__get__" = some (some (.builtin "getset_descriptor.__get__"))) (htk : PySem.W.takesIn K (.builtin "object.__class__") = some true)
      (hm : PySem.W.mroIn K C (.type "object") = some true) : TyOf K H (.ref a) (.ref C)
/-- isinstance(x, c) for one class c, a built-in or an own one: kitOne's answer -/
theorem isinst_ok {x : V} {u t : Value} (I : Inv X pins σ H s) (rx : RelV x u) (ty : TyOf X.K H x t) (e : PySem.W.kitOne X.K t c = some b) (h : ∀ tk, Q (.bool b) { s with toks := tk }) :
    wpAny (model X.prog X.w) A (call (.builtin "isinstance") [u, c]) Q E s := by
  cases ty with
  | non => cases (show u = Value.none from rx); exact PySem.W.kia_one PySem.W.kitx_none I.kIn True.intro e (fun z => nomatch z) h
  | bl y => cases (show u = Value.bool y from rx); exact PySem.W.kia_one PySem.W.kitx_bool I.kIn True.intro e (fun z => nomatch z) h
  | int i => obtain ⟨t, q⟩ := (show ∃ t, u = Value.int i t from rx); cases q; exact PySem.W.kia_one PySem.W.kitx_int I.kIn True.intro e (fun z => nomatch z) h
  | str y => obtain ⟨t, q⟩ := (show ∃ t, u = Value.str y t from rx); cases q; exact PySem.W.kia_one PySem.W.kitx_str I.kIn True.intro e (fun z => nomatch z) h
  | flt y => obtain ⟨t, q⟩ := (show ∃ t, u = Value.float y t from rx); cases q; exact PySem.W.kia_one PySem.W.kitx_float I.kIn True.intro e (fun z => nomatch z) h
  | @lst a xs ea =>
    cases (show u = Value.ref a from rx)
    obtain ⟨_, _, n, _, h1⟩ := (show ObjOk X.prog X.w H s.heap a (.lst xs) from I.hok a _ ea)
    exact PySem.W.kia_one PySem.W.kitx_list I.kIn ⟨_, h1, rfl⟩ e (fun z => nomatch z) h
  | @frz a ob xs ea =>
    cases (show u = Value.ref a from rx)
    obtain ⟨_, _, _, n, _, h1⟩ := (show ObjOk X.prog X.w H s.heap a (.frz ob (.lst xs)) from I.hok a _ ea)
    exact PySem.W.kia_one PySem.W.kitx_list I.kIn ⟨_, h1, rfl⟩ e (fun z => nomatch z) h
  | @tup a xs ea =>
    cases (show u = Value.ref a from rx)
    obtain ⟨_, _, _, p⟩ := (show ObjOk X.prog X.w H s.heap a (.tup xs) from I.hok a _ ea)
    obtain ⟨o, h1, h2, _⟩ := p
    exact PySem.W.kia_one PySem.W.kitx_tuple I.kIn ⟨o, h1, h2⟩ e (fun z => nomatch z) h
  | @dK a kvs ea =>
    cases (show u = Value.ref a from rx)
    obtain ⟨_, _, vs, _, p⟩ := (show ObjOk X.prog X.w H s.heap a (.dK kvs) from I.hok a _ ea)
    obtain ⟨o, es, ep, h1, h2, _⟩ := p
    exact PySem.W.kia_one PySem.W.kitx_dict I.kIn ⟨o, h1, h2.1⟩ e (fun z => nomatch z) h
  | @dT a kvs ea =>
    cases (show u = Value.ref a from rx)
    obtain ⟨_, _, xs, _, o, es, ep, h1, h2, _⟩ := (show ObjOk X.prog X.w H s.heap a (.dT kvs) from I.hok a _ ea)
    exact PySem.W.kia_one PySem.W.kitx_dict I.kIn ⟨o, h1, h2.1⟩ e (fun z => nomatch z) h
  | @ins a C dx fs ea cl ha hn htk hm =>
    cases (show u = Value.ref a from rx)
    obtain ⟨mA, O, _⟩ := ins_get I.hok ea
    obtain ⟨od, J, _⟩ := O.look
    exact PySem.W.kia_one (PySem.W.kitx_own (cl.get _) cl.hd ha hn htk hm) I.kIn J e (fun z => nomatch z) h
end
end L2

namespace L2
open PySem PySem.Spec PyProof.Rows

/-! ### room -/
structure Room (k : Nat) (A : Around) : Prop where
  hd : A.handled = none
  dp : A.depth + 3 * k + 5 < recursionLimit
  un : A.units + 16 * k + 200 < cLine
theorem Room.mono {j k : Nat} {A : Around} (r : Room k A) (h : j ≤ k) : Room j A := ⟨r.hd, by have := r.dp; omega, by have := r.un; omega⟩
theorem Room.deeper {k : Nat} {A : Around} (r : Room (k + 1) A) (env : Env) : Room k (A.deeper env) :=
  ⟨r.hd, by have := r.dp; show A.depth + 1 + 3 * k + 5 < _; omega, by have := r.un; show A.units + 3 + 16 * k + 200 < _; omega⟩
theorem Room.in1 {k : Nat} {A : Around} (r : Room (k + 1) A) : Room k A.in1 :=
  ⟨r.hd, by have := r.dp; show A.depth + 3 * k + 5 < _; omega, by have := r.un; show A.units + 1 + 16 * k + 200 < _; omega⟩
theorem make_depth {A : Around} {C : Addr} {us : List Value} {kw : List (Str × Value)} : (A.under (.builtin "type.__call__" ⟨.ref C :: us, kw⟩)).depth = A.depth + 1 := by
  first | rfl | simp [Around.under, Code.weight, Code.isCreation, Code.isGuard, Code.isCaller, Code.frames, Code.isFrame, guardIds]
theorem make_units {A : Around} {C : Addr} {us : List Value} {kw : List (Str × Value)} : (A.under (.builtin "type.__call__" ⟨.ref C :: us, kw⟩)).units = A.units + 1 := by
  first | rfl | simp [Around.under, Code.cUnits, Code.frames, Code.isFrame]
theorem Room.make {k : Nat} {A : Around} (r : Room (k + 1) A) (C : Addr) (us : List Value) (kw : List (Str × Value)) : Room k (A.under (.builtin "type.__call__" ⟨.ref C :: us, kw⟩)) :=
  ⟨r.hd, by have := r.dp; rw [make_depth]; omega, by have := r.un; rw [make_units]; omega⟩
theorem Room.depth {k : Nat} {A : Around} (r : Room k A) : A.depth < recursionLimit := by have := r.dp; omega
theorem Room.units {k : Nat} {A : Around} (r : Room k A) : A.units + 64 < cLine := by have := r.un; omega
/-! ### argument lists and displays -/
def tNil : TA := fun _ H Q => Q [] H
def tCons (ta : TE) (tr : TA) : TA := fun σ H Q => ta σ H fun x H1 => tr σ H1 fun xs H2 => Q (x :: xs) H2
section
variable {X : Cx} {e : Expr} {es : List Expr} {te : TE} {t : TA} {pos : Pos}
theorem pa_nil : PA X [] tNil := fun _ _ _ _ H Q I h => Calls.spliced_nil ⟨[], H, I, .nil, h⟩
theorem pa_cons (ha : PE X e te) (hr : PA X es t) (hs : starEach (e :: es) X.env = (false, eval e X.env) :: starEach es X.env := by rfl) : PA X (e :: es) (tCons te t) := by
  intro pos pins s σ H Q I h
  rw [hs]
  show wpAny _ _ (spliced ((false, eval e X.env) :: backTo pos (starEach es X.env))) _ _ s
  refine Calls.spliced_cons (thn (ha pins s σ H _ I h) fun u s1 ⟨x, H1, I1, r1, q1⟩ => ?_)
  exact thn (hr pos pins s1 σ H1 _ I1 q1) fun us s2 ⟨xs, H2, I2, r2, q2⟩ => ⟨x :: xs, H2, I2, .cons r1 r2, q2⟩

/-- a tuple, a list of written items -/
def tTup (t : TA) : TE := fun σ H Q => t σ H fun xs H1 => xs.length ≤ sizeLine ∧ ∀ p, H1 p = none → Q (.ref p) (upd H1 p (.tup xs))
def tLst (t : TA) : TE := fun σ H Q => t σ H fun xs H1 => xs.length ≤ sizeLine ∧ ∀ p, H1 p = none → Q (.ref p) (upd H1 p (.lst xs))
theorem pe_lst (h : PA X es t) : PE X (.List es pos) (tLst t) := by
  intro pins s σ H Q I hq
  refine wpAny_List_spliced (thn (h pos pins s σ H _ I hq) fun us s1 ⟨xs, H1, I1, r, z, q⟩ => ⟨by rw [← r.length]; exact z, ?_⟩)
  have hf : H1 s1.heap.objs.size = none := I1.hok.fresh (Nat.le_refl _)
  refine ⟨.ref s1.heap.objs.size, upd H1 s1.heap.objs.size (.lst xs), I1.laid (t' := s1.toks) (fun b u e => Heap.get?_push_of_some _ e) (Nat.le_refl _) ?_, rfl, q _ hf⟩
  exact ⟨z, us, 0, r, Heap.get?_push_size _ rfl⟩
end

/-! ### what a def promises -/
/-- a def's promise: the bound arguments in the parameters' order, the heap, the wanted end, the wanted exception -/
abbrev Sp := List V → Hp → VK → XK → Prop
/-- how an exception lies behind a call (file 08 gives it): the callers' frames, abstract heap and state ahead of the call, the wish, the exception, the state -/
abbrev CXT := List Env → Hp → Shared → XK → Value → Shared → Prop

/-- the state at a call -/
structure Env0 (P : Program) (w : World) (K : PySem.W.Frag) (mg : Str → Option Value) (base : Heap) (A : Around) (outer : List Env) (s : Shared) (H : Hp) : Prop where
  frames : A.frames = some outer
  mod : Mod K mg base
  bs : ∀ b o, base.get? b = some o → s.heap.get? b = some o ∧ H b = none
  bsz : base.objs.size ≤ s.heap.objs.size
  funs : s.heap.FunFrames base outer
  frf : ∀ b ∈ frs outer, H b = none
  hok : HOk P w H s.heap
  bare : AllBare s.gens
/-- a call's end -/
def CE (outer : List Env) (P : Program) (w : World) (H : Hp) (s : Shared) (Q : VK) (u : Value) (s' : Shared) : Prop :=
  ∃ v H', s'.os = s.os ∧ AllBare s'.gens ∧ Un (frs outer) [] H H' s.heap s'.heap ∧ HOk P w H' s'.heap ∧ RelV v u ∧ Q v H'
def CR (CX : CXT) (outer : List Env) (P : Program) (w : World) (H : Hp) (s : Shared) (Q : VK) (E : XK) (r : Result) (s' : Shared) : Prop :=
  match r with
  | .ok (.ret u) => CE outer P w H s Q u s'
  | .ok _ => False
  | .error e => CX outer H s E e s'
structure FnOk (P : Program) (w : World) (K : PySem.W.Frag) (mg : Str → Option Value) (base : Heap) (CX : CXT) (k : Nat) (f : Addr) (fd : FuncData) (ps : List Str) (sp : Sp) : Prop where
  len : ∀ vs H Q E, sp vs H Q E → vs.length = ps.length
  run : ∀ (A : Around) (outer : List Env) (s : Shared) (H : Hp) (args : Args) (us : List Value) (vs : List V) (Q : VK) (E : XK), Room k A → Env0 P w K mg base A outer s H → BindsTo s fd args (ps.zip us) → Vals vs us → sp vs H Q E →
    codeAny (model P w) A (.call (.ref f) args) (CR CX outer P w H s Q E) s
theorem FnOk.mono {P : Program} {w : World} {K : PySem.W.Frag} {mg : Str → Option Value} {base : Heap} {CX : CXT} {j k : Nat} {f : Addr} {fd : FuncData} {ps : List Str} {sp : Sp} (F : FnOk P w K mg base CX j f fd ps sp) (h : j ≤ k) :
    FnOk P w K mg base CX k f fd ps sp := ⟨F.len, fun A outer s H args us vs Q E hr => F.run A outer s H args us vs Q E (hr.mono h)⟩
/-- a weaker promise -/
theorem FnOk.imp {P : Program} {w : World} {K : PySem.W.Frag} {mg : Str → Option Value} {base : Heap} {CX : CXT} {k : Nat} {f : Addr} {fd : FuncData} {ps : List Str} {sp sp' : Sp} (F : FnOk P w K mg base CX k f fd ps sp)
    (h : ∀ vs H Q E, sp' vs H Q E → sp vs H Q E) : FnOk P w K mg base CX k f fd ps sp' :=
  ⟨fun vs H Q E q => F.len vs H Q E (h _ _ _ _ q), fun A outer s H args us vs Q E hr he hb hv hs => F.run A outer s H args us vs Q E hr he hb hv (h _ _ _ _ hs)⟩

theorem Env0.make {P : Program} {w : World} {K : PySem.W.Frag} {mg : Str → Option Value} {base : Heap} {A : Around} {outer : List Env} {s : Shared} {H : Hp} (e : Env0 P w K mg base A outer s H) (C : Addr) (us : List Value) (kw : List (Str × Value)) :
    Env0 P w K mg base (A.under (.builtin "type.__call__" ⟨.ref C :: us, kw⟩)) outer s H := ⟨by first | exact e.frames | (simpa [Around.under, Code.envs, Code.isFrame, pushEnvs] using e.frames), e.mod, e.bs, e.bsz, e.funs, e.frf, e.hok, e.bare⟩
theorem Env0.in1 {P : Program} {w : World} {K : PySem.W.Frag} {mg : Str → Option Value} {base : Heap} {A : Around} {outer : List Env} {s : Shared} {H : Hp} (e : Env0 P w K mg base A outer s H) :
    Env0 P w K mg base A.in1 outer s H := ⟨e.frames, e.mod, e.bs, e.bsz, e.funs, e.frf, e.hok, e.bare⟩

section
variable {X : Cx} {pins : List (Addr × Obj)} {σ : St} {H : Hp} {s s' : Shared}
/-- from a body: what a callee wants -/
theorem Inv.env0 (I : Inv X pins σ H s) : Env0 X.prog X.w X.K X.mg X.base X.A X.stack s H :=
  ⟨I.ok.frames, I.ok.mod, I.bs, Nat.le_trans I.ok.bsz I.sz, I.stack, I.stkFree, I.hok, I.bare⟩
/-- behind a call -/
theorem Inv.after {Q : VK} {u : Value} (I : Inv X pins σ H s) (h : CE X.stack X.prog X.w H s Q u s') : EP X pins σ Q u s' := by
  obtain ⟨v, H', os, bare, un, hok, r, q⟩ := h
  obtain ⟨hh, g, d, t, os'⟩ := s'
  obtain rfl : os' = s.os := os
  exact ⟨v, H', I.call (h' := hh) (g' := g) (d' := d) (t' := t) (ch := []) un hok bare (fun b z => absurd z (by simp)), r, q⟩
end

/-! ### calls -/
/-- f(..): the written arguments, then the defaults dvs; E: what is wanted of an exception -/
def tCall (sp : Sp) (dvs : List V) (E : XK) (t : TA) : TE := fun σ H Q => t σ H fun vs H1 => sp (vs ++ dvs) H1 Q E
/-- o.m(..) of an instance of the class at C -/
def tMeth (C : Addr) (m : Str) (sp : Sp) (dvs : List V) (E : XK) (ta : TE) (t : TA) : TE := fun σ H Q => ta σ H fun x H1 => ∃ a dx fs, x = .ref a ∧ H1 a = some (.ins C dx fs) ∧ fs.lookup m = none ∧
  t σ H1 fun vs H2 => sp (x :: (vs ++ dvs)) H2 Q E
/-- C(..): a new instance and its dict, then __init__ -/
def tMake (C : Addr) (sp : Sp) (dvs : List V) (E : XK) (t : TA) : TE := fun σ H Q => t σ H fun vs H1 => ∀ x dx, H1 x = none → H1 dx = none → dx ≠ x →
  sp (.ref x :: (vs ++ dvs)) (upd (upd H1 dx (.own x)) x (.ins C dx [])) (fun v H2 => v = .non ∧ Q (.ref x) H2) E

/-- how the parameters are bound: us the positional arguments, kw the keywords' values by name, ds the defaults that fill up -/
def Binds (K : PySem.W.Frag) (fd : FuncData) (ps : List Str) (ds : List Value) : Prop :=
  ∀ (s : Shared) (us : List Value), K.In s.heap → (us ++ ds).length = ps.length → BindsTo s fd ⟨us, []⟩ (ps.zip (us ++ ds))
/-- every parameter is given -/
theorem Binds.all {K : PySem.W.Frag} {fd : FuncData} {ps : List Str} (h : ∀ us : List Value, us.length = ps.length → bindArgs fd ⟨us, []⟩ = pure (ps.zip us)) : Binds K fd ps [] := fun s us _ hl => by
  rw [List.append_nil] at hl ⊢
  exact .of_eq (h us hl)

/-- an exception of a callee reaches what this body wants of exceptions -/
def Passes (CX : CXT) (X : Cx) (E : XK) : Prop := ∀ (pins : List (Addr × Obj)) (σ : St) (H : Hp) (s : Shared) (e : Value) (s' : Shared), Inv X pins σ H s → CX X.stack H s E e s' → X.xe e s'

section
variable {X : Cx} {CX : CXT} {k : Nat} {f C : Addr} {fd : FuncData} {ps : List Str} {sp : Sp} {dvs : List V} {ds : List Value} {E : XK} {x m : Str} {p pos apos : Pos} {e o : Expr} {es : List Expr} {ta : TE} {t : TA}

/-- the callee runs -/
theorem run_fn {pins : List (Addr × Obj)} {σ : St} {H : Hp} {s : Shared} {Q : VK} {us : List Value} {vs : List V} (F : FnOk X.prog X.w X.K X.mg X.base CX k f fd ps sp) (hr : Room k X.A) (hb : Binds X.K fd ps ds) (hd : Vals dvs ds) (hx : Passes CX X E)
    (I : Inv X pins σ H s) (r : Vals vs us) (h : sp (vs ++ dvs) H Q E) : wpAny (model X.prog X.w) X.A (call (.ref f) us) (EP X pins σ Q) X.xe s := by
  have r2 : Vals (vs ++ dvs) (us ++ ds) := r.append hd
  have hl : (us ++ ds).length = ps.length := by rw [← r2.length]; exact F.len _ _ _ _ h
  refine wpAny_call (codeAny_mono (F.run X.A X.stack s H ⟨us, []⟩ (us ++ ds) (vs ++ dvs) Q E hr I.env0 (hb s us I.kIn hl) r2 h) fun r s' hq => ?_)
  cases r with
  | error e => exact hx pins σ H s e s' I hq
  | ok fl =>
    cases fl with
    | ret u => exact I.after hq
    | next => exact False.elim hq
    | brk => exact False.elim hq
    | cont => exact False.elim hq

theorem pe_call (F : FnOk X.prog X.w X.K X.mg X.base CX k f fd ps sp) (hr : Room k X.A) (hg : Gl X x) (hm : X.mg x = some (.ref f)) (hk : PySem.W.keepIn X.K (.ref f) = true) (hb : Binds X.K fd ps ds) (hd : Vals dvs ds) (hx : Passes CX X E)
    (ha : PA X (e :: es) t) (hdb : (x == ("__debug__" : Str)) = false := by decide) (he : starEach (e :: es) X.env = (false, eval e X.env) :: starEach es X.env := by rfl) (hpl : (backTo pos (starEach es X.env)).any (·.1) = false := by rfl) :
    PE X (.Call (.Name x p) (e :: es) [] pos) (tCall sp dvs E t) := by
  intro pins s σ H Q I h
  refine wpAny_Call_Name_kw (ld_glob I hg hm ?_ hdb)
  refine PySem.W.callWith_K (h₀ := X.base) I.ok.mod.kin hk (thn (ha pos pins s σ H _ I h) fun us s1 ⟨vs, H1, I1, r, q⟩ => ⟨I1.kIn, ?_⟩) he hpl
  exact run_fn F hr hb hd hx I1 r q
/-- o.m(e, ..) -/
theorem pe_meth {pl : Sem Bool} (he : PE X o ta) (c : Cls X.K C) (hm : Meth X.K C m f) (F : FnOk X.prog X.w X.K X.mg X.base CX k f fd ps sp) (hr : Room k X.A) (hb : Binds X.K fd ps ds) (hd : Vals dvs ds) (hx : Passes CX X E) (ha : PA X (e :: es) t)
    (hst : starEach (e :: es) X.env = (false, eval e X.env) :: starEach es X.env := by rfl) (hpl : (backTo pos (starEach es X.env)).any (·.1) = false := by rfl)
    (ht : eval (.Call (.Attribute o m apos) (e :: es) [] pos) X.env = (do
      let ov ← eval o X.env
      standAt apos.atName
      let (f, first) ← holding [ov] (getMethod ov m pl)
      callWith pos f first (backTo pos (starEach (e :: es) X.env)) (backToKw pos (keywordEach [] X.env))) := by rfl) :
    PE X (.Call (.Attribute o m apos) (e :: es) [] pos) (tMeth C m sp dvs E ta t) := by
  intro pins s σ H Q I h
  refine PySem.W.methodCall_KW (pl := pl) (thn (he pins s σ H _ I h) fun u s1 ⟨x, H1, I1, rx, a, dx, fs, ex, ea, l, q⟩ => ?_) ht
  subst ex
  obtain rfl : u = Value.ref a := rx
  refine getmeth_ok I1 ea c hm l ?_
  refine PySem.W.callWith_K (first := [.ref a]) (h₀ := X.base) I.ok.mod.kin hm.kp (thn (ha pos pins s1 σ H1 _ I1 q) fun us s2 ⟨vs, H2, I2, r, q2⟩ => ⟨I2.kIn, ?_⟩) hst hpl
  exact run_fn (us := .ref a :: us) (vs := .ref a :: vs) F hr hb hd hx I2 (.cons rfl r) q2
/-- o.m() -/
theorem pe_meth0 {pl : Sem Bool} (he : PE X o ta) (c : Cls X.K C) (hm : Meth X.K C m f) (F : FnOk X.prog X.w X.K X.mg X.base CX k f fd ps sp) (hr : Room k X.A) (hb : Binds X.K fd ps ds) (hd : Vals dvs ds) (hx : Passes CX X E)
    (ht : eval (.Call (.Attribute o m apos) [] [] pos) X.env = (do
      let ov ← eval o X.env
      standAt apos.atName
      let (f, first) ← holding [ov] (getMethod ov m pl)
      callWith pos f first (backTo pos (starEach [] X.env)) (backToKw pos (keywordEach [] X.env))) := by rfl) :
    PE X (.Call (.Attribute o m apos) [] [] pos) (tMeth C m sp dvs E ta tNil) := by
  intro pins s σ H Q I h
  refine PySem.W.methodCall_KW (pl := pl) (thn (he pins s σ H _ I h) fun u s1 ⟨x, H1, I1, rx, a, dx, fs, ex, ea, l, q⟩ => ?_) ht
  subst ex
  obtain rfl : u = Value.ref a := rx
  refine getmeth_ok I1 ea c hm l ?_
  exact PySem.W.callWith_K0 (first := [.ref a]) I1.kIn hm.kp (run_fn (us := [.ref a]) (vs := [.ref a]) F hr hb hd hx I1 (.cons rfl .nil) q)

/-- what a class must have to be made -/
structure Mk (K : PySem.W.Frag) (C f : Addr) : Prop where
  makes : PySem.W.makesIn K C = true
  init : PySem.W.findIn K (.ref C) "__init__" = some (some (.ref f))
  fn : PySem.W.isFn K (.ref f) = true
  kp : PySem.W.keepIn K (.ref C) = true

theorem run_make {pins : List (Addr × Obj)} {σ : St} {H : Hp} {s : Shared} {Q : VK} {us : List Value} {vs : List V} (M : Mk X.K C f) (F : FnOk X.prog X.w X.K X.mg X.base CX k f fd ps sp) (hr : Room (k + 1) X.A) (hb : Binds X.K fd ps ds) (hd : Vals dvs ds)
    (hx : Passes CX X E) (I : Inv X pins σ H s) (r : Vals vs us)
    (h : ∀ x dx, H x = none → H dx = none → dx ≠ x → sp (.ref x :: (vs ++ dvs)) (upd (upd H dx (.own x)) x (.ins C dx [])) (fun v H2 => v = .non ∧ Q (.ref x) H2) E) :
    wpAny (model X.prog X.w) X.A (call (.ref C) us) (EP X pins σ Q) X.xe s := by
  have hq := h (s.heap.objs.size + 1) s.heap.objs.size (I.hok.fresh (Nat.le_succ _)) (I.hok.fresh (Nat.le_refl _)) (Nat.ne_of_lt (Nat.lt_succ_self _))
  have I2 := Inv.made (C := C) I
  have r2 : Vals (V.ref (s.heap.objs.size + 1) :: (vs ++ dvs)) (Value.ref (s.heap.objs.size + 1) :: (us ++ ds)) := .cons rfl (r.append hd)
  have hl : (Value.ref (s.heap.objs.size + 1) :: us ++ ds).length = ps.length := by
    have e := r2.length
    rw [F.len _ _ _ _ hq] at e
    exact e.symm
  refine wpAny_call (make_map (f := f) I.kIn M.makes M.init (beq_iff_eq.mp M.fn) (codeAny_mono (F.run _ X.stack _ _ ⟨Value.ref (s.heap.objs.size + 1) :: us, []⟩ (Value.ref (s.heap.objs.size + 1) :: (us ++ ds)) _ _ E (hr.make C us [])
    (I2.env0.make C us []) (hb _ (Value.ref (s.heap.objs.size + 1) :: us) I2.kIn hl) r2 hq) fun r s' hq' => ?_))
  cases r with
  | error e => exact hx pins σ _ _ e s' I2 hq'
  | ok fl =>
    cases fl with
    | ret u =>
      obtain ⟨v, H', I3, rv, ev, q3⟩ := I2.after hq'
      subst ev
      exact ⟨rv, ⟨V.ref (s.heap.objs.size + 1), H', I3, rfl, q3⟩⟩
    | next => exact False.elim hq'
    | brk => exact False.elim hq'
    | cont => exact False.elim hq'
theorem pe_make (M : Mk X.K C f) (F : FnOk X.prog X.w X.K X.mg X.base CX k f fd ps sp) (hr : Room (k + 1) X.A) (hg : Gl X x) (hm : X.mg x = some (.ref C)) (hb : Binds X.K fd ps ds) (hd : Vals dvs ds) (hx : Passes CX X E)
    (ha : PA X (e :: es) t) (hdb : (x == ("__debug__" : Str)) = false := by decide) (he : starEach (e :: es) X.env = (false, eval e X.env) :: starEach es X.env := by rfl) (hpl : (backTo pos (starEach es X.env)).any (·.1) = false := by rfl) :
    PE X (.Call (.Name x p) (e :: es) [] pos) (tMake C sp dvs E t) := by
  intro pins s σ H Q I h
  refine wpAny_Call_Name_kw (ld_glob I hg hm ?_ hdb)
  refine PySem.W.callWith_K (h₀ := X.base) I.ok.mod.kin M.kp (thn (ha pos pins s σ H _ I h) fun us s1 ⟨vs, H1, I1, r, q⟩ => ⟨I1.kIn, ?_⟩) he hpl
  exact run_make M F hr hb hd hx I1 r q
end

/-! ### keywords -/
section
variable {X : Cx} {CX : CXT} {k : Nat} {f C : Addr} {fd : FuncData} {ps ks : List Str} {sp : Sp} {E : XK} {x m : Str} {p pos apos kpos : Pos} {e o : Expr} {es : List Expr} {kws : List Keyword} {te ta : TE} {t tk : TA} {nm : Option Str}
/-- how a call with keywords binds: g puts the positional values us and the keywords' values ws (names ks) in the parameters' order, defaults among them -/
structure KBinds (K : PySem.W.Frag) (fd : FuncData) (ps ks : List Str) (g : List Value → List Value → List Value) (gV : List V → List V → List V) : Prop where
  to : ∀ (s : Shared) (us ws : List Value), K.In s.heap → (g us ws).length = ps.length → BindsTo s fd ⟨us, ks.zip ws⟩ (ps.zip (g us ws))
  rel : ∀ {vs : List V} {us : List Value} {zs : List V} {ws : List Value}, Vals vs us → Vals zs ws → Vals (gV vs zs) (g us ws)
variable {g : List Value → List Value → List Value} {gV : List V → List V → List V}
end

/-! ### a def's body keeps its promise -/
/-- names: the parameters first -/
structure FnScope (N P : List Str) (sc : Scope) : Prop where
  kind : sc.kind = .function
  co : sc.isCoroutine = false
  gen : sc.isGenerator = false
  nd : N.Nodup
  pre : N.take P.length = P
  par : ∀ x ∈ P, sc.names.lookup x = some .local ∨ sc.names.lookup x = some .cell
  nofree : ∀ y ∈ sc.names, y.2 ≠ .free

theorem bindL_out {kindOf : Str → Option NameKind} {x : Str} : ∀ {binds : List (Str × Value)} {m : Str → Option Value}, (∀ v, (x, v) ∉ binds) → bindL kindOf binds m x = m x
  | [], _, _ => rfl
  | (n, v) :: r, m, h => by
    unfold bindL
    rw [bindL_out fun w hw => h w (List.mem_cons_of_mem _ hw)]
    split
    · have : x ≠ n := by rintro rfl; exact h v List.mem_cons_self
      simp [this]
    · rfl
theorem bindC_out {kindOf : Str → Option NameKind} {x : Str} : ∀ {binds : List (Str × Value)} {m : Str → Option Value}, (∀ v, (x, v) ∉ binds) → bindC kindOf binds m x = m x
  | [], _, _ => rfl
  | (n, v) :: r, m, h => by
    unfold bindC
    rw [bindC_out fun w hw => h w (List.mem_cons_of_mem _ hw)]
    split
    · rfl
    · have : x ≠ n := by rintro rfl; exact h v List.mem_cons_self
      simp [this]
theorem bindL_get {kindOf : Str → Option NameKind} {x : Str} {v : Value} : ∀ {P : List Str} {vs : List Value} {i : Nat} {m : Str → Option Value}, P.Nodup → P[i]? = some x → vs[i]? = some v → kindOf x = some .local →
    bindL kindOf (P.zip vs) m x = some v
  | [], _, _, _, _, h, _, _ => by simp at h
  | _ :: _, [], _, _, _, _, h, _ => by simp at h
  | p :: P, w :: vs, 0, m, nd, h1, h2, hk => by
    simp at h1 h2; subst h1; subst h2
    show bindL kindOf ((p, w) :: P.zip vs) m p = _
    unfold bindL
    rw [bindL_out fun v hv => (List.nodup_cons.mp nd).1 (List.of_mem_zip hv).1, if_pos hk]
    simp
  | p :: P, w :: vs, i + 1, m, nd, h1, h2, hk => by
    show bindL kindOf ((p, w) :: P.zip vs) m x = _
    unfold bindL
    exact bindL_get (i := i) (List.nodup_cons.mp nd).2 (by simpa using h1) (by simpa using h2) hk
theorem bindC_get {kindOf : Str → Option NameKind} {x : Str} {v : Value} : ∀ {P : List Str} {vs : List Value} {i : Nat} {m : Str → Option Value}, P.Nodup → P[i]? = some x → vs[i]? = some v → kindOf x ≠ some .local →
    bindC kindOf (P.zip vs) m x = some v
  | [], _, _, _, _, h, _, _ => by simp at h
  | _ :: _, [], _, _, _, _, h, _ => by simp at h
  | p :: P, w :: vs, 0, m, nd, h1, h2, hk => by
    simp at h1 h2; subst h1; subst h2
    show bindC kindOf ((p, w) :: P.zip vs) m p = _
    unfold bindC
    rw [bindC_out fun v hv => (List.nodup_cons.mp nd).1 (List.of_mem_zip hv).1, if_neg hk]
    simp
  | p :: P, w :: vs, i + 1, m, nd, h1, h2, hk => by
    show bindC kindOf ((p, w) :: P.zip vs) m x = _
    unfold bindC
    exact bindC_get (i := i) (List.nodup_cons.mp nd).2 (by simpa using h1) (by simpa using h2) hk

/-- the names' values at the entry -/
def start (N : List Str) (vs : List V) : St := vs.map some ++ List.replicate (N.length - vs.length) none

/-- the context of a def's body, at its entry; an exception leaves the frame, then lies as CX says -/
def cxOf (CX : CXT) (P : Program) (w : World) (K : PySem.W.Frag) (mg : Str → Option Value) (base : Heap) (N : List Str) (qual : Str) (scope : Scope) (f : Addr) (cd : Value) (A : Around) (outer : List Env) (s : Shared) (H : Hp) (E : XK) : Cx where
  prog := P
  w := w
  K := K
  mg := mg
  base := base
  A := A.deeper (envOfC qual scope s.heap.objs.size f cd)
  N := N
  s₀ := s
  H₀ := H
  env := envOfC qual scope s.heap.objs.size f cd
  outer := outer
  stack := envOfC qual scope s.heap.objs.size f cd :: outer
  ex := []
  calm := true
  fn := fun _ => true
  pn := []
  xe := fun e s' => wpAny (model P w) (A.deeper (envOfC qual scope s.heap.objs.size f cd)) (leaving (envOfC qual scope s.heap.objs.size f cd) e) (fun _ s'' => CX outer H s E e s'') (fun e' s'' => CX outer H s E e' s'') s'

theorem cell_has {sc : Scope} {n : Nat} {x : Str} (h : sc.names.lookup x = some .cell) : ∃ c, (cellsFrom n sc.names []).lookup x = some c := by
  have q := PySem.W.cellsFrom_some sc.names n [] (.inl h)
  exact Option.isSome_iff_exists.mp q

theorem inv_start {CX : CXT} {P : Program} {w : World} {K : PySem.W.Frag} {mg : Str → Option Value} {base : Heap} {N ps : List Str} {qual : Str} {scope : Scope} {f : Addr} {cd : Value} {A : Around} {outer : List Env} {s s1 : Shared} {H : Hp} {E : XK} {us : List Value} {vs : List V}
    (S : FnScope N ps scope) (hd : A.handled = none) (e0 : Env0 P w K mg base A outer s H) (hl : vs.length = ps.length) (r : Vals vs us)
    (x : InCallC s s.heap.objs.size (bindL (envOfC qual scope s.heap.objs.size f cd).kindOf (ps.zip us) fun _ => none) (cellsFrom (s.heap.objs.size + 1) scope.names []) (bindC (envOfC qual scope s.heap.objs.size f cd).kindOf (ps.zip us) fun _ => none) s1) :
    Inv (cxOf CX P w K mg base N qual scope f cd A outer s H E) [] (start N vs) H s1 := by
  have hpl : ps.length ≤ N.length := by have := congrArg List.length S.pre; rw [List.length_take] at this; omega
  obtain ⟨h1, tk, rfl, hk⟩ := x.done
  have noA : ∀ b : Addr, b ∉ (cxOf CX P w K mg base N qual scope f cd A outer s H E).ex := fun b z => absurd (show b ∈ ([] : List Addr) from z) (by simp)
  refine ⟨⟨e0.mod, S.kind, rfl, rfl, Nat.le_refl _, fun y z c h1 h2 => ?_, fun y hy => ?_, fun y c _ h => ?_, fun _ => hd, Around.frames_deeper e0.frames, .inr ⟨rfl, rfl⟩, fun b z => absurd z (noA b), e0.bs, e0.bsz, fun b _ _ => noA b, fun b z => absurd z (noA b), e0.funs, e0.frf⟩,
    rfl, e0.bare, Un.kept hk, ⟨_, x.toInCall.ns, fun i y v h1 h2 h3 => ?_⟩, fun y c h => ⟨_, x.cell y c h⟩, e0.hok.fresh (Nat.le_refl _), fun y c h => ?_, fun p hp => absurd (show p ∈ ([] : List (Addr × Obj)) from hp) (by simp), e0.hok.kept hk, ?_⟩
  · exact name_of_addr x.apart (PySem.mem_of_lookup h1) (PySem.mem_of_lookup h2)
  · have hy : scope.names.lookup y = some .cell ∨ scope.names.lookup y = some .free := hy
    rcases hy with hy | hy
    · exact cell_has hy
    · exact absurd rfl (S.nofree _ (PySem.mem_of_lookup hy))
  · exact Nat.le_of_lt (x.above y c (PySem.mem_of_lookup h))
  · have hi : i < vs.length := by
      unfold start at h2
      by_cases hi : i < vs.length
      · exact hi
      · rw [List.getElem?_append_right (by simpa using hi)] at h2
        rw [List.getElem?_replicate] at h2
        split at h2 <;> cases h2
    have ha : vs[i]? = some v := by
      unfold start at h2
      rw [List.getElem?_append_left (by simpa using hi), List.getElem?_map] at h2
      cases e : vs[i]? with
      | none => rw [e] at h2; cases h2
      | some a => rw [e] at h2; cases h2; rfl
    obtain ⟨u, hu, rv⟩ := r.get ha
    have hp : ps[i]? = some y := by
      rw [← S.pre, List.getElem?_take_of_lt (by omega)]; exact h1
    have ndP : ps.Nodup := by rw [← S.pre]; exact S.nd.sublist (List.take_sublist _ _)
    refine ⟨u, rv, ?_⟩
    rcases S.par y (List.mem_of_getElem? hp) with k | k
    · exact .inl ⟨k, bindL_get ndP hp hu k⟩
    · obtain ⟨c, e⟩ := cell_has (n := s.heap.objs.size + 1) k
      refine .inr ⟨.inl k, c, e, ?_⟩
      have q := x.cell y c e
      rw [bindC_get ndP hp hu (by show scope.names.lookup y ≠ _; rw [k]; decide)] at q
      exact q
  · exact e0.hok.fresh (Nat.le_of_lt (x.above y c (PySem.mem_of_lookup h)))
  · unfold start
    show _ = N.length
    rw [List.length_append, List.length_map, List.length_replicate]
    omega

/-- THE RULE: a def (or a method) of the text, by its body. The body's reading t is chosen for each entry; it is run at the parameters' values -/
theorem fn_of {CX : CXT} {P : Program} {w : World} {K : PySem.W.Frag} {mg : Str → Option Value} {base : Heap} {k : Nat} {f : Addr} {name qual : Str} {params : Arguments} {body : List Stmt} {scope : Scope} {dV kV doc pm cdv ct oc : Value} {an od : Option Addr}
    {osl : Array (Option Value)} {N ps : List Str} {sp : Sp} (lk : K.lookup f = some ⟨oc, od, .func (PySem.W.fnOf name qual params body scope dV kV doc pm an cdv ct), osl⟩) (hcd : PySem.W.codeIn K cdv qual = true) (S : FnScope N ps scope)
    (len : ∀ vs H Q E, sp vs H Q E → vs.length = ps.length)
    (hbody : ∀ (A : Around) (outer : List Env) (s : Shared) (H : Hp) (vs : List V) (Q : VK) (E : XK), Room k (A.deeper (envOfC qual scope s.heap.objs.size f cdv)) → sp vs H Q E →
      ∃ t, PSs (cxOf CX P w K mg base N qual scope f cdv A outer s H E) body t ∧ t { nx := fun _ H' => Q .non H', rt := Q } (start N vs) H) :
    FnOk P w K mg base CX (k + 1) f (PySem.W.fnOf name qual params body scope dV kV doc pm an cdv ct) ps sp := by
  refine ⟨len, fun A outer s H args us vs Q E hr e0 hb r hsp => ?_⟩
  have hl := len _ _ _ _ hsp
  have KX : K.In s.heap := e0.mod.kin.keeps fun b o e => (e0.bs b o e).1
  have lim : s.heap.NoLimit := e0.mod.nolimit.keeps fun b o e => (e0.bs b o e).1
  have hkind : ∀ y ∈ ps.zip us, scope.names.lookup y.1 = some .local ∨ (scope.names.lookup y.1 = some .cell ∧ ((cellsFrom (s.heap.objs.size + 1) scope.names []).lookup y.1).isSome = true) := fun ⟨n, v⟩ hy => by
    rcases S.par n (List.of_mem_zip hy).1 with q | q
    · exact .inl q
    · exact .inr ⟨q, PySem.W.cellsFrom_some _ _ _ (.inl q)⟩
  refine codeAny_call_function hr.depth (KX _ _ lk) rfl S.co S.gen rfl (PySem.W.codeRec_of KX hcd) (hb _ _ _ _ ?_)
  refine wpAny_newFunctionEnv_cells S.kind hkind fun env he s1 x => ?_
  subst he
  refine ⟨lim.keeps x.toInCall.keep, codeAny_func ?_⟩
  obtain ⟨t, ht, hq⟩ := hbody A outer s H vs Q E (hr.deeper _) hsp
  have I : Inv (cxOf CX P w K mg base N qual scope f cdv A outer s H E) [] (start N vs) H s1 := inv_start S hr.hd e0 hl r x
  refine wpAny_mono (ht [] s1 (start N vs) H _ I hq) (fun fl s' hs => ?_) fun e s' hs => hs
  have fin : ∀ {σ' : St} {H' : Hp} {v : V} {u : Value}, Inv (cxOf CX P w K mg base N qual scope f cdv A outer s H E) [] σ' H' s' → RelV v u → Q v H' → CE outer P w H s Q u s' :=
    fun {σ' H' v u} J rv q => ⟨v, H', J.os, J.bare, J.base, J.hok, rv, q⟩
  cases fl with
  | ret u =>
    obtain ⟨v, σ', H', J, rv, q⟩ := hs
    exact fin J rv q
  | next =>
    obtain ⟨σ', H', J, q⟩ := hs
    exact fin (v := V.non) (u := Value.none) J rfl q
  | brk =>
    obtain ⟨_, _, _, q⟩ := hs
    exact False.elim q
  | cont =>
    obtain ⟨_, _, _, q⟩ := hs
    exact False.elim q
end L2

namespace L2
open PySem PySem.Spec PyProof.Rows
section
variable {X : Cx} {x : Str} {p pos : Pos} {e : Expr} {es : List Expr} {t : TA} {id T : String} {r : List V → Hp → VK → Prop}

def tCB (r : List V → Hp → VK → Prop) (t : TA) : TE := fun σ H Q => t σ H fun vs H1 => r vs H1 Q
/-- f(e, ..), f a built-in function -/
theorem pe_callB (hc : CallR X (.builtin id) r) (hg : Gl X x) (hm : X.mg x = none) (hv : bootBuiltins x = some (.builtin id)) (ha : PA X (e :: es) t) (hn : x ≠ "__name__" := by decide) (hdb : (x == ("__debug__" : Str)) = false := by decide)
    (he : starEach (e :: es) X.env = (false, eval e X.env) :: starEach es X.env := by rfl) (hpl : (backTo pos (starEach es X.env)).any (·.1) = false := by rfl) : PE X (.Call (.Name x p) (e :: es) [] pos) (tCB r t) := by
  intro pins s σ H Q I h
  refine wpAny_Call_Name_kw (ld_blt I hg hm hv ?_ hn hdb)
  exact PyProof.Rows.callWith_builtin1 (thn (ha pos pins s σ H _ I h) fun us s1 ⟨vs, H1, I1, r1, q1⟩ => hc pins s1 σ H1 vs us Q I1 r1 q1) he hpl
/-- T(e, ..), T a built-in type -/
theorem pe_callTy (hc : CallR X (.type T) r) (hg : Gl X x) (hm : X.mg x = none) (hv : bootBuiltins x = some (.type T)) (ha : PA X (e :: es) t) (hn : x ≠ "__name__" := by decide) (hdb : (x == ("__debug__" : Str)) = false := by decide)
    (he : starEach (e :: es) X.env = (false, eval e X.env) :: starEach es X.env := by rfl) (hpl : (backTo pos (starEach es X.env)).any (·.1) = false := by rfl) : PE X (.Call (.Name x p) (e :: es) [] pos) (tCB r t) := by
  intro pins s σ H Q I h
  refine wpAny_Call_Name_kw (ld_blt I hg hm hv ?_ hn hdb)
  exact PyProof.Rows.callWith_type1 (thn (ha pos pins s σ H _ I h) fun us s1 ⟨vs, H1, I1, r1, q1⟩ => hc pins s1 σ H1 vs us Q I1 r1 q1) he hpl
end
end L2

namespace HT
open PySem PyProof.Rows

section
open PySem.SeqAt
open PySem.AutoSeq1 (wpAny_loadPart')
open PySem.MeetsSeq PySem.MeetsSeq2 PySem.MeetsSeq3

end

section
variable {prog : Program} {w : World} {A : Around} {E : Value → Shared → Prop} {s : Shared}

/-- t + u, t not empty -/
theorem cat_tup {t b : Addr} {vs ws : List Value} {Q : Value → Shared → Prop} (ht : IsTup s.heap t vs.toArray) (hb : IsTup s.heap b ws.toArray) (hv : vs ≠ [])
    (h1 : ws = [] → Q (.ref t) s) (h2 : ws ≠ [] → Q (.ref s.heap.objs.size) { s with heap := s.heap.push { cls := .type "tuple", data := .seq (vs ++ ws).toArray } })
    (hsz : vs.length + ws.length ≤ sizeLine) : wpAny (model prog w) A (binaryOp .Add (.ref t) (.ref b)) Q E s := by
  obtain ⟨⟨cls, dd, data, sl⟩, ho, hc, n, hd⟩ := id ht
  obtain ⟨⟨cls2, dd2, data2, sl2⟩, ho2, hc2, n2, hd2⟩ := id hb
  simp only at hc hd hc2 hd2
  subst hc hd hc2 hd2
  have e : vs.toArray ++ ws.toArray = (vs ++ ws).toArray := by simp
  by_cases hw : ws = []
  · exact concat_meets ⟨_, ho, rfl⟩ ⟨_, ho2, rfl⟩ noFill_tuple_add seq_tuple_add PySem.F.slot_tuple_add PySem.F.entry_tuple_add (PySem.F.args_tuple_add_2 _ _)
      (tuple_addW1 t b vs.toArray ws.toArray n n2 dd dd2 sl sl2 (by simpa using hv) (by simp [hw])) ⟨ho, ho2, h1 hw⟩
  · refine concat_meets ⟨_, ho, rfl⟩ ⟨_, ho2, rfl⟩ noFill_tuple_add seq_tuple_add PySem.F.slot_tuple_add PySem.F.entry_tuple_add (PySem.F.args_tuple_add_2 _ _)
      (tuple_addW2 t b vs.toArray ws.toArray n n2 dd dd2 sl sl2 (by simpa using hv) (by simpa using hw) (by rw [List.size_toArray, List.size_toArray]; exact hsz)) ⟨ho, ho2, ?_⟩
    rw [e]
    exact h2 hw

/-! ### t[a:b], not the whole -/
/-- a slice's bound as a place among n (d where it is left out) -/
def sIx (n d : Nat) : Option Int → Nat
  | none => d
  | some v => if v < 0 then (v + (n : Int)).toNat else min v.toNat n
end
end HT

namespace L2
open PySem PySem.Spec PyProof.Rows

/-! ### the parts of a slice -/
abbrev TO := St → Hp → (Option Int → Hp → Prop) → Prop
/-- a slice's part (left out, or an int) -/
def PO (X : Cx) (e : Option Expr) (t : TO) : Prop :=
  ∀ (pins : List (Addr × Obj)) (s : Shared) (σ : St) (H : Hp) (Q : Option Int → Hp → Prop), Inv X pins σ H s → t σ H Q →
    wpAny (model X.prog X.w) X.A (evalPart e X.env) (fun u s' => ∃ o H', Inv X pins σ H' s' ∧ IsPart u o ∧ Q o H') X.xe s
def tNoPart : TO := fun _ H Q => Q none H
def tPart (t : TE) : TO := fun σ H Q => t σ H fun x H1 => ∃ i, x = .int i ∧ Q (some i) H1

section
variable {X : Cx} {e : Expr} {te : TE} {lo hi : Option Expr} {tl th : TO} {pos p2 : Pos}

theorem po_none : PO X none tNoPart := by
  intro pins s σ H Q I h
  rw [evalPart_none]
  exact wpAny_pure ⟨none, H, I, .none, h⟩
theorem po_some (h : PE X e te) : PO X (some e) (tPart te) := by
  intro pins s σ H Q I hw
  rw [evalPart_some]
  refine thn (h pins s σ H _ I hw) fun u s1 ⟨x, H1, I1, r1, q1⟩ => ?_
  obtain ⟨i, rfl, q⟩ := q1
  obtain ⟨t, rfl⟩ := r1
  exact ⟨some i, H1, I1, .int i t, q⟩

/-- what a slice of a value is, by values: the slice object stands at sl -/
def SlR (X : Cx) (r : V → Option Int → Option Int → Hp → VK → Prop) : Prop :=
  ∀ (pins : List (Addr × Obj)) (s : Shared) (σ : St) (H : Hp) (x : V) (v vl vu : Value) (lo hi : Option Int) (sl : Addr) (Q : VK), Inv X pins σ H s → RelV x v → s.heap.IsSliceOf sl vl vu .none → IsPart vl lo → IsPart vu hi → r x lo hi H Q →
    ∃ T id, typeLookup (.type T) "__getitem__" = pure (some (.builtin id)) ∧ s.TypeIs v T ∧ wpAny (model X.prog X.w) X.A (getItem v (.ref sl)) (EP X pins σ Q) X.xe s
theorem SlR.or {r r' : V → Option Int → Option Int → Hp → VK → Prop} (h : SlR X r) (h' : SlR X r') : SlR X (fun x lo hi H Q => r x lo hi H Q ∨ r' x lo hi H Q) := by
  intro pins s σ H x v vl vu lo hi sl Q I rx hs pl pu q
  rcases q with q | q
  · exact h pins s σ H x v vl vu lo hi sl Q I rx hs pl pu q
  · exact h' pins s σ H x v vl vu lo hi sl Q I rx hs pl pu q
def tSl (r : V → Option Int → Option Int → Hp → VK → Prop) (te : TE) (tl th : TO) : TE := fun σ H Q => te σ H fun x H1 => tl σ H1 fun l H2 => th σ H2 fun u H3 => r x l u H3 Q
/-- a[lo:hi], any a -/
theorem pe_slice {r : V → Option Int → Option Int → Hp → VK → Prop} (hr : SlR X r) (he : PE X e te) (hl : PO X lo tl) (hu : PO X hi th) : PE X (.Subscript e (.Slice lo hi none p2) pos) (tSl r te tl th) := by
  intro pins s σ H Q I h
  refine Subscript_ (thn (he pins s σ H _ I h) fun v s1 ⟨x, H1, I1, r1, q1⟩ => ?_)
  refine wpAny_Slice (thn (hl pins s1 σ H1 _ I1 q1) fun vl s2 ⟨l, H2, I2, pl, q2⟩ => thn (hu pins s2 σ H2 _ I2 q2) fun vu s3 ⟨u, H3, I3, pu, q3⟩ => ?_)
  rw [evalPart_none]
  refine wpAny_pure ?_
  have I4 : Inv X pins σ H3 { s3 with heap := s3.heap.push { cls := .type "slice", data := .fields #[vl, vu, .none] } } := I3.kept (t' := s3.toks) fun b ob q => Heap.get?_push_of_some _ q
  obtain ⟨T, id, hT, ht, hg⟩ := hr pins { s3 with heap := s3.heap.push { cls := .type "slice", data := .fields #[vl, vu, .none] } } σ H3 x v vl vu l u s3.heap.objs.size Q I4 r1 (Heap.IsSliceOf.new ..) pl pu q3
  show wpAny (model X.prog X.w) X.A (subscriptTail e (.Slice lo hi none p2) v (.ref s3.heap.objs.size)) (EP X pins σ Q) X.xe { s3 with heap := s3.heap.push { cls := .type "slice", data := .fields #[vl, vu, .none] } }
  exact tail_any (ops := [.ref s3.heap.objs.size, v]) ht hT hg (by with_unfolding_all rfl)

/-- the items of xs[lo:hi] -/
def cutV (xs : List V) (lo hi : Option Int) : List V := (xs.drop (HT.sIx xs.length 0 lo)).take (HT.sIx xs.length xs.length hi - HT.sIx xs.length 0 lo)
theorem cutV_length (xs : List V) (lo hi : Option Int) : (cutV xs lo hi).length ≤ xs.length := by
  unfold cutV
  rw [List.length_take, List.length_drop]
  omega
/-- t[lo:hi], not the whole of it (the whole would be t itself) -/
def rSlT (K : PySem.W.Frag) : V → Option Int → Option Int → Hp → VK → Prop := fun x lo hi H Q => ∃ a xs, x = .ref a ∧ SqT K H a xs ∧
  ¬ (HT.sIx xs.length 0 lo = 0 ∧ HT.sIx xs.length xs.length hi = xs.length) ∧ ∀ p, H p = none → Q (.ref p) (upd H p (.tup (cutV xs lo hi)))
/-! ### t < u, t + u -/
/-- t + u, t not empty: u empty gives t itself -/
def rCatT (K : PySem.W.Frag) : R2 := fun x y H Q => ∃ a b xs ys, x = .ref a ∧ y = .ref b ∧ SqT K H a xs ∧ SqT K H b ys ∧ xs ≠ [] ∧ xs.length + ys.length ≤ sizeLine ∧
  (ys = [] → Q (.ref a) H) ∧ (ys ≠ [] → ∀ p, H p = none → Q (.ref p) (upd H p (.tup (xs ++ ys))))
theorem Vals.nil_iff {xs : List V} {us : List Value} (r : Vals xs us) : us = [] ↔ xs = [] := by
  cases r with
  | nil => simp
  | cons _ _ => simp
theorem op_catT : OpR X (binaryOp .Add) (rCatT X.K) := by
  intro pins s σ H x y v u Q I rx ry h
  obtain ⟨a, b, xs, ys, rfl, rfl, ha, hb, hx, hz, q1, q2⟩ := h
  cases rx
  cases ry
  obtain ⟨its, r1, p1, _⟩ := I.tuple ha
  obtain ⟨its2, r2, p2, _⟩ := I.tuple hb
  refine HT.cat_tup p1 p2 (fun z => hx (r1.nil_iff.mp z)) (fun z => ⟨.ref a, H, I, rfl, q1 (r2.nil_iff.mp z)⟩) (fun z => ?_) (by rw [← r1.length, ← r2.length]; exact hz)
  refine ⟨.ref s.heap.objs.size, _, I.laid (t' := s.toks) (o := .tup (xs ++ ys)) (fun b ob q => Heap.get?_push_of_some _ q) (Nat.le_refl _) ?_, rfl, q2 (fun w => z (r2.nil_iff.mpr w)) _ (I.hok.fresh (Nat.le_refl _))⟩
  exact ⟨by rw [List.length_append]; exact hz, _, r1.append r2, IsTup.new _ _⟩
end
end L2

namespace L2
open PySem PySem.Spec PyProof.Rows

/-! ### places -/
/-- the place that an index of any sign means -/
def ixN (n : Nat) (i : Int) : Option Nat := if 0 ≤ i then (if i < n then some i.toNat else none) else if -(n : Int) ≤ i then some (i + n).toNat else none
def atI {α : Type} (xs : List α) (i : Int) : Option α := (ixN xs.length i).bind fun j => xs[j]?
theorem ixN_seq {n : Nat} {i : Int} {j : Nat} (h : ixN n i = some j) : seqIndex? i n = some j ∧ j < n ∧ -(n : Int) ≤ i ∧ i < n := by
  unfold ixN at h
  by_cases h0 : 0 ≤ i
  · rw [if_pos h0] at h
    by_cases h1 : i < n
    · rw [if_pos h1] at h
      have e : i.toNat = j := Option.some.inj h
      exact ⟨by rw [seqIndex_of h0 h1, e], by omega, by omega, h1⟩
    · rw [if_neg h1] at h; cases h
  · rw [if_neg h0] at h
    by_cases h1 : -(n : Int) ≤ i
    · rw [if_pos h1] at h
      have e : (i + n).toNat = j := Option.some.inj h
      exact ⟨by rw [seqIndex_neg (by omega) h1, e], by omega, h1, by omega⟩
    · rw [if_neg h1] at h; cases h
theorem atI_get {α : Type} {xs : List α} {i : Int} {v : α} (h : atI xs i = some v) : ∃ j, seqIndex? i xs.length = some j ∧ xs[j]? = some v ∧ j < xs.length ∧ -(xs.length : Int) ≤ i ∧ i < xs.length := by
  unfold atI at h
  cases e : ixN xs.length i with
  | none => rw [e] at h; cases h
  | some j =>
    rw [e] at h
    obtain ⟨h1, h2, h3, h4⟩ := ixN_seq e
    exact ⟨j, h1, h, h2, h3, h4⟩
theorem atI_nat {α : Type} {xs : List α} {j : Nat} {v : α} (h : xs[j]? = some v) : atI xs (j : Int) = some v := by
  have hj : j < xs.length := (List.getElem?_eq_some_iff.mp h).1
  have e : ixN xs.length (j : Int) = some j := by
    unfold ixN
    rw [if_pos (by omega), if_pos (by omega)]; simp
  unfold atI; rw [e]; exact h
/-! ### what may be subscripted -/
/-- what stands as an index of a plain subscript -/
def PlainIx (b : Expr) : Prop := ∀ o i, subscripted b false o i = operate [o, i] (getItem o i)
/-- a subscript by values -/
def IxR (X : Cx) (r : R2) : Prop :=
  ∀ (value slice : Expr) (pins : List (Addr × Obj)) (s : Shared) (σ : St) (H : Hp) (x y : V) (v u : Value) (Q : VK), Inv X pins σ H s → RelV x v → RelV y u → r x y H Q →
    subscripted slice false v u = operate [v, u] (getItem v u) → wpAny (model X.prog X.w) X.A (subscriptTail value slice v u) (EP X pins σ Q) X.xe s
/-- a call of a builtin's method by values: the receiver, the arguments -/
def MtR (X : Cx) (id : String) (r : V → List V → Hp → VK → Prop) : Prop :=
  ∀ (pins : List (Addr × Obj)) (s : Shared) (σ : St) (H : Hp) (x : V) (xs : List V) (v : Value) (us : List Value) (Q : VK), Inv X pins σ H s → RelV x v → Vals xs us → r x xs H Q →
    wpAny (model X.prog X.w) X.A (call (.builtin id) (v :: us)) (EP X pins σ Q) X.xe s
section
variable {X : Cx} {a b : Expr} {ta tb : TE} {pos : Pos}
theorem IxR.or {r r' : R2} (h : IxR X r) (h' : IxR X r') : IxR X (fun x y H Q => r x y H Q ∨ r' x y H Q) := by
  intro value slice pins s σ H x y v u Q I rx ry q hs
  rcases q with q | q
  · exact h value slice pins s σ H x y v u Q I rx ry q hs
  · exact h' value slice pins s σ H x y v u Q I rx ry q hs
theorem MtR.or {id : String} {r r' : V → List V → Hp → VK → Prop} (h : MtR X id r) (h' : MtR X id r') : MtR X id (fun x xs H Q => r x xs H Q ∨ r' x xs H Q) := by
  intro pins s σ H x xs v us Q I rx rs q
  rcases q with q | q
  · exact h pins s σ H x xs v us Q I rx rs q
  · exact h' pins s σ H x xs v us Q I rx rs q
/-- a[b] -/
theorem pe_ix {r : R2} (hr : IxR X r) (ha : PE X a ta) (hb : PE X b tb) (hs : PlainIx b) : PE X (.Subscript a b pos) (tOp r ta tb) := by
  intro pins s σ H Q I h
  exact Subscript_ (binT ha hb I h fun v u s2 x y H2 I2 rx ry q => hr a b pins s2 σ H2 x y v u Q I2 rx ry q (hs _ _))

def rIxL (K : PySem.W.Frag) : R2 := fun x y H Q => ∃ p xs i v, x = .ref p ∧ y = .int i ∧ SqL K H p xs ∧ atI xs i = some v ∧ Q v H
def rIxT (K : PySem.W.Frag) : R2 := fun x y H Q => ∃ p xs i v, x = .ref p ∧ y = .int i ∧ SqT K H p xs ∧ atI xs i = some v ∧ Q v H
def rIxS : R2 := fun x y H Q => ∃ z i c, x = .str z ∧ y = .int i ∧ z.length ≤ sizeLine ∧ atI z.cps.toList i = some c ∧ Q (.str ⟨#[c]⟩) H
theorem ix_list : IxR X (rIxL X.K) := by
  intro value slice pins s σ H x y v u Q I rx ry h hs
  obtain ⟨p, xs, i, z, rfl, rfl, hq, he, q⟩ := h
  cases rx
  obtain ⟨t, rfl⟩ := ry
  obtain ⟨its, r, pl, hz⟩ := I.list hq
  obtain ⟨j, h1, h2, h3, h4, h5⟩ := atI_get he
  obtain ⟨w, ew, rw'⟩ := r.get h2
  have hl := r.length
  have hn := line63
  have fin : EP X pins σ Q w s := ⟨z, H, I, rw', q⟩
  by_cases h0 : 0 ≤ i
  · have hj : i.toNat = j := by
      rw [seqIndex_of h0 h5] at h1
      exact Option.some.inj h1
    exact item_listR pl.isList h0 (by omega) (by rw [hj]; simpa using ew) fin hs
  · have hj : (i + (its.toArray.size : Int)).toNat = j := by
      rw [seqIndex_neg (by omega) h4] at h1
      rw [List.size_toArray, ← hl]
      exact Option.some.inj h1
    exact subscriptTail_builtinR (x := w) pl.isList.typeIs slot_list_getitem.lookup
      (wpAny_getItem_list_neg (Q := fun r s' => r = w ∧ EP X pins σ Q r s') pl.isList (by omega) (by rw [List.size_toArray] <;> omega) (by omega) (by rw [hj]; simpa using ew) ⟨rfl, fin⟩) hs
theorem ix_tup : IxR X (rIxT X.K) := by
  intro value slice pins s σ H x y v u Q I rx ry h hs
  obtain ⟨p, xs, i, z, rfl, rfl, hq, he, q⟩ := h
  cases rx
  obtain ⟨t, rfl⟩ := ry
  obtain ⟨its, r, pl, hz⟩ := I.tuple hq
  obtain ⟨j, h1, h2, h3, h4, h5⟩ := atI_get he
  obtain ⟨w, ew, rw'⟩ := r.get h2
  have hl := r.length
  have hn := line63
  have fin : EP X pins σ Q w s := ⟨z, H, I, rw', q⟩
  exact subscriptTail_builtinR (x := w) pl.typeIs slot_tuple_getitem.lookup
    (getItem_tuple (j := j) (Q := fun r s' => r = w ∧ EP X pins σ Q r s') pl (by omega) (by omega) (by rw [List.size_toArray, ← hl]; exact h1) (by simpa using ew) ⟨rfl, fin⟩) hs
theorem ix_str : IxR X rIxS := by
  intro value slice pins s σ H x y v u Q I rx ry h hs
  obtain ⟨z, i, c, rfl, rfl, hz, he, q⟩ := h
  obtain ⟨t, rfl⟩ := rx
  obtain ⟨t', rfl⟩ := ry
  obtain ⟨j, h1, h2, h3, h4, h5⟩ := atI_get he
  have hl : z.cps.toList.length = z.length := by simp [Str.length]
  rw [hl] at h1 h4 h5
  have hn := line63
  exact tail_any (typeIs_str s z t) slot_str_getitem.lookup (getItem_str (c := c) (by
    have e1 : decide (i < -(2 ^ 63 : Int)) = false := decide_eq_false (by omega)
    have e2 : decide (i ≥ 2 ^ 63) = false := decide_eq_false (by omega)
    rw [e1, e2, Bool.or_false]) (by rw [h1]; simpa using h2) ⟨.str ⟨#[c]⟩, H, I.tok _, ⟨_, rfl⟩, q⟩) hs
/-- list, tuple or str -/
def rIx (K : PySem.W.Frag) : R2 := fun x y H Q => rIxL K x y H Q ∨ rIxT K x y H Q ∨ rIxS x y H Q
theorem ix_seq : IxR X (rIx X.K) := ix_list.or (ix_tup.or ix_str)

/-! ### xs[i] = v, any sign -/
theorem Inv.lst {pins : List (Addr × Obj)} {σ : St} {H : Hp} {s : Shared} {p : Addr} {xs : List V} (I : Inv X pins σ H s) (h : H p = some (.lst xs)) :
    ∃ (its : List Value) (n : Nat), Vals xs its ∧ s.heap.get? p = some { cls := .type "list", data := .seq its.toArray n } ∧ xs.length ≤ sizeLine := by
  obtain ⟨z, its, n, r, e⟩ := I.hok p _ h
  exact ⟨its, n, r, e, z⟩
def rSetL : V → V → V → Hp → (Hp → Prop) → Prop := fun o i v H Q => ∃ p xs k j, o = .ref p ∧ i = .int k ∧ H p = some (.lst xs) ∧ ixN xs.length k = some j ∧ Q (upd H p (.lst (xs.set j v)))
/-! ### slices -/
theorem slice_bounds (lo hi : Option Int) (n : Nat) : (sliceBounds lo hi none n).1 = ((HT.sIx n 0 lo : Nat) : Int) ∧ (sliceBounds lo hi none n).2.1 = ((HT.sIx n n hi : Nat) : Int) ∧ (sliceBounds lo hi none n).2.2 = 1 := by
  refine ⟨?_, ?_, rfl⟩
  · cases lo with
    | none => simp [sliceBounds, HT.sIx]
    | some i =>
      simp only [sliceBounds, HT.sIx, Option.getD_none, show (1 : Int) > 0 by decide, if_true]
      by_cases h : i < 0
      · simp only [h, if_true] <;> omega
      · simp only [h, if_false] <;> omega
  · cases hi with
    | none => simp [sliceBounds, HT.sIx]
    | some i =>
      simp only [sliceBounds, HT.sIx, Option.getD_none, show (1 : Int) > 0 by decide, if_true]
      by_cases h : i < 0
      · simp only [h, if_true] <;> omega
      · simp only [h, if_false] <;> omega
theorem slicePick_cut (its : List Value) (lo hi : Option Int) : slicePick its.toArray lo hi none = ((its.drop (HT.sIx its.length 0 lo)).take (HT.sIx its.length its.length hi - HT.sIx its.length 0 lo)).toArray := by
  obtain ⟨h1, h2, h3⟩ := slice_bounds lo hi its.toArray.size
  unfold slicePick
  rw [h1, h2, h3]
  simp only [sliceRange_one, pick_run, List.size_toArray] <;> rfl
/-- xs[lo:hi] of a list: a new list -/
def rSlL (K : PySem.W.Frag) : V → Option Int → Option Int → Hp → VK → Prop := fun x lo hi H Q => ∃ a xs, x = .ref a ∧ SqL K H a xs ∧ ∀ p, H p = none → Q (.ref p) (upd H p (.lst (cutV xs lo hi)))
theorem sl_list : SlR X (rSlL X.K) := by
  intro pins s σ H x v vl vu lo hi sl Q I rx hs pl pu h
  obtain ⟨a, xs, rfl, hx, q⟩ := h
  cases rx
  obtain ⟨its, r, ht, hz⟩ := I.list hx
  have hlen := r.length
  refine ⟨"list", _, slot_list_getitem.lookup, ht.isList.typeIs, ?_⟩
  refine wpAny_getItem_list_slice ht.isList hs pl pu .none (by simp) ?_ (by rw [List.size_toArray] <;> omega)
  rw [slicePick_cut, ← hlen]
  refine ⟨.ref s.heap.objs.size, _, I.laid (t' := s.toks) (o := .lst (cutV xs lo hi)) (fun b ob q => Heap.get?_push_of_some _ q) (Nat.le_refl _) ?_, rfl, q _ (I.hok.fresh (Nat.le_refl _))⟩
  exact ⟨Nat.le_trans (cutV_length xs lo hi) hz, _, 0, (r.drop (HT.sIx xs.length 0 lo)).take (HT.sIx xs.length xs.length hi - HT.sIx xs.length 0 lo), Heap.get?_push_size _ rfl⟩

/-! ### in, not in: flat items -/
def flatV : V → Bool
  | .non => true
  | .bl _ => true
  | .int _ => true
  | .str _ => true
  | _ => false
/-- == of flat values -/
def eqV : V → V → Bool
  | .non, .non => true
  | .bl a, .bl b => a == b
  | .bl a, .int b => (if a then 1 else 0) == b
  | .int a, .bl b => a == (if b then 1 else 0)
  | .int a, .int b => a == b
  | .str a, .str b => a == b
  | _, _ => false
theorem eqAt_V {A : Around} {s : Shared} {y x : V} {u v : Value} (ry : RelV y u) (rx : RelV x v) (fy : flatV y = true) (fx : flatV x = true) : SeqAt.EqAt A s u v (eqV y x) := by
  cases y with
  | non =>
    cases ry
    cases x with
    | non => cases rx; exact SeqAt.EqAt.same _
    | bl b => cases rx; exact SeqAt.EqAt.none_bool b
    | int b => obtain ⟨t, rfl⟩ := rx; exact SeqAt.EqAt.none_int b t
    | str b => obtain ⟨t, rfl⟩ := rx; exact SeqAt.EqAt.none_str b t
    | _ => exact absurd (show false = true from fx) Bool.false_ne_true
  | bl a =>
    cases ry
    cases x with
    | non => cases rx; exact SeqAt.EqAt.bool_none a
    | bl b => cases rx; exact SeqAt.EqAt.bool_bool a b
    | int b => obtain ⟨t, rfl⟩ := rx; exact SeqAt.EqAt.bool_int a b t
    | str b => obtain ⟨t, rfl⟩ := rx; exact SeqAt.EqAt.bool_str a b t
    | _ => exact absurd (show false = true from fx) Bool.false_ne_true
  | int a =>
    obtain ⟨t', rfl⟩ := ry
    cases x with
    | non => cases rx; exact SeqAt.EqAt.int_none a t'
    | bl b => cases rx; exact SeqAt.EqAt.int_bool a t' b
    | int b => obtain ⟨t, rfl⟩ := rx; exact SeqAt.EqAt.int_int a t' b t
    | str b => obtain ⟨t, rfl⟩ := rx; exact SeqAt.EqAt.int_str a t' b t
    | _ => exact absurd (show false = true from fx) Bool.false_ne_true
  | str a =>
    obtain ⟨t', rfl⟩ := ry
    cases x with
    | non => cases rx; exact SeqAt.EqAt.str_none a t'
    | bl b => cases rx; exact SeqAt.EqAt.str_bool a t' b
    | int b => obtain ⟨t, rfl⟩ := rx; exact SeqAt.EqAt.str_int a t' b t
    | str b => obtain ⟨t, rfl⟩ := rx; exact SeqAt.EqAt.str_str a t' b t
    | _ => exact absurd (show false = true from fx) Bool.false_ne_true
  | _ => exact absurd (show false = true from fy) Bool.false_ne_true
/-- the items' answers, read off the values (a value's own answer does not lean on its token) -/
def eqU (x : V) (u : Value) : Bool := match u with
  | .none => eqV .non x
  | .bool b => eqV (.bl b) x
  | .int i _ => eqV (.int i) x
  | .str z _ => eqV (.str z) x
  | _ => false
theorem eqU_of {x y : V} {u : Value} (r : RelV y u) (f : flatV y = true) : eqU x u = eqV y x := by
  cases y with
  | non => cases r; rfl
  | bl b => cases r; rfl
  | int i => obtain ⟨t, rfl⟩ := r; rfl
  | str z => obtain ⟨t, rfl⟩ := r; rfl
  | _ => exact absurd (show false = true from f) Bool.false_ne_true
theorem any_eqU {x : V} : ∀ {xs : List V} {us : List Value}, Vals xs us → xs.all flatV = true → us.any (eqU x) = xs.any fun y => eqV y x
  | _, _, .nil, _ => rfl
  | y :: xs, u :: us, .cons r t, f => by
    rw [List.all_cons, Bool.and_eq_true] at f
    rw [List.any_cons, List.any_cons, eqU_of r f.1, any_eqU t f.2]
theorem mem_eqAt {A : Around} {s : Shared} {x : V} {v : Value} (rx : RelV x v) (fx : flatV x = true) : ∀ {xs : List V} {us : List Value}, Vals xs us → xs.all flatV = true → ∀ u ∈ us, SeqAt.EqAt A s u v (eqU x u)
  | _, _, .nil, _ => fun u hu => by cases hu
  | y :: xs, u :: us, .cons r t, f => fun u' hu => by
    rw [List.all_cons, Bool.and_eq_true] at f
    rcases List.mem_cons.mp hu with rfl | hu
    · rw [eqU_of r f.1]; exact eqAt_V r rx f.1 fx
    · exact mem_eqAt rx fx t f.2 u' hu
def inV (x : V) (xs : List V) : Bool := xs.any fun y => eqV y x
/-- x in a list or tuple of flat items -/
def rIn (K : PySem.W.Frag) (neg : Bool) : R2 := fun x y H Q => ∃ p xs, y = .ref p ∧ (SqL K H p xs ∨ SqT K H p xs) ∧ flatV x = true ∧ xs.all flatV = true ∧ Q (.bl (if neg then !inV x xs else inV x xs)) H
theorem op_notIn_seq : OpR X (compareOp .NotIn) (rIn X.K true) := by
  intro pins s σ H x y v u Q I rx ry h
  obtain ⟨p, xs, rfl, hq, fx, fs, q⟩ := h
  cases ry
  rcases hq with hq | hq
  · obtain ⟨its, r, pl, hz⟩ := I.list hq
    refine SeqAt.notIn_listAt (eqU x) pl.isList (fun w hw => mem_eqAt rx fx r fs w (by simpa using hw)) ⟨.bl _, H, I, rfl, ?_⟩
    rw [show its.toArray.any (eqU x) = its.any (eqU x) by simp, any_eqU r fs]
    exact q
  · obtain ⟨its, r, pl, hz⟩ := I.tuple hq
    refine SeqAt.notIn_tupleAt (eqU x) pl (fun w hw => mem_eqAt rx fx r fs w (by simpa using hw)) ⟨.bl _, H, I, rfl, ?_⟩
    rw [show its.toArray.any (eqU x) = its.any (eqU x) by simp, any_eqU r fs]
    exact q
/-! ### len, list(x), tuple(x) of any list or tuple that is read -/
theorem call_len_seq : CallR X (.builtin "len") (fun xs H Q => ∃ p ys, xs = [.ref p] ∧ (SqL X.K H p ys ∨ SqT X.K H p ys) ∧ Q (.int ys.length) H) := by
  intro pins s σ H xs us Q I r h
  obtain ⟨p, ys, rfl, hq, q⟩ := h
  obtain ⟨u, rfl, rx⟩ := vals1 r
  cases rx
  have hn := line63
  rcases hq with hq | hq
  · obtain ⟨its, r', pl, hz⟩ := I.list hq
    have hlen := r'.length
    exact Calls.call_len_list pl.isList (by simp only [List.size_toArray] <;> omega) ⟨.int ys.length, H, I.tok _, ⟨s.toks + 1, by rw [List.size_toArray, hlen]⟩, q⟩
  · obtain ⟨its, r', pl, hz⟩ := I.tuple hq
    have hlen := r'.length
    exact len_tuple pl (by simp only [List.size_toArray] <;> omega) ⟨.int ys.length, H, I.tok _, ⟨s.toks + 1, by rw [List.size_toArray, hlen]⟩, q⟩
theorem call_len_str : CallR X (.builtin "len") (fun xs H Q => ∃ z, xs = [.str z] ∧ z.length ≤ sizeLine ∧ Q (.int z.length) H) := by
  intro pins s σ H xs us Q I r h
  obtain ⟨z, rfl, hz, q⟩ := h
  obtain ⟨u, rfl, t, rfl⟩ := vals1 r
  have hn := line63
  exact len_str (by omega) ⟨.int z.length, H, I.tok _, ⟨_, rfl⟩, q⟩
theorem CallR.or {f : Value} {r r' : List V → Hp → VK → Prop} (h : CallR X f r) (h' : CallR X f r') : CallR X f (fun xs H Q => r xs H Q ∨ r' xs H Q) := by
  intro pins s σ H xs us Q I rs q
  rcases q with q | q
  · exact h pins s σ H xs us Q I rs q
  · exact h' pins s σ H xs us Q I rs q
theorem call_tuple_of : CallR X (.type "tuple") (fun xs H Q => ∃ p ys, xs = [.ref p] ∧ ((SqL X.K H p ys ∧ ∀ l, H l = none → Q (.ref l) (upd H l (.tup ys))) ∨ (SqT X.K H p ys ∧ Q (.ref p) H))) := by
  intro pins s σ H xs us Q I r h
  obtain ⟨p, ys, rfl, h⟩ := h
  obtain ⟨u, rfl, rx⟩ := vals1 r
  cases rx
  rcases h with ⟨hq, q⟩ | ⟨hq, q⟩
  · obtain ⟨its, r', pl, hz⟩ := I.list hq
    have hlen := r'.length
    refine call_tuple_list pl.isList (fun h' kp => ?_) (by simp only [List.size_toArray] <;> omega)
    have I1 : Inv X pins σ H { s with heap := h' } := I.kept (t' := s.toks) kp
    have I2 : Inv X pins σ (upd H h'.objs.size (.tup ys)) { s with heap := h'.push { cls := .type "tuple", data := .seq its.toArray } } :=
      I1.laid (t' := s.toks) (fun b o e => Heap.get?_push_of_some _ e) (Nat.le_refl _) (show ObjOk X.prog X.w _ _ _ (.tup ys) from ⟨hz, its, r', IsTup.new _ _⟩)
    exact ⟨.ref h'.objs.size, _, I2, rfl, q _ (I1.hok.fresh (Nat.le_refl _))⟩
  · obtain ⟨its, r', pl, hz⟩ := I.tuple hq
    exact call_tuple_same pl ⟨.ref p, H, I, rfl, q⟩

/-! ### the call of a builtin's method: o.m(..) -/
/-- the value is of that builtin type -/
def tyV (K : PySem.W.Frag) (T : String) (x : V) (H : Hp) : Prop := match x with
  | .str _ => T = "str"
  | .int _ => T = "int"
  | .ref p => (T = "list" ∧ ∃ xs, SqL K H p xs) ∨ (T = "tuple" ∧ ∃ o, K.lookup p = some o ∧ o.cls = .type "tuple" ∧ o.dict = none) ∨
      (T = "dict" ∧ ((∃ kvs, H p = some (.dK kvs)) ∨ ∃ kvs, H p = some (.dT kvs))) ∨ (T = "set" ∧ ∃ S n, H p = some (.set S n))
  | _ => False
theorem tyV_is {pins : List (Addr × Obj)} {σ : St} {H : Hp} {s : Shared} {T : String} {x : V} {v : Value} (I : Inv X pins σ H s) (r : RelV x v) (ty : tyV X.K T x H) :
    s.TypeIs v T ∧ ∀ a, v = .ref a → ∃ ob, s.heap.get? a = some ob ∧ ob.dict = none := by
  cases x with
  | str z =>
    obtain ⟨t, rfl⟩ := r
    cases (show T = "str" from ty)
    exact ⟨typeIs_str s z t, fun _ e => nomatch e⟩
  | int i =>
    obtain ⟨t, rfl⟩ := r
    cases (show T = "int" from ty)
    exact ⟨typeIs_int s i t, fun _ e => nomatch e⟩
  | ref p =>
    cases r
    rcases ty with ⟨rfl, xs, hq⟩ | ⟨rfl, o, hk, hc, hd⟩ | ⟨rfl, hk⟩ | ⟨rfl, S, n, hk⟩
    · obtain ⟨its, _, pl, _⟩ := I.list hq
      refine ⟨pl.isList.typeIs, fun a e => ?_⟩
      cases e
      obtain ⟨o, n, e, c, hd, _⟩ := pl
      exact ⟨o, e, hd⟩
    · refine ⟨⟨o, I.kIn p o hk, hc⟩, fun a e => ?_⟩
      cases e
      exact ⟨o, I.kIn _ o hk, hd⟩
    · have z : ∃ o, s.heap.get? p = some o ∧ o.ExactDict := by
        rcases hk with ⟨kvs, hk⟩ | ⟨kvs, hk⟩
        · obtain ⟨_, _, _, _, o, _, _, e, ex, _⟩ := I.hok p _ hk
          exact ⟨o, e, ex⟩
        · obtain ⟨_, _, _, _, o, _, _, e, ex, _⟩ := I.hok p _ hk
          exact ⟨o, e, ex⟩
      obtain ⟨o, e, ex⟩ := z
      refine ⟨⟨o, e, ex.1⟩, fun a e2 => ?_⟩
      cases e2
      exact ⟨o, e, ex.2.1⟩
    · obtain ⟨o, _, _, _, e, ex, _⟩ := I.hok p _ hk
      refine ⟨⟨o, e, ex.1⟩, fun a e2 => ?_⟩
      cases e2
      exact ⟨o, e, ex.2.1⟩
  | _ => exact False.elim ty
def tBM0 (K : PySem.W.Frag) (T : String) (r : V → List V → Hp → VK → Prop) (to : TE) : TE := fun σ H Q => to σ H fun x H1 => tyV K T x H1 ∧ r x [] H1 Q
def tBM (K : PySem.W.Frag) (T : String) (r : V → List V → Hp → VK → Prop) (to : TE) (t : TA) : TE := fun σ H Q => to σ H fun x H1 => tyV K T x H1 ∧ t σ H1 fun xs H2 => r x xs H2 Q
variable {o e : Expr} {es : List Expr} {to : TE} {t : TA} {name : Str} {apos cpos : Pos} {T id : String} {r : V → List V → Hp → VK → Prop}
theorem pe_bm (pa : PlainAttrs T) (slot : Slot T name id) (hty : typeOf (.builtin id) = pure (.type "method_descriptor")) (hm : MtR X id r) (ho : PE X o to) (ha : PA X (e :: es) t)
    (hbase : attributeBase o name X.env (eval o X.env) = eval o X.env := by rfl)
    (hfew : ((backTo cpos (starEach (e :: es) X.env)).all (fun x => !x.1) && (backToKw cpos (keywordEach [] X.env)).all (fun x => x.1.isSome)
      && decide ((e :: es).length + ([] : List Keyword).length + (if ([] : List Keyword).isEmpty then 0 else 1) < 30)) = true := by rfl)
    (hline : (apos.endLine == cpos.line) = true := by rfl) (hs : starEach (e :: es) X.env = (false, eval e X.env) :: starEach es X.env := by rfl) (hplain : (backTo cpos (starEach es X.env)).any (·.1) = false := by rfl) :
    PE X (.Call (.Attribute o name apos) (e :: es) [] cpos) (tBM X.K T r to t) := by
  intro pins s σ H Q I h
  refine wpAny_Call_method_late hbase hfew hline rfl (thn (ho pins s σ H _ I h) fun v s1 ⟨x, H1, I1, r1, ty, q1⟩ => ?_)
  obtain ⟨h1, h2⟩ := tyV_is I1 r1 ty
  refine ⟨T, id, pa, slot, hty, h1, h2, ?_⟩
  have hA := ha cpos pins s1 σ H1 _ I1 q1
  rw [hs] at hA ⊢
  refine Calls.callWith_builtin (by show (false || (backTo cpos (starEach es X.env)).any (·.1)) = false; rw [hplain] <;> rfl) (Calls.evalArgs_plain ?_)
  exact thn hA fun us s2 ⟨vs, H2, I2, r2, q2⟩ => hm pins s2 σ H2 x vs v us Q I2 r1 r2 q2
/- xs.append(e), list.index on a module's tuple .. are MtR facts of 06m -/
end
end L2

namespace L2
open PySem PySem.Spec PyProof.Rows

def MtM (X : Cx) (id : String) (r : V → List V → Hp → VK → Prop) : Prop :=
  ∀ (pins : List (Addr × Obj)) (s : Shared) (σ : St) (H : Hp) (x : V) (xs : List V) (v : Value) (us : List Value) (Q : VK), Inv X pins σ H s → RelV x v → Vals xs us → r x xs H Q →
    wpAny (model X.prog X.w) X.A (call (.builtin id) (v :: us)) (EP X pins σ Q) X.xe s

/-! ### lists of values -/
theorem Vals.one : ∀ {x : V} {us : List Value}, Vals [x] us → ∃ u, us = [u] ∧ RelV x u
  | _, _, .cons r .nil => ⟨_, rfl, r⟩
theorem Vals.two : ∀ {x y : V} {us : List Value}, Vals [x, y] us → ∃ u v, us = [u, v] ∧ RelV x u ∧ RelV y v
  | _, _, _, .cons r (.cons q .nil) => ⟨_, _, rfl, r, q⟩
theorem Vals.zero : ∀ {us : List Value}, Vals [] us → us = []
  | _, .nil => rfl
theorem Vals.dropLast {xs : List V} {us : List Value} (h : Vals xs us) : Vals xs.dropLast us.dropLast := by
  induction h with
  | nil => exact .nil
  | cons r t ih =>
    cases t with
    | nil => exact .nil
    | cons q t' => exact .cons r ih
theorem Vals.eraseIdx : ∀ {xs : List V} {us : List Value} (i : Nat), Vals xs us → Vals (xs.eraseIdx i) (us.eraseIdx i)
  | _, _, _, .nil => .nil
  | _, _, 0, .cons _ t => t
  | _, _, i + 1, .cons r t => .cons r (Vals.eraseIdx i t)
theorem Vals.reverse {xs : List V} {us : List Value} (h : Vals xs us) : Vals xs.reverse us.reverse := by
  induction h with
  | nil => exact .nil
  | cons r t ih => rw [List.reverse_cons, List.reverse_cons]; exact Vals.append ih (.cons r .nil)
section
variable {X : Cx} {pins : List (Addr × Obj)} {σ : St} {H : Hp} {s : Shared} {l b : Addr} {xs ys zs : List V}

/-! ### the two steps: a tracked list is rewritten, a new list is laid -/
theorem Inv.lset {its its' : List Value} {n : Nat} {f : Array Value → Array Value} {t' : Nat} (I : Inv X pins σ H s) (hH : H l = some (.lst xs))
    (e : s.heap.get? l = some { cls := .type "list", data := .seq its.toArray n }) (hf : f its.toArray = its'.toArray) (hv : Vals ys its') (hz : ys.length ≤ sizeLine) :
    Inv X pins σ (upd H l (.lst ys)) { s with heap := s.heap.update l (Obj.mapSeq f), toks := t' } := by
  have q := PySem.IsL.update e f
  rw [hf] at q
  refine I.write (x := l) (e := l) (by rw [hH]; exact trivial) (.inl rfl) (fun b' u hb hu => (Heap.get?_update_other s.heap (Obj.mapSeq f) (Ne.symm hb)).trans hu) ⟨_, q⟩ ?_
  exact ⟨hz, its', _, hv, q⟩
theorem Inv.lnew {its : List Value} {t' : Nat} (I : Inv X pins σ H s) (hv : Vals ys its) (hz : ys.length ≤ sizeLine) :
    Inv X pins σ (upd H s.heap.objs.size (.lst ys)) { s with heap := s.heap.push { cls := .type "list", data := .seq its.toArray }, toks := t' } :=
  I.laid (fun _ _ q => Heap.get?_push_of_some _ q) (Nat.le_refl _) ⟨hz, its, 0, hv, Heap.get?_push_size _ rfl⟩
theorem Inv.fresh (I : Inv X pins σ H s) : H s.heap.objs.size = none := I.hok.fresh (Nat.le_refl _)
theorem Inv.lstM (I : Inv X pins σ H s) (hH : H l = some (.lst xs)) : xs.length ≤ sizeLine ∧ ∃ (its : List Value) (n : Nat), Vals xs its ∧ xs.length = its.length ∧ s.heap.get? l = some { cls := .type "list", data := .seq its.toArray n } := by
  obtain ⟨z, its, n, r, e⟩ := I.hok l _ hH
  exact ⟨z, its, n, r, r.length, e⟩

end

section
variable {X : Cx}

/-! ### methods -/
def rAppend : V → List V → Hp → VK → Prop := fun x vs H Q => ∃ l xs y, x = .ref l ∧ vs = [y] ∧ H l = some (.lst xs) ∧ xs.length < sizeLine ∧ Q .non (upd H l (.lst (xs ++ [y])))
theorem mt_append : MtM X "list.append" rAppend := by
  intro pins s σ H x vs v us Q I rx rv h
  obtain ⟨l, xs, y, rfl, rfl, hH, hz, q⟩ := h
  cases rx
  obtain ⟨u, rfl, ru⟩ := rv.one
  obtain ⟨z, its, n, r, hl, e⟩ := I.lstM hH
  refine call_meets F.slot_list_append ⟨_, e, rfl⟩ F.entry_list_append (F.args_list_append_2 _ _) (PySem.list_append l its.toArray n u (by rw [List.size_toArray]; omega)) ⟨e, ?_⟩
  refine ⟨.non, _, I.lset (its' := its ++ [u]) hH e (by simp) (r.append (.cons ru .nil)) ?_, rfl, q⟩
  rw [List.length_append, List.length_singleton]
  omega

def rPop : V → List V → Hp → VK → Prop := fun x vs H Q => ∃ l xs y, x = .ref l ∧ vs = [] ∧ H l = some (.lst xs) ∧ xs[xs.length - 1]? = some y ∧ Q y (upd H l (.lst xs.dropLast))
def rPopAt : V → List V → Hp → VK → Prop := fun x vs H Q => ∃ l xs i k y, x = .ref l ∧ vs = [.int i] ∧ H l = some (.lst xs) ∧ -(2 ^ 63) ≤ i ∧ i < 2 ^ 63 ∧ seqIndex? i xs.length = some k ∧ xs[k]? = some y ∧ Q y (upd H l (.lst (xs.eraseIdx k)))
def rReverse : V → List V → Hp → VK → Prop := fun x vs H Q => ∃ l xs, x = .ref l ∧ vs = [] ∧ H l = some (.lst xs) ∧ Q .non (upd H l (.lst xs.reverse))
/-! ### list + list, list += list, list * int -/
def rCat : R2 := fun x y H Q => ∃ l b xs zs, x = .ref l ∧ y = .ref b ∧ H l = some (.lst xs) ∧ H b = some (.lst zs) ∧ xs.length + zs.length ≤ sizeLine ∧ ∀ p, H p = none → Q (.ref p) (upd H p (.lst (xs ++ zs)))
theorem op_cat : OpR X (binaryOp .Add) rCat := by
  intro pins s σ H x y v u Q I rx ry h
  obtain ⟨l, b, xs, zs, rfl, rfl, hH, hB, hz, q⟩ := h
  cases rx
  cases ry
  obtain ⟨z, its, n, r, hl, e⟩ := I.lstM hH
  obtain ⟨z2, its2, n2, r2, hl2, e2⟩ := I.lstM hB
  refine PySem.P.add_list e e2 ?_ (by rw [List.size_toArray, List.size_toArray]; omega)
  have ea : its.toArray ++ its2.toArray = (its ++ its2).toArray := by simp
  rw [ea]
  exact ⟨.ref _, _, I.lnew (t' := s.toks) (r.append r2) (by rw [List.length_append]; omega), rfl, q _ I.fresh⟩
/-! ### del xs[i] -/
end

/-! ### xs[a:b] = ys -/
section
variable {prog : Program} {w : World} {A : Around} {E : Value → Shared → Prop} {s : Shared}
set_option maxRecDepth 100000 in
end

section
variable {X : Cx}
end
end L2

namespace Att
open PySem PySem.W PySem.Calls PyProof.Rows

/-! ### the script -/
theorem ints_of_wellAll {P : Params} {h : Heap} : ∀ (ns : List Int) (vs : List Value), WellAll P h vs (ns.map WData.int) → IntsAre vs ns := by
  intro ns
  induction ns with
  | nil =>
    intro vs w
    rw [List.map_nil] at w
    cases w
    exact .nil
  | cons n ns ih =>
    intro vs w
    rw [List.map_cons] at w
    cases w with
    | cons a b =>
      cases a
      exact .cons _ _ (ih _ b)

theorem script_of {l : OpenLaw} {n : Nat} (hn : l.most = some n) {P : Params} {h : Heap} {args : List WData} {vals : List Value}
    (hpre : l.row.toRowW.claim.pre args = true) (hwl : WellAll P h vals args) :
    ∃ a vs ns, vals = [Value.ref a] ∧ args = [WData.list (ns.map WData.int)] ∧ h.get? a = some { cls := .type "list", data := .seq vs.toArray } ∧ IntsAre vs ns ∧ ns.length ≤ n := by
  have hsh : WShape.hasAll [] args [.list .int] = true := (pre_splitW hpre).1
  have hc : l.pre.holds [] { args := args } = true := (pre_splitW hpre).2
  obtain ⟨d, r, rfl, h1, h2⟩ := hasAllW_cons hsh
  obtain rfl := hasAllW_nil h2
  obtain ⟨xs, rfl, h3⟩ := hasW_list h1
  obtain ⟨ns, rfl⟩ := items_int h3
  have hlen : ns.length ≤ n := by
    unfold OpenLaw.pre at hc
    have h4 : (WTm.not (.lt (.lit (.int (n : Int))) (.len (.arg 0)))).holds [] { args := [.list (ns.map .int)] } = true := by
      have h4 := (holds_andW hc).1
      rw [hn] at h4
      exact h4
    have h5 := condW_of h4 (w_not (w_lt w_lit (w_len_list (w_arg rfl))))
    rw [List.length_map] at h5
    refine Nat.le_of_not_lt fun q => ?_
    have q' : (n : Int) < ((ns.length : Nat) : Int) := by omega
    first
      | (rw [decide_eq_true q'] at h5; exact absurd h5 (by decide))
      | (simp at h5; omega)
  cases hwl with
  | cons w1 w2 =>
    cases w2
    cases w1 with
    | list ho hall => exact ⟨_, _, ns, rfl, rfl, ho, ints_of_wellAll ns _ hall, hlen⟩

theorem post_true (l : OpenLaw) (args : List WData) : l.row.toRowW.claim.post args (.bool true) args = true :=
  postW_of (r := l.row.toRowW) (X := (true == true))
    (show WShape.has [] (.bool true) .bool = true by first | rfl | decide | simp [WShape.has, WShape.arms, WShape.armsAll])
    (show (WTm.eq .res (.lit (.bool true))).value [] { args := args, res := some (.bool true), after := args } = some (.bool (true == true)) from w_eq_bool (w_res rfl) w_lit) rfl

/-! ### the attachment: holds_open's last premise (the goal 'hc' behind k_head) from a wpAny of the law's body -/
/-- the same from a codeAny of the CALL (for a layer whose function contracts speak of calls) -/
theorem attach_call {l : OpenLaw} {n : Nat} {q : Program} {loose : List Str} {XP : (Str → Option Value) → Heap → Prop} {YP : World → Heap → Prop} {d : DefRec}
    (hn : l.most = some n) (hdf : d.params.defaults = [])
    (call : ∀ (w : World) (s₀ s₁ : Shared) (mg mb : Str → Option Value) (fa : Addr) (o : Obj) (pm cd doc : Value) (a : Addr) (vs : List Value) (ns : List Int),
      Ground q loose [] XP w s₀ mg mb s₁.heap → YP w s₁.heap →
      s₁.heap.get? fa = some o → o.data = .func (docDef d.name d.params d.body d.scope pm cd doc) → s₁.heap.CodeRec cd d.name → mg d.name = some (.ref fa) →
      s₁.heap.get? a = some { cls := .type "list", data := .seq vs.toArray } → IntsAre vs ns → ns.length ≤ n → s₁.gens = #[] →
      codeAny (model l.prog w) callerA (.call (.ref fa) ⟨[.ref a], []⟩) (fun r s' => r = .ok (.ret (.bool true)) ∧ OldK s₁.heap s'.heap ∧ s'.os = s₁.os ∧ AllBare s'.gens) s₁) :
    WalkO q loose XP YP l.row.toRowW d [] (fun f vs => PySem.call f vs) := by
  intro w s₀ s₁ mg mb G Y fa o pm cd doc dV kV ho hd hcd hD hmg hg args vals as hpre hlay hrd hwl hlo
  obtain rfl : dV = .none := Dflts.none hD hdf
  obtain rfl : kV = .none := Dflts.noKw hD
  obtain ⟨a, vs, ns, rfl, rfl, hobj, hints, hlen⟩ := script_of hn hpre hwl
  refine enter_call (codeAny_mono (call w s₀ s₁ mg mb fa o pm cd doc a vs ns G Y ho (fd_plain hd) hcd hmg hobj hints hlen hg) fun r s' hq => ?_)
  obtain ⟨rfl, h2, h3, h4⟩ := hq
  exact ⟨.inl ⟨.bool true, .bool true, [], rfl, fun _ => rfl, .bool true, post_true l _, fun _ => ⟨List.Pairwise.nil, fun _ hm => (nomatch hm)⟩⟩, h2, h3, h4⟩

/-! ### rules over ANY heap (no ledger) from facts about the written part K: the library's own take a ledger (News) for what they write -/
section
variable {prog : Program} {w : World} {A : Around} {E : Value → Shared → Prop} {s : Shared} {K : Frag}

/-! the whole heap as the ledger: makes every rule that writes through a ledger a rule over any heap -/
def ledger (h : Heap) (L d : Addr) : List (Addr × Obj) := (List.range h.objs.size).filterMap fun a => if a = L ∨ a = d then none else (h.get? a).map fun o => (a, o)
end
end Att

namespace L2
open PySem PySem.Spec PyProof.Rows

theorem vals_ints : ∀ {vs : List Value} {ns : List Int}, IntsAre vs ns → Vals (ns.map V.int) vs
  | _, _, .nil => .nil
  | _, _, .cons n t h => .cons ⟨t, rfl⟩ (vals_ints h)

/-- nothing is tracked but the script, known to the object (or it is an object of the module) -/
def Only (H : Hp) : Prop := ∀ b, H b = none ∨ ∃ o xs, H b = some (.frz o (.lst xs))

/-- THE HEAD: the law's promise, at the heap behind the top. F, the promise of the law's def, may use that base is part of the heap (so K.In base, base.Ns mainGlobals mg stand in Mod) -/
theorem law_call {P : Program} {w : World} {K : PySem.W.Frag} {mg mb : Str → Option Value} {CX : CXT} {k : Nat} {fa a : Addr} {fd : FuncData} {x : Str} {sp : Sp} {s₁ : Shared} {vs : List Value} {ns : List Int}
    (KX : K.In s₁.heap) (hns : s₁.heap.Ns mainGlobals mg) (hb : s₁.heap.Ns builtinsNs mb) (hbb : ∀ x : Str, x ≠ "__name__" → mb x = bootBuiltins x) (hlim : s₁.heap.NoLimit) (hg : s₁.gens = #[])
    (ha : s₁.heap.get? a = some { cls := .type "list", data := .seq vs.toArray }) (hi : IntsAre vs ns) (hl : ns.length ≤ sizeLine) (hr : Room k callerA)
    (F : ∀ base : Heap, K.In base → base.Ns mainGlobals mg → FnOk P w K mg base CX k fa fd [x] sp) (hbind : ∀ (s : Shared) (u : Value), BindsTo s fd ⟨[u], []⟩ [(x, u)])
    (hsp : ∀ H : Hp, Only H → SqL K H a (ns.map V.int) → sp [.ref a] H (fun v _ => v = .bl true) fun _ _ _ => False)
    (hCX : ∀ H e s', CX [] H s₁ (fun _ _ _ => False) e s' → False) :
    codeAny (model P w) callerA (.call (.ref fa) ⟨[.ref a], []⟩) (fun r s' => r = .ok (.ret (.bool true)) ∧ OldK s₁.heap s'.heap ∧ s'.os = s₁.os ∧ AllBare s'.gens) s₁ := by
  have rv := vals_ints hi
  have lenV := hi.length
  -- from an abstract heap in which nothing but the script may be tracked
  have core : ∀ H : Hp, Only H → SqL K H a (ns.map V.int) → HOk P w H s₁.heap → (∀ b, H b ≠ none → b = a) → (H a ≠ none → K.lookup a = none) →
      codeAny (model P w) callerA (.call (.ref fa) ⟨[.ref a], []⟩) (fun r s' => r = .ok (.ret (.bool true)) ∧ OldK s₁.heap s'.heap ∧ s'.os = s₁.os ∧ AllBare s'.gens) s₁ := by
    intro H hO hS hok hA hK
    have base_of : ∀ {b : Addr} {o : Obj}, s₁.heap.get? b = some o → H b = none → (hidT s₁.heap H).get? b = some o := fun e n => hidT_get e n
    have noA : ∀ {b : Addr} {o : Obj} {es : Array DictEntry} {ep : Nat}, s₁.heap.get? b = some o → o.data = .dict es ep → H b = none := fun {b o es ep} e d => by
      cases q : H b with
      | none => rfl
      | some u =>
        have e' : b = a := hA b (by rw [q]; simp)
        subst e'
        rw [ha] at e; cases e
        have d' : Data.seq vs.toArray _ = Data.dict es ep := d
        cases d'
    have nsK : ∀ {b : Addr} {m : Str → Option Value}, s₁.heap.Ns b m → (hidT s₁.heap H).Ns b m := fun {b m} ⟨o, es, ep, e, d, r⟩ => ⟨o, es, ep, base_of e (noA e d), d, r⟩
    have hKb : K.In (hidT s₁.heap H) := fun b o e => base_of (KX b o e) (by
      cases q : H b with
      | none => rfl
      | some u =>
        have e' : b = a := hA b (by rw [q]; simp)
        subst e'
        rw [hK (by rw [q]; simp)] at e; cases e)
    have hM : Mod K mg (hidT s₁.heap H) := ⟨hKb, nsK hns, ⟨mb, nsK hb, hbb⟩, let ⟨mc, h1, h2⟩ := hlim; ⟨mc, nsK h1, h2⟩⟩
    have e0 : Env0 P w K mg (hidT s₁.heap H) callerA [] s₁ H := ⟨rfl, hM, fun b o e => of_hidT e, Nat.le_of_eq (hidT_size _ _), trivial, fun b hb => absurd (show b ∈ ([] : List Addr) from hb) (by simp), hok, .of_eq hg⟩
    refine codeAny_mono ((F _ hKb (nsK hns)).run callerA [] s₁ H ⟨[.ref a], []⟩ [.ref a] [.ref a] _ _ hr e0 (hbind s₁ (.ref a)) (.cons rfl .nil) (hsp H hO hS)) fun r s' h => ?_
    cases r with
    | error e => exact (hCX H e s' h).elim
    | ok fl =>
      cases fl with
      | next => exact False.elim h
      | brk => exact False.elim h
      | cont => exact False.elim h
      | ret u =>
        obtain ⟨v, H', os, bare, un, hok', r', q⟩ := h
        have q' : v = .bl true := q
        subst q'
        obtain rfl : u = Value.bool true := r'
        refine ⟨rfl, OldK.of_keep fun b o e => ?_, os, bare⟩
        cases q : H b with
        | none => exact un.keep b o e q (by intro z; exact absurd (show b ∈ ([] : List Addr) from z) (by simp)) (by simp)
        | some u =>
          rcases hO b with z | ⟨ob, xs, z⟩
          · rw [q] at z; cases z
          · have z2 := un.frzs b ob _ z
            obtain ⟨e1, _⟩ := hok b _ z
            obtain ⟨e2, _⟩ := hok' b _ z2
            rw [e] at e1; cases e1
            exact e2
  cases hk : K.lookup a with
  | some o =>
    -- the script is one of the module's own objects
    have e := KX a o hk
    rw [ha] at e
    cases e
    refine core (fun _ => none) (fun _ => .inl rfl) (.inr ⟨_, vs.toArray, _, hk, rfl, rfl, rfl, by rw [List.size_toArray, lenV]; exact hl, by simpa using rv⟩) (fun b u z => by have z' : (none : Option HO) = some u := z; cases z') (fun b z => absurd rfl z) fun z => absurd rfl z
  | none =>
    refine core (fun b => if b = a then some (.frz { cls := .type "list", data := .seq vs.toArray } (.lst (ns.map V.int))) else none) (fun b => ?_) (.inl (.inr ⟨{ cls := .type "list", data := .seq vs.toArray }, if_pos rfl⟩)) (fun b u z => ?_) (fun b z => ?_) fun _ => hk
    · by_cases hb : b = a
      · exact .inr ⟨_, _, if_pos hb⟩
      · exact .inl (if_neg hb)
    · by_cases hb : b = a
      · have z' := (if_pos hb).symm.trans z
        cases z'
        subst hb
        exact ⟨ha, by rw [List.length_map]; exact hl, vs, _, rv, ha⟩
      · have z' := (if_neg hb).symm.trans z
        cases z'
    · by_cases hb : b = a
      · exact hb
      · exact absurd (if_neg hb) z
end L2

namespace L2
open PySem PySem.Spec PyProof.Rows

abbrev KOf {K : PySem.W.Frag} {h : Heap} (_ : K.In h) : PySem.W.Frag := K

/-- the goal that k_head leaves (case hc), from the law's promise. F gives the function object fd (K's own) once, then the promise over every base -/
theorem walk_of {l : PySem.W.OpenLaw} {n k : Nat} {q : Program} {loose : List Str} {XP : (Str → Option Value) → Heap → Prop} {YP : World → Heap → Prop} {d : DefRec} {K : Params → PySem.W.Frag} {CX : World → CXT} {sp : World → Sp} {x : Str}
    (hn : l.most = some n) (hn2 : n ≤ sizeLine) (hdf : d.params.defaults = []) (hr : Room k callerA)
    (hY : ∀ (w : World) (h : Heap), YP w h → (K w.params).In h)
    (F : ∀ (w : World) (mg : Str → Option Value) (fa : Addr) (h : Heap), (K w.params).In h → h.Ns mainGlobals mg → mg d.name = some (.ref fa) →
      ∃ fd : FuncData, (∀ (s : Shared) (u : Value), BindsTo s fd ⟨[u], []⟩ [(x, u)]) ∧
        ∀ base : Heap, (K w.params).In base → base.Ns mainGlobals mg → FnOk l.prog w (K w.params) mg base (CX w) k fa fd [x] (sp w))
    (hsp : ∀ (w : World) (H : Hp) (a : Addr) (ns : List Int), ns.length ≤ n → Only H → SqL (K w.params) H a (ns.map V.int) → sp w [.ref a] H (fun v _ => v = .bl true) fun _ _ _ => False)
    (hCX : ∀ (w : World) (H : Hp) (s : Shared) (e : Value) (s' : Shared), CX w [] H s (fun _ _ _ => False) e s' → False) :
    PySem.W.WalkO q loose XP YP l.row.toRowW d [] (fun f vs => PySem.call f vs) := by
  refine Att.attach_call hn hdf fun w s₀ s₁ mg mb fa o pm cd doc a vs ns G Y ho hd hcd hmg hobj hints hlen hg => ?_
  have KX := hY w _ Y
  obtain ⟨fd, hb, hF⟩ := F w mg fa _ KX G.T.g hmg
  exact law_call KX G.T.g G.T.b G.T.builtins G.T.nolimit hg hobj hints (Nat.le_trans hlen hn2) hr hF hb (fun H hO hS => hsp w H a ns hlen hO hS) fun H e s' => hCX w H s₁ e s'
end L2

/- THE LAST THEOREM (shape; LID, My.* are yours):
   My.Adr: a structure of the addresses that your layer names (classes, functions); My.Txt K t: a structure (Prop) of the equations over K;
   My.txt_mk : {K} {implicit addresses ..} (e1 : nsIn K mainGlobals "law" = some (some (.ref f))) (e2 : K.lookup f = some ⟨oc, od, .func (fnOf "law" "law" params body scope dV kV doc pm an cdv ct), sl⟩) (e3 : codeIn K cdv "law" = true) .. : ∃ t, My.Txt K t

set_option maxRecDepth 100000 in
set_option maxHeartbeats 0 in
theorem PySem.Challenge.cw_LID_holds : PySem.Challenge.rw_LID.Holds := by
  w_on; o_law; k_head; (case hw => w_witness2)
  k_fill
  refine L2.walk_of (l := PySem.Challenge.rw_LID) (n := 63) (k := 40) (x := "script") (CX := fun w => ..) (sp := fun _ => My.sp_law) rfl (by decide) rfl ⟨rfl, by decide, by decide⟩ (fun w h Y => PySem.W.kIn_of Y) ?F ?S ?C
  case F =>
    intro w mg fa h KX G hmg
    have T : ∃ t, My.Txt (L2.KOf KX) t := by
      dsimp only [L2.KOf]                          -- K must stand as «<heap const> w.params» for k_is
      refine' My.txt_mk ?e1 ?e2 ?e3 ..
      (case e1 => PySem.W.k_is)                    -- in the order: a name -> its address -> its object -> its parts
      (case e2 => PySem.W.k_is)
      ..
    obtain ⟨t, T⟩ := T
    have e0 := hmg.symm.trans (PySem.W.mg_of KX G T.law)
    cases e0                                       -- fa is the law's own address
    exact ⟨_, fun s u => .of_eq rfl, fun base kb nb => My.law_fn T kb nb⟩     -- if «.of_eq rfl» comes too early: refine' ⟨_, ?b, fun base kb nb => My.law_fn T kb nb⟩; exact fun s u => .of_eq rfl
  case S => exact fun w H a ns hl hO hS => ..
  case C => exact ..
(the tactic k_is has no namespace: write k_is) -/

/-! SHORT WORDS over the layer: a def of the text, its body, what a loop and a test want. -/
namespace L2
open PySem PySem.Spec PyProof.Rows

/-! ### the text by places -/
/-- the j-th statement of a class's body -/
def inClass (s : Stmt) (j : Nat) : Stmt := match s with
  | .ClassDef _ _ _ body _ _ _ _ _ _ _ => body.getD j (.Pass ⟨0, 0, 0, 0⟩)
  | _ => .Pass ⟨0, 0, 0, 0⟩
def defArgs (s : Stmt) : Arguments := match s with
  | .FunctionDef _ a _ _ _ _ _ _ _ _ => a
  | _ => { posonlyargs := [], args := [], vararg := none, kwonlyargs := [], kw_defaults := [], kwarg := none, defaults := [] }
def defBody (s : Stmt) : List Stmt := match s with
  | .FunctionDef _ _ b _ _ _ _ _ _ _ => b
  | _ => []
def defScope (s : Stmt) : Scope := match s with
  | .FunctionDef _ _ _ _ _ _ sc _ _ _ => sc
  | _ => { kind := .function, names := [], isGenerator := false, isCoroutine := false }

/-! ### no exception leaves a def -/
abbrev CX0 : CXT := fun _ _ _ _ _ _ => False
abbrev E0 : XK := fun _ _ _ => False
theorem pass0 {X : Cx} : Passes CX0 X E0 := fun _ _ _ _ _ _ _ h => h.elim

/-! ### a def (or method) of the text as it stands behind the top -/
structure Fun (K : PySem.W.Frag) (x qual : Str) (st : Stmt) (f : Addr) (fd : FuncData) : Prop where
  ex : ∃ (oc : Value) (od : Option Addr) (kV doc pm : Value) (an : Option Addr) (cdv ct : Value) (osl : Array (Option Value)),
    fd = PySem.W.fnOf x qual (defArgs st) (defBody st) (defScope st) .none kV doc pm an cdv ct ∧ K.lookup f = some ⟨oc, od, .func fd, osl⟩ ∧ PySem.W.codeIn K cdv qual = true
  kp : PySem.W.keepIn K (.ref f) = true
section
variable {P : Program} {w : World} {K : PySem.W.Frag} {mg : Str → Option Value} {base : Heap}
/-- THE RULE for a def: its body as a term of rules, and the reading of that term -/
theorem Fun.ok {x qual : Str} {st : Stmt} {f : Addr} {fd : FuncData} {N ps : List Str} {k : Nat} {sp : Sp} (F : Fun K x qual st f fd) (S : FnScope N ps (defScope st)) (len : ∀ vs H Q E, sp vs H Q E → vs.length = ps.length)
    (hbody : ∀ (cdv : Value) (A : Around) (outer : List Env) (s : Shared) (H : Hp) (vs : List V) (Q : VK) (E : XK), Room k (A.deeper (envOfC qual (defScope st) s.heap.objs.size f cdv)) → sp vs H Q E →
      ∃ t, PSs (cxOf CX0 P w K mg base N qual (defScope st) f cdv A outer s H E).nox (defBody st) t ∧ t { nx := fun _ H' => Q .non H', rt := Q } (start N vs) H) : FnOk P w K mg base CX0 (k + 1) f fd ps sp := by
  obtain ⟨oc, od, kV, doc, pm, an, cdv, ct, osl, rfl, lk, hcd⟩ := F.ex
  refine fn_of lk hcd S len fun A outer s H vs Q E hr hsp => ?_
  obtain ⟨t, h, q⟩ := hbody cdv A outer s H vs Q E hr hsp
  exact ⟨t, h.nox, q⟩
/-- how its arguments bind (no defaults): h is «fun _ _ _ _ _ _ us hl => match us, hl with | [_, _], _ => rfl», one _ a parameter -/
theorem Fun.binds {x qual : Str} {st : Stmt} {f : Addr} {fd : FuncData} {ps : List Str} (F : Fun K x qual st f fd)
    (h : ∀ (kV doc pm : Value) (an : Option Addr) (cdv ct : Value) (us : List Value), us.length = ps.length → bindArgs (PySem.W.fnOf x qual (defArgs st) (defBody st) (defScope st) .none kV doc pm an cdv ct) ⟨us, []⟩ = pure (ps.zip us)) : Binds K fd ps [] := by
  obtain ⟨oc, od, kV, doc, pm, an, cdv, ct, osl, rfl, lk, hcd⟩ := F.ex
  exact .all (h kV doc pm an cdv ct)
theorem fun_mk {x qual : Str} {st : Stmt} {f : Addr} {oc : Value} {od an : Option Addr} {osl : Array (Option Value)} {kV doc pm cdv ct : Value} (l : K.lookup f = some ⟨oc, od, .func (PySem.W.fnOf x qual (defArgs st) (defBody st) (defScope st) .none kV doc pm an cdv ct), osl⟩)
    (c : PySem.W.codeIn K cdv qual = true) (k : PySem.W.keepIn K (.ref f) = true) : Fun K x qual st f (PySem.W.fnOf x qual (defArgs st) (defBody st) (defScope st) .none kV doc pm an cdv ct) := ⟨⟨oc, od, kV, doc, pm, an, cdv, ct, osl, rfl, l, c⟩, k⟩
end
/-! ### expressions in short: the name that stands in the i-th slot -/
section
variable {X : Cx}
theorem pv (i : Nat) {x : Str} {pos : Pos} (hN : X.N[i]? = some x := by rfl) (hv : Vis X.env.scope x := by first | exact Or.inl rfl | exact Or.inr (Or.inl rfl) | exact Or.inr (Or.inr rfl)) (hd : (x == ("__debug__" : Str)) = false := by decide)
    (hcd : (x == ("__classdict__" : Str)) = false := by decide) : PE X (.Name x pos) (tVar i) := pe_var hN hv hd hcd
end

/-! ### tests -/
theorem ite2 {c A B : Prop} [Decidable c] (h1 : c → A) (h2 : ¬ c → B) : if c then A else B := by
  by_cases h : c
  · rw [if_pos h]
    exact h1 h
  · rw [if_neg h]
    exact h2 h
/-! ### heaps -/
/-- all that was tracked is as it was -/
def Same (H H' : Hp) : Prop := ∀ b o, H b = some o → H' b = some o
theorem Same.refl (H : Hp) : Same H H := fun _ _ h => h
theorem Same.trans {H H1 H2 : Hp} (a : Same H H1) (b : Same H1 H2) : Same H H2 := fun c o h => b c o (a c o h)
theorem Same.free {H H' : Hp} (e : Same H H') {l : Addr} (h : H' l = Option.none) : H l = Option.none := by
  cases q : H l with
  | none => rfl
  | some o =>
    rw [e l o q] at h
    cases h
theorem Same.seq {K : PySem.W.Frag} {H H' : Hp} {a : Addr} {xs : List V} (e : Same H H') (h : SqL K H a xs) : SqL K H' a xs := by
  rcases h with (h | ⟨o, h⟩) | h
  · exact .inl (.inl (e _ _ h))
  · exact .inl (.inr ⟨o, e _ _ h⟩)
  · exact .inr h

end L2
set_option maxHeartbeats 4000000
/-! TEXTS over the hand layer: walks over the signs, slices, methods; one rule for each operation, told by the kinds of its values. -/
namespace L2
open PySem PySem.Spec PyProof.Rows

/-! ### walking a text -/
def Its (z : Str) : It := ⟨fun i _ => i < z.length, fun i H x H' => H' = H ∧ ∃ c, z.cps.toList[i]? = some c ∧ x = .str ⟨#[c]⟩, fun i _ => z.length ≤ i⟩
theorem sign_at {z : Str} {i : Nat} (h : i < z.length) : ∃ c, z.cps[i]? = some c ∧ z.cps.toList[i]? = some c := by
  have h' : i < z.cps.size := h
  exact ⟨z.cps[i], by simp [h'], by simp [h']⟩
theorem sign_not {z : Str} {i : Nat} (h : z.length ≤ i) : z.cps[i]? = none := by
  have h' : z.cps.size ≤ i := h
  simp [h']
theorem turn_strA {P : Program} {w : World} {K : PySem.W.Frag} {tg : Expr} (it : Addr) (z : Str) (t : Tok) : Turn P w K tg (Its z) [it] it (fun i h => h.IsStrIter it "str_ascii_iterator" z t i) where
  mem := by simp
  obj := fun i h st b hb => by
    have e : b = it := by simpa using hb
    subst e
    obtain ⟨o, e, c, d⟩ := st
    exact ⟨o, e, fun v z => by rw [d] at z; cases z⟩
  keep := fun i h h' st k => by
    obtain ⟨o, e, r⟩ := st
    exact ⟨o, k it (by simp) o e, r⟩
  item := by
    intro X hP hw hK hc i pins s σ H E I hf st hg
    subst hP hw hK
    obtain ⟨c, h1, h2⟩ := sign_at (z := z) (i := i) hg
    obtain ⟨f0, f1, f2, f3, f4, f5⟩ := hf it (by simp)
    refine wpAny_pyNext_ascii_item st h1 fun h' st' sb => ?_
    have I1 : Inv X pins σ H { s with heap := h', toks := s.toks + 1 } := I.turned (t' := s.toks + 1) (fun b o hb e => (sb.2 b hb).trans e) f0 f1 f3 f4 f5
    obtain ⟨o, e, cl, d⟩ := id st'
    exact ⟨_, rfl, go_of (s := { s with heap := h', toks := s.toks + 1 }) e cl d (by decide) ⟨.str ⟨#[c]⟩, H, I1, ⟨_, rfl⟩, ⟨rfl, c, h2, rfl⟩, st', fun b hb => (hf b hb).1⟩⟩
  done := by
    intro X hP hw hK hc i pins s σ H E I hf st hg
    subst hP hw hK
    obtain ⟨f0, f1, f2, f3, f4, f5⟩ := hf it (by simp)
    exact wpAny_pyNext_ascii_end (I.ok.hd hc) st (sign_not hg) fun h' eb => ⟨rfl, I.turned (t' := s.toks) (fun b o hb e => eb b o hb e) f0 f1 f3 f4 f5⟩
  self := fun _ _ _ _ _ st h => wpAny_pyIter_striter_ascii st h
theorem turn_strW {P : Program} {w : World} {K : PySem.W.Frag} {tg : Expr} (it : Addr) (z : Str) (t : Tok) : Turn P w K tg (Its z) [it] it (fun i h => h.IsStrIter it "str_iterator" z t i) where
  mem := by simp
  obj := fun i h st b hb => by
    have e : b = it := by simpa using hb
    subst e
    obtain ⟨o, e, c, d⟩ := st
    exact ⟨o, e, fun v z => by rw [d] at z; cases z⟩
  keep := fun i h h' st k => by
    obtain ⟨o, e, r⟩ := st
    exact ⟨o, k it (by simp) o e, r⟩
  item := by
    intro X hP hw hK hc i pins s σ H E I hf st hg
    subst hP hw hK
    obtain ⟨c, h1, h2⟩ := sign_at (z := z) (i := i) hg
    obtain ⟨f0, f1, f2, f3, f4, f5⟩ := hf it (by simp)
    refine wpAny_pyNext_wide_item st h1 fun h' st' sb => ?_
    have I1 : Inv X pins σ H { s with heap := h', toks := s.toks + 1 } := I.turned (t' := s.toks + 1) (fun b o hb e => (sb.2 b hb).trans e) f0 f1 f3 f4 f5
    obtain ⟨o, e, cl, d⟩ := id st'
    exact ⟨_, rfl, go_of (s := { s with heap := h', toks := s.toks + 1 }) e cl d (by decide) ⟨.str ⟨#[c]⟩, H, I1, ⟨_, rfl⟩, ⟨rfl, c, h2, rfl⟩, st', fun b hb => (hf b hb).1⟩⟩
  done := by
    intro X hP hw hK hc i pins s σ H E I hf st hg
    subst hP hw hK
    obtain ⟨f0, f1, f2, f3, f4, f5⟩ := hf it (by simp)
    exact wpAny_pyNext_wide_end (I.ok.hd hc) st (sign_not hg) fun h' eb => ⟨rfl, I.turned (t' := s.toks) (fun b o hb e => eb b o hb e) f0 f1 f3 f4 f5⟩
  self := fun _ _ _ _ _ st h => wpAny_pyIter_striter_wide st h
section
variable {X : Cx} {tg : Expr}
def iStr (tl : TE) : TI := fun σ H R => tl σ H fun x H1 => ∃ z, x = .str z ∧ R (Its z) H1
theorem pi_str {l : Expr} {tl : TE} (hl : PE X l tl) : PI X tg l (iStr tl) := by
  intro pins s σ H R I h
  refine thn (hl pins s σ H _ I h) fun v s1 ⟨x, H1, I1, r1, q1⟩ => ?_
  obtain ⟨z, rfl, q⟩ := q1
  obtain ⟨t, rfl⟩ := r1
  have fp : ∀ b ∈ [s1.heap.objs.size], FpOk X pins H1 b := fun b hb => by
    have e : b = s1.heap.objs.size := by simpa using hb
    subst e
    exact I1.fpOk (Nat.le_refl _) (I1.hok.fresh (Nat.le_refl _))
  cases ha : z.cps.all (· < 128)
  · refine wpAny_pyIter_wide ha ?_
    exact ⟨s1.heap.objs.size, [s1.heap.objs.size], _, _, H1, rfl, I1.kept (t' := s1.toks) fun b o e => Heap.get?_push_of_some _ e, turn_strW _ z t, ⟨_, Heap.get?_push_size _ rfl, rfl, rfl⟩, fp, q⟩
  · refine wpAny_pyIter_ascii ha ?_
    exact ⟨s1.heap.objs.size, [s1.heap.objs.size], _, _, H1, rfl, I1.kept (t' := s1.toks) fun b o e => Heap.get?_push_of_some _ e, turn_strA _ z t, ⟨_, Heap.get?_push_size _ rfl, rfl, rfl⟩, fp, q⟩
end
section
variable {X : Cx}
/-! ### slices of a text -/
def rSlS : V → Option Int → Option Int → Hp → VK → Prop := fun x lo hi H Q => ∃ z, x = .str z ∧ z.length ≤ sizeLine ∧ Q (.str (Txt.slice z lo hi)) H
theorem sl_str : SlR X rSlS := by
  intro pins s σ H x v vl vu lo hi sl Q I rx hs pl pu h
  obtain ⟨z, rfl, hz, q⟩ := h
  obtain ⟨t, rfl⟩ := rx
  refine ⟨"str", _, F.slot_str_getitem.lookup, typeIs_str _ _ _, ?_⟩
  obtain ⟨o, ho, hc, hd⟩ := hs
  cases pl with
  | none =>
    cases pu with
    | none => exact wpAny_getItem_str_slice (l := none) (u := none) (st := none) ⟨o, ho, hc, hd⟩ rfl (post_val_or_str ⟨Nat.le_trans (Txt.slice_le z none none) hz, fun t' k => ⟨.str (Txt.slice z none none), H, I.tok k, ⟨t', rfl⟩, q⟩⟩)
    | int j uj => exact wpAny_getItem_str_slice (l := none) (u := some (j, uj)) (st := none) ⟨o, ho, hc, hd⟩ rfl (post_val_or_str ⟨Nat.le_trans (Txt.slice_le z none (some j)) hz, fun t' k => ⟨.str (Txt.slice z none (some j)), H, I.tok k, ⟨t', rfl⟩, q⟩⟩)
  | int i ui =>
    cases pu with
    | none => exact wpAny_getItem_str_slice (l := some (i, ui)) (u := none) (st := none) ⟨o, ho, hc, hd⟩ rfl (post_val_or_str ⟨Nat.le_trans (Txt.slice_le z (some i) none) hz, fun t' k => ⟨.str (Txt.slice z (some i) none), H, I.tok k, ⟨t', rfl⟩, q⟩⟩)
    | int j uj => exact wpAny_getItem_str_slice (l := some (i, ui)) (u := some (j, uj)) (st := none) ⟨o, ho, hc, hd⟩ rfl (post_val_or_str ⟨Nat.le_trans (Txt.slice_le z (some i) (some j)) hz, fun t' k => ⟨.str (Txt.slice z (some i) (some j)), H, I.tok k, ⟨t', rfl⟩, q⟩⟩)
/-- of a list or a text -/
def rSl (K : PySem.W.Frag) : V → Option Int → Option Int → Hp → VK → Prop := fun x lo hi H Q => rSlL K x lo hi H Q ∨ rSlS x lo hi H Q
theorem sl_any : SlR X (rSl X.K) := sl_list.or sl_str

/-! ### methods of a text -/
def rIndex : V → List V → Hp → VK → Prop := fun x vs H Q => match x, vs with
  | .str z, [.str y] => ∃ i r, Builtin.Str.occurrences z y 0 z.length 1 = i :: r ∧ Q (.int (i : Nat)) H
  | _, _ => False
theorem ix_index {z y : Str} {H : Hp} {Q : VK} : rIndex (.str z) [.str y] H Q ↔ ∃ i r, Builtin.Str.occurrences z y 0 z.length 1 = i :: r ∧ Q (.int (i : Nat)) H := Iff.rfl
theorem mt_index : MtR X "str.index" rIndex := by
  intro pins s σ H x vs v us Q I rx rv h
  unfold rIndex at h
  split at h
  rotate_left
  · exact h.elim
  rename_i z y
  obtain ⟨i, r, ho, q⟩ := h
  obtain ⟨t, rfl⟩ := rx
  obtain ⟨u, rfl, t', rfl⟩ := vals1 rv
  exact SC.index ho ⟨.int (i : Nat), H, I.tok _, ⟨_, rfl⟩, q⟩
theorem notTooLong {n : Nat} (h : n ≤ 1000000) : Builtin.Str.tooLong n = false := by
  unfold Builtin.Str.tooLong
  rw [sizeLine_eq]
  exact decide_eq_false (by omega)
def rUpper : V → List V → Hp → VK → Prop := fun x vs H Q => match x, vs with
  | .str z, [] => (∀ c ∈ z.cps.toList, c < 128) ∧ z.length ≤ 1000000 ∧ Q (.str ⟨z.cps.map up1⟩) H
  | _, _ => False
theorem up_str {z : Str} {H : Hp} {Q : VK} : rUpper (.str z) [] H Q ↔ (∀ c ∈ z.cps.toList, c < 128) ∧ z.length ≤ 1000000 ∧ Q (.str ⟨z.cps.map up1⟩) H := Iff.rfl
def rLower : V → List V → Hp → VK → Prop := fun x vs H Q => match x, vs with
  | .str z, [] => (∀ c ∈ z.cps.toList, c < 128) ∧ z.length ≤ 1000000 ∧ Q (.str ⟨z.cps.map lo1⟩) H
  | _, _ => False
theorem lo_str {z : Str} {H : Hp} {Q : VK} : rLower (.str z) [] H Q ↔ (∀ c ∈ z.cps.toList, c < 128) ∧ z.length ≤ 1000000 ∧ Q (.str ⟨z.cps.map lo1⟩) H := Iff.rfl
def rAlnum : V → List V → Hp → VK → Prop := fun x vs H Q => match x, vs with
  | .str z, [] => Q (.bl (Txt.isalnum z)) H
  | _, _ => False
theorem an_str {z : Str} {H : Hp} {Q : VK} : rAlnum (.str z) [] H Q ↔ Q (.bl (Txt.isalnum z)) H := Iff.rfl
theorem strsAre_of {ys : List Str} : ∀ {us : List Value}, Vals (ys.map V.str) us → StrsAre us ys := by
  induction ys with
  | nil => intro us r; rw [List.map_nil] at r; cases r; exact .nil
  | cons y ys ih =>
    intro us r
    rw [List.map_cons] at r
    cases r with
    | cons r1 r2 =>
      obtain ⟨t, e⟩ := r1
      subst e
      exact .cons y t (ih r2)
/-- sep.join(list of texts) -/
def rJoin (K : PySem.W.Frag) : V → List V → Hp → VK → Prop := fun x vs H Q => ∃ z p ys, x = .str z ∧ vs = [.ref p] ∧ SqL K H p (ys.map V.str) ∧ (ys.map (·.length)).sum + ys.length * z.length ≤ 16777216 ∧ Q (.str (Txt.join z ys)) H
theorem mt_join : MtR X "str.join" (rJoin X.K) := by
  intro pins s σ H x vs v us Q I rx rv h
  obtain ⟨z, p, ys, rfl, rfl, hq, hz, q⟩ := h
  obtain ⟨t, rfl⟩ := rx
  obtain ⟨u, rfl, ru⟩ := vals1 rv
  cases ru
  obtain ⟨its, r, pl, hl⟩ := I.list hq
  exact join_list pl.isList (by simpa using strsAre_of r) hz fun t' k => ⟨.str (Txt.join z ys), H, I.tok k, ⟨t', rfl⟩, q⟩

/-! ### isinstance -/
def rIsi (K : PySem.W.Frag) : List V → Hp → VK → Prop := fun vs H Q => ∃ x T t b, vs = [x, .ty T] ∧ TyOf K H x t ∧ PySem.W.kitOne K t (.type T) = some b ∧ Q (.bl b) H
theorem call_isi : CallR X (.builtin "isinstance") (rIsi X.K) := by
  intro pins s σ H xs us Q I r h
  obtain ⟨x, T, t, b, rfl, ty, e, q⟩ := h
  obtain ⟨u, v, rfl, ru, rv⟩ := vals2 r
  cases (show v = Value.type T from rv)
  exact isinst_ok I ru ty e fun tk => ⟨.bl b, H, I.tok tk, rfl, q⟩

/-! ### one rule for + -/
/-- t + u: a tuple of both, a new one or one that is there -/
def rCatD : R2 := fun x y H Q => ∃ a b xs ys, x = .ref a ∧ y = .ref b ∧ H a = some (.tup xs) ∧ H b = some (.tup ys) ∧ xs.length + ys.length ≤ sizeLine ∧ ∀ p H', Same H H' → H' p = some (.tup (xs ++ ys)) → Q (.ref p) H'
theorem op_catD : OpR X (binaryOp .Add) rCatD := by
  intro pins s σ H x y v u Q I rx ry h
  obtain ⟨a, b, xs, ys, rfl, rfl, ha, hb, hz, q⟩ := h
  by_cases hx : xs = []
  · subst hx
    cases rx
    cases ry
    obtain ⟨its, r1, p1, _⟩ := I.tuple (SqT.of ha)
    obtain ⟨its2, r2, p2, _⟩ := I.tuple (SqT.of hb)
    cases r1
    obtain ⟨⟨cls, dd, data, sl⟩, ho, hc, n, hd⟩ := id p1
    obtain ⟨⟨cls2, dd2, data2, sl2⟩, ho2, hc2, n2, hd2⟩ := id p2
    simp only at hc hd hc2 hd2
    subst hc hd hc2 hd2
    exact concat_meets ⟨_, ho, rfl⟩ ⟨_, ho2, rfl⟩ noFill_tuple_add seq_tuple_add PySem.F.slot_tuple_add PySem.F.entry_tuple_add (PySem.F.args_tuple_add_2 _ _)
      (tuple_addW0 a b ([] : List Value).toArray its2.toArray n n2 dd dd2 sl sl2 rfl) ⟨ho, ho2, ⟨.ref b, H, I, rfl, q b H (Same.refl _) hb⟩⟩
  · refine op_catT pins s σ H _ _ v u Q I rx ry ⟨a, b, xs, ys, rfl, rfl, SqT.of ha, SqT.of hb, hx, hz, fun e => q a H (Same.refl _) (by rw [e, List.append_nil]; exact ha), fun _ p hp => q p _ (fun b o e => by rw [upd_ne (ne_of_none e hp)]; exact e) upd_same⟩
def rAddU (K : PySem.W.Frag) : R2 := fun x y H Q => match x, y with
  | .int i, .int j => Q (.int (i + j)) H
  | .str i, .str j => i.length + j.length ≤ sizeLine ∧ Q (.str (i ++ j)) H
  | .ref a, .ref b => (∃ xs zs, H a = some (.lst xs) ∧ H b = some (.lst zs) ∧ xs.length + zs.length ≤ sizeLine ∧ ∀ p, H p = none → Q (.ref p) (upd H p (.lst (xs ++ zs)))) ∨
      (∃ xs ys, H a = some (.tup xs) ∧ H b = some (.tup ys) ∧ xs.length + ys.length ≤ sizeLine ∧ ∀ p H', Same H H' → H' p = some (.tup (xs ++ ys)) → Q (.ref p) H')
  | _, _ => False
theorem op_addU : OpR X (binaryOp .Add) (rAddU X.K) := by
  intro pins s σ H x y v u Q I rx ry h
  cases x with
  | int i =>
    cases y with
    | int j => exact op_add pins s σ H _ _ v u Q I rx ry ⟨i, j, rfl, rfl, h⟩
    | _ => exact h.elim
  | str i =>
    cases y with
    | str j => exact op_add_str pins s σ H _ _ v u Q I rx ry ⟨i, j, rfl, rfl, h.1, h.2⟩
    | _ => exact h.elim
  | ref a =>
    cases y with
    | ref b =>
      rcases h with ⟨xs, zs, h1, h2, h3, h4⟩ | ⟨xs, ys, h1, h2, h3, h4⟩
      · exact op_cat pins s σ H _ _ v u Q I rx ry ⟨a, b, xs, zs, rfl, rfl, h1, h2, h3, h4⟩
      · exact op_catD pins s σ H _ _ v u Q I rx ry ⟨a, b, xs, ys, rfl, rfl, h1, h2, h3, h4⟩
    | _ => exact h.elim
  | _ => exact h.elim
theorem ad_int {K : PySem.W.Frag} {i j : Int} {H : Hp} {Q : VK} : rAddU K (.int i) (.int j) H Q ↔ Q (.int (i + j)) H := Iff.rfl
theorem ad_str {K : PySem.W.Frag} {i j : Str} {H : Hp} {Q : VK} : rAddU K (.str i) (.str j) H Q ↔ i.length + j.length ≤ sizeLine ∧ Q (.str (i ++ j)) H := Iff.rfl
end

/-! ### one rule for *, len, ord, int, in, isinstance -/
section
variable {X : Cx}
def rMulU : R2 := fun x y H Q => match x, y with
  | .int i, .int j => CMul i j ∧ Q (.int (i * j)) H
  | .str z, .int k => MulOk z k ∧ Q (.str (Txt.mul z k)) H
  | _, _ => False
theorem op_mulU : OpR X (binaryOp .Mult) rMulU := by
  intro pins s σ H x y v u Q I rx ry h
  cases x with
  | int i =>
    cases y with
    | int j => exact op_mul pins s σ H _ _ v u Q I rx ry ⟨i, j, rfl, rfl, h.1, h.2⟩
    | _ => exact h.elim
  | str z =>
    cases y with
    | int k =>
      obtain ⟨t, rfl⟩ := rx
      obtain ⟨t', rfl⟩ := ry
      exact SB.mul h.1 fun t' k' => ⟨.str (Txt.mul z k), H, I.tok k', ⟨t', rfl⟩, h.2⟩
    | _ => exact h.elim
  | _ => exact h.elim
theorem mu_int {i j : Int} {H : Hp} {Q : VK} : rMulU (.int i) (.int j) H Q ↔ CMul i j ∧ Q (.int (i * j)) H := Iff.rfl
theorem mu_str {z : Str} {k : Int} {H : Hp} {Q : VK} : rMulU (.str z) (.int k) H Q ↔ MulOk z k ∧ Q (.str (Txt.mul z k)) H := Iff.rfl

def rLenU (K : PySem.W.Frag) : List V → Hp → VK → Prop := fun xs H Q => match xs with
  | [.str z] => z.length ≤ sizeLine ∧ Q (.int z.length) H
  | [.ref p] => ∃ ys, (SqL K H p ys ∨ SqT K H p ys) ∧ Q (.int ys.length) H
  | _ => False
theorem call_lenU : CallR X (.builtin "len") (rLenU X.K) := by
  intro pins s σ H xs us Q I r h
  unfold rLenU at h
  split at h
  · exact call_len_str pins s σ H _ us Q I r ⟨_, rfl, h.1, h.2⟩
  · obtain ⟨ys, h1, h2⟩ := h
    exact call_len_seq pins s σ H _ us Q I r ⟨_, ys, rfl, h1, h2⟩
  · exact h.elim
theorem le_str {K : PySem.W.Frag} {z : Str} {H : Hp} {Q : VK} : rLenU K [.str z] H Q ↔ z.length ≤ sizeLine ∧ Q (.int z.length) H := Iff.rfl
theorem le_ref {K : PySem.W.Frag} {p : Addr} {H : Hp} {Q : VK} : rLenU K [.ref p] H Q ↔ ∃ ys, (SqL K H p ys ∨ SqT K H p ys) ∧ Q (.int ys.length) H := Iff.rfl

def rOrdU : List V → Hp → VK → Prop := fun xs H Q => match xs with
  | [.str z] => z.length = 1 ∧ Q (.int (z.cps.getD 0 0 : Nat)) H
  | _ => False
theorem or_one {c : Nat} {H : Hp} {Q : VK} : rOrdU [.str ⟨#[c]⟩] H Q ↔ Q (.int (c : Nat)) H := ⟨fun h => h.2, fun h => ⟨rfl, h⟩⟩
theorem bt_int : bootBuiltins "int" = some (.type "int") := by decide +kernel
theorem bt_str : bootBuiltins "str" = some (.type "str") := by decide +kernel
theorem bt_bool : bootBuiltins "bool" = some (.type "bool") := by decide +kernel
theorem bt_tuple : bootBuiltins "tuple" = some (.type "tuple") := by decide +kernel
theorem boot_isinstance : bootBuiltins "isinstance" = some (.builtin "isinstance") := by decide +kernel

def rIntU : List V → Hp → VK → Prop := fun xs H Q => match xs with
  | [.int i] => Q (.int i) H
  | [.bl k] => Q (.int (if k then 1 else 0)) H
  | _ => False
theorem in_bl {k : Bool} {H : Hp} {Q : VK} : rIntU [.bl k] H Q ↔ Q (.int (if k then 1 else 0)) H := Iff.rfl

def rInU : R2 := fun x y H Q => match x, y with
  | .str i, .str j => Q (.bl (!(Builtin.Str.occurrences j i 0 j.length 1).isEmpty)) H
  | _, _ => False
theorem op_inU : OpR X (compareOp .In) rInU := by
  intro pins s σ H x y v u Q I rx ry h
  cases x with
  | str i =>
    cases y with
    | str j => exact op_in_str pins s σ H _ _ v u Q I rx ry ⟨i, j, rfl, rfl, h⟩
    | _ => exact h.elim
  | _ => exact h.elim
def rNotInU : R2 := fun x y H Q => match x, y with
  | .str i, .str j => Q (.bl (!(!(Builtin.Str.occurrences j i 0 j.length 1).isEmpty))) H
  | _, _ => False
theorem in_one {c : Nat} {j : Str} {H : Hp} {Q : VK} : rInU (.str ⟨#[c]⟩) (.str j) H Q ↔ Q (.bl (decide (c ∈ j.cps.toList))) H := by
  show Q (.bl (!(Builtin.Str.occurrences j ⟨#[c]⟩ 0 j.length 1).isEmpty)) H ↔ _
  rw [StrLaws.found_one]
theorem notin_one {c : Nat} {j : Str} {H : Hp} {Q : VK} : rNotInU (.str ⟨#[c]⟩) (.str j) H Q ↔ Q (.bl (!decide (c ∈ j.cps.toList))) H := by
  show Q (.bl (!(!(Builtin.Str.occurrences j ⟨#[c]⟩ 0 j.length 1).isEmpty))) H ↔ _
  rw [StrLaws.found_one]

def rIsN (neg : Bool) : R2 := fun x y H Q => y = .non ∧ Q (.bl (if neg then !decide (x = .non) else decide (x = .non))) H
theorem op_isNU : OpR X (compareOp .Is) (rIsN false) := fun pins s σ H x y v u Q I rx ry h => op_isN pins s σ H x y v u Q I rx ry h
theorem op_notNU : OpR X (compareOp .IsNot) (rIsN true) := fun pins s σ H x y v u Q I rx ry h => op_notN pins s σ H x y v u Q I rx ry h
theorem isN_f {x : V} {H : Hp} {Q : VK} : rIsN false x .non H Q ↔ Q (.bl (decide (x = .non))) H := ⟨fun h => h.2, fun h => ⟨rfl, h⟩⟩
theorem isN_t {x : V} {H : Hp} {Q : VK} : rIsN true x .non H Q ↔ Q (.bl (!decide (x = .non))) H := ⟨fun h => h.2, fun h => ⟨rfl, h⟩⟩

/-- the kind of a value -/
def kindV (x : V) (H : Hp) : Option String := match x with
  | .non => some "NoneType"
  | .bl _ => some "bool"
  | .int _ => some "int"
  | .str _ => some "str"
  | .ref a => match H a with
    | some (.lst _) => some "list"
    | some (.tup _) => some "tuple"
    | _ => none
  | _ => none
def subT (a b : String) : Bool := a == b || (a == "bool" && b == "int")
theorem kit_tab (K : PySem.W.Frag) : ∀ a ∈ ["NoneType", "bool", "int", "str", "list", "tuple"], ∀ b ∈ ["bool", "int", "str", "list", "tuple"], PySem.W.kitOne K (.type a) (.type b) = some (subT a b) := by
  intro a ha b hb
  simp only [List.mem_cons, List.not_mem_nil, or_false] at ha hb
  rcases ha with rfl | rfl | rfl | rfl | rfl | rfl <;> rcases hb with rfl | rfl | rfl | rfl | rfl <;> with_unfolding_all kernel_rfl
def rIsiU : List V → Hp → VK → Prop := fun vs H Q => match vs with
  | [x, .ty T] => ∃ k, kindV x H = some k ∧ T ∈ ["bool", "int", "str", "list", "tuple"] ∧ Q (.bl (subT k T)) H
  | _ => False
theorem call_isiU : CallR X (.builtin "isinstance") rIsiU := by
  intro pins s σ H xs us Q I r h
  unfold rIsiU at h
  split at h
  · rename_i x T
    obtain ⟨k, hk, hT, q⟩ := h
    have key : TyOf X.K H x (.type k) ∧ k ∈ ["NoneType", "bool", "int", "str", "list", "tuple"] := by
      unfold kindV at hk
      split at hk
      · cases hk; exact ⟨.non, by decide⟩
      · cases hk; exact ⟨.bl _, by decide⟩
      · cases hk; exact ⟨.int _, by decide⟩
      · cases hk; exact ⟨.str _, by decide⟩
      · split at hk
        · rename_i e; cases hk; exact ⟨.lst e, by decide⟩
        · rename_i e; cases hk; exact ⟨.tup e, by decide⟩
        · cases hk
      · cases hk
    exact call_isi pins s σ H _ us Q I r ⟨x, T, .type k, subT k T, rfl, key.1, kit_tab X.K k key.2 T hT, q⟩
  · exact h.elim
end

/-! ### the readings, in full -/
section
variable {σ : St} {H : Hp} {Q : VK} {D : Ends} {K : PySem.W.Frag} {ta tb te : TE} {tt tu : TT} {t u : TS} {aa ab : TA} {v x y : V} {r r' : R2}
theorem rd_var {i : Nat} : tVar i σ H Q ↔ ∃ v, σ[i]? = some (some v) ∧ Q v H := Iff.rfl
theorem rd_C : tC v σ H Q ↔ Q v H := Iff.rfl
theorem rd_seq : tSeq t u D σ H ↔ t { D with nx := u D } σ H := Iff.rfl
theorem rd_asg {g : TG} : tAsg te g D σ H ↔ te σ H fun x H1 => g x σ H1 D.nx := Iff.rfl
theorem rd_name {i : Nat} {R : St → Hp → Prop} : gName i v σ H R ↔ R (σ.set i (some v)) H := Iff.rfl
theorem rd_ifS : tIfS tt t u D σ H ↔ tt σ H fun b H1 => if b = true then t D σ H1 else u D σ H1 := Iff.rfl
theorem rd_next : tNext D σ H ↔ D.nx σ H := Iff.rfl
theorem rd_brk : tBreak D σ H ↔ D.bk σ H := Iff.rfl
theorem rd_ret : tRet te D σ H ↔ te σ H D.rt := Iff.rfl
theorem rd_drop : tDrop te D σ H ↔ te σ H fun _ H1 => D.nx σ H1 := Iff.rfl
theorem rd_op : tOp r ta tb σ H Q ↔ ta σ H fun x H1 => tb σ H1 fun y H2 => r x y H2 Q := Iff.rfl
theorem rd_test {R : Bool → Hp → Prop} : tTest te σ H R ↔ te σ H fun x H' => ∃ k, x = .bl k ∧ R k H' := Iff.rfl
theorem rd_B {R : Bool → Hp → Prop} : tB te σ H R ↔ te σ H fun x H' => ∃ k, x = .bl k ∧ R k H' := Iff.rfl
theorem rd_and {R : Bool → Hp → Prop} : tAnd tt tu σ H R ↔ tt σ H fun c H1 => if c = true then tu σ H1 R else R false H1 := Iff.rfl
theorem rd_or {R : Bool → Hp → Prop} : tOr tt tu σ H R ↔ tt σ H fun c H1 => if c = true then R true H1 else tu σ H1 R := Iff.rfl
theorem rd_not {R : Bool → Hp → Prop} : tNot tt σ H R ↔ tt σ H fun c H1 => R (!c) H1 := Iff.rfl
theorem rd_andV : tAndV ta tb σ H Q ↔ ta σ H fun x H1 => ∃ c, x = .bl c ∧ if c = true then tb σ H1 Q else Q (.bl false) H1 := Iff.rfl
theorem rd_orV : tOrV ta tb σ H Q ↔ ta σ H fun x H1 => ∃ c, x = .bl c ∧ if c = true then Q (.bl true) H1 else tb σ H1 Q := Iff.rfl
theorem rd_notV : tNotV ta σ H Q ↔ ta σ H fun x H1 => ∃ c, x = .bl c ∧ Q (.bl (!c)) H1 := Iff.rfl
theorem rd_if : tIf tt ta tb σ H Q ↔ tt σ H fun c H1 => if c = true then ta σ H1 Q else tb σ H1 Q := Iff.rfl
theorem rd_chain {tc : TE} : tChain r r' ta tb tc σ H Q ↔ ta σ H fun x H1 => tb σ H1 fun y H2 => r x y H2 fun z H3 => ∃ k, z = .bl k ∧ (if k = true then tc σ H3 fun w' H4 => r' y w' H4 Q else Q (.bl false) H3) := Iff.rfl
theorem rd_nil {R : List V → Hp → Prop} : tNil σ H R ↔ R [] H := Iff.rfl
theorem rd_cons {R : List V → Hp → Prop} : tCons te aa σ H R ↔ te σ H fun x H1 => aa σ H1 fun xs H2 => R (x :: xs) H2 := Iff.rfl
theorem rd_lst : tLst aa σ H Q ↔ aa σ H fun xs H1 => xs.length ≤ sizeLine ∧ ∀ p, H1 p = none → Q (.ref p) (upd H1 p (.lst xs)) := Iff.rfl
theorem rd_tup : tTup aa σ H Q ↔ aa σ H fun xs H1 => xs.length ≤ sizeLine ∧ ∀ p, H1 p = none → Q (.ref p) (upd H1 p (.tup xs)) := Iff.rfl
theorem rd_call {sp : Sp} {dvs : List V} {E : XK} : tCall sp dvs E aa σ H Q ↔ aa σ H fun vs H1 => sp (vs ++ dvs) H1 Q E := Iff.rfl
theorem rd_cb {c : List V → Hp → VK → Prop} : tCB c aa σ H Q ↔ aa σ H fun vs H1 => c vs H1 Q := Iff.rfl
theorem rd_bm {T : String} {m : V → List V → Hp → VK → Prop} : tBM K T m te aa σ H Q ↔ te σ H fun x H1 => tyV K T x H1 ∧ aa σ H1 fun xs H2 => m x xs H2 Q := Iff.rfl
theorem rd_bm0 {T : String} {m : V → List V → Hp → VK → Prop} : tBM0 K T m te σ H Q ↔ te σ H fun x H1 => tyV K T x H1 ∧ m x [] H1 Q := Iff.rfl
theorem rd_sl {m : V → Option Int → Option Int → Hp → VK → Prop} {tl th : TO} : tSl m te tl th σ H Q ↔ te σ H fun x H1 => tl σ H1 fun l H2 => th σ H2 fun u H3 => m x l u H3 Q := Iff.rfl
theorem rd_noPart {R : Option Int → Hp → Prop} : tNoPart σ H R ↔ R none H := Iff.rfl
theorem rd_part {R : Option Int → Hp → Prop} : tPart te σ H R ↔ te σ H fun x H1 => ∃ i, x = .int i ∧ R (some i) H1 := Iff.rfl
theorem rd_tyStr {z : Str} : tyV K "str" (.str z) H ↔ True := ⟨fun _ => trivial, fun _ => rfl⟩
theorem rd_I {C : Int → Int → Prop} {g : Int → Int → V} {i j : Int} : rI C g (.int i) (.int j) H Q ↔ C i j ∧ Q (g i j) H :=
  ⟨fun ⟨_, _, h1, h2, h3⟩ => by cases h1; cases h2; exact h3, fun h => ⟨i, j, rfl, rfl, h⟩⟩
theorem rd_I0 {g : Int → Int → V} {i j : Int} : rI0 g (.int i) (.int j) H Q ↔ Q (g i j) H :=
  ⟨fun ⟨_, _, h1, h2, h3⟩ => by cases h1; cases h2; exact h3, fun h => ⟨i, j, rfl, rfl, h⟩⟩
theorem rd_eqII {i j : Int} : rEq (.int i) (.int j) H Q ↔ Q (.bl (decide (i = j))) H := by
  unfold rEq scal; simp only [true_and, V.int.injEq]
theorem rd_eqSS {i j : Str} : rEq (.str i) (.str j) H Q ↔ Q (.bl (decide (i = j))) H := by
  unfold rEq scal; simp only [true_and, V.str.injEq]
theorem rd_eqBB {i j : Bool} : rEq (.bl i) (.bl j) H Q ↔ Q (.bl (decide (i = j))) H := by
  unfold rEq scal; simp only [true_and, V.bl.injEq]
theorem rd_neII {i j : Int} : rNe (.int i) (.int j) H Q ↔ Q (.bl (!decide (i = j))) H := by
  unfold rNe scal; simp only [true_and, V.int.injEq]
theorem rd_neSS {i j : Str} : rNe (.str i) (.str j) H Q ↔ Q (.bl (!decide (i = j))) H := by
  unfold rNe scal; simp only [true_and, V.str.injEq]
theorem rd_neBB {i j : Bool} : rNe (.bl i) (.bl j) H Q ↔ Q (.bl (!decide (i = j))) H := by
  unfold rNe scal; simp only [true_and, V.bl.injEq]
theorem rd_neNN : rNe .non .non H Q ↔ Q (.bl false) H := ⟨fun h => h.2, fun h => ⟨rfl, h⟩⟩
theorem rd_neSN {i : Str} : rNe (.str i) .non H Q ↔ Q (.bl true) H := ⟨fun h => h.2, fun h => ⟨rfl, h⟩⟩
theorem rd_neNSx {i : Str} : rNe .non (.str i) H Q ↔ Q (.bl true) H := ⟨fun h => h.2, fun h => ⟨rfl, h⟩⟩
theorem rd_eqNN : rEq .non .non H Q ↔ Q (.bl true) H := ⟨fun h => h.2, fun h => ⟨rfl, h⟩⟩
theorem rd_eqSN {i : Str} : rEq (.str i) .non H Q ↔ Q (.bl false) H := ⟨fun h => h.2, fun h => ⟨rfl, h⟩⟩
theorem rd_eqNSx {i : Str} : rEq .non (.str i) H Q ↔ Q (.bl false) H := ⟨fun h => h.2, fun h => ⟨rfl, h⟩⟩
theorem rd_ixS {z : Str} {i : Int} : rIx K (.str z) (.int i) H Q ↔ ∃ c, z.length ≤ sizeLine ∧ atI z.cps.toList i = some c ∧ Q (.str ⟨#[c]⟩) H := by
  constructor
  · rintro (⟨p, xs, j, v, h, _⟩ | ⟨p, xs, j, v, h, _⟩ | ⟨z', j, c, h1, h2, h3, h4, h5⟩)
    · cases h
    · cases h
    · cases h1; cases h2; exact ⟨c, h3, h4, h5⟩
  · rintro ⟨c, h3, h4, h5⟩
    exact .inr (.inr ⟨z, i, c, rfl, rfl, h3, h4, h5⟩)
theorem rd_slS {z : Str} {lo hi : Option Int} : rSl K (.str z) lo hi H Q ↔ z.length ≤ sizeLine ∧ Q (.str (Txt.slice z lo hi)) H := by
  constructor
  · rintro (⟨a, xs, h, _⟩ | ⟨z', h1, h2, h3⟩)
    · cases h
    · cases h1; exact ⟨h2, h3⟩
  · rintro ⟨h2, h3⟩
    exact .inr ⟨z, rfl, h2, h3⟩
end
section
variable {σ : St} {H : Hp} {Q : VK} {K : PySem.W.Frag}
theorem rd_slL {a : Addr} {lo hi : Option Int} : rSl K (.ref a) lo hi H Q ↔ ∃ xs, SqL K H a xs ∧ ∀ p, H p = none → Q (.ref p) (upd H p (.lst (cutV xs lo hi))) := by
  constructor
  · rintro (⟨a', xs, h, h2⟩ | ⟨z', h1, _⟩)
    · cases h; exact ⟨xs, h2⟩
    · cases h1
  · rintro ⟨xs, h2⟩
    exact .inl ⟨a, xs, rfl, h2⟩
theorem rd_ixR {p : Addr} {i : Int} : rIx K (.ref p) (.int i) H Q ↔ ∃ xs v, (SqL K H p xs ∨ SqT K H p xs) ∧ atI xs i = some v ∧ Q v H := by
  constructor
  · rintro (⟨p', xs, j, v, h, h2, h3, h4⟩ | ⟨p', xs, j, v, h, h2, h3, h4⟩ | ⟨z', j, c, h1, _⟩)
    · cases h; cases h2; exact ⟨xs, v, .inl h3, h4⟩
    · cases h; cases h2; exact ⟨xs, v, .inr h3, h4⟩
    · cases h1
  · rintro ⟨xs, v, h | h, h2⟩
    · exact .inl ⟨p, xs, i, v, rfl, rfl, h, h2⟩
    · exact .inr (.inl ⟨p, xs, i, v, rfl, rfl, h, h2⟩)
theorem ad_ref {a b : Addr} : rAddU K (.ref a) (.ref b) H Q ↔ (∃ xs zs, H a = some (.lst xs) ∧ H b = some (.lst zs) ∧ xs.length + zs.length ≤ sizeLine ∧ ∀ p, H p = none → Q (.ref p) (upd H p (.lst (xs ++ zs)))) ∨
      (∃ xs ys, H a = some (.tup xs) ∧ H b = some (.tup ys) ∧ xs.length + ys.length ≤ sizeLine ∧ ∀ p H', Same H H' → H' p = some (.tup (xs ++ ys)) → Q (.ref p) H') := Iff.rfl
theorem cx_K {CX : CXT} {P : Program} {w : World} {mg : Str → Option Value} {base : Heap} {N : List Str} {qual : Str} {scope : Scope} {f : Addr} {cd : Value} {A : Around} {outer : List Env} {s : Shared} {E : XK} :
    (cxOf CX P w K mg base N qual scope f cd A outer s H E).K = K := rfl
end
/-! ### loops as one word -/
def LoopI (J : It) (g : TG) (tb : TS) (D : Ends) (σ : St) (H : Hp) : Prop := ∃ W : Nat → Nat → St → Hp → Prop, (∃ m, W 0 m σ H) ∧ ∀ i m σ H, W i m σ H →
  (J.stop i H ∧ D.nx σ H) ∨ (J.go i H ∧ ∃ N : St → Hp → Prop, (∀ σ' H', N σ' H' → ∃ m', m' < m ∧ W (i + 1) m' σ' H') ∧ ∀ x H', J.yld i H x H' → g x σ H' fun σ2 H2 => tb { D with nx := N, ct := N, bk := D.nx } σ2 H2)
section
variable {σ : St} {H : Hp} {D : Ends} {K : PySem.W.Frag} {te : TE} {g : TG} {tb : TS} {aa : TA}
theorem rd_forS : tFor (iStr te) g tb D σ H ↔ te σ H fun x H1 => ∃ z, x = .str z ∧ LoopI (Its z) g tb D σ H1 := Iff.rfl
theorem rd_forL : tFor (iList K te) g tb D σ H ↔ te σ H fun x H1 => ∃ a, x = .ref a ∧ (∃ xs, SqL K H1 a xs) ∧ LoopI (Itl K a) g tb D σ H1 := Iff.rfl
theorem rd_forR : tFor (iRng1 aa) g tb D σ H ↔ aa σ H fun vs H1 => ∃ j : Int, vs = [.int j] ∧ -(2 ^ 62) ≤ j ∧ j < 2 ^ 62 ∧ LoopI (Itr 0 j.toNat) g tb D σ H1 := Iff.rfl
theorem loop_list {a : Addr} {xs : List V} (Pv : Nat → St → Hp → Prop) (h0 : Pv 0 σ H) (hl : ∀ i σ H, i ≤ xs.length → Pv i σ H → SqL K H a xs)
    (hs : ∀ i x σ H, xs[i]? = some x → Pv i σ H → g x σ H fun σ2 H2 => tb { D with nx := Pv (i + 1), ct := Pv (i + 1), bk := D.nx } σ2 H2) (hd : ∀ σ H, Pv xs.length σ H → D.nx σ H) : LoopI (Itl K a) g tb D σ H := for_list Pv h0 hl hs hd
end
end L2
/-! COMPREHENSIONS of one for over the hand layer: the block has a context of its own, its free names are cells of the def around it. -/
namespace L2
open PySem PySem.Spec PyProof.Rows

section
variable {prog : Program} {w : World} {A : Around} {R : Result → Shared → Prop} {s : Shared}
theorem compLoop_any {elt target iter : Expr} {ifs : List Expr} {scope : Scope} {pos : Pos} {it acc : Value} {env : Env} (I : Nat → Shared → Prop)
    (turn : ∀ n s, I n s → wpAny (model prog w) A (pyNext it) (fun r s₁ => match r with
      | none => R (.ok .next) s₁
      | some v => wpAny (model prog w) A (letOwnedTupleGo target it v) (fun _ s₁' => wpAny (model prog w) A (assign target env v) (fun _ s₂ =>
          wpAny (model prog w) A (forIn ifs true fun c r => if r = true then do let ok ← isTrue c env (eval c env); pure (ForInStep.yield ok) else pure (ForInStep.yield r)) (fun ok s₃ =>
            if ok = true then wpAny (model prog w) A (eval elt env) (fun x s₄ =>
              wpAny (model prog w) A (call (.builtin "list.append") [acc, x]) (fun _ s₅ => ∃ m, m < n ∧ I m s₅) (fun _ _ => False) s₄) (fun _ _ => False) s₃
            else ∃ m, m < n ∧ I m s₃) (fun _ _ => False) s₂) (fun _ _ => False) s₁') (fun _ _ => False) s₁) (fun _ _ => False) s)
    (n : Nat) (h : I n s) : codeAny (model prog w) A (.compLoop (.ListComp elt [⟨target, iter, ifs, 0⟩] scope pos) 0 it acc env) R s := by
  refine codeAny_loop rfl I (fun n s hI => ?_) n h
  show wpAny _ A ((compTurn (.ListComp elt [⟨target, iter, ifs, 0⟩] scope pos) 0 it acc env).onRaise (fun x => do noteFrame x env; theTreesLotGoes x)) _ _ s
  refine wpAny_noted ?_
  rw [compTurn_list]
  refine wpAny_bind (wpAny_standAt (wpAny_bind (wpAny_mono (turn n s hI) (fun r s₁ h₁ => ?_) fun _ _ h' => h'.elim)))
  cases r with
  | none => exact wpAny_pure h₁
  | some v =>
    refine wpAny_bind (wpAny_mono h₁ (fun _ s₁' h₁' => wpAny_bind (wpAny_mono h₁' (fun _ s₂ h₂ => wpAny_bind (wpAny_mono h₂ (fun ok s₃ h₃ => ?_) fun _ _ h' => h'.elim)) fun _ _ h' => h'.elim)) fun _ _ h' => h'.elim)
    cases ok with
    | false => exact wpAny_pure ⟨rfl, h₃⟩
    | true =>
      exact wpAny_bind (wpAny_bind (wpAny_mono h₃ (fun x s₄ h₄ => wpAny_bind (wpAny_mono h₄ (fun _ s₅ h₅ => wpAny_pure (wpAny_pure ⟨rfl, h₅⟩)) fun _ _ h' => h'.elim)) fun _ _ h' => h'.elim))
end

/-- the context of the block -/
def compCx (X : Cx) (N' : List Str) (scope : Scope) (cl : List (Str × Addr)) (s : Shared) (H : Hp) (fp : List Addr) : Cx :=
  { X with N := N', s₀ := s, H₀ := H, env := compEnvC scope cl s.heap.objs.size X.env, outer := X.stack, stack := X.stack, ex := fp, fn := fun _ => false, pn := [], xe := fun _ _ => False }
/-- the free names of the block: where they stand in the def around it -/
inductive Frees (X : Cx) (rs : Scope) (cl : List (Str × Addr)) : List Str → List Nat → Prop where
  | nil : Frees X rs cl [] []
  | cons {y : Str} {i : Nat} {fx : List Str} {fr : List Nat} (h1 : X.N[i]? = some y) (h2 : X.env.kindOf y = some .cell) (h3 : rs.names.lookup y = some .cell) (h4 : cl.lookup y = X.env.cells.lookup y) (r : Frees X rs cl fx fr) : Frees X rs cl (y :: fx) (i :: fr)
def frV (σ : St) (fr : List Nat) : St := fr.map fun i => (σ[i]?).getD none
theorem Frees.len {X : Cx} {rs : Scope} {cl : List (Str × Addr)} {fx : List Str} {fr : List Nat} (F : Frees X rs cl fx fr) : fr.length = fx.length := by
  induction F with
  | nil => rfl
  | cons _ _ _ _ _ ih => simp [ih]
theorem Frees.at {X : Cx} {rs : Scope} {cl : List (Str × Addr)} {σ : St} : ∀ {fx : List Str} {fr : List Nat}, Frees X rs cl fx fr → ∀ (j : Nat) (y : Str) (v : V), fx[j]? = some y → (frV σ fr)[j]? = some (some v) →
    ∃ i : Nat, X.N[i]? = some y ∧ σ[i]? = some (some v) ∧ X.env.kindOf y = some .cell ∧ rs.names.lookup y = some .cell ∧ cl.lookup y = X.env.cells.lookup y
  | _, _, .nil, j, y, v, h, _ => by simp at h
  | _, _, .cons (y := z) (i := i) h1 h2 h3 h4 r, 0, y, v, h, hv => by
    simp only [List.getElem?_cons_zero, Option.some.injEq] at h
    subst h
    simp only [frV, List.map_cons, List.getElem?_cons_zero, Option.some.injEq] at hv
    refine ⟨i, h1, ?_, h2, h3, h4⟩
    cases e : σ[i]? with
    | none => rw [e] at hv; cases hv
    | some o => rw [e] at hv; exact congrArg some hv
  | _, _, .cons h1 h2 h3 h4 r, j + 1, y, v, h, hv => by
    simp only [List.getElem?_cons_succ] at h
    simp only [frV, List.map_cons, List.getElem?_cons_succ] at hv
    exact r.at j y v h hv
theorem Frees.mem {X : Cx} {rs : Scope} {cl : List (Str × Addr)} : ∀ {fx : List Str} {fr : List Nat}, Frees X rs cl fx fr → ∀ y ∈ fx, X.env.kindOf y = some .cell ∧ cl.lookup y = X.env.cells.lookup y
  | _, _, .nil, y, h => by simp at h
  | _, _, .cons h1 h2 h3 h4 r, y, h => by
    rcases List.mem_cons.mp h with rfl | h
    · exact ⟨h2, h4⟩
    · exact r.mem y h

section
variable {X : Cx} {pins : List (Addr × Obj)} {σ : St} {H1 : Hp} {s3 : Shared} {x : Str} {fx : List Str} {fr : List Nat} {scope : Scope} {cl : List (Str × Addr)} {fp : List Addr}
theorem comp_ok (I : Inv X pins σ H1 s3) (hkind : scope.kind = .function) (hcl : ∀ y c, cl.lookup y = some c → X.env.cells.lookup y = some c)
    (F : Frees X (relabel scope X.env) cl fx fr) (hfx : ((relabel scope X.env).names.all fun p => if (p.2 == .cell || p.2 == .free) then fx.contains p.1 else true) = true)
    (ffp : ∀ b ∈ fp, FpOk X pins H1 b) (flt : ∀ b ∈ fp, b < s3.heap.objs.size) : (compCx X (x :: fx) scope cl s3 H1 fp).Ok where
  mod := I.ok.mod
  kind := hkind
  glob := I.ok.glob
  blt := I.ok.blt
  above := Nat.le_refl _
  inj := fun y z c h1 h2 => I.ok.inj y z c (hcl y c h1) (hcl z c h2)
  has := fun y h => by
    have h : (relabel scope X.env).names.lookup y = some .cell ∨ (relabel scope X.env).names.lookup y = some .free := h
    have key : y ∈ fx := by
      rcases h with h | h
      · have q := List.all_eq_true.mp hfx _ (PySem.mem_of_lookup h)
        simpa using q
      · have q := List.all_eq_true.mp hfx _ (PySem.mem_of_lookup h)
        simpa using q
    obtain ⟨k1, k2⟩ := F.mem y key
    obtain ⟨c, e⟩ := I.ok.has y (.inl k1)
    exact ⟨c, k2.trans e⟩
  cab := fun y c h => by cases (show false = true from h)
  hd := I.ok.hd
  frames := I.ok.frames
  stk := .inl rfl
  exf := fun b hb => ⟨Nat.ne_of_lt (flt b hb), fun y c e => (ffp b hb).2.2.2.2.1 y c (hcl y c e)⟩
  bs := I.bs
  bsz := Nat.le_trans I.ok.bsz I.sz
  noex := fun b o e hb => by
    rcases (ffp b hb).2.2.2.1 with z | z
    · exact I.ok.noex b o e z
    · exact absurd (Nat.lt_of_lt_of_le (Heap.lt_size (I.ok.bs b o e).1) z) (Nat.lt_irrefl _)
  exfs := fun b hb z => by
    rcases List.mem_cons.mp (I.stkSub b z) with q | q
    · exact (ffp b hb).2.1 q
    · exact (ffp b hb).2.2.1 q
  funs := I.stack
  frf := I.stkFree
theorem comp_start (I : Inv X pins σ H1 s3) (hkind : scope.kind = .function) (hcl : ∀ y c, cl.lookup y = some c → X.env.cells.lookup y = some c)
    (F : Frees X (relabel scope X.env) cl fx fr) (hfx : ((relabel scope X.env).names.all fun p => if (p.2 == .cell || p.2 == .free) then fx.contains p.1 else true) = true)
    (ffp : ∀ b ∈ fp, FpOk X pins H1 b) (flt : ∀ b ∈ fp, b < s3.heap.objs.size) {h1 : Heap} {t : Nat} {m : Str → Option Value} (hn : h1.Ns s3.heap.objs.size m)
    (keep : ∀ b u, s3.heap.get? b = some u → h1.get? b = some u) : Inv (compCx X (x :: fx) scope cl s3 H1 fp) [] (none :: frV σ fr) H1 { s3 with heap := h1, toks := t } := by
  refine ⟨comp_ok I hkind hcl F hfx ffp flt, rfl, I.bare, Un.kept keep, ⟨m, hn, fun i y v e1 e2 e3 => ?_⟩, fun y c e => ?_, I.hok.fresh (Nat.le_refl _), fun y c e => I.freeC y c (hcl y c e), fun p hp => absurd (show p ∈ ([] : List (Addr × Obj)) from hp) (by simp), I.hok.kept keep, ?_⟩
  · cases i with
    | zero => simp at e2
    | succ j =>
      obtain ⟨i0, k1, k2, k3, k4, k5⟩ := F.at (σ := σ) j y v (by simpa [compCx] using e1) (by simpa using e2)
      obtain ⟨m0, hn0, hl0⟩ := I.loc
      obtain ⟨u, r, l⟩ := hl0 i0 y v k1 k2 (.inr (.inl k3))
      refine ⟨u, r, ?_⟩
      rcases l with ⟨z, _⟩ | ⟨_, c, e, o, ho, hd⟩
      · rw [k3] at z; cases z
      · exact .inr ⟨.inl k4, c, k5.trans e, o, keep c o ho, hd⟩
  · obtain ⟨v, o, ho, hd⟩ := I.cell y c (hcl y c e)
    exact ⟨v, o, keep c o ho, hd⟩
  · show (none :: frV σ fr).length = (x :: fx).length
    simp [frV, F.len]
theorem comp_done {N' : List Str} {pins' : List (Addr × Obj)} {σ' : St} {H2 : Hp} {s' : Shared} {h' : Heap} (I : Inv X pins σ H1 s3) (J : Inv (compCx X N' scope cl s3 H1 fp) pins' σ' H2 s') (ffp : ∀ b ∈ fp, FpOk X pins H1 b)
    (sb : Heap.SameBut s3.heap.objs.size s'.heap h') : Inv X pins σ H2 { s' with heap := h' } := by
  have k : ∀ b u, b ≠ s3.heap.objs.size → s'.heap.get? b = some u → h'.get? b = some u := fun b u hb e => sb.extBut b u hb e
  have lt : ∀ b u, s3.heap.get? b = some u → b ≠ s3.heap.objs.size := fun b u e => Nat.ne_of_lt (Heap.lt_size e)
  have u : Un (frs X.stack) fp H1 H2 s3.heap s'.heap := J.base
  have u' : Un (frs X.stack) fp H1 H2 s3.heap h' :=
    ⟨fun b o q n hb hx => k b o (lt b o q) (u.keep b o q n hb hx), fun b o q n hb hx => by
        obtain ⟨sl, e⟩ := u.slot b o q n hb hx
        exact ⟨sl, k b _ (lt b o q) e⟩, u.free, fun b o q hx => by
        obtain ⟨o', e⟩ := u.there b o q hx
        exact ⟨o', k b _ (lt b o q) e⟩, u.tups, u.frzs, u.tbls⟩
  have nC : H2 s3.heap.objs.size = none := J.free
  have hok : HOk X.prog X.w H2 h' := fun b uo e => by
    refine (J.hok b uo e).stay (fun c v hc q => k c v ?_ q) (fun _ q => q) fun _ _ q => q
    rintro rfl
    rcases hc with z | z
    · rw [← z, nC] at e; cases e
    · rw [nC] at z; cases z
  have os : s'.os = s3.os := J.os
  have bare := J.bare
  obtain ⟨hh, g, d, t, os'⟩ := s'
  obtain rfl : os' = s3.os := os
  have fin := I.call (h' := h') (g' := g) (d' := d) (t' := t) (ch := fp) u' hok bare fun b hb => by
    obtain ⟨f0, f1, f2, f3, f4, f5⟩ := ffp b hb
    exact ⟨f3, f1, f4, f5⟩
  exact fin
end

/-- the tests behind a for -/
def PF (X : Cx) (ifs : List Expr) (t : TT) : Prop :=
  ∀ (pins : List (Addr × Obj)) (s : Shared) (σ : St) (H : Hp) (Q : Bool → Hp → Prop), Inv X pins σ H s → t σ H Q →
    wpAny (model X.prog X.w) X.A (forIn ifs true fun c r => if r = true then do let ok ← isTrue c X.env (eval c X.env); pure (ForInStep.yield ok) else pure (ForInStep.yield r)) (TP X pins σ Q) X.xe s
def tYes : TT := fun _ H Q => Q true H
theorem pf_nil {X : Cx} : PF X [] tYes := fun _ _ _ H _ I h => wpAny_tests_nil ⟨H, I, h⟩
/-- the walk of a comprehension: J what is walked, p the list that is made, fv the free names' values -/
def CompI (J : It) (p : Addr) (fv : St) (tt : TT) (te : TE) (Q : VK) (H1 : Hp) : Prop :=
  ∃ W : Nat → Nat → List V → Hp → Prop, (∃ m, W 0 m [] (upd H1 p (.lst []))) ∧ ∀ i m ys H2, W i m ys H2 → H2 p = some (.lst ys) ∧
    ((J.stop i H2 ∧ Q (.ref p) H2) ∨ (J.go i H2 ∧ ys.length < sizeLine ∧ ∀ x H3, J.yld i H2 x H3 → tt (some x :: fv) H3 fun b H4 =>
      if b = true then te (some x :: fv) H4 fun y H5 => H5 p = some (.lst ys) ∧ ∃ m', m' < m ∧ W (i + 1) m' (ys ++ [y]) (upd H5 p (.lst (ys ++ [y])))
      else ∃ m', m' < m ∧ W (i + 1) m' ys H4))
def tComp (wi : TI) (fr : List Nat) (tt : TT) (te : TE) : TE := fun σ H Q => wi σ H fun J H1 => ∀ p, H1 p = none → CompI J p (frV σ fr) tt te Q H1

section
variable {X : Cx} {elt iter : Expr} {x : Str} {px pos : Pos} {ifs : List Expr} {scope : Scope} {cl : List (Str × Addr)} {fx : List Str} {fr : List Nat} {wi : TI} {tt : TT} {te : TE}
theorem comp_block {pins : List (Addr × Obj)} {σ : St} {H3 : Hp} {s3 : Shared} {it p : Addr} {fp : List Addr} {tn : Nat → Heap → Prop} {J : It} {Q : VK} {W : Nat → Nat → List V → Hp → Prop} {m0 t : Nat} {h₁ : Heap} {m : Str → Option Value} {RR : Result → Shared → Prop}
    (hc : X.calm = true) (hkind : scope.kind = .function) (hx : scope.names.lookup x = some .local) (hnd : (x :: fx).Nodup)
    (hcl : ∀ y c, cl.lookup y = some c → X.env.cells.lookup y = some c) (F : Frees X (relabel scope X.env) cl fx fr)
    (hfx : ((relabel scope X.env).names.all fun p => if (p.2 == .cell || p.2 == .free) then fx.contains p.1 else true) = true)
    (ht : ∀ s H fp, PF (compCx X (x :: fx) scope cl s H fp) ifs tt) (he : ∀ s H fp, PE (compCx X (x :: fx) scope cl s H fp) elt te)
    (I3 : Inv X pins σ H3 s3) (T : Turn X.prog X.w X.K (.Name x px) J fp it tn) (st3 : tn 0 s3.heap) (ffp : ∀ b ∈ fp, FpOk X pins H3 b) (flt3 : ∀ b ∈ fp, b < s3.heap.objs.size)
    (w0 : W 0 m0 [] H3) (turn : ∀ i m ys H2, W i m ys H2 → H2 p = some (.lst ys) ∧
      ((J.stop i H2 ∧ Q (.ref p) H2) ∨ (J.go i H2 ∧ ys.length < sizeLine ∧ ∀ x H3, J.yld i H2 x H3 → tt (some x :: frV σ fr) H3 fun b H4 =>
        if b = true then te (some x :: frV σ fr) H4 fun y H5 => H5 p = some (.lst ys) ∧ ∃ m', m' < m ∧ W (i + 1) m' (ys ++ [y]) (upd H5 p (.lst (ys ++ [y])))
        else ∃ m', m' < m ∧ W (i + 1) m' ys H4)))
    (hns : h₁.Ns s3.heap.objs.size m) (keep1 : ∀ b u, s3.heap.get? b = some u → h₁.get? b = some u)
    (fin : ∀ s6 H5 o, Inv (compCx X (x :: fx) scope cl s3 H3 fp) [] (o :: frV σ fr) H5 s6 → Q (.ref p) H5 → RR (.ok .next) s6) :
    codeAny (model X.prog X.w) X.A (.compStart (.ListComp elt [⟨.Name x px, iter, ifs, 0⟩] scope pos) 0 (.ref it) (.ref p) (compEnvC scope cl s3.heap.objs.size X.env))
      RR { s3 with heap := h₁, toks := t } := by
  have I4 := comp_start (x := x) (t := t) I3 hkind hcl F hfx ffp flt3 hns keep1
  have st4 : tn 0 h₁ := T.keep _ _ _ st3 fun b hb o e => keep1 b o e
  have fp0 : ∀ b ∈ fp, H3 b = none := fun b hb => (ffp b hb).1
  have hcal : (compCx X (x :: fx) scope cl s3 H3 fp).calm = true := hc
  have stat : ∀ {H' : Hp}, (∀ b ∈ fp, H' b = none) → ∀ b ∈ fp, FpOk (compCx X (x :: fx) scope cl s3 H3 fp) [] H' b := fun {H'} hn b hb => by
    obtain ⟨f0, f1, f2, f3, f4, f5⟩ := ffp b hb
    exact ⟨hn b hb, Nat.ne_of_lt (flt3 b hb), I4.ok.exfs b hb, .inl hb, fun y c e => f4 y c (hcl y c e), fun q hq => absurd (show q ∈ ([] : List (Addr × Obj)) from hq) (by simp)⟩
  have hxl : (relabel scope X.env).names.lookup x = some .local := lookup_relabel_local hx
  have pg : PG (compCx X (x :: fx) scope cl s3 H3 fp) (.Name x px) (gName 0) := pg_name (i := 0) hnd rfl (.inl hxl) (.inr hxl)
  have loop : codeAny (model X.prog X.w) X.A (.compLoop (.ListComp elt [⟨.Name x px, iter, ifs, 0⟩] scope pos) 0 (.ref it) (.ref p) (compEnvC scope cl s3.heap.objs.size X.env))
        RR { s3 with heap := h₁, toks := t } := by
    refine compLoop_any (fun n s' => ∃ i ys H' o, Inv (compCx X (x :: fx) scope cl s3 H3 fp) [] (o :: frV σ fr) H' s' ∧ tn i s'.heap ∧ (∀ b ∈ fp, H' b = none) ∧ W i n ys H') ?_ m0 ⟨0, [], _, none, I4, st4, fp0, w0⟩
    rintro n s5 ⟨i, ys, H5, o, I5, st5, fr5, w5⟩
    obtain ⟨hp5, alt⟩ := turn i n ys H5 w5
    rcases alt with ⟨stop, qn⟩ | ⟨go, hlen, step⟩
    · refine thn (T.done (compCx X (x :: fx) scope cl s3 H3 fp) rfl rfl rfl hcal i [] s5 (o :: frV σ fr) H5 _ I5 (stat fr5) st5 stop) fun r s6 ⟨hr, I6⟩ => ?_
      subst hr
      exact fin s6 H5 o I6 qn
    · refine thn (T.item (compCx X (x :: fx) scope cl s3 H3 fp) rfl rfl rfl hcal i [] s5 (o :: frV σ fr) H5 _ I5 (stat fr5) st5 go) fun r s6 ⟨u, hr, h6⟩ => ?_
      subst hr
      refine thn h6 fun _ s7 ⟨y7, H7, I7, r7, yl7, st7, fr7⟩ => ?_
      have I7' := I7.pinned (stat fr7) (T.obj _ _ st7)
      have back : ∀ {σ' : St} {H' : Hp} {s' : Shared}, Inv (compCx X (x :: fx) scope cl s3 H3 fp) ([] ++ pinsAt fp s7.heap) σ' H' s' → tn (i + 1) s'.heap ∧ ∀ b ∈ fp, H' b = none := fun {σ' H' s'} I' => by
        refine ⟨T.keep _ _ _ st7 fun b hb o e => (I'.pin (b, o) (List.mem_append_right _ (List.mem_append_right _ (mem_pinsAt hb e)))).1, fun b hb => ?_⟩
        obtain ⟨o, e, d⟩ := T.obj _ _ st7 b hb
        exact (I'.pin (b, o) (List.mem_append_right _ (List.mem_append_right _ (mem_pinsAt hb e)))).2.1
      refine thn (pg _ s7 _ H7 y7 u (fun σ' H' => σ' = some y7 :: frV σ fr ∧ H' = H7) I7' r7 ⟨rfl, rfl⟩) fun _ s8 ⟨σ8, H8, I8, e8, e8'⟩ => ?_
      subst e8 e8'
      refine thn (ht s3 H3 fp _ s8 _ _ _ I8 (step y7 _ yl7)) fun b s9 ⟨H9, I9, q9⟩ => ?_
      cases b with
      | false =>
        rw [if_neg Bool.false_ne_true] at q9 ⊢
        obtain ⟨m', hm, w9⟩ := q9
        exact ⟨m', hm, i + 1, ys, H9, some y7, I9.unpinned, (back I9).1, (back I9).2, w9⟩
      | true =>
        rw [if_pos rfl] at q9 ⊢
        refine thn (he s3 H3 fp _ s9 _ H9 _ I9 q9) fun u10 s10 ⟨y10, H10, I10, r10, hp10, m', hm, w10⟩ => ?_
        refine thn (mt_append _ s10 _ H10 (.ref p) [y10] (.ref p) [u10] (fun _ H' => H' = upd H10 p (.lst (ys ++ [y10]))) I10 rfl (.cons r10 .nil) ⟨p, ys, y10, rfl, rfl, hp10, hlen, rfl⟩) fun _ s11 ⟨_, H11, I11, _, e11⟩ => ?_
        subst e11
        exact ⟨m', hm, i + 1, ys ++ [y10], _, some y7, I11.unpinned, (back I11).1, (back I11).2, w10⟩
  exact codeAny_compStart_list loop (T.self _ 0 _ _ _ st4 loop)
theorem pe_comp (hc : X.calm = true) (hclos : closureFor scope X.env = pure cl) (hcell : ∀ y ∈ scope.names, y.2 ≠ .cell) (hkind : scope.kind = .function)
    (hnames : ∀ y ∈ scope.names, y.2 = .local → scope.names.lookup y.1 = some .local) (hx : scope.names.lookup x = some .local) (hnd : (x :: fx).Nodup)
    (hk : (cl.all fun q => fx.contains q.1) = true) (F : Frees X (relabel scope X.env) cl fx fr)
    (hfx : ((relabel scope X.env).names.all fun p => if (p.2 == .cell || p.2 == .free) then fx.contains p.1 else true) = true)
    (hi : PI X (.Name x px) iter wi) (ht : ∀ s H fp, PF (compCx X (x :: fx) scope cl s H fp) ifs tt) (he : ∀ s H fp, PE (compCx X (x :: fx) scope cl s H fp) elt te)
    (hs : ∀ x, foldedSetIterable iter X.env x = pure x := by intro _; rfl) :
    PE X (.ListComp elt [⟨.Name x px, iter, ifs, 0⟩] scope pos) (tComp wi fr tt te) := by
  intro pins s σ H Q I h
  have hcl : ∀ y c, cl.lookup y = some c → X.env.cells.lookup y = some c := fun y c e => by
    have q := List.all_eq_true.mp hk _ (PySem.mem_of_lookup e)
    rw [← (F.mem y (by simpa using q)).2]
    exact e
  rw [eval_ListComp]
  refine wpAny_comprehension_free (use := none) rfl hs hclos hkind hnames ?_
  refine thn (hi pins s σ H _ I h) fun v s1 h1 => thn h1 fun itv s2 h2 => ?_
  obtain ⟨it, fp, tn, J, H2, e, I2, T, st2, f2, q2⟩ := h2
  subst e
  have hp0 : H2 s2.heap.objs.size = none := I2.hok.fresh (Nat.le_refl _)
  obtain ⟨W, ⟨m0, w0⟩, turn⟩ := q2 _ hp0
  have flt : ∀ b ∈ fp, b < s2.heap.objs.size := fun b hb => by
    obtain ⟨o, e, _⟩ := T.obj _ _ st2 b hb
    exact Heap.lt_size e
  refine wpAny_newObj_type (wpAny_newFunctionEnv hcell (by intro y hy; simp at hy) (fun h₁ hns₁ hsb₁ => ?_) hkind)
  dsimp only at hns₁ hsb₁ ⊢
  have hlay : ∀ b u, s2.heap.get? b = some u → (s2.heap.push { cls := .type "list", dict := none, data := .seq ([] : List Value).toArray }).get? b = some u := fun b u e => Heap.get?_push_of_some _ e
  have hnew : (s2.heap.push { cls := .type "list", dict := none, data := .seq ([] : List Value).toArray }).get? s2.heap.objs.size = some { cls := .type "list", dict := none, data := .seq ([] : List Value).toArray } := Heap.get?_push_size _ rfl
  have hsz : (s2.heap.push { cls := .type "list", dict := none, data := .seq ([] : List Value).toArray }).objs.size = s2.heap.objs.size + 1 := Heap.size_push _ _
  generalize hHH : s2.heap.push { cls := .type "list", dict := none, data := .seq ([] : List Value).toArray } = HH at hns₁ hsb₁ hlay hnew hsz ⊢
  have I3 : Inv X pins σ (upd H2 s2.heap.objs.size (.lst [])) { s2 with heap := HH, toks := s2.toks } :=
    I2.laid (t' := s2.toks) (o := .lst []) hlay (Nat.le_refl _) ⟨Nat.zero_le _, [], 0, .nil, hnew⟩
  have ffp : ∀ b ∈ fp, FpOk X pins (upd H2 s2.heap.objs.size (.lst [])) b := fun b hb => by
    obtain ⟨f0, fr'⟩ := f2 b hb
    exact ⟨by rw [upd_ne (Nat.ne_of_lt (flt b hb))]; exact f0, fr'⟩
  have keep1 : ∀ b u, HH.get? b = some u → h₁.get? b = some u := fun b u e => hsb₁.extBut b u (Nat.ne_of_lt (Heap.lt_size e)) (Heap.get?_push_of_some _ e)
  exact comp_block (s3 := { s2 with heap := HH, toks := s2.toks }) hc hkind hx hnd hcl F hfx ht he I3 T (T.keep _ _ _ st2 fun b hb o e => hlay b o e) ffp (fun b hb => by show b < HH.objs.size; rw [hsz]; exact Nat.lt_succ_of_lt (flt b hb)) w0 turn hns₁ keep1 fun s6 H5 o I6 qn => by
    obtain ⟨m, hn6, _⟩ := id I6.loc
    exact ⟨m, hn6, fun h' sb => ⟨.ref _, H5, comp_done I3 I6 ffp sb, rfl, qn⟩⟩
end

/-! ### the forms one uses -/
section
variable {p : Addr} {fv : St} {te : TE} {Q : VK} {H1 : Hp}
/-- over a text, no test: each sign's value, what is tracked stays -/
theorem comp_str {z : Str} (hz : z.length ≤ sizeLine) (hp : H1 p = none) (f : Nat → V)
    (he : ∀ c, c ∈ z.cps.toList → ∀ (H' : Hp) (R : VK), (∀ H'', Same H' H'' → R (f c) H'') → te (some (.str ⟨#[c]⟩) :: fv) H' R)
    (hQ : ∀ H', Same H1 H' → H' p = some (.lst (z.cps.toList.map f)) → Q (.ref p) H') : CompI (Its z) p fv tYes te Q H1 := by
  have hl : z.cps.toList.length = z.length := by simp [Str.length]
  refine ⟨fun i m ys H2 => m = z.length - i ∧ i ≤ z.length ∧ ys = (z.cps.toList.take i).map f ∧ H2 p = some (.lst ys) ∧ Same H1 H2, ⟨z.length, by simp, Nat.zero_le _, by simp, upd_same, fun b o e => by rw [upd_ne (ne_of_none e hp)]; exact e⟩, ?_⟩
  rintro i m ys H2 ⟨rfl, hi, rfl, hp2, sm⟩
  refine ⟨hp2, ?_⟩
  by_cases hlt : i < z.length
  · refine .inr ⟨hlt, ?_, fun x H3 y => ?_⟩
    · rw [List.length_map, List.length_take]; omega
    · obtain ⟨rfl, c, hc, rfl⟩ := y
      unfold tYes
      dsimp only
      rw [if_pos rfl]
      refine he c (List.mem_of_getElem? hc) _ _ fun H5 s5 => ⟨s5 _ _ hp2, z.length - (i + 1), by omega, rfl, hlt, ?_, upd_same, fun b o e => ?_⟩
      · rw [List.take_add_one, hc, List.map_append]; rfl
      · rw [upd_ne (ne_of_none e hp)]; exact s5 _ _ (sm _ _ e)
  · have e : i = z.length := by omega
    subst e
    refine .inl ⟨Nat.le_refl _, hQ H2 sm ?_⟩
    rw [hp2, ← hl, List.take_length]
end
section
variable {σ : St} {H : Hp} {Q : VK} {K : PySem.W.Frag} {tl te : TE} {tt : TT} {fr : List Nat}
theorem frV_nil : frV σ [] = [] := rfl
theorem frV_cons {i : Nat} {r : List Nat} : frV σ (i :: r) = (σ[i]?).getD none :: frV σ r := rfl
theorem jo_ref {z : Str} {p : Addr} : rJoin K (.str z) [.ref p] H Q ↔ ∃ ys : List Str, SqL K H p (ys.map V.str) ∧ (ys.map (·.length)).sum + ys.length * z.length ≤ 16777216 ∧ Q (.str (Txt.join z ys)) H := by
  constructor
  · rintro ⟨z', p', ys, h1, h2, h3⟩
    cases h1; cases h2
    exact ⟨ys, h3⟩
  · rintro ⟨ys, h⟩
    exact ⟨z, p, ys, rfl, rfl, h⟩
theorem rd_compS : tComp (iStr tl) fr tt te σ H Q ↔ tl σ H fun x H1 => ∃ z, x = .str z ∧ ∀ p, H1 p = none → CompI (Its z) p (frV σ fr) tt te Q H1 := Iff.rfl
theorem rd_compL : tComp (iList K tl) fr tt te σ H Q ↔ tl σ H fun x H1 => ∃ a, x = .ref a ∧ (∃ xs, SqL K H1 a xs) ∧ ∀ p, H1 p = none → CompI (Itl K a) p (frV σ fr) tt te Q H1 := Iff.rfl
end

/-! ### the rules again, the written part named -/
section
variable {X : Cx} {K : PySem.W.Frag}
theorem op_addK (h : X.K = K) : OpR X (binaryOp .Add) (rAddU K) := by subst h; exact op_addU
theorem ix_seqK (h : X.K = K) : IxR X (rIx K) := by subst h; exact ix_seq
theorem sl_anyK (h : X.K = K) : SlR X (rSl K) := by subst h; exact sl_any
theorem call_lenK (h : X.K = K) : CallR X (.builtin "len") (rLenU K) := by subst h; exact call_lenU
theorem mt_joinK (h : X.K = K) : MtR X "str.join" (rJoin K) := by subst h; exact mt_join
theorem pi_listK {tg l : Expr} {tl : TE} (h : X.K = K) (hl : PE X l tl) : PI X tg l (iList K tl) := by subst h; exact pi_list hl
variable {o e : Expr} {es : List Expr} {to : TE} {t : TA} {name : Str} {apos cpos : Pos} {T id : String} {r : V → List V → Hp → VK → Prop}
theorem pe_bmK (h : X.K = K) (pa : PlainAttrs T) (slot : Slot T name id) (hty : typeOf (.builtin id) = pure (.type "method_descriptor")) (hm : MtR X id r) (ho : PE X o to) (ha : PA X (e :: es) t)
    (hbase : attributeBase o name X.env (eval o X.env) = eval o X.env := by rfl)
    (hfew : ((backTo cpos (starEach (e :: es) X.env)).all (fun x => !x.1) && (backToKw cpos (keywordEach [] X.env)).all (fun x => x.1.isSome)
      && decide ((e :: es).length + ([] : List Keyword).length + (if ([] : List Keyword).isEmpty then 0 else 1) < 30)) = true := by rfl)
    (hline : (apos.endLine == cpos.line) = true := by rfl) (hs : starEach (e :: es) X.env = (false, eval e X.env) :: starEach es X.env := by rfl) (hplain : (backTo cpos (starEach es X.env)).any (·.1) = false := by rfl) :
    PE X (.Call (.Attribute o name apos) (e :: es) [] cpos) (tBM K T r to t) := by
  subst h; exact pe_bm pa slot hty hm ho ha hbase hfew hline hs hplain
end

/-! ### defs with a default -/
structure FunD (K : PySem.W.Frag) (x qual : Str) (st : Stmt) (f : Addr) (fd : FuncData) (T : Addr) : Prop where
  ex : ∃ (oc : Value) (od : Option Addr) (kV doc pm : Value) (an : Option Addr) (cdv ct : Value) (osl : Array (Option Value)),
    fd = PySem.W.fnOf x qual (defArgs st) (defBody st) (defScope st) (.ref T) kV doc pm an cdv ct ∧ K.lookup f = some ⟨oc, od, .func fd, osl⟩ ∧ PySem.W.codeIn K cdv qual = true
  kp : PySem.W.keepIn K (.ref f) = true
section
variable {P : Program} {w : World} {K : PySem.W.Frag} {mg : Str → Option Value} {base : Heap}
theorem FunD.ok {x qual : Str} {st : Stmt} {f T : Addr} {fd : FuncData} {N ps : List Str} {k : Nat} {sp : Sp} (F : FunD K x qual st f fd T) (S : FnScope N ps (defScope st)) (len : ∀ vs H Q E, sp vs H Q E → vs.length = ps.length)
    (hbody : ∀ (cdv : Value) (A : Around) (outer : List Env) (s : Shared) (H : Hp) (vs : List V) (Q : VK) (E : XK), Room k (A.deeper (envOfC qual (defScope st) s.heap.objs.size f cdv)) → sp vs H Q E →
      ∃ t, PSs (cxOf CX0 P w K mg base N qual (defScope st) f cdv A outer s H E).nox (defBody st) t ∧ t { nx := fun _ H' => Q .non H', rt := Q } (start N vs) H) : FnOk P w K mg base CX0 (k + 1) f fd ps sp := by
  obtain ⟨oc, od, kV, doc, pm, an, cdv, ct, osl, rfl, lk, hcd⟩ := F.ex
  refine fn_of lk hcd S len fun A outer s H vs Q E hr hsp => ?_
  obtain ⟨t, h, q⟩ := hbody cdv A outer s H vs Q E hr hsp
  exact ⟨t, h.nox, q⟩
theorem FunD.binds {x qual : Str} {st : Stmt} {f T : Addr} {fd : FuncData} {ps : List Str} {ds : List Value} {oc : Value} {od : Option Addr} {items : Array Value} {n : Nat} {sl : Array (Option Value)} (F : FunD K x qual st f fd T) (hT : K.lookup T = some ⟨oc, od, .seq items n, sl⟩)
    (h : ∀ (kV doc pm : Value) (an : Option Addr) (cdv ct : Value) (us : List Value), (us ++ ds).length = ps.length → ∃ k : Option (Array Value) → Sem (List (Str × Value)),
      bindArgs (PySem.W.fnOf x qual (defArgs st) (defBody st) (defScope st) (.ref T) kV doc pm an cdv ct) ⟨us, []⟩ = seqItems? (.ref T) >>= k ∧ k (some items) = pure (ps.zip (us ++ ds))) : Binds K fd ps ds := by
  obtain ⟨oc', od', kV, doc, pm, an, cdv, ct, osl, rfl, lk, hcd⟩ := F.ex
  intro s us X hl
  obtain ⟨k, h1, h2⟩ := h kV doc pm an cdv ct us hl
  exact BindsTo.of_defaults (T := T) rfl (X T _ hT) rfl h1 h2
theorem funD_mk {x qual : Str} {st : Stmt} {f T : Addr} {oc : Value} {od an : Option Addr} {osl : Array (Option Value)} {kV doc pm cdv ct : Value} (l : K.lookup f = some ⟨oc, od, .func (PySem.W.fnOf x qual (defArgs st) (defBody st) (defScope st) (.ref T) kV doc pm an cdv ct), osl⟩)
    (c : PySem.W.codeIn K cdv qual = true) (k : PySem.W.keepIn K (.ref f) = true) : FunD K x qual st f (PySem.W.fnOf x qual (defArgs st) (defBody st) (defScope st) (.ref T) kV doc pm an cdv ct) T := ⟨⟨oc, od, kV, doc, pm, an, cdv, ct, osl, rfl, l, c⟩, k⟩
end
/-! ### while, by a word with its measure -/
theorem while_W {c : TT} {tb : TS} {D : Ends} {σ : St} {H : Hp} (W : Nat → St → Hp → Prop) (m0 : Nat) (h0 : W m0 σ H)
    (hs : ∀ m σ H, W m σ H → c σ H fun b H1 => if b = true then ∃ N : St → Hp → Prop, (∀ σ' H', N σ' H' → ∃ m', m' < m ∧ W m' σ' H') ∧ tb { D with nx := N, ct := N, bk := D.nx } σ H1 else D.nx σ H1) : tWhile c tb D σ H := ⟨W, ⟨m0, h0⟩, hs⟩
section
variable {σ : St} {H : Hp} {Q : VK}
theorem rd_un {r : V → Hp → VK → Prop} {ta : TE} : tUn r ta σ H Q ↔ ta σ H fun x H1 => r x H1 Q := Iff.rfl
theorem rd_U {g : Int → V} {i : Int} : rU g (.int i) H Q ↔ Q (g i) H := ⟨fun ⟨_, h1, h2⟩ => by cases h1; exact h2, fun h => ⟨i, rfl, h⟩⟩
theorem ap_ref {l : Addr} {y : V} : rAppend (.ref l) [y] H Q ↔ ∃ xs, H l = some (.lst xs) ∧ xs.length < sizeLine ∧ Q .non (upd H l (.lst (xs ++ [y]))) := by
  constructor
  · rintro ⟨l', xs, y', h1, h2, h3⟩
    cases h1; cases h2
    exact ⟨xs, h3⟩
  · rintro ⟨xs, h⟩
    exact ⟨l, xs, y, rfl, rfl, h⟩
theorem ty_list {K : PySem.W.Frag} {p : Addr} : tyV K "list" (.ref p) H ↔ ∃ xs, SqL K H p xs := by
  constructor
  · rintro (⟨_, h⟩ | ⟨h, _⟩ | ⟨h, _⟩ | ⟨h, _⟩)
    · exact h
    · exact absurd h (by decide)
    · exact absurd h (by decide)
    · exact absurd h (by decide)
  · intro h; exact .inl ⟨rfl, h⟩
end
end L2
/-! PLAIN DATA over the hand layer: what a value is, whole, as a tree; deep comparisons. -/
namespace L2
open PySem PySem.Spec PyProof.Rows
mutual
inductive Is (H : Hp) : PyData → V → Prop
  | non : Is H .none .non
  | bl (b : Bool) : Is H (.bool b) (.bl b)
  | int (i : Int) : Is H (.int i) (.int i)
  | str (x : Str) : Is H (.str x) (.str x)
  | lst {p : Addr} {xs : List V} {ds : List PyData} : H p = some (.lst xs) → IsAll H ds xs → Is H (.list ds) (.ref p)
  | tup {p : Addr} {xs : List V} {ds : List PyData} : H p = some (.tup xs) → IsAll H ds xs → Is H (.tuple ds) (.ref p)
inductive IsAll (H : Hp) : List PyData → List V → Prop
  | nil : IsAll H [] []
  | cons {d : PyData} {x : V} {ds : List PyData} {xs : List V} : Is H d x → IsAll H ds xs → IsAll H (d :: ds) (x :: xs)
end
mutual
theorem Is.mono {H H' : Hp} (sm : Same H H') : ∀ {d : PyData} {x : V}, Is H d x → Is H' d x
  | _, _, .non => .non
  | _, _, .bl b => .bl b
  | _, _, .int i => .int i
  | _, _, .str x => .str x
  | _, _, .lst h r => .lst (sm _ _ h) (IsAll.mono sm r)
  | _, _, .tup h r => .tup (sm _ _ h) (IsAll.mono sm r)
theorem IsAll.mono {H H' : Hp} (sm : Same H H') : ∀ {ds : List PyData} {xs : List V}, IsAll H ds xs → IsAll H' ds xs
  | _, _, .nil => .nil
  | _, _, .cons h r => .cons (Is.mono sm h) (IsAll.mono sm r)
end
theorem IsAll.length {H : Hp} : ∀ {ds : List PyData} {xs : List V}, IsAll H ds xs → ds.length = xs.length
  | _, _, .nil => rfl
  | _, _, .cons _ r => by rw [List.length_cons, List.length_cons, IsAll.length r]
theorem IsAll.append {H : Hp} : ∀ {ds es : List PyData} {xs ys : List V}, IsAll H ds xs → IsAll H es ys → IsAll H (ds ++ es) (xs ++ ys)
  | _, _, _, _, .nil, r => r
  | _, _, _, _, .cons h t, r => .cons h (t.append r)
theorem IsAll.at {H : Hp} : ∀ {ds : List PyData} {xs : List V}, IsAll H ds xs → ∀ (i : Nat) (x : V), xs[i]? = some x → ∃ d, ds[i]? = some d ∧ Is H d x
  | _, _, .nil, i, x, h => by simp at h
  | _, _, .cons q r, 0, x, h => by simp at h; subst h; exact ⟨_, rfl, q⟩
  | _, _, .cons q r, i + 1, x, h => by
    obtain ⟨d, h1, h2⟩ := r.at i x (by simpa using h)
    exact ⟨d, by simpa using h1, h2⟩
theorem IsAll.take {H : Hp} : ∀ {ds : List PyData} {xs : List V} (n : Nat), IsAll H ds xs → IsAll H (ds.take n) (xs.take n)
  | _, _, 0, _ => .nil
  | _, _, _ + 1, .nil => .nil
  | _, _, n + 1, .cons r t => .cons r (t.take n)
theorem IsAll.drop {H : Hp} : ∀ {ds : List PyData} {xs : List V} (n : Nat), IsAll H ds xs → IsAll H (ds.drop n) (xs.drop n)
  | _, _, 0, r => r
  | _, _, _ + 1, .nil => .nil
  | _, _, n + 1, .cons _ t => t.drop n
theorem IsAll.set {H : Hp} {d : PyData} {x : V} (h : Is H d x) : ∀ {ds : List PyData} {xs : List V} (n : Nat), IsAll H ds xs → IsAll H (ds.set n d) (xs.set n x)
  | _, _, _, .nil => .nil
  | _, _, 0, .cons _ t => .cons h t
  | _, _, n + 1, .cons r t => .cons r (t.set h n)
theorem IsAll.strs {H : Hp} : ∀ (l : List Str), IsAll H (l.map PyData.str) (l.map V.str)
  | [] => .nil
  | x :: r => .cons (.str x) (IsAll.strs r)
section
variable {X : Cx} {pins : List (Addr × Obj)} {σ : St} {H : Hp} {s : Shared}
mutual
theorem Is.reads (I : Inv X pins σ H s) : ∀ {d : PyData} {x : V} {v : Value}, Is H d x → RelV x v → ∃ as, Reads s.heap v d as
  | _, _, _, .non, r => by cases r; exact ⟨_, .none⟩
  | _, _, _, .bl b, r => by cases r; exact ⟨_, .bool b⟩
  | _, _, _, .int i, r => by obtain ⟨t, rfl⟩ := r; exact ⟨_, .int i t⟩
  | _, _, _, .str x, r => by obtain ⟨t, rfl⟩ := r; exact ⟨_, .str x t⟩
  | _, _, _, .lst h q, r => by
    cases r
    obtain ⟨its, vs, ⟨o, n, e, c, _, dt⟩, _⟩ := I.list (SqL.of h)
    obtain ⟨as, ra⟩ := IsAll.reads I q vs
    exact ⟨_, .list e c dt (by simpa using ra)⟩
  | _, _, _, .tup h q, r => by
    cases r
    obtain ⟨its, vs, ⟨o, e, c, n, dt⟩, _⟩ := I.tuple (SqT.of h)
    obtain ⟨as, ra⟩ := IsAll.reads I q vs
    exact ⟨_, .tuple e c dt (by simpa using ra)⟩
theorem IsAll.reads (I : Inv X pins σ H s) : ∀ {ds : List PyData} {xs : List V} {vs : List Value}, IsAll H ds xs → Vals xs vs → ∃ as, ReadsAll s.heap vs ds as
  | _, _, _, .nil, r => by cases r; exact ⟨_, .nil⟩
  | _, _, _, .cons q t, r => by
    cases r with
    | cons r1 r2 =>
      obtain ⟨as, h1⟩ := Is.reads I q r1
      obtain ⟨bs, h2⟩ := IsAll.reads I t r2
      exact ⟨_, .cons h1 h2⟩
end
def rNeD : R2 := fun x y H Q => ∃ d e, Is H d x ∧ Is H e y ∧ SeqAt.shaped d = true ∧ SeqAt.shaped e = true ∧ Q (.bl (!PyData.eqv d e)) H
theorem op_neD (hu : X.A.units + 64 < cLine) : OpR X (compareOp .NotEq) rNeD := by
  intro pins s σ H x y v u Q I rx ry h
  obtain ⟨d, e, hx, hy, sx, sy, q⟩ := h
  obtain ⟨as, ra⟩ := hx.reads I rx
  obtain ⟨bs, rb⟩ := hy.reads I ry
  exact ne_dataH ra rb sx sy hu ⟨.bl _, H, I, rfl, q⟩
end
/-! ### data of tuples and scalars: no change of a list changes it -/
mutual
inductive IsT (H : Hp) : PyData → V → Prop
  | non : IsT H .none .non
  | bl (b : Bool) : IsT H (.bool b) (.bl b)
  | int (i : Int) : IsT H (.int i) (.int i)
  | str (x : Str) : IsT H (.str x) (.str x)
  | tup {p : Addr} {xs : List V} {ds : List PyData} : H p = some (.tup xs) → IsTAll H ds xs → IsT H (.tuple ds) (.ref p)
inductive IsTAll (H : Hp) : List PyData → List V → Prop
  | nil : IsTAll H [] []
  | cons {d : PyData} {x : V} {ds : List PyData} {xs : List V} : IsT H d x → IsTAll H ds xs → IsTAll H (d :: ds) (x :: xs)
end
def SameT (H H' : Hp) : Prop := ∀ b xs, H b = some (.tup xs) → H' b = some (.tup xs)
theorem Same.toT {H H' : Hp} (h : Same H H') : SameT H H' := fun b xs e => h b _ e
theorem SameT.refl (H : Hp) : SameT H H := fun _ _ e => e
theorem SameT.trans {H H' H'' : Hp} (h : SameT H H') (h' : SameT H' H'') : SameT H H'' := fun b xs e => h' b xs (h b xs e)
theorem sameT_lst {H : Hp} {p : Addr} {xs : List V} {o : HO} (h : H p = some (.lst xs)) : SameT H (upd H p o) := fun b ys e => by
  rw [upd_ne (ne_of e h (by intro z; cases z))]; exact e
mutual
theorem IsT.mono {H H' : Hp} (sm : SameT H H') : ∀ {d : PyData} {x : V}, IsT H d x → IsT H' d x
  | _, _, .non => .non
  | _, _, .bl b => .bl b
  | _, _, .int i => .int i
  | _, _, .str x => .str x
  | _, _, .tup h r => .tup (sm _ _ h) (IsTAll.mono sm r)
theorem IsTAll.mono {H H' : Hp} (sm : SameT H H') : ∀ {ds : List PyData} {xs : List V}, IsTAll H ds xs → IsTAll H' ds xs
  | _, _, .nil => .nil
  | _, _, .cons h r => .cons (IsT.mono sm h) (IsTAll.mono sm r)
end
mutual
theorem IsT.is {H : Hp} : ∀ {d : PyData} {x : V}, IsT H d x → Is H d x
  | _, _, .non => .non
  | _, _, .bl b => .bl b
  | _, _, .int i => .int i
  | _, _, .str x => .str x
  | _, _, .tup h r => .tup h (IsTAll.is r)
theorem IsTAll.is {H : Hp} : ∀ {ds : List PyData} {xs : List V}, IsTAll H ds xs → IsAll H ds xs
  | _, _, .nil => .nil
  | _, _, .cons h r => .cons (IsT.is h) (IsTAll.is r)
end
theorem IsTAll.append {H : Hp} : ∀ {ds es : List PyData} {xs ys : List V}, IsTAll H ds xs → IsTAll H es ys → IsTAll H (ds ++ es) (xs ++ ys)
  | _, _, _, _, .nil, r => r
  | _, _, _, _, .cons h t, r => .cons h (t.append r)
theorem IsTAll.length {H : Hp} {ds : List PyData} {xs : List V} (h : IsTAll H ds xs) : ds.length = xs.length := h.is.length

/-! ### a comprehension over a list, no test, by a relation that grows with the heap -/
section
variable {p : Addr} {fv : St} {te : TE} {Q : VK} {H1 : Hp}
inductive All2 (R : V → V → Hp → Prop) (H : Hp) : List V → List V → Prop
  | nil : All2 R H [] []
  | cons {x y : V} {xs ys : List V} : R x y H → All2 R H xs ys → All2 R H (x :: xs) (y :: ys)
theorem All2.mono {R : V → V → Hp → Prop} (hm : ∀ x y H H', SameT H H' → R x y H → R x y H') {H H' : Hp} (sm : SameT H H') : ∀ {xs ys : List V}, All2 R H xs ys → All2 R H' xs ys
  | _, _, .nil => .nil
  | _, _, .cons h t => .cons (hm _ _ _ _ sm h) (t.mono hm sm)
theorem All2.snoc {R : V → V → Hp → Prop} {H : Hp} {x y : V} (h : R x y H) : ∀ {xs ys : List V}, All2 R H xs ys → All2 R H (xs ++ [x]) (ys ++ [y])
  | _, _, .nil => .cons h .nil
  | _, _, .cons q t => .cons q (t.snoc h)
theorem All2.length {R : V → V → Hp → Prop} {H : Hp} : ∀ {xs ys : List V}, All2 R H xs ys → xs.length = ys.length
  | _, _, .nil => rfl
  | _, _, .cons _ t => by rw [List.length_cons, List.length_cons, t.length]
end

/-! ### all, any of a list of truths -/
section
variable {X : Cx}
def rAllB (K : PySem.W.Frag) : List V → Hp → VK → Prop := fun vs H Q => ∃ (p : Addr) (bs : List Bool), vs = [.ref p] ∧ SqL K H p (bs.map V.bl) ∧ Q (.bl (bs.all id)) H
def rAnyB (K : PySem.W.Frag) : List V → Hp → VK → Prop := fun vs H Q => ∃ (p : Addr) (bs : List Bool), vs = [.ref p] ∧ SqL K H p (bs.map V.bl) ∧ Q (.bl (bs.any id)) H
theorem bools_at {bs : List Bool} : ∀ {us : List Value}, Vals (bs.map V.bl) us → ∀ (i : Nat) (v : Value), us[i]? = some v → ∃ b, bs[i]? = some b ∧ v = .bool b := by
  induction bs with
  | nil => intro us r i v h; rw [List.map_nil] at r; cases r; simp at h
  | cons b bs ih =>
    intro us r i v h
    rw [List.map_cons] at r
    cases r with
    | cons r1 r2 =>
      cases i with
      | zero => simp at h; subst h; exact ⟨b, rfl, r1⟩
      | succ i =>
        obtain ⟨c, h1, h2⟩ := ih r2 i v (by simpa using h)
        exact ⟨c, by simpa using h1, h2⟩
theorem call_allB (hc : X.calm = true) : CallR X (.builtin "all") (rAllB X.K) := by
  intro pins s σ H xs us Q I r h
  obtain ⟨p, bs, rfl, hq, q⟩ := h
  obtain ⟨u, rfl, ru⟩ := vals1 r
  cases ru
  obtain ⟨its, vs, pl, hl⟩ := I.list hq
  have hI := pl.isList
  have hlt : p < s.heap.objs.size := by obtain ⟨_, e, _⟩ := hI; exact Heap.lt_size e
  refine call_all_walk (wpAny_pyIter_list hI ?_)
  refine ⟨s.heap.objs.size, [s.heap.objs.size, p], [s.heap.objs.size], its.toArray.size, _, _, fun i => (bs[i]?).getD true, rfl, Walks.list (A := X.A.in1) (I.ok.hd hc) _ p (Nat.ne_of_lt hlt) its.toArray,
    ⟨⟨_, Heap.get?_push_size _ rfl, rfl, rfl⟩, hI.push _⟩, fun i v s' Q' E' hP hQ => ?_, fun h' tk hk => ?_⟩
  · obtain ⟨b, e, rfl⟩ := bools_at vs i v (by simpa using hP)
    simp only [e, Option.getD_some] at hQ
    exact wpAny_truthy_bool hQ
  · have hbl := vs.length
    rw [List.length_map] at hbl
    have e : ((List.range its.toArray.size).all fun i => (bs[i]?).getD true) = bs.all id := by
      rw [List.size_toArray, ← hbl]; exact PyProof.Rows.LSm.range_all bs
    exact ⟨.bl _, H, I.kept (t' := tk) (PyProof.Rows.LSm.kept_iter hk), rfl, by rw [e]; exact q⟩
variable {K : PySem.W.Frag}
theorem call_allK (h : X.K = K) (hc : X.calm = true) : CallR X (.builtin "all") (rAllB K) := by subst h; exact call_allB hc
def rListU (K : PySem.W.Frag) : List V → Hp → VK → Prop := fun xs H Q => ∃ p ys, xs = [.ref p] ∧ (SqL K H p ys ∨ SqT K H p ys) ∧ ∀ l, H l = none → Q (.ref l) (upd H l (.lst ys))
def rTupleU (K : PySem.W.Frag) : List V → Hp → VK → Prop := fun xs H Q => ∃ p ys, xs = [.ref p] ∧ ((SqL K H p ys ∧ ∀ l, H l = none → Q (.ref l) (upd H l (.tup ys))) ∨ (SqT K H p ys ∧ Q (.ref p) H))
end

/-! ### kinds, stores, targets -/
section
variable {H : Hp} {Q : VK} {K : PySem.W.Frag}
theorem isi_any {x : V} {T : String} : rIsiU [x, .ty T] H Q ↔ ∃ k, kindV x H = some k ∧ T ∈ ["bool", "int", "str", "list", "tuple"] ∧ Q (.bl (subT k T)) H := Iff.rfl
theorem kind_non : kindV .non H = some "NoneType" := rfl
theorem kind_bl {b : Bool} : kindV (.bl b) H = some "bool" := rfl
theorem kind_int {i : Int} : kindV (.int i) H = some "int" := rfl
theorem kind_str {x : Str} : kindV (.str x) H = some "str" := rfl
theorem kind_lst {p : Addr} {xs : List V} (h : H p = some (.lst xs)) : kindV (.ref p) H = some "list" := by simp only [kindV, h]
theorem kind_tup {p : Addr} {xs : List V} (h : H p = some (.tup xs)) : kindV (.ref p) H = some "tuple" := by simp only [kindV, h]
theorem memT_bool : ("bool" ∈ ["bool", "int", "str", "list", "tuple"]) = True := by simp
theorem memT_int : ("int" ∈ ["bool", "int", "str", "list", "tuple"]) = True := by simp
theorem memT_str : ("str" ∈ ["bool", "int", "str", "list", "tuple"]) = True := by simp
theorem memT_list : ("list" ∈ ["bool", "int", "str", "list", "tuple"]) = True := by simp
theorem memT_tuple : ("tuple" ∈ ["bool", "int", "str", "list", "tuple"]) = True := by simp
theorem sub_NoneType_bool : subT "NoneType" "bool" = false := by decide
theorem sub_NoneType_int : subT "NoneType" "int" = false := by decide
theorem sub_NoneType_str : subT "NoneType" "str" = false := by decide
theorem sub_NoneType_list : subT "NoneType" "list" = false := by decide
theorem sub_NoneType_tuple : subT "NoneType" "tuple" = false := by decide
theorem sub_bool_bool : subT "bool" "bool" = true := by decide
theorem sub_bool_int : subT "bool" "int" = true := by decide
theorem sub_bool_str : subT "bool" "str" = false := by decide
theorem sub_bool_list : subT "bool" "list" = false := by decide
theorem sub_bool_tuple : subT "bool" "tuple" = false := by decide
theorem sub_int_bool : subT "int" "bool" = false := by decide
theorem sub_int_int : subT "int" "int" = true := by decide
theorem sub_int_str : subT "int" "str" = false := by decide
theorem sub_int_list : subT "int" "list" = false := by decide
theorem sub_int_tuple : subT "int" "tuple" = false := by decide
theorem sub_str_bool : subT "str" "bool" = false := by decide
theorem sub_str_int : subT "str" "int" = false := by decide
theorem sub_str_str : subT "str" "str" = true := by decide
theorem sub_str_list : subT "str" "list" = false := by decide
theorem sub_str_tuple : subT "str" "tuple" = false := by decide
theorem sub_list_bool : subT "list" "bool" = false := by decide
theorem sub_list_int : subT "list" "int" = false := by decide
theorem sub_list_str : subT "list" "str" = false := by decide
theorem sub_list_list : subT "list" "list" = true := by decide
theorem sub_list_tuple : subT "list" "tuple" = false := by decide
theorem sub_tuple_bool : subT "tuple" "bool" = false := by decide
theorem sub_tuple_int : subT "tuple" "int" = false := by decide
theorem sub_tuple_str : subT "tuple" "str" = false := by decide
theorem sub_tuple_list : subT "tuple" "list" = false := by decide
theorem sub_tuple_tuple : subT "tuple" "tuple" = true := by decide
/-- the kind of a thing -/
def kindD : PyData → String
  | .none => "NoneType" | .bool _ => "bool" | .int _ => "int" | .str _ => "str" | .list _ => "list" | .tuple _ => "tuple" | .dict _ => "dict"
theorem Is.kind {d : PyData} {x : V} (h : Is H d x) : kindV x H = some (kindD d) := by
  cases h with
  | non => rfl
  | bl => rfl
  | int => rfl
  | str => rfl
  | lst h _ => exact kind_lst h
  | tup h _ => exact kind_tup h
theorem rd_gTup {n : Nat} {t : TGs} {v : V} {σ : St} {R : St → Hp → Prop} : gTup K n t v σ H R ↔ ∃ a xs, v = .ref a ∧ SqT K H a xs ∧ xs.length = n ∧ t xs σ H R := Iff.rfl
theorem rd_gCons {t : TG} {u : TGs} {vs : List V} {σ : St} {R : St → Hp → Prop} : gCons t u vs σ H R ↔ ∃ v r, vs = v :: r ∧ t v σ H fun σ' H' => u r σ' H' R := Iff.rfl
theorem rd_gNil {vs : List V} {σ : St} {R : St → Hp → Prop} : gNil vs σ H R ↔ vs = [] ∧ R σ H := Iff.rfl
theorem rd_gSub {to ti : TE} {t : TSet} {v : V} {σ : St} {R : St → Hp → Prop} : gSub to ti t v σ H R ↔ to σ H fun o H1 => ti σ H1 fun i H2 => t o i v H2 fun H3 => R σ H3 := Iff.rfl
theorem set_ref {p : Addr} {k : Int} {v : V} {R : Hp → Prop} : rSetL (.ref p) (.int k) v H R ↔ ∃ xs j, H p = some (.lst xs) ∧ ixN xs.length k = some j ∧ R (upd H p (.lst (xs.set j v))) := by
  constructor
  · rintro ⟨p', xs, k', j, h1, h2, h3⟩; cases h1; cases h2; exact ⟨xs, j, h3⟩
  · rintro ⟨xs, j, h⟩; exact ⟨p, xs, k, j, rfl, rfl, h⟩
end
section
variable {X : Cx} {K : PySem.W.Frag}
end
/-! ### all but one address -/
def SameBut (p : Addr) (H H' : Hp) : Prop := ∀ b o, b ≠ p → H b = some o → H' b = some o
theorem SameBut.refl (p : Addr) (H : Hp) : SameBut p H H := fun _ _ _ e => e
theorem SameBut.trans {p : Addr} {H H' H'' : Hp} (h : SameBut p H H') (h' : SameBut p H' H'') : SameBut p H H'' := fun b o n e => h' b o n (h b o n e)
theorem Same.but {p : Addr} {H H' : Hp} (h : Same H H') : SameBut p H H' := fun b o _ e => h b o e
theorem sameBut_upd {p : Addr} {H : Hp} {o : HO} : SameBut p H (upd H p o) := fun b u n e => by rw [upd_ne n]; exact e
theorem SameBut.toT {p : Addr} {H H' : Hp} {xs : List V} (h : SameBut p H H') (hp : H p = some (.lst xs)) : SameT H H' := fun b ys e => h b _ (ne_of e hp (by intro z; cases z)) e
theorem SameBut.same {p : Addr} {H H' : Hp} (h : SameBut p H H') (hp : H p = none) : Same H H' := fun b o e => h b o (ne_of_none e hp) e

/-! ### a comprehension over a list or tuple whose values are known one by one -/
section
variable {p : Addr} {fv : St} {te : TE} {Q : VK} {H1 : Hp} {K : PySem.W.Frag}
theorem Same.tup {H H' : Hp} {a : Addr} {xs : List V} (e : Same H H') (h : SqT K H a xs) : SqT K H' a xs := by
  rcases h with (h | ⟨o, h⟩) | h
  · exact .inl (.inl (e _ _ h))
  · exact .inl (.inr ⟨o, e _ _ h⟩)
  · exact .inr h
variable {σ : St} {H : Hp} {tl : TE} {tt : TT} {fr : List Nat} {g : TG} {tb : TS} {D : Ends}
theorem rd_compT : tComp (iTup K tl) fr tt te σ H Q ↔ tl σ H fun x H1 => ∃ a, x = .ref a ∧ (∃ xs, SqT K H1 a xs) ∧ ∀ p, H1 p = none → CompI (Itt K a) p (frV σ fr) tt te Q H1 := Iff.rfl
theorem rd_forT : tFor (iTup K te) g tb D σ H ↔ te σ H fun x H1 => ∃ a, x = .ref a ∧ (∃ xs, SqT K H1 a xs) ∧ LoopI (Itt K a) g tb D σ H1 := Iff.rfl
theorem all_ref {a : Addr} : rAllB K [.ref a] H Q ↔ ∃ bs : List Bool, SqL K H a (bs.map V.bl) ∧ Q (.bl (bs.all id)) H := by
  constructor
  · rintro ⟨p, bs, h1, h2⟩; cases h1; exact ⟨bs, h2⟩
  · rintro ⟨bs, h⟩; exact ⟨a, bs, rfl, h⟩
theorem any_ref {a : Addr} : rAnyB K [.ref a] H Q ↔ ∃ bs : List Bool, SqL K H a (bs.map V.bl) ∧ Q (.bl (bs.any id)) H := by
  constructor
  · rintro ⟨p, bs, h1, h2⟩; cases h1; exact ⟨bs, h2⟩
  · rintro ⟨bs, h⟩; exact ⟨a, bs, rfl, h⟩
theorem li_ref {a : Addr} : rListU K [.ref a] H Q ↔ ∃ ys, (SqL K H a ys ∨ SqT K H a ys) ∧ ∀ l, H l = none → Q (.ref l) (upd H l (.lst ys)) := by
  constructor
  · rintro ⟨p, bs, h1, h2⟩; cases h1; exact ⟨bs, h2⟩
  · rintro ⟨bs, h⟩; exact ⟨a, bs, rfl, h⟩
theorem tu_ref {a : Addr} : rTupleU K [.ref a] H Q ↔ ∃ ys, (SqL K H a ys ∧ ∀ l, H l = none → Q (.ref l) (upd H l (.tup ys))) ∨ (SqT K H a ys ∧ Q (.ref a) H) := by
  constructor
  · rintro ⟨p, bs, h1, h2⟩; cases h1; exact ⟨bs, h2⟩
  · rintro ⟨bs, h⟩; exact ⟨a, bs, rfl, h⟩
theorem slT_ref {a : Addr} {lo hi : Option Int} : rSlT K (.ref a) lo hi H Q ↔ ∃ xs, SqT K H a xs ∧ ¬ (HT.sIx xs.length 0 lo = 0 ∧ HT.sIx xs.length xs.length hi = xs.length) ∧ ∀ p, H p = none → Q (.ref p) (upd H p (.tup (cutV xs lo hi))) := by
  constructor
  · rintro ⟨p, bs, h1, h2⟩; cases h1; exact ⟨bs, h2⟩
  · rintro ⟨bs, h⟩; exact ⟨a, bs, rfl, h⟩
end

/-! ### a block cut in two by what holds between -/
def tCut (t u : TS) : TS := fun D σ H => ∃ P : St → Hp → Prop, t { D with nx := P } σ H ∧ ∀ σ' H', P σ' H' → u D σ' H'
section
variable {X : Cx} {st : Stmt} {rest : List Stmt} {t u : TS}
theorem pss_cut (h1 : PS X st t) (h2 : PSs X rest u) : PSs X (st :: rest) (tCut t u) := by
  intro pins s σ H D I h
  obtain ⟨P, h, hu⟩ := h
  refine wpAny_execs_cons (thn (h1 pins s σ H { D with nx := P } I h) fun f s1 q => ?_)
  cases f with
  | next =>
    obtain ⟨σ', H', I', q⟩ := q
    exact h2 pins s1 σ' H' D I' (hu _ _ q)
  | ret v => exact q
  | brk => exact q
  | cont => exact q
/-- what is read only when it is come to: behind a cut, with the names' values at hand -/
def Later (u : TS) (D : Ends) (σ : St) (H : Hp) : Prop := u D σ H
theorem rd_later {D : Ends} {x : Option V} {σ : St} {H : Hp} : Later u D (x :: σ) H ↔ u D (x :: σ) H := Iff.rfl
theorem rd_cut {D : Ends} {σ : St} {H : Hp} : tCut t u D σ H ↔ ∃ P : St → Hp → Prop, t { D with nx := P } σ H ∧ ∀ σ' H', P σ' H' → Later u D σ' H' := Iff.rfl
end
theorem SameBut.free {p q : Addr} {H H' : Hp} (sb : SameBut p H H') (hq : H' q = none) (hne : q ≠ p) : H q = none := by
  cases e : H q with
  | none => rfl
  | some o => rw [sb q o hne e] at hq; cases hq
theorem SameBut.upd {p q : Addr} {H H' : Hp} {o : HO} (sb : SameBut p H H') (hq : H q = none) : SameBut p H (upd H' q o) := fun b u n e => by
  rw [upd_ne (ne_of_none e hq)]; exact sb b u n e
theorem IsTAll.strs {H : Hp} : ∀ (l : List (List Nat)), IsTAll H (l.map fun z => PyData.str ⟨z.toArray⟩) (l.map fun z => V.str ⟨z.toArray⟩)
  | [] => .nil
  | x :: r => .cons (.str _) (IsTAll.strs r)
theorem IsTAll.snoc {H : Hp} {ds : List PyData} {xs : List V} {d : PyData} {x : V} (h : IsTAll H ds xs) (hd : IsT H d x) : IsTAll H (ds ++ [d]) (xs ++ [x]) := h.append (.cons hd .nil)

/-! ### new objects, the heap behind them as any that holds them -/
theorem same_new {H : Hp} {p : Addr} {o : HO} (hp : H p = none) : Same H (upd H p o) := fun b u e => by rw [upd_ne (ne_of_none e hp)]; exact e
def tTupS (t : TA) : TE := fun σ H Q => t σ H fun xs H1 => xs.length ≤ sizeLine ∧ ∀ p H', H1 p = none → Same H1 H' → H' p = some (.tup xs) → Q (.ref p) H'
def tLstS (t : TA) : TE := fun σ H Q => t σ H fun xs H1 => xs.length ≤ sizeLine ∧ ∀ p H', H1 p = none → Same H1 H' → H' p = some (.lst xs) → Q (.ref p) H'
section
variable {X : Cx} {es : List Expr} {t : TA} {pos : Pos} {K : PySem.W.Frag}
theorem pe_tupS {x1} (h : PA X es t) : PE X (.Tuple es x1 pos) (tTupS t) := by
  intro pins s σ H Q I hq
  refine wpAny_Tuple_spliced (thn (h pos pins s σ H _ I hq) fun us s1 ⟨xs, H1, I1, r, z, q⟩ => ⟨by rw [← r.length]; exact z, ?_⟩)
  have hf : H1 s1.heap.objs.size = none := I1.hok.fresh (Nat.le_refl _)
  refine ⟨.ref s1.heap.objs.size, upd H1 s1.heap.objs.size (.tup xs), I1.laid (t' := s1.toks) (fun b u e => Heap.get?_push_of_some _ e) (Nat.le_refl _) ?_, rfl, q _ _ hf (same_new hf) upd_same⟩
  exact ⟨z, us, r, ⟨_, Heap.get?_push_size _ rfl, rfl, _, rfl⟩⟩
theorem pe_lstS (h : PA X es t) : PE X (.List es pos) (tLstS t) := by
  intro pins s σ H Q I hq
  refine wpAny_List_spliced (thn (h pos pins s σ H _ I hq) fun us s1 ⟨xs, H1, I1, r, z, q⟩ => ⟨by rw [← r.length]; exact z, ?_⟩)
  have hf : H1 s1.heap.objs.size = none := I1.hok.fresh (Nat.le_refl _)
  refine ⟨.ref s1.heap.objs.size, upd H1 s1.heap.objs.size (.lst xs), I1.laid (t' := s1.toks) (fun b u e => Heap.get?_push_of_some _ e) (Nat.le_refl _) ?_, rfl, q _ _ hf (same_new hf) upd_same⟩
  exact ⟨z, us, 0, r, Heap.get?_push_size _ rfl⟩
def rAddS (K : PySem.W.Frag) : R2 := fun x y H Q => match x, y with
  | .int i, .int j => Q (.int (i + j)) H
  | .str i, .str j => i.length + j.length ≤ sizeLine ∧ Q (.str (i ++ j)) H
  | .ref a, .ref b => (∃ xs zs, H a = some (.lst xs) ∧ H b = some (.lst zs) ∧ xs.length + zs.length ≤ sizeLine ∧ ∀ p H', H p = none → Same H H' → H' p = some (.lst (xs ++ zs)) → Q (.ref p) H') ∨
      (∃ xs ys, H a = some (.tup xs) ∧ H b = some (.tup ys) ∧ xs.length + ys.length ≤ sizeLine ∧ ∀ p H', Same H H' → H' p = some (.tup (xs ++ ys)) → Q (.ref p) H')
  | _, _ => False
theorem op_addS : OpR X (binaryOp .Add) (rAddS K) := by
  intro pins s σ H x y v u Q I rx ry h
  refine op_addU pins s σ H x y v u Q I rx ry ?_
  cases x with
  | int i =>
    cases y with
    | int j => exact h
    | _ => exact h.elim
  | str i =>
    cases y with
    | str j => exact h
    | _ => exact h.elim
  | ref a =>
    cases y with
    | ref b =>
      rcases h with ⟨xs, zs, h1, h2, h3, h4⟩ | h
      · exact .inl ⟨xs, zs, h1, h2, h3, fun p hp => h4 p _ hp (same_new hp) upd_same⟩
      · exact .inr h
    | _ => exact h.elim
  | _ => exact h.elim
def rListS (K : PySem.W.Frag) : List V → Hp → VK → Prop := fun xs H Q => ∃ p ys, xs = [.ref p] ∧ (SqL K H p ys ∨ SqT K H p ys) ∧ ∀ l H', H l = none → Same H H' → H' l = some (.lst ys) → Q (.ref l) H'
def rTupleS (K : PySem.W.Frag) : List V → Hp → VK → Prop := fun xs H Q => ∃ p ys, xs = [.ref p] ∧ (SqL K H p ys ∨ H p = some (.tup ys)) ∧ ∀ l H', Same H H' → H' l = some (.tup ys) → Q (.ref l) H'
theorem call_tupleS (h : X.K = K) : CallR X (.type "tuple") (rTupleS K) := by
  subst h
  intro pins s σ H xs us Q I r h
  obtain ⟨p, ys, h1, h2, h3⟩ := h
  rcases h2 with h2 | h2
  · exact call_tuple_of pins s σ H xs us Q I r ⟨p, ys, h1, .inl ⟨h2, fun l hl => h3 l _ (same_new hl) upd_same⟩⟩
  · exact call_tuple_of pins s σ H xs us Q I r ⟨p, ys, h1, .inr ⟨SqT.of h2, h3 p H (Same.refl _) h2⟩⟩
def rSlS2 (K : PySem.W.Frag) : V → Option Int → Option Int → Hp → VK → Prop := fun x lo hi H Q => ∃ a xs, x = .ref a ∧ SqT K H a xs ∧
  ¬ (HT.sIx xs.length 0 lo = 0 ∧ HT.sIx xs.length xs.length hi = xs.length) ∧ ∀ p H', H p = none → Same H H' → H' p = some (.tup (cutV xs lo hi)) → Q (.ref p) H'
end
section
variable {σ : St} {H : Hp} {Q : VK} {K : PySem.W.Frag} {aa : TA}
theorem rd_tupS : tTupS aa σ H Q ↔ aa σ H fun xs H1 => xs.length ≤ sizeLine ∧ ∀ p H', H1 p = none → Same H1 H' → H' p = some (.tup xs) → Q (.ref p) H' := Iff.rfl
theorem rd_lstS : tLstS aa σ H Q ↔ aa σ H fun xs H1 => xs.length ≤ sizeLine ∧ ∀ p H', H1 p = none → Same H1 H' → H' p = some (.lst xs) → Q (.ref p) H' := Iff.rfl
theorem adS_int {i j : Int} : rAddS K (.int i) (.int j) H Q ↔ Q (.int (i + j)) H := Iff.rfl
theorem adS_str {i j : Str} : rAddS K (.str i) (.str j) H Q ↔ i.length + j.length ≤ sizeLine ∧ Q (.str (i ++ j)) H := Iff.rfl
theorem liS_ref {a : Addr} : rListS K [.ref a] H Q ↔ ∃ ys, (SqL K H a ys ∨ SqT K H a ys) ∧ ∀ l H', H l = none → Same H H' → H' l = some (.lst ys) → Q (.ref l) H' := by
  constructor
  · rintro ⟨p, bs, h1, h2⟩; cases h1; exact ⟨bs, h2⟩
  · rintro ⟨bs, h⟩; exact ⟨a, bs, rfl, h⟩
theorem tuS_ref {a : Addr} : rTupleS K [.ref a] H Q ↔ ∃ ys, (SqL K H a ys ∨ H a = some (.tup ys)) ∧ ∀ l H', Same H H' → H' l = some (.tup ys) → Q (.ref l) H' := by
  constructor
  · rintro ⟨p, bs, h1, h2⟩; cases h1; exact ⟨bs, h2⟩
  · rintro ⟨bs, h⟩; exact ⟨a, bs, rfl, h⟩
theorem slS_ref {a : Addr} {lo hi : Option Int} : rSlS2 K (.ref a) lo hi H Q ↔ ∃ xs, SqT K H a xs ∧ ¬ (HT.sIx xs.length 0 lo = 0 ∧ HT.sIx xs.length xs.length hi = xs.length) ∧ ∀ p H', H p = none → Same H H' → H' p = some (.tup (cutV xs lo hi)) → Q (.ref p) H' := by
  constructor
  · rintro ⟨p, bs, h1, h2⟩; cases h1; exact ⟨bs, h2⟩
  · rintro ⟨bs, h⟩; exact ⟨a, bs, rfl, h⟩
end

def rSlLS (K : PySem.W.Frag) : V → Option Int → Option Int → Hp → VK → Prop := fun x lo hi H Q => ∃ a xs, x = .ref a ∧ SqL K H a xs ∧ ∀ p H', H p = none → Same H H' → H' p = some (.lst (cutV xs lo hi)) → Q (.ref p) H'
theorem slLS_ref {K : PySem.W.Frag} {H : Hp} {Q : VK} {a : Addr} {lo hi : Option Int} : rSlLS K (.ref a) lo hi H Q ↔ ∃ xs, SqL K H a xs ∧ ∀ p H', H p = none → Same H H' → H' p = some (.lst (cutV xs lo hi)) → Q (.ref p) H' := by
  constructor
  · rintro ⟨p, bs, h1, h2⟩; cases h1; exact ⟨bs, h2⟩
  · rintro ⟨bs, h⟩; exact ⟨a, bs, rfl, h⟩

/-! ### is True, is False -/
def rIsB (neg : Bool) : R2 := fun x y H Q => match x, y with
  | .bl b, .bl c => Q (.bl (if neg then !decide (b = c) else decide (b = c))) H
  | _, _ => False
theorem isB_f {b c : Bool} {H : Hp} {Q : VK} : rIsB false (.bl b) (.bl c) H Q ↔ Q (.bl (decide (b = c))) H := Iff.rfl
end L2
namespace Wm
open PySem L2

/-! ### the signs, and what is told of them, over plain numbers -/
def isSg (c : Nat) : Bool := decide (32 ≤ c) && decide (c ≤ 126) && !decide (c = 37)
def SG : List Nat := (List.range 127).filter isSg
def hexd (n : Nat) : Nat := if n < 10 then 48 + n else 87 + n
def fig (a : Nat) : Option Nat := if 48 ≤ a ∧ a ≤ 57 then some (a - 48) else if 97 ≤ a ∧ a ≤ 102 then some (a - 87) else if 65 ≤ a ∧ a ≤ 70 then some (a - 55) else none
def figV (a : Nat) : V := match fig a with | some n => .int (n : Nat) | none => .non
abbrev one (c : Nat) : V := .str ⟨#[c]⟩
def sgV (n : Nat) : V := if isSg n then one n else .non
def signOf (a b : Nat) : V := match fig a, fig b with | some h, some l => sgV (h * 16 + l) | _, _ => .non
def signOfL : List Nat → V
  | [a, b] => signOf a b
  | _ => .non
theorem mem_SG {c : Nat} : c ∈ SG ↔ isSg c = true := by
  unfold SG
  rw [List.mem_filter, List.mem_range]
  constructor
  · exact fun h => h.2
  · intro h
    refine ⟨?_, h⟩
    simp only [isSg, Bool.and_eq_true, decide_eq_true_eq] at h
    omega
theorem isSg_lt {c : Nat} (h : isSg c = true) : 32 ≤ c ∧ c ≤ 126 ∧ c ≠ 37 := by
  simp only [isSg, Bool.and_eq_true, decide_eq_true_eq, Bool.not_eq_true', decide_eq_false_iff_not] at h
  omega
theorem small_ix : ∀ a, a < 128 → a ∈ (Str.ofString "0123456789abcdef").cps.toList →
    Builtin.Str.occurrences (Str.ofString "0123456789abcdef") ⟨#[a]⟩ 0 (Str.ofString "0123456789abcdef").length 1 = [(fig a).getD 0] ∧ (fig a).isSome = true := by decide +kernel
theorem great_ix : ∀ a, a < 128 → ¬ a ∈ (Str.ofString "0123456789abcdef").cps.toList → a ∈ (Str.ofString "0123456789ABCDEF").cps.toList →
    Builtin.Str.occurrences (Str.ofString "0123456789ABCDEF") ⟨#[a]⟩ 0 (Str.ofString "0123456789ABCDEF").length 1 = [(fig a).getD 0] ∧ (fig a).isSome = true := by decide +kernel
theorem no_ix : ∀ a, a < 128 → ¬ a ∈ (Str.ofString "0123456789abcdef").cps.toList → ¬ a ∈ (Str.ofString "0123456789ABCDEF").cps.toList → fig a = none := by decide +kernel
theorem signs_at : ∀ n, n < 127 → isSg n = true → (Str.ofString " !\"#$&'()*+,-./0123456789:;<=>?@ABCDEFGHIJKLMNOPQRSTUVWXYZ[\\]^_`abcdefghijklmnopqrstuvwxyz{|}~").cps.toList[n - 32 - (if 37 < n then 1 else 0)]? = some n := by decide +kernel
theorem signs_len : (Str.ofString " !\"#$&'()*+,-./0123456789:;<=>?@ABCDEFGHIJKLMNOPQRSTUVWXYZ[\\]^_`abcdefghijklmnopqrstuvwxyz{|}~").length ≤ sizeLine := by decide +kernel
/-! ### slices of a text as pieces of its list of signs -/
theorem pick_list (l : List Nat) (a : Nat) : ∀ k, ((List.range k).map fun j => a + j).filterMap (fun i => l[i]?) = (l.drop a).take k
  | 0 => by simp
  | k + 1 => by
    rw [List.range_succ, List.map_append, List.filterMap_append, pick_list l a k, List.take_add_one, List.getElem?_drop]
    simp only [List.map_cons, List.map_nil]
    cases e : l[a + k]? with
    | none => simp [e]
    | some c => simp [e]
def clipI (n : Nat) (v : Int) : Nat := (max 0 (min (if v < 0 then v + n else v) n)).toNat
theorem sl_range (a b : Nat) : sliceRange (a : Int) (b : Int) 1 = (List.range (b - a)).map fun j => a + j := by
  unfold sliceRange
  have h1 : (1 : Int) > 0 := by decide
  simp only [h1, if_true, Int.one_mul, Int.ediv_one]
  have e : (if (a : Int) < (b : Int) then (b : Int) - (a : Int) + 1 - 1 else 0).toNat = b - a := by split <;> omega
  rw [e]
  apply List.map_congr_left
  intro j _
  omega
theorem indices_gen (lo hi : Option Int) (n : Nat) : Builtin.Str.strSliceIndices lo hi 1 n = (List.range ((hi.elim n (clipI n)) - (lo.elim 0 (clipI n)))).map fun j => (lo.elim 0 (clipI n)) + j := by
  unfold Builtin.Str.strSliceIndices
  have h1 : (1 : Int) > 0 := by decide
  simp only [h1, if_true]
  rw [← sl_range]
  congr 1
  · cases lo with
    | none => rfl
    | some v => simp only [Option.elim_some, clipI]; omega
  · cases hi with
    | none => rfl
    | some v => simp only [Option.elim_some, clipI]; omega
theorem slice_gen (l : List Nat) (lo hi : Option Int) : Txt.slice (⟨l.toArray⟩ : Str) lo hi = ⟨((l.drop (lo.elim 0 (clipI l.length))).take ((hi.elim l.length (clipI l.length)) - (lo.elim 0 (clipI l.length)))).toArray⟩ := by
  have hl : (⟨l.toArray⟩ : Str).length = l.length := by simp [Str.length]
  have hb : hi.elim l.length (clipI l.length) ≤ l.length := by
    cases hi with
    | none => exact Nat.le_refl _
    | some v => simp only [Option.elim_some, clipI]; omega
  have hb' : lo.elim 0 (clipI l.length) ≤ l.length := by
    cases lo with
    | none => exact Nat.zero_le _
    | some v => simp only [Option.elim_some, clipI]; omega
  have ef : (fun i : Nat => (⟨l.toArray⟩ : Str).cps[i]?) = fun i => l[i]? := by funext i; simp
  unfold Txt.slice
  rw [hl, indices_gen, ef]
  split
  · rename_i h
    simp only [List.length_map, List.length_range, beq_self_eq_true, Bool.true_and, beq_iff_eq] at h
    have e1 : lo.elim 0 (clipI l.length) = 0 := by omega
    have e2 : hi.elim l.length (clipI l.length) = l.length := by omega
    rw [e1, e2]
    simp
  · rw [pick_list l (lo.elim 0 (clipI l.length)) ((hi.elim l.length (clipI l.length)) - (lo.elim 0 (clipI l.length)))]
theorem clip_nat (n k : Nat) : clipI n (k : Int) = min k n := by unfold clipI; split <;> omega
theorem slice_from (l : List Nat) (k : Nat) : Txt.slice (⟨l.toArray⟩ : Str) (some (k : Int)) none = ⟨(l.drop k).toArray⟩ := by
  rw [slice_gen]
  simp only [Option.elim_some, Option.elim_none, clip_nat]
  by_cases h : k ≤ l.length
  · rw [Nat.min_eq_left h, List.take_of_length_le (by simp)]
  · rw [Nat.min_eq_right (by omega), List.drop_eq_nil_of_le (Nat.le_refl _), List.drop_eq_nil_of_le (by omega)]
    simp
theorem slice_to (l : List Nat) (k : Nat) : Txt.slice (⟨l.toArray⟩ : Str) none (some (k : Int)) = ⟨(l.take k).toArray⟩ := by
  rw [slice_gen]
  simp only [Option.elim_some, Option.elim_none, clip_nat, List.drop_zero, Nat.sub_zero]
  by_cases h : k ≤ l.length
  · rw [Nat.min_eq_left h]
  · rw [Nat.min_eq_right (by omega), List.take_length, List.take_of_length_le (by omega)]
theorem slice_mid (l : List Nat) (i j : Nat) : Txt.slice (⟨l.toArray⟩ : Str) (some (i : Int)) (some (j : Int)) = ⟨((l.drop i).take (j - i)).toArray⟩ := by
  rw [slice_gen]
  simp only [Option.elim_some, clip_nat]
  by_cases h : i ≤ l.length
  · rw [Nat.min_eq_left h]
    by_cases h2 : j ≤ l.length
    · rw [Nat.min_eq_left h2]
    · rw [Nat.min_eq_right (by omega : l.length ≤ j), List.take_of_length_le (by simp), List.take_of_length_le (by simp; omega)]
  · rw [Nat.min_eq_right (by omega : l.length ≤ i), List.drop_eq_nil_of_le (Nat.le_refl _), List.drop_eq_nil_of_le (by omega)]
    simp
theorem emp_eq : Str.ofString "" = ⟨([] : List Nat).toArray⟩ := by decide +kernel
theorem join_one (ys : List Str) : Txt.join (⟨([] : List Nat).toArray⟩ : Str) ys = ⟨(ys.flatMap fun y => y.cps.toList).toArray⟩ := by
  show Builtin.Str.glued _ _ = _
  rw [StrLaws.glued_eq_join]
  induction ys with
  | nil => rfl
  | cons y r ih =>
    cases r with
    | nil =>
      show y = _
      simp
    | cons z r =>
      show y ++ (⟨#[]⟩ : Str) ++ Str.join ⟨#[]⟩ (z :: r) = _
      rw [ih]
      show Str.mk (y.cps ++ #[] ++ _) = _
      simp [List.flatMap_cons]
theorem mk_app (l m : List Nat) : ((⟨l.toArray⟩ : Str) ++ (⟨m.toArray⟩ : Str)) = ⟨(l ++ m).toArray⟩ := by
  show Str.mk (l.toArray ++ m.toArray) = _
  simp
theorem mk_inj {l m : List Nat} : ((⟨l.toArray⟩ : Str) = ⟨m.toArray⟩) ↔ l = m := by
  constructor
  · intro h; injection h with h; injection h
  · rintro rfl; rfl
theorem mk_len (l : List Nat) : (⟨l.toArray⟩ : Str).length = l.length := by simp [Str.length]

theorem tilde_eq : Str.ofString "~" = ⟨[126].toArray⟩ := by decide +kernel
theorem slice_1 (l : List Nat) : Txt.slice (⟨l.toArray⟩ : Str) (some 1) none = ⟨(l.drop 1).toArray⟩ := slice_from l 1
theorem figV_some {a n : Nat} (h : fig a = some n) : figV a = .int (n : Nat) := by unfold figV; rw [h]
theorem figV_none {a : Nat} (h : fig a = none) : figV a = .non := by unfold figV; rw [h]
theorem sgV_yes {n : Nat} (h : isSg n = true) : sgV n = one n := by unfold sgV; rw [if_pos h]
theorem sgV_no {n : Nat} (h : ¬ isSg n = true) : sgV n = .non := by unfold sgV; rw [if_neg h]
theorem isSg_of {n : Nat} (h1 : 32 ≤ n) (h2 : n ≤ 126) (h3 : n ≠ 37) : isSg n = true := by
  simp only [isSg, Bool.and_eq_true, decide_eq_true_eq, Bool.not_eq_true', decide_eq_false_iff_not]
  omega
theorem signOfL_no {l : List Nat} (h : l.length ≠ 2) : signOfL l = .non := by
  match l with
  | [] => rfl
  | [_] => rfl
  | [_, _] => exact absurd rfl h
  | _ :: _ :: _ :: _ => rfl
theorem two_of {l : List Nat} (h : l.length = 2) : ∃ a b, l = [a, b] := by
  match l, h with
  | [a, b], _ => exact ⟨a, b, rfl⟩
/-! ### written texts -/
def isPl (c : Nat) : Bool := decide (48 ≤ c ∧ c ≤ 57) || decide (65 ≤ c ∧ c ≤ 90) || decide (97 ≤ c ∧ c ≤ 122) || decide (c = 45) || decide (c = 46) || decide (c = 95)
theorem plain_in : ∀ c, c < 128 → (decide (c ∈ (Str.ofString "abcdefghijklmnopqrstuvwxyzABCDEFGHIJKLMNOPQRSTUVWXYZ0123456789-_.").cps.toList)) = isPl c := by decide +kernel
def wr1 (c : Nat) : List Nat := if isPl c then [c] else [126, hexd (c / 16), hexd (c % 16)]
def wr (l : List Nat) : List Nat := l.flatMap wr1
theorem wr1_len (c : Nat) : (wr1 c).length ≤ 3 := by unfold wr1; split <;> simp
theorem wr_len (l : List Nat) : (wr l).length ≤ 3 * l.length := by
  induction l with
  | nil => simp [wr]
  | cons c r ih =>
    have := wr1_len c
    unfold wr at ih ⊢
    rw [List.flatMap_cons, List.length_append, List.length_cons]
    omega
/-! ### texts undone -/
def sgO (a b : Nat) : Option Nat := match fig a, fig b with
  | some h, some l => if isSg (h * 16 + l) then some (h * 16 + l) else none
  | _, _ => none
def oV : Option Nat → V
  | some c => one c
  | none => .non
theorem signOf_eq (a b : Nat) : signOf a b = oV (sgO a b) := by
  unfold signOf sgO
  cases fig a with
  | none => rfl
  | some h =>
    cases fig b with
    | none => rfl
    | some l =>
      simp only [sgV]
      split <;> rfl
/-! ### what the laws draw -/
theorem le_line {n : Nat} (h : n ≤ 100000) : n ≤ sizeLine := Nat.le_trans h (by decide)
theorem map_arr (f : Nat → Nat) (l : List Nat) : (l.toArray).map f = (l.map f).toArray := by simp
theorem mk_list (l : List Nat) : (⟨l.toArray⟩ : Str).cps.toList = l := rfl
theorem flat_codes (dn : List Nat) : ((dn.map fun c => (⟨[c].toArray⟩ : Str)).flatMap fun y => y.cps.toList) = dn := by
  induction dn with
  | nil => rfl
  | cons c r ih => rw [List.map_cons, List.flatMap_cons, ih]; rfl
theorem sum_codes (dn : List Nat) : ((dn.map fun c => (⟨[c].toArray⟩ : Str)).map (·.length)).sum = dn.length := by
  induction dn with
  | nil => rfl
  | cons c r ih => rw [List.map_cons, List.map_cons, List.sum_cons, ih, List.length_cons]; show 1 + _ = _; omega
end Wm
/-! ADDRESSES as data: what is_address tells, over trees -/
namespace Wm
open PySem L2
mutual
def smallD : PyData → Bool
  | .str x => decide (x.length ≤ 100000)
  | .list xs => decide (xs.length ≤ 100000) && smallAll xs
  | .tuple xs => decide (xs.length ≤ 100000) && smallAll xs
  | .dict _ => false
  | .none => true
  | .bool _ => true
  | .int _ => true
def smallAll : List PyData → Bool
  | [] => true
  | d :: ds => smallD d && smallAll ds
end
theorem smallAll_of : ∀ {ds : List PyData}, (∀ d ∈ ds, smallD d = true) → smallAll ds = true
  | [], _ => rfl
  | d :: ds, h => by
    simp only [smallAll, Bool.and_eq_true]
    exact ⟨h d List.mem_cons_self, smallAll_of fun e he => h e (List.mem_cons_of_mem _ he)⟩
theorem small_str {x : Str} (h : smallD (.str x) = true) : x.length ≤ 100000 := by simpa [smallD] using h
theorem small_tup_of {ds : List PyData} (h : ds.length ≤ 100000) (h2 : smallAll ds = true) : smallD (.tuple ds) = true := by simp [smallD, h, h2]
def isLet (c : Nat) : Bool := decide (65 ≤ c ∧ c ≤ 90) || decide (97 ≤ c ∧ c ≤ 122)
def isAln (c : Nat) : Bool := isLet c || decide (48 ≤ c ∧ c ≤ 57)
theorem let_in : ∀ c, c < 128 → (decide (c ∈ (Str.ofString "abcdefghijklmnopqrstuvwxyzABCDEFGHIJKLMNOPQRSTUVWXYZ").cps.toList)) = isLet c := by decide +kernel
theorem aln_in : ∀ c, c < 128 → (decide (c ∈ (Str.ofString "abcdefghijklmnopqrstuvwxyzABCDEFGHIJKLMNOPQRSTUVWXYZ0123456789").cps.toList)) = isAln c := by decide +kernel
theorem sig_eq : (Str.ofString " !\"#$&'()*+,-./0123456789:;<=>?@ABCDEFGHIJKLMNOPQRSTUVWXYZ[\\]^_`abcdefghijklmnopqrstuvwxyz{|}~").cps.toList = SG := by decide +kernel
theorem sig_in (c : Nat) : (decide (c ∈ (Str.ofString " !\"#$&'()*+,-./0123456789:;<=>?@ABCDEFGHIJKLMNOPQRSTUVWXYZ[\\]^_`abcdefghijklmnopqrstuvwxyz{|}~").cps.toList)) = isSg c := by
  rw [sig_eq, Bool.eq_iff_iff, decide_eq_true_eq, mem_SG]
/-- a text of signs -/
def tx : PyData → Bool
  | .str x => x.cps.toList.all isSg
  | _ => false
def ftx : PyData → Bool
  | .str x => x.cps.toList.all isSg && decide (0 < x.length)
  | _ => false
def ntx : PyData → Bool
  | .none => true
  | .str x => x.cps.toList.all isSg
  | _ => false
def schD : PyData → Bool
  | .str x => x.cps.toList.all isSg && decide (x.length ≤ 8) && (x.cps.toList.take 1).all isLet && x.cps.toList.all isAln
  | _ => false
def houD : PyData → Bool
  | .none => true
  | .str x => x.cps.toList.all isSg && decide (0 < x.length) && decide (x.length ≤ 60)
  | _ => false
def dooD : PyData → Bool
  | .none => true
  | .int i => decide (0 ≤ i) && decide (i ≤ 65535)
  | _ => false
def wayD : PyData → Bool
  | .tuple [a, b, c] => match a, b, c with
    | .bool r, .tuple ds, .bool e => ds.all ftx && (decide (0 < ds.length) || decide (r = e))
    | _, _, _ => false
  | _ => false
def askD : PyData → Bool
  | .tuple [a, b] => ftx a && ntx b
  | _ => false
def queD : PyData → Bool
  | .none => true
  | .tuple ds => ds.all askD
  | _ => false
def nonD : PyData → Bool
  | .none => true
  | _ => false
def agrD (a b c d : PyData) : Bool := (nonD c || !nonD b) && ((match d with | .tuple (.bool r :: _) => r | _ => false) || !((match a with | .str x => !decide (x = ⟨#[]⟩) | _ => false) || !nonD b))
def addrD : PyData → Bool
  | .tuple [a, b, c, d, e, f] => (schD a && (houD b && (dooD c && (wayD d && (queD e && ntx f))))) && agrD a b c d
  | _ => false
/-! ### an address -/
abbrev st (l : List Nat) : PyData := .str ⟨l.toArray⟩
def oD : Option (List Nat) → PyData
  | none => .none
  | some l => st l
def otV : Option (List Nat) → V
  | none => .non
  | some l => .str ⟨l.toArray⟩
theorem is_oD {H : Hp} (o : Option (List Nat)) : IsT H (oD o) (otV o) := by
  cases o with
  | none => exact .non
  | some x => exact .str _
def iD : Option Int → PyData
  | none => .none
  | some i => .int i
def qD : Option (List (List Nat × Option (List Nat))) → PyData
  | none => .none
  | some ps => .tuple (ps.map fun p => .tuple [st p.1, oD p.2])
structure Ad where
  scheme : List Nat
  house : Option (List Nat)
  door : Option Int
  rooted : Bool
  steps : List (List Nat)
  ends : Bool
  quest : Option (List (List Nat × Option (List Nat)))
  mark : Option (List Nat)
def Ad.way (x : Ad) : PyData := .tuple [.bool x.rooted, .tuple (x.steps.map st), .bool x.ends]
def Ad.data (x : Ad) : PyData := .tuple [st x.scheme, oD x.house, iD x.door, x.way, qD x.quest, oD x.mark]
/-- a text of signs of at most so many -/
def Tx (n : Nat) (l : List Nat) : Prop := l.length ≤ n ∧ ∀ c ∈ l, isSg c = true
structure Ad.Ok (x : Ad) : Prop where
  sch : x.scheme.length ≤ 8 ∧ (∀ c ∈ x.scheme, isAln c = true) ∧ ∀ c ∈ x.scheme.take 1, isLet c = true
  hou : ∀ l, x.house = some l → 0 < l.length ∧ Tx 60 l
  doo : ∀ i, x.door = some i → (0 ≤ i ∧ i ≤ 65535) ∧ x.house ≠ none
  stp : x.steps.length ≤ 50 ∧ ∀ l ∈ x.steps, 0 < l.length ∧ Tx 60 l
  roo : x.scheme ≠ [] ∨ x.house ≠ none → x.rooted = true
  end_ : x.steps = [] → x.ends = x.rooted
  que : ∀ ps, x.quest = some ps → ps.length ≤ 20 ∧ ∀ p ∈ ps, (0 < p.1.length ∧ Tx 6 p.1) ∧ ∀ v, p.2 = some v → Tx 6 v
  mar : ∀ l, x.mark = some l → Tx 60 l
theorem aln_sg {c : Nat} (h : isAln c = true) : isSg c = true := by
  simp only [isAln, isLet, Bool.or_eq_true, decide_eq_true_eq] at h
  simp only [isSg, Bool.and_eq_true, decide_eq_true_eq, Bool.not_eq_true', decide_eq_false_iff_not]
  omega
theorem st_len (l : List Nat) : (⟨l.toArray⟩ : Str).length = l.length := mk_len l
theorem small_st {l : List Nat} {n : Nat} (h : Tx n l) (hn : n ≤ 100000) : smallD (st l) = true := by
  simp only [smallD, st_len, decide_eq_true_eq]
  have := h.1
  omega
theorem small_oD {o : Option (List Nat)} {n : Nat} (h : ∀ l, o = some l → Tx n l) (hn : n ≤ 100000) : smallD (oD o) = true := by
  cases o with
  | none => rfl
  | some l => exact small_st (h l rfl) hn
theorem Ad.Ok.smallWay {x : Ad} (h : x.Ok) : smallD x.way = true := by
  have h1 : smallD (.tuple (x.steps.map st)) = true := small_tup_of (by rw [List.length_map]; have := h.stp.1; omega) (smallAll_of fun d hd => by
    obtain ⟨l, hl, rfl⟩ := List.mem_map.mp hd
    exact small_st (h.stp.2 l hl).2 (by decide))
  exact small_tup_of (by simp) (by simp only [smallAll, h1]; rfl)
theorem Ad.Ok.smallQ {x : Ad} (h : x.Ok) : smallD (qD x.quest) = true := by
  cases e : x.quest with
  | none => rfl
  | some ps =>
    have hq := h.que ps e
    refine small_tup_of (by rw [List.length_map]; have := hq.1; omega) (smallAll_of fun d hd => ?_)
    obtain ⟨p, hp, rfl⟩ := List.mem_map.mp hd
    obtain ⟨h1, h2⟩ := hq.2 p hp
    exact small_tup_of (by simp) (by simp only [smallAll, small_st h1.2 (by decide), small_oD h2 (by decide)]; rfl)
theorem Ad.Ok.smallS {x : Ad} (h : x.Ok) : smallD (st x.scheme) = true := small_st ⟨h.sch.1, fun c hc => aln_sg (h.sch.2.1 c hc)⟩ (by decide)
theorem Ad.Ok.smallH {x : Ad} (h : x.Ok) : smallD (oD x.house) = true := small_oD (fun l e => (h.hou l e).2) (by decide)
theorem Ad.Ok.smallI {x : Ad} (h : x.Ok) : smallD (iD x.door) = true := by cases x.door <;> rfl
theorem Ad.Ok.smallM {x : Ad} (h : x.Ok) : smallD (oD x.mark) = true := small_oD h.mar (by decide)
theorem Ad.Ok.small {x : Ad} (h : x.Ok) : smallD x.data = true :=
  small_tup_of (by simp) (by simp only [smallAll, h.smallS, h.smallH, h.smallI, h.smallWay, h.smallQ, h.smallM]; rfl)

/-! ### decks that are drawn from -/
def Deck (H : Hp) (p : Addr) (n : Nat) : Prop := ∃ a b c : Int, H p = some (.lst [.int a, .int b, .int c]) ∧ 0 ≤ c ∧ c ≤ n
theorem Deck.lst {H : Hp} {p : Addr} {n : Nat} (h : Deck H p n) : ∃ xs, H p = some (.lst xs) := by obtain ⟨a, b, c, h, _⟩ := h; exact ⟨_, h⟩
theorem Deck.le {H : Hp} {p : Addr} {n m : Nat} (h : Deck H p n) (hm : n ≤ m) : Deck H p m := by obtain ⟨a, b, c, h, h1, h2⟩ := h; exact ⟨a, b, c, h, h1, by omega⟩
theorem Deck.same {H H' : Hp} {p : Addr} {n : Nat} (h : Deck H p n) (sm : Same H H') : Deck H' p n := by obtain ⟨a, b, c, h, r⟩ := h; exact ⟨a, b, c, sm _ _ h, r⟩
theorem Deck.ne {H : Hp} {p q : Addr} {n : Nat} (h : Deck H p n) (hq : H q = none) : q ≠ p := by
  obtain ⟨xs, e⟩ := h.lst
  exact (ne_of_none e hq).symm
theorem Deck.upd {H : Hp} {p q : Addr} {n : Nat} {o : HO} (h : Deck H p n) (hq : q ≠ p) : Deck (upd H q o) p n := by
  obtain ⟨a, b, c, h, r⟩ := h
  exact ⟨a, b, c, by rw [upd_ne (Ne.symm hq)]; exact h, r⟩
theorem Deck.toT {H H' : Hp} {p : Addr} {n : Nat} (h : Deck H p n) (sb : SameBut p H H') : SameT H H' := by
  obtain ⟨xs, e⟩ := h.lst
  exact sb.toT e

def itV : Option Int → V
  | none => .non
  | some i => .int i
theorem is_iD {H : Hp} (o : Option Int) : IsT H (iD o) (itV o) := by
  cases o with
  | none => exact .non
  | some x => exact .int _
theorem mk_nil {l : List Nat} : ((⟨l.toArray⟩ : Str) = ⟨#[]⟩) ↔ l = [] := mk_inj (m := [])

/-! ### things that are none -/
def Bad (f : PyData → Bool) (H : Hp) (v : V) : Prop := ∃ d, Is H d v ∧ smallD d = true ∧ f d = false
theorem Bad.mono {f : PyData → Bool} {H H' : Hp} {v : V} (h : Bad f H v) (sm : Same H H') : Bad f H' v := by
  obtain ⟨d, h1, h2⟩ := h
  exact ⟨d, h1.mono sm, h2⟩
def Bads (f : PyData → Bool) (H : Hp) (vs : List V) : Prop := ∀ v ∈ vs, Bad f H v
theorem Bads.nil {f : PyData → Bool} {H : Hp} : Bads f H [] := fun v h => absurd h (by simp)
theorem Bads.cons {f : PyData → Bool} {H : Hp} {v : V} {vs : List V} (h : Bad f H v) (r : Bads f H vs) : Bads f H (v :: vs) := fun w hw => by
  rcases List.mem_cons.mp hw with rfl | hw
  · exact h
  · exact r w hw
theorem Bads.mono {f : PyData → Bool} {H H' : Hp} {vs : List V} (h : Bads f H vs) (sm : Same H H') : Bads f H' vs := fun v hv => (h v hv).mono sm
/-! ### one list left out of sight (it will be written to) -/
def HQ (qo : Option Addr) (H : Hp) : Prop := ∀ q, qo = some q → ∃ xs, H q = some (.lst xs)
theorem HQ.mono {qo : Option Addr} {H H' : Hp} (h : HQ qo H) (sm : Same H H') : HQ qo H' := fun q e => by
  obtain ⟨xs, hx⟩ := h q e
  exact ⟨xs, sm _ _ hx⟩
/-- six things of which one is none of its kind -/
def BadL (H : Hp) (xs : List V) : Prop := ∃ ds, IsAll H ds xs ∧ ds.length = 6 ∧ smallAll ds = true ∧ addrD (.tuple ds) = false

theorem BadL.mono {H H' : Hp} {xs : List V} (h : BadL H xs) (sm : Same H H') : BadL H' xs := by
  obtain ⟨ds, r, h⟩ := h
  exact ⟨ds, r.mono sm, h⟩
end Wm
/-! SHOWING, as mathematics: the text of an address; unlike addresses have unlike texts -/
namespace Wm
open PySem L2
def dg (i : Int) : List Nat := (Str.ofString (toString i)).cps.toList
theorem dg_fig {i : Int} (hi : 0 ≤ i) : ∀ c ∈ dg i, 48 ≤ c ∧ c ≤ 57 := by
  intro c hc
  obtain ⟨n, rfl⟩ := Int.eq_ofNat_of_zero_le hi
  unfold dg at hc
  rw [PySem.W.KIN.signs_num, List.mem_map] at hc
  obtain ⟨d, hd, rfl⟩ := hc
  have := Nat.isDigit_of_mem_toDigits (by decide) (by decide) hd
  simp only [Char.isDigit, Bool.and_eq_true, decide_eq_true_eq] at this
  exact ⟨this.1, this.2⟩
theorem dg_len {i : Int} (hi : 0 ≤ i) (hi' : i ≤ 65535) : (dg i).length ≤ 5 := by
  have := PyProof.Rows.toString_length_le hi (k := 5) (by decide) (by omega)
  simpa [dg, Str.length] using this

/-! ### cutting at the first sign that parts -/
def Hd (p : Nat → Bool) (r : List Nat) : Prop := ∀ c r', r = c :: r' → p c = true
theorem Hd.nil {p : Nat → Bool} : Hd p [] := fun c r' h => by cases h
theorem Hd.cons {p : Nat → Bool} {c : Nat} {r : List Nat} (h : p c = true) : Hd p (c :: r) := fun d r' e => by injection e with e; exact e ▸ h
/-! ### what is written -/
def wch (c : Nat) : Bool := isPl c || decide (c = 126)
theorem hexd_pl : ∀ n, n < 16 → isPl (hexd n) = true := by decide +kernel
theorem wr_ch {l : List Nat} (h : ∀ c ∈ l, isSg c = true) : ∀ c ∈ wr l, wch c = true := by
  intro c hc
  unfold wr at hc
  obtain ⟨d, hd, hc⟩ := List.mem_flatMap.mp hc
  have := isSg_lt (h d hd)
  unfold wr1 at hc
  split at hc
  · next hp => rw [List.mem_singleton] at hc; rw [hc, wch, hp]; rfl
  · simp only [List.mem_cons, List.not_mem_nil, or_false] at hc
    rcases hc with rfl | rfl | rfl
    · rfl
    · rw [wch, hexd_pl _ (by omega)]; rfl
    · rw [wch, hexd_pl _ (by omega)]; rfl
theorem aln_wch {c : Nat} (h : isAln c = true) : wch c = true := by
  simp only [isAln, isLet, Bool.or_eq_true, decide_eq_true_eq] at h
  simp only [wch, isPl, Bool.or_eq_true, decide_eq_true_eq]
  omega
/-! ### pieces with a sign between two -/
def tlT (sep : Nat) : List (List Nat) → List Nat
  | [] => []
  | s :: r => sep :: (s ++ tlT sep r)
def joinT (sep : Nat) : List (List Nat) → List Nat
  | [] => []
  | s :: r => s ++ tlT sep r
def Free (sep : Nat) (ss : List (List Nat)) : Prop := ∀ s ∈ ss, ∀ c ∈ s, c ≠ sep
theorem Free.hd {sep : Nat} {s : List Nat} {ss : List (List Nat)} (h : Free sep (s :: ss)) : ∀ c ∈ s, (fun c => decide (c = sep)) c = false := fun c hc => decide_eq_false (h s (List.mem_cons_self ..) c hc)
theorem Free.tl {sep : Nat} {s : List Nat} {ss : List (List Nat)} (h : Free sep (s :: ss)) : Free sep ss := fun t ht => h t (List.mem_cons_of_mem _ ht)
theorem tl_all {sep : Nat} {P : Nat → Prop} (hs : P sep) : ∀ {a : List (List Nat)}, (∀ s ∈ a, ∀ c ∈ s, P c) → ∀ c ∈ tlT sep a, P c
  | [], _, c, hc => by cases hc
  | s :: a, h, c, hc => by
    simp only [tlT, List.mem_cons, List.mem_append] at hc
    rcases hc with rfl | hc | hc
    · exact hs
    · exact h s (List.mem_cons_self ..) c hc
    · exact tl_all hs (fun t ht => h t (List.mem_cons_of_mem _ ht)) c hc
theorem join_all {sep : Nat} {P : Nat → Prop} (hs : P sep) {a : List (List Nat)} (h : ∀ s ∈ a, ∀ c ∈ s, P c) : ∀ c ∈ joinT sep a, P c := by
  intro c hc
  match a with
  | [] => cases hc
  | s :: a =>
    simp only [joinT, List.mem_append] at hc
    rcases hc with hc | hc
    · exact h s (List.mem_cons_self ..) c hc
    · exact tl_all hs (fun t ht => h t (List.mem_cons_of_mem _ ht)) c hc

/-! ### the parts of an address, and the whole -/
def oT (sep : Nat) : Option (List Nat) → List Nat
  | none => []
  | some l => sep :: wr l
def pairT (p : List Nat × Option (List Nat)) : List Nat := wr p.1 ++ oT 61 p.2
def queT : Option (List (List Nat × Option (List Nat))) → List Nat
  | none => []
  | some ps => 63 :: joinT 38 (ps.map pairT)
def wayT (r : Bool) (ss : List (List Nat)) (e : Bool) : List Nat := (if r then [47] else []) ++ (joinT 47 (ss.map wr) ++ (if e && !ss.isEmpty then [47] else []))
def dooT : Option Int → List Nat
  | none => []
  | some i => 58 :: dg i
def houT : Option (List Nat) → List Nat
  | none => []
  | some l => 47 :: 47 :: wr l
def schT (s : List Nat) : List Nat := if s = [] then [] else s ++ [58]
def Ad.wayT (x : Ad) : List Nat := Wm.wayT x.rooted x.steps x.ends
def Ad.shw (x : Ad) : List Nat := schT x.scheme ++ (houT x.house ++ (dooT x.door ++ (x.wayT ++ (queT x.quest ++ oT 35 x.mark))))
theorem oT_all {sep : Nat} {P : Nat → Prop} (hs : P sep) (hw : ∀ c, wch c = true → P c) {o : Option (List Nat)} (h : ∀ l, o = some l → ∀ c ∈ l, isSg c = true) : ∀ c ∈ oT sep o, P c := by
  intro c hc
  cases o with
  | none => cases hc
  | some l =>
    simp only [oT, List.mem_cons] at hc
    rcases hc with rfl | hc
    · exact hs
    · exact hw c (wr_ch (h l rfl) c hc)
/-- a pair whose name has a sign, of signs -/
def PairOk (p : List Nat × Option (List Nat)) : Prop := (0 < p.1.length ∧ ∀ c ∈ p.1, isSg c = true) ∧ ∀ v, p.2 = some v → ∀ c ∈ v, isSg c = true
theorem pair_all {P : Nat → Prop} (hs : P 61) (hw : ∀ c, wch c = true → P c) {p : List Nat × Option (List Nat)} (h : PairOk p) : ∀ c ∈ pairT p, P c := by
  intro c hc
  rcases List.mem_append.mp hc with hc | hc
  · exact hw c (wr_ch h.1.2 c hc)
  · exact oT_all hs hw h.2 c hc
def StepOk (s : List Nat) : Prop := 0 < s.length ∧ ∀ c ∈ s, isSg c = true
def stpT (ss : List (List Nat)) (e : Bool) : List Nat := joinT 47 (ss.map wr) ++ (if e && !ss.isEmpty then [47] else [])
theorem wayT_eq (r : Bool) (ss : List (List Nat)) (e : Bool) : wayT r ss e = (if r then [47] else []) ++ stpT ss e := rfl
/-- what the document asks of an address, without the bounds of those that are drawn -/
structure Ad.Wf (x : Ad) : Prop where
  sch : x.scheme.length ≤ 8 ∧ (∀ c ∈ x.scheme, isAln c = true) ∧ ∀ c ∈ x.scheme.take 1, isLet c = true
  hou : ∀ l, x.house = some l → (0 < l.length ∧ l.length ≤ 60) ∧ ∀ c ∈ l, isSg c = true
  doo : ∀ i, x.door = some i → (0 ≤ i ∧ i ≤ 65535) ∧ x.house ≠ none
  stp : ∀ s ∈ x.steps, StepOk s
  roo : x.scheme ≠ [] ∨ x.house ≠ none → x.rooted = true
  end_ : x.steps = [] → x.ends = x.rooted
  que : ∀ ps, x.quest = some ps → ∀ p ∈ ps, PairOk p
  mar : ∀ l, x.mark = some l → ∀ c ∈ l, isSg c = true
theorem Ad.Ok.wf {x : Ad} (h : x.Ok) : x.Wf where
  sch := h.sch
  hou := fun l e => ⟨⟨(h.hou l e).1, (h.hou l e).2.1⟩, (h.hou l e).2.2⟩
  doo := h.doo
  stp := fun s hs => ⟨(h.stp.2 s hs).1, (h.stp.2 s hs).2.2⟩
  roo := h.roo
  end_ := h.end_
  que := fun ps e p hp => ⟨⟨((h.que ps e).2 p hp).1.1, ((h.que ps e).2 p hp).1.2.2⟩, fun v hv => (((h.que ps e).2 p hp).2 v hv).2⟩
  mar := fun l e => (h.mar l e).2
/-- house, door and way -/
def Ad.mid (x : Ad) : List Nat := houT x.house ++ (dooT x.door ++ x.wayT)
def Ad.pre (x : Ad) : List Nat := schT x.scheme ++ x.mid
theorem Ad.shw_eq (x : Ad) : x.shw = (x.pre ++ queT x.quest) ++ oT 35 x.mark := by simp [Ad.shw, Ad.pre, Ad.mid]
theorem stp_all {P : Nat → Prop} (hs : P 47) (hw : ∀ c, wch c = true → P c) {ss : List (List Nat)} {e : Bool} (h : ∀ s ∈ ss, StepOk s) : ∀ c ∈ stpT ss e, P c := by
  intro c hc
  rcases List.mem_append.mp hc with hc | hc
  · refine join_all hs (fun s hs' d hd => ?_) c hc
    obtain ⟨t, ht, rfl⟩ := List.mem_map.mp hs'
    exact hw d (wr_ch (h t ht).2 d hd)
  · split at hc
    · rw [List.mem_singleton.mp hc]; exact hs
    · cases hc
theorem way_all {P : Nat → Prop} (hs : P 47) (hw : ∀ c, wch c = true → P c) {r : Bool} {ss : List (List Nat)} {e : Bool} (h : ∀ s ∈ ss, StepOk s) : ∀ c ∈ wayT r ss e, P c := by
  intro c hc
  rw [wayT_eq] at hc
  rcases List.mem_append.mp hc with hc | hc
  · split at hc
    · rw [List.mem_singleton.mp hc]; exact hs
    · cases hc
  · exact stp_all hs hw h c hc
theorem dig_wch {c : Nat} (h : 48 ≤ c ∧ c ≤ 57) : wch c = true := by
  simp only [wch, isPl, Bool.or_eq_true, decide_eq_true_eq]; omega
theorem Ad.Wf.pre_all {P : Nat → Prop} {x : Ad} (h : x.Wf) (h1 : P 47) (h2 : P 58) (hw : ∀ c, wch c = true → P c) : ∀ c ∈ x.pre, P c := by
  intro c hc
  rcases List.mem_append.mp hc with hc | hc
  · unfold schT at hc
    split at hc
    · cases hc
    · rcases List.mem_append.mp hc with hc | hc
      · exact hw c (aln_wch (h.sch.2.1 c hc))
      · rw [List.mem_singleton.mp hc]; exact h2
  rcases List.mem_append.mp hc with hc | hc
  · cases hh : x.house with
    | none => rw [hh] at hc; cases hc
    | some l =>
      rw [hh] at hc
      simp only [houT, List.mem_cons] at hc
      rcases hc with rfl | rfl | hc
      · exact h1
      · exact h1
      · exact hw c (wr_ch (h.hou l hh).2 c hc)
  rcases List.mem_append.mp hc with hc | hc
  · cases hd : x.door with
    | none => rw [hd] at hc; cases hc
    | some i =>
      rw [hd] at hc
      simp only [dooT, List.mem_cons] at hc
      rcases hc with rfl | hc
      · exact h2
      · exact hw c (dig_wch (dg_fig (h.doo i hd).1.1 c hc))
  · exact way_all h1 hw h.stp c hc
/-! ### addresses as data: when two are ==, and that == may be asked of them -/
theorem eqv_st (l m : List Nat) : PyData.eqv (st l) (st m) = true ↔ l = m := by
  simp only [PyData.eqv, beq_iff_eq]; exact mk_inj
theorem eqv_oD (a b : Option (List Nat)) : PyData.eqv (oD a) (oD b) = true ↔ a = b := by
  match a, b with
  | none, none => simp [oD, PyData.eqv]
  | none, some m => simp [oD, PyData.eqv]
  | some l, none => simp [oD, PyData.eqv]
  | some l, some m => exact (eqv_st l m).trans (by simp)
theorem eqv_iD (a b : Option Int) : PyData.eqv (iD a) (iD b) = true ↔ a = b := by
  match a, b with
  | none, none => simp [iD, PyData.eqv]
  | none, some m => simp [iD, PyData.eqv]
  | some l, none => simp [iD, PyData.eqv]
  | some l, some m => simp [iD, PyData.eqv]
theorem eqvAll_map {α : Type} {f : α → PyData} (hf : ∀ a b, PyData.eqv (f a) (f b) = true ↔ a = b) : ∀ (l m : List α), PyData.eqvAll (l.map f) (m.map f) = true ↔ l = m
  | [], [] => by simp [PyData.eqvAll]
  | [], b :: m => by simp [PyData.eqvAll]
  | a :: l, [] => by simp [PyData.eqvAll]
  | a :: l, b :: m => by
    simp only [List.map_cons, PyData.eqvAll, Bool.and_eq_true, List.cons.injEq]
    rw [hf a b, eqvAll_map hf l m]
theorem eqv_qD (a b : Option (List (List Nat × Option (List Nat)))) : PyData.eqv (qD a) (qD b) = true ↔ a = b := by
  match a, b with
  | none, none => simp [qD, PyData.eqv]
  | none, some m => simp [qD, PyData.eqv]
  | some l, none => simp [qD, PyData.eqv]
  | some l, some m =>
    simp only [qD, PyData.eqv, Option.some.injEq]
    refine eqvAll_map (fun a b => ?_) l m
    simp only [PyData.eqv, PyData.eqvAll, Bool.and_eq_true, Bool.and_true]
    rw [eqv_oD, beq_iff_eq]
    exact ⟨fun h => Prod.ext (mk_inj.mp h.1) h.2, fun h => by rw [h]; exact ⟨rfl, rfl⟩⟩
theorem eqv_way (x y : Ad) : PyData.eqv x.way y.way = true ↔ x.rooted = y.rooted ∧ x.steps = y.steps ∧ x.ends = y.ends := by
  simp only [Ad.way, PyData.eqv, PyData.eqvAll, Bool.and_eq_true, Bool.and_true, beq_iff_eq]
  rw [eqvAll_map eqv_st]
theorem Ad.eqv_iff (x y : Ad) : PyData.eqv x.data y.data = true ↔ x = y := by
  simp only [Ad.data, PyData.eqv, PyData.eqvAll, Bool.and_eq_true, Bool.and_true, beq_iff_eq]
  rw [eqv_oD, eqv_iD, eqv_way, eqv_qD, eqv_oD]
  cases x; cases y
  simp only [Ad.mk.injEq]
  constructor
  · rintro ⟨h1, h2, h3, ⟨h4, h5, h6⟩, h7, h8⟩
    exact ⟨mk_inj.mp h1, h2, h3, h4, h5, h6, h7, h8⟩
  · rintro ⟨h1, h2, h3, h4, h5, h6, h7, h8⟩
    exact ⟨by rw [h1], h2, h3, ⟨h4, h5, h6⟩, h7, h8⟩
def LayAt (n : Nat) (d : PyData) : Prop := d.canLay0 = true ∧ d.depth ≤ n
theorem LayAt.shaped {n : Nat} {d : PyData} (h : LayAt n d) (hn : n ≤ 64) : SeqAt.shaped d = true := by
  unfold SeqAt.shaped; rw [h.1, decide_eq_true (Nat.le_trans h.2 hn)]; rfl
theorem LayAt.le {n m : Nat} {d : PyData} (h : LayAt n d) (hn : n ≤ m) : LayAt m d := ⟨h.1, Nat.le_trans h.2 hn⟩
theorem layAll {n : Nat} : ∀ {ds : List PyData}, (∀ d ∈ ds, LayAt n d) → PyData.canLayAll0 ds = true ∧ PyData.depthAll ds ≤ n
  | [], _ => ⟨rfl, Nat.zero_le _⟩
  | d :: ds, h => by
    obtain ⟨h1, h2⟩ := layAll (ds := ds) fun e he => h e (List.mem_cons_of_mem _ he)
    have := h d (List.mem_cons_self ..)
    simp only [PyData.canLayAll0, PyData.depthAll, this.1, h1, Bool.and_self, true_and]
    exact Nat.max_le.mpr ⟨this.2, h2⟩
theorem LayAt.tup {n : Nat} {ds : List PyData} (h : ∀ d ∈ ds, LayAt n d) : LayAt (n + 1) (.tuple ds) := by
  obtain ⟨h1, h2⟩ := layAll h
  exact ⟨by simp only [PyData.canLay0, h1], by simp only [PyData.depth]; omega⟩
theorem LayAt.st {l : List Nat} (h : ∀ c ∈ l, isSg c = true) : LayAt 0 (st l) := by
  refine ⟨?_, Nat.le_refl _⟩
  simp only [PyData.canLay0, PyData.strOk, List.all_toArray, List.all_eq_true, decide_eq_true_eq]
  intro c hc
  have := isSg_lt (h c hc)
  omega
theorem LayAt.bool {b : Bool} : LayAt 0 (.bool b) := ⟨rfl, Nat.le_refl _⟩
theorem LayAt.oD {o : Option (List Nat)} (h : ∀ l, o = some l → ∀ c ∈ l, isSg c = true) : LayAt 0 (oD o) := by
  cases o with
  | none => exact ⟨rfl, Nat.le_refl _⟩
  | some l => exact .st (h l rfl)
theorem LayAt.iD {o : Option Int} : LayAt 0 (iD o) := by
  cases o with
  | none => exact ⟨rfl, Nat.le_refl _⟩
  | some l => exact ⟨rfl, Nat.le_refl _⟩
theorem LayAt.qD {q : Option (List (List Nat × Option (List Nat)))} (h : ∀ ps, q = some ps → ∀ p ∈ ps, PairOk p) : LayAt 2 (qD q) := by
  cases q with
  | none => exact ⟨rfl, Nat.zero_le _⟩
  | some ps =>
    refine .tup (n := 1) fun d hd => ?_
    obtain ⟨p, hp, rfl⟩ := List.mem_map.mp hd
    have hk := h ps rfl p hp
    refine .tup (n := 0) fun e he => ?_
    simp only [List.mem_cons, List.not_mem_nil, or_false] at he
    rcases he with rfl | rfl
    · exact .st hk.1.2
    · exact .oD hk.2
theorem Ad.Wf.layWay {x : Ad} (h : x.Wf) : LayAt 2 x.way := by
  refine .tup (n := 1) fun e he => ?_
  simp only [List.mem_cons, List.not_mem_nil, or_false] at he
  rcases he with rfl | rfl | rfl
  · exact LayAt.bool.le (by decide)
  · refine .tup (n := 0) fun d hd => ?_
    obtain ⟨s, hs, rfl⟩ := List.mem_map.mp hd
    exact .st (h.stp s hs).2
  · exact LayAt.bool.le (by decide)
theorem Ad.Wf.lay {x : Ad} (h : x.Wf) : LayAt 3 x.data := by
  refine .tup (n := 2) fun e he => ?_
  simp only [List.mem_cons, List.not_mem_nil, or_false] at he
  rcases he with rfl | rfl | rfl | rfl | rfl | rfl
  · exact (LayAt.st fun c hc => aln_sg (h.sch.2.1 c hc)).le (by decide)
  · exact (LayAt.oD fun l e => (h.hou l e).2).le (by decide)
  · exact LayAt.iD.le (by decide)
  · exact h.layWay
  · exact .qD h.que
  · exact (LayAt.oD h.mar).le (by decide)
theorem Ad.Wf.shaped {x : Ad} (h : x.Wf) : SeqAt.shaped x.data = true := h.lay.shaped (by decide)
end Wm
namespace Wm
open PySem L2
/-! ### data of tuples, taken apart -/
end Wm
namespace Wm
/-- how large an address may be that is shown -/
structure Ad.Sz (x : Ad) : Prop where
  stp : ∀ s ∈ x.steps, s.length ≤ 2000
  que : ∀ ps, x.quest = some ps → ps.length ≤ 2000 ∧ ∀ p ∈ ps, p.1.length ≤ 2000 ∧ ∀ v, p.2 = some v → v.length ≤ 2000
  mar : ∀ l, x.mark = some l → l.length ≤ 2000
  num : x.steps.length ≤ 2000
  all : x.shw.length ≤ 90000
end Wm
namespace Wm
theorem lg {i : Int} (h : 0 ≤ i) (h' : i ≤ 65535) : i.natAbs.log2 < 1920 := by
  by_cases h0 : i.natAbs = 0
  · rw [h0]; simp
  · refine (Nat.log2_lt h0).mpr (Nat.lt_of_lt_of_le (show i.natAbs < 2 ^ 16 by omega) (Nat.pow_le_pow_right (by decide) (by decide)))
end Wm
namespace Wm
end Wm
namespace Wm
open PySem L2
end Wm
namespace Wm
open PySem L2
end Wm
namespace Wm
open PySem L2
theorem tl_bound {sep m : Nat} : ∀ {ys : List (List Nat)}, (∀ s ∈ ys, s.length ≤ m) → (tlT sep ys).length ≤ ys.length * (m + 1)
  | [], _ => by simp [tlT]
  | y :: r, h => by
    have h1 := h y (List.mem_cons_self ..)
    have h2 := tl_bound (sep := sep) (ys := r) fun s hs => h s (List.mem_cons_of_mem _ hs)
    simp only [tlT, List.length_cons, List.length_append, Nat.add_mul, Nat.one_mul]
    omega
theorem join_bound {sep m : Nat} {ys : List (List Nat)} (h : ∀ s ∈ ys, s.length ≤ m) : (joinT sep ys).length ≤ ys.length * (m + 1) := by
  cases ys with
  | nil => simp [joinT]
  | cons y r =>
    have h1 := h y (List.mem_cons_self ..)
    have h2 := tl_bound (sep := sep) (ys := r) fun s hs => h s (List.mem_cons_of_mem _ hs)
    simp only [joinT, List.length_cons, List.length_append, Nat.add_mul, Nat.one_mul]
    omega
theorem oT_len {sep n : Nat} {o : Option (List Nat)} (h : ∀ l, o = some l → l.length ≤ n) : (oT sep o).length ≤ 3 * n + 1 := by
  cases o with
  | none => simp [oT]
  | some l => have := h l rfl; have := wr_len l; simp only [oT, List.length_cons]; omega
theorem Ad.Ok.sz {x : Ad} (h : x.Ok) : x.Sz where
  stp := fun s hs => Nat.le_trans (h.stp.2 s hs).2.1 (by decide)
  que := fun ps e => ⟨Nat.le_trans (h.que ps e).1 (by decide), fun p hp => ⟨Nat.le_trans ((h.que ps e).2 p hp).1.2.1 (by decide), fun v hv => Nat.le_trans (((h.que ps e).2 p hp).2 v hv).1 (by decide)⟩⟩
  mar := fun l e => Nat.le_trans (h.mar l e).1 (by decide)
  num := Nat.le_trans h.stp.1 (by decide)
  all := by
    have a1 : (schT x.scheme).length ≤ 9 := by
      unfold schT
      split
      · simp
      · have := h.sch.1; simp only [List.length_append, List.length_cons, List.length_nil]; omega
    have a2 : (houT x.house).length ≤ 200 := by
      cases hh : x.house with
      | none => simp [houT]
      | some l => have := (h.hou l hh).2.1; have := wr_len l; simp only [houT, List.length_cons]; omega
    have a3 : (dooT x.door).length ≤ 6 := by
      cases hh : x.door with
      | none => simp [dooT]
      | some i => have b := (h.doo i hh).1; have := dg_len b.1 b.2; simp only [dooT, List.length_cons]; omega
    have a4 : x.wayT.length ≤ 9500 := by
      have hj := join_bound (sep := 47) (m := 180) (ys := x.steps.map wr) fun s hs => by
        obtain ⟨t, ht, rfl⟩ := List.mem_map.mp hs
        have := wr_len t; have := (h.stp.2 t ht).2.1; omega
      rw [List.length_map] at hj
      have := h.stp.1
      have e1 : (if x.rooted then [47] else [] : List Nat).length ≤ 1 := by split <;> simp
      have e2 : (if x.ends && !x.steps.isEmpty then [47] else [] : List Nat).length ≤ 1 := by split <;> simp
      simp only [Ad.wayT, Wm.wayT, List.length_append]
      have : x.steps.length * (180 + 1) ≤ 50 * 181 := Nat.mul_le_mul this (Nat.le_refl _)
      omega
    have a5 : (queT x.quest).length ≤ 1000 := by
      cases hq : x.quest with
      | none => simp [queT]
      | some ps =>
        have hk := h.que ps hq
        have hj := join_bound (sep := 38) (m := 37) (ys := ps.map pairT) fun s hs => by
          obtain ⟨p, hp, rfl⟩ := List.mem_map.mp hs
          have h1 := (hk.2 p hp).1.2.1
          have h2 := oT_len (sep := 61) (n := 6) (o := p.2) fun v hv => ((hk.2 p hp).2 v hv).1
          have := wr_len p.1
          simp only [pairT, List.length_append]
          omega
        rw [List.length_map] at hj
        have : ps.length * (37 + 1) ≤ 20 * 38 := Nat.mul_le_mul hk.1 (Nat.le_refl _)
        simp only [queT, List.length_cons]
        omega
    have a6 := oT_len (sep := 35) (n := 60) (o := x.mark) fun l e => (h.mar l e).1
    simp only [Ad.shw, List.length_append]
    omega
end Wm
namespace Wm
open PySem L2
end Wm
namespace L2
open PySem
theorem IsTAll.get {H : Hp} : ∀ {ds : List PyData} {xs : List V} {i : Nat} {d : PyData} {x : V}, IsTAll H ds xs → ds[i]? = some d → xs[i]? = some x → IsT H d x
  | _, _, 0, _, _, .cons h _, h1, h2 => by
    simp only [List.getElem?_cons_zero, Option.some.injEq] at h1 h2
    subst h1 h2; exact h
  | _, _, i + 1, _, _, .cons _ r, h1, h2 => by
    simp only [List.getElem?_cons_succ] at h1 h2
    exact r.get h1 h2
end L2
/-! WAYS GONE, as mathematics: from the first step on (the document) and from the last one back (the laws) -/
namespace Wm
open PySem L2
abbrev Stp := List Nat
def sUp : Stp := [46, 46]
def sStay : Stp := [46]
def isDot (s : Stp) : Bool := decide (s = sUp) || decide (s = sStay)
theorem up_ne_stay : sUp ≠ sStay := by decide
theorem isDot_false {s : Stp} : isDot s = false ↔ s ≠ sUp ∧ s ≠ sStay := by simp [isDot]
/-- one step, from the first on: how many steps up stand ahead, and the steps put behind them, the last one first -/
def fwd (r : Bool) (q : Nat × List Stp) (s : Stp) : Nat × List Stp :=
  if s = sUp then (match q.2 with | [] => (if r then q.1 else q.1 + 1, []) | _ :: t => (q.1, t))
  else if s = sStay then q else (q.1, s :: q.2)
def goneS (r : Bool) (ss : List Stp) : List Stp := List.replicate (ss.foldl (fwd r) (0, [])).1 sUp ++ (ss.foldl (fwd r) (0, [])).2.reverse
/-- one step, from the last one back -/
def bwd1 (s : Stp) (q : Nat × List Stp) : Nat × List Stp :=
  if s = sUp then (q.1 + 1, q.2) else if s ≠ sStay ∧ 0 < q.1 then (q.1 - 1, q.2) else if s ≠ sStay then (q.1, s :: q.2) else q
def bwd (ss : List Stp) : Nat × List Stp := ss.foldr bwd1 (0, [])
theorem bwd_cons (s : Stp) (ss : List Stp) : bwd (s :: ss) = bwd1 s (bwd ss) := rfl
theorem fwd_bwd (r : Bool) : ∀ (ss : List Stp) (u : Nat) (ns : List Stp),
    ss.foldl (fwd r) (u, ns) = (if r then u else u + ((bwd ss).1 - ns.length), (bwd ss).2.reverse ++ ns.drop (bwd ss).1)
  | [], u, ns => by simp [bwd]
  | s :: ss, u, ns => by
    rw [List.foldl_cons, bwd_cons]
    by_cases h1 : s = sUp
    · cases ns with
      | nil =>
        rw [show fwd r (u, []) s = (if r then u else u + 1, []) by simp [fwd, h1], fwd_bwd r ss]
        cases r <;> simp [bwd1, h1]
        omega
      | cons a t =>
        rw [show fwd r (u, a :: t) s = (u, t) by simp [fwd, h1], fwd_bwd r ss]
        simp [bwd1, h1]
    · by_cases h2 : s = sStay
      · rw [show fwd r (u, ns) s = (u, ns) by simp [fwd, h1, h2, up_ne_stay.symm], fwd_bwd r ss]
        simp [bwd1, h2, up_ne_stay.symm]
      · rw [show fwd r (u, ns) s = (u, s :: ns) by simp [fwd, h1, h2], fwd_bwd r ss]
        by_cases h3 : 0 < (bwd ss).1
        · obtain ⟨k, hk⟩ : ∃ k, (bwd ss).1 = k + 1 := ⟨(bwd ss).1 - 1, by omega⟩
          simp [bwd1, h1, h2, hk]
        · have h0 : (bwd ss).1 = 0 := by omega
          simp [bwd1, h1, h2, h0]
theorem gone_bwd (r : Bool) (ss : List Stp) : goneS r ss = (if r then [] else List.replicate (bwd ss).1 sUp) ++ (bwd ss).2 := by
  unfold goneS
  rw [fwd_bwd]
  cases r <;> simp
theorem bwd_snd {ss : List Stp} : ∀ s ∈ (bwd ss).2, s ∈ ss ∧ isDot s = false := by
  induction ss with
  | nil => simp [bwd]
  | cons t ss ih =>
    intro s hs
    rw [bwd_cons] at hs
    unfold bwd1 at hs
    split at hs
    · exact ⟨List.mem_cons_of_mem _ (ih s hs).1, (ih s hs).2⟩
    · next h1 =>
      split at hs
      · exact ⟨List.mem_cons_of_mem _ (ih s hs).1, (ih s hs).2⟩
      · split at hs
        · next h2 =>
          rcases List.mem_cons.mp hs with rfl | hs
          · exact ⟨List.mem_cons_self .., isDot_false.mpr ⟨h1, h2⟩⟩
          · exact ⟨List.mem_cons_of_mem _ (ih s hs).1, (ih s hs).2⟩
        · exact ⟨List.mem_cons_of_mem _ (ih s hs).1, (ih s hs).2⟩
theorem gone_mem {r : Bool} {ss : List Stp} : ∀ s ∈ goneS r ss, s ∈ ss ∧ isDot s = false ∨ r = false ∧ s = sUp := by
  intro s hs
  rw [gone_bwd] at hs
  rcases List.mem_append.mp hs with hs | hs
  · cases r with
    | true => cases hs
    | false => exact .inr ⟨rfl, (List.mem_replicate.mp (by simpa using hs)).2⟩
  · exact .inl (bwd_snd s hs)
/-- the last step is a dot -/
def lastDot (ss : List Stp) : Bool := match ss.getLast? with | some s => isDot s | none => false
/-- a way gone -/
def goneW (r : Bool) (ss : List Stp) (e : Bool) : Bool × List Stp × Bool :=
  if ss = [] then (r, [], e) else if goneS r ss = [] then (r, if r then [] else [sStay], true) else (r, goneS r ss, e || lastDot ss)
theorem goneW_fst (r : Bool) (ss : List Stp) (e : Bool) : (goneW r ss e).1 = r := by
  unfold goneW; split; rfl; split <;> rfl
end Wm
namespace Wm
open PySem L2
/-- the list that holds the state of going from the first step on -/
def stk (q : Nat × List Stp) : List Stp := List.replicate q.1 sUp ++ q.2.reverse
def StkOk (r : Bool) (q : Nat × List Stp) : Prop := (r = true → q.1 = 0) ∧ ∀ s ∈ q.2, s ≠ sUp
theorem StkOk.fwd {r : Bool} {q : Nat × List Stp} (h : StkOk r q) (s : Stp) : StkOk r (fwd r q s) := by
  obtain ⟨u, t⟩ := q
  obtain ⟨h1, h2⟩ := h
  dsimp only at h1 h2
  unfold Wm.fwd
  by_cases e : s = sUp
  · rw [if_pos e]
    cases t with
    | nil => exact ⟨fun z => by simp [z, h1 z], fun s hs => absurd hs (by simp)⟩
    | cons a t => exact ⟨h1, fun s hs => h2 s (List.mem_cons_of_mem _ hs)⟩
  · rw [if_neg e]
    by_cases e2 : s = sStay
    · rw [if_pos e2]; exact ⟨h1, h2⟩
    · rw [if_neg e2]
      refine ⟨h1, fun x hx => ?_⟩
      rcases List.mem_cons.mp hx with rfl | hx
      · exact e
      · exact h2 x hx
end Wm
/-! A TUPLE'S SLICE, the whole of it too -/
namespace L2
open PySem PySem.Spec PyProof.Rows HT
section
variable {prog : Program} {w : World} {A : Around} {E : Value → Shared → Prop} {s : Shared}
end
section
variable {X : Cx} {K : PySem.W.Frag}
def rSlTA : V → Option Int → Option Int → Hp → VK → Prop := fun x lo hi H Q => ∃ a xs, x = .ref a ∧ H a = some (.tup xs) ∧ ∀ p H', Same H H' → H' p = some (.tup (cutV xs lo hi)) → Q (.ref p) H'
theorem slTA_ref {a : Addr} {lo hi : Option Int} {H : Hp} {Q : VK} : rSlTA (.ref a) lo hi H Q ↔ ∃ xs, H a = some (.tup xs) ∧ ∀ p H', Same H H' → H' p = some (.tup (cutV xs lo hi)) → Q (.ref p) H' := by
  constructor
  · rintro ⟨p, bs, h1, h2⟩; cases h1; exact ⟨bs, h2⟩
  · rintro ⟨bs, h⟩; exact ⟨a, bs, rfl, h⟩
end
end L2
/-! DATA OF TUPLES that may be the module's own: a tuple that is tracked, or one of the module's constants -/
namespace L2
open PySem PySem.Spec PyProof.Rows HT
mutual
inductive IsK (K : PySem.W.Frag) (H : Hp) : PyData → V → Prop
  | non : IsK K H .none .non
  | bl (b : Bool) : IsK K H (.bool b) (.bl b)
  | int (i : Int) : IsK K H (.int i) (.int i)
  | str (x : Str) : IsK K H (.str x) (.str x)
  | tup {p : Addr} {xs : List V} {ds : List PyData} : SqT K H p xs → IsKAll K H ds xs → IsK K H (.tuple ds) (.ref p)
inductive IsKAll (K : PySem.W.Frag) (H : Hp) : List PyData → List V → Prop
  | nil : IsKAll K H [] []
  | cons {d : PyData} {x : V} {ds : List PyData} {xs : List V} : IsK K H d x → IsKAll K H ds xs → IsKAll K H (d :: ds) (x :: xs)
end
section
variable {K : PySem.W.Frag} {H H' : Hp}
mutual
theorem IsK.mono (sm : Same H H') : ∀ {d : PyData} {x : V}, IsK K H d x → IsK K H' d x
  | _, _, .non => .non
  | _, _, .bl b => .bl b
  | _, _, .int i => .int i
  | _, _, .str x => .str x
  | _, _, .tup h r => .tup (sm.tup h) (IsKAll.mono sm r)
theorem IsKAll.mono (sm : Same H H') : ∀ {ds : List PyData} {xs : List V}, IsKAll K H ds xs → IsKAll K H' ds xs
  | _, _, .nil => .nil
  | _, _, .cons h r => .cons (IsK.mono sm h) (IsKAll.mono sm r)
end
mutual
theorem IsT.k : ∀ {d : PyData} {x : V}, IsT H d x → IsK K H d x
  | _, _, .non => .non
  | _, _, .bl b => .bl b
  | _, _, .int i => .int i
  | _, _, .str x => .str x
  | _, _, .tup h r => .tup (SqT.of h) (IsTAll.k r)
theorem IsTAll.k : ∀ {ds : List PyData} {xs : List V}, IsTAll H ds xs → IsKAll K H ds xs
  | _, _, .nil => .nil
  | _, _, .cons h r => .cons (IsT.k h) (IsTAll.k r)
end
end
section
variable {X : Cx} {pins : List (Addr × Obj)} {σ : St} {H : Hp} {s : Shared}
mutual
theorem IsK.reads (I : Inv X pins σ H s) : ∀ {d : PyData} {x : V} {v : Value}, IsK X.K H d x → RelV x v → ∃ as, Reads s.heap v d as
  | _, _, _, .non, r => by cases r; exact ⟨_, .none⟩
  | _, _, _, .bl b, r => by cases r; exact ⟨_, .bool b⟩
  | _, _, _, .int i, r => by obtain ⟨t, rfl⟩ := r; exact ⟨_, .int i t⟩
  | _, _, _, .str x, r => by obtain ⟨t, rfl⟩ := r; exact ⟨_, .str x t⟩
  | _, _, _, .tup h q, r => by
    cases r
    obtain ⟨its, vs, ⟨o, e, c, n, dt⟩, _⟩ := I.tuple h
    obtain ⟨as, ra⟩ := IsKAll.reads I q vs
    exact ⟨_, .tuple e c dt (by simpa using ra)⟩
theorem IsKAll.reads (I : Inv X pins σ H s) : ∀ {ds : List PyData} {xs : List V} {vs : List Value}, IsKAll X.K H ds xs → Vals xs vs → ∃ as, ReadsAll s.heap vs ds as
  | _, _, _, .nil, r => by cases r; exact ⟨_, .nil⟩
  | _, _, _, .cons q t, r => by
    cases r with
    | cons r1 r2 =>
      obtain ⟨as, h1⟩ := IsK.reads I q r1
      obtain ⟨bs, h2⟩ := IsKAll.reads I t r2
      exact ⟨_, .cons h1 h2⟩
end
variable {K : PySem.W.Frag}
def rEqX (K : PySem.W.Frag) : R2 := fun x y H Q => ∃ d e, IsK K H d x ∧ IsK K H e y ∧ SeqAt.shaped d = true ∧ SeqAt.shaped e = true ∧ Q (.bl (PyData.eqv d e)) H
def rNeX (K : PySem.W.Frag) : R2 := fun x y H Q => ∃ d e, IsK K H d x ∧ IsK K H e y ∧ SeqAt.shaped d = true ∧ SeqAt.shaped e = true ∧ Q (.bl (!PyData.eqv d e)) H
theorem op_eqX (hk : X.K = K) (hu : X.A.units + 64 < cLine) : OpR X (compareOp .Eq) (rEqX K) := by
  subst hk
  intro pins s σ H x y v u Q I rx ry h
  obtain ⟨d, e, hx, hy, sx, sy, q⟩ := h
  obtain ⟨as, ra⟩ := hx.reads I rx
  obtain ⟨bs, rb⟩ := hy.reads I ry
  exact eq_dataH ra rb sx sy hu ⟨.bl _, H, I, rfl, q⟩
theorem op_neX (hk : X.K = K) (hu : X.A.units + 64 < cLine) : OpR X (compareOp .NotEq) (rNeX K) := by
  subst hk
  intro pins s σ H x y v u Q I rx ry h
  obtain ⟨d, e, hx, hy, sx, sy, q⟩ := h
  obtain ⟨as, ra⟩ := hx.reads I rx
  obtain ⟨bs, rb⟩ := hy.reads I ry
  exact ne_dataH ra rb sx sy hu ⟨.bl _, H, I, rfl, q⟩
/-- a tuple's slice -/
def rSlX (K : PySem.W.Frag) : V → Option Int → Option Int → Hp → VK → Prop := fun x lo hi H Q => ∃ a xs, x = .ref a ∧ SqT K H a xs ∧ ∀ p H', Same H H' → SqT K H' p (cutV xs lo hi) → Q (.ref p) H'
theorem slX_ref {a : Addr} {lo hi : Option Int} {H : Hp} {Q : VK} : rSlX K (.ref a) lo hi H Q ↔ ∃ xs, SqT K H a xs ∧ ∀ p H', Same H H' → SqT K H' p (cutV xs lo hi) → Q (.ref p) H' := by
  constructor
  · rintro ⟨p, bs, h1, h2⟩; cases h1; exact ⟨bs, h2⟩
  · rintro ⟨bs, h⟩; exact ⟨a, bs, rfl, h⟩
/-- t + u of two tuples -/
def rCatX (K : PySem.W.Frag) : R2 := fun x y H Q => ∃ a b xs ys, x = .ref a ∧ y = .ref b ∧ SqT K H a xs ∧ SqT K H b ys ∧ xs.length + ys.length ≤ sizeLine ∧ ∀ p H', Same H H' → SqT K H' p (xs ++ ys) → Q (.ref p) H'
theorem catX_ref {a b : Addr} {H : Hp} {Q : VK} : rCatX K (.ref a) (.ref b) H Q ↔ ∃ xs ys, SqT K H a xs ∧ SqT K H b ys ∧ xs.length + ys.length ≤ sizeLine ∧ ∀ p H', Same H H' → SqT K H' p (xs ++ ys) → Q (.ref p) H' := by
  constructor
  · rintro ⟨p, p', xs, ys, h1, h2, h3⟩; cases h1; cases h2; exact ⟨xs, ys, h3⟩
  · rintro ⟨xs, ys, h⟩; exact ⟨a, b, xs, ys, rfl, rfl, h⟩
/-- isinstance of one built-in kind -/
def KindK (K : PySem.W.Frag) (H : Hp) (x : V) (k : String) : Prop := kindV x H = some k ∨ ∃ a xs, x = .ref a ∧ SqT K H a xs ∧ k = "tuple"
theorem KindK.tup {K : PySem.W.Frag} {H : Hp} {a : Addr} {xs : List V} (h : SqT K H a xs) : KindK K H (.ref a) "tuple" := .inr ⟨a, xs, rfl, h, rfl⟩
def rIsiX (K : PySem.W.Frag) : List V → Hp → VK → Prop := fun vs H Q => match vs with
  | [x, .ty T] => ∃ k, KindK K H x k ∧ T ∈ ["bool", "int", "str", "list", "tuple"] ∧ Q (.bl (subT k T)) H
  | _ => False
theorem isiX_any {x : V} {T : String} {H : Hp} {Q : VK} : rIsiX K [x, .ty T] H Q ↔ ∃ k, KindK K H x k ∧ T ∈ ["bool", "int", "str", "list", "tuple"] ∧ Q (.bl (subT k T)) H := Iff.rfl
end
end L2
namespace Wm
open PySem L2
section
variable {K : PySem.W.Frag} {H : Hp}
end
end Wm
/-! A LIST'S SLICE WITH A STEP -/
namespace L2
open PySem PySem.Spec PyProof.Rows
theorem Vals.at {xs : List V} {us : List Value} (h : Vals xs us) : ∀ (i : Nat), (∃ x u, xs[i]? = some x ∧ us[i]? = some u ∧ RelV x u) ∨ (xs[i]? = none ∧ us[i]? = none) := by
  induction h with
  | nil => intro i; exact .inr ⟨by simp, by simp⟩
  | cons r _ ih =>
    intro i
    cases i with
    | zero => exact .inl ⟨_, _, rfl, rfl, r⟩
    | succ i => simpa using ih i
def pickV {α : Type} (xs : List α) (lo hi st : Option Int) : List α :=
  (sliceRange (sliceBounds lo hi st xs.length).1 (sliceBounds lo hi st xs.length).2.1 (sliceBounds lo hi st xs.length).2.2).filterMap fun i => xs[i]?
section
variable {X : Cx}
def tSl3 (K : PySem.W.Frag) (te : TE) (tl th ts : TO) : TE := fun σ H Q => te σ H fun x H1 => tl σ H1 fun l H2 => th σ H2 fun u H3 => ts σ H3 fun k H4 =>
  ∃ a xs, x = .ref a ∧ SqL K H4 a xs ∧ k ≠ some 0 ∧ (pickV xs l u k).length ≤ sizeLine ∧ ∀ p, H4 p = none → Q (.ref p) (upd H4 p (.lst (pickV xs l u k)))
end
theorem rd_sl3 {K : PySem.W.Frag} {te : TE} {tl th ts : TO} {σ : St} {H : Hp} {Q : VK} : tSl3 K te tl th ts σ H Q ↔ te σ H fun x H1 => tl σ H1 fun l H2 => th σ H2 fun u H3 => ts σ H3 fun k H4 =>
  ∃ a xs, x = .ref a ∧ SqL K H4 a xs ∧ k ≠ some 0 ∧ (pickV xs l u k).length ≤ sizeLine ∧ ∀ p, H4 p = none → Q (.ref p) (upd H4 p (.lst (pickV xs l u k))) := Iff.rfl
end L2
/-! RESOLVING AND TELLING RELATIVE, as mathematics -/
namespace Wm
open PySem L2
abbrev Way := Bool × List Stp × Bool
def Ad.w (x : Ad) : Way := (x.rooted, x.steps, x.ends)
def Ad.withWay (x : Ad) (w : Way) : Ad := { x with rooted := w.1, steps := w.2.1, ends := w.2.2 }
def goneV (w : Way) : Way := goneW w.1 w.2.1 w.2.2
def Ad.gone (x : Ad) : Ad := x.withWay (goneV x.w)
/-! ### what a rooted way comes to -/
/-! ### a way gone that is rooted -/
/-! ### resolved: whole, and without dots; told relative and resolved it is the goal -/
/-! ### step by step -/
end Wm
namespace Wm
open PySem L2
def wayOf (w : Way) : PyData := .tuple [.bool w.1, .tuple (w.2.1.map st), .bool w.2.2]
theorem rv_ref {l : Addr} {H : Hp} {Q : VK} : rReverse (.ref l) [] H Q ↔ ∃ xs, H l = some (.lst xs) ∧ Q .non (upd H l (.lst xs.reverse)) :=
  ⟨fun ⟨_, xs, e, _, h, q⟩ => by cases e; exact ⟨xs, h, q⟩, fun ⟨xs, h, q⟩ => ⟨l, xs, rfl, rfl, h, q⟩⟩
end Wm
namespace Wm
open PySem L2
abbrev sV (l : List Nat) : V := .str ⟨l.toArray⟩
end Wm
namespace Wm
open PySem L2
theorem isTAll_sV {H : Hp} : ∀ (ss : List (List Nat)), IsTAll H (ss.map st) (ss.map sV)
  | [] => .nil
  | s :: ss => .cons (.str _) (isTAll_sV ss)
end Wm
namespace Wm
open PySem L2
end Wm
namespace Wm
open PySem L2
end Wm
namespace L2
open PySem
end L2
namespace L2
open PySem
theorem po_ref {l : Addr} {H : Hp} {Q : VK} : rPop (.ref l) [] H Q ↔ ∃ xs y, H l = some (.lst xs) ∧ xs[xs.length - 1]? = some y ∧ Q y (upd H l (.lst xs.dropLast)) :=
  ⟨fun ⟨_, xs, y, h1, _, h3, h4, h5⟩ => by cases h1; exact ⟨xs, y, h3, h4, h5⟩, fun ⟨xs, y, h3, h4, h5⟩ => ⟨_, xs, y, rfl, rfl, h3, h4, h5⟩⟩
end L2
namespace L2
open PySem
theorem rd_never {D : Ends} {σ : St} {H : Hp} : tNever D σ H ↔ False := Iff.rfl
end L2
namespace Wm
open PySem L2
/-- what the laws' small addresses keep to -/
structure Ad.Tiny (x : Ad) : Prop where
  stp : ∀ s ∈ x.steps, s.length ≤ 9
  que : ∀ ps, x.quest = some ps → ps.length ≤ 3 ∧ ∀ p ∈ ps, p.1.length ≤ 5 ∧ ∀ v, p.2 = some v → v.length ≤ 6
  mar : ∀ l, x.mark = some l → l.length ≤ 7
  hou : ∀ l, x.house = some l → l.length ≤ 13
end Wm
namespace Wm
open PySem L2
theorem stay_ok : StepOk sStay := ⟨by decide, by decide⟩
theorem up_ok : StepOk sUp := ⟨by decide, by decide⟩
theorem goneV_ok {w : Way} (h : ∀ s ∈ w.2.1, StepOk s) : ∀ s ∈ (goneV w).2.1, StepOk s := by
  intro s hs
  unfold goneV goneW at hs
  split at hs
  · cases hs
  · split at hs
    · cases e : w.1
      · rw [e] at hs; simp at hs; subst hs; exact stay_ok
      · rw [e] at hs; simp at hs
    · rcases gone_mem s hs with z | z
      · exact h s z.1
      · rw [z.2]; exact up_ok
theorem goneV_end_ {w : Way} (h : w.2.1 = [] → w.2.2 = w.1) : (goneV w).2.1 = [] → (goneV w).2.2 = (goneV w).1 := by
  intro e
  unfold goneV goneW at e ⊢
  split at e
  · rename_i z; rw [if_pos z]; exact h z
  · rename_i z
    rw [if_neg z]
    split at e
    · rename_i y
      rw [if_pos y]
      cases ew : w.1
      · rw [ew] at e; simp at e
      · rfl
    · rename_i y; exact absurd e y
theorem goneV_fst (w : Way) : (goneV w).1 = w.1 := goneW_fst _ _ _
theorem Ad.Wf.gone {x : Ad} (h : x.Wf) : x.gone.Wf where
  sch := h.sch
  hou := h.hou
  doo := h.doo
  stp := goneV_ok (w := x.w) h.stp
  roo := fun z => (goneV_fst x.w).trans (h.roo z)
  end_ := goneV_end_ (w := x.w) h.end_
  que := h.que
  mar := h.mar
end Wm
namespace Wm
end Wm
namespace Wm
open PySem L2
/-- a slice of anything -/
def cutA {α : Type} (xs : List α) (lo hi : Option Int) : List α := (xs.drop (HT.sIx xs.length 0 lo)).take (HT.sIx xs.length xs.length hi - HT.sIx xs.length 0 lo)
theorem cutV_map {α : Type} (f : α → V) (xs : List α) (lo hi : Option Int) : cutV (xs.map f) lo hi = (cutA xs lo hi).map f := by
  unfold cutV cutA; rw [List.length_map, List.map_take, List.map_drop]
theorem cutA_len {α : Type} (xs : List α) (lo hi : Option Int) : (cutA xs lo hi).length ≤ xs.length := by
  unfold cutA; rw [List.length_take, List.length_drop]; omega
/-- steps that may be shown: signs alone -/
def AllSg (ss : List Stp) : Prop := ∀ s ∈ ss, ∀ c ∈ s, isSg c = true
end Wm
namespace Wm
open PySem L2
end Wm
namespace L2
open PySem
theorem IsKAll.at {K : PySem.W.Frag} {H : Hp} : ∀ {ds : List PyData} {xs : List V} {i : Nat} {x : V}, IsKAll K H ds xs → xs[i]? = some x → ∃ d, ds[i]? = some d ∧ IsK K H d x
  | _, _, 0, _, .cons h _, h2 => by
    simp only [List.getElem?_cons_zero, Option.some.injEq] at h2
    subst h2; exact ⟨_, rfl, h⟩
  | _, _, i + 1, _, .cons _ r, h2 => by
    simp only [List.getElem?_cons_succ] at h2
    obtain ⟨d, h1, h3⟩ := r.at h2
    exact ⟨d, by simpa using h1, h3⟩
end L2
namespace Wm
open PySem L2
section
variable {H : Hp}
theorem wayT' {r e : Bool} {ss : List (List Nat)} {p q : Addr} (hp : H p = some (.tup [.bl r, .ref q, .bl e])) (hq : H q = some (.tup (ss.map fun l => V.str ⟨l.toArray⟩))) : IsT H (.tuple [.bool r, .tuple (ss.map st), .bool e]) (.ref p) :=
  .tup hp (.cons (.bl _) (.cons (.tup hq (isTAll_sV _)) (.cons (.bl _) .nil)))
theorem adT {x : Ad} {p : Addr} {w q : V} (hp : H p = some (.tup [.str ⟨x.scheme.toArray⟩, otV x.house, itV x.door, w, q, otV x.mark])) (hw : IsT H x.way w) (hq : IsT H (qD x.quest) q) : IsT H x.data (.ref p) :=
  .tup hp (.cons (.str _) (.cons (is_oD _) (.cons (is_iD _) (.cons hw (.cons hq (.cons (is_oD _) .nil))))))
end
theorem Ad.Wf.sg {x : Ad} (h : x.Wf) : AllSg x.steps := fun s hs => (h.stp s hs).2
theorem Ad.Wf.bare {x : Ad} (h : x.Wf) : ({ x with scheme := [] } : Ad).Wf :=
  ⟨⟨Nat.zero_le _, (fun c hc => by cases hc), (fun c hc => by cases hc)⟩, h.hou, h.doo, h.stp, (fun z => h.roo (z.elim (fun y => absurd rfl y) .inr)), h.end_, h.que, h.mar⟩
theorem Ad.Wf.local {x : Ad} (h : x.Wf) : ({ x with scheme := [], house := none, door := none } : Ad).Wf :=
  ⟨⟨Nat.zero_le _, (fun c hc => by cases hc), (fun c hc => by cases hc)⟩, (fun l e => by cases e), (fun l e => by cases e), h.stp, (fun z => z.elim (fun y => absurd rfl y) (fun y => absurd rfl y)), h.end_, h.que, h.mar⟩
/-- values that are addresses, of at most so many steps -/
def Goods (n : Nat) (H : Hp) (vs : List V) : Prop := ∀ v ∈ vs, ∃ x : Ad, x.Wf ∧ x.steps.length ≤ n ∧ IsT H x.data v
theorem Goods.mono {n : Nat} {H H' : Hp} {vs : List V} (h : Goods n H vs) (sm : SameT H H') : Goods n H' vs := fun v hv => by
  obtain ⟨x, h1, h2, h3⟩ := h v hv
  exact ⟨x, h1, h2, h3.mono sm⟩
theorem Goods.nil {n : Nat} {H : Hp} : Goods n H [] := fun v hv => by cases hv
theorem Goods.cons {n : Nat} {H : Hp} {v : V} {vs : List V} {x : Ad} (h1 : x.Wf) (h2 : x.steps.length ≤ n) (h3 : IsT H x.data v) (h : Goods n H vs) : Goods n H (v :: vs) := fun u hu => by
  rcases List.mem_cons.mp hu with rfl | hu
  · exact ⟨x, h1, h2, h3⟩
  · exact h u hu
theorem Goods.snoc {n : Nat} {H : Hp} {v : V} {vs : List V} {x : Ad} (h : Goods n H vs) (h1 : x.Wf) (h2 : x.steps.length ≤ n) (h3 : IsT H x.data v) : Goods n H (vs ++ [v]) := fun u hu => by
  rcases List.mem_append.mp hu with hu | hu
  · exact h u hu
  · rw [List.mem_singleton.mp hu]; exact ⟨x, h1, h2, h3⟩
end Wm
namespace Wm
open PySem L2
end Wm
namespace Wm
open PySem L2
end Wm
namespace L2
open PySem PySem.Spec PyProof.Rows
theorem isB_t {b c : Bool} {H : Hp} {Q : VK} : rIsB true (.bl b) (.bl c) H Q ↔ Q (.bl (!decide (b = c))) H := Iff.rfl
end L2
namespace Wm
open PySem L2
end Wm
namespace Wm
open PySem L2
end Wm
namespace Wm
open PySem L2
end Wm
namespace Wm
open PySem L2
end Wm
namespace Wm
open PySem L2
/-- a whole address of the laws, of at most so many steps -/
structure GoodAd (n : Nat) (x : Ad) : Prop where
  wf : x.Wf
  ti : x.Tiny
  sc : x.scheme ≠ []
  ln : x.steps.length ≤ n
theorem GoodAd.le {n m : Nat} {x : Ad} (h : GoodAd n x) (hm : n ≤ m) : GoodAd m x := ⟨h.wf, h.ti, h.sc, Nat.le_trans h.ln hm⟩
theorem GoodAd.rt {n : Nat} {x : Ad} (h : GoodAd n x) : x.rooted = true := h.wf.roo (.inl h.sc)
/-- scheme, house and door of the one, all else of the other -/
theorem GoodAd.head {n m : Nat} {b g : Ad} (hb : GoodAd n b) (hg : GoodAd m g) : GoodAd m { g with scheme := b.scheme, house := b.house, door := b.door } :=
  ⟨⟨hb.wf.sch, hb.wf.hou, hb.wf.doo, hg.wf.stp, fun _ => hg.rt, hg.wf.end_, hg.wf.que, hg.wf.mar⟩, ⟨hg.ti.stp, hg.ti.que, hg.ti.mar, hb.ti.hou⟩, hb.sc, hg.ln⟩
theorem GoodAd.way {n m : Nat} {g : Ad} (hg : GoodAd n g) {ss : List Stp} {e : Bool} (h1 : ∀ s ∈ ss, StepOk s ∧ s.length ≤ 9) (h2 : ss.length ≤ m) (h3 : ss = [] → e = true) : GoodAd m { g with rooted := true, steps := ss, ends := e } :=
  ⟨⟨hg.wf.sch, hg.wf.hou, hg.wf.doo, fun s hs => (h1 s hs).1, fun _ => rfl, h3, hg.wf.que, hg.wf.mar⟩, ⟨fun s hs => (h1 s hs).2, hg.ti.que, hg.ti.mar, hg.ti.hou⟩, hg.sc, h2⟩
theorem GoodAd.quest {n m : Nat} {b g : Ad} (hb : GoodAd n b) (hg : GoodAd m g) : GoodAd m { g with quest := b.quest } :=
  ⟨⟨hg.wf.sch, hg.wf.hou, hg.wf.doo, hg.wf.stp, hg.wf.roo, hg.wf.end_, hb.wf.que, hg.wf.mar⟩, ⟨hg.ti.stp, hb.ti.que, hg.ti.mar, hg.ti.hou⟩, hg.sc, hg.ln⟩
end Wm
/-! REVERSED TUPLES over the hand layer -/
namespace L2
open PySem PySem.Spec PyProof.Rows
def IsRv (h : Heap) (a t : Addr) (i : Int) : Prop := ∃ o, h.get? a = some o ∧ o.cls = .type "reversed" ∧ o.data = .fields #[.ref t, rawInt i]
section
variable {prog : Program} {w : World} {A : Around} {E : Value → Shared → Prop} {s : Shared}
theorem IsRv.ty {a t : Addr} {i : Int} (x : IsRv s.heap a t i) : s.TypeIs (.ref a) "reversed" := let ⟨o, ho, hc, _⟩ := x; ⟨o, ho, hc⟩
end
/-- a tuple from its end: n its length -/
def Itv (K : PySem.W.Frag) (a : Addr) (n : Nat) : It :=
  ⟨fun i H => ∃ xs x, SqT K H a xs ∧ xs.length = n ∧ i < n ∧ xs[n - 1 - i]? = some x, fun i H x H' => H' = H ∧ ∀ xs, SqT K H a xs → xs.length = n → xs[n - 1 - i]? = some x, fun i _ => n ≤ i⟩
section
variable {X : Cx} {tg : Expr} {K : PySem.W.Frag}
def iRev (K : PySem.W.Frag) (ta : TA) : TI := fun σ H R => ta σ H fun vs H1 => ∃ a xs, vs = [.ref a] ∧ SqT K H1 a xs ∧ R (Itv K a xs.length) H1
variable {σ : St} {H : Hp} {D : Ends} {g : TG} {tb : TS} {aa : TA}
theorem rd_forV : tFor (iRev K aa) g tb D σ H ↔ aa σ H fun vs H1 => ∃ a xs, vs = [.ref a] ∧ SqT K H1 a xs ∧ LoopI (Itv K a xs.length) g tb D σ H1 := Iff.rfl
end
end L2
/-! A TUPLE TIMES A NUMBER -/
namespace L2
open PySem PySem.Spec PyProof.Rows
section
variable {X : Cx}
def rRepT : R2 := fun x y H Q => ∃ a k xs, x = .ref a ∧ y = .int k ∧ H a = some (.tup xs) ∧ 2 ≤ k ∧ k < 1000 ∧ xs.length * k.toNat ≤ sizeLine ∧ ∀ p H', Same H H' → H' p = some (.tup (List.replicate k.toNat xs).flatten) → Q (.ref p) H'
theorem repT_ref {a : Addr} {k : Int} {H : Hp} {Q : VK} : rRepT (.ref a) (.int k) H Q ↔ ∃ xs, H a = some (.tup xs) ∧ 2 ≤ k ∧ k < 1000 ∧ xs.length * k.toNat ≤ sizeLine ∧ ∀ p H', Same H H' → H' p = some (.tup (List.replicate k.toNat xs).flatten) → Q (.ref p) H' := by
  constructor
  · rintro ⟨a', k', xs, h1, h2, h⟩; cases h1; cases h2; exact ⟨xs, h⟩
  · rintro ⟨xs, h⟩; exact ⟨a, k, xs, rfl, rfl, h⟩
/-- a list times a number, the heap behind it as any that holds it -/
def rRepS : R2 := fun x y H Q => ∃ l k xs, x = .ref l ∧ y = .int k ∧ H l = some (.lst xs) ∧ 0 ≤ k ∧ k < 1000000 ∧ xs.length * k.toNat ≤ sizeLine ∧ ∀ p H', H p = none → Same H H' → H' p = some (.lst (List.replicate k.toNat xs).flatten) → Q (.ref p) H'
theorem repS_ref {a : Addr} {k : Int} {H : Hp} {Q : VK} : rRepS (.ref a) (.int k) H Q ↔ ∃ xs, H a = some (.lst xs) ∧ 0 ≤ k ∧ k < 1000000 ∧ xs.length * k.toNat ≤ sizeLine ∧ ∀ p H', H p = none → Same H H' → H' p = some (.lst (List.replicate k.toNat xs).flatten) → Q (.ref p) H' := by
  constructor
  · rintro ⟨a', k', xs, h1, h2, h⟩; cases h1; cases h2; exact ⟨xs, h⟩
  · rintro ⟨xs, h⟩; exact ⟨a, k, xs, rfl, rfl, h⟩
end
end L2
/-! A TUPLE TIMES ANY NUMBER from 0 on -/
namespace L2
open PySem PySem.Spec PyProof.Rows
section
variable {X : Cx}
def rRepN : R2 := fun x y H Q => ∃ a k xs, x = .ref a ∧ y = .int k ∧ H a = some (.tup xs) ∧ 0 ≤ k ∧ k < 1000 ∧ xs.length * k.toNat ≤ sizeLine ∧ ∀ p H', Same H H' → H' p = some (.tup (List.replicate k.toNat xs).flatten) → Q (.ref p) H'
theorem repN_ref {a : Addr} {k : Int} {H : Hp} {Q : VK} : rRepN (.ref a) (.int k) H Q ↔ ∃ xs, H a = some (.tup xs) ∧ 0 ≤ k ∧ k < 1000 ∧ xs.length * k.toNat ≤ sizeLine ∧ ∀ p H', Same H H' → H' p = some (.tup (List.replicate k.toNat xs).flatten) → Q (.ref p) H' := by
  constructor
  · rintro ⟨a', k', xs, h1, h2, h⟩; cases h1; cases h2; exact ⟨xs, h⟩
  · rintro ⟨xs, h⟩; exact ⟨a, k, xs, rfl, rfl, h⟩
end
end L2
/-! list(range(n)), and the smaller one of two numbers -/
namespace L2
open PySem PySem.Spec PyProof.Rows
section
variable {X : Cx}
/-- the ints from lo on -/
def intsV (lo : Int) (n : Nat) : List V := (List.range n).map fun k => .int (lo + (k : Nat))
def tLR (ta : TA) : TE := fun σ H Q => ta σ H fun vs H1 => ∃ j : Int, vs = [.int j] ∧ 0 ≤ j ∧ j ≤ 1000000 ∧ ∀ p, H1 p = none → Q (.ref p) (upd H1 p (.lst (intsV 0 j.toNat)))
end
theorem rd_LR {ta : TA} {σ : St} {H : Hp} {Q : VK} : tLR ta σ H Q ↔ ta σ H fun vs H1 => ∃ j : Int, vs = [.int j] ∧ 0 ≤ j ∧ j ≤ 1000000 ∧ ∀ p, H1 p = none → Q (.ref p) (upd H1 p (.lst (intsV 0 j.toNat))) := Iff.rfl
end L2
/-! A COMPREHENSION over a tuple with a test: the items themselves are kept or left out, as is known one by one -/
namespace L2
open PySem
section
variable {p : Addr} {fv : St} {tt : TT} {te : TE} {Q : VK} {H1 : Hp} {K : PySem.W.Frag}
end
end L2
/-! COMPREHENSIONS of one for whose target is a tuple of two names -/
namespace L2
open PySem PySem.Spec PyProof.Rows
section
variable {X : Cx} {pins : List (Addr × Obj)} {σ : St} {H1 : Hp} {s3 : Shared} {x x2 : Str} {fx : List Str} {fr : List Nat} {scope : Scope} {cl : List (Str × Addr)} {fp : List Addr}
end
/-- the walk: each item is a tuple of two -/
def CompI2 (K : PySem.W.Frag) (J : It) (p : Addr) (fv : St) (tt : TT) (te : TE) (Q : VK) (H1 : Hp) : Prop :=
  ∃ W : Nat → Nat → List V → Hp → Prop, (∃ m, W 0 m [] (upd H1 p (.lst []))) ∧ ∀ i m ys H2, W i m ys H2 → H2 p = some (.lst ys) ∧
    ((J.stop i H2 ∧ Q (.ref p) H2) ∨ (J.go i H2 ∧ ys.length < sizeLine ∧ ∀ z H3, J.yld i H2 z H3 → ∃ a x y, z = .ref a ∧ SqT K H3 a [x, y] ∧ tt (some x :: some y :: fv) H3 fun b H4 =>
      if b = true then te (some x :: some y :: fv) H4 fun y H5 => H5 p = some (.lst ys) ∧ ∃ m', m' < m ∧ W (i + 1) m' (ys ++ [y]) (upd H5 p (.lst (ys ++ [y])))
      else ∃ m', m' < m ∧ W (i + 1) m' ys H4))
def tComp2 (K : PySem.W.Frag) (wi : TI) (fr : List Nat) (tt : TT) (te : TE) : TE := fun σ H Q => wi σ H fun J H1 => ∀ p, H1 p = none → CompI2 K J p (frV σ fr) tt te Q H1
section
variable {X : Cx} {elt iter : Expr} {x x2 : Str} {px px2 ptx pos : Pos} {kx : Nat} {ifs : List Expr} {scope : Scope} {cl : List (Str × Addr)} {fx : List Str} {fr : List Nat} {wi : TI} {tt : TT} {te : TE}
end
section
variable {p : Addr} {fv : St} {te : TE} {Q : VK} {H1 : Hp} {K : PySem.W.Frag}
theorem rd_comp2T {tl : TE} {tt : TT} {fr : List Nat} {σ : St} {H : Hp} : tComp2 K (iTup K tl) fr tt te σ H Q ↔ tl σ H fun x H1 => ∃ a, x = .ref a ∧ (∃ xs, SqT K H1 a xs) ∧ ∀ p, H1 p = none → CompI2 K (Itt K a) p (frV σ fr) tt te Q H1 := Iff.rfl
end
end L2
/-! A TEXT'S find -/
namespace L2
open PySem PySem.Spec PyProof.Rows
section
variable {X : Cx}
def rFind : V → List V → Hp → VK → Prop := fun x vs H Q => match x, vs with
  | .str z, [.str y] => Q (.int (Txt.find z y)) H
  | _, _ => False
theorem fi_find {z y : Str} {H : Hp} {Q : VK} : rFind (.str z) [.str y] H Q ↔ Q (.int (Txt.find z y)) H := Iff.rfl
end
end L2
namespace Wm
open PySem L2
end Wm
namespace Wm
open PySem L2
end Wm
namespace Wm
open PySem L2
end Wm
namespace Wm
end Wm
namespace L2
open PySem
theorem pa_ref {l : Addr} {H : Hp} {Q : VK} {i : Int} : rPopAt (.ref l) [.int i] H Q ↔ ∃ xs k y, H l = some (.lst xs) ∧ -(2 ^ 63) ≤ i ∧ i < 2 ^ 63 ∧ seqIndex? i xs.length = some k ∧ xs[k]? = some y ∧ Q y (upd H l (.lst (xs.eraseIdx k))) :=
  ⟨fun ⟨_, xs, _, k, y, h1, h2, h⟩ => by cases h1; cases h2; exact ⟨xs, k, y, h⟩, fun ⟨xs, k, y, h⟩ => ⟨_, xs, _, k, y, rfl, rfl, h⟩⟩
end L2
/-! EXCEPTIONS of own classes: raised without arguments, leaving a def, caught around one call -/
namespace L2
open PySem PySem.Spec PySem.W PyProof.Rows
abbrev vErr : List Value := [.type "ValueError", .type "Exception", .type "BaseException", .type "object"]
abbrev vNew : String := "ValueError.__new__"
/-! ### raise C() -/
def tRaise (E : XK) (C : Addr) : TS := fun _ _ H => E (.ref C) none H
theorem rd_raise {E : XK} {C : Addr} {D : Ends} {σ : St} {H : Hp} : tRaise E C D σ H ↔ E (.ref C) none H := Iff.rfl
/-! ### an exception that leaves a def -/
theorem ObjOk.ex {P : Program} {w : World} {H : Hp} {h : Heap} {a : Addr} {o : HO} (x : ObjOk P w H h a o) : ∃ u, h.get? a = some u := by
  cases o with
  | lst xs => obtain ⟨_, _, _, _, e⟩ := x; exact ⟨_, e⟩
  | tup xs => obtain ⟨_, _, _, _, e, _⟩ := x; exact ⟨_, e⟩
  | dK kvs => obtain ⟨_, _, _, _, _, _, _, e, _⟩ := x; exact ⟨_, e⟩
  | dT kvs => obtain ⟨_, _, _, _, _, _, _, e, _⟩ := x; exact ⟨_, e⟩
  | set S n => obtain ⟨_, _, _, _, e, _⟩ := x; exact ⟨_, e⟩
  | ins C dx fs => obtain ⟨_, _, _, e, _⟩ := x; exact ⟨_, e⟩
  | own y => exact x
  | xd fs => obtain ⟨_, ⟨_, _, _, e, _⟩, _⟩ := x; exact ⟨_, e⟩
  | rng lo hi => obtain ⟨_, _, _, e⟩ := x; exact ⟨_, e⟩
  | frz ob u => exact ⟨_, x.1⟩
  | tbl ps => exact ⟨_, x⟩
  | met f y => exact ⟨_, x⟩
  | ext φ => exact x.2.1
/-- how it lies behind a call: in the heap s', with the abstract heap H'; B is all but the frames and the exception's own records -/
structure Flown (P : Program) (w : World) (base : Heap) (outer : List Env) (H : Hp) (s : Shared) (a t C : Addr) (B : Heap) (H' : Hp) (s' : Shared) : Prop where
  os : s'.os = s.os
  bare : AllBare s'.gens
  st : base.StaysIn B
  fly : Heap.FlyingW B outer a (.ref C) (.ref t) s'.heap
  hok : HOk P w H' B
  un : Un (frs outer) [] H H' s.heap s'.heap
  kb : ∀ b o, s.heap.get? b = some o → H b = none → b ∉ frs outer → B.get? b = some o
  thB : ∀ b o, s.heap.get? b = some o → b ∉ frs outer → ∃ o', B.get? b = some o'
def CXE (P : Program) (w : World) (base : Heap) : CXT := fun outer H s E e s' => ∃ (a t C : Addr) (B : Heap) (H' : Hp), e = .ref a ∧ E (.ref C) none H' ∧ Flown P w base outer H s a t C B H' s'
theorem frs_cons {env : Env} {L : Addr} {outer : List Env} (hf : env.frame = some L) {b : Addr} : b ∈ frs (env :: outer) ↔ b = L ∨ b ∈ frs outer := by
  unfold frs
  rw [List.filterMap_cons, hf]
  exact List.mem_cons
section
variable {P : Program} {w : World} {K : Frag} {mg : Str → Option Value} {base : Heap} {N : List Str} {qual : Str} {scope : Scope} {f : Addr} {cd : Value} {A : Around} {outer : List Env} {s : Shared} {H : Hp} {E : XK}
/-- an exception of a callee goes on -/
theorem passes_cx : Passes (CXE P w base) (cxOf (CXE P w base) P w K mg base N qual scope f cd A outer s H E) E := by
  intro pins σ H1 s1 e s2 I hq
  obtain ⟨a, t, C, B, H2, rfl, hE, W⟩ := hq
  have hf : (envOfC qual scope s.heap.objs.size f cd).frame = some s.heap.objs.size := rfl
  have ib : Un (frs outer) [] H H1 s.heap s1.heap := I.base
  have W : Flown P w base (envOfC qual scope s.heap.objs.size f cd :: outer) H1 s1 a t C B H2 s2 := W
  have ne : ∀ b o, s.heap.get? b = some o → b ∉ frs outer → b ∉ frs (envOfC qual scope s.heap.objs.size f cd :: outer) := fun b o q n z => by
    rcases (frs_cons hf).mp z with z | z
    · exact absurd (Heap.lt_size q) (by rw [z]; exact Nat.lt_irrefl _)
    · exact n z
  show wpAny (model P w) (A.deeper (envOfC qual scope s.heap.objs.size f cd)) (leaving (envOfC qual scope s.heap.objs.size f cd) (.ref a)) _ _ _
  refine wpAny_leaves_onW I.ok.frames hf W.fly fun h3 x1 x2 => ?_
  have keepB : ∀ b o, s.heap.get? b = some o → H b = none → b ∉ frs outer → B.get? b = some o := fun b o q n nf =>
    W.kb b o (ib.keep b o q n nf (by simp)) (ib.free b o q n (by simp)) (ne b o q nf)
  have thB : ∀ b o, s.heap.get? b = some o → b ∉ frs outer → ∃ o', B.get? b = some o' := fun b o q nf => by
    obtain ⟨o', z⟩ := ib.there b o q (by simp)
    exact W.thB b o' z (ne b o q nf)
  have slotF : ∀ b, b ∈ frs outer → ∀ o, s2.heap.get? b = some o → ∃ sl, h3.get? b = some { o with slots := sl } := fun b hb o q => by
    obtain ⟨_, o2, q2, nd⟩ := W.fly.2.2.1.mem ((frs_cons hf).mpr (.inr hb))
    rw [q] at q2
    cases q2
    exact x2 b o q nd
  refine ⟨a, t, C, B, H2, rfl, hE, ⟨W.os.trans I.os, W.bare, W.st, x1, W.hok, ⟨fun b o q n nf _ => x1.1 b o (keepB b o q n nf), fun b o q n hb _ => ?_, fun b o q n _ => ?_, fun b o q _ => ?_, fun b xs q => W.un.tups b xs (ib.tups b xs q), fun b o u q => W.un.frzs b o u (ib.frzs b o u q), fun b ps q => ?_⟩, keepB, thB⟩⟩
  · obtain ⟨sl, z⟩ := ib.slot b o q n hb (by simp)
    obtain ⟨sl1, z1⟩ := W.un.slot b _ z (ib.free b o q n (by simp)) ((frs_cons hf).mpr (.inr hb)) (by simp)
    obtain ⟨sl', z'⟩ := slotF b hb _ z1
    exact ⟨sl', z'⟩
  · obtain ⟨o', z⟩ := ib.there b o q (by simp)
    exact W.un.free b o' z (ib.free b o q n (by simp)) (by simp)
  · by_cases hb : b ∈ frs outer
    · obtain ⟨o', z⟩ := ib.there b o q (by simp)
      obtain ⟨o'', z1⟩ := W.un.there b o' z (by simp)
      obtain ⟨sl', z'⟩ := slotF b hb _ z1
      exact ⟨_, z'⟩
    · obtain ⟨o', z⟩ := thB b o q hb
      exact ⟨o', x1.1 b o' z⟩
  · obtain ⟨m1, z⟩ := ib.tbls b ps q
    obtain ⟨m2, z2⟩ := W.un.tbls b _ z
    exact ⟨m1 ++ m2, by rw [z2, Array.append_assoc]⟩
end
end L2
namespace L2
open PySem PySem.Spec PySem.W PyProof.Rows
/-! ### try: f(..), except W as n -/
/-- what is kept of an exception that was caught: its class -/
def exO (a C : Addr) : HO := .ext fun h => ∃ o, h.get? a = some o ∧ o.cls = .ref C
abbrev Cx.handling (X : Cx) (e : Value) : Cx := { X with A := X.A.mark (some e), calm := false, xe := fun _ _ => False }
section
variable {X : Cx} {pins : List (Addr × Obj)} {σ : St} {H H1 H2 : Hp} {s s1 s2 : Shared}
theorem Inv.handling (e : Value) (I : Inv X pins σ H s) : Inv (X.handling e) pins σ H s :=
  ⟨⟨I.ok.mod, I.ok.kind, I.ok.glob, I.ok.blt, I.ok.above, I.ok.inj, I.ok.has, I.ok.cab, (fun z => by cases z), I.ok.frames, I.ok.stk, I.ok.exf, I.ok.bs, I.ok.bsz, I.ok.noex, I.ok.exfs, I.ok.funs, I.ok.frf⟩, I.os, I.bare, I.base, I.loc, I.cell, I.free, I.freeC, I.pin, I.hok, I.len⟩
theorem Inv.handled {e : Value} (J : X.Ok) (I : Inv (X.handling e) pins σ H s) : Inv X pins σ H s := ⟨J, I.os, I.bare, I.base, I.loc, I.cell, I.free, I.freeC, I.pin, I.hok, I.len⟩
theorem Flown.new {P : Program} {w : World} {base B h5 : Heap} {outer : List Env} {a t C : Addr} {a0 : Value} (W : Flown P w base outer H1 s1 a t C B H2 s2) : H2 a = none := by
  cases q : H2 a with
  | none => rfl
  | some u =>
    obtain ⟨o, z⟩ := (W.hok a u q).ex
    rw [W.fly.2.1] at z
    cases z
theorem Inv.caught {a t C : Addr} {B h5 : Heap} {a0 : Value} (I : Inv X pins σ H1 s1) (W : Flown X.prog X.w X.base X.stack H1 s1 a t C B H2 s2) (f5 : Heap.FlyingW B X.stack a (.ref C) a0 h5) (sm : s2.heap.UpToSlots h5) :
    Inv X pins σ (upd H2 a (exO a C)) { s2 with heap := h5 } := by
  have hn : H2 a = none := W.new (h5 := h5) (a0 := a0)
  obtain ⟨oe, vs, T, oT, ts, he, _, hd, _⟩ := W.fly.2.2.2
  have fr : ∀ b ∈ frs X.stack, ∀ o, s2.heap.get? b = some o → b ≠ a ∧ ∃ sl, h5.get? b = some { o with slots := sl } := fun b hb o q => by
    obtain ⟨_, o2, q2, nd⟩ := W.fly.2.2.1.mem hb
    rw [q] at q2
    cases q2
    refine ⟨fun z => ?_, sm b o q nd⟩
    rw [z, he] at q
    cases q
    exact nd _ hd
  have na : ∀ b o, s1.heap.get? b = some o → b ≠ a := fun b o q => by
    by_cases hb : b ∈ frs X.stack
    · obtain ⟨o', z⟩ := W.un.there b o q (by simp)
      exact (fr b hb o' z).1
    · obtain ⟨o', z⟩ := W.thB b o q hb
      rintro rfl
      rw [W.fly.2.1] at z
      cases z
  refine I.call' (H' := upd H2 a (exO a C)) (s' := { s2 with heap := h5 }) (ch := []) W.os ⟨fun b o q n nf _ => f5.1 b o (W.kb b o q n nf), fun b o q n hb _ => ?_, fun b o q n _ => ?_, fun b o q _ => ?_, fun b xs q => ?_, fun b o u q => ?_, fun b ps q => ?_⟩ (fun b u q => ?_) W.bare (fun b z => by cases z)
  · obtain ⟨sl, z⟩ := W.un.slot b o q n hb (by simp)
    obtain ⟨_, sl', z'⟩ := fr b hb _ z
    exact ⟨sl', z'⟩
  · rw [upd_ne (na b o q)]
    exact W.un.free b o q n (by simp)
  · by_cases hb : b ∈ frs X.stack
    · obtain ⟨o', z⟩ := W.un.there b o q (by simp)
      obtain ⟨_, sl', z'⟩ := fr b hb _ z
      exact ⟨_, z'⟩
    · obtain ⟨o', z⟩ := W.thB b o q hb
      exact ⟨o', f5.1 b o' z⟩
  · have z := W.un.tups b xs q
    rw [upd_ne (ne_of_none z hn)]
    exact z
  · have z := W.un.frzs b o u q
    rw [upd_ne (ne_of_none z hn)]
    exact z
  · obtain ⟨m, z⟩ := W.un.tbls b ps q
    exact ⟨m, by rw [upd_ne (ne_of_none z hn)]; exact z⟩
  · by_cases hb : b = a
    · subst hb
      rw [upd_same] at q
      cases q
      obtain ⟨ob, hob, hoc⟩ := f5.there
      exact ⟨⟨ob, hob, hoc⟩, ⟨ob, hob⟩, fun h1 h2 ⟨o, z, c⟩ k => ⟨o, k o z, c⟩⟩
    · rw [upd_ne hb] at q
      refine (W.hok b u q).stay (fun c v _ z => f5.1 c v z) (fun c z => ?_) fun c xs z => ?_
      · rw [upd_ne (ne_of_none z hn)]; exact z
      · rw [upd_ne (ne_of_none z hn)]; exact z
/-- the name of a clause goes behind its suite -/
theorem Inv.goes {M : Model} {A : Around} {E : Value → Shared → Prop} {i : Nat} {n : Str} {pos : Pos} {Q : Unit → Shared → Prop} (I : Inv X pins σ H s) (nd : X.N.Nodup) (hi : X.N[i]? = some n) (hl : X.env.scope.names.lookup n = some .local)
    (h : ∀ s', Inv X pins (σ.set i none) H s' → Q () s') : wpAny M A (do bindName X.env n .none; unbindBehindTheSuite X.env n pos) Q E s := by
  obtain ⟨m, hn, hlk⟩ := id I.loc
  have hcls : (X.env.scope.kind == .class || (X.env.scope.kind == .module && X.env.locals != X.env.globals)) = false := by rw [I.ok.kind]; rfl
  have hiσ : i < σ.length := by rw [I.len]; exact (List.getElem?_eq_some_iff.mp hi).1
  refine wpAny_nameGoes_keeps hl hn hcls fun h' v hn' hs => h _ ?_
  have neL : ∀ b o, X.s₀.heap.get? b = some o → b ≠ X.env.locals := fun b o e => Nat.ne_of_lt (Nat.lt_of_lt_of_le (Heap.lt_size e) I.ok.above)
  refine ⟨I.ok, I.os, I.bare, ⟨fun b o e z hb hx => (hs.2 b (neL b o e)).trans (I.base.keep b o e z hb hx), fun b o e z hb hx => ?_, I.base.free, fun b o e hx => ?_, I.base.tups, I.base.frzs, I.base.tbls⟩, ⟨_, hn', fun j y v' e1 e2 e3 => ?_⟩, fun y c e => ?_, I.free, I.freeC, fun p hp => ?_, fun b ob e => ?_, by simpa using I.len⟩
  · obtain ⟨sl, e1⟩ := I.base.slot b o e z hb hx
    exact ⟨sl, (hs.2 b (neL b o e)).trans e1⟩
  · obtain ⟨o', e1⟩ := I.base.there b o e hx
    exact ⟨o', (hs.2 b (neL b o e)).trans e1⟩
  · by_cases hj : j = i
    · subst hj
      rw [List.getElem?_set_self hiσ] at e2
      cases e2
    · rw [List.getElem?_set_ne (Ne.symm hj)] at e2
      obtain ⟨u', r', q⟩ := hlk j y v' e1 e2 e3
      refine ⟨u', r', ?_⟩
      rcases q with ⟨k, e⟩ | ⟨k, c, e, z⟩
      · refine .inl ⟨k, ?_⟩
        have : y ≠ n := fun e => hj (nodup_ix nd e1 (e ▸ hi))
        simp [this, e]
      · exact .inr ⟨k, c, e, z.sameBut hs (I.cne y c e)⟩
  · obtain ⟨w', z⟩ := I.cell y c e
    exact ⟨w', z.sameBut hs (I.cne y c e)⟩
  · obtain ⟨e, n1, ne, nf, d⟩ := I.pin p hp
    exact ⟨(hs.2 p.1 ne).trans e, n1, ne, nf, d⟩
  · refine (I.hok b ob e).stay (fun c w' hc q => (hs.2 c ?_).trans q) (fun _ q => q) fun _ _ q => q
    rintro rfl
    rcases hc with rfl | hc
    · rw [I.free] at e; cases e
    · rw [I.free] at hc; cases hc
end
/-- a class that may be caught, and what stands under it -/
structure Catch (K : Frag) (W : Addr) : Prop where
  ty : typeIn K (.ref W) = some (.type "type")
  ex : subIn K (.ref W) (.type "BaseException") = some true
  cl : (clsIn K W).isSome = true
theorem looks_match {K : Frag} {M : Model} {h : Heap} {a W C : Addr} {o : Obj} (kin : K.In h) (ha : h.get? a = some o) (hc : o.cls = .ref C) (cw : Catch K W) (hs : subIn K (.ref C) (.ref W) = some true) : Looks M h (excMatches (.ref a) (.ref W)) true := by
  have L1 := looks_typeIn (M := M) kin cw.ty
  have L2 := looks_subIn (M := M) kin cw.ex
  have L3 := looks_subIn (M := M) kin hs
  have L4 : Looks M h (typeOf (.ref a)) (.ref C) := hc ▸ (Looks.ld ha).andThen .now
  have L5 : Looks M h (isInstance (.ref W) (.type "tuple")) false := L1.andThen (Looks.of_pure tc_notTuple)
  have L6 : Looks M h (isType (.ref W)) true := by
    have z := cw.cl
    unfold clsIn at z
    split at z
    · next lk =>
      intro A' Q' E' s' k q
      unfold isType loadHead
      exact wpAny_bind (wpAny_loadPart (k _ _ (kin _ _ lk)) (wpAny_pure q))
    · cases z
  intro A Q E s k q
  unfold excMatches isExcClass
  refine wpAny_bind (L5 A _ E s k ?_)
  simp only [Bool.false_eq_true, if_false]
  refine wpAny_bind (wpAny_pure ?_)
  refine wpAny_bind ?_
  rw [List.forIn_cons]
  refine wpAny_bind (wpAny_bind (wpAny_bind (L6 A _ E s k ?_)))
  simp only [if_true]
  refine L2 A _ E s k ?_
  simp only [Bool.not_true, Bool.false_eq_true, if_false]
  refine wpAny_pure ?_
  dsimp only
  rw [List.forIn_nil]
  refine wpAny_pure ?_
  refine wpAny_bind (L4 A _ E s k ?_)
  refine wpAny_bind ?_
  rw [List.forIn_cons]
  refine wpAny_bind (wpAny_bind (L3 A _ E s k ?_))
  simp only [if_true]
  refine wpAny_pure ?_
  dsimp only
  exact wpAny_pure (wpAny_pure q)
end L2
namespace L2
open PySem PySem.Spec PySem.W PyProof.Rows
def tTry (K : Frag) (sp : Sp) (t : TA) (W : Addr) (i : Nat) (tb : TS) : TS := fun D σ H => t σ H fun vs H1 => sp vs H1 (fun _ H2 => D.nx σ H2) fun cls _ H2 =>
  ∃ C, cls = .ref C ∧ subIn K (.ref C) (.ref W) = some true ∧ ∀ a, H2 a = none → tb { nx := fun σ' H' => D.nx (σ'.set i none) H', rt := D.rt } (σ.set i (some (.ref a))) (upd H2 a (exO a C))
end L2
namespace L2
open PySem PySem.Spec PySem.W PySem.Calls PyProof.Rows PySem.Builtin PySem.Builtin.ObjectAttr PySem.Builtin.Getset_descriptor
/-! ### isinstance of an exception that was caught -/
/-- how __class__ is found on an exception of the class at C -/
structure ExLook (K : Frag) (C : Addr) : Prop where
  ga : findIn K (.ref C) "__getattribute__" = some (some (.builtin "BaseException.__getattribute__"))
  cl : findIn K (.ref C) "__class__" = some (some (.builtin "object.__class__"))
  na : findIn K (.ref C) "__getattr__" = some none
  mo : mroIn K C (.type "object") = some true
  mb : mroIn K C (.type "BaseException") = some true
  is : (clsIn K C).isSome = true
section
variable {prog : Program} {w : World} {A : Around} {E : Value → Shared → Prop} {hh : Heap} {g : Array GenState} {dr : Drawn} {t : Nat} {os : OsState} {K : Frag} {a C : Addr} {o : Obj}
theorem exc_type {M : Model} (hx : hh.get? a = some o) (hc : o.cls = .ref C) : Looks M hh (typeOf (.ref a)) (.ref C) := hc ▸ (Looks.ld hx).andThen .now
theorem exc_class_get {tp : Value} {R : Result → Shared → Prop} (kin : K.In hh) (hx : hh.get? a = some o) (hc : o.cls = .ref C) (hm : mroIn K C (.type "object") = some true)
    (h : R (.ok (.ret (.ref C))) ⟨hh, g, dr, t, os⟩) : codeAny (model prog w) A (.call (.builtin "getset_descriptor.__get__") ⟨[.builtin "object.__class__", .ref a, tp], []⟩) R ⟨hh, g, dr, t, os⟩ := by
  have lt := exc_type (M := model prog w) hx hc; have ls := looks_mroIn (M := model prog w) kin hm
  refine codeAny_call_builtin KF.slot_gs.plain KF.entry_gs (KF.slot_gs.check _ _ _ _ _ _ _ _ KF.type_class (KF.args_gs _ _ _) ?_); unfold Builtin.«getset_descriptor.__get__» descrGet; rw [dga_obj]
  refine wpAny_bind (wpAny_pure ?_); unfold descrGetter descrCheckInstance descrNameAndClass isInstance; simp only [KF.owner_class]
  repeat lk
  refine ⟨Code.quiet_builtin _ (by decide +kernel), codeAny_builtin KF.entry_class ?_⟩; unfold Builtin.«object.__class__» shownTypeOf
  repeat lk
  exact h
theorem exc_class_entry {tk : Tok} {Q : Fin → Shared → Prop} (kin : K.In hh) (hx : hh.get? a = some o) (hc : o.cls = .ref C) (L : ExLook K C) (hq : Q (.done (.ret (.ref C))) ⟨hh, g, dr, t, os⟩) :
    wpAny (model prog w) A (Builtin.«object.__getattribute__» ⟨[.ref a, .str "__class__" tk], []⟩) Q E ⟨hh, g, dr, t, os⟩ := by
  have lt := exc_type (M := model prog w) hx hc; have lc := looks_findIn (M := model prog w) kin L.cl
  have hT5 : (⟨hh, g, dr, t, os⟩ : Shared).TypeIs (.builtin "object.__class__") "getset_descriptor" := F.typeOf_object_class
  have f5 := F.typeOf_object_class; have f6 := F.slot_gs_get.lookup; have f7 := F.slot_gs_set.lookup
  repeat (any_goals (first | assumption | with_reducible refine Looks.at lt ?_ | with_reducible refine Looks.at lc ?_ | wp_step))
  refine exc_class_get kin hx hc L.mo ?_
  repeat (any_goals (first | assumption | wp_step))
theorem exc_ga_check {M : Model} {nv : Value} {Q : Unit → Shared → Prop} (kin : K.In hh) (hx : hh.get? a = some o) (hc : o.cls = .ref C) (L : ExLook K C) (hq : Q () ⟨hh, g, dr, t, os⟩) :
    wpAny M A (checkBuiltinCall "BaseException.__getattribute__" ⟨[.ref a, nv], []⟩) Q E ⟨hh, g, dr, t, os⟩ := by
  have lt := exc_type (M := M) hx hc; have lb := looks_mroIn (M := M) kin L.mb
  have z1 : builtinKind "BaseException.__getattribute__" = some .slot := by decide +kernel
  have z2 : splitId "BaseException.__getattribute__" = some ("BaseException", "__getattribute__") := by decide +kernel
  have z3 := F.args_bexc_ga (.ref a) nv
  simp only [checkBuiltinCall, z1, z2]; refine wpAny_bind ?_; unfold isInstance
  repeat (first | with_reducible refine Looks.at lt ?_ | with_reducible refine Looks.at lb ?_ | wp_step)
  exact hq
theorem exc_class_by {tk : Tok} {Q : Value → Shared → Prop} (kin : K.In hh) (hx : hh.get? a = some o) (hc : o.cls = .ref C) (L : ExLook K C) (gb : Slot "ValueError" "__getattribute__" "BaseException.__getattribute__") (hq : Q (.ref C) ⟨hh, g, dr, t, os⟩) :
    wpAny (model prog w) A (getAttrBy (.ref a) (.str "__class__" tk) false) Q E ⟨hh, g, dr, t, os⟩ := by
  have lt := exc_type (M := model prog w) hx hc; have lg := looks_findIn (M := model prog w) kin L.ga; have ln := looks_findIn (M := model prog w) kin L.na
  have f3 := gb.bind (.ref a)
  have y2 : (Value.builtin "BaseException.__getattribute__" == Value.builtin "object.__getattribute__") = false := by decide +kernel
  have y1 : (onTheHeap (Value.ref C) && Value.builtin "BaseException.__getattribute__" == Value.builtin "object.__getattribute__") = false := by rw [y2]; rfl
  repeat (any_goals (first | assumption | with_reducible refine Looks.at lt ?_ | with_reducible refine Looks.at lg ?_ | with_reducible refine Looks.at ln ?_ | wp_step))
  refine codeAny_call_builtin gb.plain F.entry_bexc_ga (exc_ga_check kin hx hc L (exc_class_entry kin hx hc L ?_))
  repeat (any_goals (first | assumption | wp_step))
theorem exc_class_attr {s : Shared} {Q : Option Value → Shared → Prop} (kin : K.In s.heap) (hx : s.heap.get? a = some o) (hc : o.cls = .ref C) (L : ExLook K C) (gb : Slot "ValueError" "__getattribute__" "BaseException.__getattribute__") (hq : Q (some (.ref C)) { s with toks := s.toks + 1 }) :
    wpAny (model prog w) A (getAttr? (.ref a) "__class__") Q E s := by
  obtain ⟨hh, g, dr, t, os⟩ := s
  unfold getAttr? getAttrBy?
  repeat (any_goals (first | assumption | with_reducible apply exc_class_by kin hx hc L gb | wp_step))
theorem kitx_exc (L : ExLook K C) (gb : Slot "ValueError" "__getattribute__" "BaseException.__getattribute__") : KitX K (.ref a) (.ref C) (fun h => ∃ o, h.get? a = some o ∧ o.cls = .ref C) where
  ty := fun _ _ _ ⟨o, hx, hc⟩ => exc_type hx hc
  it := fun _ _ X _ => by
    have z := L.is
    unfold clsIn at z
    split at z
    · next lk =>
      intro A' Q' E' s' k q
      unfold isType loadHead
      exact wpAny_bind (wpAny_loadPart (k _ _ (X _ _ lk)) (wpAny_pure q))
    · cases z
  ne := fun h tp dd its n sl X htp => by
    have z := L.is
    refine Bool.eq_false_iff.mpr fun q => ?_
    obtain rfl : C = tp := Value.ref.inj (beq_iff_eq.mp q)
    unfold clsIn at z
    split at z
    · next lk =>
      have y := (X _ _ lk).symm.trans htp
      cases y
    · cases z
  ca := fun X ⟨o, hx, hc⟩ k => exc_class_attr X hx hc L gb k
end
/-- what isinstance says of an exception of the class at C -/
inductive KitAns (K : Frag) (H : Hp) (C : Addr) : V → Bool → Prop
  | cls {W : Addr} {b : Bool} : kitOne K (.ref C) (.ref W) = some b → KitAns K H C (.ref W) b
  | ty {T : String} {b : Bool} : kitOne K (.ref C) (.type T) = some b → KitAns K H C (.ty T) b
  | tup {p : Addr} {cs : List Addr} {b : Bool} : H p = some (.tup (cs.map V.ref)) → kitAny K (.ref C) (cs.map Value.ref) = some b → KitAns K H C (.ref p) b
theorem vals_refs : ∀ {cs : List Addr} {us : List Value}, Vals (cs.map V.ref) us → us = cs.map Value.ref
  | [], _, .nil => rfl
  | _ :: _, _, .cons r rs => by cases r; rw [vals_refs rs]; rfl
def rIsE (K : Frag) : List V → Hp → VK → Prop := fun vs H Q => ∃ a c C b, vs = [.ref a, c] ∧ H a = some (exO a C) ∧ ExLook K C ∧ KitAns K H C c b ∧ Q (.bl b) H
end L2
namespace L2
open PySem PySem.W
theorem bt_ValueError : bootBuiltins "ValueError" = some (.type "ValueError") := by decide +kernel
theorem rd_isE {K : Frag} {a : Addr} {c : V} {H : Hp} {Q : VK} : rIsE K [.ref a, c] H Q ↔ ∃ C b, H a = some (exO a C) ∧ ExLook K C ∧ KitAns K H C c b ∧ Q (.bl b) H :=
  ⟨fun ⟨_, _, C, b, e, h⟩ => by cases e; exact ⟨C, b, h⟩, fun ⟨C, b, h⟩ => ⟨a, c, C, b, rfl, h⟩⟩
theorem rd_try {K : Frag} {sp : Sp} {t : TA} {W : Addr} {i : Nat} {tb : TS} {D : Ends} {σ : St} {H : Hp} : tTry K sp t W i tb D σ H ↔ t σ H fun vs H1 => sp vs H1 (fun _ H2 => D.nx σ H2) fun cls _ H2 =>
  ∃ C, cls = .ref C ∧ subIn K (.ref C) (.ref W) = some true ∧ ∀ a, H2 a = none → tb { nx := fun σ' H' => D.nx (σ'.set i none) H', rt := D.rt } (σ.set i (some (.ref a))) (upd H2 a (exO a C)) := Iff.rfl
end L2
/-! A TEXT'S startswith with a place -/
namespace L2
open PySem PySem.Spec PyProof.Rows
theorem sw3 (x y : Str) (t u : Tok) (i : Nat) (v : Tok) :
    Meets (Builtin.«str.startswith» ⟨[.str x t, .str y u, .int (i : Int) v], []⟩) (fun _ R s => R (.ok (.ret (.bool (decide (i + y.length ≤ x.length) && Builtin.Str.subAt x y i)))) s) :=
  .of_wp fun prog w A R s h => by
    obtain ⟨hp, g, d, tk, os⟩ := s
    unfold Builtin.«str.startswith»
    wp_walk
    rw [F.slot_int_index.lookup]
    wp_walk
    refine ⟨_, rfl, ?_⟩
    have e1 : (max (0 : Int) (if (i : Int) < 0 then (i : Int) + (x.length : Int) else (i : Int))).toNat = i := by
      rw [if_neg (by omega)]; omega
    have e2 : min ((x.length : Nat) : Int).toNat x.length = x.length := by omega
    dsimp only
    rw [e1, e2]
    exact h
section
variable {X : Cx}
def rStarts : V → List V → Hp → VK → Prop := fun x vs H Q => ∃ z y, ∃ i : Nat, x = .str z ∧ vs = [.str y, .int (i : Int)] ∧ Q (.bl (decide (i + y.length ≤ z.length) && Builtin.Str.subAt z y i)) H
theorem mt_starts3 : MtR X "str.startswith" rStarts := by
  intro pins s σ H x vs v us Q I rx rv h
  obtain ⟨z, y, i, rfl, rfl, q⟩ := h
  obtain ⟨t, rfl⟩ := rx
  obtain ⟨u1, u2, rfl, r1, r2⟩ := vals2 rv
  obtain ⟨t1, rfl⟩ := r1
  obtain ⟨t2, rfl⟩ := r2
  exact call_meets F.slot_str_startswith (typeIs_str _ _ _) F.entry_str_startswith (F.args_str_startswith_3 _ _ _) (sw3 z y t t1 i t2) ⟨.bl _, H, I, rfl, q⟩
end
end L2
namespace L2
open PySem PySem.Spec PyProof.Rows
section
variable {X : Cx}
def rPart : V → List V → Hp → VK → Prop := fun x vs H Q => ∃ z y, x = .str z ∧ vs = [.str y] ∧ (y.length == 0) = false ∧ z.length ≤ sizeLine ∧
  ∀ p, H p = none → Q (.ref p) (upd H p (.tup [.str (Txt.partition z y).1, .str (Txt.partition z y).2.1, .str (Txt.partition z y).2.2]))
theorem mt_partition : MtR X "str.partition" rPart := by
  intro pins s σ H x vs v us Q I rx rv h
  obtain ⟨z, y, rfl, rfl, hy, hz, q⟩ := h
  obtain ⟨t, rfl⟩ := rx
  obtain ⟨u, rfl, t', rfl⟩ := vals1 rv
  have hf : H s.heap.objs.size = none := I.hok.fresh (Nat.le_refl _)
  have q := q _ hf
  refine call_meets F.slot_str_partition (typeIs_str _ _ _) F.entry_str_partition (F.args_str_partition_2 _ _) (meets_str_partition z y t t' hy hz) ?_
  unfold Txt.partition at q
  revert q
  cases Builtin.Str.occurrences z y 0 z.length 1 with
  | nil =>
    intro q
    refine ⟨.ref s.heap.objs.size, _, I.laid (t' := s.toks + 1) (o := .tup _) (fun b u e => Heap.get?_push_of_some _ e) (by omega) ?_, rfl, q⟩
    exact ⟨by show 3 ≤ sizeLine; decide, _, .cons ⟨_, rfl⟩ (.cons ⟨_, rfl⟩ (.cons ⟨_, rfl⟩ .nil)), IsTup.new _ _⟩
  | cons i r =>
    intro q
    refine ⟨.ref s.heap.objs.size, _, I.laid (t' := s.toks + 1 + 1) (o := .tup _) (fun b u e => Heap.get?_push_of_some _ e) (by omega) ?_, rfl, q⟩
    exact ⟨by show 3 ≤ sizeLine; decide, _, .cons ⟨_, rfl⟩ (.cons ⟨_, rfl⟩ (.cons ⟨_, rfl⟩ .nil)), IsTup.new _ _⟩
end
end L2
/-! READING: a text and the place up to which it is read -/
namespace L2
open PySem PySem.Spec PyProof.Rows
theorem two_of3 {us : List Value} {d : Value} (h : (us ++ [d]).length = 3) : ∃ x y, us = [x, y] := by
  match us, h with
  | [x, y], _ => exact ⟨x, y, rfl⟩
  | [], h => simp at h
  | [_], h => simp at h
  | _ :: _ :: _ :: _, h => simp at h
section
variable {X : Cx}
/-- int of a text of figures -/
def rIntS : List V → Hp → VK → Prop := fun xs H Q => ∃ z n, xs = [.str z] ∧ z.length ≤ 640 ∧ PySem.intText? z = some n ∧ Q (.int n) H
theorem call_intS : CallR X (.type "int") rIntS := by
  intro pins s σ H xs us Q I r h
  obtain ⟨z, n, rfl, hz, hn, q⟩ := h
  obtain ⟨u, rfl, t, rfl⟩ := vals1 r
  exact PySem.W.KIN.call_text hn hz ⟨.int n, H, I.tok _, ⟨_, rfl⟩, q⟩
theorem inS_str {z : Str} {H : Hp} {Q : VK} : rIntS [.str z] H Q ↔ ∃ n, z.length ≤ 640 ∧ PySem.intText? z = some n ∧ Q (.int n) H :=
  ⟨fun ⟨_, n, e, h⟩ => by cases e; exact ⟨n, h⟩, fun ⟨n, h⟩ => ⟨z, n, rfl, h⟩⟩
theorem sw_str {z y : Str} {i : Nat} {H : Hp} {Q : VK} : rStarts (.str z) [.str y, .int (i : Int)] H Q ↔ Q (.bl (decide (i + y.length ≤ z.length) && Builtin.Str.subAt z y i)) H :=
  ⟨fun ⟨_, _, j, e1, e2, h⟩ => by
    cases e1
    injection e2 with e2 e3
    cases e2
    injection e3 with e3
    injection e3 with e3
    obtain rfl : i = j := by omega
    exact h, fun h => ⟨z, y, i, rfl, rfl, h⟩⟩
theorem pt_str {z y : Str} {H : Hp} {Q : VK} : rPart (.str z) [.str y] H Q ↔ (y.length == 0) = false ∧ z.length ≤ sizeLine ∧ ∀ p, H p = none → Q (.ref p) (upd H p (.tup [.str (Txt.partition z y).1, .str (Txt.partition z y).2.1, .str (Txt.partition z y).2.2])) :=
  ⟨fun ⟨_, _, e1, e2, h⟩ => by cases e1; cases e2; exact h, fun h => ⟨z, y, rfl, rfl, h⟩⟩
theorem rd_fld {K : PySem.W.Frag} {ta : TE} {f : Str} {σ : St} {H : Hp} {Q : VK} : tFld K ta f σ H Q ↔ ta σ H fun x H1 => ∃ a C dx fs v, x = .ref a ∧ H1 a = some (.ins C dx fs) ∧ Cls K C ∧ NoAttr K C f ∧ fs.lookup f = some v ∧ Q v H1 := Iff.rfl
theorem rd_sfld {K : PySem.W.Frag} {ta tv : TE} {f : Str} {D : Ends} {σ : St} {H : Hp} : sFld K ta tv f D σ H ↔ tv σ H fun y H1 => ta σ H1 fun x H2 => ∃ a C dx fs, x = .ref a ∧ H2 a = some (.ins C dx fs) ∧ Cls K C ∧ NoAttr K C f ∧ fs.length < 1000 ∧ D.nx σ (upd H2 a (.ins C dx (putF f y fs))) := Iff.rfl
theorem rd_meth {C : Addr} {m : Str} {sp : Sp} {dvs : List V} {E : XK} {ta : TE} {t : TA} {σ : St} {H : Hp} {Q : VK} : tMeth C m sp dvs E ta t σ H Q ↔ ta σ H fun x H1 => ∃ a dx fs, x = .ref a ∧ H1 a = some (.ins C dx fs) ∧ fs.lookup m = none ∧ t σ H1 fun vs H2 => sp (x :: (vs ++ dvs)) H2 Q E := Iff.rfl
theorem rd_make {C : Addr} {sp : Sp} {dvs : List V} {E : XK} {t : TA} {σ : St} {H : Hp} {Q : VK} : tMake C sp dvs E t σ H Q ↔ t σ H fun vs H1 => ∀ x dx, H1 x = none → H1 dx = none → dx ≠ x → sp (.ref x :: (vs ++ dvs)) (upd (upd H1 dx (.own x)) x (.ins C dx [])) (fun v H2 => v = .non ∧ Q (.ref x) H2) E := Iff.rfl
end
end L2
namespace Wm
open PySem L2
theorem sub_at (t w : List Nat) (i : Nat) (hi : i ≤ t.length) : (decide (i + (⟨w.toArray⟩ : Str).length ≤ (⟨t.toArray⟩ : Str).length) && Builtin.Str.subAt ⟨t.toArray⟩ ⟨w.toArray⟩ i) = decide ((t.drop i).take w.length = w) := by
  rw [mk_len, mk_len]
  have e : Builtin.Str.subAt ⟨t.toArray⟩ ⟨w.toArray⟩ i = decide ((t.drop i).take w.length = w) := by
    unfold Builtin.Str.subAt
    rw [mk_len, Bool.eq_iff_iff, beq_iff_eq, decide_eq_true_eq]
    show (t.toArray.extract i (i + w.length) = w.toArray) ↔ _
    rw [← Array.toList_inj]
    simp
  rw [e]
  by_cases h : (t.drop i).take w.length = w
  · have hl := congrArg List.length h
    rw [List.length_take, List.length_drop] at hl
    rw [decide_eq_true h, Bool.and_true]
    by_cases hw : w.length = 0
    · rw [hw, Nat.add_zero]
      exact decide_eq_true hi
    · exact decide_eq_true (by omega)
  · rw [decide_eq_false h, Bool.and_false]

/-- the first place of a text that a test likes -/
theorem occ1 (x y : Str) : ∀ (l : List Nat) (free : Nat), (∀ i ∈ l, free ≤ i) →
    (forIn l ((#[] : Array Nat), free) (StrLaws.occBody x y x.length 1)).run.fst.toList = (l.find? fun i => decide (i + y.length ≤ x.length) && Builtin.Str.subAt x y i).toList
  | [], free, _ => rfl
  | a :: l, free, hf => by
    rw [List.forIn_cons, List.find?_cons]
    have ha : free ≤ a := hf a (List.mem_cons_self ..)
    by_cases hc : a + y.length ≤ x.length ∧ Builtin.Str.subAt x y a = true
    · have e : (decide (a + y.length ≤ x.length) && Builtin.Str.subAt x y a) = true := by rw [decide_eq_true hc.1, hc.2]; rfl
      rw [e]
      unfold StrLaws.occBody
      rw [if_pos ⟨⟨⟨by simp, ha⟩, hc.1⟩, hc.2⟩]
      have full : ∀ (l : List Nat) (st : Array Nat × Nat), st.1.size = 1 → (forIn l st (StrLaws.occBody x y x.length 1)).run.fst = st.1 := by
        intro l
        induction l with
        | nil => intro st _; rfl
        | cons b l ih =>
          intro st hs
          rw [List.forIn_cons]
          unfold StrLaws.occBody
          rw [if_neg (fun h => by have := h.1.1.1; omega)]
          exact ih st hs
      show (forIn l ((#[] : Array Nat).push a, a + y.length) (StrLaws.occBody x y x.length 1)).run.fst.toList = _
      rw [full l _ (by simp)]
      simp
    · have e : (decide (a + y.length ≤ x.length) && Builtin.Str.subAt x y a) = false := by
        cases h1 : Builtin.Str.subAt x y a with
        | false => rw [Bool.and_false]
        | true => rw [Bool.and_true]; exact decide_eq_false fun z => hc ⟨z, h1⟩
      rw [e]
      unfold StrLaws.occBody
      rw [if_neg (fun h => hc ⟨h.1.2, h.2⟩)]
      exact occ1 x y l free fun i hi => hf i (List.mem_cons_of_mem _ hi)
/-- the part of a text ahead of its first colon -/
def ahead (t : List Nat) : List Nat := t.takeWhile fun c => decide (c ≠ 58)
theorem at_colon (t : List Nat) (i : Nat) : (decide (i + (⟨[58].toArray⟩ : Str).length ≤ (⟨t.toArray⟩ : Str).length) && Builtin.Str.subAt ⟨t.toArray⟩ ⟨[58].toArray⟩ i) = decide (t[i]? = some 58) := by
  by_cases hi : i ≤ t.length
  · rw [sub_at t [58] i hi, decide_eq_decide]
    cases h : t.drop i with
    | nil =>
      have : t[i]? = none := List.getElem?_eq_none (by have := congrArg List.length h; rw [List.length_drop, List.length_nil] at this; omega)
      rw [this]
      simp
    | cons c r =>
      have : t[i]? = some c := by rw [← List.head?_drop, h]; rfl
      rw [this]
      simp
  · rw [List.getElem?_eq_none (by omega), mk_len, mk_len, decide_eq_false (by rw [List.length_singleton]; omega)]
    rfl
theorem find_ahead (t : List Nat) : ∀ (k : Nat), k ≤ t.length → (t.take k).all (fun c => decide (c ≠ 58)) = true →
    ((List.range' k (t.length + 1 - k)).find? fun i => decide (t[i]? = some 58)) = if 58 ∈ t then some (ahead t).length else none := by
  intro k
  induction hn : t.length - k generalizing k with
  | zero =>
    intro hk ha
    have e : k = t.length := by omega
    subst e
    rw [List.take_length] at ha
    have hno : 58 ∉ t := fun h => by have := List.all_eq_true.mp ha 58 h; simp at this
    rw [if_neg hno, show t.length + 1 - t.length = 1 by omega]
    simp
  | succ n ih =>
    intro hk ha
    have hk' : k < t.length := by omega
    have hc : t[k]? = some t[k] := List.getElem?_eq_getElem hk'
    rw [show t.length + 1 - k = (t.length + 1 - (k + 1)) + 1 by omega, List.range'_succ, List.find?_cons, hc]
    by_cases h58 : t[k] = 58
    · rw [h58]
      simp only [decide_true]
      rw [if_pos (by rw [← h58]; exact List.getElem_mem hk')]
      congr 1
      have ht : t = t.take k ++ 58 :: t.drop (k + 1) := by
        rw [← h58, List.getElem_cons_drop, List.take_append_drop]
      unfold ahead
      rw [ht, List.takeWhile_append_of_pos (fun c hc' => List.all_eq_true.mp ha c hc'), List.takeWhile_cons_of_neg (by simp)]
      simp; omega
    · rw [show decide (some t[k] = some 58) = false from decide_eq_false (by simpa using h58)]
      refine ih (k + 1) (by omega) (by omega) ?_
      rw [List.take_add_one, hc, List.all_append, ha]
      simpa using h58
theorem part_colon (t : List Nat) : (Txt.partition ⟨t.toArray⟩ ⟨[58].toArray⟩).1 = ⟨(ahead t).toArray⟩ := by
  have e : Builtin.Str.occurrences (⟨t.toArray⟩ : Str) ⟨[58].toArray⟩ 0 (⟨t.toArray⟩ : Str).length 1 = (if 58 ∈ t then some (ahead t).length else none).toList := by
    rw [StrLaws.occ_eq, occ1 _ _ _ _ (fun i _ => Nat.zero_le i)]
    simp only [at_colon]
    rw [mk_len]
    exact congrArg Option.toList (find_ahead t 0 (Nat.zero_le _) rfl)
  unfold Txt.partition
  rw [e]
  by_cases h : 58 ∈ t
  · rw [if_pos h]
    show Builtin.Str.strSub ⟨t.toArray⟩ 0 (ahead t).length = _
    unfold Builtin.Str.strSub
    have hp : t.take (ahead t).length = ahead t := (List.prefix_iff_eq_take.mp (List.takeWhile_prefix _)).symm
    rw [← hp, List.length_take]
    have : (ahead t).length ≤ t.length := (List.takeWhile_prefix _).length_le
    rw [show min (ahead t).length t.length = (ahead t).length by omega]
    show (⟨t.toArray.extract 0 (ahead t).length⟩ : Str) = _
    simp
  · rw [if_neg h]
    have all : ∀ l : List Nat, 58 ∉ l → ahead l = l := fun l => by
      induction l with
      | nil => intro _; rfl
      | cons c l ih =>
        intro hl
        have h1 : c ≠ 58 := fun z => hl (by rw [z]; exact List.mem_cons_self ..)
        unfold ahead
        rw [List.takeWhile_cons, if_pos (decide_eq_true h1)]
        exact congrArg (c :: ·) (ih fun z => hl (List.mem_cons_of_mem _ z))
    have : ahead t = t := all t h
    rw [this]
    rfl

/-! ### a cursor: its text and its place -/
def Cur (H : Hp) (C p : Addr) (t : List Nat) (k : Nat) : Prop := ∃ dx, H p = some (.ins C dx [("text", .str ⟨t.toArray⟩), ("place", .int (k : Int))])
/-- w writes s, the signs of fr being free -/
inductive WrT (fr : List Nat) : List Nat → List Nat → Prop
  | nil : WrT fr [] []
  | self {c : Nat} {s w : List Nat} : (isPl c = true ∨ c ∈ fr) → c ≠ 126 → WrT fr s w → WrT fr (c :: s) (c :: w)
  | pair {c a b : Nat} {s w : List Nat} : sgO a b = some c → WrT fr s w → WrT fr (c :: s) (126 :: a :: b :: w)
/-- no text goes on with it -/
def Stops (fr r : List Nat) : Prop := ∀ c, r.head? = some c → isPl c = false ∧ c ∉ fr ∧ c ≠ 126
def moV : Option Nat → V
  | none => .non
  | some m => .int (m : Int)
theorem fig_at {a n : Nat} (h : fig a = some n) : a < 128 ∧ n < 16 ∧ (n < 10 → a = 48 + n) := by
  unfold fig at h
  split at h
  · cases h; omega
  · split at h
    · cases h; omega
    · split at h
      · cases h; omega
      · cases h
theorem sgO_first {a b c : Nat} (h : sgO a b = some c) : a ∈ (Str.ofString "234567").cps.toList ∧ a < 128 ∧ b < 128 ∧ isSg c = true := by
  unfold sgO at h
  cases ha : fig a with
  | none => simp [ha] at h
  | some n =>
    cases hb : fig b with
    | none => simp [ha, hb] at h
    | some m =>
      simp only [ha, hb] at h
      split at h
      · next hs =>
        cases h
        obtain ⟨a1, a2, a3⟩ := fig_at ha
        obtain ⟨b1, b2, _⟩ := fig_at hb
        have hr := hs
        simp only [isSg, Bool.and_eq_true, decide_eq_true_eq] at hr
        have e := a3 (by omega)
        refine ⟨?_, a1, b1, hs⟩
        have key : ∀ n, n < 8 → 2 ≤ n → 48 + n ∈ (Str.ofString "234567").cps.toList := by decide +kernel
        rw [e]
        exact key n (by omega) (by omega)
      · cases h

/-! ### reading through a cursor -/
section
variable {K : PySem.W.Frag} {H : Hp} {C p : Addr} {t : List Nat} {i : Nat}
theorem lk_text {v u : V} : List.lookup (Str.ofString "text") [(Str.ofString "text", v), (Str.ofString "place", u)] = some v := by
  rw [List.lookup_cons, beq_self_eq_true]
theorem lk_place {v u : V} : List.lookup (Str.ofString "place") [(Str.ofString "text", v), (Str.ofString "place", u)] = some u := by
  rw [List.lookup_cons, show (Str.ofString "place" == Str.ofString "text") = false by decide +kernel, List.lookup_cons, beq_self_eq_true]
theorem get_text {R : V → Prop} (h : Cur H C p t i) (cl : Cls K C) (n : NoAttr K C "text") (r : R (.str ⟨t.toArray⟩)) : ∃ a C dx fs v, p = a ∧ H a = some (.ins C dx fs) ∧ Cls K C ∧ NoAttr K C (Str.ofString "text") ∧ List.lookup (Str.ofString "text") fs = some v ∧ R v :=
  let ⟨dx, hp⟩ := h
  ⟨p, C, dx, _, _, rfl, hp, cl, n, lk_text, r⟩
theorem get_place {R : V → Prop} (h : Cur H C p t i) (cl : Cls K C) (n : NoAttr K C "place") (r : R (.int (i : Int))) : ∃ a C dx fs v, p = a ∧ H a = some (.ins C dx fs) ∧ Cls K C ∧ NoAttr K C (Str.ofString "place") ∧ List.lookup (Str.ofString "place") fs = some v ∧ R v :=
  let ⟨dx, hp⟩ := h
  ⟨p, C, dx, _, _, rfl, hp, cl, n, lk_place, r⟩
theorem put_place {v u w : V} : putF (Str.ofString "place") w [(Str.ofString "text", v), (Str.ofString "place", u)] = [(Str.ofString "text", v), (Str.ofString "place", w)] := by
  have h : Str.ofString "text" ≠ Str.ofString "place" := by decide +kernel
  simp only [putF, if_neg h, if_true]
theorem set_place {N : Hp → Prop} {z : Int} (h : Cur H C p t i) (cl : Cls K C) (n : NoAttr K C "place") (j : Nat) (hz : z = (j : Int)) (hN : ∀ H', SameBut p H H' → Cur H' C p t j → N H') :
    ∃ a C dx fs, p = a ∧ H a = some (.ins C dx fs) ∧ Cls K C ∧ NoAttr K C (Str.ofString "place") ∧ fs.length < 1000 ∧ N (upd H a (.ins C dx (putF (Str.ofString "place") (.int z) fs))) := by
  obtain ⟨dx, hp⟩ := h
  refine ⟨p, C, dx, _, rfl, hp, cl, n, by show 2 < 1000; decide, ?_⟩
  rw [put_place, hz]
  exact hN _ sameBut_upd ⟨dx, upd_same⟩
theorem lk_none {m : Str} {v u : V} (h1 : (m == Str.ofString "text") = false) (h2 : (m == Str.ofString "place") = false) : List.lookup m [(Str.ofString "text", v), (Str.ofString "place", u)] = none := by
  rw [List.lookup_cons, h1, List.lookup_cons, h2]; rfl
theorem cur_meth {R : Prop} {m : Str} (h : Cur H C p t i) (r : R) (h1 : (m == Str.ofString "text") = false := by decide +kernel) (h2 : (m == Str.ofString "place") = false := by decide +kernel) :
    ∃ a dx fs, p = a ∧ H a = some (.ins C dx fs) ∧ List.lookup m fs = none ∧ R :=
  let ⟨dx, hp⟩ := h
  ⟨p, dx, _, rfl, hp, lk_none h1 h2, r⟩
theorem Cur.same {H' : Hp} (h : Cur H C p t i) (s : Same H H') : Cur H' C p t i := let ⟨dx, hp⟩ := h; ⟨dx, s _ _ hp⟩
end

def plS : List Nat := (Str.ofString "abcdefghijklmnopqrstuvwxyzABCDEFGHIJKLMNOPQRSTUVWXYZ0123456789-_.").cps.toList
theorem plS_len : plS.length = 65 := by decide +kernel
theorem plS_in {c : Nat} (h : c < 128) : (c ∈ plS) ↔ isPl c = true := by
  have := plain_in c h
  rw [← this, decide_eq_true_eq]
  exact Iff.rfl

def seesB (t sg : List Nat) (i : Nat) : Bool := ((t[i]?).map fun c => decide (c ∈ sg)).getD false
theorem seesB_some {t sg : List Nat} {i c : Nat} (h : t[i]? = some c) : seesB t sg i = decide (c ∈ sg) := by unfold seesB; rw [h]; rfl
theorem seesB_none {t sg : List Nat} {i : Nat} (h : t[i]? = none) : seesB t sg i = false := by unfold seesB; rw [h]; rfl
theorem at_drop {t w : List Nat} {i c : Nat} (h : t.drop i = c :: w) : t[i]? = some c ∧ i < t.length := by
  have e : t[i]? = some c := by rw [← List.head?_drop, h]; rfl
  exact ⟨e, (List.getElem?_eq_some_iff.mp e).1⟩
theorem wrt_len {fr s w : List Nat} (h : WrT fr s w) : s.length ≤ w.length := by
  induction h with
  | nil => exact Nat.le_refl _
  | self _ _ _ ih => simp only [List.length_cons]; omega
  | pair _ _ ih => simp only [List.length_cons]; omega

def frS : List Nat := (Str.ofString "!$'()*,;@&=+").cps.toList
def frQ : List Nat := (Str.ofString "!$'()*,;@+/?:").cps.toList
def frM : List Nat := (Str.ofString "!$'()*,;@&=+/?:").cps.toList
theorem frS_len : frS.length ≤ 100 := by decide +kernel
theorem frQ_len : frQ.length ≤ 100 := by decide +kernel
theorem frM_len : frM.length ≤ 100 := by decide +kernel
theorem stops_nil {fr : List Nat} : Stops fr [] := fun c h => by cases h
theorem stops_cons {fr r : List Nat} {c : Nat} (h : isPl c = false ∧ c ∉ fr ∧ c ≠ 126) : Stops fr (c :: r) := fun d e => by cases e; exact h
def ValW (o : Option (List Nat)) (w : List Nat) : Prop := match o with
  | none => w = []
  | some s => ∃ v, w = 61 :: v ∧ WrT frQ s v

/-- what is written behind a step: nothing, a / at the end, or a / and further steps -/
inductive TlW : List (List Nat) → Bool → List Nat → Prop
  | stop : TlW [] false []
  | ends : TlW [] true [47]
  | more {s w : List Nat} {ss : List (List Nat)} {e : Bool} {v : List Nat} : WrT frS s w → s ≠ [] → TlW ss e v → TlW (s :: ss) e (47 :: (w ++ v))
inductive StpW : List (List Nat) → Bool → List Nat → Prop
  | none {e : Bool} : StpW [] e []
  | some {s w : List Nat} {ss : List (List Nat)} {e : Bool} {v : List Nat} : WrT frS s w → s ≠ [] → TlW ss e v → StpW (s :: ss) e (w ++ v)
/-- how pairs behind the first are written -/
inductive PrsW : List (List Nat × Option (List Nat)) → List Nat → Prop
  | nil : PrsW [] []
  | cons {n w v : List Nat} {o : Option (List Nat)} {ps : List (List Nat × Option (List Nat))} {r : List Nat} : WrT frQ n w → n ≠ [] → ValW o v → PrsW ps r → PrsW ((n, o) :: ps) (38 :: (w ++ (v ++ r)))
theorem Cur.toT {H H' : Hp} {C p : Addr} {t : List Nat} {i : Nat} (h : Cur H C p t i) (s : SameBut p H H') : SameT H H' := fun b xs e => s b _ (by
  obtain ⟨dx, hp⟩ := h
  exact ne_of e hp (by intro z; cases z)) e
def pD (a : List Nat × Option (List Nat)) : PyData := .tuple [st a.1, oD a.2]
def PrL (H : Hp) (vs : List V) (dn : List (List Nat × Option (List Nat))) : Prop := vs.length = dn.length ∧ ∀ (i : Nat) (a : List Nat × Option (List Nat)) (y : V), dn[i]? = some a → vs[i]? = some y → IsT H (pD a) y
theorem PrL.mono {H H' : Hp} {vs : List V} {dn : List (List Nat × Option (List Nat))} (h : PrL H vs dn) (s : SameT H H') : PrL H' vs dn := ⟨h.1, fun i a y e1 e2 => (h.2 i a y e1 e2).mono s⟩
theorem PrL.snoc {H : Hp} {vs : List V} {dn : List (List Nat × Option (List Nat))} {a : List Nat × Option (List Nat)} {y : V} (h : PrL H vs dn) (hy : IsT H (pD a) y) : PrL H (vs ++ [y]) (dn ++ [a]) := by
  refine ⟨by simp [h.1], fun i b z e1 e2 => ?_⟩
  by_cases hi : i < dn.length
  · rw [List.getElem?_append_left hi] at e1
    rw [List.getElem?_append_left (by rw [h.1]; exact hi)] at e2
    exact h.2 i b z e1 e2
  · have := (List.getElem?_eq_some_iff.mp e1).1
    rw [List.length_append, List.length_singleton] at this
    have e : i = dn.length := by omega
    subst e
    rw [List.getElem?_append_right (Nat.le_refl _), Nat.sub_self] at e1
    rw [← h.1, List.getElem?_append_right (Nat.le_refl _), Nat.sub_self] at e2
    cases e1
    cases e2
    exact hy
theorem isTAll_mk' {H : Hp} {α : Type} {g : α → PyData} : ∀ {l : List α} {ys : List V}, ys.length = l.length → (∀ (i : Nat) (a : α) (y : V), l[i]? = some a → ys[i]? = some y → IsT H (g a) y) → IsTAll H (l.map g) ys
  | [], [], _, _ => .nil
  | [], _ :: _, h, _ => by simp at h
  | _ :: _, [], h, _ => by simp at h
  | a :: l, y :: ys, h, k => .cons (k 0 a y rfl rfl) (isTAll_mk' (by simpa using h) fun i b z e1 e2 => k (i + 1) b z (by simpa using e1) (by simpa using e2))

def fgS : List Nat := (Str.ofString "0123456789").cps.toList
theorem fgS_in {c : Nat} : c ∈ fgS ↔ 48 ≤ c ∧ c ≤ 57 := by
  rw [show fgS = [48, 49, 50, 51, 52, 53, 54, 55, 56, 57] by decide +kernel]
  simp only [List.mem_cons, List.not_mem_nil, or_false]
  omega
theorem int_one : ∀ c, c < 58 → 48 ≤ c → PySem.intText? ⟨#[c]⟩ = some (((c - 48 : Nat)) : Int) := by decide +kernel

/-! ### the scheme -/
theorem ahead_pre (t : List Nat) : ∃ r, t = ahead t ++ r := ⟨t.dropWhile fun c => decide (c ≠ 58), (List.takeWhile_append_dropWhile (p := fun c => decide (c ≠ 58))).symm⟩
theorem ahead_len (t : List Nat) : (ahead t).length ≤ t.length := by
  obtain ⟨r, h⟩ := ahead_pre t
  have := congrArg List.length h
  rw [List.length_append] at this
  omega
theorem ahead_take (t : List Nat) : t.take (ahead t ++ [58]).length = ahead t ++ [58] ↔ t[(ahead t).length]? = some 58 := by
  obtain ⟨r, h⟩ := ahead_pre t
  generalize ahead t = a at h
  subst h
  rw [List.length_append, List.length_singleton, List.getElem?_append_right (Nat.le_refl _), Nat.sub_self, List.take_append]
  rw [List.take_of_length_le (by omega), show a.length + 1 - a.length = 1 by omega]
  constructor
  · intro e
    have e := List.append_cancel_left e
    cases r with
    | nil => simp at e
    | cons c r => simp at e; rw [e]; rfl
  · intro e
    cases r with
    | nil => simp at e
    | cons c r => simp at e; rw [e]; rfl
def schM (t : List Nat) : List Nat := if ahead t ≠ [] ∧ schD (.str ⟨(ahead t).toArray⟩) = true ∧ t[(ahead t).length]? = some 58 then ahead t else []
def schP (t : List Nat) : Nat := (schT (schM t)).length
theorem schM_yes {t : List Nat} (h1 : ahead t ≠ []) (h2 : schD (.str ⟨(ahead t).toArray⟩) = true) (h3 : t[(ahead t).length]? = some 58) : schM t = ahead t ∧ schP t = (ahead t ++ [58]).length := by
  have e : schM t = ahead t := by unfold schM; rw [if_pos ⟨h1, h2, h3⟩]
  exact ⟨e, by unfold schP schT; rw [e, if_neg h1]⟩
theorem schM_no {t : List Nat} (h : ¬ (ahead t ≠ [] ∧ schD (.str ⟨(ahead t).toArray⟩) = true ∧ t[(ahead t).length]? = some 58)) : schM t = [] ∧ schP t = 0 := by
  have e : schM t = [] := by unfold schM; rw [if_neg h]
  exact ⟨e, by unfold schP schT; rw [e, if_pos rfl]; rfl⟩
end Wm
namespace L2
open PySem
theorem IsKAll.length {K : PySem.W.Frag} {H : Hp} : ∀ {ds : List PyData} {xs : List V}, IsKAll K H ds xs → xs.length = ds.length
  | _, _, .nil => rfl
  | _, _, .cons _ r => by simp [IsKAll.length r]
end L2
namespace Wm
open PySem L2
/-! ### the shown text is a text that is read -/
theorem que_all2 {P : Nat → Prop} (h1 : P 63) (h2 : P 38) (h3 : P 61) (hw : ∀ c, wch c = true → P c) {q : Option (List (List Nat × Option (List Nat)))} (h : ∀ ps, q = some ps → ∀ p ∈ ps, PairOk p) : ∀ c ∈ queT q, P c := by
  intro c hc
  cases q with
  | none => cases hc
  | some ps =>
    simp only [queT, List.mem_cons] at hc
    rcases hc with rfl | hc
    · exact h1
    · refine join_all h2 (fun s hs d hd => ?_) c hc
      obtain ⟨p, hp, rfl⟩ := List.mem_map.mp hs
      exact pair_all h3 hw (h ps rfl p hp) d hd
theorem Ad.Wf.all {P : Nat → Prop} {x : Ad} (h : x.Wf) (h1 : P 47) (h2 : P 58) (h3 : P 63) (h4 : P 38) (h5 : P 61) (h6 : P 35) (hw : ∀ c, wch c = true → P c) : ∀ c ∈ x.shw, P c := by
  intro c hc
  rw [Ad.shw_eq] at hc
  rcases List.mem_append.mp hc with hc | hc
  · rcases List.mem_append.mp hc with hc | hc
    · exact h.pre_all h1 h2 hw c hc
    · exact que_all2 h3 h4 h5 hw h.que c hc
  · exact oT_all h6 hw h.mar c hc
/-! ### sizes -/
theorem Ad.Tiny.sz {x : Ad} (h : x.Wf) (t : x.Tiny) (hn : x.steps.length ≤ 300) : x.Sz where
  stp := fun s hs => Nat.le_trans (t.stp s hs) (by decide)
  que := fun ps e => ⟨Nat.le_trans (t.que ps e).1 (by decide), fun p hp => ⟨Nat.le_trans ((t.que ps e).2 p hp).1 (by decide), fun v hv => Nat.le_trans (((t.que ps e).2 p hp).2 v hv) (by decide)⟩⟩
  mar := fun l e => Nat.le_trans (t.mar l e) (by decide)
  num := Nat.le_trans hn (by decide)
  all := by
    have a1 : (schT x.scheme).length ≤ 9 := by
      unfold schT
      split
      · simp
      · have := h.sch.1; simp only [List.length_append, List.length_cons, List.length_nil]; omega
    have a2 : (houT x.house).length ≤ 200 := by
      cases hh : x.house with
      | none => simp [houT]
      | some l => have := (h.hou l hh).1.2; have := wr_len l; simp only [houT, List.length_cons]; omega
    have a3 : (dooT x.door).length ≤ 6 := by
      cases hh : x.door with
      | none => simp [dooT]
      | some i => have b := (h.doo i hh).1; have := dg_len b.1 b.2; simp only [dooT, List.length_cons]; omega
    have a4 : x.wayT.length ≤ 9000 := by
      have hj := join_bound (sep := 47) (m := 27) (ys := x.steps.map wr) fun s hs => by
        obtain ⟨u, hu, rfl⟩ := List.mem_map.mp hs
        have := wr_len u; have := t.stp u hu; omega
      rw [List.length_map] at hj
      have e1 : (if x.rooted then [47] else [] : List Nat).length ≤ 1 := by split <;> simp
      have e2 : (if x.ends && !x.steps.isEmpty then [47] else [] : List Nat).length ≤ 1 := by split <;> simp
      simp only [Ad.wayT, Wm.wayT, List.length_append]
      have : x.steps.length * (27 + 1) ≤ 300 * 28 := Nat.mul_le_mul hn (Nat.le_refl _)
      omega
    have a5 : (queT x.quest).length ≤ 1000 := by
      cases hq : x.quest with
      | none => simp [queT]
      | some ps =>
        have hk := t.que ps hq
        have hj := join_bound (sep := 38) (m := 37) (ys := ps.map pairT) fun s hs => by
          obtain ⟨p, hp, rfl⟩ := List.mem_map.mp hs
          have h1 := (hk.2 p hp).1
          have h2 := oT_len (sep := 61) (n := 6) (o := p.2) fun v hv => (hk.2 p hp).2 v hv
          have := wr_len p.1
          simp only [pairT, List.length_append]
          omega
        rw [List.length_map] at hj
        have : ps.length * (37 + 1) ≤ 3 * 38 := Nat.mul_le_mul hk.1 (Nat.le_refl _)
        simp only [queT, List.length_cons]
        omega
    have a6 := oT_len (sep := 35) (n := 60) (o := x.mark) fun l e => Nat.le_trans (t.mar l e) (by decide)
    simp only [Ad.shw, List.length_append]
    omega
theorem goneV_tiny {w : Way} (h : ∀ s ∈ w.2.1, s.length ≤ 9) : ∀ s ∈ (goneV w).2.1, s.length ≤ 9 := by
  intro s hs
  unfold goneV goneW at hs
  split at hs
  · cases hs
  · split at hs
    · split at hs
      · cases hs
      · rw [List.mem_singleton.mp hs]; decide
    · rcases gone_mem s hs with z | z
      · exact h s z.1
      · rw [z.2]; decide
theorem Ad.Tiny.gone {x : Ad} (h : x.Tiny) : x.gone.Tiny := ⟨goneV_tiny (w := x.w) h.stp, h.que, h.mar, h.hou⟩
/-! ### plain forms go along with resolving -/
/-! ### values that are small addresses -/
def GoodsT (n : Nat) (H : Hp) (vs : List V) : Prop := ∀ v ∈ vs, ∃ x : Ad, (x.Wf ∧ x.Tiny ∧ x.steps.length ≤ n) ∧ IsT H x.data v
theorem GoodsT.mono {n : Nat} {H H' : Hp} {vs : List V} (h : GoodsT n H vs) (sm : SameT H H') : GoodsT n H' vs := fun v hv => by
  obtain ⟨x, h1, h3⟩ := h v hv
  exact ⟨x, h1, h3.mono sm⟩
theorem GoodsT.nil {n : Nat} {H : Hp} : GoodsT n H [] := fun v hv => by cases hv
theorem GoodsT.cons {n : Nat} {H : Hp} {v : V} {vs : List V} {x : Ad} (h1 : x.Wf ∧ x.Tiny ∧ x.steps.length ≤ n) (h3 : IsT H x.data v) (h : GoodsT n H vs) : GoodsT n H (v :: vs) := fun u hu => by
  rcases List.mem_cons.mp hu with rfl | hu
  · exact ⟨x, h1, h3⟩
  · exact h u hu
theorem GoodsT.snoc {n : Nat} {H : Hp} {v : V} {vs : List V} {x : Ad} (h : GoodsT n H vs) (h1 : x.Wf ∧ x.Tiny ∧ x.steps.length ≤ n) (h3 : IsT H x.data v) : GoodsT n H (vs ++ [v]) := fun u hu => by
  rcases List.mem_append.mp hu with hu | hu
  · exact h u hu
  · rw [List.mem_singleton.mp hu]; exact ⟨x, h1, h3⟩
theorem Ad.Tiny.bare {x : Ad} (h : x.Tiny) : ({ x with scheme := [] } : Ad).Tiny := ⟨h.stp, h.que, h.mar, h.hou⟩
theorem Ad.Tiny.local {x : Ad} (h : x.Tiny) : ({ x with scheme := [], house := none, door := none } : Ad).Tiny := ⟨h.stp, h.que, h.mar, fun l e => by cases e⟩
end Wm
/-! A DICT of one pair, written out -/
namespace L2
open PySem PySem.Spec PySem.W PyProof.Rows
section
variable {X : Cx} {k v : Expr} {tk tv : TE} {pos : Pos}
def tDic1 (tk tv : TE) : TE := fun σ H Q => ∀ p, H p = none → tk σ (upd H p (.dK [])) fun x H1 => tv σ H1 fun y H2 => ∃ key : Str, x = .str key ∧ H2 p = some (.dK []) ∧ Q (.ref p) (upd H2 p (.dK [(.inr key, y)]))
theorem rd_dic1 {σ : St} {H : Hp} {Q : VK} : tDic1 tk tv σ H Q ↔ ∀ p, H p = none → tk σ (upd H p (.dK [])) fun x H1 => tv σ H1 fun y H2 => ∃ key : Str, x = .str key ∧ H2 p = some (.dK []) ∧ Q (.ref p) (upd H2 p (.dK [(.inr key, y)])) := Iff.rfl
theorem pe_dic1 (hk : PE X k tk) (hv : PE X v tv) : PE X (.Dict [some k] [v] pos) (tDic1 tk tv) := by
  intro pins s σ H Q I h
  have hf : H s.heap.objs.size = none := I.hok.fresh (Nat.le_refl _)
  have big : sysModules < s.heap.objs.size := Nat.lt_trans (show sysModules < mainGlobals by decide) (I.ok.mod.glob.keeps I.bk).lt
  have I0 : Inv X pins σ (upd H s.heap.objs.size (.dK [])) { s with heap := s.heap.push { cls := .type "dict", data := .dict #[] } } :=
    I.laid (t' := s.toks) (fun _ _ q => Heap.get?_push_of_some _ q) (Nat.le_refl _) ⟨Nat.zero_le _, beq_eq_false_iff_ne.mpr (Ne.symm (Nat.ne_of_lt big)), [], .nil, Heap.DictOf.new s.heap⟩
  refine wpAny_Dict_walk (knd := mixKind X.prog X.w) rfl rfl (by intro z; cases z) (show 1 ≤ 15 by decide) ?_
  refine pairTrees_cons_walk (thn (hk pins _ σ _ _ I0 (h _ hf)) fun u s1 ⟨x, H1, I1, rx, q⟩ => thn (hv pins s1 σ H1 _ I1 q) fun r s2 ⟨y, H2, I2, ry, key, ex, e, q2⟩ => pairTrees_nil_walk ?_)
  subst ex
  obtain ⟨tkk, rfl⟩ := rx
  obtain ⟨z, hd, vs, rel, dd⟩ := I2.hok _ _ e
  cases rel
  refine ⟨[(.inr key, r)], ⟨by show Value.isStrOf key (Value.str key tkk) = true; simp [Value.isStrOf], rfl, trivial⟩, dd, fun h' dd' hs => ?_⟩
  have he : ∃ q, h'.get? s.heap.objs.size = some q := let ⟨q, _, _, hq, _⟩ := dd'; ⟨q, hq⟩
  exact ⟨.ref _, _, I2.write (o := .dK [(.inr key, y)]) (t' := s2.toks + 1) (by rw [e]; exact True.intro) (.inl rfl) (fun b u hb q => by rw [hs.2 b hb]; exact q) he ⟨by show 1 ≤ sizeLine; decide, hd, [(.inr key, r)], .cons ⟨rfl, ry⟩ .nil, dd'⟩, rfl, q2⟩
end
end L2
/-! EXCEPTIONS with a field: where an object's attributes lie is kept by whatever has no calls in it -/
namespace L2
open PySem PySem.Spec PySem.W PyProof.Rows
def SameD (h h' : Heap) : Prop := ∀ (b : Nat) (o : Obj), h.objs[b]? = some o → ∃ o', h'.objs[b]? = some o' ∧ o'.dict = o.dict
theorem SameD.refl (h : Heap) : SameD h h := fun _ o e => ⟨o, e, rfl⟩
theorem SameD.trans {a b c : Heap} (x : SameD a b) (y : SameD b c) : SameD a c := fun d o e => by
  obtain ⟨o1, e1, q1⟩ := x d o e
  obtain ⟨o2, e2, q2⟩ := y d o1 e1
  exact ⟨o2, e2, q2.trans q1⟩
theorem SameD.push (h : Heap) (o : Obj) : SameD h (h.push o) := fun b u e => by
  refine ⟨u, ?_, rfl⟩
  have hb : b < h.objs.size := (Array.getElem?_eq_some_iff.mp e).1
  show (h.objs.push o)[b]? = some u
  rw [Array.getElem?_push, if_neg (Nat.ne_of_lt hb)]
  exact e
theorem SameD.upd (h : Heap) (a : Addr) {f : Obj → Obj} (hf : ∀ o, (f o).dict = o.dict) : SameD h (h.update a f) := fun b u e => by
  show ∃ o', (h.objs.modify a f)[b]? = some o' ∧ _
  rw [Array.getElem?_modify]
  by_cases q : a = b
  · rw [if_pos q, e]; exact ⟨f u, rfl, hf u⟩
  · rw [if_neg q, e]; exact ⟨u, rfl, rfl⟩
theorem SameD.get {h h' : Heap} (x : SameD h h') {b : Addr} {o o' : Obj} (e : h.get? b = some o) (e' : h'.get? b = some o') : o'.dict = o.dict := by
  obtain ⟨o1, q, r⟩ := x b o (Heap.get?_some_iff.mp e).1
  have := (Heap.get?_some_iff.mp e').1
  rw [q] at this
  cases this
  exact r
def kd {α : Type} : Sem α → Prop
  | .pure _ => True
  | .raise _ => False
  | .unsupported _ => True
  | .finish _ => True
  | .rule _ k => kd (k ())
  | .at _ k => kd (k ())
  | .load _ _ k => ∀ o, kd (k o)
  | .update _ _ f k => (∀ o, (f o).dict = o.dict) ∧ kd (k ())
  | .alloc _ k => ∀ a, kd (k a)
  | .loadIfAlive _ k => ∀ o, kd (k o)
  | .point _ k => kd (k ())
  | .register _ _ => True
  | .fresh k => ∀ t, kd (k t)
  | .ask k => ∀ t, kd (k t)
  | .choose _ _ k => ∀ t, kd (k t)
  | .os _ _ _ => False
  | .call _ _ _ _ _ => False
  | .handled _ k => ∀ t, kd (k t)
  | .newGen _ _ => False
  | .genState _ _ => False
  | .resume _ _ _ _ => False
  | .yield _ _ _ _ => True
  | .stack k => ∀ t, kd (k t)
  | .fork _ _ => True
  | .thread k => ∀ t, kd (k t)
  | .await _ _ _ _ _ => True
theorem kd_bind {α β : Type} {m : Sem α} {f : α → Sem β} (a : kd m) (b : ∀ x, kd (f x)) : kd (m >>= f) := by
  show kd (Sem.bind m f)
  induction m with
  | pure x => exact b x
  | raise _ => exact a.elim
  | unsupported _ => exact True.intro
  | finish _ => exact True.intro
  | rule _ k ih => exact ih () a
  | «at» _ k ih => exact ih () a
  | load _ _ k ih => exact fun o => ih o (a o)
  | update _ _ g k ih => exact ⟨a.1, ih () a.2⟩
  | alloc _ k ih => exact fun o => ih o (a o)
  | loadIfAlive _ k ih => exact fun o => ih o (a o)
  | point _ k ih => exact ih () a
  | register _ k ih => exact True.intro
  | fresh k ih => exact fun o => ih o (a o)
  | ask k ih => exact fun o => ih o (a o)
  | choose _ _ k ih => exact fun o => ih o (a o)
  | os _ _ k ih => exact a.elim
  | call _ _ _ _ k ih => exact a.elim
  | handled _ k ih => exact fun o => ih o (a o)
  | newGen _ k ih => exact a.elim
  | genState _ k ih => exact a.elim
  | resume _ _ _ k ih => exact a.elim
  | yield _ _ _ k ih => exact True.intro
  | stack k ih => exact fun o => ih o (a o)
  | fork _ k ih => exact True.intro
  | thread k ih => exact fun o => ih o (a o)
  | await _ _ _ _ k ih => exact True.intro
theorem wp_kd {α : Type} {M : Model} {Γ : PySem.Ctx} (t : Sem α) : ∀ {Q : α → Pos → Shared → Prop} {E : Value → Pos → Shared → Prop} {p : Pos} {s : Shared}, kd t → Sem.wp M Γ t Q E p s →
    Sem.wp M Γ t (fun a p' s' => Q a p' s' ∧ SameD s.heap s'.heap) (fun _ _ _ => False) p s := by
  induction t with
  | pure x => intro Q E p s _ h; exact ⟨h, .refl _⟩
  | raise _ => intro Q E p s a h; exact a.elim
  | unsupported _ => intro Q E p s _ h; exact h.elim
  | finish _ => intro Q E p s _ h; exact h.elim
  | rule _ k ih => intro Q E p s a h; exact ih () a h
  | «at» _ k ih => intro Q E p s a h; exact ih () a h
  | load _ _ k ih => intro Q E p s a h; obtain ⟨o, e, h⟩ := h; exact ⟨o, e, ih o (a o) h⟩
  | update x _ g k ih =>
    intro Q E p s a h
    obtain ⟨e, h⟩ := h
    exact ⟨e, Sem.wp_mono M Γ (k ()) (fun _ _ _ z => ⟨z.1, (SameD.upd _ _ a.1).trans z.2⟩) (fun _ _ _ z => z) _ _ (ih () a.2 h)⟩
  | alloc o k ih => intro Q E p s a h; exact Sem.wp_mono M Γ (k _) (fun _ _ _ z => ⟨z.1, (SameD.push _ _).trans z.2⟩) (fun _ _ _ z => z) _ _ (ih _ (a _) h)
  | loadIfAlive _ k ih => intro Q E p s a h; exact ih _ (a _) h
  | point _ k ih => intro Q E p s a h; exact ih () a h
  | register _ k ih => intro Q E p s _ h; exact h.elim
  | fresh k ih => intro Q E p s a h; exact ih _ (a _) h
  | ask k ih => intro Q E p s a h; exact ih _ (a _) h
  | choose _ _ k ih => intro Q E p s a h; exact ⟨h.1, ih _ (a _) h.2⟩
  | os _ _ k ih => intro Q E p s a h; exact a.elim
  | call _ _ _ _ k ih => intro Q E p s a h; exact a.elim
  | handled _ k ih => intro Q E p s a h; exact ih _ (a _) h
  | newGen _ k ih => intro Q E p s a h; exact a.elim
  | genState _ k ih => intro Q E p s a h; exact a.elim
  | resume _ _ _ k ih => intro Q E p s a h; exact a.elim
  | yield _ _ _ k ih => intro Q E p s a h; exact h.elim
  | stack k ih => intro Q E p s a h; exact ih _ (a _) h
  | fork _ k ih => intro Q E p s a h; exact h.elim
  | thread k ih => intro Q E p s a h; exact ih _ (a _) h
  | await _ _ _ _ k ih => intro Q E p s a h; exact h.elim
theorem wpAny_kd {α : Type} {M : Model} {A : Around} {t : Sem α} {Q : α → Shared → Prop} {E : Value → Shared → Prop} {s : Shared} (k : kd t) (h : wpAny M A t Q E s) : wpAny M A t (fun a s' => Q a s' ∧ SameD s.heap s'.heap) (fun _ _ => False) s :=
  fun Γ p hΓ => wp_kd t k (h Γ p hΓ)
theorem kd_fieldsOf (v : Value) : kd (fieldsOf v) := by
  cases v <;> first | exact True.intro | (refine kd_bind (fun _ => True.intro) fun o => ?_; split <;> exact True.intro)
theorem kd_field (v : Value) (i : Nat) : kd (field v i) := by
  refine kd_bind (kd_fieldsOf v) fun x => ?_
  split <;> exact True.intro
theorem kd_setField (v : Value) (i : Nat) (x : Value) : kd (setField v i x) := by
  cases v <;> first | exact True.intro | skip
  refine kd_bind (fun _ => True.intro) fun o => ?_
  split
  · split
    · refine ⟨fun o => ?_, True.intro⟩
      unfold Obj.mapFields
      first | rfl | (split <;> rfl) | (cases o; rename_i d _; cases d <;> rfl)
    · exact True.intro
  · exact True.intro
theorem kd_setFlight (e : Value) (f : Option Addr) : kd (setFlight e f) := by
  refine kd_bind (kd_field e 1) fun tb => ?_
  try dsimp only
  split
  · exact kd_setField _ _ _
  · exact True.intro
theorem kd_readyFrames : ∀ l : List Env, kd (readyFrames l)
  | [] => True.intro
  | env :: outer => by
    unfold readyFrames
    split
    · refine kd_bind (fun _ => True.intro) fun o => ?_
      try dsimp only
      split
      · exact True.intro
      · refine kd_bind ?_ fun im => ?_
        · unfold behindIsImport
          try dsimp only
          split
          · exact True.intro
          · split
            · exact True.intro
            · exact kd_bind (kd_field _ _) fun _ => True.intro
        · refine kd_bind ?_ fun bk => ?_
          · unfold keptBack
            split
            · split
              · exact True.intro
              · exact kd_bind (kd_bind (fun _ => True.intro) fun _ => True.intro) fun _ => by split <;> exact True.intro
            · exact True.intro
          · exact kd_bind ⟨fun _ => rfl, True.intro⟩ fun _ => kd_readyFrames outer
    · exact True.intro
theorem kd_frameOf (env : Env) : kd (PySem.frameOf env) := by
  unfold PySem.frameOf
  refine kd_bind (kd_bind (fun _ => True.intro) fun _ => True.intro) fun l => kd_bind ?_ fun r => ?_
  · unfold frameObject
    split
    · exact True.intro
    · exact kd_bind (kd_readyFrames _) fun _ => True.intro
  · split <;> exact True.intro
theorem kd_newFields (ty : String) (vs : List Value) : kd (newFields ty vs) := by
  unfold newFields newObj newObjAsIs
  try dsimp only
  split
  · exact True.intro
  · exact fun _ => True.intro
theorem kd_noteFrame (e : Value) (env : Env) : kd (noteFrame e env) := by
  unfold noteFrame
  split
  · refine kd_bind (kd_field e 1) fun hd => ?_
    try dsimp only
    have rest : ∀ (x : Unit) (f : Addr) (hd : Value), kd (do setField e 1 (← EntryCells.newEntry hd (← PySem.frameOf env) .none (rawInt f) .none (← entryPlaceOf f (hd != .none))) : Sem Unit) := fun _ f hd => by
      refine kd_bind (kd_frameOf env) fun _ => kd_bind ?_ fun _ => kd_bind ?_ fun _ => kd_setField _ _ _
      · unfold entryPlaceOf
        refine kd_bind (fun _ => True.intro) fun acts => ?_
        split <;> exact True.intro
      · unfold EntryCells.newEntry
        exact kd_newFields _ _
    split
    · refine kd_bind (kd_field _ _) fun g => ?_
      try dsimp only
      split
      · exact True.intro
      · exact kd_bind (kd_setField _ _ _) fun _ => rest () _ _
    · exact rest () _ _
  · exact True.intro
theorem kd_leaving (env : Env) (e : Value) : kd (leaving env e) := kd_bind (kd_noteFrame e env) fun _ => kd_setFlight e none
end L2
namespace L2
open PySem PySem.Spec PySem.W PySem.Calls PyProof.Rows PySem.Builtin PySem.Builtin.ObjectAttr
/-! ### the field is set -/
def errTail : List Value → Bool
  | .ref _ :: r => errTail r
  | l => l == vErr
theorem refuse_err (self : Value) : ∀ {l : List Value}, errTail l = true → refuseLoop self "__setattr__" l = pure ()
  | [], e => by cases e
  | v :: r, e => by
    cases v <;> first | (rw [refuseLoop_ref]; exact refuse_err self (by unfold errTail at e; exact e)) | (rw [show (_ :: r) = vErr from beq_iff_eq.mp e]; exact PySem.F.store_ValueError.passes self)
theorem err_has : ∀ {l : List Value}, errTail l = true → l.contains (.type "object") = true
  | [], e => by cases e
  | v :: r, e => by
    cases v <;> first | (rw [List.contains_cons, err_has (l := r) (by unfold errTail at e; exact e), Bool.or_true]) | (rw [show (_ :: r) = vErr from beq_iff_eq.mp e]; decide +kernel)
def overErr (K : Frag) (C : Addr) : Bool := (clsIn K C).any fun cd => errTail cd.mro
section
variable {prog : Program} {w : World} {A : Around} {E : Value → Shared → Prop} {s : Shared} {K : Frag} {x C : Addr} {name : Str} {v : Value} {ox : Obj} {od : Option Obj}
theorem osa_exc {tk : Tok} {R : Result → Shared → Prop} (X : K.In s.heap) (I : PySem.W.InstAt s.heap x ox C od) (hp : overErr K C = true) (ht : takerIn K C name = some none)
    (h : ∀ b, wpAny (model prog w) A.in1 (storeInOwnDict (.ref x) (.ref C) (.str name tk) name v b)
      (fun fin s' => match fin with | .done f => R (.ok f) s' | .again c' => c'.quiet = true ∧ codeAny (model prog w) A c' R s') (fun e s' => R (.error e) s') s) :
    codeAny (model prog w) A (.call (.builtin "object.__setattr__") ⟨[.ref x, .str name tk, v], []⟩) R s := by
  have SF := PySem.F.store_object
  obtain ⟨cd, hc, ho⟩ := any_some hp
  have ne : cd.mro.isEmpty = false := by cases q : cd.mro with | nil => rw [q] at ho; cases ho | cons _ _ => rfl
  have sub : Looks (model prog w) s.heap (isInstance (.ref x) (.type "object")) true := I.type.andThen (looks_mroIn X (by unfold mroIn; rw [hc, Option.bind_some, if_neg (by rw [ne]; decide), err_has ho]))
  refine codeAny_call_builtin SF.slot.plain SF.entry (@check_slot (model prog w) _ _ s "object.__setattr__" "object" "__setattr__" (.ref x) [.str name tk, v] [] _ SF.kind SF.split sub (SF.args (.ref x) (.str name tk) v) ?_)
  obtain ⟨attr, ha, hr⟩ := Option.bind_eq_some_iff.mp ht
  have hm : Looks (model prog w) s.heap (mroOf (.ref C)) cd.mro := (looks_clsIn X hc).andThen .now
  have L3 : Looks (model prog w) s.heap (storeTaker? attr) none := by
    cases attr with
    | none => exact .now
    | some a =>
      obtain ⟨b, hb, hbn⟩ := Option.map_eq_some_iff.mp hr
      refine (looks_takesIn X hb).andThen ?_
      cases b with
      | true => cases hbn
      | false => exact .now
  rw [osa_eq, refuse_eq]
  refine wpAny_bind (wpAny_bind (I.type.here (wpAny_bind (hm.here ?_))))
  rw [refuse_err _ ho]
  refine wpAny_pure (wpAny_bind (I.type.here (wpAny_bind ((looks_findIn X ha).here (wpAny_bind (L3.here ?_))))))
  exact h _
theorem exc_set {Q : Unit → Shared → Prop} (X : K.In s.heap) (hx : s.heap.get? x = some ox) (hc : ox.cls = .ref C) (hd : ox.dict = none) (hn : notCls ox = true)
    (hs : findIn K (.ref C) "__setattr__" = some (some (.builtin "object.__setattr__"))) (hp : overErr K C = true) (ht : takerIn K C name = some none) (hh : hasDictIn K C = true)
    (h : ∀ h' tk, h'.get? x = some { ox with dict := some s.heap.objs.size } → h'.Ns1 s.heap.objs.size (fun y => if y = name then some v else none) → (∀ b o, b ≠ x → s.heap.get? b = some o → h'.get? b = some o) → Q () { s with heap := h', toks := tk }) :
    wpAny (model prog w) A (setAttr (.ref x) name v) Q E s := by
  have J : PySem.W.InstAt s.heap x ox C none := ⟨hx, hc, hn, by rw [hd]; exact True.intro⟩
  refine PySem.W.set_plain X J hs (osa_exc (s := { s with toks := s.toks + 1 }) X J hp ht fun b => ?_)
  obtain ⟨cd, hcd, hd'⟩ := any_some hh
  obtain ⟨oc, odi, oda, osl⟩ := ox
  dsimp only at hc hd
  subst hc hd
  refine wpAny_bind (wpAny_pure (wpAny_bind (wpAny_bind (wpAny_loadPart hx (wpAny_bind (Looks.here (s := { s with toks := s.toks + 1 }) (looks_clsIn X hcd) ?_))))))
  rw [hd']
  have nc : ∀ c, oda ≠ .cls c := fun c q => by subst q; cases hn
  have hx₁ : (s.heap.push { cls := .type "dict", data := .dict #[] }).get? x = some ⟨.ref C, none, oda, osl⟩ := Heap.get?_push_of_some _ hx
  have hxs : x ≠ s.heap.objs.size := Nat.ne_of_lt (Heap.lt_size hx)
  have hgd : ((s.heap.push { cls := .type "dict", data := .dict #[] }).update x fun o => { o with dict := some s.heap.objs.size }).get? s.heap.objs.size = some { cls := .type "dict", data := .dict #[] } :=
    (Heap.get?_update_ne _ _ _ _ hxs.symm).trans (Heap.get?_push_at rfl rfl)
  have hnd : ((s.heap.push { cls := .type "dict", data := .dict #[] }).update x fun o => { o with dict := some s.heap.objs.size }).Ns s.heap.objs.size (fun _ => none) :=
    ⟨_, #[], _, hgd, rfl, fun e he => absurd he (by simp), fun _ => rfl⟩
  have fin : wpAny (model prog w) A.in1 (storeInDict s.heap.objs.size (.str name (s.toks)) name v)
      (fun fin s' => match fin with | .done f => (match (Except.ok f : Result) with | .ok (.ret _) => Q () s' | .ok _ => False | .error e => E e s') | .again c' => c'.quiet = true ∧ codeAny (model prog w) A c' (fun r s' => match r with | .ok (.ret _) => Q () s' | .ok _ => False | .error e => E e s') s') (fun e s' => E e s')
      { s with heap := ((s.heap.push { cls := .type "dict", data := .dict #[] }).update x fun o => { o with dict := some s.heap.objs.size }), toks := s.toks + 1 } := by
    unfold storeInDict newKeyGuard
    refine wpAny_bind (wpAny_pure (wpAny_bind (wpAny_nsSet1 (s := { s with heap := ((s.heap.push { cls := .type "dict", data := .dict #[] }).update x fun o => { o with dict := some s.heap.objs.size }), toks := s.toks + 1 }) (Heap.Ns1.of_empty hnd) fun h' hn' hs' => ?_)))
    obtain ⟨oD, esD, epD, hoD, hdD, hcD⟩ := hn'.count (Within.cons name v Within.nil)
    refine wpAny_bind (wpAny_lookBehind hoD (by rw [hdD]; exact pastItsLine_dict (Nat.le_trans hcD (by rw [List.length_cons, List.length_nil, sizeLine_eq]; omega))) ?_)
    refine wpAny_pure (h h' _ ?_ hn' fun b o hb e => ?_)
    · refine (hs'.2 x hxs).trans (Heap.get?_update_self _ hx₁ ?_)
      have hfr := (Heap.get?_some_iff.mp hx).2
      cases oda <;> first | rfl | exact hfr
    · exact (hs'.2 b (Nat.ne_of_lt (Heap.lt_size e))).trans ((Heap.get?_update_ne _ _ _ _ hb).trans (Heap.get?_push_of_some _ e))
  cases oda <;> first | exact absurd rfl (nc _) | exact wpAny_bind (wpAny_alloc' (wpAny_bind (wpAny_update' hx₁ (wpAny_pure fin))))
end
end L2
namespace L2
open PySem PySem.Spec PySem.W PySem.Calls PyProof.Rows
/-! ### the class: an exception of one's own with an __init__ -/
def excInI (K : Frag) (C : Addr) (bmB : List Value) (newId : String) (fI : Addr) : Bool := match K.lookup C with
  | some ⟨.type "type", _, .cls cd, sl⟩ => (match cd.mro, sl.toList with
    | .ref C' :: bm, [_, _, _, _, some (.builtin n), _] => C' == C && n == newId && !cd.hasDel && tailIn K bmB bm && nsOkIn K cd.ns && nsIn K cd.ns "__init__" == some (some (.ref fI))
    | _, _ => false)
  | _ => false
theorem ns_some {K : Frag} {h : Heap} {N : Addr} {m : Str → Option Value} {n : Str} {v : Value} (X : K.In h) (G : h.Ns N m) (e : nsIn K N n = some (some v)) : m n = some v := by
  obtain ⟨o, es, ep, ho, hd, _, hf⟩ := G
  unfold nsIn at e
  split at e
  · next q =>
    have := X _ _ q
    rw [ho] at this
    cases this
    cases hd
    split at e
    · next he =>
      cases e
      rw [← hf]
      unfold nsFind findBy
      rw [← Array.find?_toList, he]
      rfl
    · split at e <;> cases e
  · cases e
theorem excObjI {K : Frag} {h : Heap} {C fI : Addr} {bb : List Value} {nid : String} (kin : K.In h) (q : excInI K C bb nid fI = true) :
    ∃ tl N nm qn bs hd sn sub ab col dd k0 k1 k2 k3 k5, h.get? C = some (excClassObj nm qn C N bs tl hd sn sub ab col dd k0 k1 k2 k3 k5 nid) ∧ (∃ mN, h.Ns N mN ∧ mN "__init__" = some (.ref fI)) ∧ OwnTail h bb tl := by
  unfold excInI at q
  split at q
  · next dd cd sl lk =>
    split at q
    · next C2 tl a0 a1 a2 a3 nn a5 hmro hsl =>
      simp only [beq_iff_eq, Bool.and_eq_true, Bool.not_eq_true'] at q
      obtain ⟨⟨⟨⟨⟨e1, e2⟩, e3⟩, e4⟩, e5⟩, e6⟩ := q
      subst e1 e2
      obtain ⟨nm, bs, mro, ns, qn, hd, sn, sub, ab, col, del⟩ := cd
      simp only at hmro e3 e5 e6
      subst hmro e3
      obtain rfl : sl = #[a0, a1, a2, a3, some (.builtin nn), a5] := by
        obtain ⟨l⟩ := sl
        exact congrArg Array.mk hsl
      exact ⟨tl, ns, nm, qn, bs, hd, sn, sub, ab, col, dd, a0, a1, a2, a3, a5, kin _ _ lk, ⟨_, .of_isNs (isNs_of_in kin e5), ns_some kin (.of_isNs (isNs_of_in kin e5)) e6⟩, tail_of_in kin e4⟩
    · cases q
  · cases q
abbrev newExc (C t : Addr) : Obj := { cls := .ref C, data := .fields #[.ref t, .none, .none, .none, .bool false, .none] }
abbrev newTup (vs : List Value) : Obj := { cls := .type "tuple", data := .seq vs.toArray }
section
variable {prog : Program} {w : World} {A : Around} {E : Value → Shared → Prop} {h : Heap} {g : Array GenState} {d : Drawn} {t : Nat} {os : OsState}
variable {nm q : Str} {C N : Addr} {bs bm bmB : List Value} {hdct : Bool} {sn : List Str} {sub : List Value} {ab : Bool} {col : Option Bool} {dd : Option Addr} {k0 k1 k2 k3 k5 : Option Value} {B newId initId : String}
theorem type_call_excI (F : ExcBaseFacts B newId initId bmB) (T : OwnTail h bmB bm) {mN : Str → Option Value} {rest : List Value} {fI : Addr} {oI : Obj} {Q : Fin → Shared → Prop}
    (hC : h.get? C = some (excClassObj nm q C N bs bm hdct sn sub ab col dd k0 k1 k2 k3 k5 newId)) (hn : h.Ns N mN) (hi : mN "__init__" = some (.ref fI))
    (hfI : h.get? fI = some oI) (hfc : oI.cls = .type "function")
    (hq : wpAny (model prog w) A (call (.ref fI) (.ref (h.objs.size + 1) :: rest)) (fun r s' => r = .none ∧ Q (.done (.ret (.ref (h.objs.size + 1)))) s') E ⟨(h.push (newTup rest)).push (newExc C h.objs.size), g, d, t, os⟩) (hrest : rest.length ≤ sizeLine) :
    wpAny (model prog w) A (Builtin.«type.__call__» ⟨.ref C :: rest, []⟩) Q E ⟨h, g, d, t, os⟩ := by
  repeat (first | with_reducible refine wpAny_loadPart_at hC ?_ | with_reducible refine wpAny_madeBy_exc hC ?_ | wp_step)
  refine codeAny_call_builtin_code (Code.quiet_builtin _ F.quiet) (wpAny_check_new_subU F F.hasB T hC ?_)
  refine codeAny_exc_new_subU F F.hasB F T hC ?_ hrest
  show wpAny _ _ _ _ _ _
  have kp : ∀ b o, h.get? b = some o → ((h.push (newTup rest)).push (newExc C h.objs.size)).get? b = some o := fun b o e => Heap.get?_push_of_some _ (Heap.get?_push_of_some _ e)
  have hC₁ := kp _ _ hC
  have hfI₁ := kp _ _ hfI
  have hn₁ : ((h.push (newTup rest)).push (newExc C h.objs.size)).Ns N mN := hn.keeps kp
  have hget : ((h.push (newTup rest)).push (newExc C h.objs.size)).get? (h.objs.size + 1) = some (newExc C h.objs.size) := by heap_get
  have hcC : (Value.ref C :: bm).contains (.ref C) = true := by simp
  have T₁ := T.keeps kp
  unfold isInstance
  repeat (first | with_reducible refine wpAny_loadPart_at hget ?_ | (with_reducible refine wpAny_isSubtype_exc hC₁ ?_; rw [hcC]) | wp_step)
  show wpAny _ _ (typeLookup (.ref C) _) _ _ _
  refine wpAny_typeLookup_tail hC₁ hn₁ T₁ F.mroIs F.init.lookup ?_
  rw [hi]
  refine wpAny_holding (wpAny_bind ?_)
  unfold bindSpecial
  refine wpAny_bind (wpAny_typeOf (T := "function") ⟨_, hfI₁, hfc⟩ ?_)
  rw [if_pos (by decide)]
  refine wpAny_pure (wpAny_bind (wpAny_mono hq (fun r s' hr => ?_) fun _ _ x => x))
  obtain ⟨rfl, hQ⟩ := hr
  wp_walk
  exact hQ
theorem call_excI (F : ExcBaseFacts B newId initId bmB) (T : OwnTail h bmB bm) {mN : Str → Option Value} {rest : List Value} {fI : Addr} {oI : Obj} {Q : Value → Shared → Prop}
    (hC : h.get? C = some (excClassObj nm q C N bs bm hdct sn sub ab col dd k0 k1 k2 k3 k5 newId)) (hn : h.Ns N mN) (hi : mN "__init__" = some (.ref fI))
    (hfI : h.get? fI = some oI) (hfc : oI.cls = .type "function")
    (hq : wpAny (model prog w) (A.under (.builtin "type.__call__" ⟨.ref C :: rest, []⟩)) (call (.ref fI) (.ref (h.objs.size + 1) :: rest)) (fun r s' => r = .none ∧ Q (.ref (h.objs.size + 1)) s') E ⟨(h.push (newTup rest)).push (newExc C h.objs.size), g, d, t, os⟩) (hrest : rest.length ≤ sizeLine) :
    wpAny (model prog w) A (call (.ref C) rest) Q E ⟨h, g, d, t, os⟩ := by
  have f1 := tc_lookup
  have f2 := tc_bind (.ref C)
  have hT : (⟨h, g, d, t, os⟩ : Shared).TypeIs (.ref C) "type" := ⟨_, hC, rfl⟩
  refine wpAny_call (codeAny_of_tree ?_)
  show wpAny _ _ (callAny (.ref C) _) _ _ _
  repeat (any_goals (first | assumption | with_reducible refine wpAny_loadPart_at hC ?_ | wp_step))
  refine ⟨rfl, ?_⟩
  exact codeAny_call_builtin_at (Code.quiet_builtin _ (by decide +kernel)) entry_typeCall (wpAny_check_type_call_sub hC (type_call_excI (hrest := hrest) F T hC hn hi hfI hfc hq))
theorem raiseStmt_set {M : Model} {s : Shared} {env : Env} {x : Sem Value} {Q : Flow → Shared → Prop} (hbase : bm.contains (.type "BaseException") = true) (hh : A.handled = none)
    (h : wpAny M A x (fun v s₁ => ∃ e t dx sl, v = .ref e ∧ s₁.heap.get? C = some (excClassObj nm q C N bs bm hdct sn sub ab col dd k0 k1 k2 k3 k5 newId) ∧
      s₁.heap.get? e = some ⟨.ref C, dx, .fields #[.ref t, .none, .none, .none, .bool false, .none], sl⟩ ∧ E (.ref e) s₁) E s) :
    wpAny M A (raiseStmt env (some x) none) Q E s := by
  have hcB : (Value.ref C :: bm).contains (.type "BaseException") = true := by rw [List.contains_cons, hbase, Bool.or_true]
  unfold raiseStmt
  refine wpAny_bind (wpAny_mono h (fun v s₁ h₁ => ?_) fun _ _ x => x)
  obtain ⟨e, t, dx, sl, rfl, hC, he, hE⟩ := h₁
  obtain ⟨hp, g, d, tk, os⟩ := s₁
  repeat (first | with_reducible refine wpAny_loadPart_at he ?_ | with_reducible refine wpAny_loadPart_at hC ?_ | (with_reducible refine wpAny_isSubtype_exc hC ?_; rw [hcB]) | wp_step)
  exact wpAny_raiseNew_none hh hE
end
end L2
namespace L2
open PySem PySem.Spec PySem.W PySem.Calls PyProof.Rows
/-! ### a new exception as a thing that is known: without attributes, with its attributes at d -/
def exNew (e C : Addr) : HO := .ext fun h => ∃ t sl, h.get? e = some ⟨.ref C, none, .fields #[.ref t, .none, .none, .none, .bool false, .none], sl⟩
def exSet (e C d : Addr) : HO := .ext fun h => ∃ t sl, h.get? e = some ⟨.ref C, some d, .fields #[.ref t, .none, .none, .none, .bool false, .none], sl⟩
/-- what is kept of a caught exception: its class, where its attributes lie -/
def exC (a C : Addr) (d : Option Addr) : HO := .ext fun h => ∃ o, h.get? a = some o ∧ o.cls = .ref C ∧ (∀ x, d = some x → o.dict = some x) ∧ notCls o = true
structure ExSt (K : Frag) (C : Addr) (f : Str) : Prop where
  sa : findIn K (.ref C) "__setattr__" = some (some (.builtin "object.__setattr__"))
  po : overErr K C = true
  na : findIn K (.ref C) f = some none
  hd : hasDictIn K C = true
def sFldE (K : Frag) (ta tv : TE) (f : Str) : TS := fun D σ H => tv σ H fun y H1 => ta σ H1 fun x H2 => ∃ a C, x = .ref a ∧ H2 a = some (exNew a C) ∧ ExSt K C f ∧ ∀ d, H2 d = none → D.nx σ (upd (upd H2 a (exSet a C d)) d (.xd [(f, y)]))
section
variable {X : Cx} {ta tv : TE} {o value : Expr} {f : Str} {pos pos' : Pos}
theorem ps_fldE (ha : PE X o ta) (hv : PE X value tv) (hs : swapsWith value (some (.Attribute o f pos')) pos.line X.env = pure false) : PS X (.Assign [.Attribute o f pos'] value pos) (sFldE X.K ta tv f) := by
  intro pins s σ H D I h
  refine plainObj_wpAny_Assign_Attribute (thn (hv pins s σ H _ I h) fun u s1 ⟨y, H1, I1, ry, q⟩ => thn (ha pins s1 σ H1 _ I1 q) fun ov s2 ⟨x, H2, I2, rx, a, C, ex, ea, c, q2⟩ => ?_) hs
  subst ex
  obtain rfl : ov = Value.ref a := rx
  obtain ⟨⟨t, sl, hx⟩, _, _⟩ := I2.hok a _ ea
  refine exc_set I2.kIn hx rfl rfl rfl c.sa c.po (NoAttr.taker (show NoAttr X.K C f from c.na)) c.hd fun h' tk e1 e2 e3 => ?_
  have hd : H2 s2.heap.objs.size = none := I2.hok.fresh (Nat.le_refl _)
  have na : ∀ b u, H2 b = some u → u ≠ exNew a C → b ≠ a := fun b u q n z => by subst z; rw [ea] at q; exact n (Option.some.inj q).symm
  have nd : ∀ b u, s2.heap.get? b = some u → b ≠ s2.heap.objs.size := fun b u q => Nat.ne_of_lt (Heap.lt_size q)
  have nf : ∀ b, H2 b = none → b ≠ a := fun b q z => by subst z; rw [ea] at q; cases q
  have ndh : ∀ b u, H2 b = some u → b ≠ s2.heap.objs.size := fun b u q => ne_of_none q hd
  refine ⟨σ, upd (upd H2 a (exSet a C s2.heap.objs.size)) s2.heap.objs.size (.xd [(f, y)]), I2.un (t' := tk) ⟨fun b ob q n _ _ => e3 b ob (nf b n) q, fun b ob q n _ _ => ⟨ob.slots, e3 b ob (nf b n) q⟩, fun b ob q n _ => ?_, fun b ob q _ => ?_, fun b xs q => ?_, fun b ob u q => ?_, fun b ps q => ?_⟩ (fun b u q => ?_), q2 _ hd⟩
  · rw [upd_ne (nd b ob q), upd_ne (nf b n)]; exact n
  · by_cases z : b = a
    · subst z; exact ⟨_, e1⟩
    · exact ⟨ob, e3 b ob z q⟩
  · rw [upd_ne (ndh b _ q), upd_ne (na b _ q (by intro z; cases z))]; exact q
  · rw [upd_ne (ndh b _ q), upd_ne (na b _ q (by intro z; cases z))]; exact q
  · exact ⟨#[], by rw [upd_ne (ndh b _ q), upd_ne (na b _ q (by intro z; cases z)), Array.append_empty]; exact q⟩
  · by_cases zd : b = s2.heap.objs.size
    · subst zd
      rw [upd_same] at q
      cases q
      refine ⟨_, e2, fun g => ?_⟩
      by_cases z : g = f
      · subst z
        rw [if_pos rfl]
        simp only [List.lookup, beq_self_eq_true]
        exact ry
      · rw [if_neg z]
        simp only [List.lookup, beq_eq_false_iff_ne.mpr z]
        exact True.intro
    · rw [upd_ne zd] at q
      by_cases za : b = a
      · subst za
        rw [upd_same] at q
        cases q
        exact ⟨⟨t, sl, e1⟩, ⟨_, e1⟩, fun h1 h2 ⟨t, sl, z⟩ k => ⟨t, sl, k _ z⟩⟩
      · rw [upd_ne za] at q
        refine (I2.hok b u q).stay (fun c v hc z => e3 c v ?_ z) (fun c z => ?_) fun c xs z => ?_
        · rcases hc with rfl | hc
          · exact za
          · exact na c _ hc (by intro z; cases z)
        · rw [upd_ne (ndh c _ z), upd_ne (na c _ z (by intro z; cases z))]; exact z
        · rw [upd_ne (ndh c _ z), upd_ne (na c _ z (by intro z; cases z))]; exact z
theorem rd_fldE {K : Frag} {D : Ends} {σ : St} {H : Hp} : sFldE K ta tv f D σ H ↔ tv σ H fun y H1 => ta σ H1 fun x H2 => ∃ a C, x = .ref a ∧ H2 a = some (exNew a C) ∧ ExSt K C f ∧ ∀ d, H2 d = none → D.nx σ (upd (upd H2 a (exSet a C d)) d (.xd [(f, y)])) := Iff.rfl
end
end L2
namespace L2
open PySem PySem.Spec PySem.W PySem.Calls PyProof.Rows
/-! ### an exception that leaves a def, with where its attributes lie -/
def forget (H : Hp) (a : Addr) : Hp := fun b => if b = a then none else H b
theorem forget_same {H : Hp} {a : Addr} : forget H a a = none := if_pos rfl
theorem forget_ne {H : Hp} {a b : Addr} (h : b ≠ a) : forget H a b = H b := if_neg h
structure FlownN (P : Program) (w : World) (base : Heap) (outer : List Env) (H : Hp) (s : Shared) (a t C : Addr) (d : Option Addr) (B : Heap) (H' : Hp) (s' : Shared) : Prop where
  f : Flown P w base outer H s a t C B H' s'
  dc : ∀ x, d = some x → ∃ oe, s'.heap.get? a = some oe ∧ oe.dict = some x
def CXN (P : Program) (w : World) (base : Heap) : CXT := fun outer H s E e s' => ∃ (a t C : Addr) (d : Option Addr) (B : Heap) (H' : Hp), e = .ref a ∧ E (.ref C) d H' ∧ FlownN P w base outer H s a t C d B H' s'
/-- the wish of exceptions is no part of what holds in a body -/
theorem Inv.xe {X : Cx} {pins : List (Addr × Obj)} {σ : St} {H : Hp} {s : Shared} (y : Value → Shared → Prop) (I : Inv X pins σ H s) : Inv { X with xe := y } pins σ H s :=
  ⟨⟨I.ok.mod, I.ok.kind, I.ok.glob, I.ok.blt, I.ok.above, I.ok.inj, I.ok.has, I.ok.cab, I.ok.hd, I.ok.frames, I.ok.stk, I.ok.exf, I.ok.bs, I.ok.bsz, I.ok.noex, I.ok.exfs, I.ok.funs, I.ok.frf⟩, I.os, I.bare, I.base, I.loc, I.cell, I.free, I.freeC, I.pin, I.hok, I.len⟩
section
variable {P : Program} {w : World} {K : Frag} {mg : Str → Option Value} {base : Heap} {N : List Str} {qual : Str} {scope : Scope} {f : Addr} {cd : Value} {A : Around} {outer : List Env} {s : Shared} {H : Hp} {E : XK}
theorem passes_cxN : Passes (CXN P w base) (cxOf (CXN P w base) P w K mg base N qual scope f cd A outer s H E) E := by
  intro pins σ H1 s1 e s2 I hq
  obtain ⟨a, t, C, d, B, H2, rfl, hE, W⟩ := hq
  have I' : Inv (cxOf (CXE P w base) P w K mg base N qual scope f cd A outer s H fun c _ H' => E c d H') pins σ H1 s1 := I.xe _
  have z := passes_cx (E := fun c _ H' => E c d H') pins σ H1 s1 (.ref a) s2 I' ⟨a, t, C, B, H2, rfl, hE, W.f⟩
  refine wpAny_mono (wpAny_kd (kd_leaving _ _) z) (fun _ s3 ⟨⟨a', t', C', B', H', ea, hE', W'⟩, sd⟩ => ?_) fun _ _ z => z.elim
  cases ea
  refine ⟨a, t', C', d, B', H', rfl, hE', W', fun x hx => ?_⟩
  obtain ⟨oe, ho, hd⟩ := W.dc x hx
  obtain ⟨ob, hob, _⟩ := W'.fly.there
  exact ⟨ob, hob, (sd.get ho hob).trans hd⟩
/-- a new exception whose attributes lie at d -/
def Raises1 (X : Cx) (E : XK) : Prop := ∀ (pins : List (Addr × Obj)) (σ : St) (H : Hp) (s : Shared) (a C d : Addr), Inv X pins σ H s → H a = some (exSet a C d) → X.s₀.heap.objs.size ≤ a → E (.ref C) (some d) (forget H a) → X.xe (.ref a) s
theorem raises1_cx : Raises1 (cxOf (CXN P w base) P w K mg base N qual scope f cd A outer s H E) E := by
  intro pins σ H1 s1 e C d I ha hsz hE
  have hf : (envOfC qual scope s.heap.objs.size f cd).frame = some s.heap.objs.size := rfl
  have stk : s1.heap.FunFrames base (envOfC qual scope s.heap.objs.size f cd :: outer) := I.stack
  have stf : ∀ b ∈ frs (envOfC qual scope s.heap.objs.size f cd :: outer), H1 b = none := I.stkFree
  have ib : Un (frs outer) [] H H1 s.heap s1.heap := I.base
  obtain ⟨⟨t, sl, he⟩, _, _⟩ := I.hok e _ ha
  have hsz' : s.heap.objs.size ≤ e := hsz
  have nde : ∀ b o, s.heap.get? b = some o → b ≠ e := fun b o q => Nat.ne_of_lt (Nat.lt_of_lt_of_le (Heap.lt_size q) hsz')
  have ne : ∀ b o, s.heap.get? b = some o → b ∉ frs outer → b ∉ e :: frs (envOfC qual scope s.heap.objs.size f cd :: outer) := fun b o q n z => by
    rcases List.mem_cons.mp z with z | z
    · exact nde b o q z
    · rcases (frs_cons hf).mp z with z | z
      · exact absurd (Heap.lt_size q) (by rw [z]; exact Nat.lt_irrefl _)
      · exact n z
  have eN : e ∉ frs (envOfC qual scope s.heap.objs.size f cd :: outer) := fun z => by rw [stf e z] at ha; cases ha
  show wpAny (model P w) (A.deeper (envOfC qual scope s.heap.objs.size f cd)) (leaving (envOfC qual scope s.heap.objs.size f cd) (.ref e)) _ _ _
  have kB : Heap.StaysIn (hideAll s1.heap (e :: frs (envOfC qual scope s.heap.objs.size f cd :: outer))) s1.heap := fun b o q => of_hideAll _ q
  refine wpAny_mono (wpAny_kd (kd_leaving _ _) (wpAny_leaving_firstW (E := fun _ _ => False) (Q := fun _ s3 => ∃ h', s3 = { s1 with heap := h' } ∧ Heap.LeftW (hideAll s1.heap (e :: frs (envOfC qual scope s.heap.objs.size f cd :: outer))) (envOfC qual scope s.heap.objs.size f cd :: outer) e (.ref C) (.ref t) s1.heap h')
    (base := hideAll s1.heap (e :: frs (envOfC qual scope s.heap.objs.size f cd :: outer))) (oe := ⟨.ref C, some d, .fields #[.ref t, .none, .none, .none, .bool false, .none], sl⟩) (a0 := .ref t) I.ok.frames
    (funFrames_hide stk fun env he b hb => List.mem_cons_of_mem _ (List.mem_filterMap.mpr ⟨env, he, hb⟩)) hf he kB (hideAll_none _ (.head _)) rfl rfl rfl fun h' L => ⟨h', rfl, L⟩)) (fun _ s3 ⟨⟨h2, es3, L⟩, sd⟩ => ?_) fun _ _ z => z.elim
  subst es3
  obtain ⟨x1, ⟨_, _, x2⟩, x3, x4⟩ := L
  have keepB : ∀ b o, s.heap.get? b = some o → H b = none → b ∉ frs outer → (hideAll s1.heap (e :: frs (envOfC qual scope s.heap.objs.size f cd :: outer))).get? b = some o := fun b o q n nf =>
    hideAll_get _ (ib.keep b o q n nf (by simp)) (ne b o q nf)
  have thB : ∀ b o, s.heap.get? b = some o → b ∉ frs outer → ∃ o', (hideAll s1.heap (e :: frs (envOfC qual scope s.heap.objs.size f cd :: outer))).get? b = some o' := fun b o q nf => by
    obtain ⟨o', z⟩ := ib.there b o q (by simp)
    exact ⟨o', hideAll_get _ z (ne b o q nf)⟩
  have slotF : ∀ b, b ∈ frs outer → ∀ o, s1.heap.get? b = some o → ∃ sl, h2.get? b = some { o with slots := sl } := fun b hb o q => by
    obtain ⟨_, o2, q2, nd⟩ := stk.mem ((frs_cons hf).mpr (.inr hb))
    rw [q] at q2
    cases q2
    exact x4 b o q nd
  have fly : Heap.FlyingW (hideAll s1.heap (e :: frs (envOfC qual scope s.heap.objs.size f cd :: outer))) outer e (.ref C) (.ref t) h2 := ⟨x1, hideAll_none _ (.head _), x2, x3⟩
  have nee : ∀ b u, H1 b = some u → u ≠ exSet e C d → b ≠ e := fun b u q n z => by subst z; rw [ha] at q; exact n (Option.some.inj q).symm
  refine ⟨e, t, C, some d, _, forget H1 e, rfl, hE, ⟨I.os, I.bare, fun b o q => ?_, fly, fun a u q => ?_, ⟨fun b o q n nf _ => x1 b o (keepB b o q n nf), fun b o q n hb _ => ?_, fun b o q n hx => ?_, fun b o q _ => ?_, fun b xs q => ?_, fun b o u q => ?_, fun b ps q => ?_⟩, keepB, thB⟩, fun x hx => ?_⟩
  · refine hideAll_get _ (I.bk b o q) fun z => ?_
    rcases List.mem_cons.mp z with z | z
    · exact absurd (Nat.lt_of_lt_of_le (Heap.lt_size q) (Nat.le_trans I.ok.bsz hsz')) (by rw [z]; exact Nat.lt_irrefl _)
    · rw [(stk.mem z).1] at q; cases q
  · by_cases z : a = e
    · subst z; rw [forget_same] at q; cases q
    · rw [forget_ne z] at q
      refine (I.hok a u q).stay (fun b v hb y => hideAll_get _ y fun m => ?_) (fun b y => ?_) fun b xs y => ?_
      · rcases List.mem_cons.mp m with m | m
        · rcases hb with rfl | hb
          · exact z m
          · exact nee b _ hb (by intro y; cases y) m
        · have := stf b m
          rcases hb with rfl | hb
          · rw [q] at this; cases this
          · rw [hb] at this; cases this
      · rw [forget_ne (nee b _ y (by intro y; cases y))]; exact y
      · rw [forget_ne (nee b _ y (by intro y; cases y))]; exact y
  · obtain ⟨sl, z⟩ := ib.slot b o q n hb (by simp)
    obtain ⟨sl', z'⟩ := slotF b hb _ z
    exact ⟨sl', z'⟩
  · rw [forget_ne (nde b o q)]
    exact ib.free b o q n hx
  · by_cases hb : b ∈ frs outer
    · obtain ⟨o', z⟩ := ib.there b o q (by simp)
      obtain ⟨sl', z'⟩ := slotF b hb _ z
      exact ⟨_, z'⟩
    · obtain ⟨o', z⟩ := thB b o q hb
      exact ⟨o', x1 b o' z⟩
  · have z := ib.tups b xs q
    rw [forget_ne (nee b _ z (by intro y; cases y))]; exact z
  · have z := ib.frzs b o u q
    rw [forget_ne (nee b _ z (by intro y; cases y))]; exact z
  · obtain ⟨m, z⟩ := ib.tbls b ps q
    exact ⟨m, by rw [forget_ne (nee b _ z (by intro y; cases y))]; exact z⟩
  · cases hx
    obtain ⟨ob, hob, _⟩ := fly.there
    exact ⟨ob, hob, sd.get he hob⟩
end
end L2
namespace L2
open PySem PySem.Spec PySem.W PySem.Calls PyProof.Rows
/-! ### raise C(e) -/
structure Mk1 (K : Frag) (C f : Addr) : Prop where
  ex : excInI K C vErr vNew f = true
  fn : isFn K (.ref f) = true
  kp : keepIn K (.ref C) = true
def tRaise1 (E : XK) (C : Addr) (sp : Sp) (t : TA) : TS := fun _ σ H => t σ H fun vs H1 => ∀ a, H1 a = none → sp (.ref a :: vs) (upd H1 a (exNew a C)) (fun v H2 => v = .non ∧ ∃ d, H2 a = some (exSet a C d) ∧ E (.ref C) (some d) (forget H2 a)) E0
theorem rd_raise1 {E : XK} {C : Addr} {sp : Sp} {t : TA} {D : Ends} {σ : St} {H : Hp} : tRaise1 E C sp t D σ H ↔ t σ H fun vs H1 => ∀ a, H1 a = none → sp (.ref a :: vs) (upd H1 a (exNew a C)) (fun v H2 => v = .non ∧ ∃ d, H2 a = some (exSet a C d) ∧ E (.ref C) (some d) (forget H2 a)) E0 := Iff.rfl
theorem ps_raise1 {X : Cx} {x : Str} {C f : Addr} {E : XK} {CX : CXT} {k : Nat} {fd : FuncData} {ps : List Str} {sp : Sp} {np cpos pos : Pos} {e : Expr} {t : TA}
    (hx : Raises1 X E) (hg : Gl X x) (hm : X.mg x = some (.ref C)) (M : Mk1 X.K C f) (F : FnOk X.prog X.w X.K X.mg X.base CX k f fd ps sp) (hr : Room (k + 1) X.A) (hb : Binds X.K fd ps []) (hps : ps.length = 2) (h0 : Passes CX X E0) (hcalm : X.calm = true) (ha : PA X [e] t)
    (hdb : (x == ("__debug__" : Str)) = false := by decide) (he : starEach [e] X.env = (false, eval e X.env) :: starEach [] X.env := by rfl) (hpl : (backTo cpos (starEach [] X.env)).any (·.1) = false := by rfl) :
    PS X (.Raise (some (.Call (.Name x np) [e] [] cpos)) none pos) (tRaise1 E C sp t) := by
  intro pins s σ H D I h
  obtain ⟨tl, N, nm, qn, bs, hd', sn, sub, ab, col, dd, k0, k1, k2, k3, k5, hC, ⟨mN, hN, hni⟩, T⟩ := excObjI I.ok.mod.kin M.ex
  obtain ⟨oI, hoI, hcI⟩ : ∃ oI, X.base.get? f = some oI ∧ oI.cls = .type "function" := by
    have z : typeIn X.K (.ref f) = some (.type "function") := beq_iff_eq.mp M.fn
    unfold typeIn at z
    obtain ⟨o, ho, hc⟩ := Option.map_eq_some_iff.mp z
    exact ⟨o, I.ok.mod.kin _ _ ho, hc⟩
  rw [arm_exec_Raise]
  have hbase := T.hasType PySem.F.excBase_ValueError.hasBase
  refine wpAny_bind (wpAny_standAt (raiseStmt_set (C := C) (nm := nm) (q := qn) (N := N) (bs := bs) (bm := tl) (hdct := hd') (sn := sn) (sub := sub) (ab := ab) (col := col) (dd := dd) (k0 := k0) (k1 := k1) (k2 := k2) (k3 := k3) (k5 := k5) (newId := vNew) hbase (I.ok.hd hcalm) ?_))
  refine wpAny_bind (wpAny_mono (wpAny_Call_Name_kw (ld_glob I hg hm ?_ hdb)) (fun v s₃ h₃ => wpAny_bind (wpAny_standAt (wpAny_pure h₃))) fun _ _ x => x)
  refine callWith_K (h₀ := X.base) I.ok.mod.kin M.kp (thn (ha cpos pins s σ H _ I h) fun us s1 ⟨vs, H1, I1, r, q⟩ => ⟨I1.kIn, ?_⟩) he hpl
  rw [List.nil_append]
  obtain ⟨hh, g, dw, tk, os⟩ := s1
  have hlu : us.length ≤ sizeLine := by
    have z := F.len _ _ _ _ (q (hh.objs.size + 1) (I1.hok.fresh (Nat.le_succ _)))
    rw [List.length_cons, hps] at z
    rw [← r.length, sizeLine_eq]
    omega
  have kb : ∀ b o, X.base.get? b = some o → hh.get? b = some o := fun b o e => I1.bk b o e
  refine call_excI PySem.F.excBase_ValueError (T.keeps kb) (kb _ _ hC) (hN.keeps kb) hni (kb _ _ hoI) hcI ?_ hlu
  have I2 : Inv X pins σ (upd H1 (hh.objs.size + 1) (exNew (hh.objs.size + 1) C)) ⟨(hh.push (newTup us)).push (newExc C hh.objs.size), g, dw, tk, os⟩ := by
    refine I1.laid (t' := tk) (fun b u e => Heap.get?_push_of_some _ (Heap.get?_push_of_some _ e)) (Nat.le_succ _) ?_
    have hg2 : ((hh.push (newTup us)).push (newExc C hh.objs.size)).get? (hh.objs.size + 1) = some (newExc C hh.objs.size) := by heap_get
    exact ⟨⟨_, _, hg2⟩, ⟨_, hg2⟩, fun h1 h2 ⟨t, sl, z⟩ k => ⟨t, sl, k _ z⟩⟩
  have q2 := q (hh.objs.size + 1) (I1.hok.fresh (Nat.le_succ _))
  have r2 : Vals (V.ref (hh.objs.size + 1) :: vs) (Value.ref (hh.objs.size + 1) :: us) := .cons rfl r
  have hl : (Value.ref (hh.objs.size + 1) :: us).length = ps.length := by rw [← r2.length]; exact F.len _ _ _ _ q2
  have hbb := hb ⟨(hh.push (newTup us)).push (newExc C hh.objs.size), g, dw, tk, os⟩ (Value.ref (hh.objs.size + 1) :: us) I2.kIn (by rw [List.append_nil]; exact hl)
  rw [List.append_nil] at hbb
  refine wpAny_call (codeAny_mono (F.run _ X.stack _ _ ⟨Value.ref (hh.objs.size + 1) :: us, []⟩ (Value.ref (hh.objs.size + 1) :: us) _ _ E0 (hr.make C us []) (I2.env0.make C us []) hbb r2 q2) fun r s' hq' => ?_)
  cases r with
  | error ev => exact h0 pins σ _ _ ev s' I2 hq'
  | ok fl =>
    cases fl with
    | ret u =>
      obtain ⟨v, H', I3, rv, ev, d, hd, hE⟩ := I2.after hq'
      subst ev
      obtain ⟨⟨t, sl, hx3⟩, _, _⟩ := I3.hok _ _ hd
      exact ⟨rv, _, t, some d, sl, rfl, I3.bk _ _ hC, hx3, hx pins σ H' s' _ C d I3 hd (Nat.le_trans I1.sz (Nat.le_succ _)) hE⟩
    | next => exact False.elim hq'
    | brk => exact False.elim hq'
    | cont => exact False.elim hq'
end L2
namespace L2
open PySem PySem.Spec PySem.W PySem.Calls PyProof.Rows
/-- a def whose exceptions are wanted, with their attributes -/
theorem Fun.okn {P : Program} {w : World} {K : Frag} {mg : Str → Option Value} {base : Heap} {x qual : Str} {st : Stmt} {f : Addr} {fd : FuncData} {N ps : List Str} {k : Nat} {sp : Sp} (F : Fun K x qual st f fd) (S : FnScope N ps (defScope st)) (len : ∀ vs H Q E, sp vs H Q E → vs.length = ps.length)
    (hbody : ∀ (cdv : Value) (A : Around) (outer : List Env) (s : Shared) (H : Hp) (vs : List V) (Q : VK) (E : XK), Room k (A.deeper (envOfC qual (defScope st) s.heap.objs.size f cdv)) → sp vs H Q E →
      ∃ t, PSs (cxOf (CXN P w base) P w K mg base N qual (defScope st) f cdv A outer s H E) (defBody st) t ∧ t { nx := fun _ H' => Q .non H', rt := Q } (start N vs) H) : FnOk P w K mg base (CXN P w base) (k + 1) f fd ps sp := by
  obtain ⟨oc, od, kV, doc, pm, an, cdv, ct, osl, rfl, lk, hcd⟩ := F.ex
  exact fn_of lk hcd S len fun A outer s H vs Q E hr hsp => hbody cdv A outer s H vs Q E hr hsp
theorem passes0N {P : Program} {w : World} {base : Heap} {X : Cx} : Passes (CXN P w base) X E0 := fun _ _ _ _ _ _ _ ⟨_, _, _, _, _, _, _, z, _⟩ => z.elim
/-! ### try -/
def TryB (X : Cx) (body : List Stmt) (t : XK → TS) : Prop := ∀ (pins : List (Addr × Obj)) (s : Shared) (σ : St) (H : Hp) (D : Ends) (Eh : XK), Inv X pins σ H s → t Eh D σ H →
  wpAny (model X.prog X.w) X.A (execs body X.env) (SP X pins D) (fun e s' => ∃ H1 s1, Inv X pins σ H1 s1 ∧ CXN X.prog X.w X.base X.stack H1 s1 Eh e s') s
def tTryCall (sp : Sp) (t : TA) : XK → TS := fun Eh D σ H => t σ H fun vs H1 => sp vs H1 (fun _ H2 => D.nx σ H2) Eh
theorem try_call {X : Cx} {k : Nat} {f : Addr} {fd : FuncData} {ps : List Str} {sp : Sp} {fx : Str} {p cpos epos : Pos} {e : Expr} {es : List Expr} {t : TA}
    (F : FnOk X.prog X.w X.K X.mg X.base (CXN X.prog X.w X.base) k f fd ps sp) (hr : Room k X.A) (hg : Gl X fx) (hm : X.mg fx = some (.ref f)) (hk : keepIn X.K (.ref f) = true) (hb : Binds X.K fd ps []) (ha : PA X (e :: es) t)
    (hx0 : ∀ e s, X.xe e s → False)
    (hdb : (fx == ("__debug__" : Str)) = false := by decide)
    (he : starEach (e :: es) X.env = (false, eval e X.env) :: starEach es X.env := by rfl) (hpl : (backTo cpos (starEach es X.env)).any (·.1) = false := by rfl)
    (hs : swapsWith (.Call (.Name fx p) (e :: es) [] cpos) none epos.line X.env = pure false := by rfl) :
    TryB X [.Expr (.Call (.Name fx p) (e :: es) [] cpos) epos] (tTryCall sp t) := by
  intro pins s σ H D Eh I h
  refine wpAny_execs_cons (wpAny_Expr_any (wpAny_Call_Name_kw (ld_glob I hg hm ?_ hdb)) I.quiet hs)
  refine callWith_K (h₀ := X.base) I.ok.mod.kin hk (wpAny_mono (ha cpos pins s σ H _ I h) (fun us s1 ⟨vs, H1, I1, r, q⟩ => ⟨I1.kIn, ?_⟩) fun e s1 z => (hx0 e s1 z).elim) he hpl
  have hlen : (us ++ []).length = ps.length := by rw [List.append_nil, ← r.length]; exact F.len _ _ _ _ q
  have hbb := hb s1 us I1.kIn hlen
  rw [List.append_nil] at hbb
  refine wpAny_call (codeAny_mono (F.run X.A X.stack s1 H1 ⟨us, []⟩ us vs _ _ hr I1.env0 hbb r q) fun r s2 hq => ?_)
  cases r with
  | ok fl =>
    cases fl with
    | ret u =>
      obtain ⟨v, H2, I2, rv, q2⟩ := I1.after hq
      exact wpAny_execs_nil ⟨σ, H2, I2, q2⟩
    | next => exact False.elim hq
    | brk => exact False.elim hq
    | cont => exact False.elim hq
  | error ev => exact ⟨H1, s1, I1, hq⟩
theorem Inv.sharp {X : Cx} {pins : List (Addr × Obj)} {σ : St} {H : Hp} {s : Shared} {a : Addr} {φ ψ : Heap → Prop} (I : Inv X pins σ (upd H a (.ext φ)) s) (h : ψ s.heap) (st : ∀ h1 h2 : Heap, ψ h1 → (∀ o, h1.get? a = some o → h2.get? a = some o) → ψ h2) : Inv X pins σ (upd H a (.ext ψ)) s := by
  have e : upd H a (.ext φ) a = some (.ext φ) := upd_same
  obtain ⟨_, ex, _⟩ := I.hok a _ e
  have := I.write (x := a) (e := a) (o := .ext ψ) (t' := s.toks) (h' := s.heap) (by rw [e]; exact True.intro) (.inl rfl) (fun b u _ q => q) ex ⟨h, ex, st⟩
  rwa [upd_upd] at this
def tTryN (K : Frag) (t : XK → TS) (W : Addr) (i : Nat) (tb : TS) : TS := fun D σ H => t (fun cls d H2 =>
  ∃ C, cls = .ref C ∧ subIn K (.ref C) (.ref W) = some true ∧ ∀ a, H2 a = none → tb { nx := fun σ' H' => D.nx (σ'.set i none) H', rt := D.rt } (σ.set i (some (.ref a))) (upd H2 a (exC a C d))) { nx := D.nx, rt := D.rt } σ H
theorem ps_tryN {X : Cx} {W : Addr} {x n : Str} {np hpos pos : Pos} {body : List Stmt} {b₀ : Stmt} {suite : List Stmt} {t : XK → TS} {tb : TS} {i : Nat}
    (hb : TryB X body t) (hstk : X.stack = X.env :: X.outer) (hf : X.env.frame = some X.env.locals) (hgW : Gl X x) (hmW : X.mg x = some (.ref W)) (cw : Catch X.K W)
    (nd : X.N.Nodup) (hi : X.N[i]? = some n) (hl : X.env.scope.names.lookup n = some .local) (hbd : ∀ a, PSs (X.handling (.ref a)) (b₀ :: suite) tb) (hdW : (x == ("__debug__" : Str)) = false := by decide) :
    PS X (.Try body [.ExceptHandler (some (.Name x np)) (some n) (b₀ :: suite) hpos] [] [] pos) (tTryN X.K t W i tb) := by
  intro pins s σ H D I h
  refine wpAny_Try_except (wpAny_mono (hb pins s σ H _ _ I h) (fun fl s2 q => ?_) fun ev s2 ⟨H1, s1, I1, hq⟩ => ?_)
  · cases fl with
    | next => exact wpAny_execs_nil q
    | ret u => exact q
    | brk => obtain ⟨_, _, _, q⟩ := q; exact q.elim
    | cont => obtain ⟨_, _, _, q⟩ := q; exact q.elim
  · obtain ⟨a, tt, C, d, B, H2, rfl, ⟨C', ce, hsub, hq⟩, Wn⟩ := hq
    cases ce
    have hn : H2 a = none := Wn.f.new (h5 := s.heap) (a0 := .none)
    have fl : Heap.FlyingW B (X.env :: X.outer) a (.ref C) (.ref tt) s2.heap := hstk ▸ Wn.f.fly
    have fr : X.A.frames = some (X.env :: X.outer) := hstk ▸ I1.ok.frames
    refine wpAny_mono (wpAny_kd (kd_noteFrame _ _) (wpAny_looks_onW (E := fun _ _ => False) (Q := fun _ s3 => ∃ h4, s3 = { s2 with heap := h4 } ∧ Heap.HeldW B (X.env :: X.outer) a (.ref C) (.ref tt) X.env.locals h4 ∧ s2.heap.UpToSlots h4) fr hf fl fun h4 held4 sm4 => ⟨h4, rfl, held4, sm4⟩)) (fun _ s3 ⟨⟨h4, e3, held4, sm4⟩, sd4⟩ => ?_) fun _ _ z => z.elim
    subst e3
    refine wpAny_mono (wpAny_kd (kd_setFlight _ _) (wpAny_landsW (E := fun _ _ => False) (s := { s2 with heap := h4 }) (Q := fun _ s3 => ∃ h5, s3 = { s2 with heap := h5 } ∧ Heap.FlyingW B (X.env :: X.outer) a (.ref C) (.ref tt) h5 ∧ h4.UpToSlots h5) held4 fun h5 f5 sm5 => ⟨h5, rfl, f5, sm5⟩)) (fun _ s3 ⟨⟨h5, e3, f5, sm5⟩, sd5⟩ => ?_) fun _ _ z => z.elim
    subst e3
    have I5 := I1.caught Wn.f (hstk.symm ▸ f5) (sm4.trans sm5)
    refine wpAny_handleBy_cons (codeAny_handlers_test (ld_glob (X := X.handling (.ref a)) (I5.handling _) hgW hmW ?_ hdW)) (by intro q; cases q)
    obtain ⟨ob, hob, hoc⟩ := f5.there
    refine (looks_match I5.kIn hob hoc cw hsub) _ _ _ _ (fun b o q => q) ?_
    refine codeAny_handlers_suite_as ?_
    refine wpAny_mono (wpAny_kd (kd_setFlight _ _) (lands_againW (E := fun _ _ => False) (s := { s2 with heap := h5 }) (Q := fun _ s3 => ∃ h6, s3 = { s2 with heap := h6 } ∧ Heap.FlyingW B (X.env :: X.outer) a (.ref C) (.ref tt) h6 ∧ h5.UpToSlots h6) f5 fun h6 f6 sm6 => ⟨h6, rfl, f6, sm6⟩)) (fun _ s3 ⟨⟨h6, e3, f6, sm6⟩, sd6⟩ => ?_) fun _ _ z => z.elim
    subst e3
    have I6' := I1.caught Wn.f (hstk.symm ▸ f6) ((sm4.trans sm5).trans sm6)
    obtain ⟨oe, vs6, ho6, hc6, hd6, _⟩ := f6.first
    have I6 : Inv X pins σ (upd H2 a (exC a C d)) { s2 with heap := h6 } := by
      refine I6'.sharp ⟨oe, ho6, hc6, fun y hy => ?_, by unfold notCls; rw [hd6]⟩ fun h1 h2 ⟨o, z, c⟩ k => ⟨o, k o z, c⟩
      obtain ⟨o2, z2, zd⟩ := Wn.dc y hy
      exact (((sd4.trans sd5).trans sd6).get z2 ho6).trans zd
    refine store_ok (X := X.handling (.ref a)) (i := i) (v := .ref a) (I6.handling _) nd hi (.inl hl) rfl (fun s7 I7 => ?_) (.inr hl)
    refine wpAny_mono (hbd a pins s7 _ _ _ I7 (hq a hn)) (fun fl s8 q8 => ?_) fun e s8 z => z.elim
    cases fl with
    | next =>
      obtain ⟨σ', H', I', q'⟩ := q8
      exact (Inv.handled I1.ok I').goes nd hi hl fun s9 I9 => ⟨_, _, I9, q'⟩
    | ret u =>
      obtain ⟨v, σ', H', I', rv, q'⟩ := q8
      exact (Inv.handled I1.ok I').goes nd hi hl fun s9 I9 => ⟨_, _, _, I9, rv, q'⟩
    | brk =>
      obtain ⟨_, _, _, q'⟩ := q8
      exact q'.elim
    | cont =>
      obtain ⟨_, _, _, q'⟩ := q8
      exact q'.elim
theorem rd_tryN {K : Frag} {t : XK → TS} {W : Addr} {i : Nat} {tb : TS} {D : Ends} {σ : St} {H : Hp} : tTryN K t W i tb D σ H ↔ t (fun cls d H2 =>
  ∃ C, cls = .ref C ∧ subIn K (.ref C) (.ref W) = some true ∧ ∀ a, H2 a = none → tb { nx := fun σ' H' => D.nx (σ'.set i none) H', rt := D.rt } (σ.set i (some (.ref a))) (upd H2 a (exC a C d))) { nx := D.nx, rt := D.rt } σ H := Iff.rfl
theorem rd_tryCall {sp : Sp} {t : TA} {Eh : XK} {D : Ends} {σ : St} {H : Hp} : tTryCall sp t Eh D σ H ↔ t σ H fun vs H1 => sp vs H1 (fun _ H2 => D.nx σ H2) Eh := Iff.rfl
/-! ### what is asked of an exception that was caught: its kind, its field -/
def rIsX (K : Frag) : List V → Hp → VK → Prop := fun vs H Q => ∃ a c C d b, vs = [.ref a, c] ∧ H a = some (exC a C d) ∧ ExLook K C ∧ KitAns K H C c b ∧ Q (.bl b) H
theorem call_isiN {X : Cx} {K : Frag} (hk : X.K = K) : CallR X (.builtin "isinstance") (rIsX K) := by
  subst hk
  intro pins s σ H vs us Q I rv h
  obtain ⟨a, c, C, d, b, rfl, ha, L, ans, q⟩ := h
  cases rv with
  | cons r1 rs =>
    cases rs with
    | cons r2 rn =>
      cases rn
      cases r1
      have hobj : ∃ o, s.heap.get? a = some o ∧ o.cls = .ref C := let ⟨⟨o, z, c, _⟩, _⟩ := I.hok a _ ha; ⟨o, z, c⟩
      have Z := kitx_exc (a := a) L PySem.F.attrBase_ValueError.ga
      cases ans with
      | cls e =>
        cases r2
        exact kia_one Z I.kIn hobj e (by intro z; cases z) fun tk => ⟨.bl b, H, I.tok tk, rfl, q⟩
      | ty e =>
        cases r2
        exact kia_one Z I.kIn hobj e (by intro z; cases z) fun tk => ⟨.bl b, H, I.tok tk, rfl, q⟩
      | tup hp e =>
        cases r2
        obtain ⟨_, its, rv, ⟨oc, od, da, sl⟩, hob, hcl, n, hda⟩ := I.hok _ _ hp
        dsimp only at hcl hda
        subst hcl hda
        rw [vals_refs rv] at hob
        exact kia_tup Z I.kIn hobj hob e (by intro z; cases z) fun tk => ⟨.bl b, H, I.tok tk, rfl, q⟩
theorem rd_isN {K : Frag} {a : Addr} {c : V} {H : Hp} {Q : VK} : rIsX K [.ref a, c] H Q ↔ ∃ C d b, H a = some (exC a C d) ∧ ExLook K C ∧ KitAns K H C c b ∧ Q (.bl b) H :=
  ⟨fun ⟨_, _, C, d, b, e, h⟩ => by cases e; exact ⟨C, d, b, h⟩, fun ⟨C, d, b, h⟩ => ⟨a, c, C, d, b, rfl, h⟩⟩
end L2
namespace L2
open PySem PySem.Spec PySem.W PySem.Calls PyProof.Rows PySem.Builtin PySem.Builtin.ObjectAttr
section
variable {prog : Program} {w : World} {A : Around} {E : Value → Shared → Prop} {hh : Heap} {g : Array GenState} {dr : Drawn} {t : Nat} {os : OsState} {K : Frag} {a C : Addr} {o : Obj} {od : Option Obj} {name : Str} {v : Value}
theorem exc_fld_entry {tk : Tok} {Q : Fin → Shared → Prop} (kin : K.In hh) (I : PySem.W.InstAt hh a o C od) (hf : findObj K C od name = some (.value v)) (hq : Q (.done (.ret v)) ⟨hh, g, dr, t, os⟩) :
    wpAny (model prog w) A (Builtin.«object.__getattribute__» ⟨[.ref a, .str name tk], []⟩) Q E ⟨hh, g, dr, t, os⟩ := by
  have L0 := I.type (M := model prog w)
  have L1 := looks_find (M := model prog w) kin I hf
  refine wpAny_bind (wpAny_pure (wpAny_bind (wpAny_pure (wpAny_bind (L0.at (wpAny_bind (L1.at ?_)))))))
  exact wpAny_pure hq
theorem exc_fld_by {tk : Tok} {n1 ex : Bool} {Q : Value → Shared → Prop} (kin : K.In hh) (I : PySem.W.InstAt hh a o C od) (hf : findObj K C od name = some (.value v)) (hv : handedIn v = true) (L : ExLook K C) (gb : Slot "ValueError" "__getattribute__" "BaseException.__getattribute__") (hq : Q v ⟨hh, g, dr, t, os⟩) :
    wpAny (model prog w) A (getAttrBy (.ref a) (.str name tk) n1 ex) Q E ⟨hh, g, dr, t, os⟩ := by
  have lt := exc_type (M := model prog w) I.at_ I.cls; have lg := looks_findIn (M := model prog w) kin L.ga; have ln := looks_findIn (M := model prog w) kin L.na
  have f3 := gb.bind (.ref a)
  have y2 : (Value.builtin "BaseException.__getattribute__" == Value.builtin "object.__getattribute__") = false := by decide +kernel
  have y1 : (onTheHeap (Value.ref C) && Value.builtin "BaseException.__getattribute__" == Value.builtin "object.__getattribute__") = false := by rw [y2]; rfl
  have y0 : (ex && onTheHeap (Value.builtin "BaseException.__getattribute__")) = false := by cases ex <;> rfl
  repeat (any_goals (first | assumption | with_reducible refine Looks.at lt ?_ | with_reducible refine Looks.at lg ?_ | with_reducible refine Looks.at ln ?_ | rw [y0] | wp_step))
  refine codeAny_call_builtin gb.plain PySem.F.entry_bexc_ga (exc_ga_check kin I.at_ I.cls L (exc_fld_entry kin I hf ?_))
  have hz := handedOut_of hv
  repeat (any_goals (first | assumption | rw [hz] | wp_step))
end
/-! ### e.f of an exception that was caught -/
structure ExFld (K : Frag) (C : Addr) (f : Str) : Prop where
  look : ExLook K C
  na : findIn K (.ref C) f = some none
  hd : hasDictIn K C = true
def tFldE (K : Frag) (te : TE) (f : Str) : TE := fun σ H Q => te σ H fun x H1 => ∃ a C d fs v, x = .ref a ∧ H1 a = some (exC a C (some d)) ∧ H1 d = some (.xd fs) ∧ ExFld K C f ∧ fs.lookup f = some v ∧ Q v H1
theorem rd_fldX {K : Frag} {te : TE} {f : Str} {σ : St} {H : Hp} {Q : VK} : tFldE K te f σ H Q ↔ te σ H fun x H1 => ∃ a C d fs v, x = .ref a ∧ H1 a = some (exC a C (some d)) ∧ H1 d = some (.xd fs) ∧ ExFld K C f ∧ fs.lookup f = some v ∧ Q v H1 := Iff.rfl
theorem pe_fldE {X : Cx} {e : Expr} {f : Str} {pos : Pos} {te : TE} (he : PE X e te) (hb : attributeBase e f X.env (eval e X.env) = eval e X.env) : PE X (.Attribute e f pos) (tFldE X.K te f) := by
  intro pins s σ H Q I h
  refine attr_of hb (thn (he pins s σ H _ I h) fun u s1 ⟨x, H1, I1, rx, a, C, d, fs, v, ex, ea, ed, c, l, q⟩ => ?_)
  subst ex
  obtain rfl : u = Value.ref a := rx
  obtain ⟨⟨o, ho, hc, hdc, hnc⟩, _, _⟩ := I1.hok a _ ea
  obtain ⟨mA, hN, hR⟩ := I1.hok d _ ed
  obtain ⟨od, hod, hl⟩ := lookIn_ns hN
  have dd := hdc d rfl
  have J : PySem.W.InstAt s1.heap a o C (some od) := ⟨ho, hc, hnc, by rw [dd]; exact hod⟩
  obtain ⟨v', hv', rv⟩ := RelO.some_of (v := v) (o := mA f) (by rw [← l]; exact hR f)
  have K1 := I1.kIn
  have fo : findObj X.K C (some od) f = some (.value v') := findObj_own c.hd c.na rfl (by rw [hl, hv'])
  have I2 := I1.tok (s1.toks + 1)
  obtain ⟨hh, g, dr, tk, os⟩ := s1
  unfold getAttr
  refine wpAny_bind (wpAny_mkText ?_)
  refine exc_fld_by K1 J fo (handed_of rv) c.look PySem.F.attrBase_ValueError.ga ?_
  exact ⟨v, H1, I2, rv, q⟩
end L2
/-! READING as a function of the text: what is read and how far, or the place at which it is refused -/
namespace L2
open PySem PySem.Spec PySem.W PySem.Calls PyProof.Rows
theorem FunD.okn {P : Program} {w : World} {K : Frag} {mg : Str → Option Value} {base : Heap} {x qual : Str} {st : Stmt} {f T : Addr} {fd : FuncData} {N ps : List Str} {k : Nat} {sp : Sp} (F : FunD K x qual st f fd T) (S : FnScope N ps (defScope st)) (len : ∀ vs H Q E, sp vs H Q E → vs.length = ps.length)
    (hbody : ∀ (cdv : Value) (A : Around) (outer : List Env) (s : Shared) (H : Hp) (vs : List V) (Q : VK) (E : XK), Room k (A.deeper (envOfC qual (defScope st) s.heap.objs.size f cdv)) → sp vs H Q E →
      ∃ t, PSs (cxOf (CXN P w base) P w K mg base N qual (defScope st) f cdv A outer s H E) (defBody st) t ∧ t { nx := fun _ H' => Q .non H', rt := Q } (start N vs) H) : FnOk P w K mg base (CXN P w base) (k + 1) f fd ps sp := by
  obtain ⟨oc, od, kV, doc, pm, an, cdv, ct, osl, rfl, lk, hcd⟩ := F.ex
  exact fn_of lk hcd S len fun A outer s H vs Q E hr hsp => hbody cdv A outer s H vs Q E hr hsp
/-! ### a def that is called while an exception is handled: nothing in it is walked or raised -/
section
variable {P : Program} {w : World} {K : Frag} {mg : Str → Option Value} {base : Heap} {j k : Nat} {A : Around} {outer : List Env} {s : Shared} {H : Hp} {E : XK}
structure RoomU (k : Nat) (A : Around) : Prop where
  dp : A.depth + 3 * k + 5 < recursionLimit
  un : A.units + 16 * k + 200 < cLine
theorem RoomU.mono (r : RoomU k A) (h : j ≤ k) : RoomU j A := ⟨by have := r.dp; omega, by have := r.un; omega⟩
theorem Room.hand {e : Option Value} (r : Room k A) : RoomU k (A.mark e) := ⟨r.dp, r.un⟩
theorem RoomU.calm (r : RoomU k A) : Room k { A with handled := none } := ⟨rfl, r.dp, r.un⟩
structure FnU (P : Program) (w : World) (K : Frag) (mg : Str → Option Value) (base : Heap) (k : Nat) (f : Addr) (fd : FuncData) (ps : List Str) (sp : Sp) : Prop where
  len : ∀ vs H Q E, sp vs H Q E → vs.length = ps.length
  go : ∀ (A : Around) (outer : List Env) (s : Shared) (H : Hp) (args : Args) (us : List Value) (vs : List V) (Q : VK) (E : XK), RoomU k A → Env0 P w K mg base A outer s H → BindsTo s fd args (ps.zip us) → Vals vs us → sp vs H Q E →
    codeAny (model P w) A (.call (.ref f) args) (CR CX0 outer P w H s Q E) s
abbrev cxU (P : Program) (w : World) (K : Frag) (mg : Str → Option Value) (base : Heap) (N : List Str) (qual : Str) (scope : Scope) (f : Addr) (cd : Value) (A : Around) (outer : List Env) (s : Shared) (H : Hp) : Cx :=
  { cxOf CX0 P w K mg base N qual scope f cd A outer s H E0 with calm := false, xe := fun _ _ => False }
theorem inv_u {N ps : List Str} {qual : Str} {scope : Scope} {f : Addr} {cd : Value} {s1 : Shared} {us : List Value} {vs : List V} (S : FnScope N ps scope) (e0 : Env0 P w K mg base A outer s H) (hl : vs.length = ps.length) (r : Vals vs us)
    (x : InCallC s s.heap.objs.size (bindL (envOfC qual scope s.heap.objs.size f cd).kindOf (ps.zip us) fun _ => none) (cellsFrom (s.heap.objs.size + 1) scope.names []) (bindC (envOfC qual scope s.heap.objs.size f cd).kindOf (ps.zip us) fun _ => none) s1) :
    Inv (cxU P w K mg base N qual scope f cd A outer s H) [] (start N vs) H s1 := by
  have e1 : Env0 P w K mg base { A with handled := none } outer s H := ⟨e0.frames, e0.mod, e0.bs, e0.bsz, e0.funs, e0.frf, e0.hok, e0.bare⟩
  have I : Inv (cxOf CX0 P w K mg base N qual scope f cd { A with handled := none } outer s H E0) [] (start N vs) H s1 := inv_start S rfl e1 hl r x
  exact ⟨⟨I.ok.mod, I.ok.kind, I.ok.glob, I.ok.blt, I.ok.above, I.ok.inj, I.ok.has, I.ok.cab, (fun z => nomatch z), I.ok.frames, I.ok.stk, I.ok.exf, I.ok.bs, I.ok.bsz, I.ok.noex, I.ok.exfs, I.ok.funs, I.ok.frf⟩, I.os, I.bare, I.base, I.loc, I.cell, I.free, I.freeC, I.pin, I.hok, I.len⟩
theorem Fun.oku {x qual : Str} {st : Stmt} {f : Addr} {fd : FuncData} {N ps : List Str} {sp : Sp} (F : Fun K x qual st f fd) (S : FnScope N ps (defScope st)) (len : ∀ vs H Q E, sp vs H Q E → vs.length = ps.length)
    (hbody : ∀ (cdv : Value) (A : Around) (outer : List Env) (s : Shared) (H : Hp) (vs : List V) (Q : VK) (E : XK), RoomU k (A.deeper (envOfC qual (defScope st) s.heap.objs.size f cdv)) → sp vs H Q E →
      ∃ t, PSs (cxU P w K mg base N qual (defScope st) f cdv A outer s H) (defBody st) t ∧ t { nx := fun _ H' => Q .non H', rt := Q } (start N vs) H) : FnU P w K mg base (k + 1) f fd ps sp := by
  obtain ⟨oc, od, kV, doc, pm, an, cdv, ct, osl, rfl, lk, hcd⟩ := F.ex
  refine ⟨len, fun A outer s H args us vs Q E room e0 bind rel want => ?_⟩
  have keep0 : ∀ b o, base.get? b = some o → s.heap.get? b = some o := fun b o e => (e0.bs b o e).1
  have KX := e0.mod.kin.keeps keep0
  have lim := e0.mod.nolimit.keeps keep0
  have names : ∀ y ∈ ps.zip us, (defScope st).names.lookup y.1 = some .local ∨ ((defScope st).names.lookup y.1 = some .cell ∧ ((cellsFrom (s.heap.objs.size + 1) (defScope st).names []).lookup y.1).isSome = true) := fun ⟨n, v⟩ hy =>
    (S.par n (List.of_mem_zip hy).1).imp id fun q => ⟨q, cellsFrom_some _ _ _ (.inl q)⟩
  refine codeAny_call_function room.calm.depth (KX _ _ lk) rfl S.co S.gen rfl (codeRec_of KX hcd) (bind _ _ _ _ ?_)
  refine wpAny_newFunctionEnv_cells S.kind names fun env he s1 x => ?_
  subst he
  refine ⟨lim.keeps x.toInCall.keep, codeAny_func ?_⟩
  obtain ⟨t, ht, hq⟩ := hbody cdv A outer s H vs Q E ⟨(room.calm.deeper (envOfC qual (defScope st) s.heap.objs.size f cdv)).dp, (room.calm.deeper (envOfC qual (defScope st) s.heap.objs.size f cdv)).un⟩ want
  refine wpAny_mono (ht [] s1 (start N vs) H _ (inv_u S e0 (len _ _ _ _ want) rel x) hq) (fun fl s' hs => ?_) fun e s' hs => hs.elim
  cases fl with
  | ret u => obtain ⟨v, σ', H', J, rv, q⟩ := hs; exact ⟨v, H', J.os, J.bare, J.base, J.hok, rv, q⟩
  | next => obtain ⟨σ', H', J, q⟩ := hs; exact ⟨V.non, H', J.os, J.bare, J.base, J.hok, rfl, q⟩
  | brk => obtain ⟨_, _, _, q⟩ := hs; exact q.elim
  | cont => obtain ⟨_, _, _, q⟩ := hs; exact q.elim
end
theorem pe_callU {X : Cx} {k : Nat} {f : Addr} {fd : FuncData} {ps : List Str} {sp : Sp} {x : Str} {p pos : Pos} {e : Expr} {es : List Expr} {t : TA} (F : FnU X.prog X.w X.K X.mg X.base k f fd ps sp) (hr : RoomU k X.A) (hg : Gl X x) (hm : X.mg x = some (.ref f)) (hk : keepIn X.K (.ref f) = true) (hb : Binds X.K fd ps []) (ha : PA X (e :: es) t)
    (hdb : (x == ("__debug__" : Str)) = false := by decide) (he : starEach (e :: es) X.env = (false, eval e X.env) :: starEach es X.env := by rfl) (hpl : (backTo pos (starEach es X.env)).any (·.1) = false := by rfl) :
    PE X (.Call (.Name x p) (e :: es) [] pos) (tCall sp [] E0 t) := by
  intro pins s σ H Q I h
  refine wpAny_Call_Name_kw (ld_glob I hg hm (callWith_K (h₀ := X.base) I.ok.mod.kin hk (thn (ha pos pins s σ H _ I h) fun us s1 ⟨vs, H1, I1, r, q⟩ => ⟨I1.kIn, ?_⟩) he hpl) hdb)
  have q : sp (vs ++ []) H1 Q E0 := q
  rw [List.append_nil] at q
  have hl : (us ++ []).length = ps.length := by rw [List.append_nil, ← r.length]; exact F.len _ _ _ _ q
  have hbb := hb s1 us I1.kIn hl
  rw [List.append_nil] at hbb
  refine wpAny_call (codeAny_mono (F.go X.A X.stack s1 H1 ⟨us, []⟩ us vs Q E0 hr I1.env0 hbb r q) fun z s' hq => ?_)
  cases z with
  | error e => exact hq.elim
  | ok fl =>
    cases fl with
    | ret u => exact I1.after hq
    | next => exact False.elim hq
    | brk => exact False.elim hq
    | cont => exact False.elim hq
/-! ### further bodies of a try -/
section
variable {X : Cx}
def tTryIf (tc : TT) (ta tb : XK → TS) : XK → TS := fun Eh D σ H => tc σ H fun b H1 => if b = true then ta Eh D σ H1 else tb Eh D σ H1
theorem rd_tryIf {tc : TT} {ta tb : XK → TS} {Eh : XK} {D : Ends} {σ : St} {H : Hp} : tTryIf tc ta tb Eh D σ H ↔ tc σ H fun b H1 => if b = true then ta Eh D σ H1 else tb Eh D σ H1 := Iff.rfl
def tTryE (sp : Sp) (t : TA) : XK → TE := fun Eh σ H Q => t σ H fun vs H1 => sp vs H1 Q Eh
/-- (a, e), e in a try -/
def tTryP (ta : TE) (te : XK → TE) : XK → TE := fun Eh σ H Q => ta σ H fun x H1 => te Eh σ H1 fun y H2 => ∀ p H', H2 p = none → Same H2 H' → H' p = some (.tup [x, y]) → Q (.ref p) H'
def tTryS (i : Nat) (te : XK → TE) : XK → TS := fun Eh D σ H => te Eh σ H fun v H1 => D.nx (σ.set i (some v)) H1
theorem rd_tryE {sp : Sp} {t : TA} {Eh : XK} {σ : St} {H : Hp} {Q : VK} : tTryE sp t Eh σ H Q ↔ t σ H fun vs H1 => sp vs H1 Q Eh := Iff.rfl
theorem rd_tryP {ta : TE} {te : XK → TE} {Eh : XK} {σ : St} {H : Hp} {Q : VK} : tTryP ta te Eh σ H Q ↔ ta σ H fun x H1 => te Eh σ H1 fun y H2 => ∀ p H', H2 p = none → Same H2 H' → H' p = some (.tup [x, y]) → Q (.ref p) H' := Iff.rfl
theorem rd_tryS {i : Nat} {te : XK → TE} {Eh : XK} {D : Ends} {σ : St} {H : Hp} : tTryS i te Eh D σ H ↔ te Eh σ H fun v H1 => D.nx (σ.set i (some v)) H1 := Iff.rfl
end
end L2
namespace L2
open PySem
theorem pe_fldEK {X : Cx} {K : PySem.W.Frag} {e : Expr} {f : Str} {pos : Pos} {te : TE} (hk : X.K = K) (he : PE X e te) (hb : attributeBase e f X.env (eval e X.env) = eval e X.env) : PE X (.Attribute e f pos) (tFldE K te f) := by subst hk; exact pe_fldE he hb
theorem op_notIn_seqK {X : Cx} {K : PySem.W.Frag} (h : X.K = K) : OpR X (compareOp .NotIn) (rIn K true) := by subst h; exact op_notIn_seq
end L2
namespace Wm
open PySem L2
abbrev Rs (α : Type) := Except Nat (α × Nat)
def sh {α : Type} (k : Nat) : Rs α → Rs α
  | .ok (a, n) => .ok (a, k + n)
  | .error n => .error (k + n)
def mp {α β : Type} (f : α → β) : Rs α → Rs β
  | .ok (a, n) => .ok (f a, n)
  | .error n => .error n
def pre {α : Type} (c : α) (k : Nat) : Rs (List α) → Rs (List α)
  | .ok (l, n) => .ok (c :: l, k + n)
  | .error n => .error (k + n)
section
variable {α β γ : Type}
theorem sh_sh {a b : Nat} {r : Rs α} : sh a (sh b r) = sh (a + b) r := by
  cases r with
  | error n => show Except.error _ = Except.error _; rw [Nat.add_assoc]
  | ok x => show Except.ok _ = Except.ok _; rw [Nat.add_assoc]
theorem mp_sh {a : Nat} {f : α → β} {r : Rs α} : mp f (sh a r) = sh a (mp f r) := by cases r <;> rfl
theorem mp_mp {g : β → γ} {f : α → β} {r : Rs α} : mp g (mp f r) = mp (fun x => g (f x)) r := by cases r <;> rfl
theorem sh_0 {r : Rs α} : sh 0 r = r := by
  cases r with
  | error n => show Except.error _ = Except.error _; rw [Nat.zero_add]
  | ok x => show Except.ok _ = Except.ok _; rw [Nat.zero_add]
theorem mp_id {r : Rs α} : mp (fun x => x) r = r := by cases r <;> rfl
theorem pre_eq {c : α} {k : Nat} {r : Rs (List α)} : pre c k r = sh k (mp (fun l => c :: l) r) := by cases r <;> rfl
/-- what is still to be read tells the whole -/
def Via (tot : Rs γ) (b : Nat) (f : α → γ) (r : Rs α) : Prop := tot = sh b (mp f r)
theorem Via.refl {r : Rs α} : Via r 0 (fun x => x) r := by unfold Via; rw [mp_id, sh_0]
theorem Via.step {tot : Rs γ} {b a : Nat} {f : β → γ} {g : α → β} {r : Rs β} {r' : Rs α} (h : Via tot b f r) (e : r = sh a (mp g r')) : Via tot (b + a) (fun x => f (g x)) r' := by
  unfold Via at *
  rw [h, e, mp_sh, sh_sh, mp_mp]
theorem Via.ok {tot : Rs γ} {b n : Nat} {f : α → γ} {r : Rs α} {x : α} (h : Via tot b f r) (e : r = .ok (x, n)) : tot = .ok (f x, b + n) := by
  unfold Via at h
  rw [h, e]; rfl
theorem Via.err {tot : Rs γ} {b n : Nat} {f : α → γ} {r : Rs α} (h : Via tot b f r) (e : r = .error n) : tot = .error (b + n) := by
  unfold Via at h
  rw [h, e]; rfl
end
theorem take1 {r : List Nat} {c : Nat} : r.take [c].length = [c] ↔ r.head? = some c := by
  cases r with
  | nil => simp
  | cons d r => simp
def dec (mo : Option Nat) : Option Nat := mo.map fun m => m - 1
def Capd (mo : Option Nat) (k : Nat) : Prop := ∀ z, mo = some z → k ≤ z
def fsF : List Nat := [50, 51, 52, 53, 54, 55]
/-- a pair, behind its ~ -/
def prM : List Nat → Rs Nat
  | a :: b :: _ => if a ∈ fsF then (match sgO a b with | some c => .ok (c, 2) | none => .error 1) else .error 0
  | [a] => if a ∈ fsF then .error 1 else .error 0
  | [] => .error 0
theorem prM_ok {r : List Nat} {c n : Nat} (h : prM r = .ok (c, n)) : ∃ a b r', r = a :: b :: r' ∧ sgO a b = some c ∧ n = 2 ∧ a ∈ fsF := by
  match r, h with
  | [], h => cases h
  | [a], h =>
    have h : (if a ∈ fsF then (.error 1 : Rs Nat) else .error 0) = .ok (c, n) := h
    by_cases hf : a ∈ fsF
    · rw [if_pos hf] at h; cases h
    · rw [if_neg hf] at h; cases h
  | a :: b :: r', h =>
    have h : (if a ∈ fsF then (match sgO a b with | some c => (.ok (c, 2) : Rs Nat) | none => .error 1) else .error 0) = .ok (c, n) := h
    by_cases hf : a ∈ fsF
    · rw [if_pos hf] at h
      cases hs : sgO a b with
      | none => rw [hs] at h; cases h
      | some d => rw [hs] at h; cases h; exact ⟨a, b, r', rfl, hs, rfl, hf⟩
    · rw [if_neg hf] at h; cases h
def txtM (fr : List Nat) (r : List Nat) (mo : Option Nat) : Rs (List Nat) :=
  match r with
  | [] => .ok ([], 0)
  | c :: r' =>
    if mo = some 0 then .ok ([], 0)
    else if c = 126 then (match prM r' with | .error n => .error (n + 1) | .ok (s, n) => pre s (n + 1) (txtM fr (r'.drop n) (dec mo)))
    else if isPl c = true ∨ c ∈ fr then pre c 1 (txtM fr r' (dec mo))
    else .ok ([], 0)
termination_by r.length
decreasing_by
  · simp only [List.length_drop, List.length_cons]; omega
  · simp only [List.length_cons]; omega
theorem txt_nil {fr : List Nat} {mo : Option Nat} : txtM fr [] mo = .ok ([], 0) := by rw [txtM]
theorem txt_full {fr r : List Nat} : txtM fr r (some 0) = .ok ([], 0) := by
  cases r with
  | nil => exact txt_nil
  | cons c r => rw [txtM, if_pos rfl]
theorem txt_tilde {fr r : List Nat} {mo : Option Nat} (h : mo ≠ some 0) : txtM fr (126 :: r) mo = (match prM r with | .error n => .error (n + 1) | .ok (s, n) => pre s (n + 1) (txtM fr (r.drop n) (dec mo))) := by
  rw [txtM, if_neg h, if_pos rfl]
theorem txt_self {fr r : List Nat} {mo : Option Nat} {c : Nat} (h : mo ≠ some 0) (h1 : c ≠ 126) (h2 : isPl c = true ∨ c ∈ fr) : txtM fr (c :: r) mo = pre c 1 (txtM fr r (dec mo)) := by
  rw [txtM, if_neg h, if_neg h1, if_pos h2]
theorem txt_stop {fr r : List Nat} {mo : Option Nat} (h : Stops fr r) : txtM fr r mo = .ok ([], 0) := by
  cases r with
  | nil => exact txt_nil
  | cons c r =>
    obtain ⟨h1, h2, h3⟩ := h c rfl
    by_cases h0 : mo = some 0
    · rw [h0]; exact txt_full
    · rw [txtM, if_neg h0, if_neg h3, if_neg (fun z => z.elim (fun z => by rw [h1] at z; cases z) h2)]
/-- what a text that is read is made of -/
theorem txt_inv {fr : List Nat} : ∀ (k : Nat) {r : List Nat} {mo : Option Nat} {s : List Nat} {n : Nat}, r.length ≤ k → txtM fr r mo = .ok (s, n) →
    ∃ w r', r = w ++ r' ∧ w.length = n ∧ WrT fr s w ∧ (Stops fr r' ∨ mo = some s.length) ∧ ∀ m, mo = some m → s.length ≤ m := by
  intro k
  induction k with
  | zero =>
    intro r mo s n hk h
    have hr : r = [] := List.length_eq_zero_iff.mp (by omega)
    subst hr
    rw [txt_nil] at h
    cases h
    exact ⟨[], [], rfl, rfl, .nil, .inl stops_nil, fun m _ => Nat.zero_le _⟩
  | succ k ih =>
    intro r mo s n hk h
    cases r with
    | nil =>
      rw [txt_nil] at h
      cases h
      exact ⟨[], [], rfl, rfl, .nil, .inl stops_nil, fun m _ => Nat.zero_le _⟩
    | cons c r =>
      simp only [List.length_cons] at hk
      by_cases h0 : mo = some 0
      · subst h0
        rw [txt_full] at h
        cases h
        exact ⟨[], _, rfl, rfl, .nil, .inr rfl, fun m _ => Nat.zero_le _⟩
      have hm : ∀ (s' : List Nat) (x : Nat), (∀ m, dec mo = some m → s'.length ≤ m) → ∀ m, mo = some m → (x :: s').length ≤ m := fun s' x hh m e => by
        subst e
        have := hh (m - 1) rfl
        have h1 : m ≠ 0 := fun z => h0 (by rw [z])
        simp only [List.length_cons]; omega
      have hst : ∀ (s' r' : List Nat) (x : Nat), (Stops fr r' ∨ dec mo = some s'.length) → (Stops fr r' ∨ mo = some (x :: s').length) := fun s' r' x hh => hh.imp id fun e => by
        cases mo with
        | none => cases e
        | some m =>
          have e : some (m - 1) = some s'.length := e
          have h1 : m ≠ 0 := fun z => h0 (by rw [z])
          have e := Option.some.inj e
          rw [List.length_cons, ← e]
          congr 1; omega
      by_cases hc : c = 126
      · subst hc
        rw [txt_tilde h0] at h
        cases hp : prM r with
        | error e => rw [hp] at h; cases h
        | ok x =>
          obtain ⟨x, nx⟩ := x
          obtain ⟨a, b, r2, rfl, hs, rfl, _⟩ := prM_ok hp
          rw [hp] at h
          simp only [List.drop_succ_cons, List.drop_zero] at h
          cases ht : txtM fr r2 (dec mo) with
          | error e => rw [ht] at h; cases h
          | ok y =>
            obtain ⟨s', m⟩ := y
            rw [ht] at h
            cases h
            obtain ⟨w, r', e1, e2, e3, e4, e5⟩ := ih (by simp only [List.length_cons] at hk; omega) ht
            refine ⟨126 :: a :: b :: w, r', by rw [e1]; rfl, by simp only [List.length_cons]; omega, .pair hs e3, hst s' r' x e4, hm s' x e5⟩
      · by_cases hp : isPl c = true ∨ c ∈ fr
        · rw [txt_self h0 hc hp] at h
          cases ht : txtM fr r (dec mo) with
          | error e => rw [ht] at h; cases h
          | ok y =>
            obtain ⟨s', m⟩ := y
            rw [ht] at h
            cases h
            obtain ⟨w, r', e1, e2, e3, e4, e5⟩ := ih (by omega) ht
            exact ⟨c :: w, r', by rw [e1]; rfl, by simp only [List.length_cons]; omega, .self hp hc e3, hst s' r' c e4, hm s' c e5⟩
        · rw [txtM, if_neg h0, if_neg hc, if_neg hp] at h
          cases h
          refine ⟨[], c :: r, rfl, rfl, .nil, .inl (stops_cons ⟨?_, fun z => hp (.inr z), hc⟩), fun m _ => Nat.zero_le _⟩
          cases hi : isPl c with
          | false => rfl
          | true => exact absurd (.inl hi) hp
theorem txt_le {fr r s : List Nat} {mo : Option Nat} {n : Nat} (h : txtM fr r mo = .ok (s, n)) : n ≤ r.length ∧ s.length ≤ n ∧ (s ≠ [] → 0 < n) := by
  obtain ⟨w, r', e1, e2, e3, _⟩ := txt_inv r.length (Nat.le_refl _) h
  have := wrt_len e3
  refine ⟨by rw [e1, List.length_append]; omega, by omega, fun z => ?_⟩
  have := List.length_pos_iff.mpr z
  omega
/-- a text that is written is read -/
theorem txt_wr {fr s w r : List Nat} (h : WrT fr s w) : ∀ {mo : Option Nat}, (Stops fr r ∨ mo = some s.length) → (∀ m, mo = some m → s.length ≤ m) → txtM fr (w ++ r) mo = .ok (s, w.length) := by
  induction h with
  | nil =>
    intro mo h1 _
    rcases h1 with h1 | rfl
    · exact txt_stop h1
    · exact txt_full
  | self a b _ ih =>
    rename_i c s w _
    intro mo h1 h2
    have h0 : mo ≠ some 0 := fun z => by have := h2 0 z; simp at this
    show txtM fr (c :: (w ++ r)) mo = _
    rw [txt_self h0 b a, ih (h1.imp id fun e => by rw [e]; rfl) (fun m e => by
      cases mo with
      | none => cases e
      | some k => cases e; have := h2 k rfl; simp only [List.length_cons] at this; show s.length ≤ k - 1; omega)]
    show Except.ok (c :: s, 1 + w.length) = _
    rw [List.length_cons, Nat.add_comm]
  | pair hs _ ih =>
    rename_i c a b s w _
    intro mo h1 h2
    have h0 : mo ≠ some 0 := fun z => by have := h2 0 z; simp at this
    have hf : a ∈ fsF := by
      have := (sgO_first hs).1
      rw [show (Str.ofString "234567").cps.toList = fsF by decide +kernel] at this
      exact this
    have hp : prM (a :: b :: (w ++ r)) = .ok (c, 2) := by
      show (if a ∈ fsF then _ else _) = _
      rw [if_pos hf, hs]
    show txtM fr (126 :: (a :: b :: (w ++ r))) mo = _
    rw [txt_tilde h0, hp]
    show pre c 3 (txtM fr (w ++ r) (dec mo)) = _
    rw [ih (h1.imp id fun e => by rw [e]; rfl) (fun m e => by
      cases mo with
      | none => cases e
      | some k => cases e; have := h2 k rfl; simp only [List.length_cons] at this; show s.length ≤ k - 1; omega)]
    show Except.ok (c :: s, 3 + w.length) = _
    simp only [List.length_cons]
    rw [Nat.add_comm]

def filM (fr r : List Nat) (mo : Option Nat) : Rs (List Nat) := match txtM fr r mo with
  | .error n => .error n
  | .ok (s, n) => if s = [] then .error n else .ok (s, n)
def houM (r : List Nat) : Rs (Option (List Nat)) := if r.take 2 = [47, 47] then sh 2 (mp some (filM [] (r.drop 2) (some 60))) else .ok (none, 0)
def dooG : List Nat → Nat → Nat × Nat
  | [], n => (n, 0)
  | c :: r, n => if 0 < n ∧ 48 ≤ c ∧ c ≤ 57 ∧ n * 10 + (c - 48) ≤ 65535 then ((dooG r (n * 10 + (c - 48))).1, (dooG r (n * 10 + (c - 48))).2 + 1) else (n, 0)
def dooM (r : List Nat) : Rs (Option Int) := if r.head? = some 58 then
    match r.drop 1 with
    | [] => .error 1
    | c :: r' => if 48 ≤ c ∧ c ≤ 57 then .ok (some ((dooG r' (c - 48)).1 : Int), 2 + (dooG r' (c - 48)).2) else .error 1
  else .ok (none, 0)
def stpF : Nat → List Nat → Bool → Rs (List (List Nat) × Bool)
  | 0, _, e => .ok (([], e), 0)
  | f + 1, r, e => match txtM frS r none with
    | .error n => .error n
    | .ok (s, n) => if s = [] then .ok (([], e), n)
      else if (r.drop n).head? = some 47 then sh (n + 1) (mp (fun x => (s :: x.1, x.2)) (stpF f (r.drop (n + 1)) true))
      else sh n (mp (fun x => (s :: x.1, x.2)) (stpF f (r.drop n) false))
def wayM (must : Bool) (r : List Nat) : Rs (Bool × List (List Nat) × Bool) :=
  if r.head? = some 47 then sh 1 (mp (fun x => (true, x)) (stpF (r.length + 1) (r.drop 1) true))
  else if must = true then .ok ((true, [], true), 0)
  else mp (fun x => (false, x)) (stpF (r.length + 1) r false)
def valM (r : List Nat) : Rs (Option (List Nat)) := if r.head? = some 61 then sh 1 (mp some (txtM frQ (r.drop 1) none)) else .ok (none, 0)
def marM (r : List Nat) : Rs (Option (List Nat)) := if r.head? = some 35 then sh 1 (mp some (txtM frM (r.drop 1) none)) else .ok (none, 0)
/-- the value, and the further pairs behind a name that was read -/
def bdR {α β : Type} (x : Rs α) (f : α → Nat → Rs β) : Rs β := match x with
  | .error n => .error n
  | .ok (a, n) => sh n (f a n)
def prsF : Nat → List Nat → Rs (List (List Nat × Option (List Nat)))
  | 0, _ => .ok ([], 0)
  | f + 1, r => if r.head? = some 38 then
      sh 1 (bdR (filM frQ (r.drop 1) none) fun s n => bdR (valM (r.drop (1 + n))) fun v m => mp (fun l => (s, v) :: l) (prsF f (r.drop (1 + n + m))))
    else .ok ([], 0)
def queM (r : List Nat) : Rs (Option (List (List Nat × Option (List Nat)))) := if r.head? = some 63 then
    sh 1 (bdR (txtM frQ (r.drop 1) none) fun s n => if s = [] then .ok (some [], 0) else
      bdR (valM (r.drop (1 + n))) fun v m => mp (fun l => some ((s, v) :: l)) (prsF (r.length + 1) (r.drop (1 + n + m))))
  else .ok (none, 0)
def bdA {α β : Type} (x : Rs α) (i : Nat) (f : α → Nat → Except Nat β) : Except Nat β := match x with
  | .error n => .error (i + n)
  | .ok (a, n) => f a (i + n)
theorem bdA_ok {α β : Type} {a : α} {n i : Nat} {f : α → Nat → Except Nat β} : bdA (.ok (a, n)) i f = f a (i + n) := rfl
theorem bdA_err {α β : Type} {n i : Nat} {f : α → Nat → Except Nat β} : bdA (.error n : Rs α) i f = .error (i + n) := rfl
def dorM (h : Option (List Nat)) (r : List Nat) : Rs (Option Int) := if h = none then .ok (none, 0) else dooM r
def readM (t : List Nat) : Except Nat Ad :=
  bdA (houM (t.drop (schP t))) (schP t) fun h i => bdA (dorM h (t.drop i)) i fun d i => bdA (wayM (decide (schM t ≠ [] ∨ h ≠ none)) (t.drop i)) i fun w i =>
    bdA (queM (t.drop i)) i fun q i => bdA (marM (t.drop i)) i fun m i => if i = t.length then .ok ⟨schM t, h, d, w.1, w.2.1, w.2.2, q, m⟩ else .error i
section
variable {t : List Nat} {h : Option (List Nat)} {d : Option Int} {w : Bool × List (List Nat) × Bool} {q : Option (List (List Nat × Option (List Nat)))} {m : Option (List Nat)} {n n1 n2 n3 n4 n5 : Nat}
theorem read_h (e1 : houM (t.drop (schP t)) = .error n) : readM t = .error (schP t + n) := by unfold readM; simp only [e1, bdA_ok, bdA_err]
theorem read_d (e1 : houM (t.drop (schP t)) = .ok (h, n1)) (e2 : dorM h (t.drop (schP t + n1)) = .error n) : readM t = .error (schP t + n1 + n) := by
  unfold readM; simp only [e1, e2, bdA_ok, bdA_err]
theorem read_w (e1 : houM (t.drop (schP t)) = .ok (h, n1)) (e2 : dorM h (t.drop (schP t + n1)) = .ok (d, n2)) (e3 : wayM (decide (schM t ≠ [] ∨ h ≠ none)) (t.drop (schP t + n1 + n2)) = .error n) : readM t = .error (schP t + n1 + n2 + n) := by
  unfold readM; simp only [e1, e2, e3, bdA_ok, bdA_err]
theorem read_q (e1 : houM (t.drop (schP t)) = .ok (h, n1)) (e2 : dorM h (t.drop (schP t + n1)) = .ok (d, n2)) (e3 : wayM (decide (schM t ≠ [] ∨ h ≠ none)) (t.drop (schP t + n1 + n2)) = .ok (w, n3)) (e4 : queM (t.drop (schP t + n1 + n2 + n3)) = .error n) : readM t = .error (schP t + n1 + n2 + n3 + n) := by
  unfold readM; simp only [e1, e2, e3, e4, bdA_ok, bdA_err]
theorem read_m (e1 : houM (t.drop (schP t)) = .ok (h, n1)) (e2 : dorM h (t.drop (schP t + n1)) = .ok (d, n2)) (e3 : wayM (decide (schM t ≠ [] ∨ h ≠ none)) (t.drop (schP t + n1 + n2)) = .ok (w, n3)) (e4 : queM (t.drop (schP t + n1 + n2 + n3)) = .ok (q, n4)) (e5 : marM (t.drop (schP t + n1 + n2 + n3 + n4)) = .error n) : readM t = .error (schP t + n1 + n2 + n3 + n4 + n) := by
  unfold readM; simp only [e1, e2, e3, e4, e5, bdA_ok, bdA_err]
theorem read_e (e1 : houM (t.drop (schP t)) = .ok (h, n1)) (e2 : dorM h (t.drop (schP t + n1)) = .ok (d, n2)) (e3 : wayM (decide (schM t ≠ [] ∨ h ≠ none)) (t.drop (schP t + n1 + n2)) = .ok (w, n3)) (e4 : queM (t.drop (schP t + n1 + n2 + n3)) = .ok (q, n4)) (e5 : marM (t.drop (schP t + n1 + n2 + n3 + n4)) = .ok (m, n5)) :
    readM t = if schP t + n1 + n2 + n3 + n4 + n5 = t.length then .ok ⟨schM t, h, d, w.1, w.2.1, w.2.2, q, m⟩ else .error (schP t + n1 + n2 + n3 + n4 + n5) := by
  unfold readM; simp only [e1, e2, e3, e4, e5, bdA_ok, bdA_err]
end
/-! how far each goes -/
section
variable {r : List Nat} {n : Nat}
theorem fil_ok {fr : List Nat} {mo : Option Nat} {s : List Nat} (h : filM fr r mo = .ok (s, n)) : txtM fr r mo = .ok (s, n) ∧ s ≠ [] := by
  unfold filM at h
  cases e : txtM fr r mo with
  | error k => rw [e] at h; cases h
  | ok x =>
    obtain ⟨s', k⟩ := x
    rw [e] at h
    have h : (if s' = [] then (.error k : Rs (List Nat)) else .ok (s', k)) = .ok (s, n) := h
    by_cases hs : s' = []
    · rw [if_pos hs] at h; cases h
    · rw [if_neg hs] at h; cases h; exact ⟨rfl, hs⟩
theorem sh_ok {α : Type} {k : Nat} {x : Rs α} {a : α} (h : sh k x = .ok (a, n)) : ∃ m, x = .ok (a, m) ∧ n = k + m := by
  cases x with
  | error e => cases h
  | ok y => obtain ⟨y, m⟩ := y; cases h; exact ⟨m, rfl, rfl⟩
theorem mp_ok {α β : Type} {f : α → β} {x : Rs α} {b : β} (h : mp f x = .ok (b, n)) : ∃ a, x = .ok (a, n) ∧ b = f a := by
  cases x with
  | error e => cases h
  | ok y => obtain ⟨y, m⟩ := y; cases h; exact ⟨y, rfl, rfl⟩
theorem bdR_ok {α β : Type} {x : Rs α} {f : α → Nat → Rs β} {b : β} (h : bdR x f = .ok (b, n)) : ∃ a k m, x = .ok (a, k) ∧ f a k = .ok (b, m) ∧ n = k + m := by
  cases x with
  | error e => cases h
  | ok y =>
    obtain ⟨y, k⟩ := y
    obtain ⟨m, e, en⟩ := sh_ok (show sh k (f y k) = _ from h)
    exact ⟨y, k, m, rfl, e, en⟩
theorem head_len {c : Nat} (h : r.head? = some c) : 1 ≤ r.length := by
  cases r with
  | nil => cases h
  | cons d r => simp
theorem hou_le {o : Option (List Nat)} (h : houM r = .ok (o, n)) : n ≤ r.length := by
  unfold houM at h
  by_cases h2 : r.take 2 = [47, 47]
  · rw [if_pos h2] at h
    obtain ⟨m, e, rfl⟩ := sh_ok h
    obtain ⟨a, e', rfl⟩ := mp_ok e
    have h1 := (txt_le (fil_ok e').1).1
    have h3 := congrArg List.length h2
    rw [List.length_take] at h3
    simp only [List.length_cons, List.length_nil] at h3
    rw [List.length_drop] at h1
    omega
  · rw [if_neg h2] at h; cases h; omega
theorem val_le {o : Option (List Nat)} (h : valM r = .ok (o, n)) : n ≤ r.length := by
  unfold valM at h
  by_cases h2 : r.head? = some 61
  · rw [if_pos h2] at h
    obtain ⟨m, e, rfl⟩ := sh_ok h
    obtain ⟨a, e', rfl⟩ := mp_ok e
    have h1 := (txt_le e').1
    have := head_len h2
    rw [List.length_drop] at h1
    omega
  · rw [if_neg h2] at h; cases h; omega
theorem mar_le {o : Option (List Nat)} (h : marM r = .ok (o, n)) : n ≤ r.length := by
  unfold marM at h
  by_cases h2 : r.head? = some 35
  · rw [if_pos h2] at h
    obtain ⟨m, e, rfl⟩ := sh_ok h
    obtain ⟨a, e', rfl⟩ := mp_ok e
    have h1 := (txt_le e').1
    have := head_len h2
    rw [List.length_drop] at h1
    omega
  · rw [if_neg h2] at h; cases h; omega
theorem dooG_le : ∀ (r : List Nat) (k : Nat), k ≤ 65535 → (dooG r k).2 ≤ r.length ∧ (dooG r k).1 ≤ 65535
  | [], k, h => ⟨Nat.zero_le _, h⟩
  | c :: r, k, h => by
    unfold dooG
    by_cases hc : 0 < k ∧ 48 ≤ c ∧ c ≤ 57 ∧ k * 10 + (c - 48) ≤ 65535
    · rw [if_pos hc]
      have := dooG_le r _ hc.2.2.2
      simp only [List.length_cons]
      exact ⟨by omega, this.2⟩
    · rw [if_neg hc]; exact ⟨Nat.zero_le _, h⟩
theorem doo_ok {o : Option Int} (h : dooM r = .ok (o, n)) : n ≤ r.length ∧ ∀ i, o = some i → 0 ≤ i ∧ i ≤ 65535 := by
  unfold dooM at h
  by_cases h2 : r.head? = some 58
  · rw [if_pos h2] at h
    have hl := head_len h2
    cases hd : r.drop 1 with
    | nil => rw [hd] at h; cases h
    | cons c r' =>
      rw [hd] at h
      have h : (if 48 ≤ c ∧ c ≤ 57 then (.ok (some ((dooG r' (c - 48)).1 : Int), 2 + (dooG r' (c - 48)).2) : Rs (Option Int)) else .error 1) = .ok (o, n) := h
      by_cases hc : 48 ≤ c ∧ c ≤ 57
      · rw [if_pos hc] at h
        cases h
        have := dooG_le r' (c - 48) (by omega)
        have h3 := congrArg List.length hd
        rw [List.length_drop, List.length_cons] at h3
        exact ⟨by omega, fun i e => by cases e; omega⟩
      · rw [if_neg hc] at h; cases h
  · rw [if_neg h2] at h; cases h; exact ⟨Nat.zero_le _, fun i e => by cases e⟩
theorem dor_ok {ho : Option (List Nat)} {o : Option Int} (h : dorM ho r = .ok (o, n)) : n ≤ r.length ∧ ∀ i, o = some i → (0 ≤ i ∧ i ≤ 65535) ∧ ho ≠ none := by
  unfold dorM at h
  by_cases h2 : ho = none
  · rw [if_pos h2] at h; cases h; exact ⟨Nat.zero_le _, fun i e => by cases e⟩
  · rw [if_neg h2] at h
    exact ⟨(doo_ok h).1, fun i e => ⟨(doo_ok h).2 i e, h2⟩⟩
theorem stp_ok : ∀ (f : Nat) {r : List Nat} {e : Bool} {ss : List (List Nat)} {e' : Bool} {n : Nat}, stpF f r e = .ok ((ss, e'), n) → n ≤ r.length ∧ (∀ s ∈ ss, ∃ w, s ≠ [] ∧ WrT frS s w ∧ w.length ≤ r.length) ∧ ss.length ≤ n ∧ (ss = [] → e' = e)
  | 0, r, e, ss, e', n, h => by cases h; exact ⟨Nat.zero_le _, (fun s hs => by cases hs), Nat.le_refl _, fun _ => rfl⟩
  | f + 1, r, e, ss, e', n, h => by
    unfold stpF at h
    cases ht : txtM frS r none with
    | error k => rw [ht] at h; cases h
    | ok x =>
      obtain ⟨s, k⟩ := x
      rw [ht] at h
      have h : (if s = [] then (.ok (([], e), k) : Rs (List (List Nat) × Bool)) else if (r.drop k).head? = some 47 then sh (k + 1) (mp (fun x => (s :: x.1, x.2)) (stpF f (r.drop (k + 1)) true)) else sh k (mp (fun x => (s :: x.1, x.2)) (stpF f (r.drop k) false))) = .ok ((ss, e'), n) := h
      obtain ⟨t1, t2, t3⟩ := txt_le ht
      by_cases hs : s = []
      · rw [if_pos hs] at h; cases h; exact ⟨t1, (fun s hs => by cases hs), Nat.zero_le _, fun _ => rfl⟩
      rw [if_neg hs] at h
      have hk := t3 hs
      obtain ⟨w, r', e1, e2, e3, _⟩ := txt_inv r.length (Nat.le_refl _) ht
      have fin : ∀ (b : Nat) (en : Bool) (k' : Nat), k ≤ k' → k' ≤ r.length → sh k' (mp (fun x => (s :: x.1, x.2)) (stpF f (r.drop k') en)) = .ok ((ss, e'), n) → n ≤ r.length ∧ (∀ s ∈ ss, ∃ w, s ≠ [] ∧ WrT frS s w ∧ w.length ≤ r.length) ∧ ss.length ≤ n ∧ (ss = [] → e' = e) := fun b en k' hkk hkl h => by
        obtain ⟨m, h2, rfl⟩ := sh_ok h
        obtain ⟨a, h3, ea⟩ := mp_ok h2
        obtain ⟨as, ae⟩ := a
        cases ea
        obtain ⟨i1, i2, i3, i4⟩ := stp_ok f h3
        rw [List.length_drop] at i1 i2
        refine ⟨by omega, fun x hx => ?_, by simp only [List.length_cons]; omega, fun z => by cases z⟩
        rcases List.mem_cons.mp hx with rfl | hx
        · exact ⟨w, hs, e3, by omega⟩
        · obtain ⟨w, z1, z2, z3⟩ := i2 x hx
          exact ⟨w, z1, z2, by omega⟩
      by_cases h47 : (r.drop k).head? = some 47
      · rw [if_pos h47] at h
        have := head_len h47
        rw [List.length_drop] at this
        exact fin 0 true (k + 1) (by omega) (by omega) h
      · rw [if_neg h47] at h
        exact fin 0 false k (Nat.le_refl _) t1 h
theorem way_ok {must : Bool} {w : Bool × List (List Nat) × Bool} (h : wayM must r = .ok (w, n)) : n ≤ r.length ∧ (∀ s ∈ w.2.1, ∃ v, s ≠ [] ∧ WrT frS s v ∧ v.length ≤ r.length) ∧ w.2.1.length ≤ n ∧ (w.2.1 = [] → w.2.2 = w.1) ∧ (must = true → w.1 = true) := by
  unfold wayM at h
  by_cases h1 : r.head? = some 47
  · rw [if_pos h1] at h
    obtain ⟨m, h2, rfl⟩ := sh_ok h
    obtain ⟨a, h3, rfl⟩ := mp_ok h2
    obtain ⟨as, ae⟩ := a
    obtain ⟨i1, i2, i3, i4⟩ := stp_ok _ h3
    have := head_len h1
    rw [List.length_drop] at i1 i2
    refine ⟨by omega, fun s hs => ?_, by show as.length ≤ _; omega, i4, fun _ => rfl⟩
    obtain ⟨v, z1, z2, z3⟩ := i2 s hs
    exact ⟨v, z1, z2, by omega⟩
  · rw [if_neg h1] at h
    by_cases h2 : must = true
    · rw [if_pos h2] at h
      cases h
      exact ⟨Nat.zero_le _, (fun s hs => by cases hs), Nat.zero_le _, fun _ => rfl, fun _ => rfl⟩
    · rw [if_neg h2] at h
      obtain ⟨a, h3, rfl⟩ := mp_ok h
      obtain ⟨as, ae⟩ := a
      obtain ⟨i1, i2, i3, i4⟩ := stp_ok _ h3
      exact ⟨i1, i2, i3, i4, fun z => absurd z h2⟩
end
/-- how a taker ends that stands at i -/
def Tk {α : Type} (CN : Addr) (H : Hp) (C p : Addr) (t : List Nat) (i : Nat) (r : Rs α) (ok : α → Hp → Prop) (E : XK) : Prop :=
  (∀ a n, r = .ok (a, n) → ∀ H', SameBut p H H' → Cur H' C p t (i + n) → ok a H') ∧
  (∀ n, r = .error n → ∀ d H', SameBut p H H' → H' d = some (.xd [("at", .int ((i + n : Nat) : Int))]) → E (.ref CN) (some d) H')
end Wm
namespace Wm
open PySem L2
section
variable {r : List Nat} {n : Nat}
theorem val_ok {o : Option (List Nat)} (h : valM r = .ok (o, n)) : n ≤ r.length ∧ ∀ s, o = some s → ∃ w, WrT frQ s w ∧ w.length ≤ r.length := by
  refine ⟨val_le h, fun s es => ?_⟩
  unfold valM at h
  by_cases h2 : r.head? = some 61
  · rw [if_pos h2] at h
    obtain ⟨m, e, rfl⟩ := sh_ok h
    obtain ⟨a, e', rfl⟩ := mp_ok e
    cases es
    obtain ⟨w, r', e1, e2, e3, _⟩ := txt_inv _ (Nat.le_refl _) e'
    refine ⟨w, e3, ?_⟩
    have := congrArg List.length e1
    rw [List.length_drop, List.length_append] at this
    omega
  · rw [if_neg h2] at h; cases h; cases es
theorem mar_ok {o : Option (List Nat)} (h : marM r = .ok (o, n)) : n ≤ r.length ∧ ∀ s, o = some s → ∃ w, WrT frM s w ∧ w.length ≤ r.length := by
  refine ⟨mar_le h, fun s es => ?_⟩
  unfold marM at h
  by_cases h2 : r.head? = some 35
  · rw [if_pos h2] at h
    obtain ⟨m, e, rfl⟩ := sh_ok h
    obtain ⟨a, e', rfl⟩ := mp_ok e
    cases es
    obtain ⟨w, r', e1, e2, e3, _⟩ := txt_inv _ (Nat.le_refl _) e'
    refine ⟨w, e3, ?_⟩
    have := congrArg List.length e1
    rw [List.length_drop, List.length_append] at this
    omega
  · rw [if_neg h2] at h; cases h; cases es
theorem hou_ok {o : Option (List Nat)} (h : houM r = .ok (o, n)) : n ≤ r.length ∧ ∀ s, o = some s → s ≠ [] ∧ s.length ≤ 60 ∧ ∃ w, WrT [] s w := by
  refine ⟨hou_le h, fun s es => ?_⟩
  unfold houM at h
  by_cases h2 : r.take 2 = [47, 47]
  · rw [if_pos h2] at h
    obtain ⟨m, e, rfl⟩ := sh_ok h
    obtain ⟨a, e', rfl⟩ := mp_ok e
    cases es
    obtain ⟨e1, e2⟩ := fil_ok e'
    obtain ⟨w, r', z1, z2, z3, z4, z5⟩ := txt_inv _ (Nat.le_refl _) e1
    exact ⟨e2, z5 60 rfl, w, z3⟩
  · rw [if_neg h2] at h; cases h; cases es
/-- a pair that was read -/
def PrOk (k : Nat) (p : List Nat × Option (List Nat)) : Prop := (p.1 ≠ [] ∧ ∃ w, WrT frQ p.1 w ∧ w.length ≤ k) ∧ ∀ s, p.2 = some s → ∃ w, WrT frQ s w ∧ w.length ≤ k
theorem PrOk.mono {k k' : Nat} {p : List Nat × Option (List Nat)} (h : PrOk k p) (z : k ≤ k') : PrOk k' p :=
  ⟨⟨h.1.1, let ⟨w, a, b⟩ := h.1.2; ⟨w, a, Nat.le_trans b z⟩⟩, fun s e => let ⟨w, a, b⟩ := h.2 s e; ⟨w, a, Nat.le_trans b z⟩⟩
theorem prs_ok : ∀ (f : Nat) {r : List Nat} {l : List (List Nat × Option (List Nat))} {n : Nat}, prsF f r = .ok (l, n) → n ≤ r.length ∧ (∀ p ∈ l, PrOk r.length p) ∧ l.length ≤ n
  | 0, r, l, n, h => by cases h; exact ⟨Nat.zero_le _, (fun s hs => by cases hs), Nat.le_refl _⟩
  | f + 1, r, l, n, h => by
    unfold prsF at h
    by_cases h2 : r.head? = some 38
    · rw [if_pos h2] at h
      obtain ⟨m, h3, rfl⟩ := sh_ok h
      obtain ⟨s, k, m2, e1, h4, rfl⟩ := bdR_ok h3
      obtain ⟨v, k2, m3, e2, h5, rfl⟩ := bdR_ok h4
      obtain ⟨l', h6, rfl⟩ := mp_ok h5
      obtain ⟨i1, i2, i3⟩ := prs_ok f h6
      obtain ⟨t1, t2⟩ := fil_ok e1
      obtain ⟨w, r', z1, z2, z3, _⟩ := txt_inv _ (Nat.le_refl _) t1
      have hh := head_len h2
      have tl := (txt_le t1).1
      have vl := val_ok e2
      rw [List.length_drop] at i1 i2 tl vl
      have wl := congrArg List.length z1
      rw [List.length_drop, List.length_append] at wl
      refine ⟨by omega, fun p hp => ?_, by simp only [List.length_cons]; omega⟩
      rcases List.mem_cons.mp hp with rfl | hp
      · exact ⟨⟨t2, w, z3, by omega⟩, fun s e => let ⟨w, a, b⟩ := vl.2 s e; ⟨w, a, by omega⟩⟩
      · exact (i2 p hp).mono (by omega)
    · rw [if_neg h2] at h; cases h; exact ⟨Nat.zero_le _, (fun s hs => by cases hs), Nat.zero_le _⟩
theorem que_ok {o : Option (List (List Nat × Option (List Nat)))} (h : queM r = .ok (o, n)) : n ≤ r.length ∧ ∀ l, o = some l → (∀ p ∈ l, PrOk r.length p) ∧ l.length ≤ n := by
  unfold queM at h
  by_cases h2 : r.head? = some 63
  · rw [if_pos h2] at h
    obtain ⟨m, h3, rfl⟩ := sh_ok h
    obtain ⟨s, k, m2, e1, h4, rfl⟩ := bdR_ok h3
    have hh := head_len h2
    have tl := (txt_le e1).1
    rw [List.length_drop] at tl
    have h4 : (if s = [] then (.ok (some [], 0) : Rs (Option (List (List Nat × Option (List Nat))))) else bdR (valM (r.drop (1 + k))) fun v m => mp (fun l => some ((s, v) :: l)) (prsF (r.length + 1) (r.drop (1 + k + m)))) = .ok (o, m2) := h4
    by_cases hs : s = []
    · rw [if_pos hs] at h4
      cases h4
      exact ⟨by omega, fun l e => by cases e; exact ⟨(fun s hs => by cases hs), Nat.zero_le _⟩⟩
    · rw [if_neg hs] at h4
      obtain ⟨v, k2, m3, e2, h5, rfl⟩ := bdR_ok h4
      obtain ⟨l', h6, rfl⟩ := mp_ok h5
      obtain ⟨i1, i2, i3⟩ := prs_ok _ h6
      obtain ⟨w, r', z1, z2, z3, _⟩ := txt_inv _ (Nat.le_refl _) e1
      have vl := val_ok e2
      rw [List.length_drop] at i1 i2 vl
      have wl := congrArg List.length z1
      rw [List.length_drop, List.length_append] at wl
      have hk := (txt_le e1).2.2 hs
      refine ⟨by omega, fun l e => ?_⟩
      cases e
      refine ⟨fun p hp => ?_, by simp only [List.length_cons]; omega⟩
      rcases List.mem_cons.mp hp with rfl | hp
      · exact ⟨⟨hs, w, z3, by omega⟩, fun s e => let ⟨w, a, b⟩ := vl.2 s e; ⟨w, a, by omega⟩⟩
      · exact (i2 p hp).mono (by omega)
  · rw [if_neg h2] at h; cases h; exact ⟨Nat.zero_le _, fun l e => by cases e⟩
end
theorem bdA_inv {α β : Type} {x : Rs α} {i : Nat} {f : α → Nat → Except Nat β} {b : β} (h : bdA x i f = .ok b) : ∃ a n, x = .ok (a, n) ∧ f a (i + n) = .ok b := by
  cases x with
  | error e => cases h
  | ok y => obtain ⟨a, n⟩ := y; exact ⟨a, n, rfl, h⟩
/-- the parts of what is read -/
theorem read_inv {t : List Nat} {x : Ad} (e : readM t = .ok x) : ∃ n1 n2 n3 n4 n5, houM (t.drop (schP t)) = .ok (x.house, n1) ∧ dorM x.house (t.drop (schP t + n1)) = .ok (x.door, n2) ∧ wayM (decide (schM t ≠ [] ∨ x.house ≠ none)) (t.drop (schP t + n1 + n2)) = .ok ((x.rooted, x.steps, x.ends), n3) ∧
    queM (t.drop (schP t + n1 + n2 + n3)) = .ok (x.quest, n4) ∧ marM (t.drop (schP t + n1 + n2 + n3 + n4)) = .ok (x.mark, n5) ∧ schP t + n1 + n2 + n3 + n4 + n5 = t.length ∧ x.scheme = schM t := by
  unfold readM at e
  obtain ⟨h, n1, e1, e⟩ := bdA_inv e
  obtain ⟨d, n2, e2, e⟩ := bdA_inv e
  obtain ⟨w, n3, e3, e⟩ := bdA_inv e
  obtain ⟨q, n4, e4, e⟩ := bdA_inv e
  obtain ⟨m, n5, e5, e⟩ := bdA_inv e
  by_cases hl : schP t + n1 + n2 + n3 + n4 + n5 = t.length
  · rw [if_pos hl] at e
    cases e
    exact ⟨n1, n2, n3, n4, n5, e1, e2, e3, e4, e5, hl, rfl⟩
  · rw [if_neg hl] at e; cases e
theorem frS_sg : ∀ c ∈ frS, isSg c = true := by decide +kernel
theorem frQ_sg : ∀ c ∈ frQ, isSg c = true := by decide +kernel
theorem frM_sg : ∀ c ∈ frM, isSg c = true := by decide +kernel
theorem pl_sg {c : Nat} (h : isPl c = true) : isSg c = true := by
  simp only [isPl, isSg, Bool.or_eq_true, Bool.and_eq_true, decide_eq_true_eq, Bool.not_eq_true', decide_eq_false_iff_not] at *
  omega
theorem wrt_sg {fr s w : List Nat} (hf : ∀ c ∈ fr, isSg c = true) (h : WrT fr s w) : ∀ c ∈ s, isSg c = true := by
  induction h with
  | nil => intro c hc; cases hc
  | self a _ _ ih =>
    intro c hc
    rcases List.mem_cons.mp hc with rfl | hc
    · exact a.elim pl_sg (hf _)
    · exact ih c hc
  | pair a _ ih =>
    intro c hc
    rcases List.mem_cons.mp hc with rfl | hc
    · exact (sgO_first a).2.2.2
    · exact ih c hc
theorem schM_wf (t : List Nat) : (schM t).length ≤ 8 ∧ (∀ c ∈ schM t, isAln c = true) ∧ ∀ c ∈ (schM t).take 1, isLet c = true := by
  by_cases h : ahead t ≠ [] ∧ schD (.str ⟨(ahead t).toArray⟩) = true ∧ t[(ahead t).length]? = some 58
  · rw [(schM_yes h.1 h.2.1 h.2.2).1]
    have h2 := h.2.1
    simp only [schD, Bool.and_eq_true, List.all_eq_true, decide_eq_true_eq] at h2
    exact ⟨h2.1.1.2, h2.2, h2.1.2⟩
  · rw [(schM_no h).1]
    exact ⟨Nat.zero_le _, (fun c hc => by cases hc), fun c hc => by cases hc⟩
theorem schP_le (t : List Nat) : schP t ≤ t.length := by
  by_cases h : ahead t ≠ [] ∧ schD (.str ⟨(ahead t).toArray⟩) = true ∧ t[(ahead t).length]? = some 58
  · rw [(schM_yes h.1 h.2.1 h.2.2).2, List.length_append, List.length_singleton]
    have := (List.getElem?_eq_some_iff.mp h.2.2).1
    omega
  · rw [(schM_no h).2]; exact Nat.zero_le _
theorem read_wf {t : List Nat} {x : Ad} (e : readM t = .ok x) : x.Wf := by
  obtain ⟨n1, n2, n3, n4, n5, e1, e2, e3, e4, e5, hl, es⟩ := read_inv e
  have w3 := way_ok e3
  have q4 := que_ok e4
  have m5 := mar_ok e5
  refine ⟨by rw [es]; exact schM_wf t, fun l z => ?_, fun i z => (dor_ok e2).2 i z, fun s hs => ?_, fun z => ?_, w3.2.2.2.1, fun ps z p hp => ?_, fun l z => ?_⟩
  · obtain ⟨h1, h2, w, h3⟩ := (hou_ok e1).2 l z
    exact ⟨⟨List.length_pos_iff.mpr h1, h2⟩, wrt_sg (fun c hc => by cases hc) h3⟩
  · obtain ⟨w, h1, h2, _⟩ := w3.2.1 s hs
    exact ⟨List.length_pos_iff.mpr h1, wrt_sg frS_sg h2⟩
  · refine w3.2.2.2.2 (decide_eq_true ?_)
    rw [es] at z
    exact z
  · obtain ⟨⟨h1, w, h2, _⟩, h3⟩ := (q4.2 ps z).1 p hp
    exact ⟨⟨List.length_pos_iff.mpr h1, wrt_sg frQ_sg h2⟩, fun v ev => let ⟨w, a, _⟩ := h3 v ev; wrt_sg frQ_sg a⟩
  · obtain ⟨w, h1, _⟩ := m5.2 l z
    exact wrt_sg frM_sg h1
end Wm
namespace Wm
open PySem L2
theorem mulA : ∀ k : Nat, k < 40 → Txt.mul (⟨#[97]⟩ : Str) (k : Int) = ⟨(List.replicate k 97).toArray⟩ := by decide +kernel
theorem mulB : ∀ k : Nat, k < 40 → Txt.mul (⟨#[98]⟩ : Str) (k : Int) = ⟨(List.replicate k 98).toArray⟩ := by decide +kernel
theorem wrt_as (fr : List Nat) : ∀ d : Nat, WrT fr (List.replicate d 97) (List.replicate d 97)
  | 0 => .nil
  | d + 1 => .self (.inl (by decide)) (by decide) (wrt_as fr d)
theorem no58 {t : List Nat} (h : 58 ∉ t) : schM t = [] ∧ schP t = 0 := by
  refine schM_no fun z => ?_
  exact h (List.mem_of_getElem? z.2.2)
theorem read_sp (d n c : Nat) (hc : c = 10 ∨ c = 9) : readM (List.replicate d 97 ++ c :: List.replicate n 98) = .error d := by
  obtain ⟨t, ht⟩ : ∃ t, t = List.replicate d 97 ++ c :: List.replicate n 98 := ⟨_, rfl⟩
  rw [← ht]
  have hmem : ∀ x ∈ t, x = 97 ∨ x = c ∨ x = 98 := fun x hx => by
    rw [ht] at hx
    rcases List.mem_append.mp hx with z | z
    · exact .inl (List.eq_of_mem_replicate z)
    · rcases List.mem_cons.mp z with z | z
      · exact .inr (.inl z)
      · exact .inr (.inr (List.eq_of_mem_replicate z))
  have hno : ∀ x, x ∈ [58, 47, 63, 35] → x ∉ t := fun x hx z => by
    have := hmem x z
    simp only [List.mem_cons, List.not_mem_nil, or_false] at hx
    omega
  obtain ⟨es, ep⟩ := no58 (hno 58 (by decide))
  have head : ∀ (k x : Nat), x ∈ [58, 47, 63, 35] → (t.drop k).head? ≠ some x := fun k x hx z => hno x hx (by
    rw [List.head?_drop] at z
    exact List.mem_of_getElem? z)
  have e1 : houM (t.drop (schP t)) = .ok (none, 0) := by
    rw [ep]
    unfold houM
    rw [if_neg]
    intro z
    have : (t.drop 0).head? = some 47 := by
      cases h : t.drop 0 with
      | nil => rw [h] at z; cases z
      | cons x r => rw [h] at z; have := (List.cons.inj z).1; rw [this]; rfl
    exact head 0 47 (by decide) this
  have e2 : dorM none (t.drop (schP t + 0)) = .ok (none, 0) := by unfold dorM; rw [if_pos rfl]
  have hst : Stops frS (c :: List.replicate n 98) := stops_cons (by rcases hc with rfl | rfl <;> exact ⟨by decide, by decide +kernel, by decide⟩)
  have htx : txtM frS t none = .ok (List.replicate d 97, d) := by
    rw [ht, txt_wr (wrt_as frS d) (.inl hst) (fun m e => by cases e), List.length_replicate]
  have hd : t.drop d = c :: List.replicate n 98 := by
    rw [ht]
    conv => lhs; arg 1; rw [← List.length_replicate (n := d) (a := 97)]
    exact List.drop_left
  have hlen : t.length = d + 1 + n := by rw [ht]; simp; omega
  have e3 : ∃ w, wayM (decide (schM t ≠ [] ∨ (none : Option (List Nat)) ≠ none)) (t.drop (schP t + 0 + 0)) = .ok (w, d) := by
    rw [es, ep]
    show ∃ w, wayM _ t = _
    unfold wayM
    rw [if_neg (by have := head 0 47 (by decide); simpa using this), if_neg (by simp)]
    show ∃ w, mp _ (stpF (t.length + 1) t false) = _
    conv => enter [1, w, 1]; unfold stpF
    rw [htx]
    by_cases h0 : List.replicate d 97 = []
    · refine ⟨(false, [], false), ?_⟩
      show mp _ (if List.replicate d 97 = [] then _ else _) = _
      rw [if_pos h0]; rfl
    · refine ⟨(false, [List.replicate d 97], false), ?_⟩
      show mp _ (if List.replicate d 97 = [] then _ else _) = _
      rw [if_neg h0, if_neg (head d 47 (by decide)), hlen]
      have : stpF (d + 1 + n) (t.drop d) false = .ok (([], false), 0) := by
        rw [show d + 1 + n = (d + n) + 1 by omega, hd]
        unfold stpF
        rw [txt_stop hst]
        rfl
      rw [this]
      rfl
  obtain ⟨w, e3⟩ := e3
  have e4 : queM (t.drop (schP t + 0 + 0 + d)) = .ok (none, 0) := by unfold queM; rw [if_neg (head _ 63 (by decide))]
  have e5 : marM (t.drop (schP t + 0 + 0 + d + 0)) = .ok (none, 0) := by unfold marM; rw [if_neg (head _ 35 (by decide))]
  rw [read_e e1 e2 e3 e4 e5, ep, if_neg (by omega)]
  congr 1
  omega
theorem read_nil : readM [] = .ok ⟨[], none, none, false, [], false, none, none⟩ := by
  obtain ⟨es, ep⟩ := no58 (t := []) (by decide)
  have e1 : houM (([] : List Nat).drop (schP [])) = .ok (none, 0) := by rw [ep]; unfold houM; rw [if_neg (by decide)]
  have e2 : dorM none (([] : List Nat).drop (schP [] + 0)) = .ok (none, 0) := by unfold dorM; rw [if_pos rfl]
  have e3 : wayM (decide (schM [] ≠ [] ∨ (none : Option (List Nat)) ≠ none)) (([] : List Nat).drop (schP [] + 0 + 0)) = .ok ((false, [], false), 0) := by
    rw [es, ep]
    unfold wayM
    rw [if_neg (by decide), if_neg (by decide)]
    show mp _ (stpF 1 [] false) = _
    unfold stpF
    rw [txt_nil]; rfl
  have e4 : queM (([] : List Nat).drop (schP [] + 0 + 0 + 0)) = .ok (none, 0) := by rw [ep]; unfold queM; rw [if_neg (by decide)]
  have e5 : marM (([] : List Nat).drop (schP [] + 0 + 0 + 0 + 0)) = .ok (none, 0) := by rw [ep]; unfold marM; rw [if_neg (by decide)]
  rw [read_e e1 e2 e3 e4 e5, ep, if_pos (by decide), es]
theorem read_slash : readM [47] = .ok ⟨[], none, none, true, [], true, none, none⟩ := by
  obtain ⟨es, ep⟩ := no58 (t := [47]) (by decide)
  have e1 : houM (([47] : List Nat).drop (schP [47])) = .ok (none, 0) := by rw [ep]; unfold houM; rw [if_neg (by decide)]
  have e2 : dorM none (([47] : List Nat).drop (schP [47] + 0)) = .ok (none, 0) := by unfold dorM; rw [if_pos rfl]
  have e3 : wayM (decide (schM [47] ≠ [] ∨ (none : Option (List Nat)) ≠ none)) (([47] : List Nat).drop (schP [47] + 0 + 0)) = .ok ((true, [], true), 1) := by
    rw [es, ep]
    unfold wayM
    rw [if_pos (by decide)]
    show sh 1 (mp _ (stpF 2 [] true)) = _
    unfold stpF
    rw [txt_nil]; rfl
  have e4 : queM (([47] : List Nat).drop (schP [47] + 0 + 0 + 1)) = .ok (none, 0) := by rw [ep]; unfold queM; rw [if_neg (by decide)]
  have e5 : marM (([47] : List Nat).drop (schP [47] + 0 + 0 + 1 + 0)) = .ok (none, 0) := by rw [ep]; unfold marM; rw [if_neg (by decide)]
  rw [read_e e1 e2 e3 e4 e5, ep, if_pos (by decide), es]
end Wm
namespace Wm
open PySem L2
def top (i : Nat) : Stmt := PySem.Challenge.pw_waymark_k17_what_is_no_text.main.body.getD i (.Pass ⟨0, 0, 0, 0⟩)
abbrev s_made_of : Stmt := top 15
abbrev s_figure_number : Stmt := top 17
abbrev s_sign_numbered : Stmt := top 18
abbrev s_NoAddress___init__ : Stmt := inClass (top 26) 0
abbrev s_Cursor___init__ : Stmt := inClass (top 34) 0
abbrev s_Cursor_at_end : Stmt := inClass (top 34) 1
abbrev s_Cursor_take : Stmt := inClass (top 34) 3
abbrev s_Cursor_passes : Stmt := inClass (top 34) 4
abbrev s_door_with : Stmt := top 39
abbrev s__law_whole : Stmt := top 48
abbrev s__law_lone : Stmt := top 49
abbrev s_is_text : Stmt := top 14
abbrev s_sign_of : Stmt := top 16
abbrev s_Cursor_sees : Stmt := inClass (top 34) 2
abbrev s_is_scheme : Stmt := top 23
abbrev s_taken_door : Stmt := top 38
abbrev s_taken_pair : Stmt := top 46
abbrev s_taken_scheme : Stmt := top 36
abbrev s_taken_text : Stmt := top 45
abbrev s_taken_way : Stmt := top 40
abbrev s_taken_value : Stmt := top 42
abbrev s_taken_mark : Stmt := top 43
abbrev s_taken_filled_text : Stmt := top 44
abbrev s_taken_house : Stmt := top 37
abbrev s_taken_question : Stmt := top 41
abbrev s_read : Stmt := top 35
abbrev s__law_asked : Stmt := top 50
abbrev s_law : Stmt := top 51
abbrev k_SIGNS : V := .str (Str.ofString " !\"#$&'()*+,-./0123456789:;<=>?@ABCDEFGHIJKLMNOPQRSTUVWXYZ[\\]^_`abcdefghijklmnopqrstuvwxyz{|}~")
abbrev k_LETTERS : V := .str (Str.ofString "abcdefghijklmnopqrstuvwxyzABCDEFGHIJKLMNOPQRSTUVWXYZ")
abbrev k_LETTERS_AND_FIGURES : V := .str (Str.ofString "abcdefghijklmnopqrstuvwxyzABCDEFGHIJKLMNOPQRSTUVWXYZ0123456789")
abbrev k_FIGURES : V := .str (Str.ofString "0123456789")
abbrev k_PLAIN : V := .str (Str.ofString "abcdefghijklmnopqrstuvwxyzABCDEFGHIJKLMNOPQRSTUVWXYZ0123456789-_.")
abbrev k_FREE_IN_STEPS : V := .str (Str.ofString "!$'()*,;@&=+")
abbrev k_FREE_IN_QUESTIONS : V := .str (Str.ofString "!$'()*,;@+/?:")
abbrev k_FREE_IN_MARKS : V := .str (Str.ofString "!$'()*,;@&=+/?:")
abbrev k_FIRST_NUMBER : V := .int 32
abbrev k_LAST_NUMBER : V := .int 126
abbrev k_NUMBER_LEFT_OUT : V := .int 37
abbrev k_SMALL_FIGURES : V := .str (Str.ofString "0123456789abcdef")
abbrev k_GREAT_FIGURES : V := .str (Str.ofString "0123456789ABCDEF")
abbrev k_LONGEST_SCHEME : V := .int 8
abbrev k_LONGEST_HOUSE : V := .int 60
abbrev k_LAST_DOOR : V := .int 65535
abbrev k_FIRST_FIGURES : V := .str (Str.ofString "234567")
set_option genInjectivity false
set_option genSizeOf false
set_option genSizeOfSpec false
structure G (K : PySem.W.Frag) (mg : Str → Option Value) where
  a_made_of : Addr
  fd_made_of : FuncData
  F_made_of : Fun K "made_of" "made_of" s_made_of a_made_of fd_made_of
  m_made_of : mg "made_of" = some (.ref a_made_of)
  b_made_of : Binds K fd_made_of ["text", "signs"] []
  a_figure_number : Addr
  fd_figure_number : FuncData
  F_figure_number : Fun K "figure_number" "figure_number" s_figure_number a_figure_number fd_figure_number
  m_figure_number : mg "figure_number" = some (.ref a_figure_number)
  b_figure_number : Binds K fd_figure_number ["figure"] []
  a_sign_numbered : Addr
  fd_sign_numbered : FuncData
  F_sign_numbered : Fun K "sign_numbered" "sign_numbered" s_sign_numbered a_sign_numbered fd_sign_numbered
  m_sign_numbered : mg "sign_numbered" = some (.ref a_sign_numbered)
  b_sign_numbered : Binds K fd_sign_numbered ["number"] []
  a_NoAddress___init__ : Addr
  fd_NoAddress___init__ : FuncData
  F_NoAddress___init__ : Fun K "__init__" "NoAddress.__init__" s_NoAddress___init__ a_NoAddress___init__ fd_NoAddress___init__
  b_NoAddress___init__ : Binds K fd_NoAddress___init__ ["self", "at"] []
  a_Cursor___init__ : Addr
  fd_Cursor___init__ : FuncData
  F_Cursor___init__ : Fun K "__init__" "Cursor.__init__" s_Cursor___init__ a_Cursor___init__ fd_Cursor___init__
  b_Cursor___init__ : Binds K fd_Cursor___init__ ["self", "text"] []
  a_Cursor_at_end : Addr
  fd_Cursor_at_end : FuncData
  F_Cursor_at_end : Fun K "at_end" "Cursor.at_end" s_Cursor_at_end a_Cursor_at_end fd_Cursor_at_end
  b_Cursor_at_end : Binds K fd_Cursor_at_end ["self"] []
  a_Cursor_take : Addr
  fd_Cursor_take : FuncData
  F_Cursor_take : Fun K "take" "Cursor.take" s_Cursor_take a_Cursor_take fd_Cursor_take
  b_Cursor_take : Binds K fd_Cursor_take ["self"] []
  a_Cursor_passes : Addr
  fd_Cursor_passes : FuncData
  F_Cursor_passes : Fun K "passes" "Cursor.passes" s_Cursor_passes a_Cursor_passes fd_Cursor_passes
  b_Cursor_passes : Binds K fd_Cursor_passes ["self", "text"] []
  a_door_with : Addr
  fd_door_with : FuncData
  F_door_with : Fun K "door_with" "door_with" s_door_with a_door_with fd_door_with
  m_door_with : mg "door_with" = some (.ref a_door_with)
  b_door_with : Binds K fd_door_with ["door", "cursor"] []
  a__law_whole : Addr
  fd__law_whole : FuncData
  F__law_whole : Fun K "_law_whole" "_law_whole" s__law_whole a__law_whole fd__law_whole
  m__law_whole : mg "_law_whole" = some (.ref a__law_whole)
  b__law_whole : Binds K fd__law_whole ["_law_found"] []
  a__law_lone : Addr
  fd__law_lone : FuncData
  F__law_lone : Fun K "_law_lone" "_law_lone" s__law_lone a__law_lone fd__law_lone
  m__law_lone : mg "_law_lone" = some (.ref a__law_lone)
  b__law_lone : Binds K fd__law_lone ["_law_e"] []
  a_is_text : Addr
  fd_is_text : FuncData
  F_is_text : Fun K "is_text" "is_text" s_is_text a_is_text fd_is_text
  m_is_text : mg "is_text" = some (.ref a_is_text)
  b_is_text : Binds K fd_is_text ["thing"] []
  a_sign_of : Addr
  fd_sign_of : FuncData
  F_sign_of : Fun K "sign_of" "sign_of" s_sign_of a_sign_of fd_sign_of
  m_sign_of : mg "sign_of" = some (.ref a_sign_of)
  b_sign_of : Binds K fd_sign_of ["figures"] []
  a_Cursor_sees : Addr
  fd_Cursor_sees : FuncData
  F_Cursor_sees : Fun K "sees" "Cursor.sees" s_Cursor_sees a_Cursor_sees fd_Cursor_sees
  b_Cursor_sees : Binds K fd_Cursor_sees ["self", "signs"] []
  a_is_scheme : Addr
  fd_is_scheme : FuncData
  F_is_scheme : Fun K "is_scheme" "is_scheme" s_is_scheme a_is_scheme fd_is_scheme
  m_is_scheme : mg "is_scheme" = some (.ref a_is_scheme)
  b_is_scheme : Binds K fd_is_scheme ["thing"] []
  a_taken_door : Addr
  fd_taken_door : FuncData
  F_taken_door : Fun K "taken_door" "taken_door" s_taken_door a_taken_door fd_taken_door
  m_taken_door : mg "taken_door" = some (.ref a_taken_door)
  b_taken_door : Binds K fd_taken_door ["cursor"] []
  a_taken_pair : Addr
  fd_taken_pair : FuncData
  F_taken_pair : Fun K "taken_pair" "taken_pair" s_taken_pair a_taken_pair fd_taken_pair
  m_taken_pair : mg "taken_pair" = some (.ref a_taken_pair)
  b_taken_pair : Binds K fd_taken_pair ["cursor"] []
  a_taken_scheme : Addr
  fd_taken_scheme : FuncData
  F_taken_scheme : Fun K "taken_scheme" "taken_scheme" s_taken_scheme a_taken_scheme fd_taken_scheme
  m_taken_scheme : mg "taken_scheme" = some (.ref a_taken_scheme)
  b_taken_scheme : Binds K fd_taken_scheme ["cursor"] []
  a_taken_text : Addr
  fd_taken_text : FuncData
  T_taken_text : Addr
  dt0_taken_text : Tok
  F_taken_text : FunD K "taken_text" "taken_text" s_taken_text a_taken_text fd_taken_text T_taken_text
  bd_taken_text : Binds K fd_taken_text ["cursor", "free", "most"] [.none]
  m_taken_text : mg "taken_text" = some (.ref a_taken_text)
  b_taken_text : Binds K fd_taken_text ["cursor", "free", "most"] []
  a_taken_way : Addr
  fd_taken_way : FuncData
  F_taken_way : Fun K "taken_way" "taken_way" s_taken_way a_taken_way fd_taken_way
  m_taken_way : mg "taken_way" = some (.ref a_taken_way)
  b_taken_way : Binds K fd_taken_way ["cursor", "must_be_rooted"] []
  a_taken_value : Addr
  fd_taken_value : FuncData
  F_taken_value : Fun K "taken_value" "taken_value" s_taken_value a_taken_value fd_taken_value
  m_taken_value : mg "taken_value" = some (.ref a_taken_value)
  b_taken_value : Binds K fd_taken_value ["cursor"] []
  a_taken_mark : Addr
  fd_taken_mark : FuncData
  F_taken_mark : Fun K "taken_mark" "taken_mark" s_taken_mark a_taken_mark fd_taken_mark
  m_taken_mark : mg "taken_mark" = some (.ref a_taken_mark)
  b_taken_mark : Binds K fd_taken_mark ["cursor"] []
  a_taken_filled_text : Addr
  fd_taken_filled_text : FuncData
  T_taken_filled_text : Addr
  dt0_taken_filled_text : Tok
  F_taken_filled_text : FunD K "taken_filled_text" "taken_filled_text" s_taken_filled_text a_taken_filled_text fd_taken_filled_text T_taken_filled_text
  bd_taken_filled_text : Binds K fd_taken_filled_text ["cursor", "free", "most"] [.none]
  m_taken_filled_text : mg "taken_filled_text" = some (.ref a_taken_filled_text)
  b_taken_filled_text : Binds K fd_taken_filled_text ["cursor", "free", "most"] []
  a_taken_house : Addr
  fd_taken_house : FuncData
  F_taken_house : Fun K "taken_house" "taken_house" s_taken_house a_taken_house fd_taken_house
  m_taken_house : mg "taken_house" = some (.ref a_taken_house)
  b_taken_house : Binds K fd_taken_house ["cursor"] []
  a_taken_question : Addr
  fd_taken_question : FuncData
  F_taken_question : Fun K "taken_question" "taken_question" s_taken_question a_taken_question fd_taken_question
  m_taken_question : mg "taken_question" = some (.ref a_taken_question)
  b_taken_question : Binds K fd_taken_question ["cursor"] []
  a_read : Addr
  fd_read : FuncData
  F_read : Fun K "read" "read" s_read a_read fd_read
  m_read : mg "read" = some (.ref a_read)
  b_read : Binds K fd_read ["text"] []
  a__law_asked : Addr
  fd__law_asked : FuncData
  F__law_asked : Fun K "_law_asked" "_law_asked" s__law_asked a__law_asked fd__law_asked
  m__law_asked : mg "_law_asked" = some (.ref a__law_asked)
  b__law_asked : Binds K fd__law_asked ["_law_thing"] []
  a_law : Addr
  fd_law : FuncData
  F_law : Fun K "law" "law" s_law a_law fd_law
  m_law : mg "law" = some (.ref a_law)
  b_law : Binds K fd_law ["_law_script"] []
  C_Cursor : Addr
  cl_Cursor : Cls K C_Cursor
  n_Cursor_text : NoAttr K C_Cursor "text"
  n_Cursor_place : NoAttr K C_Cursor "place"
  m_Cursor : mg "Cursor" = some (.ref C_Cursor)
  M_Cursor : Mk K C_Cursor a_Cursor___init__
  me_Cursor_at_end : Meth K C_Cursor "at_end" a_Cursor_at_end
  me_Cursor_take : Meth K C_Cursor "take" a_Cursor_take
  me_Cursor_passes : Meth K C_Cursor "passes" a_Cursor_passes
  me_Cursor_sees : Meth K C_Cursor "sees" a_Cursor_sees
  t_SIGNS : Tok
  c_SIGNS : mg "SIGNS" = some (.str (Str.ofString " !\"#$&'()*+,-./0123456789:;<=>?@ABCDEFGHIJKLMNOPQRSTUVWXYZ[\\]^_`abcdefghijklmnopqrstuvwxyz{|}~") t_SIGNS)
  t_LETTERS : Tok
  c_LETTERS : mg "LETTERS" = some (.str (Str.ofString "abcdefghijklmnopqrstuvwxyzABCDEFGHIJKLMNOPQRSTUVWXYZ") t_LETTERS)
  t_LETTERS_AND_FIGURES : Tok
  c_LETTERS_AND_FIGURES : mg "LETTERS_AND_FIGURES" = some (.str (Str.ofString "abcdefghijklmnopqrstuvwxyzABCDEFGHIJKLMNOPQRSTUVWXYZ0123456789") t_LETTERS_AND_FIGURES)
  t_FIGURES : Tok
  c_FIGURES : mg "FIGURES" = some (.str (Str.ofString "0123456789") t_FIGURES)
  t_PLAIN : Tok
  c_PLAIN : mg "PLAIN" = some (.str (Str.ofString "abcdefghijklmnopqrstuvwxyzABCDEFGHIJKLMNOPQRSTUVWXYZ0123456789-_.") t_PLAIN)
  t_FREE_IN_STEPS : Tok
  c_FREE_IN_STEPS : mg "FREE_IN_STEPS" = some (.str (Str.ofString "!$'()*,;@&=+") t_FREE_IN_STEPS)
  t_FREE_IN_QUESTIONS : Tok
  c_FREE_IN_QUESTIONS : mg "FREE_IN_QUESTIONS" = some (.str (Str.ofString "!$'()*,;@+/?:") t_FREE_IN_QUESTIONS)
  t_FREE_IN_MARKS : Tok
  c_FREE_IN_MARKS : mg "FREE_IN_MARKS" = some (.str (Str.ofString "!$'()*,;@&=+/?:") t_FREE_IN_MARKS)
  t_FIRST_NUMBER : Tok
  c_FIRST_NUMBER : mg "FIRST_NUMBER" = some (.int 32 t_FIRST_NUMBER)
  t_LAST_NUMBER : Tok
  c_LAST_NUMBER : mg "LAST_NUMBER" = some (.int 126 t_LAST_NUMBER)
  t_NUMBER_LEFT_OUT : Tok
  c_NUMBER_LEFT_OUT : mg "NUMBER_LEFT_OUT" = some (.int 37 t_NUMBER_LEFT_OUT)
  t_SMALL_FIGURES : Tok
  c_SMALL_FIGURES : mg "SMALL_FIGURES" = some (.str (Str.ofString "0123456789abcdef") t_SMALL_FIGURES)
  t_GREAT_FIGURES : Tok
  c_GREAT_FIGURES : mg "GREAT_FIGURES" = some (.str (Str.ofString "0123456789ABCDEF") t_GREAT_FIGURES)
  t_LONGEST_SCHEME : Tok
  c_LONGEST_SCHEME : mg "LONGEST_SCHEME" = some (.int 8 t_LONGEST_SCHEME)
  t_LONGEST_HOUSE : Tok
  c_LONGEST_HOUSE : mg "LONGEST_HOUSE" = some (.int 60 t_LONGEST_HOUSE)
  t_LAST_DOOR : Tok
  c_LAST_DOOR : mg "LAST_DOOR" = some (.int 65535 t_LAST_DOOR)
  t_FIRST_FIGURES : Tok
  c_FIRST_FIGURES : mg "FIRST_FIGURES" = some (.str (Str.ofString "234567") t_FIRST_FIGURES)
  b_all : mg "all" = none
  b_len : mg "len" = none
  b_int : mg "int" = none
  b_isinstance : mg "isinstance" = none
  b_bool : mg "bool" = none
  b_ValueError : mg "ValueError" = none
  b_str : mg "str" = none
  b_tuple : mg "tuple" = none
  C_NoAddress : Addr
  m_NoAddress : mg "NoAddress" = some (.ref C_NoAddress)
  C_NoRow : Addr
  m_NoRow : mg "NoRow" = some (.ref C_NoRow)
  C_WayError : Addr
  m_WayError : mg "WayError" = some (.ref C_WayError)
  C_NoName : Addr
  m_NoName : mg "NoName" = some (.ref C_NoName)
  C_NoValue : Addr
  m_NoValue : mg "NoValue" = some (.ref C_NoValue)
  C_NoPattern : Addr
  m_NoPattern : mg "NoPattern" = some (.ref C_NoPattern)
  C_NoBase : Addr
  m_NoBase : mg "NoBase" = some (.ref C_NoBase)
  w_NoAddress : Catch K C_NoAddress
  l_NoAddress : ExLook K C_NoAddress
  y_NoAddress : Mk1 K C_NoAddress a_NoAddress___init__
  st_NoAddress_at : ExSt K C_NoAddress "at"
  fx_NoAddress_at : ExFld K C_NoAddress "at"
  u_NoAddress_NoAddress : PySem.W.subIn K (.ref C_NoAddress) (.ref C_NoAddress) = some true
  i_NoAddress_NoBase : PySem.W.kitOne K (.ref C_NoAddress) (.ref C_NoBase) = some false
  i_NoAddress_NoPattern : PySem.W.kitOne K (.ref C_NoAddress) (.ref C_NoPattern) = some false
  i_NoAddress_NoValue : PySem.W.kitOne K (.ref C_NoAddress) (.ref C_NoValue) = some false
  i_NoAddress_NoName : PySem.W.kitOne K (.ref C_NoAddress) (.ref C_NoName) = some false
  i_NoAddress_WayError : PySem.W.kitOne K (.ref C_NoAddress) (.ref C_WayError) = some true
  i_NoAddress_ValueError : PySem.W.kitOne K (.ref C_NoAddress) (.type "ValueError") = some true
  i_NoAddress_NoRow : PySem.W.kitOne K (.ref C_NoAddress) (.ref C_NoRow) = some false
/-! ### what each def promises -/
def sp_made_of : Sp := fun vs H Q _ => ∃ x y : Str, vs = [.str x, .str y] ∧ x.length ≤ 100000 ∧ ∀ H', Same H H' → Q (.bl (x.cps.toList.all fun c => decide (c ∈ y.cps.toList))) H'
def sp_figure_number : Sp := fun vs H Q _ => ∃ a : Nat, vs = [one a] ∧ a < 128 ∧ Q (figV a) H
def sp_sign_numbered : Sp := fun vs H Q _ => ∃ n : Nat, vs = [.int (n : Int)] ∧ Q (sgV n) H
def sp_NoAddress___init__ (K : PySem.W.Frag) (C : Addr) : Sp := fun vs H Q _ => ∃ (a : Addr) (v : V), vs = [.ref a, v] ∧ H a = some (exNew a C) ∧ ∀ d, H d = none → Q .non (upd (upd H a (exSet a C d)) d (.xd [("at", v)]))
theorem raise_at {K : PySem.W.Frag} {C : Addr} {H : Hp} {E : XK} {v : V} (hE : ∀ d H', Same H H' → H' d = some (.xd [("at", v)]) → E (.ref C) (some d) H') : ∀ a, H a = none → sp_NoAddress___init__ K C [.ref a, v] (upd H a (exNew a C)) (fun u H2 => u = .non ∧ ∃ d, H2 a = some (exSet a C d) ∧ E (.ref C) (some d) (forget H2 a)) E0 := by
  intro a ha
  refine ⟨a, v, rfl, upd_same, fun d hd => ?_⟩
  have hda : d ≠ a := fun z => by rw [z, upd_same] at hd; cases hd
  rw [upd_ne hda] at hd
  refine ⟨rfl, d, by rw [upd_ne hda.symm, upd_same], hE d _ (fun b o e => ?_) ?_⟩
  · have ba : b ≠ a := ne_of_none e ha
    rw [forget_ne ba, upd_ne (ne_of_none e hd), upd_ne ba, upd_ne ba]
    exact e
  · rw [forget_ne hda, upd_same]
def sp_Cursor___init__ (K : PySem.W.Frag) (C : Addr) : Sp := fun vs H Q _ => ∃ (p dx : Addr) (t : List Nat), vs = [.ref p, .str ⟨t.toArray⟩] ∧ H p = some (.ins C dx []) ∧ ∀ H', SameBut p H H' → Cur H' C p t 0 → Q .non H'
def sp_Cursor_at_end (K : PySem.W.Frag) (C : Addr) : Sp := fun vs H Q _ => ∃ (p : Addr) (t : List Nat) (i : Nat), vs = [.ref p] ∧ Cur H C p t i ∧ t.length ≤ 100000 ∧ Q (.bl (decide (i = t.length))) H
def sp_Cursor_take (K : PySem.W.Frag) (C : Addr) : Sp := fun vs H Q _ => ∃ (p : Addr) (t : List Nat) (i c : Nat), vs = [.ref p] ∧ Cur H C p t i ∧ t[i]? = some c ∧ t.length ≤ 100000 ∧ ∀ H', SameBut p H H' → Cur H' C p t (i + 1) → Q (.str ⟨#[c]⟩) H'
def sp_Cursor_passes (K : PySem.W.Frag) (C : Addr) : Sp := fun vs H Q _ => ∃ (p : Addr) (t w : List Nat) (i : Nat), vs = [.ref p, .str ⟨w.toArray⟩] ∧ Cur H C p t i ∧ i ≤ t.length ∧ t.length ≤ 100000 ∧ ((t.drop i).take w.length = w → ∀ H', SameBut p H H' → Cur H' C p t (i + w.length) → Q (.bl true) H') ∧ (¬ (t.drop i).take w.length = w → Q (.bl false) H)
def sp_door_with (K : PySem.W.Frag) (C : Addr) : Sp := fun vs H Q _ => ∃ (p : Addr) (t : List Nat) (i c n : Nat), vs = [.int (n : Int), .ref p] ∧ Cur H C p t i ∧ t.length ≤ 100000 ∧ t[i]? = some c ∧ 48 ≤ c ∧ c ≤ 57 ∧ n ≤ 100000 ∧ Q (.int ((n * 10 + (c - 48) : Nat) : Int)) H
def sp__law_whole (K : PySem.W.Frag) : Sp := fun vs H Q _ => ∃ (i : Int), vs = [.int i] ∧ Q (.bl true) H
def sp__law_lone (K : PySem.W.Frag) (C : Addr) : Sp := fun vs H Q _ => ∃ (a : Addr) (d : Option Addr), vs = [.ref a] ∧ H a = some (exC a C d) ∧ ∀ H', Same H H' → Q (.bl true) H'
def sp_is_text : Sp := fun vs H Q _ => ∃ (d : PyData) (v : V), vs = [v] ∧ Is H d v ∧ smallD d = true ∧ ∀ H', Same H H' → Q (.bl (tx d)) H'
def sp_sign_of : Sp := fun vs H Q _ => ∃ l : List Nat, vs = [.str ⟨l.toArray⟩] ∧ l.length ≤ 1000 ∧ (∀ c ∈ l, c < 128) ∧ Q (signOfL l) H
def sp_Cursor_sees (K : PySem.W.Frag) (C : Addr) : Sp := fun vs H Q _ => ∃ (p : Addr) (t sg : List Nat) (i : Nat), vs = [.ref p, .str ⟨sg.toArray⟩] ∧ Cur H C p t i ∧ i ≤ t.length ∧ t.length ≤ 100000 ∧ Q (.bl (seesB t sg i)) H
def sp_is_scheme : Sp := fun vs H Q _ => ∃ (d : PyData) (v : V), vs = [v] ∧ Is H d v ∧ smallD d = true ∧ ∀ H', Same H H' → Q (.bl (schD d)) H'
def spx_taken_door (K : PySem.W.Frag) (C CN : Addr) : Sp := fun vs H Q E => ∃ (p : Addr) (t : List Nat) (i : Nat), vs = [.ref p] ∧ Cur H C p t i ∧ i ≤ t.length ∧ t.length ≤ 100000 ∧ (∀ c ∈ t, c < 128) ∧ Tk CN H C p t i (dooM (t.drop i)) (fun o H' => Q (itV o) H') E
def spx_taken_pair (K : PySem.W.Frag) (C CN : Addr) : Sp := fun vs H Q E => ∃ (p : Addr) (t : List Nat) (i : Nat), vs = [.ref p] ∧ Cur H C p t i ∧ i ≤ t.length ∧ t.length ≤ 100000 ∧ (∀ c ∈ t, c < 128) ∧ Tk CN H C p t i (prM (t.drop i)) (fun c H' => Q (.str ⟨#[c]⟩) H') E
def sp_taken_scheme (K : PySem.W.Frag) (C : Addr) : Sp := fun vs H Q _ => ∃ (p : Addr) (t : List Nat), vs = [.ref p] ∧ Cur H C p t 0 ∧ t.length ≤ 90000 ∧ ∀ H', SameBut p H H' → Cur H' C p t (schP t) → Q (.str ⟨(schM t).toArray⟩) H'
def spx_taken_text (K : PySem.W.Frag) (C CN : Addr) : Sp := fun vs H Q E => ∃ (p : Addr) (t fr : List Nat) (i : Nat) (mo : Option Nat), vs = [.ref p, .str ⟨fr.toArray⟩, moV mo] ∧ Cur H C p t i ∧ i ≤ t.length ∧ t.length ≤ 100000 ∧ (∀ c ∈ t, c < 128) ∧ fr.length ≤ 100 ∧ Tk CN H C p t i (txtM fr (t.drop i) mo) (fun s H' => Q (.str ⟨s.toArray⟩) H') E
def spx_taken_way (K : PySem.W.Frag) (C CN : Addr) : Sp := fun vs H Q E => ∃ (p : Addr) (t : List Nat) (i : Nat) (must : Bool), vs = [.ref p, .bl must] ∧ Cur H C p t i ∧ i ≤ t.length ∧ t.length ≤ 100000 ∧ (∀ c ∈ t, c < 128) ∧ Tk CN H C p t i (wayM must (t.drop i)) (fun w H' => ∀ u, IsT H' (wayOf w) u → Q u H') E
def spx_taken_value (K : PySem.W.Frag) (C CN : Addr) : Sp := fun vs H Q E => ∃ (p : Addr) (t : List Nat) (i : Nat), vs = [.ref p] ∧ Cur H C p t i ∧ i ≤ t.length ∧ t.length ≤ 100000 ∧ (∀ c ∈ t, c < 128) ∧ Tk CN H C p t i (valM (t.drop i)) (fun o H' => Q (otV o) H') E
def spx_taken_mark (K : PySem.W.Frag) (C CN : Addr) : Sp := fun vs H Q E => ∃ (p : Addr) (t : List Nat) (i : Nat), vs = [.ref p] ∧ Cur H C p t i ∧ i ≤ t.length ∧ t.length ≤ 100000 ∧ (∀ c ∈ t, c < 128) ∧ Tk CN H C p t i (marM (t.drop i)) (fun o H' => Q (otV o) H') E
def spx_taken_filled_text (K : PySem.W.Frag) (C CN : Addr) : Sp := fun vs H Q E => ∃ (p : Addr) (t fr : List Nat) (i : Nat) (mo : Option Nat), vs = [.ref p, .str ⟨fr.toArray⟩, moV mo] ∧ Cur H C p t i ∧ i ≤ t.length ∧ t.length ≤ 100000 ∧ (∀ c ∈ t, c < 128) ∧ fr.length ≤ 100 ∧ Tk CN H C p t i (filM fr (t.drop i) mo) (fun s H' => Q (.str ⟨s.toArray⟩) H') E
def spx_taken_house (K : PySem.W.Frag) (C CN : Addr) : Sp := fun vs H Q E => ∃ (p : Addr) (t : List Nat) (i : Nat), vs = [.ref p] ∧ Cur H C p t i ∧ i ≤ t.length ∧ t.length ≤ 100000 ∧ (∀ c ∈ t, c < 128) ∧ Tk CN H C p t i (houM (t.drop i)) (fun o H' => Q (otV o) H') E
def spx_taken_question (K : PySem.W.Frag) (C CN : Addr) : Sp := fun vs H Q E => ∃ (p : Addr) (t : List Nat) (i : Nat), vs = [.ref p] ∧ Cur H C p t i ∧ i ≤ t.length ∧ t.length ≤ 100000 ∧ (∀ c ∈ t, c < 128) ∧ Tk CN H C p t i (queM (t.drop i)) (fun o H' => ∀ u, IsT H' (qD o) u → Q u H') E
def spx_read (K : PySem.W.Frag) (CN : Addr) : Sp := fun vs H Q E => ∃ (v : V), vs = [v] ∧
  ((∃ ty, TyOf K H v ty ∧ PySem.W.kitOne K ty (.type "str") = some false ∧ ∀ d H', Same H H' → H' d = some (.xd [("at", .int 0)]) → E (.ref CN) (some d) H') ∨
   ∃ t : List Nat, v = .str ⟨t.toArray⟩ ∧ t.length ≤ 90000 ∧ (∀ c ∈ t, c < 128) ∧ (∀ x, readM t = .ok x → ∀ (u : V) (H' : Hp), Same H H' → IsT H' x.data u → Q u H') ∧
     ∀ k : Nat, readM t = .error k → ∀ d H', Same H H' → H' d = some (.xd [("at", .int (k : Int))]) → E (.ref CN) (some d) H')
def BadV (K : PySem.W.Frag) (H : Hp) (v : V) (k : Nat) : Prop := (k = 0 ∧ ∃ ty, TyOf K H v ty ∧ PySem.W.kitOne K ty (.type "str") = some false) ∨ ∃ t : List Nat, v = .str ⟨t.toArray⟩ ∧ t.length ≤ 90000 ∧ (∀ c ∈ t, c < 128) ∧ readM t = .error k
def sp__law_asked (K : PySem.W.Frag) : Sp := fun vs H Q _ => ∃ (v : V) (k : Nat), vs = [v] ∧ BadV K H v k ∧ ∀ p H', Same H H' → H' p = some (.tup [.int (k : Int), .bl true]) → Q (.ref p) H'
def sp_law (K : PySem.W.Frag) : Sp := fun vs H Q _ => ∃ (a : Addr) (ns : List Int), vs = [.ref a] ∧ SqL K H a (ns.map V.int) ∧ ns.length ≤ 63 ∧ ∀ H', Q (.bl true) H'
section
variable {H : Hp} {Q : VK} {E : XK} {K : PySem.W.Frag}
theorem c_fig {c : Nat} : sp_figure_number [.str ⟨[c].toArray⟩] H Q E ↔ c < 128 ∧ Q (figV c) H :=
  ⟨fun ⟨_, e, h⟩ => by injection e with e; injection e with e; cases mk_inj.mp e; exact h, fun h => ⟨c, rfl, h⟩⟩
theorem c_sign_of {l : List Nat} : sp_sign_of [.str ⟨l.toArray⟩] H Q E ↔ l.length ≤ 1000 ∧ (∀ c ∈ l, c < 128) ∧ Q (signOfL l) H :=
  ⟨fun ⟨_, e, h⟩ => by injection e with e; injection e with e; cases mk_inj.mp e; exact h, fun h => ⟨l, rfl, h⟩⟩
end
section
variable {P : Program} {w : World} {K : PySem.W.Frag} {mg : Str → Option Value} {base : Heap}
seal PE PA PT PS PSs PG PI PF PO PW
local macro_rules | `(tactic| walk_at "rd") => `(tactic| simp only [L2.start, List.map_cons, List.map_nil, List.length_cons, List.length_nil, Nat.reduceAdd, Nat.reduceSub, Nat.zero_add, List.replicate_succ, List.replicate_zero, L2.rd_var, L2.rd_C, L2.rd_seq, L2.rd_cut, L2.rd_later, L2.rd_asg, L2.rd_name, L2.rd_ifS, L2.rd_next, L2.rd_brk, L2.rd_ret, L2.rd_drop, L2.rd_op, L2.rd_test, L2.rd_B, L2.rd_and, L2.rd_or, L2.rd_not, L2.rd_andV, L2.rd_orV, L2.rd_notV, L2.rd_if, L2.rd_chain, L2.rd_nil, L2.rd_cons, L2.rd_lst, L2.rd_tup, L2.rd_tupS, L2.rd_lstS, L2.adS_int, L2.adS_str, L2.liS_ref, L2.tuS_ref, L2.slS_ref, L2.slLS_ref, L2.rd_call, L2.rd_cb, L2.rd_bm, L2.rd_bm0, L2.rd_sl, L2.rd_noPart, L2.rd_part, L2.rd_tyStr, L2.rd_I, L2.rd_I0, L2.rd_eqII, L2.rd_eqSS, L2.rd_eqBB, L2.rd_neII, L2.rd_neSS, L2.rd_neBB, L2.rd_neNN, L2.rd_neSN, L2.rd_neNSx, L2.rd_eqNN, L2.rd_eqSN, L2.rd_eqNSx, L2.rd_ixS, L2.rd_slS, L2.rd_slL, L2.rd_ixR, L2.ad_ref, L2.isi_any, L2.kind_non, L2.kind_bl, L2.kind_int, L2.kind_str, L2.memT_bool, L2.memT_int, L2.memT_str, L2.memT_list, L2.memT_tuple, L2.sub_NoneType_bool, L2.sub_NoneType_int, L2.sub_NoneType_str, L2.sub_NoneType_list, L2.sub_NoneType_tuple, L2.sub_bool_bool, L2.sub_bool_int, L2.sub_bool_str, L2.sub_bool_list, L2.sub_bool_tuple, L2.sub_int_bool, L2.sub_int_int, L2.sub_int_str, L2.sub_int_list, L2.sub_int_tuple, L2.sub_str_bool, L2.sub_str_int, L2.sub_str_str, L2.sub_str_list, L2.sub_str_tuple, L2.sub_list_bool, L2.sub_list_int, L2.sub_list_str, L2.sub_list_list, L2.sub_list_tuple, L2.sub_tuple_bool, L2.sub_tuple_int, L2.sub_tuple_str, L2.sub_tuple_list, L2.sub_tuple_tuple, L2.rd_gTup, L2.rd_gSub, L2.rd_gCons, L2.rd_gNil, L2.set_ref, L2.cx_K, L2.ad_int, L2.ad_str, L2.mu_int, L2.mu_str, L2.le_str, L2.le_ref, L2.or_one, L2.in_bl, L2.in_one, L2.notin_one, L2.isN_f, L2.isB_f, L2.isN_t, L2.rd_compS, L2.rd_compL, L2.frV_nil, L2.frV_cons, Option.getD_some, L2.jo_ref, L2.rd_un, L2.rd_U, L2.ap_ref, L2.ty_list, L2.rd_compT, L2.rd_forT, L2.all_ref, L2.any_ref, L2.li_ref, L2.tu_ref, L2.slT_ref, L2.rd_forS, L2.rd_forL, L2.rd_forR, List.getElem?_cons_zero, List.getElem?_cons_succ, List.set_cons_zero, List.set_cons_succ, List.nil_append, List.cons_append, List.append_nil, Option.some.injEq, exists_eq_left, exists_eq_left', true_and, and_true, L2.V.bl.injEq, L2.V.int.injEq, L2.V.str.injEq, L2.V.ref.injEq, List.cons.injEq, reduceCtorEq, false_and, and_false, exists_false, false_or, or_false, decide_eq_true_eq, Bool.not_true, Bool.not_false, ↓reduceIte, if_true, if_false, not_true_eq_false, not_false_eq_true, decide_true, decide_false, Bool.false_eq_true, c_fig, c_sign_of, L2.slTA_ref, L2.slX_ref, L2.catX_ref, L2.isiX_any, L2.rd_sl3, rv_ref, L2.po_ref, L2.rd_never, L2.isB_t, L2.rd_forV, L2.repT_ref, L2.repS_ref, L2.repN_ref, L2.rd_LR, L2.rd_comp2T, L2.fi_find, L2.pa_ref, L2.rd_raise, L2.rd_try, L2.rd_isE, L2.inS_str, L2.sw_str, L2.pt_str, L2.rd_fld, L2.rd_meth, L2.rd_make, L2.rd_sfld, L2.rd_dic1, L2.rd_raise, L2.rd_raise1, L2.rd_tryN, L2.rd_tryCall, L2.rd_isN, L2.rd_fldX, L2.rd_fldE, L2.rd_tryIf, L2.rd_tryE, L2.rd_tryP, L2.rd_tryS, emp_eq, tilde_eq, mk_app, mk_len, mk_list, slice_1, map_arr, List.drop_succ_cons, List.drop_zero, L2.ix_index, L2.up_str, L2.lo_str, L2.an_str, Bool.not_eq_true', decide_eq_false_iff_not])
theorem sc_made_of : FnScope ["text", "signs"] ["text", "signs"] (defScope s_made_of) := ⟨rfl, rfl, rfl, by decide +kernel, rfl, by decide +kernel, by decide +kernel⟩
theorem sc_figure_number : FnScope ["figure"] ["figure"] (defScope s_figure_number) := ⟨rfl, rfl, rfl, by decide +kernel, rfl, by decide +kernel, by decide +kernel⟩
theorem sc_sign_numbered : FnScope ["number", "place"] ["number"] (defScope s_sign_numbered) := ⟨rfl, rfl, rfl, by decide +kernel, rfl, by decide +kernel, by decide +kernel⟩
theorem sc_NoAddress___init__ : FnScope ["self", "at"] ["self", "at"] (defScope s_NoAddress___init__) := ⟨rfl, rfl, rfl, by decide +kernel, rfl, by decide +kernel, by decide +kernel⟩
theorem sc_Cursor___init__ : FnScope ["self", "text"] ["self", "text"] (defScope s_Cursor___init__) := ⟨rfl, rfl, rfl, by decide +kernel, rfl, by decide +kernel, by decide +kernel⟩
theorem sc_Cursor_at_end : FnScope ["self"] ["self"] (defScope s_Cursor_at_end) := ⟨rfl, rfl, rfl, by decide +kernel, rfl, by decide +kernel, by decide +kernel⟩
theorem sc_Cursor_take : FnScope ["self", "sign"] ["self"] (defScope s_Cursor_take) := ⟨rfl, rfl, rfl, by decide +kernel, rfl, by decide +kernel, by decide +kernel⟩
theorem sc_Cursor_passes : FnScope ["self", "text"] ["self", "text"] (defScope s_Cursor_passes) := ⟨rfl, rfl, rfl, by decide +kernel, rfl, by decide +kernel, by decide +kernel⟩
theorem sc_door_with : FnScope ["door", "cursor"] ["door", "cursor"] (defScope s_door_with) := ⟨rfl, rfl, rfl, by decide +kernel, rfl, by decide +kernel, by decide +kernel⟩
theorem sc__law_whole : FnScope ["_law_found"] ["_law_found"] (defScope s__law_whole) := ⟨rfl, rfl, rfl, by decide +kernel, rfl, by decide +kernel, by decide +kernel⟩
theorem sc__law_lone : FnScope ["_law_e", "_law_some"] ["_law_e"] (defScope s__law_lone) := ⟨rfl, rfl, rfl, by decide +kernel, rfl, by decide +kernel, by decide +kernel⟩
theorem sc_is_text : FnScope ["thing"] ["thing"] (defScope s_is_text) := ⟨rfl, rfl, rfl, by decide +kernel, rfl, by decide +kernel, by decide +kernel⟩
theorem sc_sign_of : FnScope ["figures", "high", "low"] ["figures"] (defScope s_sign_of) := ⟨rfl, rfl, rfl, by decide +kernel, rfl, by decide +kernel, by decide +kernel⟩
theorem sc_Cursor_sees : FnScope ["self", "signs"] ["self", "signs"] (defScope s_Cursor_sees) := ⟨rfl, rfl, rfl, by decide +kernel, rfl, by decide +kernel, by decide +kernel⟩
theorem sc_is_scheme : FnScope ["thing"] ["thing"] (defScope s_is_scheme) := ⟨rfl, rfl, rfl, by decide +kernel, rfl, by decide +kernel, by decide +kernel⟩
theorem sc_taken_door : FnScope ["cursor", "door"] ["cursor"] (defScope s_taken_door) := ⟨rfl, rfl, rfl, by decide +kernel, rfl, by decide +kernel, by decide +kernel⟩
theorem sc_taken_pair : FnScope ["cursor", "figures", "sign"] ["cursor"] (defScope s_taken_pair) := ⟨rfl, rfl, rfl, by decide +kernel, rfl, by decide +kernel, by decide +kernel⟩
theorem sc_taken_scheme : FnScope ["cursor", "scheme"] ["cursor"] (defScope s_taken_scheme) := ⟨rfl, rfl, rfl, by decide +kernel, rfl, by decide +kernel, by decide +kernel⟩
theorem sc_taken_text : FnScope ["cursor", "free", "most", "signs", "allowed"] ["cursor", "free", "most"] (defScope s_taken_text) := ⟨rfl, rfl, rfl, by decide +kernel, rfl, by decide +kernel, by decide +kernel⟩
theorem sc_taken_way : FnScope ["cursor", "must_be_rooted", "rooted", "steps", "ends", "step"] ["cursor", "must_be_rooted"] (defScope s_taken_way) := ⟨rfl, rfl, rfl, by decide +kernel, rfl, by decide +kernel, by decide +kernel⟩
theorem sc_taken_value : FnScope ["cursor"] ["cursor"] (defScope s_taken_value) := ⟨rfl, rfl, rfl, by decide +kernel, rfl, by decide +kernel, by decide +kernel⟩
theorem sc_taken_mark : FnScope ["cursor"] ["cursor"] (defScope s_taken_mark) := ⟨rfl, rfl, rfl, by decide +kernel, rfl, by decide +kernel, by decide +kernel⟩
theorem sc_taken_filled_text : FnScope ["cursor", "free", "most", "text"] ["cursor", "free", "most"] (defScope s_taken_filled_text) := ⟨rfl, rfl, rfl, by decide +kernel, rfl, by decide +kernel, by decide +kernel⟩
theorem sc_taken_house : FnScope ["cursor"] ["cursor"] (defScope s_taken_house) := ⟨rfl, rfl, rfl, by decide +kernel, rfl, by decide +kernel, by decide +kernel⟩
theorem sc_taken_question : FnScope ["cursor", "name", "pairs"] ["cursor"] (defScope s_taken_question) := ⟨rfl, rfl, rfl, by decide +kernel, rfl, by decide +kernel, by decide +kernel⟩
theorem sc_read : FnScope ["text", "cursor", "scheme", "house", "door", "way", "question", "mark"] ["text"] (defScope s_read) := ⟨rfl, rfl, rfl, by decide +kernel, rfl, by decide +kernel, by decide +kernel⟩
theorem sc__law_asked : FnScope ["_law_thing", "_law_heard", "_law_e"] ["_law_thing"] (defScope s__law_asked) := ⟨rfl, rfl, rfl, by decide +kernel, rfl, by decide +kernel, by decide +kernel⟩
theorem sc_law : FnScope ["_law_script", "_law_cell", "_law_number", "_law_some", "_law_thing", "_law_due", "_law_heard"] ["_law_script"] (defScope s_law) := ⟨rfl, rfl, rfl, by decide +kernel, rfl, by decide +kernel, by decide +kernel⟩
theorem ok_made_of (g : G K mg) : FnOk P w K mg base CX0 1 g.a_made_of g.fd_made_of ["text", "signs"] sp_made_of := by
  refine g.F_made_of.ok sc_made_of (fun vs H Q E h => ?_) (fun cdv A outer s H vs Q E hr h => ?_)
  · obtain ⟨x, y, rfl, _⟩ := h; rfl
  · obtain ⟨x, y, rfl, hx, k⟩ := h
    refine ⟨_, (pss_one (ps_ret (pe_callB (call_allK (K := K) rfl rfl) rfl g.b_all PyProof.Rows.boot_all (pa_cons (pe_comp (fx := ["signs"]) (fr := [1]) rfl rfl (by decide +kernel) rfl (by decide +kernel) rfl (by decide +kernel) rfl (.cons rfl rfl rfl rfl .nil) rfl (pi_str (pv 0)) (fun _ _ _ => pf_nil) (fun _ _ _ => (pe_cmpR op_inU (pv 0) (pv 1) (by with_unfolding_all rfl)))) pa_nil)))), ?_⟩
    walk_at "rd"
    intro p hp
    refine comp_str (z := x) (le_line hx) hp (fun c => .bl (decide (c ∈ y.cps.toList))) (fun c hc H' R hR => ?_) (fun H' sm hp' => ?_)
    · walk_at "rd"
      exact hR H' (Same.refl _)
    · refine all_ref.mpr ⟨x.cps.toList.map fun c => decide (c ∈ y.cps.toList), SqL.of (by rw [hp', List.map_map]; rfl), ?_⟩
      rw [List.all_map]
      exact k H' sm
theorem ok_figure_number (g : G K mg) : FnOk P w K mg base CX0 1 g.a_figure_number g.fd_figure_number ["figure"] sp_figure_number := by
  refine g.F_figure_number.ok sc_figure_number (fun vs H Q E h => ?_) (fun cdv A outer s H vs Q E hr h => ?_)
  · obtain ⟨c, rfl, _⟩ := h; rfl
  · obtain ⟨a, rfl, ha, k⟩ := h
    refine ⟨_, (pss_cons (ps_if (pt_cmpR op_inU (pv 0) (pe_glob (v := k_SMALL_FIGURES) rfl g.c_SMALL_FIGURES ⟨_, rfl⟩) (by with_unfolding_all rfl))
        (pss_one (ps_ret (pe_bmK (K := K) rfl PySem.F.plainAttrs_str PySem.F.slot_str_index PySem.F.type_str_index mt_index (pe_glob (v := k_SMALL_FIGURES) rfl g.c_SMALL_FIGURES ⟨_, rfl⟩) (pa_cons (pv 0) pa_nil)))) pss_nil)
      (pss_cons (ps_if (pt_cmpR op_inU (pv 0) (pe_glob (v := k_GREAT_FIGURES) rfl g.c_GREAT_FIGURES ⟨_, rfl⟩) (by with_unfolding_all rfl))
        (pss_one (ps_ret (pe_bmK (K := K) rfl PySem.F.plainAttrs_str PySem.F.slot_str_index PySem.F.type_str_index mt_index (pe_glob (v := k_GREAT_FIGURES) rfl g.c_GREAT_FIGURES ⟨_, rfl⟩) (pa_cons (pv 0) pa_nil)))) pss_nil)
      (pss_one (ps_ret pe_non)))), ?_⟩
    walk_at "rd"
    refine ite2 (fun h => ?_) (fun h => ?_)
    · obtain ⟨e1, e2⟩ := small_ix a ha h
      obtain ⟨n, hn⟩ := Option.isSome_iff_exists.mp e2
      rw [hn] at e1
      rw [figV_some hn] at k
      exact ⟨n, [], e1, k⟩
    · refine ite2 (fun h2 => ?_) (fun h2 => ?_)
      · obtain ⟨e1, e2⟩ := great_ix a ha h h2
        obtain ⟨n, hn⟩ := Option.isSome_iff_exists.mp e2
        rw [hn] at e1
        rw [figV_some hn] at k
        exact ⟨n, [], e1, k⟩
      · rw [figV_none (no_ix a ha h h2)] at k
        exact k
theorem ok_sign_numbered (g : G K mg) : FnOk P w K mg base CX0 1 g.a_sign_numbered g.fd_sign_numbered ["number"] sp_sign_numbered := by
  refine g.F_sign_numbered.ok sc_sign_numbered (fun vs H Q E h => ?_) (fun cdv A outer s H vs Q E hr h => ?_)
  · obtain ⟨c, rfl, _⟩ := h; rfl
  · obtain ⟨n, rfl, k⟩ := h
    refine ⟨_, (pss_cons (ps_if (PW.pt (pw_or (pt_cmpR op_lt (pv 0) (pe_glob (v := k_FIRST_NUMBER) rfl g.c_FIRST_NUMBER ⟨_, rfl⟩) (nomark _)) (pw_or (pt_cmpR op_gt (pv 0) (pe_glob (v := k_LAST_NUMBER) rfl g.c_LAST_NUMBER ⟨_, rfl⟩) (nomark _)) (pw_or1 (pt_cmpR op_eq (pv 0) (pe_glob (v := k_NUMBER_LEFT_OUT) rfl g.c_NUMBER_LEFT_OUT ⟨_, rfl⟩) (nomark _))))))
        (pss_one (ps_ret pe_non)) pss_nil)
      (pss_cons (ps_set (i := 1) sc_sign_numbered.nd rfl (Or.inl rfl) (pe_op op_sub (pv 0) (pe_glob (v := k_FIRST_NUMBER) rfl g.c_FIRST_NUMBER ⟨_, rfl⟩)))
      (pss_cons (ps_if (pt_cmpR op_gt (pv 0) (pe_glob (v := k_NUMBER_LEFT_OUT) rfl g.c_NUMBER_LEFT_OUT ⟨_, rfl⟩) (nomark _))
        (pss_one (ps_set (i := 1) sc_sign_numbered.nd rfl (Or.inl rfl) (pe_op op_sub (pv 1) pe_int))) pss_nil)
      (pss_one (ps_ret (pe_ix (ix_seqK (K := K) rfl) (pe_glob (v := k_SIGNS) rfl g.c_SIGNS ⟨_, rfl⟩) (pv 1) (fun _ _ => rfl))))))), ?_⟩
    walk_at "rd"
    refine ite2 (fun h => ?_) (fun h => ?_)
    · rw [sgV_no (fun q => by have := isSg_lt q; omega)] at k
      exact k
    · refine ite2 (fun h1 => ?_) (fun h1 => ?_)
      · rw [sgV_no (fun q => by have := isSg_lt q; omega)] at k
        exact k
      · refine ite2 (fun h2 => ?_) (fun h2 => ?_)
        · rw [sgV_no (fun q => by have := isSg_lt q; omega)] at k
          exact k
        · have hs : isSg n = true := isSg_of (by omega) (by omega) (by omega)
          rw [sgV_yes hs] at k
          have hat := signs_at n (by omega) hs
          refine ite2 (fun h3 => ?_) (fun h3 => ?_)
          · rw [if_pos (show 37 < n by omega)] at hat
            refine ⟨n, signs_len, ?_, k⟩
            rw [show (n : Int) - 32 - 1 = ((n - 32 - 1 : Nat) : Int) by omega]
            exact atI_nat hat
          · rw [if_neg (show ¬ 37 < n by omega)] at hat
            refine ⟨n, signs_len, ?_, k⟩
            rw [show (n : Int) - 32 = ((n - 32 - 0 : Nat) : Int) by omega]
            exact atI_nat hat
theorem ok_NoAddress___init__ (g : G K mg) : FnOk P w K mg base CX0 1 g.a_NoAddress___init__ g.fd_NoAddress___init__ ["self", "at"] (sp_NoAddress___init__ K g.C_NoAddress) := by
  refine g.F_NoAddress___init__.ok sc_NoAddress___init__ (fun vs H Q E h => ?_) (fun cdv A outer s H vs Q E hr h => ?_)
  · obtain ⟨a, v, rfl, _⟩ := h; rfl
  · obtain ⟨a, v, rfl, ha, k⟩ := h
    refine ⟨_, (pss_one (ps_fldE (pv 0) (pv 1) rfl)), ?_⟩
    walk_at "rd"
    exact ⟨a, _, rfl, ha, g.st_NoAddress_at, fun d hd => k d hd⟩
theorem ok_Cursor___init__ (g : G K mg) : FnOk P w K mg base CX0 1 g.a_Cursor___init__ g.fd_Cursor___init__ ["self", "text"] (sp_Cursor___init__ K g.C_Cursor) := by
  refine g.F_Cursor___init__.ok sc_Cursor___init__ (fun vs H Q E h => ?_) (fun cdv A outer s H vs Q E hr h => ?_)
  · obtain ⟨p, dx, t, rfl, _⟩ := h; rfl
  · obtain ⟨p, dx, t, rfl, hp, k⟩ := h
    refine ⟨_, (pss_cons (ps_fld (pv 0) (pv 1) rfl)
      (pss_one (ps_fld (pv 0) pe_int rfl))), ?_⟩
    walk_at "rd"
    refine ⟨p, _, dx, _, rfl, hp, g.cl_Cursor, g.n_Cursor_text, by show 0 < 1000; decide, ?_⟩
    refine ⟨p, _, dx, _, rfl, upd_same, g.cl_Cursor, g.n_Cursor_place, by show 1 < 1000; decide, ?_⟩
    have h : Str.ofString "text" ≠ Str.ofString "place" := by decide +kernel
    rw [upd_upd]
    refine k _ sameBut_upd ⟨dx, ?_⟩
    rw [upd_same]
    simp only [putF, if_neg h]
    rfl
theorem ok_Cursor_at_end (g : G K mg) : FnOk P w K mg base CX0 1 g.a_Cursor_at_end g.fd_Cursor_at_end ["self"] (sp_Cursor_at_end K g.C_Cursor) := by
  refine g.F_Cursor_at_end.ok sc_Cursor_at_end (fun vs H Q E h => ?_) (fun cdv A outer s H vs Q E hr h => ?_)
  · obtain ⟨p, t, i, rfl, _⟩ := h; rfl
  · obtain ⟨p, t, i, rfl, ⟨dx, hp⟩, hl, k⟩ := h
    refine ⟨_, (pss_one (ps_ret (pe_cmpR op_eq (pe_fld (pv 0) rfl) (pe_callB (call_lenK (K := K) rfl) rfl g.b_len PySem.boot_len (pa_cons (pe_fld (pv 0) rfl) pa_nil)) (nomark _)))), ?_⟩
    have hcur : Cur H g.C_Cursor p t i := ⟨dx, hp⟩
    walk_at "rd"
    refine get_place hcur g.cl_Cursor g.n_Cursor_place (get_text hcur g.cl_Cursor g.n_Cursor_text ?_)
    walk_at "rd"
    refine ⟨le_line hl, ?_⟩
    rw [show decide ((i : Int) = (t.length : Int)) = decide (i = t.length) from decide_eq_decide.mpr (by omega)]
    exact k
theorem ok_Cursor_take (g : G K mg) : FnOk P w K mg base CX0 1 g.a_Cursor_take g.fd_Cursor_take ["self"] (sp_Cursor_take K g.C_Cursor) := by
  refine g.F_Cursor_take.ok sc_Cursor_take (fun vs H Q E h => ?_) (fun cdv A outer s H vs Q E hr h => ?_)
  · obtain ⟨p, t, i, c, rfl, _⟩ := h; rfl
  · obtain ⟨p, t, i, c, rfl, ⟨dx, hp⟩, hc, hl, k⟩ := h
    refine ⟨_, (pss_cons (ps_set (i := 1) sc_Cursor_take.nd rfl (Or.inl rfl) (pe_ix (ix_seqK (K := K) rfl) (pe_fld (pv 0) rfl) (pe_fld (pv 0) rfl) (fun _ _ => rfl)))
      (pss_cons (ps_fld (pv 0) (pe_op (op_addK (K := K) rfl) (pe_fld (pv 0) rfl) pe_int) rfl)
      (pss_one (ps_ret (pv 1))))), ?_⟩
    have hcur : Cur H g.C_Cursor p t i := ⟨dx, hp⟩
    walk_at "rd"
    refine get_text hcur g.cl_Cursor g.n_Cursor_text (get_place hcur g.cl_Cursor g.n_Cursor_place ?_)
    walk_at "rd"
    refine ⟨c, le_line hl, atI_nat hc, ?_⟩
    refine get_place hcur g.cl_Cursor g.n_Cursor_place ?_
    walk_at "rd"
    exact set_place hcur g.cl_Cursor g.n_Cursor_place (i + 1) (by omega) fun H' sb h => k H' sb h
theorem pass_yes {K : PySem.W.Frag} {C p : Addr} {H : Hp} {Q : VK} {E : XK} {t w r : List Nat} {i : Nat} (h : Cur H C p t i) (hi : i ≤ t.length) (hl : t.length ≤ 100000) (hd : t.drop i = w ++ r) (k : ∀ H', SameBut p H H' → Cur H' C p t (i + w.length) → i + w.length ≤ t.length → t.drop (i + w.length) = r → Q (.bl true) H') : sp_Cursor_passes K C [.ref p, .str ⟨w.toArray⟩] H Q E :=
  ⟨p, t, w, i, rfl, h, hi, hl, fun _ H' s c => k H' s c (by have := congrArg List.length hd; rw [List.length_drop, List.length_append] at this; omega) (by rw [← List.drop_drop, hd, List.drop_left]), fun z => absurd (by rw [hd, List.take_left]) z⟩
theorem pass_no {K : PySem.W.Frag} {C p : Addr} {H : Hp} {Q : VK} {E : XK} {t w : List Nat} {i : Nat} (h : Cur H C p t i) (hi : i ≤ t.length) (hl : t.length ≤ 100000) (hn : ¬ (t.drop i).take w.length = w) (k : Q (.bl false) H) : sp_Cursor_passes K C [.ref p, .str ⟨w.toArray⟩] H Q E :=
  ⟨p, t, w, i, rfl, h, hi, hl, fun z => absurd z hn, fun _ => k⟩
theorem ok_Cursor_passes (g : G K mg) : FnOk P w K mg base CX0 1 g.a_Cursor_passes g.fd_Cursor_passes ["self", "text"] (sp_Cursor_passes K g.C_Cursor) := by
  refine g.F_Cursor_passes.ok sc_Cursor_passes (fun vs H Q E h => ?_) (fun cdv A outer s H vs Q E hr h => ?_)
  · obtain ⟨p, t, w, i, rfl, _⟩ := h; rfl
  · obtain ⟨p, t, w, i, rfl, ⟨dx, hp⟩, hi, hl, k1, k2⟩ := h
    refine ⟨_, (pss_cons (ps_if (pt_not (pt_val (pe_bmK (K := K) rfl PySem.F.plainAttrs_str PySem.F.slot_str_startswith PySem.F.type_str_startswith mt_starts3 (pe_fld (pv 0) rfl) (pa_cons (pv 1) (pa_cons (pe_fld (pv 0) rfl) pa_nil)))))
        (pss_one (ps_ret pe_bl)) pss_nil)
      (pss_cons (ps_fld (pv 0) (pe_op (op_addK (K := K) rfl) (pe_fld (pv 0) rfl) (pe_callB (call_lenK (K := K) rfl) rfl g.b_len PySem.boot_len (pa_cons (pv 1) pa_nil))) rfl)
      (pss_one (ps_ret pe_bl)))), ?_⟩
    have hcur : Cur H g.C_Cursor p t i := ⟨dx, hp⟩
    walk_at "rd"
    refine get_text hcur g.cl_Cursor g.n_Cursor_text ⟨rfl, get_place hcur g.cl_Cursor g.n_Cursor_place ?_⟩
    walk_at "rd"
    have e := sub_at t w i hi
    rw [mk_len, mk_len] at e
    rw [e]
    by_cases h : (t.drop i).take w.length = w
    · rw [decide_eq_true h, if_neg (by decide)]
      refine get_place hcur g.cl_Cursor g.n_Cursor_place ?_
      walk_at "rd"
      exact ⟨le_line (by have := congrArg List.length h; rw [List.length_take, List.length_drop] at this; omega), set_place hcur g.cl_Cursor g.n_Cursor_place (i + w.length) (by omega) fun H' sb h' => k1 h H' sb h'⟩
    · rw [decide_eq_false h, if_pos rfl]
      exact k2 h
theorem ok_door_with (g : G K mg) : FnOk P w K mg base CX0 1 g.a_door_with g.fd_door_with ["door", "cursor"] (sp_door_with K g.C_Cursor) := by
  refine g.F_door_with.ok sc_door_with (fun vs H Q E h => ?_) (fun cdv A outer s H vs Q E hr h => ?_)
  · obtain ⟨p, t, i, c, n, rfl, _⟩ := h; rfl
  · obtain ⟨p, t, i, c, n, rfl, hcur, hl, hc, h48, h57, hn, k⟩ := h
    refine ⟨_, (pss_one (ps_ret (pe_op (op_addK (K := K) rfl) (pe_op op_mulU (pv 0) pe_int) (pe_callTy call_intS rfl g.b_int bt_int (pa_cons (pe_ix (ix_seqK (K := K) rfl) (pe_fld (pv 1) rfl) (pe_fld (pv 1) rfl) (fun _ _ => rfl)) pa_nil))))), ?_⟩
    walk_at "rd"
    refine ⟨.inl ⟨by omega, by omega⟩, get_text hcur g.cl_Cursor g.n_Cursor_text (get_place hcur g.cl_Cursor g.n_Cursor_place ?_)⟩
    walk_at "rd"
    refine ⟨c, le_line hl, atI_nat hc, _, by show 1 ≤ 640; decide, int_one c (by omega) h48, ?_⟩
    rw [show (n : Int) * 10 + ((c - 48 : Nat) : Int) = ((n * 10 + (c - 48) : Nat) : Int) by omega]
    exact k
theorem ok__law_whole (g : G K mg) : FnOk P w K mg base CX0 1 g.a__law_whole g.fd__law_whole ["_law_found"] (sp__law_whole K) := by
  refine g.F__law_whole.ok sc__law_whole (fun vs H Q E h => ?_) (fun cdv A outer s H vs Q E hr h => ?_)
  · obtain ⟨i, rfl, _⟩ := h; rfl
  · obtain ⟨i, rfl, k⟩ := h
    refine ⟨_, (pss_one (ps_ret (pe_and (pe_callB call_isiU rfl g.b_isinstance boot_isinstance (pa_cons (pv 0) (pa_cons (pe_bltn (v := .ty "int") rfl g.b_int bt_int rfl) pa_nil))) (pe_one (pe_not (pe_callB call_isiU rfl g.b_isinstance boot_isinstance (pa_cons (pv 0) (pa_cons (pe_bltn (v := .ty "bool") rfl g.b_bool bt_bool rfl) pa_nil)))))))), ?_⟩
    walk_at "rd"
    exact k
theorem oku__law_lone (g : G K mg) : FnU P w K mg base 1 g.a__law_lone g.fd__law_lone ["_law_e"] (sp__law_lone K g.C_NoAddress) := by
  refine g.F__law_lone.oku sc__law_lone (fun vs H Q E h => ?_) (fun cdv A outer s H vs Q E hr h => ?_)
  · obtain ⟨a, d, rfl, _⟩ := h; rfl
  · obtain ⟨a, d, rfl, ha, k⟩ := h
    refine ⟨_, (pss_cons (ps_set (i := 1) sc__law_lone.nd rfl (Or.inl rfl) (pe_lstS (pa_cons (pe_callB (call_isiN (K := K) rfl) rfl g.b_isinstance boot_isinstance (pa_cons (pv 0) (pa_cons (pe_glob (v := .ref g.C_NoBase) rfl g.m_NoBase rfl) pa_nil))) (pa_cons (pe_callB (call_isiN (K := K) rfl) rfl g.b_isinstance boot_isinstance (pa_cons (pv 0) (pa_cons (pe_glob (v := .ref g.C_NoPattern) rfl g.m_NoPattern rfl) pa_nil))) (pa_cons (pe_callB (call_isiN (K := K) rfl) rfl g.b_isinstance boot_isinstance (pa_cons (pv 0) (pa_cons (pe_glob (v := .ref g.C_NoValue) rfl g.m_NoValue rfl) pa_nil))) (pa_cons (pe_callB (call_isiN (K := K) rfl) rfl g.b_isinstance boot_isinstance (pa_cons (pv 0) (pa_cons (pe_glob (v := .ref g.C_NoName) rfl g.m_NoName rfl) pa_nil))) pa_nil))))))
      (pss_one (ps_ret (pe_and (pe_callB (call_isiN (K := K) rfl) rfl g.b_isinstance boot_isinstance (pa_cons (pv 0) (pa_cons (pe_glob (v := .ref g.C_WayError) rfl g.m_WayError rfl) pa_nil))) (pe_and (pe_callB (call_isiN (K := K) rfl) rfl g.b_isinstance boot_isinstance (pa_cons (pv 0) (pa_cons (pe_bltn (v := .ty "ValueError") rfl g.b_ValueError bt_ValueError rfl) pa_nil))) (pe_and (pe_cmpR (op_notIn_seqK (K := K) rfl) pe_bl (pv 1) (by with_unfolding_all rfl)) (pe_one (pe_not (pe_callB (call_isiN (K := K) rfl) rfl g.b_isinstance boot_isinstance (pa_cons (pv 0) (pa_cons (pe_glob (v := .ref g.C_NoRow) rfl g.m_NoRow rfl) pa_nil))))))))))), ?_⟩
    walk_at "rd"
    refine ⟨_, _, _, ha, g.l_NoAddress, .cls g.i_NoAddress_NoBase, _, _, _, ha, g.l_NoAddress, .cls g.i_NoAddress_NoPattern, _, _, _, ha, g.l_NoAddress, .cls g.i_NoAddress_NoValue, _, _, _, ha, g.l_NoAddress, .cls g.i_NoAddress_NoName, by decide, fun p H1 hn s1 hp => ?_⟩
    have ha1 := s1 _ _ ha
    refine ⟨_, _, _, ha1, g.l_NoAddress, .cls g.i_NoAddress_WayError, ?_⟩
    walk_at "rd"
    refine ⟨_, _, _, ha1, g.l_NoAddress, .ty g.i_NoAddress_ValueError, ?_⟩
    walk_at "rd"
    refine ⟨p, _, rfl, .inl (.of hp), rfl, rfl, ?_⟩
    rw [show (if true = true then !inV (V.bl true) [V.bl false, V.bl false, V.bl false, V.bl false] else inV (V.bl true) [V.bl false, V.bl false, V.bl false, V.bl false]) = true by decide]
    walk_at "rd"
    refine ⟨_, _, _, ha1, g.l_NoAddress, .cls g.i_NoAddress_NoRow, ?_⟩
    walk_at "rd"
    exact k H1 s1
theorem ok_is_text (g : G K mg) : FnOk P w K mg base CX0 2 g.a_is_text g.fd_is_text ["thing"] sp_is_text := by
  refine g.F_is_text.ok sc_is_text (fun vs H Q E h => ?_) (fun cdv A outer s H vs Q E hr h => ?_)
  · obtain ⟨d, v, rfl, _⟩ := h; rfl
  · obtain ⟨d, v, rfl, hv, hs, k⟩ := h
    refine ⟨_, (pss_one (ps_ret (pe_and (pe_callB call_isiU rfl g.b_isinstance boot_isinstance (pa_cons (pv 0) (pa_cons (pe_bltn (v := .ty "str") rfl g.b_str bt_str rfl) pa_nil))) (pe_one (pe_call (ok_made_of g) (hr.mono (by decide)) rfl g.m_made_of g.F_made_of.kp g.b_made_of .nil pass0 (pa_cons (pv 0) (pa_cons (pe_glob (v := k_SIGNS) rfl g.c_SIGNS ⟨_, rfl⟩) pa_nil))))))), ?_⟩
    cases hv with
    | lst hp r => walk_at "rd"; simp only [kind_lst hp]; walk_at "rd"; exact k H (Same.refl _)
    | tup hp r => walk_at "rd"; simp only [kind_tup hp]; walk_at "rd"; exact k H (Same.refl _)
    | str x =>
      walk_at "rd"
      refine ⟨x, _, rfl, small_str hs, fun H' sm => ?_⟩
      simp only [sig_in]
      exact k H' sm
    | _ => walk_at "rd"; exact k H (Same.refl _)
theorem ok_sign_of (g : G K mg) : FnOk P w K mg base CX0 2 g.a_sign_of g.fd_sign_of ["figures"] sp_sign_of := by
  refine g.F_sign_of.ok sc_sign_of (fun vs H Q E h => ?_) (fun cdv A outer s H vs Q E hr h => ?_)
  · obtain ⟨c, rfl, _⟩ := h; rfl
  · obtain ⟨l, rfl, hl, ha, k⟩ := h
    refine ⟨_, (pss_cons (ps_if (pt_cmpR op_ne (pe_callB (call_lenK (K := K) rfl) rfl g.b_len PySem.boot_len (pa_cons (pv 0) pa_nil)) pe_int (nomark _))
        (pss_one (ps_ret pe_non)) pss_nil)
      (pss_cons (ps_set (i := 1) sc_sign_of.nd rfl (Or.inl rfl) (pe_call (ok_figure_number g) (hr.mono (by decide)) rfl g.m_figure_number g.F_figure_number.kp g.b_figure_number .nil pass0 (pa_cons (pe_ix (ix_seqK (K := K) rfl) (pv 0) pe_int (fun _ _ => rfl)) pa_nil)))
      (pss_cons (ps_set (i := 2) sc_sign_of.nd rfl (Or.inl rfl) (pe_call (ok_figure_number g) (hr.mono (by decide)) rfl g.m_figure_number g.F_figure_number.kp g.b_figure_number .nil pass0 (pa_cons (pe_ix (ix_seqK (K := K) rfl) (pv 0) pe_int (fun _ _ => rfl)) pa_nil)))
      (pss_cons (ps_if (PW.pt (pw_or (pt_cmpR op_isNU (pv 1) pe_non (nomark _)) (pw_or1 (pt_cmpR op_isNU (pv 2) pe_non (nomark _)))))
        (pss_one (ps_ret pe_non)) pss_nil)
      (pss_one (ps_ret (pe_call (ok_sign_numbered g) (hr.mono (by decide)) rfl g.m_sign_numbered g.F_sign_numbered.kp g.b_sign_numbered .nil pass0 (pa_cons (pe_op (op_addK (K := K) rfl) (pe_op op_mulU (pv 1) pe_int) (pv 2)) pa_nil)))))))), ?_⟩
    walk_at "rd"
    have hz : l.length ≤ sizeLine := le_line (by omega)
    refine ⟨hz, ite2 (fun h => ?_) (fun h => ?_)⟩
    · rw [signOfL_no (by omega)] at k
      exact k
    · obtain ⟨a, b, rfl⟩ := two_of (l := l) (by omega)
      refine ⟨a, hz, rfl, ha a (by simp), b, hz, rfl, ha b (by simp), ?_⟩
      have k : Q (signOf a b) H := k
      unfold signOf at k
      cases e1 : fig a with
      | none =>
        rw [e1] at k
        rw [figV_none e1]
        exact k
      | some x =>
        cases e2 : fig b with
        | none =>
          rw [e1, e2] at k
          rw [figV_some e1, figV_none e2]
          exact k
        | some y =>
          rw [e1, e2] at k
          rw [figV_some e1, figV_some e2]
          walk_at "rd"
          exact ⟨.inr ⟨by decide, by decide⟩, x * 16 + y, by rw [Int.natCast_add, Int.natCast_mul]; rfl, k⟩
theorem ok_Cursor_sees (g : G K mg) : FnOk P w K mg base CX0 2 g.a_Cursor_sees g.fd_Cursor_sees ["self", "signs"] (sp_Cursor_sees K g.C_Cursor) := by
  refine g.F_Cursor_sees.ok sc_Cursor_sees (fun vs H Q E h => ?_) (fun cdv A outer s H vs Q E hr h => ?_)
  · obtain ⟨p, t, sg, i, rfl, _⟩ := h; rfl
  · obtain ⟨p, t, sg, i, rfl, ⟨dx, hp⟩, hi, hl, k⟩ := h
    refine ⟨_, (pss_one (ps_ret (pe_and (pe_not (pe_meth0 (pv 0) g.cl_Cursor g.me_Cursor_at_end (ok_Cursor_at_end g) (hr.mono (by decide)) g.b_Cursor_at_end .nil pass0)) (pe_one (pe_cmpR op_inU (pe_ix (ix_seqK (K := K) rfl) (pe_fld (pv 0) rfl) (pe_fld (pv 0) rfl) (fun _ _ => rfl)) (pv 1) (by with_unfolding_all rfl)))))), ?_⟩
    have hcur : Cur H g.C_Cursor p t i := ⟨dx, hp⟩
    walk_at "rd"
    refine cur_meth hcur ⟨p, t, i, rfl, hcur, hl, _, rfl, ?_⟩
    by_cases he : i = t.length
    · rw [decide_eq_true he, if_neg (by decide)]
      rw [seesB_none (by rw [he]; exact List.getElem?_eq_none (Nat.le_refl _))] at k
      exact k
    rw [decide_eq_false he, if_pos rfl]
    refine get_text hcur g.cl_Cursor g.n_Cursor_text (get_place hcur g.cl_Cursor g.n_Cursor_place ?_)
    have hc : t[i]? = some t[i] := List.getElem?_eq_getElem (by omega)
    walk_at "rd"
    refine ⟨t[i], le_line hl, atI_nat hc, ?_⟩
    rw [seesB_some hc] at k
    exact k
theorem ok_is_scheme (g : G K mg) : FnOk P w K mg base CX0 3 g.a_is_scheme g.fd_is_scheme ["thing"] sp_is_scheme := by
  refine g.F_is_scheme.ok sc_is_scheme (fun vs H Q E h => ?_) (fun cdv A outer s H vs Q E hr h => ?_)
  · obtain ⟨d, v, rfl, _⟩ := h; rfl
  · obtain ⟨d, v, rfl, hv, hs, k⟩ := h
    refine ⟨_, (pss_cons (ps_if (PW.pt (pw_or (pt_not (pt_val (pe_call (ok_is_text g) (hr.mono (by decide)) rfl g.m_is_text g.F_is_text.kp g.b_is_text .nil pass0 (pa_cons (pv 0) pa_nil)))) (pw_or1 (pt_cmpR op_gt (pe_callB (call_lenK (K := K) rfl) rfl g.b_len PySem.boot_len (pa_cons (pv 0) pa_nil)) (pe_glob (v := k_LONGEST_SCHEME) rfl g.c_LONGEST_SCHEME ⟨_, rfl⟩) (nomark _)))))
        (pss_one (ps_ret pe_bl)) pss_nil)
      (pss_one (ps_ret (pe_and (pe_call (ok_made_of g) (hr.mono (by decide)) rfl g.m_made_of g.F_made_of.kp g.b_made_of .nil pass0 (pa_cons (pe_slice (sl_anyK (K := K) rfl) (pv 0) po_none (po_some pe_int)) (pa_cons (pe_glob (v := k_LETTERS) rfl g.c_LETTERS ⟨_, rfl⟩) pa_nil))) (pe_one (pe_call (ok_made_of g) (hr.mono (by decide)) rfl g.m_made_of g.F_made_of.kp g.b_made_of .nil pass0 (pa_cons (pv 0) (pa_cons (pe_glob (v := k_LETTERS_AND_FIGURES) rfl g.c_LETTERS_AND_FIGURES ⟨_, rfl⟩) pa_nil)))))))), ?_⟩
    walk_at "rd"
    refine ⟨d, v, rfl, hv, hs, fun H1 s1 => ?_⟩
    walk_at "rd"
    have k1 := k H1 s1
    cases hv with
    | str x =>
      have hx := small_str hs
      refine ite2 (fun h => ?_) (fun h => ?_)
      · rw [show schD (.str x) = false by simp only [schD]; rw [show x.cps.toList.all isSg = false from h]; rfl] at k1
        exact k1
      have h : x.cps.toList.all isSg = true := (Bool.not_eq_false _).mp h
      walk_at "rd"
      refine ⟨le_line hx, ite2 (fun h2 => ?_) (fun h2 => ?_)⟩
      · rw [show schD (.str x) = false by simp only [schD, h, Bool.true_and]; rw [decide_eq_false (by omega)]; rfl] at k1
        exact k1
      have e : x = ⟨x.cps.toList.toArray⟩ := by simp
      refine ⟨le_line hx, ?_⟩
      have e1 : Txt.slice x none (some 1) = ⟨(x.cps.toList.take 1).toArray⟩ := by
        conv => lhs; rw [e]
        exact slice_to x.cps.toList 1
      rw [e1]
      refine ⟨⟨(x.cps.toList.take 1).toArray⟩, _, rfl, by rw [mk_len, List.length_take]; omega, fun H2 s2 => ?_⟩
      have hsg := List.all_eq_true.mp h
      have f1 : ((⟨(x.cps.toList.take 1).toArray⟩ : Str).cps.toList.all fun c => decide (c ∈ (Str.ofString "abcdefghijklmnopqrstuvwxyzABCDEFGHIJKLMNOPQRSTUVWXYZ").cps.toList)) = (x.cps.toList.take 1).all isLet := by
        rw [mk_list, Bool.eq_iff_iff, List.all_eq_true, List.all_eq_true]
        refine forall_congr' fun c => forall_congr' fun hc => ?_
        rw [let_in c (by have := isSg_lt (hsg c (List.mem_of_mem_take hc)); omega)]
      have f2 : (x.cps.toList.all fun c => decide (c ∈ (Str.ofString "abcdefghijklmnopqrstuvwxyzABCDEFGHIJKLMNOPQRSTUVWXYZ0123456789").cps.toList)) = x.cps.toList.all isAln := by
        rw [Bool.eq_iff_iff, List.all_eq_true, List.all_eq_true]
        refine forall_congr' fun c => forall_congr' fun hc => ?_
        rw [aln_in c (by have := isSg_lt (hsg c hc); omega)]
      rw [f1]
      walk_at "rd"
      refine ite2 (fun h3 => ?_) (fun h3 => ?_)
      · refine ⟨x, _, rfl, hx, fun H3 s3 => ?_⟩
        have k3 := k H3 (s1.trans (s2.trans s3))
        rw [f2]
        simp only [schD, h, h3, Bool.true_and, decide_eq_true (show x.length ≤ 8 by omega)] at k3
        exact k3
      · have k3 := k H2 (s1.trans s2)
        simp only [schD, h, (Bool.not_eq_true _).mp h3, Bool.false_and, Bool.and_false, Bool.true_and] at k3
        exact k3
    | _ => exact k1
theorem okx_taken_door (g : G K mg) : FnOk P w K mg base (CXN P w base) 3 g.a_taken_door g.fd_taken_door ["cursor"] (spx_taken_door K g.C_Cursor g.C_NoAddress) := by
  refine g.F_taken_door.okn sc_taken_door (fun vs H Q E h => ?_) (fun cdv A outer s H vs Q E hr h => ?_)
  · obtain ⟨p, t, i, rfl, _⟩ := h; rfl
  · obtain ⟨p, t, i, rfl, hcur, hi, hl, h128, k1, k2⟩ := h
    refine ⟨_, (pss_cons (ps_if (pt_not (pt_val (pe_meth (pv 0) g.cl_Cursor g.me_Cursor_passes (ok_Cursor_passes g) (hr.mono (by decide)) g.b_Cursor_passes .nil pass0 (pa_cons pe_str pa_nil))))
        (pss_one (ps_ret pe_non)) pss_nil)
      (pss_cons (ps_if (pt_not (pt_val (pe_meth (pv 0) g.cl_Cursor g.me_Cursor_sees (ok_Cursor_sees g) (hr.mono (by decide)) g.b_Cursor_sees .nil pass0 (pa_cons (pe_glob (v := k_FIGURES) rfl g.c_FIGURES ⟨_, rfl⟩) pa_nil))))
        (pss_one (ps_raise1 raises1_cx rfl g.m_NoAddress g.y_NoAddress (ok_NoAddress___init__ g) (hr.mono (by decide)) g.b_NoAddress___init__ rfl pass0 rfl (pa_cons (pe_fld (pv 0) rfl) pa_nil))) pss_nil)
      (pss_cons (ps_set (i := 1) sc_taken_door.nd rfl (Or.inl rfl) (pe_callTy call_intS rfl g.b_int bt_int (pa_cons (pe_meth0 (pv 0) g.cl_Cursor g.me_Cursor_take (ok_Cursor_take g) (hr.mono (by decide)) g.b_Cursor_take .nil pass0) pa_nil)))
      (pss_cons (ps_while PassesOwn.leaving (PW.pt (pw_and (pt_cmpR op_gt (pv 1) pe_int (nomark _)) (pw_and (pt_val (pe_meth (pv 0) g.cl_Cursor g.me_Cursor_sees (ok_Cursor_sees g) (hr.mono (by decide)) g.b_Cursor_sees .nil pass0 (pa_cons (pe_glob (v := k_FIGURES) rfl g.c_FIGURES ⟨_, rfl⟩) pa_nil))) (pw_and1 (pt_cmpR op_le (pe_call (ok_door_with g) (hr.mono (by decide)) rfl g.m_door_with g.F_door_with.kp g.b_door_with .nil pass0 (pa_cons (pv 1) (pa_cons (pv 0) pa_nil))) (pe_glob (v := k_LAST_DOOR) rfl g.c_LAST_DOOR ⟨_, rfl⟩) (nomark _))))))
      (pss_cons (ps_set (i := 1) sc_taken_door.nd rfl (Or.inl rfl) (pe_call (ok_door_with g) (hr.mono (by decide)) rfl g.m_door_with g.F_door_with.kp g.b_door_with .nil pass0 (pa_cons (pv 1) (pa_cons (pv 0) pa_nil))))
      (pss_one (ps_expr (pe_meth0 (pv 0) g.cl_Cursor g.me_Cursor_take (ok_Cursor_take g) (hr.mono (by decide)) g.b_Cursor_take .nil pass0)))))
      (pss_one (ps_ret (pv 1))))))), ?_⟩
    have eF : k_FIGURES = .str ⟨fgS.toArray⟩ := by
      show V.str (Str.ofString _) = _
      unfold fgS; simp
    have e1 : Str.ofString ":" = ⟨[58].toArray⟩ := by decide +kernel
    rw [eF, e1]
    walk_at "rd"
    refine cur_meth hcur ⟨p, t, [58], i, rfl, hcur, hi, hl, fun hp H1 s1 c1 => ⟨_, rfl, ?_⟩, fun hp => ⟨_, rfl, ?_⟩⟩
    · rw [if_neg (by decide)]
      have h1 := take1.mp hp
      have hi1 : i + 1 ≤ t.length := by
        have := congrArg List.length hp
        rw [List.length_take, List.length_drop] at this
        simp only [List.length_singleton] at this
        omega
      have em : dooM (t.drop i) = (match t.drop (i + 1) with | [] => (.error 1 : Rs (Option Int)) | c :: r' => if 48 ≤ c ∧ c ≤ 57 then .ok (some ((dooG r' (c - 48)).1 : Int), 2 + (dooG r' (c - 48)).2) else .error 1) := by
        unfold dooM
        rw [if_pos h1, List.drop_drop]
        all_goals (cases t.drop (i + 1) <;> rfl)
      refine cur_meth c1 ⟨p, t, fgS, i + 1, rfl, c1, hi1, hl, _, rfl, ?_⟩
      cases hd : t.drop (i + 1) with
      | nil =>
        have hn : t[i + 1]? = none := by rw [← List.head?_drop, hd]; rfl
        rw [seesB_none hn, if_pos rfl]
        exact get_place c1 g.cl_Cursor g.n_Cursor_place (raise_at fun d H' sm hx => k2 1 (by rw [em, hd]) d H' (s1.trans sm.but) hx)
      | cons c r =>
        obtain ⟨hx, hxl⟩ := at_drop hd
        rw [seesB_some hx]
        by_cases hf : 48 ≤ c ∧ c ≤ 57
        · rw [decide_eq_true (fgS_in.mpr hf), if_neg (by decide)]
          rw [hd] at em
          have em : dooM (t.drop i) = .ok (some ((dooG r (c - 48)).1 : Int), 2 + (dooG r (c - 48)).2) := by rw [em]; exact if_pos hf
          refine cur_meth c1 ⟨p, t, i + 1, c, rfl, c1, hx, hl, fun H2 s2 c2 => ⟨_, _, rfl, by show 1 ≤ 640; decide, int_one c (by omega) hf.1, ?_⟩⟩
          refine while_W (fun m σ H' => ∃ (n k : Nat), m = t.length - (i + 2 + k) ∧ i + 2 + k ≤ t.length ∧ σ = [some (.ref p), some (.int (n : Nat))] ∧ n ≤ 65535 ∧ SameBut p H H' ∧ Cur H' g.C_Cursor p t (i + 2 + k) ∧ (dooG r (c - 48)).1 = (dooG (t.drop (i + 2 + k)) n).1 ∧ (dooG r (c - 48)).2 = k + (dooG (t.drop (i + 2 + k)) n).2) (t.length - (i + 2)) ⟨c - 48, 0, rfl, by omega, rfl, by omega, s1.trans s2, c2, ?_, ?_⟩ ?_
          · rw [show t.drop (i + 2 + 0) = r by rw [Nat.add_zero, show i + 2 = i + 1 + 1 by omega, ← List.drop_drop, hd]; rfl]
          · rw [show t.drop (i + 2 + 0) = r by rw [Nat.add_zero, show i + 2 = i + 1 + 1 by omega, ← List.drop_drop, hd]; rfl, Nat.zero_add]
          rintro m σ H3 ⟨n, k, rfl, hk, rfl, hn, s3, c3, g1, g2⟩
          have fin : dooG (t.drop (i + 2 + k)) n = (n, 0) → Q (.int (n : Nat)) H3 := fun e => by
            rw [e] at g1 g2
            have := k1 (some ((dooG r (c - 48)).1 : Int)) _ em H3 s3 (by rw [g2, show i + (2 + (k + 0)) = i + 2 + k by omega]; exact c3)
            rw [g1] at this
            exact this
          walk_at "rd"
          by_cases h0 : n = 0
          · rw [if_neg (by omega)]
            refine fin ?_
            cases t.drop (i + 2 + k) with
            | nil => rfl
            | cons d r => unfold dooG; rw [if_neg (by omega)]
          rw [if_pos (by omega)]
          refine cur_meth c3 ⟨p, t, fgS, i + 2 + k, rfl, c3, hk, hl, _, rfl, ?_⟩
          cases hd3 : t.drop (i + 2 + k) with
          | nil =>
            have hn3 : t[i + 2 + k]? = none := by rw [← List.head?_drop, hd3]; rfl
            rw [seesB_none hn3, if_neg (by decide)]
            exact fin (by rw [hd3]; rfl)
          | cons d r3 =>
            obtain ⟨hx3, hxl3⟩ := at_drop hd3
            rw [seesB_some hx3]
            by_cases hf3 : 48 ≤ d ∧ d ≤ 57
            · rw [decide_eq_true (fgS_in.mpr hf3), if_pos rfl]
              refine ⟨p, t, _, d, n, rfl, c3, hl, hx3, hf3.1, hf3.2, by omega, _, _, rfl, rfl, _, rfl, ?_⟩
              by_cases hle : n * 10 + (d - 48) ≤ 65535
              · rw [decide_eq_true (by omega), if_pos rfl]
                refine ⟨_, fun _ _ h => h, p, t, _, d, n, rfl, c3, hl, hx3, hf3.1, hf3.2, by omega, cur_meth c3 ⟨p, t, _, d, rfl, c3, hx3, hl, fun H4 s4 c4 => ⟨t.length - (i + 2 + (k + 1)), by omega, n * 10 + (d - 48), k + 1, rfl, by omega, rfl, hle, s3.trans s4, c4, ?_, ?_⟩⟩⟩
                · have hd4 : t.drop (i + 2 + (k + 1)) = r3 := by rw [← Nat.add_assoc, ← List.drop_drop, hd3]; rfl
                  rw [g1, hd3, hd4]
                  conv => lhs; unfold dooG
                  rw [if_pos ⟨by omega, hf3.1, hf3.2, hle⟩]
                · have hd4 : t.drop (i + 2 + (k + 1)) = r3 := by rw [← Nat.add_assoc, ← List.drop_drop, hd3]; rfl
                  rw [g2, hd3, hd4]
                  conv => lhs; unfold dooG
                  rw [if_pos ⟨by omega, hf3.1, hf3.2, hle⟩]
                  show k + (_ + 1) = _
                  omega
              · rw [decide_eq_false (by omega), if_neg (by decide)]
                exact fin (by rw [hd3]; unfold dooG; rw [if_neg (fun z => hle z.2.2.2)])
            · rw [decide_eq_false (fun z => hf3 (fgS_in.mp z)), if_neg (by decide)]
              exact fin (by rw [hd3]; unfold dooG; rw [if_neg (fun z => hf3 ⟨z.2.1, z.2.2.1⟩)])
        · rw [decide_eq_false (fun z => hf (fgS_in.mp z)), if_pos rfl]
          exact get_place c1 g.cl_Cursor g.n_Cursor_place (raise_at fun d H' sm hx => k2 1 (by rw [em, hd]; exact if_neg hf) d H' (s1.trans sm.but) hx)
    · rw [if_pos rfl]
      exact k1 none 0 (by unfold dooM; rw [if_neg (fun z => hp (take1.mpr z))]) H (SameBut.refl _ _) hcur
theorem okx_taken_pair (g : G K mg) : FnOk P w K mg base (CXN P w base) 3 g.a_taken_pair g.fd_taken_pair ["cursor"] (spx_taken_pair K g.C_Cursor g.C_NoAddress) := by
  refine g.F_taken_pair.okn sc_taken_pair (fun vs H Q E h => ?_) (fun cdv A outer s H vs Q E hr h => ?_)
  · obtain ⟨p, t, i, rfl, _⟩ := h; rfl
  · obtain ⟨p, t, i, rfl, hcur, hi, hl, h128, k1, k2⟩ := h
    refine ⟨_, (pss_cons (ps_if (pt_not (pt_val (pe_meth (pv 0) g.cl_Cursor g.me_Cursor_sees (ok_Cursor_sees g) (hr.mono (by decide)) g.b_Cursor_sees .nil pass0 (pa_cons (pe_glob (v := k_FIRST_FIGURES) rfl g.c_FIRST_FIGURES ⟨_, rfl⟩) pa_nil))))
        (pss_one (ps_raise1 raises1_cx rfl g.m_NoAddress g.y_NoAddress (ok_NoAddress___init__ g) (hr.mono (by decide)) g.b_NoAddress___init__ rfl pass0 rfl (pa_cons (pe_fld (pv 0) rfl) pa_nil))) pss_nil)
      (pss_cons (ps_set (i := 1) sc_taken_pair.nd rfl (Or.inl rfl) (pe_op (op_addK (K := K) rfl) (pe_meth0 (pv 0) g.cl_Cursor g.me_Cursor_take (ok_Cursor_take g) (hr.mono (by decide)) g.b_Cursor_take .nil pass0) (pe_slice (sl_anyK (K := K) rfl) (pe_fld (pv 0) rfl) (po_some (pe_fld (pv 0) rfl)) (po_some (pe_op (op_addK (K := K) rfl) (pe_fld (pv 0) rfl) pe_int)))))
      (pss_cons (ps_set (i := 2) sc_taken_pair.nd rfl (Or.inl rfl) (pe_call (ok_sign_of g) (hr.mono (by decide)) rfl g.m_sign_of g.F_sign_of.kp g.b_sign_of .nil pass0 (pa_cons (pv 1) pa_nil)))
      (pss_cons (ps_if (pt_cmpR op_isNU (pv 2) pe_non (nomark _))
        (pss_one (ps_raise1 raises1_cx rfl g.m_NoAddress g.y_NoAddress (ok_NoAddress___init__ g) (hr.mono (by decide)) g.b_NoAddress___init__ rfl pass0 rfl (pa_cons (pe_fld (pv 0) rfl) pa_nil))) pss_nil)
      (pss_cons (ps_expr (pe_meth0 (pv 0) g.cl_Cursor g.me_Cursor_take (ok_Cursor_take g) (hr.mono (by decide)) g.b_Cursor_take .nil pass0))
      (pss_one (ps_ret (pv 2)))))))), ?_⟩
    have eF : k_FIRST_FIGURES = .str ⟨fsF.toArray⟩ := by
      show V.str (Str.ofString "234567") = _
      rw [show Str.ofString "234567" = ⟨fsF.toArray⟩ by decide +kernel]
    walk_at "rd"
    rw [eF]
    refine cur_meth hcur ⟨p, t, _, i, rfl, hcur, hi, hl, _, rfl, ?_⟩
    cases hd : t.drop i with
    | nil =>
      have hn : t[i]? = none := by rw [← List.head?_drop, hd]; rfl
      rw [seesB_none hn, if_pos rfl]
      exact get_place hcur g.cl_Cursor g.n_Cursor_place (raise_at fun d H' sm hx => k2 0 (by rw [hd]; rfl) d H' sm.but hx)
    | cons a r =>
      obtain ⟨hia, hil⟩ := at_drop hd
      rw [seesB_some hia]
      have ha := h128 a (List.mem_of_getElem? hia)
      by_cases hf : a ∈ fsF
      · rw [decide_eq_true hf, if_neg (by decide)]
        refine cur_meth hcur ⟨p, t, i, a, rfl, hcur, hia, hl, fun H1 s1 c1 => ?_⟩
        refine get_text c1 g.cl_Cursor g.n_Cursor_text (get_place c1 g.cl_Cursor g.n_Cursor_place ⟨_, rfl, get_place c1 g.cl_Cursor g.n_Cursor_place ?_⟩)
        walk_at "rd"
        rw [show ((i + 1 : Nat) : Int) + 1 = ((i + 2 : Nat) : Int) by omega, slice_mid, show i + 2 - (i + 1) = 1 by omega, ← List.drop_drop, hd]
        cases r with
        | nil =>
          rw [show List.take 1 (List.drop 1 [a]) = [] from rfl]
          walk_at "rd"
          refine ⟨le_line hl, by decide, by decide, fun d hd' => ?_, ?_⟩
          · simp only [List.mem_cons, List.not_mem_nil, or_false] at hd'
            rw [hd']; exact ha
          rw [show signOfL [a] = V.non from rfl, if_pos rfl]
          exact get_place c1 g.cl_Cursor g.n_Cursor_place (raise_at fun d H' sm hx => k2 1 (by rw [hd]; show (if a ∈ fsF then _ else _) = _; rw [if_pos hf]) d H' (s1.trans sm.but) hx)
        | cons b r =>
          rw [show List.take 1 (List.drop 1 (a :: b :: r)) = [b] from rfl]
          have hd2 : t.drop (i + 1) = b :: r := by rw [← List.drop_drop, hd]; rfl
          obtain ⟨hib, _⟩ := at_drop hd2
          have hb := h128 b (List.mem_of_getElem? hib)
          walk_at "rd"
          refine ⟨le_line hl, by decide, by decide, fun d hd' => ?_, ?_⟩
          · simp only [List.mem_cons, List.not_mem_nil, or_false] at hd'
            rcases hd' with rfl | rfl
            · exact ha
            · exact hb
          rw [show signOfL [a, b] = signOf a b from rfl, signOf_eq]
          cases hs : sgO a b with
          | none =>
            rw [if_pos (show oV none = V.non from rfl)]
            exact get_place c1 g.cl_Cursor g.n_Cursor_place (raise_at fun d H' sm hx => k2 1 (by rw [hd]; show (if a ∈ fsF then _ else _) = _; rw [if_pos hf, hs]) d H' (s1.trans sm.but) hx)
          | some c =>
            rw [if_neg (by intro z; cases z)]
            refine cur_meth c1 ⟨p, t, i + 1, b, rfl, c1, hib, hl, fun H2 s2 c2 => k1 c 2 ?_ H2 (s1.trans s2) c2⟩
            rw [hd]
            show (if a ∈ fsF then _ else _) = _
            rw [if_pos hf, hs]
      · rw [decide_eq_false hf, if_pos rfl]
        refine get_place hcur g.cl_Cursor g.n_Cursor_place (raise_at fun d H' sm hx => k2 0 ?_ d H' sm.but hx)
        rw [hd]
        cases r with
        | nil => show (if a ∈ fsF then _ else _) = _; rw [if_neg hf]
        | cons b r => show (if a ∈ fsF then _ else _) = _; rw [if_neg hf]
theorem ok_taken_scheme (g : G K mg) : FnOk P w K mg base CX0 4 g.a_taken_scheme g.fd_taken_scheme ["cursor"] (sp_taken_scheme K g.C_Cursor) := by
  refine g.F_taken_scheme.ok sc_taken_scheme (fun vs H Q E h => ?_) (fun cdv A outer s H vs Q E hr h => ?_)
  · obtain ⟨p, t, rfl, _⟩ := h; rfl
  · obtain ⟨p, t, rfl, hcur, hl, k⟩ := h
    refine ⟨_, (pss_cons (ps_set (i := 1) sc_taken_scheme.nd rfl (Or.inl rfl) (pe_ix (ix_seqK (K := K) rfl) (pe_bmK (K := K) rfl PySem.F.plainAttrs_str PySem.F.slot_str_partition PySem.F.type_str_partition mt_partition (pe_fld (pv 0) rfl) (pa_cons pe_str pa_nil)) pe_int (fun _ _ => rfl)))
      (pss_cons (ps_if (PW.pt (pw_or (pt_cmpR op_eq (pv 1) pe_str (nomark _)) (pw_or (pt_not (pt_val (pe_call (ok_is_scheme g) (hr.mono (by decide)) rfl g.m_is_scheme g.F_is_scheme.kp g.b_is_scheme .nil pass0 (pa_cons (pv 1) pa_nil)))) (pw_or1 (pt_not (pt_val (pe_meth (pv 0) g.cl_Cursor g.me_Cursor_passes (ok_Cursor_passes g) (hr.mono (by decide)) g.b_Cursor_passes .nil pass0 (pa_cons (pe_op (op_addK (K := K) rfl) (pv 1) pe_str) pa_nil))))))))
        (pss_one (ps_ret pe_str)) pss_nil)
      (pss_one (ps_ret (pv 1))))), ?_⟩
    have e1 : Str.ofString ":" = ⟨[58].toArray⟩ := by decide +kernel
    rw [e1]
    walk_at "rd"
    refine get_text hcur g.cl_Cursor g.n_Cursor_text ⟨rfl, pt_str.mpr ⟨by decide, le_line (show t.length ≤ 100000 by omega), fun q hq => ?_⟩⟩
    rw [show (⟨#[58]⟩ : Str) = ⟨[58].toArray⟩ from rfl, part_colon]
    have sm1 := same_new (o := .tup [.str ⟨(ahead t).toArray⟩, .str (Txt.partition ⟨t.toArray⟩ ⟨[58].toArray⟩).2.1, .str (Txt.partition ⟨t.toArray⟩ ⟨[58].toArray⟩).2.2]) hq
    have hq1 : (upd H q (.tup [.str ⟨(ahead t).toArray⟩, .str (Txt.partition ⟨t.toArray⟩ ⟨[58].toArray⟩).2.1, .str (Txt.partition ⟨t.toArray⟩ ⟨[58].toArray⟩).2.2])) q = some (.tup [.str ⟨(ahead t).toArray⟩, .str (Txt.partition ⟨t.toArray⟩ ⟨[58].toArray⟩).2.1, .str (Txt.partition ⟨t.toArray⟩ ⟨[58].toArray⟩).2.2]) := upd_same
    generalize upd H q (.tup [.str ⟨(ahead t).toArray⟩, .str (Txt.partition ⟨t.toArray⟩ ⟨[58].toArray⟩).2.1, .str (Txt.partition ⟨t.toArray⟩ ⟨[58].toArray⟩).2.2]) = H1 at sm1 hq1 ⊢
    have c1 := hcur.same sm1
    have hal := ahead_len t
    walk_at "rd"
    refine ⟨_, _, .inr (.of hq1), rfl, ?_⟩
    rw [L2.rd_eqSS]
    refine ⟨_, rfl, ?_⟩
    by_cases h1 : ahead t = []
    · rw [decide_eq_true (by rw [h1]), if_pos rfl]
      obtain ⟨z1, z2⟩ := schM_no (t := t) (fun z => z.1 h1)
      have := k H1 sm1.but (by rw [z2]; exact c1)
      rw [z1] at this
      exact this
    rw [decide_eq_false (fun z => h1 (mk_nil.mp z)), if_neg (by decide)]
    refine ⟨.str ⟨(ahead t).toArray⟩, _, rfl, .str _, by simp [smallD, Str.length]; omega, fun H2 s2 => ⟨_, rfl, ?_⟩⟩
    have c2 := c1.same s2
    have sm2 := sm1.trans s2
    cases h2 : schD (.str ⟨(ahead t).toArray⟩) with
    | false =>
      rw [if_pos rfl]
      obtain ⟨z1, z2⟩ := schM_no (t := t) (fun z => by rw [h2] at z; cases z.2.1)
      have := k H2 sm2.but (by rw [z2]; exact c2)
      rw [z1] at this
      exact this
    | true =>
      rw [if_neg (by decide)]
      refine cur_meth c2 ?_
      rw [show (⟨#[58]⟩ : Str) = ⟨[58].toArray⟩ from rfl]
      walk_at "rd"
      refine ⟨le_line (by simp; omega), ?_⟩
      by_cases h3 : t[(ahead t).length]? = some 58
      · obtain ⟨z1, z2⟩ := schM_yes h1 h2 h3
        have ht := (ahead_take t).mpr h3
        refine pass_yes (w := ahead t ++ [58]) (r := t.drop (ahead t ++ [58]).length) c2 (Nat.zero_le _) (by omega) ?_ fun H3 s3 c3 _ _ => ⟨_, rfl, ?_⟩
        · rw [List.drop_zero]
          conv => lhs; rw [← List.take_append_drop (ahead t ++ [58]).length t, ht]
        rw [if_neg (by decide)]
        have := k H3 (sm2.but.trans s3) (by rw [z2]; rw [Nat.zero_add] at c3; exact c3)
        rw [z1] at this
        exact this
      · obtain ⟨z1, z2⟩ := schM_no (t := t) (fun z => h3 z.2.2)
        refine pass_no (w := ahead t ++ [58]) c2 (Nat.zero_le _) (by omega) (by rw [List.drop_zero]; exact fun z => h3 ((ahead_take t).mp z)) ⟨_, rfl, ?_⟩
        rw [if_pos rfl]
        have := k H2 sm2.but (by rw [z2]; exact c2)
        rw [z1] at this
        exact this
theorem okx_taken_text (g : G K mg) : FnOk P w K mg base (CXN P w base) 4 g.a_taken_text g.fd_taken_text ["cursor", "free", "most"] (spx_taken_text K g.C_Cursor g.C_NoAddress) := by
  refine g.F_taken_text.okn sc_taken_text (fun vs H Q E h => ?_) (fun cdv A outer s H vs Q E hr h => ?_)
  · obtain ⟨p, t, fr, i, mo, rfl, _⟩ := h; rfl
  · obtain ⟨p, t, fr, i, mo, rfl, hcur, hi, hl, h128, hfl, k1, k2⟩ := h
    refine ⟨_, (pss_cons (ps_set (i := 3) sc_taken_text.nd rfl (Or.inl rfl) (pe_lst pa_nil))
      (pss_cons (ps_set (i := 4) sc_taken_text.nd rfl (Or.inl rfl) (pe_op (op_addK (K := K) rfl) (pe_op (op_addK (K := K) rfl) (pe_glob (v := k_PLAIN) rfl g.c_PLAIN ⟨_, rfl⟩) (pv 1)) pe_str))
      (pss_cons (ps_while PassesOwn.leaving (PW.pt (pw_and (PW.pt (pw_or (pt_cmpR op_isNU (pv 2) pe_non (nomark _)) (pw_or1 (pt_cmpR op_lt (pe_callB (call_lenK (K := K) rfl) rfl g.b_len PySem.boot_len (pa_cons (pv 3) pa_nil)) (pv 2) (nomark _))))) (pw_and1 (pt_val (pe_meth (pv 0) g.cl_Cursor g.me_Cursor_sees (ok_Cursor_sees g) (hr.mono (by decide)) g.b_Cursor_sees .nil pass0 (pa_cons (pv 4) pa_nil))))))
      (pss_one (ps_expr (pe_bmK (K := K) rfl PySem.F.plainAttrs_list PySem.F.slot_list_append PySem.F.type_list_append mt_append (pv 3) (pa_cons (pe_ifExp (pt_val (pe_meth (pv 0) g.cl_Cursor g.me_Cursor_passes (ok_Cursor_passes g) (hr.mono (by decide)) g.b_Cursor_passes .nil pass0 (pa_cons pe_str pa_nil))) (pe_call (okx_taken_pair g) (hr.mono (by decide)) rfl g.m_taken_pair g.F_taken_pair.kp g.b_taken_pair .nil passes_cxN (pa_cons (pv 0) pa_nil)) (pe_meth0 (pv 0) g.cl_Cursor g.me_Cursor_take (ok_Cursor_take g) (hr.mono (by decide)) g.b_Cursor_take .nil pass0)) pa_nil)))))
      (pss_one (ps_ret (pe_bmK (K := K) rfl PySem.F.plainAttrs_str PySem.F.slot_str_join PySem.F.type_str_join (mt_joinK (K := K) rfl) pe_str (pa_cons (pv 3) pa_nil))))))), ?_⟩
    have eP : k_PLAIN = .str ⟨plS.toArray⟩ := by
      show V.str (Str.ofString _) = _
      unfold plS; simp
    rw [eP]
    walk_at "rd"
    refine ⟨by decide, fun q hq => ⟨le_line (by rw [plS_len]; omega), le_line (by rw [List.length_append, plS_len]; omega), ?_⟩⟩
    have hqp : q ≠ p := by obtain ⟨dx, hp⟩ := hcur; exact (ne_of_none hp hq).symm
    refine while_W (fun m σ H' => ∃ (dn : List Nat) (n : Nat) (mo' : Option Nat), m = t.length - (i + n) ∧ i + n ≤ t.length ∧ dn.length ≤ n ∧ mo' = mo.map (fun z => z - dn.length) ∧ Capd mo dn.length ∧ σ = [some (.ref p), some (.str ⟨fr.toArray⟩), some (moV mo), some (.ref q), some (.str ⟨(plS ++ fr ++ [126]).toArray⟩)] ∧ H' q = some (.lst (dn.map one)) ∧ SameBut p H H' ∧ Cur H' g.C_Cursor p t (i + n) ∧ Via (txtM fr (t.drop i) mo) n (fun l => dn ++ l) (txtM fr (t.drop (i + n)) mo')) (t.length - i) ⟨[], 0, mo, rfl, hi, Nat.le_refl _, by cases mo <;> rfl, fun z _ => Nat.zero_le _, rfl, upd_same, (same_new hq).but, ?_, Via.refl⟩ ?_
    · obtain ⟨dx, hp⟩ := hcur
      exact ⟨dx, by rw [upd_ne hqp.symm]; exact hp⟩
    rintro m σ H' ⟨dn, n, mo', rfl, hin, hdn, emo, hmo, rfl, hq', sb, cur, via⟩
    have hlen : (dn.map one).length < sizeLine := by
      rw [List.length_map]
      exact Nat.lt_of_le_of_lt (show dn.length ≤ 100000 by omega) (by decide)
    have fin : txtM fr (t.drop (i + n)) mo' = .ok ([], 0) → ∃ ys : List Str, SqL K H' q (ys.map V.str) ∧ (ys.map fun x => x.length).sum + ys.length * 0 ≤ 16777216 ∧ Q (V.str (Txt.join ⟨#[]⟩ ys)) H' := fun e => by
      have e2 := via.ok e
      rw [List.append_nil, Nat.add_zero] at e2
      refine ⟨dn.map fun c => ⟨[c].toArray⟩, SqL.of (by rw [hq', List.map_map]; rfl), ?_, ?_⟩
      · rw [sum_codes]
        simp only [List.length_map, Nat.mul_zero, Nat.add_zero]
        omega
      · rw [show (⟨#[]⟩ : Str) = ⟨([] : List Nat).toArray⟩ from rfl, join_one, flat_codes]
        exact k1 dn n e2 H' sb cur
    have decE : ∀ c : Nat, dec mo' = mo.map (fun z => z - (dn ++ [c]).length) := fun c => by
      rw [emo]
      cases mo with
      | none => rfl
      | some z => show some (z - dn.length - 1) = some _; rw [List.length_append, List.length_singleton, Nat.sub_sub]
    have decL : mo' ≠ some 0 → ∀ c : Nat, Capd mo (dn ++ [c]).length := fun h0 c z e => by
      have := hmo z e
      subst e
      rw [List.length_append, List.length_singleton]
      have : z - dn.length ≠ 0 := fun w => h0 (by rw [emo]; show some (z - dn.length) = _; rw [w])
      omega
    cases mo
    case' none =>
      walk_at "rd"
      rw [if_pos (show moV none = V.non from rfl)]
      have h0 : mo' ≠ some 0 := by rw [emo]; intro z; cases z
    case' some mm =>
      walk_at "rd"
      rw [if_neg (by intro z; cases z)]
      refine ⟨_, .inl (.of hq'), ?_⟩
      show rI0 (fun i j => V.bl (decide (i < j))) (V.int _) (V.int (mm : Int)) H' _
      walk_at "rd"
      refine ite2 (fun hlt0 => ?_) (fun hge => fin (by
        rw [List.length_map] at hge
        have e0 : mo' = some 0 := by rw [emo]; show some (mm - dn.length) = some 0; congr 1; omega
        rw [e0]; exact txt_full))
      rw [List.length_map] at hlt0
      have h0 : mo' ≠ some 0 := by
        rw [emo]
        intro z
        have z : some (mm - dn.length) = some 0 := z
        have := Option.some.inj z
        omega
    all_goals
      refine cur_meth cur ⟨p, t, _, i + n, rfl, cur, hin, hl, _, rfl, ?_⟩
      cases hd : t.drop (i + n) with
      | nil =>
        have hn : t[i + n]? = none := by rw [← List.head?_drop, hd]; rfl
        rw [seesB_none hn, if_neg (by decide)]
        exact fin (by rw [hd]; exact txt_nil)
      | cons c r =>
        obtain ⟨hx, hlt⟩ := at_drop hd
        have hc := h128 c (List.mem_of_getElem? hx)
        rw [seesB_some hx]
        by_cases hin2 : c ∈ plS ++ fr ++ [126]
        · rw [decide_eq_true hin2, if_pos rfl]
          by_cases h126 : c = 126
          · subst h126
            have hd3 : t.drop (i + n + 1) = r := by rw [← List.drop_drop, hd]; rfl
            refine ⟨_, fun _ _ h => h, ⟨_, .of hq'⟩, cur_meth cur ⟨p, t, [126], i + n, rfl, cur, hin, hl, fun _ H1 s1 c1 => ⟨_, rfl, ?_⟩, fun hp1 => absurd (by rw [hd]; rfl) hp1⟩⟩
            rw [if_pos rfl]
            refine ⟨p, t, i + n + 1, rfl, c1, by omega, hl, h128, fun c m e H2 s2 c2 => ?_, fun m e d H2 s2 hx => ?_⟩
            · rw [hd3] at e
              obtain ⟨a, b, r2, rfl, hs, rfl, _⟩ := prM_ok e
              have hl2 : i + n + 3 ≤ t.length := by have := congrArg List.length hd; rw [List.length_drop] at this; simp only [List.length_cons] at this; omega
              refine ⟨_, (s1.trans s2) _ _ hqp hq', hlen, t.length - (i + (n + 3)), by omega, dn ++ [c], n + 3, dec mo', rfl, by omega, by rw [List.length_append, List.length_singleton]; omega, decE c, decL h0 c, rfl, ?_, ?_, ?_, ?_⟩
              · rw [upd_same, List.map_append]; rfl
              · exact ((sb.trans s1).trans s2).upd hq
              · obtain ⟨dx, hpp⟩ := c2
                exact ⟨dx, by rw [upd_ne hqp.symm]; exact hpp⟩
              · have hd4 : t.drop (i + (n + 3)) = r2 := by rw [show i + (n + 3) = i + n + 3 by omega, ← List.drop_drop, hd]; rfl
                have := via.step (a := 3) (g := fun l => c :: l) (r' := txtM fr r2 (dec mo')) (by rw [hd, txt_tilde h0, e]; exact pre_eq)
                rw [hd4]
                simpa using this
            · rw [hd3] at e
              refine k2 (n + (m + 1)) (via.err ?_) d H2 ((sb.trans s1).trans s2) (by rw [hx, show i + n + 1 + m = i + (n + (m + 1)) by omega])
              rw [hd, txt_tilde h0, e]
          · have hpl : isPl c = true ∨ c ∈ fr := by
              rcases List.mem_append.mp hin2 with z | z
              · exact (List.mem_append.mp z).imp (plS_in hc).mp id
              · exact absurd (List.mem_singleton.mp z) h126
            refine ⟨_, fun _ _ h => h, ⟨_, .of hq'⟩, cur_meth cur ⟨p, t, [126], i + n, rfl, cur, hin, hl, fun hp1 => ?_, fun _ => ⟨_, rfl, ?_⟩⟩⟩
            · rw [hd] at hp1
              exact absurd (List.cons.inj hp1).1 h126
            rw [if_neg (by decide)]
            refine cur_meth cur ⟨p, t, i + n, c, rfl, cur, hx, hl, fun H1 s1 c1 => ⟨_, s1 _ _ hqp hq', hlen, t.length - (i + (n + 1)), by omega, dn ++ [c], n + 1, dec mo', rfl, by omega, by rw [List.length_append, List.length_singleton]; omega, decE c, decL h0 c, rfl, ?_, ?_, ?_, ?_⟩⟩
            · rw [upd_same, List.map_append]; rfl
            · exact (sb.trans s1).upd hq
            · obtain ⟨dx, hpp⟩ := c1
              exact ⟨dx, by rw [upd_ne hqp.symm]; exact hpp⟩
            · have hd4 : t.drop (i + (n + 1)) = r := by rw [← Nat.add_assoc, ← List.drop_drop, hd]; rfl
              have := via.step (a := 1) (g := fun l => c :: l) (r' := txtM fr r (dec mo')) (by rw [hd, txt_self h0 h126 hpl]; exact pre_eq)
              rw [hd4]
              simpa using this
        · rw [decide_eq_false hin2, if_neg (by decide)]
          refine fin (txt_stop ?_)
          rw [hd]
          refine stops_cons ⟨?_, fun z => hin2 (List.mem_append.mpr (.inl (List.mem_append.mpr (.inr z)))), fun z => hin2 (List.mem_append.mpr (.inr (List.mem_singleton.mpr z)))⟩
          cases hi2 : isPl c with
          | false => rfl
          | true => exact absurd (List.mem_append.mpr (.inl (List.mem_append.mpr (.inl ((plS_in hc).mpr hi2))))) hin2
theorem okx_taken_way (g : G K mg) : FnOk P w K mg base (CXN P w base) 5 g.a_taken_way g.fd_taken_way ["cursor", "must_be_rooted"] (spx_taken_way K g.C_Cursor g.C_NoAddress) := by
  refine g.F_taken_way.okn sc_taken_way (fun vs H Q E h => ?_) (fun cdv A outer s H vs Q E hr h => ?_)
  · obtain ⟨p, t, i, must, rfl, _⟩ := h; rfl
  · obtain ⟨p, t, i, must, rfl, hcur, hi, hl, h128, k1, k2⟩ := h
    refine ⟨_, (pss_cut (ps_set (i := 2) sc_taken_way.nd rfl (Or.inl rfl) (pe_meth (pv 0) g.cl_Cursor g.me_Cursor_passes (ok_Cursor_passes g) (hr.mono (by decide)) g.b_Cursor_passes .nil pass0 (pa_cons pe_str pa_nil)))
      (pss_cut (ps_if (PW.pt (pw_and (pt_val (pv 1)) (pw_and1 (pt_not (pt_val (pv 2))))))
        (pss_one (ps_ret (pe_tupS (pa_cons pe_bl (pa_cons (pe_tupS pa_nil) (pa_cons pe_bl pa_nil)))))) pss_nil)
      (pss_cons (ps_set (i := 3) sc_taken_way.nd rfl (Or.inl rfl) (pe_lstS pa_nil))
      (pss_cons (ps_set (i := 4) sc_taken_way.nd rfl (Or.inl rfl) (pv 2))
      (pss_cut (ps_set (i := 5) sc_taken_way.nd rfl (Or.inl rfl) (pe_call (dvs := [.non]) (okx_taken_text g) (hr.mono (by decide)) rfl g.m_taken_text g.F_taken_text.kp g.bd_taken_text (.cons rfl .nil) passes_cxN (pa_cons (pv 0) (pa_cons (pe_glob (v := k_FREE_IN_STEPS) rfl g.c_FREE_IN_STEPS ⟨_, rfl⟩) pa_nil))))
      (pss_cons (ps_while PassesOwn.leaving (pt_cmpR op_ne (pv 5) pe_str (nomark _))
      (pss_cons (ps_expr (pe_bmK (K := K) rfl PySem.F.plainAttrs_list PySem.F.slot_list_append PySem.F.type_list_append mt_append (pv 3) (pa_cons (pv 5) pa_nil)))
      (pss_cons (ps_set (i := 4) sc_taken_way.nd rfl (Or.inl rfl) (pe_meth (pv 0) g.cl_Cursor g.me_Cursor_passes (ok_Cursor_passes g) (hr.mono (by decide)) g.b_Cursor_passes .nil pass0 (pa_cons pe_str pa_nil)))
      (pss_one (ps_set (i := 5) sc_taken_way.nd rfl (Or.inl rfl) (pe_call (dvs := [.non]) (okx_taken_text g) (hr.mono (by decide)) rfl g.m_taken_text g.F_taken_text.kp g.bd_taken_text (.cons rfl .nil) passes_cxN (pa_cons (pv 0) (pa_cons (pe_glob (v := k_FREE_IN_STEPS) rfl g.c_FREE_IN_STEPS ⟨_, rfl⟩) pa_nil))))))))
      (pss_one (ps_ret (pe_tupS (pa_cons (pv 2) (pa_cons (pe_callTy (call_tupleS (K := K) rfl) rfl g.b_tuple bt_tuple (pa_cons (pv 3) pa_nil)) (pa_cons (pv 4) pa_nil)))))))))))), ?_⟩
    have eF : k_FREE_IN_STEPS = .str ⟨frS.toArray⟩ := by
      show V.str (Str.ofString _) = _
      unfold frS; simp
    have e1 : Str.ofString "/" = ⟨[47].toArray⟩ := by decide +kernel
    rw [eF, e1]
    walk_at "rd"
    refine ⟨fun σ H1 => SameBut p H H1 ∧ ∃ (j : Nat) (r : Bool), σ = [some (.ref p), some (.bl must), some (.bl r), none, none, none] ∧ Cur H1 g.C_Cursor p t j ∧ j ≤ t.length ∧ ((r = true ∧ (t.drop i).head? = some 47 ∧ j = i + 1) ∨ (r = false ∧ ¬ (t.drop i).head? = some 47 ∧ j = i)), ?_, ?_⟩
    · refine cur_meth hcur ⟨p, t, [47], i, rfl, hcur, hi, hl, fun hp H1 s1 c1 => ⟨s1, i + 1, true, rfl, c1, ?_, .inl ⟨rfl, take1.mp hp, rfl⟩⟩, fun hp => ⟨SameBut.refl _ _, i, false, rfl, hcur, hi, .inr ⟨rfl, fun z => hp (take1.mpr z), rfl⟩⟩⟩
      have := congrArg List.length hp
      rw [List.length_take, List.length_drop] at this
      simp only [List.length_singleton] at this
      omega
    rintro σ H1 ⟨s1, j, r, rfl, c1, hj, hr⟩
    walk_at "rd"
    refine ⟨fun σ H2 => H2 = H1 ∧ ¬ (must = true ∧ r = false) ∧ σ = [some (.ref p), some (.bl must), some (.bl r), none, none, none], ?_, ?_⟩
    · have fin : must = true → r = false → (∀ u H', SameBut p H H' → Cur H' g.C_Cursor p t j → IsT H' (wayOf (true, [], true)) u → Q u H') := fun hm h0 u H' sb cu hu => by
        rcases hr with ⟨z, _⟩ | ⟨_, hh, rfl⟩
        · rw [h0] at z; cases z
        · exact k1 (true, [], true) 0 (by unfold wayM; rw [if_neg hh, if_pos hm]) H' sb cu u hu
      cases must with
      | true =>
        rw [if_pos rfl]
        cases r with
        | true => exact ⟨rfl, by simp, rfl⟩
        | false =>
          rw [if_pos rfl]
          exact ⟨by decide, fun pt Ha n1 sa hpt => ⟨by decide, fun pw Hb nb sb' hpw => fin rfl rfl _ Hb ((s1.trans sa.but).trans sb'.but) ((c1.same sa).same sb') (wayT' (ss := []) hpw (sb' _ _ hpt))⟩⟩
      | false =>
        rw [if_neg (by decide)]
        exact ⟨rfl, by simp, rfl⟩
    rintro σ H2 ⟨rfl, hmr, rfl⟩
    walk_at "rd"
    obtain ⟨tot, htot⟩ : ∃ tot, tot = stpF ((t.drop i).length + 1) (t.drop j) r := ⟨_, rfl⟩
    have ew : wayM must (t.drop i) = sh (j - i) (mp (fun x => (r, x)) tot) := by
      unfold wayM
      rcases hr with ⟨rfl, hh, rfl⟩ | ⟨rfl, hh, rfl⟩
      · rw [if_pos hh, htot, show i + 1 - i = 1 by omega, List.drop_drop]
      · rw [if_neg hh, if_neg (fun z => hmr ⟨z, rfl⟩), htot, Nat.sub_self, sh_0]
    have hij : i ≤ j := by rcases hr with ⟨_, _, rfl⟩ | ⟨_, _, rfl⟩ <;> omega
    have hk1 : ∀ x n, tot = .ok (x, n) → ∀ u H', SameBut p H H' → Cur H' g.C_Cursor p t (j + n) → IsT H' (wayOf (r, x)) u → Q u H' := fun x n e u H' sb cu hu =>
      k1 (r, x) (j - i + n) (by rw [ew, e]; rfl) H' sb (by rw [show i + (j - i + n) = j + n by omega]; exact cu) u hu
    have hk2 : ∀ n, tot = .error n → ∀ d H', SameBut p H H' → H' d = some (.xd [("at", .int ((j + n : Nat) : Int))]) → E (.ref g.C_NoAddress) (some d) H' := fun n e d H' sb hx =>
      k2 (j - i + n) (by rw [ew, e]; rfl) d H' sb (by rw [hx, show i + (j - i + n) = j + n by omega])
    refine ⟨by decide, fun q H3 hq s3 hq3 => ?_⟩
    have hqp : q ≠ p := by obtain ⟨dx, hp⟩ := c1; exact (ne_of_none hp hq).symm
    have c3 := c1.same s3
    have sb3 : SameBut p H H3 := s1.trans s3.but
    have hqH : H q = none := s1.free hq hqp
    obtain ⟨W, hW⟩ : ∃ W : Nat → St → Hp → Prop, W = fun m σ H' => ∃ (dn : List (List Nat)) (s : List Nat) (b n : Nat) (en : Bool), σ = [some (.ref p), some (.bl must), some (.bl r), some (.ref q), some (.bl en), some (.str ⟨s.toArray⟩)] ∧ txtM frS (t.drop (j + b)) none = .ok (s, n) ∧ j + b + n ≤ t.length ∧ dn.length ≤ b ∧ (t.drop (j + b)).length ≤ m ∧ Via tot b (fun x => (dn ++ x.1, x.2)) (stpF (m + 1) (t.drop (j + b)) en) ∧ H' q = some (.lst (dn.map sV)) ∧ SameBut p H H' ∧ Cur H' g.C_Cursor p t (j + b + n) := ⟨_, rfl⟩
    have txn : ∀ {b n : Nat} {s : List Nat}, j + b ≤ t.length → txtM frS (t.drop (j + b)) none = .ok (s, n) → j + b + n ≤ t.length := fun {b n s} hb e => by
      have := (txt_le e).1
      rw [List.length_drop] at this
      omega
    refine ⟨fun σ H4 => ∃ m, W m σ H4, ?_, ?_⟩
    · refine ⟨p, t, frS, j, none, rfl, c3, hj, hl, h128, frS_len, fun s n e H4 s4 c4 => ⟨(t.drop i).length, ?_⟩, fun n e d H4 s4 hx => hk2 n ?_ d H4 (sb3.trans s4) hx⟩
      · rw [hW]
        refine ⟨[], s, 0, n, r, rfl, e, txn hj e, Nat.le_refl _, by simp only [List.length_drop]; omega, ?_, s4 _ _ hqp hq3, sb3.trans s4, c4⟩
        show Via tot 0 (fun x => x) _
        rw [htot]
        exact Via.refl
      · rw [htot]
        unfold stpF
        rw [e]
    rintro σ H4 ⟨m, hm⟩
    unfold L2.Later
    rw [L2.rd_seq]
    refine while_W W m hm ?_
    rintro m σ H5 hm
    rw [hW] at hm
    obtain ⟨dn, s, b, n, en, rfl, etx, hbn, hdn, hfu, via, hq5, sb5, c5⟩ := hm
    walk_at "rd"
    by_cases hs : s = []
    · refine ite2 (fun z => absurd (mk_nil.mpr hs) z) (fun _ => ?_)
      have e2 : stpF (m + 1) (t.drop (j + b)) en = .ok (([], en), n) := by
        conv => lhs; unfold stpF
        rw [etx]; exact if_pos hs
      have e3 := via.ok e2
      exact ⟨_, .inl (.of hq5), fun pt Ha sa hpt => ⟨by decide, fun pw Hb nb sb' hpw => hk1 _ _ e3 _ Hb ((sb5.trans sa.but).trans sb'.but) (by rw [← Nat.add_assoc]; exact (c5.same sa).same sb') (by rw [List.append_nil]; exact wayT' hpw (sb' _ _ hpt))⟩⟩
    · have hpos := (txt_le etx).2.2 hs
      have hm0 : ∃ m', m = m' + 1 := by
        refine ⟨m - 1, ?_⟩
        rw [List.length_drop] at hfu
        omega
      obtain ⟨m', rfl⟩ := hm0
      refine ite2 (fun _ => ⟨_, fun _ _ h => h, ⟨_, .of hq5⟩, _, hq5, ?_, ?_⟩) (fun z => absurd (mk_nil.mp (Classical.not_not.mp z)) hs)
      · rw [List.length_map]
        exact Nat.lt_of_le_of_lt (show dn.length ≤ 100000 by omega) (by decide)
      have c6 : Cur (upd H5 q (.lst (dn.map sV ++ [sV s]))) g.C_Cursor p t (j + b + n) := by
        obtain ⟨dx, hp⟩ := c5
        exact ⟨dx, by rw [upd_ne hqp.symm]; exact hp⟩
      have sb6 : SameBut p H (upd H5 q (.lst (dn.map sV ++ [sV s]))) := sb5.upd hqH
      have hq6 : (upd H5 q (.lst (dn.map sV ++ [sV s]))) q = some (.lst ((dn ++ [s]).map sV)) := by rw [upd_same, List.map_append]; rfl
      generalize upd H5 q (.lst (dn.map sV ++ [sV s])) = H6 at c6 sb6 hq6 ⊢
      have hdd : (t.drop (j + b)).drop n = t.drop (j + b + n) := List.drop_drop
      refine cur_meth c6 ⟨p, t, [47], j + b + n, rfl, c6, hbn, hl, fun hp H7 s7 c7 => ?_, fun hp => ?_⟩
      · have hh : ((t.drop (j + b)).drop n).head? = some 47 := by rw [hdd]; exact take1.mp hp
        have e2 : stpF (m' + 1 + 1) (t.drop (j + b)) en = sh (n + 1) (mp (fun x => (s :: x.1, x.2)) (stpF (m' + 1) (t.drop (j + (b + (n + 1)))) true)) := by
          conv => lhs; unfold stpF
          rw [etx]
          show (if s = [] then _ else _) = _
          rw [if_neg hs, if_pos hh, List.drop_drop, Nat.add_assoc j b (n + 1)]
        have via2 := via.step e2
        have hb7 : j + (b + (n + 1)) ≤ t.length := by
          have := congrArg List.length hp
          rw [List.length_take, List.length_drop] at this
          simp only [List.length_singleton] at this
          omega
        refine ⟨p, t, frS, j + (b + (n + 1)), none, rfl, by rw [show j + (b + (n + 1)) = j + b + n + 1 by omega]; exact c7, hb7, hl, h128, frS_len, fun s' n' e' H8 s8 c8 => ⟨m', by omega, ?_⟩, fun n' e' d H8 s8 hx => hk2 (b + (n + 1) + n') (via2.err (by unfold stpF; rw [e'])) d H8 ((sb6.trans s7).trans s8) (by rw [hx, show j + (b + (n + 1)) + n' = j + (b + (n + 1) + n') by omega])⟩
        rw [hW]
        refine ⟨dn ++ [s], s', b + (n + 1), n', true, rfl, e', txn hb7 e', by rw [List.length_append, List.length_singleton]; omega, by rw [List.length_drop] at hfu ⊢; omega, ?_, (s7.trans s8) _ _ hqp hq6, (sb6.trans s7).trans s8, c8⟩
        simpa using via2
      · have hh : ¬ ((t.drop (j + b)).drop n).head? = some 47 := by rw [hdd]; exact fun z => hp (take1.mpr z)
        have e2 : stpF (m' + 1 + 1) (t.drop (j + b)) en = sh n (mp (fun x => (s :: x.1, x.2)) (stpF (m' + 1) (t.drop (j + (b + n))) false)) := by
          conv => lhs; unfold stpF
          rw [etx]
          show (if s = [] then _ else _) = _
          rw [if_neg hs, if_neg hh, List.drop_drop, Nat.add_assoc j b n]
        have via2 := via.step e2
        have hb7 : j + (b + n) ≤ t.length := by omega
        refine ⟨p, t, frS, j + (b + n), none, rfl, by rw [← Nat.add_assoc]; exact c6, hb7, hl, h128, frS_len, fun s' n' e' H8 s8 c8 => ⟨m', by omega, ?_⟩, fun n' e' d H8 s8 hx => hk2 (b + n + n') (via2.err (by unfold stpF; rw [e'])) d H8 (sb6.trans s8) (by rw [hx, show j + (b + n) + n' = j + (b + n + n') by omega])⟩
        rw [hW]
        refine ⟨dn ++ [s], s', b + n, n', false, rfl, e', txn hb7 e', by rw [List.length_append, List.length_singleton]; omega, by rw [List.length_drop] at hfu ⊢; omega, ?_, s8 _ _ hqp hq6, sb6.trans s8, c8⟩
        simpa using via2
theorem okx_taken_value (g : G K mg) : FnOk P w K mg base (CXN P w base) 5 g.a_taken_value g.fd_taken_value ["cursor"] (spx_taken_value K g.C_Cursor g.C_NoAddress) := by
  refine g.F_taken_value.okn sc_taken_value (fun vs H Q E h => ?_) (fun cdv A outer s H vs Q E hr h => ?_)
  · obtain ⟨p, t, i, rfl, _⟩ := h; rfl
  · obtain ⟨p, t, i, rfl, hcur, hi, hl, h128, k1, k2⟩ := h
    refine ⟨_, (pss_one (ps_ret (pe_ifExp (pt_val (pe_meth (pv 0) g.cl_Cursor g.me_Cursor_passes (ok_Cursor_passes g) (hr.mono (by decide)) g.b_Cursor_passes .nil pass0 (pa_cons pe_str pa_nil))) (pe_call (dvs := [.non]) (okx_taken_text g) (hr.mono (by decide)) rfl g.m_taken_text g.F_taken_text.kp g.bd_taken_text (.cons rfl .nil) passes_cxN (pa_cons (pv 0) (pa_cons (pe_glob (v := k_FREE_IN_QUESTIONS) rfl g.c_FREE_IN_QUESTIONS ⟨_, rfl⟩) pa_nil))) pe_non))), ?_⟩
    have eF : k_FREE_IN_QUESTIONS = .str ⟨frQ.toArray⟩ := by
      show V.str (Str.ofString _) = _
      unfold frQ; simp
    have e1 : Str.ofString "=" = ⟨[61].toArray⟩ := by decide +kernel
    rw [eF, e1]
    walk_at "rd"
    refine cur_meth hcur ⟨p, t, [61], i, rfl, hcur, hi, hl, fun hp H1 s1 c1 => ⟨_, rfl, ?_⟩, fun hp => ⟨_, rfl, ?_⟩⟩
    · rw [if_pos rfl]
      have h1 := take1.mp hp
      have hi1 : i + 1 ≤ t.length := by
        have := congrArg List.length hp
        rw [List.length_take, List.length_drop] at this
        simp only [List.length_singleton] at this
        omega
      have em : valM (t.drop i) = sh 1 (mp some (txtM frQ (t.drop (i + 1)) none)) := by unfold valM; rw [if_pos h1, List.drop_drop]
      refine ⟨p, t, frQ, i + 1, none, rfl, c1, hi1, hl, h128, frQ_len, fun s n e H2 s2 c2 => k1 (some s) (1 + n) (by rw [em, e]; rfl) H2 (s1.trans s2) (by rw [← Nat.add_assoc]; exact c2), fun n e d H2 s2 hx => k2 (1 + n) (by rw [em, e]; rfl) d H2 (s1.trans s2) (by rw [hx, Nat.add_assoc])⟩
    · rw [if_neg (by decide)]
      exact k1 none 0 (by unfold valM; rw [if_neg (fun z => hp (take1.mpr z))]) H (SameBut.refl _ _) hcur
theorem okx_taken_mark (g : G K mg) : FnOk P w K mg base (CXN P w base) 5 g.a_taken_mark g.fd_taken_mark ["cursor"] (spx_taken_mark K g.C_Cursor g.C_NoAddress) := by
  refine g.F_taken_mark.okn sc_taken_mark (fun vs H Q E h => ?_) (fun cdv A outer s H vs Q E hr h => ?_)
  · obtain ⟨p, t, i, rfl, _⟩ := h; rfl
  · obtain ⟨p, t, i, rfl, hcur, hi, hl, h128, k1, k2⟩ := h
    refine ⟨_, (pss_one (ps_ret (pe_ifExp (pt_val (pe_meth (pv 0) g.cl_Cursor g.me_Cursor_passes (ok_Cursor_passes g) (hr.mono (by decide)) g.b_Cursor_passes .nil pass0 (pa_cons pe_str pa_nil))) (pe_call (dvs := [.non]) (okx_taken_text g) (hr.mono (by decide)) rfl g.m_taken_text g.F_taken_text.kp g.bd_taken_text (.cons rfl .nil) passes_cxN (pa_cons (pv 0) (pa_cons (pe_glob (v := k_FREE_IN_MARKS) rfl g.c_FREE_IN_MARKS ⟨_, rfl⟩) pa_nil))) pe_non))), ?_⟩
    have eF : k_FREE_IN_MARKS = .str ⟨frM.toArray⟩ := by
      show V.str (Str.ofString _) = _
      unfold frM; simp
    have e1 : Str.ofString "#" = ⟨[35].toArray⟩ := by decide +kernel
    rw [eF, e1]
    walk_at "rd"
    refine cur_meth hcur ⟨p, t, [35], i, rfl, hcur, hi, hl, fun hp H1 s1 c1 => ⟨_, rfl, ?_⟩, fun hp => ⟨_, rfl, ?_⟩⟩
    · rw [if_pos rfl]
      have h1 := take1.mp hp
      have hi1 : i + 1 ≤ t.length := by
        have := congrArg List.length hp
        rw [List.length_take, List.length_drop] at this
        simp only [List.length_singleton] at this
        omega
      have em : marM (t.drop i) = sh 1 (mp some (txtM frM (t.drop (i + 1)) none)) := by unfold marM; rw [if_pos h1, List.drop_drop]
      refine ⟨p, t, frM, i + 1, none, rfl, c1, hi1, hl, h128, frM_len, fun s n e H2 s2 c2 => k1 (some s) (1 + n) (by rw [em, e]; rfl) H2 (s1.trans s2) (by rw [← Nat.add_assoc]; exact c2), fun n e d H2 s2 hx => k2 (1 + n) (by rw [em, e]; rfl) d H2 (s1.trans s2) (by rw [hx, Nat.add_assoc])⟩
    · rw [if_neg (by decide)]
      exact k1 none 0 (by unfold marM; rw [if_neg (fun z => hp (take1.mpr z))]) H (SameBut.refl _ _) hcur
theorem okx_taken_filled_text (g : G K mg) : FnOk P w K mg base (CXN P w base) 5 g.a_taken_filled_text g.fd_taken_filled_text ["cursor", "free", "most"] (spx_taken_filled_text K g.C_Cursor g.C_NoAddress) := by
  refine g.F_taken_filled_text.okn sc_taken_filled_text (fun vs H Q E h => ?_) (fun cdv A outer s H vs Q E hr h => ?_)
  · obtain ⟨p, t, fr, i, mo, rfl, _⟩ := h; rfl
  · obtain ⟨p, t, fr, i, mo, rfl, hcur, hi, hl, h128, hfl, k1, k2⟩ := h
    refine ⟨_, (pss_cons (ps_set (i := 3) sc_taken_filled_text.nd rfl (Or.inl rfl) (pe_call (okx_taken_text g) (hr.mono (by decide)) rfl g.m_taken_text g.F_taken_text.kp g.b_taken_text .nil passes_cxN (pa_cons (pv 0) (pa_cons (pv 1) (pa_cons (pv 2) pa_nil)))))
      (pss_cons (ps_if (pt_cmpR op_eq (pv 3) pe_str (nomark _))
        (pss_one (ps_raise1 raises1_cx rfl g.m_NoAddress g.y_NoAddress (ok_NoAddress___init__ g) (hr.mono (by decide)) g.b_NoAddress___init__ rfl pass0 rfl (pa_cons (pe_fld (pv 0) rfl) pa_nil))) pss_nil)
      (pss_one (ps_ret (pv 3))))), ?_⟩
    walk_at "rd"
    refine ⟨p, t, fr, i, mo, rfl, hcur, hi, hl, h128, hfl, fun s n e H1 s1 c1 => ?_, fun n e d H1 s1 hx => k2 n (by unfold filM; rw [e]) d H1 s1 hx⟩
    walk_at "rd"
    by_cases hs : s = []
    · rw [if_pos (mk_nil.mpr hs)]
      exact get_place c1 g.cl_Cursor g.n_Cursor_place (raise_at fun d H' sm hx => k2 n (by unfold filM; rw [e]; exact if_pos hs) d H' (s1.trans sm.but) hx)
    · rw [if_neg (fun z => hs (mk_nil.mp z))]
      exact k1 s n (by unfold filM; rw [e]; exact if_neg hs) H1 s1 c1
theorem okx_taken_house (g : G K mg) : FnOk P w K mg base (CXN P w base) 6 g.a_taken_house g.fd_taken_house ["cursor"] (spx_taken_house K g.C_Cursor g.C_NoAddress) := by
  refine g.F_taken_house.okn sc_taken_house (fun vs H Q E h => ?_) (fun cdv A outer s H vs Q E hr h => ?_)
  · obtain ⟨p, t, i, rfl, _⟩ := h; rfl
  · obtain ⟨p, t, i, rfl, hcur, hi, hl, h128, k1, k2⟩ := h
    refine ⟨_, (pss_cons (ps_if (pt_not (pt_val (pe_meth (pv 0) g.cl_Cursor g.me_Cursor_passes (ok_Cursor_passes g) (hr.mono (by decide)) g.b_Cursor_passes .nil pass0 (pa_cons pe_str pa_nil))))
        (pss_one (ps_ret pe_non)) pss_nil)
      (pss_one (ps_ret (pe_call (okx_taken_filled_text g) (hr.mono (by decide)) rfl g.m_taken_filled_text g.F_taken_filled_text.kp g.b_taken_filled_text .nil passes_cxN (pa_cons (pv 0) (pa_cons pe_str (pa_cons (pe_glob (v := k_LONGEST_HOUSE) rfl g.c_LONGEST_HOUSE ⟨_, rfl⟩) pa_nil))))))), ?_⟩
    have e1 : Str.ofString "//" = ⟨[47, 47].toArray⟩ := by decide +kernel
    rw [e1]
    walk_at "rd"
    refine cur_meth hcur ⟨p, t, [47, 47], i, rfl, hcur, hi, hl, fun hp H1 s1 c1 => ⟨_, rfl, ?_⟩, fun hp => ⟨_, rfl, ?_⟩⟩
    · rw [if_neg (by decide)]
      have h1 : (t.drop i).take 2 = [47, 47] := hp
      have hi1 : i + 2 ≤ t.length := by
        have := congrArg List.length h1
        rw [List.length_take, List.length_drop] at this
        simp only [List.length_cons, List.length_nil] at this
        omega
      have em : houM (t.drop i) = sh 2 (mp some (filM [] (t.drop (i + 2)) (some 60))) := by unfold houM; rw [if_pos h1, List.drop_drop]
      refine ⟨p, t, [], i + 2, some 60, rfl, c1, hi1, hl, h128, by decide, fun s n e H2 s2 c2 => k1 (some s) (2 + n) (by rw [em, e]; rfl) H2 (s1.trans s2) (by rw [← Nat.add_assoc]; exact c2), fun n e d H2 s2 hx => k2 (2 + n) (by rw [em, e]; rfl) d H2 (s1.trans s2) (by rw [hx, Nat.add_assoc])⟩
    · rw [if_pos rfl]
      exact k1 none 0 (by unfold houM; exact if_neg hp) H (SameBut.refl _ _) hcur
theorem okx_taken_question (g : G K mg) : FnOk P w K mg base (CXN P w base) 6 g.a_taken_question g.fd_taken_question ["cursor"] (spx_taken_question K g.C_Cursor g.C_NoAddress) := by
  refine g.F_taken_question.okn sc_taken_question (fun vs H Q E h => ?_) (fun cdv A outer s H vs Q E hr h => ?_)
  · obtain ⟨p, t, i, rfl, _⟩ := h; rfl
  · obtain ⟨p, t, i, rfl, hcur, hi, hl, h128, k1, k2⟩ := h
    refine ⟨_, (pss_cons (ps_if (pt_not (pt_val (pe_meth (pv 0) g.cl_Cursor g.me_Cursor_passes (ok_Cursor_passes g) (hr.mono (by decide)) g.b_Cursor_passes .nil pass0 (pa_cons pe_str pa_nil))))
        (pss_one (ps_ret pe_non)) pss_nil)
      (pss_cons (ps_set (i := 1) sc_taken_question.nd rfl (Or.inl rfl) (pe_call (dvs := [.non]) (okx_taken_text g) (hr.mono (by decide)) rfl g.m_taken_text g.F_taken_text.kp g.bd_taken_text (.cons rfl .nil) passes_cxN (pa_cons (pv 0) (pa_cons (pe_glob (v := k_FREE_IN_QUESTIONS) rfl g.c_FREE_IN_QUESTIONS ⟨_, rfl⟩) pa_nil))))
      (pss_cut (ps_if (pt_cmpR op_eq (pv 1) pe_str (nomark _))
        (pss_one (ps_ret (pe_tupS pa_nil))) pss_nil)
      (pss_cut (ps_set (i := 2) sc_taken_question.nd rfl (Or.inl rfl) (pe_lstS (pa_cons (pe_tupS (pa_cons (pv 1) (pa_cons (pe_call (okx_taken_value g) (hr.mono (by decide)) rfl g.m_taken_value g.F_taken_value.kp g.b_taken_value .nil passes_cxN (pa_cons (pv 0) pa_nil)) pa_nil))) pa_nil)))
      (pss_cons (ps_while PassesOwn.leaving (pt_val (pe_meth (pv 0) g.cl_Cursor g.me_Cursor_passes (ok_Cursor_passes g) (hr.mono (by decide)) g.b_Cursor_passes .nil pass0 (pa_cons pe_str pa_nil)))
      (pss_cons (ps_set (i := 1) sc_taken_question.nd rfl (Or.inl rfl) (pe_call (dvs := [.non]) (okx_taken_filled_text g) (hr.mono (by decide)) rfl g.m_taken_filled_text g.F_taken_filled_text.kp g.bd_taken_filled_text (.cons rfl .nil) passes_cxN (pa_cons (pv 0) (pa_cons (pe_glob (v := k_FREE_IN_QUESTIONS) rfl g.c_FREE_IN_QUESTIONS ⟨_, rfl⟩) pa_nil))))
      (pss_one (ps_expr (pe_bmK (K := K) rfl PySem.F.plainAttrs_list PySem.F.slot_list_append PySem.F.type_list_append mt_append (pv 2) (pa_cons (pe_tupS (pa_cons (pv 1) (pa_cons (pe_call (okx_taken_value g) (hr.mono (by decide)) rfl g.m_taken_value g.F_taken_value.kp g.b_taken_value .nil passes_cxN (pa_cons (pv 0) pa_nil)) pa_nil))) pa_nil))))))
      (pss_one (ps_ret (pe_callTy (call_tupleS (K := K) rfl) rfl g.b_tuple bt_tuple (pa_cons (pv 2) pa_nil))))))))), ?_⟩
    have eF : k_FREE_IN_QUESTIONS = .str ⟨frQ.toArray⟩ := by
      show V.str (Str.ofString _) = _
      unfold frQ; simp
    have e1 : Str.ofString "?" = ⟨[63].toArray⟩ := by decide +kernel
    have e2 : Str.ofString "&" = ⟨[38].toArray⟩ := by decide +kernel
    rw [eF, e1, e2]
    have pl : ∀ {j c : Nat}, (t.drop j).take [c].length = [c] → j + 1 ≤ t.length := fun {j c} hp => by
      have := congrArg List.length hp
      rw [List.length_take, List.length_drop] at this
      simp only [List.length_singleton] at this
      omega
    have tl : ∀ {j n : Nat} {s fr : List Nat}, j ≤ t.length → txtM fr (t.drop j) none = .ok (s, n) → j + n ≤ t.length := fun {j n s fr} hb e => by
      have := (txt_le e).1
      rw [List.length_drop] at this
      omega
    have vl : ∀ {j n : Nat} {o : Option (List Nat)}, j ≤ t.length → valM (t.drop j) = .ok (o, n) → j + n ≤ t.length := fun {j n o} hb e => by
      have := val_le e
      rw [List.length_drop] at this
      omega
    walk_at "rd"
    refine cur_meth hcur ⟨p, t, [63], i, rfl, hcur, hi, hl, fun hp H1 s1 c1 => ⟨_, rfl, ?_⟩, fun hp => ⟨_, rfl, ?_⟩⟩
    · rw [if_neg (by decide)]
      have hi1 := pl hp
      have em : queM (t.drop i) = sh 1 (bdR (txtM frQ (t.drop (i + 1)) none) fun s n => if s = [] then .ok (some [], 0) else bdR (valM (t.drop (i + (1 + n)))) fun v m => mp (fun l => some ((s, v) :: l)) (prsF ((t.drop i).length + 1) (t.drop (i + (1 + n + m))))) := by
        unfold queM
        rw [if_pos (take1.mp hp)]
        simp only [List.drop_drop]
      refine ⟨p, t, frQ, i + 1, none, rfl, c1, hi1, hl, h128, frQ_len, fun s n e H2 s2 c2 => ?_, fun n e d H2 s2 hx => k2 (1 + n) (by rw [em, e]; rfl) d H2 (s1.trans s2) (by rw [hx, Nat.add_assoc])⟩
      have s12 := s1.trans s2
      have hi2 := tl hi1 e
      by_cases hs : s = []
      · refine ⟨fun _ _ => False, ?_, fun _ _ z => z.elim⟩
        rw [L2.rd_eqSS, decide_eq_true (mk_nil.mpr hs)]
        refine ⟨_, rfl, ?_⟩
        rw [if_pos rfl]
        refine ⟨by decide, fun pt Ha n1 sa hp1 => k1 (some []) (1 + n) ?_ Ha (s12.trans sa.but) (by rw [← Nat.add_assoc]; exact c2.same sa) _ (.tup hp1 .nil)⟩
        rw [em, e]
        show sh 1 (sh n (if s = [] then _ else _)) = _
        rw [if_pos hs]
        rfl
      refine ⟨fun σ H' => H' = H2 ∧ σ = [some (.ref p), some (.str ⟨s.toArray⟩), none], ?_, ?_⟩
      · rw [L2.rd_eqSS]
        refine ⟨_, rfl, ?_⟩
        rw [if_neg (by rw [decide_eq_false (fun z => hs (mk_nil.mp z))]; decide)]
        exact ⟨rfl, rfl⟩
      rintro σ H' ⟨rfl, rfl⟩
      have em2 : queM (t.drop i) = sh (1 + n) (bdR (valM (t.drop (i + (1 + n)))) fun v m => mp (fun l => some ((s, v) :: l)) (prsF ((t.drop i).length + 1) (t.drop (i + (1 + n + m))))) := by
        rw [em, e]
        show sh 1 (sh n (if s = [] then _ else _)) = _
        rw [if_neg hs, sh_sh]
      walk_at "rd"
      obtain ⟨W, hW⟩ : ∃ W : Nat → St → Hp → Prop, W = fun m σ H4 => ∃ (dn : List (List Nat × Option (List Nat))) (b : Nat) (q : Addr) (v1 : Option V) (vs : List V), σ = [some (.ref p), v1, some (.ref q)] ∧ Cur H4 g.C_Cursor p t (i + b) ∧ i + b ≤ t.length ∧ dn.length ≤ b ∧ (t.drop (i + b)).length < m ∧ Via (queM (t.drop i)) b (fun l => some (dn ++ l)) (prsF m (t.drop (i + b))) ∧ H4 q = some (.lst vs) ∧ PrL H4 vs dn ∧ SameBut p H H4 ∧ H q = none ∧ q ≠ p := ⟨_, rfl⟩
      refine ⟨fun σ H4 => ∃ m, W m σ H4, ?_, ?_⟩
      · refine ⟨p, t, i + 1 + n, rfl, c2, hi2, hl, h128, fun o m e' H3 s3 c3 => ⟨by decide, fun p1 Ha n1 sa hp1 => ⟨by decide, fun q Hb nq sb hq => ⟨(t.drop i).length + 1, ?_⟩⟩⟩, fun m e' d H3 s3 hx => k2 (1 + n + m) (by rw [em2, ← Nat.add_assoc, e']; rfl) d H3 (s12.trans s3) (by rw [hx, show i + 1 + n + m = i + (1 + n + m) by omega])⟩
        rw [hW]
        have hi3 := vl hi2 e'
        have hqp : q ≠ p := by obtain ⟨dx, hp⟩ := c3.same sa; exact (ne_of_none hp nq).symm
        have sbA : SameBut p H Ha := (s12.trans s3).trans sa.but
        have hk := (txt_le e).2.2 hs
        refine ⟨[(s, o)], 1 + n + m, q, _, _, rfl, by rw [show i + (1 + n + m) = i + 1 + n + m by omega]; exact (c3.same sa).same sb, by omega, by show 1 ≤ _; omega, by simp only [List.length_drop]; omega, ?_, hq, ⟨rfl, fun i' a' y z1 z2 => ?_⟩, sbA.trans sb.but, sbA.free nq hqp, hqp⟩
        · show _ = sh _ (mp _ _)
          rw [em2, ← Nat.add_assoc, e']
          show sh (1 + n) (sh m (mp _ _)) = _
          rw [sh_sh]
          rfl
        · cases i' with
          | zero =>
            cases z1
            cases z2
            exact .tup (sb _ _ hp1) (.cons (.str _) (.cons (is_oD _) .nil))
          | succ j => cases z1
      rintro σ H4 ⟨m, hm⟩
      unfold L2.Later
      rw [L2.rd_seq]
      refine while_W W m hm ?_
      rintro m σ H5 hm
      rw [hW] at hm
      obtain ⟨dn, b, q, v1, vs, rfl, c5, hj5, hdn, hfu, via, hq5, hpl, sb5, hqH, hqp⟩ := hm
      have hdl : dn.length ≤ 100000 := by omega
      obtain ⟨m', rfl⟩ : ∃ m', m = m' + 1 := ⟨m - 1, by omega⟩
      walk_at "rd"
      refine cur_meth c5 ⟨p, t, [38], i + b, rfl, c5, hj5, hl, fun hp H6 s6 c6 => ⟨_, rfl, ?_⟩, fun hp => ⟨_, rfl, ?_⟩⟩
      · rw [if_pos rfl]
        have hi6 := pl hp
        have ep : prsF (m' + 1) (t.drop (i + b)) = sh 1 (bdR (filM frQ (t.drop (i + b + 1)) none) fun s n => bdR (valM (t.drop (i + b + (1 + n)))) fun v m => mp (fun l => (s, v) :: l) (prsF m' (t.drop (i + b + (1 + n + m))))) := by
          conv => lhs; unfold prsF
          rw [if_pos (take1.mp hp)]
          simp only [List.drop_drop]
        refine ⟨_, fun _ _ h => h, p, t, frQ, i + b + 1, none, rfl, c6, hi6, hl, h128, frQ_len, fun s2 n2 e6 H7 s7 c7 => ⟨⟨_, .of ((s6.trans s7) _ _ hqp hq5)⟩, ?_⟩, fun n2 e6 d H7 s7 hx => k2 (b + (1 + n2)) (via.err (by rw [ep, e6]; rfl)) d H7 ((sb5.trans s6).trans s7) (by rw [hx, show i + b + 1 + n2 = i + (b + (1 + n2)) by omega])⟩
        have hi7 := tl hi6 (fil_ok e6).1
        have hk2 := (txt_le (fil_ok e6).1).2.2 (fil_ok e6).2
        refine ⟨p, t, i + b + 1 + n2, rfl, c7, hi7, hl, h128, fun o2 k3 e7 H8 s8 c8 => ⟨by decide, fun p1 Ha n1 sa hp1 => ⟨vs, sa _ _ (((s6.trans s7).trans s8) _ _ hqp hq5), ?_, m', Nat.lt_succ_self _, ?_⟩⟩, fun k3 e7 d H8 s8 hx => k2 (b + (1 + (n2 + k3))) (via.err ?_) d H8 (((sb5.trans s6).trans s7).trans s8) (by rw [hx, show i + b + 1 + n2 + k3 = i + (b + (1 + (n2 + k3))) by omega])⟩
        · rw [hpl.1]
          exact Nat.lt_of_le_of_lt hdl (by decide)
        · rw [hW]
          have hi8 := vl hi7 e7
          have hqa : Ha q = some (.lst vs) := sa _ _ (((s6.trans s7).trans s8) _ _ hqp hq5)
          refine ⟨dn ++ [(s2, o2)], b + (1 + n2 + k3), q, _, _, rfl, ?_, by omega, by rw [List.length_append, List.length_singleton]; omega, by rw [List.length_drop] at hfu ⊢; omega, ?_, upd_same, ?_, ?_, hqH, hqp⟩
          · obtain ⟨dx, hp⟩ := c8.same sa
            exact ⟨dx, by rw [upd_ne hqp.symm, show i + (b + (1 + n2 + k3)) = i + b + 1 + n2 + k3 by omega]; exact hp⟩
          · have := via.step (a := 1 + n2 + k3) (g := fun l => (s2, o2) :: l) (r' := prsF m' (t.drop (i + b + (1 + n2 + k3)))) (by
              rw [ep, e6]
              show sh 1 (sh n2 (bdR _ _)) = _
              rw [show i + b + (1 + n2) = i + b + 1 + n2 by omega, e7]
              show sh 1 (sh n2 (sh k3 _)) = _
              rw [sh_sh, sh_sh])
            rw [Nat.add_assoc i b] at this
            simpa using this
          · refine PrL.mono (PrL.snoc ((((hpl.mono (c5.toT s6)).mono (c6.toT s7)).mono (c7.toT s8)).mono sa.toT) ?_) (sameT_lst hqa)
            exact .tup hp1 (.cons (.str _) (.cons (is_oD _) .nil))
          · exact ((((sb5.trans s6).trans s7).trans s8).trans sa.but).upd hqH
        · rw [ep, e6]
          show sh 1 (sh n2 (bdR _ _)) = _
          rw [show i + b + (1 + n2) = i + b + 1 + n2 by omega, e7]
          rfl
      · rw [if_neg (by decide)]
        have ep : prsF (m' + 1) (t.drop (i + b)) = .ok ([], 0) := by
          unfold prsF
          rw [if_neg (fun z => hp (take1.mpr z))]
        have e3 := via.ok ep
        rw [List.append_nil] at e3
        refine ⟨vs, .inl (.of hq5), fun l Ha sa hla => k1 (some dn) b e3 Ha (sb5.trans sa.but) (c5.same sa) _ ?_⟩
        exact .tup hla (isTAll_mk' (g := pD) hpl.1 fun i' a' y z1 z2 => (hpl.2 i' a' y z1 z2).mono sa.toT)
    · rw [if_pos rfl]
      exact k1 none 0 (by unfold queM; rw [if_neg (fun z => hp (take1.mpr z))]) H (SameBut.refl _ _) hcur _ .non
theorem okx_read (g : G K mg) : FnOk P w K mg base (CXN P w base) 7 g.a_read g.fd_read ["text"] (spx_read K g.C_NoAddress) := by
  refine g.F_read.okn sc_read (fun vs H Q E h => ?_) (fun cdv A outer s H vs Q E hr h => ?_)
  · obtain ⟨v, rfl, _⟩ := h; rfl
  · obtain ⟨v, rfl, h⟩ := h
    refine ⟨_, (pss_cons (ps_if (pt_not (pt_val (pe_callB call_isi rfl g.b_isinstance boot_isinstance (pa_cons (pv 0) (pa_cons (pe_bltn (v := .ty "str") rfl g.b_str bt_str rfl) pa_nil)))))
        (pss_one (ps_raise1 raises1_cx rfl g.m_NoAddress g.y_NoAddress (ok_NoAddress___init__ g) (hr.mono (by decide)) g.b_NoAddress___init__ rfl pass0 rfl (pa_cons pe_int pa_nil))) pss_nil)
      (pss_cons (ps_set (i := 1) sc_read.nd rfl (Or.inl rfl) (pe_make g.M_Cursor (ok_Cursor___init__ g) (hr.mono (by decide)) rfl g.m_Cursor g.b_Cursor___init__ .nil pass0 (pa_cons (pv 0) pa_nil)))
      (pss_cons (ps_set (i := 2) sc_read.nd rfl (Or.inl rfl) (pe_call (ok_taken_scheme g) (hr.mono (by decide)) rfl g.m_taken_scheme g.F_taken_scheme.kp g.b_taken_scheme .nil pass0 (pa_cons (pv 1) pa_nil)))
      (pss_cons (ps_set (i := 3) sc_read.nd rfl (Or.inl rfl) (pe_call (okx_taken_house g) (hr.mono (by decide)) rfl g.m_taken_house g.F_taken_house.kp g.b_taken_house .nil passes_cxN (pa_cons (pv 1) pa_nil)))
      (pss_cut (ps_set (i := 4) sc_read.nd rfl (Or.inl rfl) (pe_ifExp (pt_cmpR op_isNU (pv 3) pe_non (nomark _)) pe_non (pe_call (okx_taken_door g) (hr.mono (by decide)) rfl g.m_taken_door g.F_taken_door.kp g.b_taken_door .nil passes_cxN (pa_cons (pv 1) pa_nil))))
      (pss_cut (ps_set (i := 5) sc_read.nd rfl (Or.inl rfl) (pe_call (okx_taken_way g) (hr.mono (by decide)) rfl g.m_taken_way g.F_taken_way.kp g.b_taken_way .nil passes_cxN (pa_cons (pv 1) (pa_cons (pe_or (pe_cmpR op_ne (pv 2) pe_str (nomark _)) (pe_one (pe_cmpR op_notNU (pv 3) pe_non (nomark _)))) pa_nil))))
      (pss_cons (ps_set (i := 6) sc_read.nd rfl (Or.inl rfl) (pe_call (okx_taken_question g) (hr.mono (by decide)) rfl g.m_taken_question g.F_taken_question.kp g.b_taken_question .nil passes_cxN (pa_cons (pv 1) pa_nil)))
      (pss_cons (ps_set (i := 7) sc_read.nd rfl (Or.inl rfl) (pe_call (okx_taken_mark g) (hr.mono (by decide)) rfl g.m_taken_mark g.F_taken_mark.kp g.b_taken_mark .nil passes_cxN (pa_cons (pv 1) pa_nil)))
      (pss_cons (ps_if (pt_not (pt_val (pe_meth0 (pv 1) g.cl_Cursor g.me_Cursor_at_end (ok_Cursor_at_end g) (hr.mono (by decide)) g.b_Cursor_at_end .nil pass0)))
        (pss_one (ps_raise1 raises1_cx rfl g.m_NoAddress g.y_NoAddress (ok_NoAddress___init__ g) (hr.mono (by decide)) g.b_NoAddress___init__ rfl pass0 rfl (pa_cons (pe_fld (pv 1) rfl) pa_nil))) pss_nil)
      (pss_one (ps_ret (pe_tupS (pa_cons (pv 2) (pa_cons (pv 3) (pa_cons (pv 4) (pa_cons (pv 5) (pa_cons (pv 6) (pa_cons (pv 7) pa_nil)))))))))))))))))), ?_⟩
    walk_at "rd"
    rcases h with ⟨ty, hty, hkit, kE⟩ | ⟨t, rfl, hl, h128, k1, k2⟩
    · refine ⟨_, _, _, _, rfl, hty, hkit, ?_⟩
      refine ⟨_, rfl, ?_⟩
      rw [if_pos rfl]
      exact raise_at fun d H' sm hx => kE d H' sm hx
    refine ⟨_, _, _, _, rfl, .str _, kit_tab K "str" (by decide) "str" (by decide), ?_⟩
    refine ⟨_, rfl, ?_⟩
    rw [if_neg (by decide)]
    intro p dx hp hdx hne
    have sb0 : SameBut p H (upd (upd H dx (.own p)) p (.ins g.C_Cursor dx [])) := fun b o n e => by
      rw [upd_ne n, upd_ne (ne_of_none e hdx)]
      exact e
    refine ⟨p, dx, t, rfl, upd_same, fun H1 s1 c1 => ⟨rfl, ?_⟩⟩
    have sb1 := sb0.trans s1
    have hl' : t.length ≤ 100000 := by omega
    refine ⟨p, t, rfl, c1, hl, fun H2 s2 c2 => ?_⟩
    have sb2 := sb1.trans s2
    refine ⟨p, t, schP t, rfl, c2, schP_le t, hl', h128, fun h n1 e1 H3 s3 c3 => ?_, fun n e d H3 s3 hx => k2 _ (read_h e) d H3 ((sb2.trans s3).same hp) hx⟩
    have sb3 := sb2.trans s3
    have hi3 : schP t + n1 ≤ t.length := by have := hou_le e1; have := schP_le t; rw [List.length_drop] at *; omega
    refine ⟨fun σ H4 => SameBut p H H4 ∧ ∃ d n2, dorM h (t.drop (schP t + n1)) = .ok (d, n2) ∧ Cur H4 g.C_Cursor p t (schP t + n1 + n2) ∧ σ = [some (.str ⟨t.toArray⟩), some (.ref p), some (.str ⟨(schM t).toArray⟩), some (otV h), some (itV d), none, none, none], ?_, ?_⟩
    · cases hho : h with
      | none =>
        rw [if_pos (show otV none = V.non from rfl)]
        exact ⟨sb3, none, 0, by unfold dorM; rw [if_pos rfl], c3, rfl⟩
      | some l =>
        rw [if_neg (by simp [otV])]
        have ed : dorM (some l) (t.drop (schP t + n1)) = dooM (t.drop (schP t + n1)) := by unfold dorM; rw [if_neg (by simp)]
        rw [hho] at e1
        exact ⟨p, t, schP t + n1, rfl, c3, hi3, hl', h128, fun d n2 e2 H4 s4 c4 => ⟨sb3.trans s4, d, n2, ed.trans e2, c4, rfl⟩, fun n e d H4 s4 hx => k2 _ (read_d e1 (ed.trans e)) d H4 ((sb3.trans s4).same hp) hx⟩
    rintro σ H4 ⟨sb4, d, n2, e2, c4, rfl⟩
    have hi4 : schP t + n1 + n2 ≤ t.length := by have := (dor_ok e2).1; rw [List.length_drop] at this; omega
    walk_at "rd"
    obtain ⟨must, hmust⟩ : ∃ b : Bool, b = decide (schM t ≠ [] ∨ h ≠ none) := ⟨_, rfl⟩
    have hway : ∀ (b : Bool) (Q' : VK), b = must → (∀ w n3, wayM must (t.drop (schP t + n1 + n2)) = .ok (w, n3) → ∀ u H5, SameBut p H H5 → Cur H5 g.C_Cursor p t (schP t + n1 + n2 + n3) → IsT H5 (wayOf w) u → Q' u H5) → spx_taken_way K g.C_Cursor g.C_NoAddress [V.ref p, V.bl b] H4 Q' E := fun b Q' hb hk =>
      ⟨p, t, schP t + n1 + n2, must, by rw [hb], c4, hi4, hl', h128, fun w n3 e3 H5 s5 c5 u hu => hk w n3 e3 u H5 (sb4.trans s5) c5 hu, fun n e d H5 s5 hx => k2 _ (read_w e1 e2 (by rw [← hmust]; exact e)) d H5 ((sb4.trans s5).same hp) hx⟩
    refine ⟨fun σ H5 => ∃ w n3 u, wayM must (t.drop (schP t + n1 + n2)) = .ok (w, n3) ∧ SameBut p H H5 ∧ Cur H5 g.C_Cursor p t (schP t + n1 + n2 + n3) ∧ IsT H5 (wayOf w) u ∧ σ = [some (.str ⟨t.toArray⟩), some (.ref p), some (.str ⟨(schM t).toArray⟩), some (otV h), some (itV d), some u, none, none], ?_, ?_⟩
    · refine ite2 (fun z => ?_) (fun z => ?_)
      · have hm : must = true := by rw [hmust]; exact decide_eq_true (.inl fun e => z (by rw [e]))
        exact hway true _ hm.symm (fun w n3 e3 u H5 sb c hu => ⟨w, n3, u, e3, sb, c, hu, rfl⟩)
      · have hs : schM t = [] := mk_nil.mp (Classical.not_not.mp z)
        have hm : must = !decide (otV h = V.non) := by
          rw [hmust]
          cases h with
          | none => simp [hs, otV]
          | some l => simp [otV]
        exact hway _ _ hm.symm (fun w n3 e3 u H5 sb c hu => ⟨w, n3, u, e3, sb, c, hu, rfl⟩)
    rintro σ H5 ⟨w, n3, u, e3, sb5, c5, hu, rfl⟩
    have e3' := e3
    rw [hmust] at e3'
    have hi5 : schP t + n1 + n2 + n3 ≤ t.length := by have := (way_ok e3).1; rw [List.length_drop] at this; omega
    walk_at "rd"
    refine ⟨p, t, schP t + n1 + n2 + n3, rfl, c5, hi5, hl', h128, fun q n4 e4 H6 s6 c6 uq huq => ?_, fun n e d H6 s6 hx => k2 _ (read_q e1 e2 e3' e) d H6 ((sb5.trans s6).same hp) hx⟩
    have hi6 : schP t + n1 + n2 + n3 + n4 ≤ t.length := by have := (que_ok e4).1; rw [List.length_drop] at this; omega
    refine ⟨p, t, schP t + n1 + n2 + n3 + n4, rfl, c6, hi6, hl', h128, fun m n5 e5 H7 s7 c7 => ?_, fun n e d H7 s7 hx => k2 _ (read_m e1 e2 e3' e4 e) d H7 (((sb5.trans s6).trans s7).same hp) hx⟩
    have er := read_e e1 e2 e3' e4 e5
    have sb7 := (sb5.trans s6).trans s7
    refine cur_meth c7 ⟨p, t, _, rfl, c7, hl', _, rfl, ?_⟩
    by_cases hend : schP t + n1 + n2 + n3 + n4 + n5 = t.length
    · rw [decide_eq_true hend, if_neg (by decide)]
      rw [if_pos hend] at er
      refine ⟨by decide, fun pr H8 _ s8 h8 => k1 _ er _ H8 ((sb7.same hp).trans s8) ?_⟩
      exact adT h8 ((((hu.mono (c5.toT s6)).mono (c6.toT s7))).mono s8.toT) ((huq.mono (c6.toT s7)).mono s8.toT)
    · rw [decide_eq_false hend, if_pos rfl]
      rw [if_neg hend] at er
      exact get_place c7 g.cl_Cursor g.n_Cursor_place (raise_at fun d H' sm hx => k2 _ er d H' ((sb7.trans sm.but).same hp) hx)
theorem ok__law_asked (g : G K mg) : FnOk P w K mg base CX0 8 g.a__law_asked g.fd__law_asked ["_law_thing"] (sp__law_asked K) := by
  refine g.F__law_asked.ok sc__law_asked (fun vs H Q E h => ?_) (fun cdv A outer s H vs Q E hr h => ?_)
  · obtain ⟨v, n, rfl, _⟩ := h; rfl
  · obtain ⟨v, n, rfl, hb, k⟩ := h
    refine ⟨_, (pss_cons (ps_set (i := 1) sc__law_asked.nd rfl (Or.inl rfl) pe_non)
      (pss_cons (ps_tryN (i := 2) (try_call (okx_read g) (hr.mono (by decide)) rfl g.m_read g.F_read.kp g.b_read (pa_cons (pv 0) pa_nil) (fun _ _ h => h)) rfl rfl rfl g.m_NoAddress g.w_NoAddress sc__law_asked.nd rfl rfl (fun _ => (pss_one (ps_set (i := 1) sc__law_asked.nd rfl (Or.inl rfl) (pe_tupS (pa_cons (pe_fldEK (K := K) rfl (pv 2) rfl) (pa_cons (pe_callU (k := 1) (oku__law_lone g) (hr.mono (by decide)).hand rfl g.m__law_lone g.F__law_lone.kp g.b__law_lone (pa_cons (pv 2) pa_nil)) pa_nil)))))))
      (pss_one (ps_ret (pv 1))))), ?_⟩
    walk_at "rd"
    refine ⟨v, rfl, ?_⟩
    rcases hb with ⟨rfl, ty, hty, hk⟩ | ⟨t, rfl, hl, h128, he⟩
    · refine .inl ⟨ty, hty, hk, fun d H1 s1 hx => ⟨_, rfl, g.u_NoAddress_NoAddress, fun a ha => ?_⟩⟩
      refine ⟨a, _, d, _, _, rfl, upd_same, (by rw [upd_ne (ne_of_none hx ha)]; exact hx), g.fx_NoAddress_at, (by rw [List.lookup_cons, beq_self_eq_true]), ?_⟩
      refine ⟨a, some d, rfl, upd_same, fun H2 s2 => ⟨by decide, fun p H3 hn s3 hp => k p H3 (((s1.trans (same_new ha)).trans s2).trans s3) hp⟩⟩
    · refine .inr ⟨t, rfl, hl, h128, (fun x e => by rw [he] at e; cases e), fun k' e d H1 s1 hx => ⟨_, rfl, g.u_NoAddress_NoAddress, fun a ha => ?_⟩⟩
      rw [he] at e
      cases e
      refine ⟨a, _, d, _, _, rfl, upd_same, (by rw [upd_ne (ne_of_none hx ha)]; exact hx), g.fx_NoAddress_at, (by rw [List.lookup_cons, beq_self_eq_true]), ?_⟩
      refine ⟨a, some d, rfl, upd_same, fun H2 s2 => ⟨by decide, fun p H3 hn s3 hp => k p H3 (((s1.trans (same_new ha)).trans s2).trans s3) hp⟩⟩
theorem ok_law (g : G K mg) : FnOk P w K mg base CX0 9 g.a_law g.fd_law ["_law_script"] (sp_law K) := by
  refine g.F_law.ok sc_law (fun vs H Q E h => ?_) (fun cdv A outer s H vs Q E hr h => ?_)
  · obtain ⟨a, ns, rfl, _⟩ := h; rfl
  · obtain ⟨a, ns, rfl, hS, hn, k⟩ := h
    refine ⟨_, (pss_cons (ps_for PassesOwn.never rfl (pi_listK (K := K) rfl (pe_op (op_addS (K := K)) (pe_slice (sl_anyK (K := K) rfl) (pv 0) po_none (po_some pe_int)) (pe_lstS (pa_cons pe_int (pa_cons pe_int pa_nil))))) (pg_name (i := 1) sc_law.nd rfl (Or.inl rfl))
      (pss_cons (ps_set (i := 2) sc_law.nd rfl (Or.inl rfl) (pe_op op_mod (pe_op op_fdiv (pv 1) pe_int) (pe_op op_pow pe_int pe_int)))
      (pss_cons (ps_set (i := 3) sc_law.nd rfl (Or.inl rfl) (pe_lstS (pa_cons pe_non (pa_cons (pv 2) (pa_cons pe_bl (pa_cons (pe_lstS (pa_cons pe_str pa_nil)) (pa_cons (pe_tupS (pa_cons pe_str pa_nil)) (pa_cons (pe_dic1 pe_str pe_str) (pa_cons (pe_lstS (pa_cons pe_str pa_nil)) (pa_cons (pe_tupS pa_nil) pa_nil))))))))))
      (pss_cons (ps_set (i := 3) sc_law.nd rfl (Or.inl rfl) (pe_op (op_addS (K := K)) (pv 3) (pe_lstS (pa_cons (pe_tupS (pa_cons pe_str (pa_cons pe_non (pa_cons pe_non (pa_cons (pe_tupS (pa_cons pe_bl (pa_cons (pe_tupS pa_nil) (pa_cons pe_bl pa_nil)))) (pa_cons pe_non (pa_cons pe_non pa_nil))))))) pa_nil))))
      (pss_cut (ps_set (i := 4) sc_law.nd rfl (Or.inl rfl) (pe_ix (ix_seqK (K := K) rfl) (pv 3) (pe_op op_mod (pv 1) pe_int) (fun _ _ => rfl)))
      (pss_cons (ps_set (i := 5) sc_law.nd rfl (Or.inl rfl) pe_int)
      (pss_cut (ps_if (pt_cmpR op_eq (pe_op op_mod (pe_op op_fdiv (pv 1) pe_int) pe_int) pe_int (nomark _))
        (pss_cons (ps_set (i := 5) sc_law.nd rfl (Or.inl rfl) (pe_op op_mod (pv 2) pe_int))
      (pss_one (ps_set (i := 4) sc_law.nd rfl (Or.inl rfl) (pe_op (op_addS (K := K)) (pe_op (op_addS (K := K)) (pe_op op_mulU pe_str (pv 5)) (pe_ix (ix_seqK (K := K) rfl) pe_str (pe_op op_mod (pv 1) pe_int) (fun _ _ => rfl))) (pe_op op_mulU pe_str (pe_op op_mod (pe_op op_fdiv (pv 2) pe_int) pe_int)))))) pss_nil)
      (pss_cons (ps_set (i := 6) sc_law.nd rfl (Or.inl rfl) (pe_call (ok__law_asked g) (hr.mono (by decide)) rfl g.m__law_asked g.F__law_asked.kp g.b__law_asked .nil pass0 (pa_cons (pv 4) pa_nil)))
      (pss_one (ps_if (PW.pt (pw_or (pt_cmpR op_isNU (pv 6) pe_non (nomark _)) (pw_or (pt_not (pt_val (pe_call (ok__law_whole g) (hr.mono (by decide)) rfl g.m__law_whole g.F__law_whole.kp g.b__law_whole .nil pass0 (pa_cons (pe_ix (ix_seqK (K := K) rfl) (pv 6) pe_int (fun _ _ => rfl)) pa_nil)))) (pw_or1 (pt_cmpR (op_neD hr.units) (pv 6) (pe_tupS (pa_cons (pv 5) (pa_cons pe_bl pa_nil))) (nomark _))))))
        (pss_one (ps_ret pe_bl)) pss_nil))))))))))
      (pss_cons (ps_if (pt_cmpR (op_neX (K := K) rfl hr.units) (pe_call (okx_read g) (hr.mono (by decide)) rfl g.m_read g.F_read.kp g.b_read .nil passes0N (pa_cons pe_str pa_nil)) (pe_tupS (pa_cons pe_str (pa_cons pe_non (pa_cons pe_non (pa_cons (pe_tupS (pa_cons pe_bl (pa_cons (pe_tupS pa_nil) (pa_cons pe_bl pa_nil)))) (pa_cons pe_non (pa_cons pe_non pa_nil))))))) (nomark _))
        (pss_one (ps_ret pe_bl)) pss_nil)
      (pss_one (ps_ret (pe_cmpR (op_eqX (K := K) rfl hr.units) (pe_call (okx_read g) (hr.mono (by decide)) rfl g.m_read g.F_read.kp g.b_read .nil passes0N (pa_cons pe_str pa_nil)) (pe_tupS (pa_cons pe_str (pa_cons pe_non (pa_cons pe_non (pa_cons (pe_tupS (pa_cons pe_bl (pa_cons (pe_tupS pa_nil) (pa_cons pe_bl pa_nil)))) (pa_cons pe_non (pa_cons pe_non pa_nil))))))) (nomark _)))))), ?_⟩
    walk_at "rd"
    refine ⟨_, hS, fun p0 n0 => ⟨by decide, fun p1 H1 n1 s1 hp1 => ?_⟩⟩
    have s01 := (same_new (o := .lst (cutV (ns.map V.int) none (some 20))) n0).trans s1
    refine .inl ⟨_, _, s1 _ _ upd_same, hp1, le_line (by rw [cutV_map, List.length_map]; have := cutA_len ns none (some 20); simp; omega), fun p2 H2 n2 s2 hp2 => ⟨p2, rfl, ⟨_, .of hp2⟩, ?_⟩⟩
    have s02 := s01.trans s2
    rw [cutV_map, show ([V.int 0, V.int 9] : List V) = [0, 9].map V.int from rfl, ← List.map_append] at hp2
    generalize cutA ns none (some 20) ++ [0, 9] = cs at hp2
    refine loop_list (xs := cs.map V.int) (fun i σ H' => Same H2 H' ∧ ∃ v1 v2 v3 v4 v5 v6, σ = [some (.ref a), v1, v2, v3, v4, v5, v6]) ⟨Same.refl _, _, _, _, _, _, _, rfl⟩ (fun i σ H' _ h => .of (h.1 _ _ hp2)) ?_ ?_
    · rintro i x σ H3 hx ⟨s3, v1, v2, v3, v4, v5, v6, rfl⟩
      obtain ⟨c, rfl⟩ : ∃ c : Int, x = .int c := by
        rw [List.getElem?_map] at hx
        cases h : cs[i]? with
        | none => rw [h] at hx; cases hx
        | some c => rw [h] at hx; cases hx; exact ⟨c, rfl⟩
      walk_at "rd"
      refine ⟨⟨by decide, by decide⟩, ⟨by decide, by decide, by decide⟩, by decide +kernel, by decide, fun q1 G1 _ t1 h1 => ⟨by decide, fun q2 G2 _ t2 h2 => fun q3 m3 => ⟨upd_same, by decide, fun q4 G4 m4 t4 h4 => ⟨by decide, fun q5 G5 _ t5 h5 => ⟨by decide, fun q6 G6 m6 t6 h6 => ⟨by decide, fun q7 G7 _ t7 h7 => ⟨by decide, fun q8 G8 _ t8 h8 => ⟨by decide, fun q9 G9 _ t9 h9 => ⟨by decide, fun q10 G10 m10 t10 h10 => ?_⟩⟩⟩⟩⟩⟩⟩⟩⟩
      refine .inl ⟨_, _, (((t7.trans t8).trans t9).trans t10) _ _ h6, h10, (by show 9 ≤ sizeLine; decide), fun q11 G11 _ t11 h11 => ?_⟩
      have u4 : Same (upd (upd G2 q3 (.dK [])) q3 (.dK [(Sum.inr (Str.ofString "a"), V.str (Str.ofString "b"))])) G11 := ((((((t4.trans t5).trans t6).trans t7).trans t8).trans t9).trans t10).trans t11
      have u2 : Same G2 G11 := fun b o e => u4 b o (by rw [upd_ne (ne_of_none e m3), upd_ne (ne_of_none e m3)]; exact e)
      have u0 : Same H3 G11 := (t1.trans t2).trans u2
      have k1 := u2 _ _ (t2 _ _ h1)
      have k2 := u2 _ _ h2
      have k3 := u4 q3 _ upd_same
      have k4 := ((((((t5.trans t6).trans t7).trans t8).trans t9).trans t10).trans t11) _ _ h4
      have k5 := (((((t6.trans t7).trans t8).trans t9).trans t10).trans t11) _ _ h5
      have k9 := (t10.trans t11) _ _ h9
      obtain ⟨m, hm⟩ : ∃ m : Int, m = c / 18 % 10 ^ Int.toNat 30 := ⟨_, rfl⟩
      rw [← hm] at h11 ⊢
      have hm0 : 0 ≤ m := by rw [hm]; exact Int.emod_nonneg _ (by decide +kernel)
      refine ⟨fun σ H' => Same H3 H' ∧ ∃ v3 v ty, σ = [some (.ref a), some (.int c), some (.int m), v3, some v, v5, v6] ∧ TyOf K H' v ty ∧ PySem.W.kitOne K ty (.type "str") = some false, ?_, ?_⟩
      · obtain ⟨j, hj, ej⟩ : ∃ j : Nat, j < 9 ∧ c % 9 = (j : Int) := ⟨(c % 9).toNat, by omega, by omega⟩
        rw [ej]
        have kt : ∀ T, T ∈ ["NoneType", "bool", "int", "list", "tuple"] → PySem.W.kitOne K (.type T) (.type "str") = some false := fun T hT => by
          simp only [List.mem_cons, List.not_mem_nil, or_false] at hT
          rcases hT with rfl | rfl | rfl | rfl | rfl
          · exact kit_tab K "NoneType" (by decide) "str" (by decide)
          · exact kit_tab K "bool" (by decide) "str" (by decide)
          · exact kit_tab K "int" (by decide) "str" (by decide)
          · exact kit_tab K "list" (by decide) "str" (by decide)
          · exact kit_tab K "tuple" (by decide) "str" (by decide)
        have key : ∃ (v : V) (ty : Value), [V.non, V.int m, V.bl true, V.ref q1, V.ref q2, V.ref q3, V.ref q4, V.ref q5, V.ref q9][j]? = some v ∧ TyOf K G11 v ty ∧ PySem.W.kitOne K ty (.type "str") = some false := by
          match j, hj with
          | 0, _ => exact ⟨_, _, rfl, .non, kt "NoneType" (by decide)⟩
          | 1, _ => exact ⟨_, _, rfl, .int _, kt "int" (by decide)⟩
          | 2, _ => exact ⟨_, _, rfl, .bl _, kt "bool" (by decide)⟩
          | 3, _ => exact ⟨_, _, rfl, .lst k1, kt "list" (by decide)⟩
          | 4, _ => exact ⟨_, _, rfl, .tup k2, kt "tuple" (by decide)⟩
          | 5, _ => exact ⟨_, _, rfl, .dK k3, by with_unfolding_all kernel_rfl⟩
          | 6, _ => exact ⟨_, _, rfl, .lst k4, kt "list" (by decide)⟩
          | 7, _ => exact ⟨_, _, rfl, .tup k5, kt "tuple" (by decide)⟩
          | 8, _ => exact ⟨_, _, rfl, .tup k9, kt "tuple" (by decide)⟩
        obtain ⟨v, ty, e, y1, y2⟩ := key
        exact ⟨by decide, L2.rd_ixR.mpr ⟨_, v, .inl (.of h11), atI_nat e, u0, _, v, ty, rfl, y1, y2⟩⟩
      rintro σ H4 ⟨s4, v3', v, ty, rfl, hty, hkit⟩
      walk_at "rd"
      refine ⟨fun σ H' => Same H4 H' ∧ ∃ (v4 : V) (n : Nat), σ = [some (.ref a), some (.int c), some (.int m), v3', some v4, some (.int (n : Int)), v6] ∧ BadV K H' v4 n, ?_, ?_⟩
      · walk_at "rd"
        refine ⟨⟨by decide, by decide⟩, by decide, ite2 (fun hb => ?_) (fun hb => ?_)⟩
        · obtain ⟨dd, hdd, edd⟩ : ∃ j : Nat, j < 40 ∧ m % 40 = (j : Int) := ⟨(m % 40).toNat, by omega, by omega⟩
          obtain ⟨nb, hnb, enb⟩ : ∃ j : Nat, j < 4 ∧ m / 40 % 4 = (j : Int) := ⟨(m / 40 % 4).toNat, by omega, by omega⟩
          obtain ⟨jj, hjj, ejj⟩ : ∃ j : Nat, j < 2 ∧ c % 2 = (j : Int) := ⟨(c % 2).toNat, by omega, by omega⟩
          have eA : Str.ofString "a" = ⟨#[97]⟩ := by decide +kernel
          have eB : Str.ofString "b" = ⟨#[98]⟩ := by decide +kernel
          have eN : Str.ofString "\n\t" = ⟨[10, 9].toArray⟩ := by decide +kernel
          have mo : ∀ (x : Nat) (n : Nat), n < 40 → MulOk (⟨#[x]⟩ : Str) (n : Int) := fun x n hn => by
            refine ⟨?_, fun h1 _ => ?_, fun _ _ => notTooLong ?_⟩
            · rw [decide_eq_false (by omega), decide_eq_false (by omega)]; rfl
            · show ¬ (1 : Int) > _
              have : (1 : Int) ≤ (2 ^ 63 - 1) / (n : Int) := by
                rw [Int.le_ediv_iff_mul_le (by omega)]
                omega
              omega
            · show 1 * _ ≤ _
              have : ((n : Int)).toNat = n := by omega
              rw [this]
              exact Nat.le_trans (show 1 * n ≤ 100 by omega) (by decide)
          obtain ⟨x, hx2, ex⟩ : ∃ x, [10, 9][jj]? = some x ∧ (x = 10 ∨ x = 9) := by
            match jj, hjj with
            | 0, _ => exact ⟨10, rfl, .inl rfl⟩
            | 1, _ => exact ⟨9, rfl, .inr rfl⟩
          refine ⟨by decide, ?_⟩
          rw [edd, enb, ejj, eA, eB, eN, mulA dd hdd, mulB nb (by omega)]
          have eT : (⟨(List.replicate dd 97).toArray⟩ : Str) ++ ⟨#[x]⟩ ++ ⟨(List.replicate nb 98).toArray⟩ = ⟨(List.replicate dd 97 ++ x :: List.replicate nb 98).toArray⟩ := by
            rw [show (⟨#[x]⟩ : Str) = ⟨[x].toArray⟩ from rfl, mk_app, mk_app, List.append_assoc]
            rfl
          refine ⟨mo 97 dd hdd, by decide, x, (by show 2 ≤ sizeLine; decide), atI_nat hx2, le_line (by rw [mk_len, List.length_replicate]; omega), ⟨by decide, by decide⟩, by decide, mo 98 nb (by omega), le_line ?_, Same.refl _, _, dd, ⟨rfl, rfl⟩, .inr ⟨_, by rw [eT], ?_, ?_, read_sp dd nb x ex⟩⟩
          · rw [show (⟨#[x]⟩ : Str) = ⟨[x].toArray⟩ from rfl, mk_app, mk_len, mk_len, List.length_append, List.length_replicate, List.length_replicate, List.length_singleton]; omega
          · rw [List.length_append, List.length_cons, List.length_replicate, List.length_replicate]; omega
          · intro y hy
            rcases List.mem_append.mp hy with z | z
            · rw [List.eq_of_mem_replicate z]; decide
            · rcases List.mem_cons.mp z with z | z
              · rw [z]; rcases ex with rfl | rfl <;> decide
              · rw [List.eq_of_mem_replicate z]; decide
        · exact ⟨Same.refl _, v, 0, ⟨rfl, rfl⟩, .inl ⟨rfl, ty, hty, hkit⟩⟩
      rintro σ H5 ⟨s5, v4, n, rfl, hbad⟩
      walk_at "rd"
      refine ⟨v4, n, rfl, hbad, fun ph H6 s6 hph => ?_⟩
      show (if V.ref ph = V.non then _ else _)
      rw [if_neg (by intro z; cases z)]
      refine L2.rd_ixR.mpr ⟨_, _, .inr (.of hph), rfl, (n : Int), rfl, _, rfl, ?_⟩
      rw [if_neg (by decide)]
      refine ⟨by decide, fun pt H7 _ s7 hpt => ?_⟩
      have sd : SeqAt.shaped (.tuple [.int (n : Int), .bool true]) = true := (LayAt.tup (n := 0) (ds := [.int (n : Int), .bool true]) fun d hd => by
        rcases List.mem_cons.mp hd with rfl | hd
        · exact LayAt.iD (o := some (n : Int))
        · rw [List.mem_singleton.mp hd]; exact LayAt.bool).shaped (by decide)
      refine ⟨.tuple [.int (n : Int), .bool true], .tuple [.int (n : Int), .bool true], .tup (s7 _ _ hph) (.cons (.int _) (.cons (.bl _) .nil)), .tup hpt (.cons (.int _) (.cons (.bl _) .nil)), sd, sd, _, rfl, ?_⟩
      rw [show PyData.eqv (.tuple [.int (n : Int), .bool true]) (.tuple [.int (n : Int), .bool true]) = true by simp [PyData.eqv, PyData.eqvAll], if_neg (by decide)]
      exact ⟨((((s3.trans s4).trans s5).trans s6).trans s7), _, _, _, _, _, _, rfl, rfl, rfl, rfl, rfl, rfl⟩
    · rintro σ H3 ⟨s3, v1, v2, v3, v4, v5, v6, rfl⟩
      walk_at "rd"
      have eS : Str.ofString "/" = ⟨[47].toArray⟩ := by decide +kernel
      refine ⟨_, rfl, .inr ⟨[], rfl, by decide, (fun c hc => by cases hc), fun x ex u H4 s4 hu => ?_, fun k' ek => by rw [read_nil] at ek; cases ek⟩⟩
      rw [read_nil] at ex
      have ex := (Except.ok.inj ex).symm
      have wx : x.Wf := read_wf (by rw [read_nil, ex])
      refine ⟨by decide, fun q1 G1 _ t1 h1 => ⟨by decide, fun q2 G2 _ t2 h2 => ⟨by decide, fun q3 G3 _ t3 h3 => ?_⟩⟩⟩
      have hd : IsT G3 x.data (.ref q3) := by rw [ex]; exact adT (x := ⟨[], none, none, false, [], false, none, none⟩) h3 (wayT' (ss := []) (t3 _ _ h2) ((t2.trans t3) _ _ h1)) .non
      refine ⟨_, _, (hu.mono ((t1.trans t2).trans t3).toT).k, hd.k, wx.shaped, wx.shaped, _, rfl, ?_⟩
      rw [(Ad.eqv_iff _ _).mpr rfl]
      refine ite2 (fun z => absurd z (by decide)) (fun _ => ?_)
      rw [eS]
      refine ⟨_, rfl, .inr ⟨[47], rfl, by decide, (fun c hc => by rw [List.mem_singleton.mp hc]; decide), fun y ey u2 H6 s6 hu2 => ?_, fun k' ek => by rw [read_slash] at ek; cases ek⟩⟩
      rw [read_slash] at ey
      have ey := (Except.ok.inj ey).symm
      have wy : y.Wf := read_wf (by rw [read_slash, ey])
      refine ⟨by decide, fun q1 G1 _ t1 h1 => ⟨by decide, fun q2 G2 _ t2 h2 => ⟨by decide, fun q3 G3 _ t3 h3 => ?_⟩⟩⟩
      have hd : IsT G3 y.data (.ref q3) := by rw [ey]; exact adT (x := ⟨[], none, none, true, [], true, none, none⟩) h3 (wayT' (ss := []) (t3 _ _ h2) ((t2.trans t3) _ _ h1)) .non
      refine ⟨_, _, (hu2.mono ((t1.trans t2).trans t3).toT).k, hd.k, wy.shaped, wy.shaped, ?_⟩
      rw [(Ad.eqv_iff _ _).mpr rfl]
      exact k G3
end
theorem all_mk {l : PySem.W.OpenLaw} {w : World} {K : PySem.W.Frag} {h : Heap} {mg : Str → Option Value} {fa : Addr} (X : K.In h) (Gl : h.Ns mainGlobals mg) (hfa : mg "law" = some (.ref fa))
    {kC_Cursor : Addr} (aC_Cursor : PySem.W.nsIn K mainGlobals "Cursor" = some (some (.ref kC_Cursor)))
    {eC_NoAddress : Addr} (en_NoAddress : PySem.W.nsIn K mainGlobals "NoAddress" = some (some (.ref eC_NoAddress)))
    {eC_NoRow : Addr} (en_NoRow : PySem.W.nsIn K mainGlobals "NoRow" = some (some (.ref eC_NoRow)))
    {eC_WayError : Addr} (en_WayError : PySem.W.nsIn K mainGlobals "WayError" = some (some (.ref eC_WayError)))
    {eC_NoName : Addr} (en_NoName : PySem.W.nsIn K mainGlobals "NoName" = some (some (.ref eC_NoName)))
    {eC_NoValue : Addr} (en_NoValue : PySem.W.nsIn K mainGlobals "NoValue" = some (some (.ref eC_NoValue)))
    {eC_NoPattern : Addr} (en_NoPattern : PySem.W.nsIn K mainGlobals "NoPattern" = some (some (.ref eC_NoPattern)))
    {eC_NoBase : Addr} (en_NoBase : PySem.W.nsIn K mainGlobals "NoBase" = some (some (.ref eC_NoBase)))
    {f1 : Addr} {od1 an1 : Option Addr} {sl1 : Array (Option Value)} {oc1 kV1 dc1 pm1 cd1 ct1 : Value}
    (a1 : PySem.W.nsIn K mainGlobals "made_of" = some (some (.ref f1))) (l1 : K.lookup f1 = some ⟨oc1, od1, .func (PySem.W.fnOf "made_of" "made_of" (defArgs s_made_of) (defBody s_made_of) (defScope s_made_of) .none kV1 dc1 pm1 an1 cd1 ct1), sl1⟩)
    {f2 : Addr} {od2 an2 : Option Addr} {sl2 : Array (Option Value)} {oc2 kV2 dc2 pm2 cd2 ct2 : Value}
    (a2 : PySem.W.nsIn K mainGlobals "figure_number" = some (some (.ref f2))) (l2 : K.lookup f2 = some ⟨oc2, od2, .func (PySem.W.fnOf "figure_number" "figure_number" (defArgs s_figure_number) (defBody s_figure_number) (defScope s_figure_number) .none kV2 dc2 pm2 an2 cd2 ct2), sl2⟩)
    {f3 : Addr} {od3 an3 : Option Addr} {sl3 : Array (Option Value)} {oc3 kV3 dc3 pm3 cd3 ct3 : Value}
    (a3 : PySem.W.nsIn K mainGlobals "sign_numbered" = some (some (.ref f3))) (l3 : K.lookup f3 = some ⟨oc3, od3, .func (PySem.W.fnOf "sign_numbered" "sign_numbered" (defArgs s_sign_numbered) (defBody s_sign_numbered) (defScope s_sign_numbered) .none kV3 dc3 pm3 an3 cd3 ct3), sl3⟩)
    {f4 : Addr} {od4 an4 : Option Addr} {sl4 : Array (Option Value)} {oc4 kV4 dc4 pm4 cd4 ct4 : Value}
    (a4 : PySem.W.findIn K (.ref eC_NoAddress) "__init__" = some (some (.ref f4))) (i4 : PySem.W.isFn K (.ref f4) = true) (l4 : K.lookup f4 = some ⟨oc4, od4, .func (PySem.W.fnOf "__init__" "NoAddress.__init__" (defArgs s_NoAddress___init__) (defBody s_NoAddress___init__) (defScope s_NoAddress___init__) .none kV4 dc4 pm4 an4 cd4 ct4), sl4⟩)
    {f5 : Addr} {od5 an5 : Option Addr} {sl5 : Array (Option Value)} {oc5 kV5 dc5 pm5 cd5 ct5 : Value}
    (a5 : PySem.W.findIn K (.ref kC_Cursor) "__init__" = some (some (.ref f5))) (i5 : PySem.W.isFn K (.ref f5) = true) (l5 : K.lookup f5 = some ⟨oc5, od5, .func (PySem.W.fnOf "__init__" "Cursor.__init__" (defArgs s_Cursor___init__) (defBody s_Cursor___init__) (defScope s_Cursor___init__) .none kV5 dc5 pm5 an5 cd5 ct5), sl5⟩)
    {f6 : Addr} {od6 an6 : Option Addr} {sl6 : Array (Option Value)} {oc6 kV6 dc6 pm6 cd6 ct6 : Value}
    (a6 : PySem.W.findIn K (.ref kC_Cursor) "at_end" = some (some (.ref f6))) (i6 : PySem.W.isFn K (.ref f6) = true) (l6 : K.lookup f6 = some ⟨oc6, od6, .func (PySem.W.fnOf "at_end" "Cursor.at_end" (defArgs s_Cursor_at_end) (defBody s_Cursor_at_end) (defScope s_Cursor_at_end) .none kV6 dc6 pm6 an6 cd6 ct6), sl6⟩)
    {f7 : Addr} {od7 an7 : Option Addr} {sl7 : Array (Option Value)} {oc7 kV7 dc7 pm7 cd7 ct7 : Value}
    (a7 : PySem.W.findIn K (.ref kC_Cursor) "take" = some (some (.ref f7))) (i7 : PySem.W.isFn K (.ref f7) = true) (l7 : K.lookup f7 = some ⟨oc7, od7, .func (PySem.W.fnOf "take" "Cursor.take" (defArgs s_Cursor_take) (defBody s_Cursor_take) (defScope s_Cursor_take) .none kV7 dc7 pm7 an7 cd7 ct7), sl7⟩)
    {f8 : Addr} {od8 an8 : Option Addr} {sl8 : Array (Option Value)} {oc8 kV8 dc8 pm8 cd8 ct8 : Value}
    (a8 : PySem.W.findIn K (.ref kC_Cursor) "passes" = some (some (.ref f8))) (i8 : PySem.W.isFn K (.ref f8) = true) (l8 : K.lookup f8 = some ⟨oc8, od8, .func (PySem.W.fnOf "passes" "Cursor.passes" (defArgs s_Cursor_passes) (defBody s_Cursor_passes) (defScope s_Cursor_passes) .none kV8 dc8 pm8 an8 cd8 ct8), sl8⟩)
    {f9 : Addr} {od9 an9 : Option Addr} {sl9 : Array (Option Value)} {oc9 kV9 dc9 pm9 cd9 ct9 : Value}
    (a9 : PySem.W.nsIn K mainGlobals "door_with" = some (some (.ref f9))) (l9 : K.lookup f9 = some ⟨oc9, od9, .func (PySem.W.fnOf "door_with" "door_with" (defArgs s_door_with) (defBody s_door_with) (defScope s_door_with) .none kV9 dc9 pm9 an9 cd9 ct9), sl9⟩)
    {f10 : Addr} {od10 an10 : Option Addr} {sl10 : Array (Option Value)} {oc10 kV10 dc10 pm10 cd10 ct10 : Value}
    (a10 : PySem.W.nsIn K mainGlobals "_law_whole" = some (some (.ref f10))) (l10 : K.lookup f10 = some ⟨oc10, od10, .func (PySem.W.fnOf "_law_whole" "_law_whole" (defArgs s__law_whole) (defBody s__law_whole) (defScope s__law_whole) .none kV10 dc10 pm10 an10 cd10 ct10), sl10⟩)
    {f11 : Addr} {od11 an11 : Option Addr} {sl11 : Array (Option Value)} {oc11 kV11 dc11 pm11 cd11 ct11 : Value}
    (a11 : PySem.W.nsIn K mainGlobals "_law_lone" = some (some (.ref f11))) (l11 : K.lookup f11 = some ⟨oc11, od11, .func (PySem.W.fnOf "_law_lone" "_law_lone" (defArgs s__law_lone) (defBody s__law_lone) (defScope s__law_lone) .none kV11 dc11 pm11 an11 cd11 ct11), sl11⟩)
    {f12 : Addr} {od12 an12 : Option Addr} {sl12 : Array (Option Value)} {oc12 kV12 dc12 pm12 cd12 ct12 : Value}
    (a12 : PySem.W.nsIn K mainGlobals "is_text" = some (some (.ref f12))) (l12 : K.lookup f12 = some ⟨oc12, od12, .func (PySem.W.fnOf "is_text" "is_text" (defArgs s_is_text) (defBody s_is_text) (defScope s_is_text) .none kV12 dc12 pm12 an12 cd12 ct12), sl12⟩)
    {f13 : Addr} {od13 an13 : Option Addr} {sl13 : Array (Option Value)} {oc13 kV13 dc13 pm13 cd13 ct13 : Value}
    (a13 : PySem.W.nsIn K mainGlobals "sign_of" = some (some (.ref f13))) (l13 : K.lookup f13 = some ⟨oc13, od13, .func (PySem.W.fnOf "sign_of" "sign_of" (defArgs s_sign_of) (defBody s_sign_of) (defScope s_sign_of) .none kV13 dc13 pm13 an13 cd13 ct13), sl13⟩)
    {f14 : Addr} {od14 an14 : Option Addr} {sl14 : Array (Option Value)} {oc14 kV14 dc14 pm14 cd14 ct14 : Value}
    (a14 : PySem.W.findIn K (.ref kC_Cursor) "sees" = some (some (.ref f14))) (i14 : PySem.W.isFn K (.ref f14) = true) (l14 : K.lookup f14 = some ⟨oc14, od14, .func (PySem.W.fnOf "sees" "Cursor.sees" (defArgs s_Cursor_sees) (defBody s_Cursor_sees) (defScope s_Cursor_sees) .none kV14 dc14 pm14 an14 cd14 ct14), sl14⟩)
    {f15 : Addr} {od15 an15 : Option Addr} {sl15 : Array (Option Value)} {oc15 kV15 dc15 pm15 cd15 ct15 : Value}
    (a15 : PySem.W.nsIn K mainGlobals "is_scheme" = some (some (.ref f15))) (l15 : K.lookup f15 = some ⟨oc15, od15, .func (PySem.W.fnOf "is_scheme" "is_scheme" (defArgs s_is_scheme) (defBody s_is_scheme) (defScope s_is_scheme) .none kV15 dc15 pm15 an15 cd15 ct15), sl15⟩)
    {f16 : Addr} {od16 an16 : Option Addr} {sl16 : Array (Option Value)} {oc16 kV16 dc16 pm16 cd16 ct16 : Value}
    (a16 : PySem.W.nsIn K mainGlobals "taken_door" = some (some (.ref f16))) (l16 : K.lookup f16 = some ⟨oc16, od16, .func (PySem.W.fnOf "taken_door" "taken_door" (defArgs s_taken_door) (defBody s_taken_door) (defScope s_taken_door) .none kV16 dc16 pm16 an16 cd16 ct16), sl16⟩)
    {f17 : Addr} {od17 an17 : Option Addr} {sl17 : Array (Option Value)} {oc17 kV17 dc17 pm17 cd17 ct17 : Value}
    (a17 : PySem.W.nsIn K mainGlobals "taken_pair" = some (some (.ref f17))) (l17 : K.lookup f17 = some ⟨oc17, od17, .func (PySem.W.fnOf "taken_pair" "taken_pair" (defArgs s_taken_pair) (defBody s_taken_pair) (defScope s_taken_pair) .none kV17 dc17 pm17 an17 cd17 ct17), sl17⟩)
    {f18 : Addr} {od18 an18 : Option Addr} {sl18 : Array (Option Value)} {oc18 kV18 dc18 pm18 cd18 ct18 : Value}
    (a18 : PySem.W.nsIn K mainGlobals "taken_scheme" = some (some (.ref f18))) (l18 : K.lookup f18 = some ⟨oc18, od18, .func (PySem.W.fnOf "taken_scheme" "taken_scheme" (defArgs s_taken_scheme) (defBody s_taken_scheme) (defScope s_taken_scheme) .none kV18 dc18 pm18 an18 cd18 ct18), sl18⟩)
    {f19 : Addr} {od19 an19 : Option Addr} {sl19 : Array (Option Value)} {oc19 kV19 dc19 pm19 cd19 ct19 : Value}
    {T19 : Addr} {ocT19 : Value} {odT19 : Option Addr} {nT19 : Nat} {slT19 : Array (Option Value)} {dt19_0 : Tok}
    (a19 : PySem.W.nsIn K mainGlobals "taken_text" = some (some (.ref f19))) (l19 : K.lookup f19 = some ⟨oc19, od19, .func (PySem.W.fnOf "taken_text" "taken_text" (defArgs s_taken_text) (defBody s_taken_text) (defScope s_taken_text) (.ref T19) kV19 dc19 pm19 an19 cd19 ct19), sl19⟩)
    (d19 : K.lookup T19 = some ⟨ocT19, odT19, .seq #[.none] nT19, slT19⟩)
    {f20 : Addr} {od20 an20 : Option Addr} {sl20 : Array (Option Value)} {oc20 kV20 dc20 pm20 cd20 ct20 : Value}
    (a20 : PySem.W.nsIn K mainGlobals "taken_way" = some (some (.ref f20))) (l20 : K.lookup f20 = some ⟨oc20, od20, .func (PySem.W.fnOf "taken_way" "taken_way" (defArgs s_taken_way) (defBody s_taken_way) (defScope s_taken_way) .none kV20 dc20 pm20 an20 cd20 ct20), sl20⟩)
    {f21 : Addr} {od21 an21 : Option Addr} {sl21 : Array (Option Value)} {oc21 kV21 dc21 pm21 cd21 ct21 : Value}
    (a21 : PySem.W.nsIn K mainGlobals "taken_value" = some (some (.ref f21))) (l21 : K.lookup f21 = some ⟨oc21, od21, .func (PySem.W.fnOf "taken_value" "taken_value" (defArgs s_taken_value) (defBody s_taken_value) (defScope s_taken_value) .none kV21 dc21 pm21 an21 cd21 ct21), sl21⟩)
    {f22 : Addr} {od22 an22 : Option Addr} {sl22 : Array (Option Value)} {oc22 kV22 dc22 pm22 cd22 ct22 : Value}
    (a22 : PySem.W.nsIn K mainGlobals "taken_mark" = some (some (.ref f22))) (l22 : K.lookup f22 = some ⟨oc22, od22, .func (PySem.W.fnOf "taken_mark" "taken_mark" (defArgs s_taken_mark) (defBody s_taken_mark) (defScope s_taken_mark) .none kV22 dc22 pm22 an22 cd22 ct22), sl22⟩)
    {f23 : Addr} {od23 an23 : Option Addr} {sl23 : Array (Option Value)} {oc23 kV23 dc23 pm23 cd23 ct23 : Value}
    {T23 : Addr} {ocT23 : Value} {odT23 : Option Addr} {nT23 : Nat} {slT23 : Array (Option Value)} {dt23_0 : Tok}
    (a23 : PySem.W.nsIn K mainGlobals "taken_filled_text" = some (some (.ref f23))) (l23 : K.lookup f23 = some ⟨oc23, od23, .func (PySem.W.fnOf "taken_filled_text" "taken_filled_text" (defArgs s_taken_filled_text) (defBody s_taken_filled_text) (defScope s_taken_filled_text) (.ref T23) kV23 dc23 pm23 an23 cd23 ct23), sl23⟩)
    (d23 : K.lookup T23 = some ⟨ocT23, odT23, .seq #[.none] nT23, slT23⟩)
    {f24 : Addr} {od24 an24 : Option Addr} {sl24 : Array (Option Value)} {oc24 kV24 dc24 pm24 cd24 ct24 : Value}
    (a24 : PySem.W.nsIn K mainGlobals "taken_house" = some (some (.ref f24))) (l24 : K.lookup f24 = some ⟨oc24, od24, .func (PySem.W.fnOf "taken_house" "taken_house" (defArgs s_taken_house) (defBody s_taken_house) (defScope s_taken_house) .none kV24 dc24 pm24 an24 cd24 ct24), sl24⟩)
    {f25 : Addr} {od25 an25 : Option Addr} {sl25 : Array (Option Value)} {oc25 kV25 dc25 pm25 cd25 ct25 : Value}
    (a25 : PySem.W.nsIn K mainGlobals "taken_question" = some (some (.ref f25))) (l25 : K.lookup f25 = some ⟨oc25, od25, .func (PySem.W.fnOf "taken_question" "taken_question" (defArgs s_taken_question) (defBody s_taken_question) (defScope s_taken_question) .none kV25 dc25 pm25 an25 cd25 ct25), sl25⟩)
    {f26 : Addr} {od26 an26 : Option Addr} {sl26 : Array (Option Value)} {oc26 kV26 dc26 pm26 cd26 ct26 : Value}
    (a26 : PySem.W.nsIn K mainGlobals "read" = some (some (.ref f26))) (l26 : K.lookup f26 = some ⟨oc26, od26, .func (PySem.W.fnOf "read" "read" (defArgs s_read) (defBody s_read) (defScope s_read) .none kV26 dc26 pm26 an26 cd26 ct26), sl26⟩)
    {f27 : Addr} {od27 an27 : Option Addr} {sl27 : Array (Option Value)} {oc27 kV27 dc27 pm27 cd27 ct27 : Value}
    (a27 : PySem.W.nsIn K mainGlobals "_law_asked" = some (some (.ref f27))) (l27 : K.lookup f27 = some ⟨oc27, od27, .func (PySem.W.fnOf "_law_asked" "_law_asked" (defArgs s__law_asked) (defBody s__law_asked) (defScope s__law_asked) .none kV27 dc27 pm27 an27 cd27 ct27), sl27⟩)
    {f28 : Addr} {od28 an28 : Option Addr} {sl28 : Array (Option Value)} {oc28 kV28 dc28 pm28 cd28 ct28 : Value}
    (a28 : PySem.W.nsIn K mainGlobals "law" = some (some (.ref f28))) (l28 : K.lookup f28 = some ⟨oc28, od28, .func (PySem.W.fnOf "law" "law" (defArgs s_law) (defBody s_law) (defScope s_law) .none kV28 dc28 pm28 an28 cd28 ct28), sl28⟩)
    {t_SIGNS : Tok} (e_SIGNS : PySem.W.nsIn K mainGlobals "SIGNS" = some (some (.str (Str.ofString " !\"#$&'()*+,-./0123456789:;<=>?@ABCDEFGHIJKLMNOPQRSTUVWXYZ[\\]^_`abcdefghijklmnopqrstuvwxyz{|}~") t_SIGNS)))
    {t_LETTERS : Tok} (e_LETTERS : PySem.W.nsIn K mainGlobals "LETTERS" = some (some (.str (Str.ofString "abcdefghijklmnopqrstuvwxyzABCDEFGHIJKLMNOPQRSTUVWXYZ") t_LETTERS)))
    {t_LETTERS_AND_FIGURES : Tok} (e_LETTERS_AND_FIGURES : PySem.W.nsIn K mainGlobals "LETTERS_AND_FIGURES" = some (some (.str (Str.ofString "abcdefghijklmnopqrstuvwxyzABCDEFGHIJKLMNOPQRSTUVWXYZ0123456789") t_LETTERS_AND_FIGURES)))
    {t_FIGURES : Tok} (e_FIGURES : PySem.W.nsIn K mainGlobals "FIGURES" = some (some (.str (Str.ofString "0123456789") t_FIGURES)))
    {t_PLAIN : Tok} (e_PLAIN : PySem.W.nsIn K mainGlobals "PLAIN" = some (some (.str (Str.ofString "abcdefghijklmnopqrstuvwxyzABCDEFGHIJKLMNOPQRSTUVWXYZ0123456789-_.") t_PLAIN)))
    {t_FREE_IN_STEPS : Tok} (e_FREE_IN_STEPS : PySem.W.nsIn K mainGlobals "FREE_IN_STEPS" = some (some (.str (Str.ofString "!$'()*,;@&=+") t_FREE_IN_STEPS)))
    {t_FREE_IN_QUESTIONS : Tok} (e_FREE_IN_QUESTIONS : PySem.W.nsIn K mainGlobals "FREE_IN_QUESTIONS" = some (some (.str (Str.ofString "!$'()*,;@+/?:") t_FREE_IN_QUESTIONS)))
    {t_FREE_IN_MARKS : Tok} (e_FREE_IN_MARKS : PySem.W.nsIn K mainGlobals "FREE_IN_MARKS" = some (some (.str (Str.ofString "!$'()*,;@&=+/?:") t_FREE_IN_MARKS)))
    {t_FIRST_NUMBER : Tok} (e_FIRST_NUMBER : PySem.W.nsIn K mainGlobals "FIRST_NUMBER" = some (some (.int 32 t_FIRST_NUMBER)))
    {t_LAST_NUMBER : Tok} (e_LAST_NUMBER : PySem.W.nsIn K mainGlobals "LAST_NUMBER" = some (some (.int 126 t_LAST_NUMBER)))
    {t_NUMBER_LEFT_OUT : Tok} (e_NUMBER_LEFT_OUT : PySem.W.nsIn K mainGlobals "NUMBER_LEFT_OUT" = some (some (.int 37 t_NUMBER_LEFT_OUT)))
    {t_SMALL_FIGURES : Tok} (e_SMALL_FIGURES : PySem.W.nsIn K mainGlobals "SMALL_FIGURES" = some (some (.str (Str.ofString "0123456789abcdef") t_SMALL_FIGURES)))
    {t_GREAT_FIGURES : Tok} (e_GREAT_FIGURES : PySem.W.nsIn K mainGlobals "GREAT_FIGURES" = some (some (.str (Str.ofString "0123456789ABCDEF") t_GREAT_FIGURES)))
    {t_LONGEST_SCHEME : Tok} (e_LONGEST_SCHEME : PySem.W.nsIn K mainGlobals "LONGEST_SCHEME" = some (some (.int 8 t_LONGEST_SCHEME)))
    {t_LONGEST_HOUSE : Tok} (e_LONGEST_HOUSE : PySem.W.nsIn K mainGlobals "LONGEST_HOUSE" = some (some (.int 60 t_LONGEST_HOUSE)))
    {t_LAST_DOOR : Tok} (e_LAST_DOOR : PySem.W.nsIn K mainGlobals "LAST_DOOR" = some (some (.int 65535 t_LAST_DOOR)))
    {t_FIRST_FIGURES : Tok} (e_FIRST_FIGURES : PySem.W.nsIn K mainGlobals "FIRST_FIGURES" = some (some (.str (Str.ofString "234567") t_FIRST_FIGURES)))
    (z_all : PySem.W.nsIn K mainGlobals "all" = some none)
    (z_len : PySem.W.nsIn K mainGlobals "len" = some none)
    (z_int : PySem.W.nsIn K mainGlobals "int" = some none)
    (z_isinstance : PySem.W.nsIn K mainGlobals "isinstance" = some none)
    (z_bool : PySem.W.nsIn K mainGlobals "bool" = some none)
    (z_ValueError : PySem.W.nsIn K mainGlobals "ValueError" = some none)
    (z_str : PySem.W.nsIn K mainGlobals "str" = some none)
    (z_tuple : PySem.W.nsIn K mainGlobals "tuple" = some none)
    (ew1_NoAddress : PySem.W.typeIn K (.ref eC_NoAddress) = some (.type "type"))
    (ew2_NoAddress : PySem.W.subIn K (.ref eC_NoAddress) (.type "BaseException") = some true)
    (ew3_NoAddress : (PySem.W.clsIn K eC_NoAddress).isSome = true)
    (el0_NoAddress : PySem.W.findIn K (.ref eC_NoAddress) "__getattribute__" = some (some (.builtin "BaseException.__getattribute__")))
    (el1_NoAddress : PySem.W.findIn K (.ref eC_NoAddress) "__class__" = some (some (.builtin "object.__class__")))
    (el2_NoAddress : PySem.W.findIn K (.ref eC_NoAddress) "__getattr__" = some none)
    (el3_NoAddress : PySem.W.mroIn K eC_NoAddress (.type "object") = some true)
    (el4_NoAddress : PySem.W.mroIn K eC_NoAddress (.type "BaseException") = some true)
    (el5_NoAddress : (PySem.W.clsIn K eC_NoAddress).isSome = true)
    (ey_NoAddress : excInI K eC_NoAddress vErr vNew f4 = true)
    (ek_NoAddress : PySem.W.keepIn K (.ref eC_NoAddress) = true)
    (es_NoAddress : PySem.W.findIn K (.ref eC_NoAddress) "__setattr__" = some (some (.builtin "object.__setattr__")))
    (eo_NoAddress : overErr K eC_NoAddress = true)
    (eh_NoAddress : PySem.W.hasDictIn K eC_NoAddress = true)
    (ef_NoAddress_at : PySem.W.findIn K (.ref eC_NoAddress) "at" = some none)
    (eu_NoAddress_NoAddress : PySem.W.subIn K (.ref eC_NoAddress) (.ref eC_NoAddress) = some true)
    (ei_NoAddress_NoBase : PySem.W.kitOne K (.ref eC_NoAddress) (.ref eC_NoBase) = some false)
    (ei_NoAddress_NoPattern : PySem.W.kitOne K (.ref eC_NoAddress) (.ref eC_NoPattern) = some false)
    (ei_NoAddress_NoValue : PySem.W.kitOne K (.ref eC_NoAddress) (.ref eC_NoValue) = some false)
    (ei_NoAddress_NoName : PySem.W.kitOne K (.ref eC_NoAddress) (.ref eC_NoName) = some false)
    (ei_NoAddress_WayError : PySem.W.kitOne K (.ref eC_NoAddress) (.ref eC_WayError) = some true)
    (ei_NoAddress_ValueError : PySem.W.kitOne K (.ref eC_NoAddress) (.type "ValueError") = some true)
    (ei_NoAddress_NoRow : PySem.W.kitOne K (.ref eC_NoAddress) (.ref eC_NoRow) = some false)
    (pg_Cursor : PySem.W.plainGet K kC_Cursor Str.empty = true)
    (hd_Cursor : PySem.W.hasDictIn K kC_Cursor = true)
    (po_Cursor : PySem.W.plainOver K kC_Cursor = true)
    (sa_Cursor : PySem.W.findIn K (.ref kC_Cursor) "__setattr__" = some (some (.builtin "object.__setattr__")))
    (mk_Cursor : PySem.W.makesIn K kC_Cursor = true)
    (kc_Cursor : PySem.W.keepIn K (.ref kC_Cursor) = true)
    (nf_Cursor_text : PySem.W.findIn K (.ref kC_Cursor) "text" = some none)
    (nf_Cursor_place : PySem.W.findIn K (.ref kC_Cursor) "place" = some none)
    (kk : (PySem.W.keepIn K (.ref f1) && (PySem.W.keepIn K (.ref f2) && (PySem.W.keepIn K (.ref f3) && (PySem.W.keepIn K (.ref f4) && (PySem.W.keepIn K (.ref f5) && (PySem.W.keepIn K (.ref f6) && (PySem.W.keepIn K (.ref f7) && (PySem.W.keepIn K (.ref f8) && (PySem.W.keepIn K (.ref f9) && (PySem.W.keepIn K (.ref f10) && (PySem.W.keepIn K (.ref f11) && (PySem.W.keepIn K (.ref f12) && (PySem.W.keepIn K (.ref f13) && (PySem.W.keepIn K (.ref f14) && (PySem.W.keepIn K (.ref f15) && (PySem.W.keepIn K (.ref f16) && (PySem.W.keepIn K (.ref f17) && (PySem.W.keepIn K (.ref f18) && (PySem.W.keepIn K (.ref f19) && (PySem.W.keepIn K (.ref f20) && (PySem.W.keepIn K (.ref f21) && (PySem.W.keepIn K (.ref f22) && (PySem.W.keepIn K (.ref f23) && (PySem.W.keepIn K (.ref f24) && (PySem.W.keepIn K (.ref f25) && (PySem.W.keepIn K (.ref f26) && (PySem.W.keepIn K (.ref f27) && (PySem.W.keepIn K (.ref f28))))))))))))))))))))))))))))) = true)
    (cc : (PySem.W.codeIn K cd1 "made_of" && (PySem.W.codeIn K cd2 "figure_number" && (PySem.W.codeIn K cd3 "sign_numbered" && (PySem.W.codeIn K cd4 "NoAddress.__init__" && (PySem.W.codeIn K cd5 "Cursor.__init__" && (PySem.W.codeIn K cd6 "Cursor.at_end" && (PySem.W.codeIn K cd7 "Cursor.take" && (PySem.W.codeIn K cd8 "Cursor.passes" && (PySem.W.codeIn K cd9 "door_with" && (PySem.W.codeIn K cd10 "_law_whole" && (PySem.W.codeIn K cd11 "_law_lone" && (PySem.W.codeIn K cd12 "is_text" && (PySem.W.codeIn K cd13 "sign_of" && (PySem.W.codeIn K cd14 "Cursor.sees" && (PySem.W.codeIn K cd15 "is_scheme" && (PySem.W.codeIn K cd16 "taken_door" && (PySem.W.codeIn K cd17 "taken_pair" && (PySem.W.codeIn K cd18 "taken_scheme" && (PySem.W.codeIn K cd19 "taken_text" && (PySem.W.codeIn K cd20 "taken_way" && (PySem.W.codeIn K cd21 "taken_value" && (PySem.W.codeIn K cd22 "taken_mark" && (PySem.W.codeIn K cd23 "taken_filled_text" && (PySem.W.codeIn K cd24 "taken_house" && (PySem.W.codeIn K cd25 "taken_question" && (PySem.W.codeIn K cd26 "read" && (PySem.W.codeIn K cd27 "_law_asked" && (PySem.W.codeIn K cd28 "law")))))))))))))))))))))))))))) = true) :
    ∃ fd : FuncData, (∀ (s : Shared) (v : Value), BindsTo s fd ⟨[v], []⟩ [("_law_script", v)]) ∧ ∀ base : Heap, K.In base → base.Ns mainGlobals mg → FnOk l.prog w K mg base CX0 9 fa fd ["_law_script"] (sp_law K) := by
  simp only [Bool.and_eq_true] at kk cc
  obtain ⟨k1, k2, k3, k4, k5, k6, k7, k8, k9, k10, k11, k12, k13, k14, k15, k16, k17, k18, k19, k20, k21, k22, k23, k24, k25, k26, k27, k28⟩ := kk
  obtain ⟨c1, c2, c3, c4, c5, c6, c7, c8, c9, c10, c11, c12, c13, c14, c15, c16, c17, c18, c19, c20, c21, c22, c23, c24, c25, c26, c27, c28⟩ := cc
  have e := hfa.symm.trans (PySem.W.mg_of X Gl a28)
  have e2 : f28 = fa := by cases e; rfl
  subst e2
  let g : G K mg := {
    a_made_of := f1, fd_made_of := _, F_made_of := fun_mk (st := s_made_of) l1 c1 k1, m_made_of := PySem.W.mg_of X Gl a1,
    b_made_of := (fun_mk (st := s_made_of) l1 c1 k1).binds (ps := ["text", "signs"]) fun _ _ _ _ _ _ us hl => match us, hl with | [_, _], _ => rfl,
    a_figure_number := f2, fd_figure_number := _, F_figure_number := fun_mk (st := s_figure_number) l2 c2 k2, m_figure_number := PySem.W.mg_of X Gl a2,
    b_figure_number := (fun_mk (st := s_figure_number) l2 c2 k2).binds (ps := ["figure"]) fun _ _ _ _ _ _ us hl => match us, hl with | [_], _ => rfl,
    a_sign_numbered := f3, fd_sign_numbered := _, F_sign_numbered := fun_mk (st := s_sign_numbered) l3 c3 k3, m_sign_numbered := PySem.W.mg_of X Gl a3,
    b_sign_numbered := (fun_mk (st := s_sign_numbered) l3 c3 k3).binds (ps := ["number"]) fun _ _ _ _ _ _ us hl => match us, hl with | [_], _ => rfl,
    a_NoAddress___init__ := f4, fd_NoAddress___init__ := _, F_NoAddress___init__ := fun_mk (st := s_NoAddress___init__) l4 c4 k4,
    b_NoAddress___init__ := (fun_mk (st := s_NoAddress___init__) l4 c4 k4).binds (ps := ["self", "at"]) fun _ _ _ _ _ _ us hl => match us, hl with | [_, _], _ => rfl,
    a_Cursor___init__ := f5, fd_Cursor___init__ := _, F_Cursor___init__ := fun_mk (st := s_Cursor___init__) l5 c5 k5,
    b_Cursor___init__ := (fun_mk (st := s_Cursor___init__) l5 c5 k5).binds (ps := ["self", "text"]) fun _ _ _ _ _ _ us hl => match us, hl with | [_, _], _ => rfl,
    a_Cursor_at_end := f6, fd_Cursor_at_end := _, F_Cursor_at_end := fun_mk (st := s_Cursor_at_end) l6 c6 k6, me_Cursor_at_end := ⟨a6, i6, k6⟩,
    b_Cursor_at_end := (fun_mk (st := s_Cursor_at_end) l6 c6 k6).binds (ps := ["self"]) fun _ _ _ _ _ _ us hl => match us, hl with | [_], _ => rfl,
    a_Cursor_take := f7, fd_Cursor_take := _, F_Cursor_take := fun_mk (st := s_Cursor_take) l7 c7 k7, me_Cursor_take := ⟨a7, i7, k7⟩,
    b_Cursor_take := (fun_mk (st := s_Cursor_take) l7 c7 k7).binds (ps := ["self"]) fun _ _ _ _ _ _ us hl => match us, hl with | [_], _ => rfl,
    a_Cursor_passes := f8, fd_Cursor_passes := _, F_Cursor_passes := fun_mk (st := s_Cursor_passes) l8 c8 k8, me_Cursor_passes := ⟨a8, i8, k8⟩,
    b_Cursor_passes := (fun_mk (st := s_Cursor_passes) l8 c8 k8).binds (ps := ["self", "text"]) fun _ _ _ _ _ _ us hl => match us, hl with | [_, _], _ => rfl,
    a_door_with := f9, fd_door_with := _, F_door_with := fun_mk (st := s_door_with) l9 c9 k9, m_door_with := PySem.W.mg_of X Gl a9,
    b_door_with := (fun_mk (st := s_door_with) l9 c9 k9).binds (ps := ["door", "cursor"]) fun _ _ _ _ _ _ us hl => match us, hl with | [_, _], _ => rfl,
    a__law_whole := f10, fd__law_whole := _, F__law_whole := fun_mk (st := s__law_whole) l10 c10 k10, m__law_whole := PySem.W.mg_of X Gl a10,
    b__law_whole := (fun_mk (st := s__law_whole) l10 c10 k10).binds (ps := ["_law_found"]) fun _ _ _ _ _ _ us hl => match us, hl with | [_], _ => rfl,
    a__law_lone := f11, fd__law_lone := _, F__law_lone := fun_mk (st := s__law_lone) l11 c11 k11, m__law_lone := PySem.W.mg_of X Gl a11,
    b__law_lone := (fun_mk (st := s__law_lone) l11 c11 k11).binds (ps := ["_law_e"]) fun _ _ _ _ _ _ us hl => match us, hl with | [_], _ => rfl,
    a_is_text := f12, fd_is_text := _, F_is_text := fun_mk (st := s_is_text) l12 c12 k12, m_is_text := PySem.W.mg_of X Gl a12,
    b_is_text := (fun_mk (st := s_is_text) l12 c12 k12).binds (ps := ["thing"]) fun _ _ _ _ _ _ us hl => match us, hl with | [_], _ => rfl,
    a_sign_of := f13, fd_sign_of := _, F_sign_of := fun_mk (st := s_sign_of) l13 c13 k13, m_sign_of := PySem.W.mg_of X Gl a13,
    b_sign_of := (fun_mk (st := s_sign_of) l13 c13 k13).binds (ps := ["figures"]) fun _ _ _ _ _ _ us hl => match us, hl with | [_], _ => rfl,
    a_Cursor_sees := f14, fd_Cursor_sees := _, F_Cursor_sees := fun_mk (st := s_Cursor_sees) l14 c14 k14, me_Cursor_sees := ⟨a14, i14, k14⟩,
    b_Cursor_sees := (fun_mk (st := s_Cursor_sees) l14 c14 k14).binds (ps := ["self", "signs"]) fun _ _ _ _ _ _ us hl => match us, hl with | [_, _], _ => rfl,
    a_is_scheme := f15, fd_is_scheme := _, F_is_scheme := fun_mk (st := s_is_scheme) l15 c15 k15, m_is_scheme := PySem.W.mg_of X Gl a15,
    b_is_scheme := (fun_mk (st := s_is_scheme) l15 c15 k15).binds (ps := ["thing"]) fun _ _ _ _ _ _ us hl => match us, hl with | [_], _ => rfl,
    a_taken_door := f16, fd_taken_door := _, F_taken_door := fun_mk (st := s_taken_door) l16 c16 k16, m_taken_door := PySem.W.mg_of X Gl a16,
    b_taken_door := (fun_mk (st := s_taken_door) l16 c16 k16).binds (ps := ["cursor"]) fun _ _ _ _ _ _ us hl => match us, hl with | [_], _ => rfl,
    a_taken_pair := f17, fd_taken_pair := _, F_taken_pair := fun_mk (st := s_taken_pair) l17 c17 k17, m_taken_pair := PySem.W.mg_of X Gl a17,
    b_taken_pair := (fun_mk (st := s_taken_pair) l17 c17 k17).binds (ps := ["cursor"]) fun _ _ _ _ _ _ us hl => match us, hl with | [_], _ => rfl,
    a_taken_scheme := f18, fd_taken_scheme := _, F_taken_scheme := fun_mk (st := s_taken_scheme) l18 c18 k18, m_taken_scheme := PySem.W.mg_of X Gl a18,
    b_taken_scheme := (fun_mk (st := s_taken_scheme) l18 c18 k18).binds (ps := ["cursor"]) fun _ _ _ _ _ _ us hl => match us, hl with | [_], _ => rfl,
    a_taken_text := f19, fd_taken_text := _, T_taken_text := T19, dt0_taken_text := dt19_0, F_taken_text := funD_mk (st := s_taken_text) l19 c19 k19, m_taken_text := PySem.W.mg_of X Gl a19,
    b_taken_text := (funD_mk (st := s_taken_text) l19 c19 k19).binds (ps := ["cursor", "free", "most"]) (ds := []) d19 fun _ _ _ _ _ _ us hl => match us, hl with | [_, _, _], _ => ⟨_, rfl, rfl⟩,
    bd_taken_text := (funD_mk (st := s_taken_text) l19 c19 k19).binds (ps := ["cursor", "free", "most"]) (ds := [.none]) d19 fun _ _ _ _ _ _ us hl => by obtain ⟨x, y, rfl⟩ := two_of3 hl; exact ⟨_, rfl, rfl⟩,
    a_taken_way := f20, fd_taken_way := _, F_taken_way := fun_mk (st := s_taken_way) l20 c20 k20, m_taken_way := PySem.W.mg_of X Gl a20,
    b_taken_way := (fun_mk (st := s_taken_way) l20 c20 k20).binds (ps := ["cursor", "must_be_rooted"]) fun _ _ _ _ _ _ us hl => match us, hl with | [_, _], _ => rfl,
    a_taken_value := f21, fd_taken_value := _, F_taken_value := fun_mk (st := s_taken_value) l21 c21 k21, m_taken_value := PySem.W.mg_of X Gl a21,
    b_taken_value := (fun_mk (st := s_taken_value) l21 c21 k21).binds (ps := ["cursor"]) fun _ _ _ _ _ _ us hl => match us, hl with | [_], _ => rfl,
    a_taken_mark := f22, fd_taken_mark := _, F_taken_mark := fun_mk (st := s_taken_mark) l22 c22 k22, m_taken_mark := PySem.W.mg_of X Gl a22,
    b_taken_mark := (fun_mk (st := s_taken_mark) l22 c22 k22).binds (ps := ["cursor"]) fun _ _ _ _ _ _ us hl => match us, hl with | [_], _ => rfl,
    a_taken_filled_text := f23, fd_taken_filled_text := _, T_taken_filled_text := T23, dt0_taken_filled_text := dt23_0, F_taken_filled_text := funD_mk (st := s_taken_filled_text) l23 c23 k23, m_taken_filled_text := PySem.W.mg_of X Gl a23,
    b_taken_filled_text := (funD_mk (st := s_taken_filled_text) l23 c23 k23).binds (ps := ["cursor", "free", "most"]) (ds := []) d23 fun _ _ _ _ _ _ us hl => match us, hl with | [_, _, _], _ => ⟨_, rfl, rfl⟩,
    bd_taken_filled_text := (funD_mk (st := s_taken_filled_text) l23 c23 k23).binds (ps := ["cursor", "free", "most"]) (ds := [.none]) d23 fun _ _ _ _ _ _ us hl => by obtain ⟨x, y, rfl⟩ := two_of3 hl; exact ⟨_, rfl, rfl⟩,
    a_taken_house := f24, fd_taken_house := _, F_taken_house := fun_mk (st := s_taken_house) l24 c24 k24, m_taken_house := PySem.W.mg_of X Gl a24,
    b_taken_house := (fun_mk (st := s_taken_house) l24 c24 k24).binds (ps := ["cursor"]) fun _ _ _ _ _ _ us hl => match us, hl with | [_], _ => rfl,
    a_taken_question := f25, fd_taken_question := _, F_taken_question := fun_mk (st := s_taken_question) l25 c25 k25, m_taken_question := PySem.W.mg_of X Gl a25,
    b_taken_question := (fun_mk (st := s_taken_question) l25 c25 k25).binds (ps := ["cursor"]) fun _ _ _ _ _ _ us hl => match us, hl with | [_], _ => rfl,
    a_read := f26, fd_read := _, F_read := fun_mk (st := s_read) l26 c26 k26, m_read := PySem.W.mg_of X Gl a26,
    b_read := (fun_mk (st := s_read) l26 c26 k26).binds (ps := ["text"]) fun _ _ _ _ _ _ us hl => match us, hl with | [_], _ => rfl,
    a__law_asked := f27, fd__law_asked := _, F__law_asked := fun_mk (st := s__law_asked) l27 c27 k27, m__law_asked := PySem.W.mg_of X Gl a27,
    b__law_asked := (fun_mk (st := s__law_asked) l27 c27 k27).binds (ps := ["_law_thing"]) fun _ _ _ _ _ _ us hl => match us, hl with | [_], _ => rfl,
    a_law := f28, fd_law := _, F_law := fun_mk (st := s_law) l28 c28 k28, m_law := PySem.W.mg_of X Gl a28,
    b_law := (fun_mk (st := s_law) l28 c28 k28).binds (ps := ["_law_script"]) fun _ _ _ _ _ _ us hl => match us, hl with | [_], _ => rfl,
    t_SIGNS := t_SIGNS, c_SIGNS := PySem.W.mg_of X Gl e_SIGNS,
    t_LETTERS := t_LETTERS, c_LETTERS := PySem.W.mg_of X Gl e_LETTERS,
    t_LETTERS_AND_FIGURES := t_LETTERS_AND_FIGURES, c_LETTERS_AND_FIGURES := PySem.W.mg_of X Gl e_LETTERS_AND_FIGURES,
    t_FIGURES := t_FIGURES, c_FIGURES := PySem.W.mg_of X Gl e_FIGURES,
    t_PLAIN := t_PLAIN, c_PLAIN := PySem.W.mg_of X Gl e_PLAIN,
    t_FREE_IN_STEPS := t_FREE_IN_STEPS, c_FREE_IN_STEPS := PySem.W.mg_of X Gl e_FREE_IN_STEPS,
    t_FREE_IN_QUESTIONS := t_FREE_IN_QUESTIONS, c_FREE_IN_QUESTIONS := PySem.W.mg_of X Gl e_FREE_IN_QUESTIONS,
    t_FREE_IN_MARKS := t_FREE_IN_MARKS, c_FREE_IN_MARKS := PySem.W.mg_of X Gl e_FREE_IN_MARKS,
    t_FIRST_NUMBER := t_FIRST_NUMBER, c_FIRST_NUMBER := PySem.W.mg_of X Gl e_FIRST_NUMBER,
    t_LAST_NUMBER := t_LAST_NUMBER, c_LAST_NUMBER := PySem.W.mg_of X Gl e_LAST_NUMBER,
    t_NUMBER_LEFT_OUT := t_NUMBER_LEFT_OUT, c_NUMBER_LEFT_OUT := PySem.W.mg_of X Gl e_NUMBER_LEFT_OUT,
    t_SMALL_FIGURES := t_SMALL_FIGURES, c_SMALL_FIGURES := PySem.W.mg_of X Gl e_SMALL_FIGURES,
    t_GREAT_FIGURES := t_GREAT_FIGURES, c_GREAT_FIGURES := PySem.W.mg_of X Gl e_GREAT_FIGURES,
    t_LONGEST_SCHEME := t_LONGEST_SCHEME, c_LONGEST_SCHEME := PySem.W.mg_of X Gl e_LONGEST_SCHEME,
    t_LONGEST_HOUSE := t_LONGEST_HOUSE, c_LONGEST_HOUSE := PySem.W.mg_of X Gl e_LONGEST_HOUSE,
    t_LAST_DOOR := t_LAST_DOOR, c_LAST_DOOR := PySem.W.mg_of X Gl e_LAST_DOOR,
    t_FIRST_FIGURES := t_FIRST_FIGURES, c_FIRST_FIGURES := PySem.W.mg_of X Gl e_FIRST_FIGURES,
    b_all := PySem.W.mg_none_of X Gl z_all,
    b_len := PySem.W.mg_none_of X Gl z_len,
    b_int := PySem.W.mg_none_of X Gl z_int,
    b_isinstance := PySem.W.mg_none_of X Gl z_isinstance,
    b_bool := PySem.W.mg_none_of X Gl z_bool,
    b_ValueError := PySem.W.mg_none_of X Gl z_ValueError,
    b_str := PySem.W.mg_none_of X Gl z_str,
    b_tuple := PySem.W.mg_none_of X Gl z_tuple,
    C_NoAddress := eC_NoAddress, m_NoAddress := PySem.W.mg_of X Gl en_NoAddress,
    C_NoRow := eC_NoRow, m_NoRow := PySem.W.mg_of X Gl en_NoRow,
    C_WayError := eC_WayError, m_WayError := PySem.W.mg_of X Gl en_WayError,
    C_NoName := eC_NoName, m_NoName := PySem.W.mg_of X Gl en_NoName,
    C_NoValue := eC_NoValue, m_NoValue := PySem.W.mg_of X Gl en_NoValue,
    C_NoPattern := eC_NoPattern, m_NoPattern := PySem.W.mg_of X Gl en_NoPattern,
    C_NoBase := eC_NoBase, m_NoBase := PySem.W.mg_of X Gl en_NoBase,
    w_NoAddress := ⟨ew1_NoAddress, ew2_NoAddress, ew3_NoAddress⟩,
    l_NoAddress := ⟨el0_NoAddress, el1_NoAddress, el2_NoAddress, el3_NoAddress, el4_NoAddress, el5_NoAddress⟩,
    y_NoAddress := ⟨ey_NoAddress, i4, ek_NoAddress⟩,
    st_NoAddress_at := ⟨es_NoAddress, eo_NoAddress, ef_NoAddress_at, eh_NoAddress⟩,
    fx_NoAddress_at := ⟨⟨el0_NoAddress, el1_NoAddress, el2_NoAddress, el3_NoAddress, el4_NoAddress, el5_NoAddress⟩, ef_NoAddress_at, eh_NoAddress⟩,
    u_NoAddress_NoAddress := eu_NoAddress_NoAddress,
    i_NoAddress_NoBase := ei_NoAddress_NoBase,
    i_NoAddress_NoPattern := ei_NoAddress_NoPattern,
    i_NoAddress_NoValue := ei_NoAddress_NoValue,
    i_NoAddress_NoName := ei_NoAddress_NoName,
    i_NoAddress_WayError := ei_NoAddress_WayError,
    i_NoAddress_ValueError := ei_NoAddress_ValueError,
    i_NoAddress_NoRow := ei_NoAddress_NoRow,
    C_Cursor := kC_Cursor, cl_Cursor := ⟨pg_Cursor, hd_Cursor, po_Cursor, sa_Cursor⟩, m_Cursor := PySem.W.mg_of X Gl aC_Cursor,
    n_Cursor_text := nf_Cursor_text,
    n_Cursor_place := nf_Cursor_place,
    M_Cursor := ⟨mk_Cursor, a5, i5, kc_Cursor⟩ }
  exact ⟨g.fd_law, fun s v => .of_eq rfl, fun base _ _ => ok_law g⟩
theorem walk {l : PySem.W.OpenLaw} {q : Program} {loose : List Str} {XP : (Str → Option Value) → Heap → Prop} {YP : World → Heap → Prop} {d : DefRec} {K : Params → PySem.W.Frag} (hn : l.most = some 63) (hdf : d.params.defaults = [])
    (hY : ∀ (w : World) (h : Heap), YP w h → (K w.params).In h)
    (F : ∀ (w : World) (mg : Str → Option Value) (fa : Addr) (h : Heap), (K w.params).In h → h.Ns mainGlobals mg → mg d.name = some (.ref fa) →
      ∃ fd : FuncData, (∀ (s : Shared) (u : Value), BindsTo s fd ⟨[u], []⟩ [("_law_script", u)]) ∧ ∀ base : Heap, (K w.params).In base → base.Ns mainGlobals mg → FnOk l.prog w (K w.params) mg base CX0 9 fa fd ["_law_script"] (sp_law (K w.params))) :
    PySem.W.WalkO q loose XP YP l.row.toRowW d [] (fun f vs => PySem.call f vs) :=
  L2.walk_of (n := 63) (k := 9) (x := "_law_script") (CX := fun _ => CX0) (sp := fun w => sp_law (K w.params)) hn (by decide) hdf ⟨rfl, by decide, by decide⟩ hY F (fun _ _ a ns hl _ hS => ⟨a, ns, rfl, hS, hl, fun _ => rfl⟩) fun _ _ _ _ _ z => z
end Wm
/-! names that are taken, so that helper lemmas which nothing needs are not made -/
theorem PySem.W.Fast.tw18114471249844324693 : True := trivial
theorem PySem.W.Fast.tw699668982048859128 : True := trivial
theorem PySem.W.Fast.tw1577300735269369964 : True := trivial
theorem PySem.W.Fast.tw17259688353645753135 : True := trivial
theorem PySem.W.Fast.tw8569458292948500300 : True := trivial
theorem PySem.W.Fast.tw4034286403563937910 : True := trivial
theorem PySem.W.Fast.tw1718708947455683767 : True := trivial
theorem PySem.W.Fast.tw7797919309770728569 : True := trivial
theorem PySem.W.Fast.tw5181548370774760088 : True := trivial
theorem PySem.W.Fast.tw1798072101939596236 : True := trivial
theorem PySem.W.Fast.tw13922206460014065827 : True := trivial
theorem PySem.W.Fast.tw7114053596231996783 : True := trivial
theorem PySem.W.Fast.tw15190788473322465468 : True := trivial
theorem PySem.W.Fast.tw5474908971913078830 : True := trivial
theorem PySem.W.Fast.tw9730842832880054642 : True := trivial
theorem PySem.W.Fast.tw5908573835193293545 : True := trivial
theorem PySem.W.Fast.tw16235394221616103848 : True := trivial
theorem PySem.W.Fast.tw6556048619456971634 : True := trivial
theorem PySem.W.Fast.tw941142088303765598 : True := trivial
theorem PySem.W.Fast.tw11622897040629153723 : True := trivial
theorem PySem.W.Fast.tw14480660455933438811 : True := trivial
theorem PySem.W.Fast.tw15030795191134419718 : True := trivial
theorem PySem.W.Fast.tw8968566101125326335 : True := trivial
theorem PySem.W.Fast.tw16215154344020897338 : True := trivial
theorem PySem.W.Fast.tw4641734925516310254 : True := trivial
theorem PySem.W.Fast.tw17043229355495632951 : True := trivial
theorem PySem.W.Fast.tw13328138131982122058 : True := trivial
theorem PySem.W.Fast.tw13573099280058215360 : True := trivial
theorem PySem.W.Fast.tw10899565189241310528 : True := trivial
theorem PySem.W.Fast.tw7099611355216652580 : True := trivial
theorem PySem.W.Fast.tw10113839861895044808 : True := trivial
theorem PySem.W.Fast.tw17396239429640893971 : True := trivial
theorem PySem.W.Fast.tw10295898692647294868 : True := trivial
theorem PySem.W.Fast.tw7808961021102699020 : True := trivial
theorem PySem.W.Fast.tw14383948689746785188 : True := trivial
theorem PySem.W.Fast.tw7836139338400168978 : True := trivial
theorem PySem.W.Fast.tw9651953631421958108 : True := trivial
theorem PySem.W.Fast.tw228415365196338290 : True := trivial
theorem PySem.W.Fast.tw1063506222649658980 : True := trivial
theorem PySem.W.Fast.tw567044073756658377 : True := trivial
theorem PySem.W.Fast.tw648213517591449716 : True := trivial
theorem PySem.W.Fast.tw5737909544916546421 : True := trivial
theorem PySem.W.Fast.tw12446420572222610775 : True := trivial
theorem PySem.W.Fast.tw2438127409785502224 : True := trivial
theorem PySem.W.Fast.tw2798513207392676644 : True := trivial
theorem PySem.W.Fast.tw1815216478903056173 : True := trivial
theorem PySem.W.Fast.tw2527779517809475650 : True := trivial
theorem PySem.W.Fast.tw8253570109251381646 : True := trivial
theorem PySem.W.Fast.tw15987109036498694061 : True := trivial
theorem PySem.W.Fast.tw6330368702568704525 : True := trivial
theorem PySem.W.Fast.tw9165871133237651274 : True := trivial
theorem PySem.W.Fast.tw8846996497819482489 : True := trivial
theorem PySem.W.Fast.tw442557374319589643 : True := trivial
theorem PySem.W.Fast.tw6670884066428719229 : True := trivial
theorem PySem.W.Fast.tw14025529327916344592 : True := trivial
theorem PySem.W.Fast.tw3191944346013031601 : True := trivial
theorem PySem.W.Fast.tw3897933608376503219 : True := trivial
theorem PySem.W.Fast.tw11833050444455559427 : True := trivial
theorem PySem.W.Fast.tw1980157951048081557 : True := trivial
theorem PySem.W.Fast.tw9219488065678974173 : True := trivial
theorem PySem.W.Fast.tw10045358643401133788 : True := trivial
theorem PySem.W.Fast.tw623945683549363753 : True := trivial
theorem PySem.W.Fast.tw10816563413908922156 : True := trivial
theorem PySem.W.Fast.tw12743506878616123866 : True := trivial
theorem PySem.W.Fast.tw17312811310781733374 : True := trivial
theorem PySem.W.Fast.tw9546240761421368583 : True := trivial
theorem PySem.W.Fast.tw2467261275755493647 : True := trivial
theorem PySem.W.Fast.tw16698439591991670393 : True := trivial
theorem PySem.W.Fast.tw8706960541709439076 : True := trivial
theorem PySem.W.Fast.tw3897183601299906077 : True := trivial
theorem PySem.W.Fast.tw4478915301910203445 : True := trivial
theorem PySem.W.Fast.tw16028573707407894812 : True := trivial
theorem PySem.W.Fast.tw12414826663711019692 : True := trivial
theorem PySem.W.Fast.tw6623224684183917509 : True := trivial
theorem PySem.W.Fast.tw15012132582258064911 : True := trivial
theorem PySem.W.Fast.tw5598185698823878512 : True := trivial
theorem PySem.W.Fast.tw10824834926037198716 : True := trivial
theorem PySem.W.Fast.tw10189280740793538780 : True := trivial
theorem PySem.W.Fast.tw2132072837733194977 : True := trivial
theorem PySem.W.Fast.tw14808735144098815604 : True := trivial
theorem PySem.W.Fast.tw6699484415749692947 : True := trivial
theorem PySem.W.Fast.tw6456214459259090373 : True := trivial
theorem PySem.W.Fast.tw7607274079753849301 : True := trivial
theorem PySem.W.Fast.tw4041719591650864600 : True := trivial
theorem PySem.W.Fast.tw12192542293907391554 : True := trivial
theorem PySem.W.Fast.tw3487134006169981471 : True := trivial
theorem PySem.W.Fast.tw7832315077475351154 : True := trivial
theorem PySem.W.Fast.tw5775014774427180166 : True := trivial
open PySem PySem.W PyProof.Rows
set_option maxRecDepth 100000 in
set_option maxHeartbeats 0 in
theorem PySem.Challenge.cw_waymark_k17_what_is_no_text_holds : PySem.Challenge.rw_waymark_k17_what_is_no_text.Holds := by
  w_on; o_law; k_head; (case hw => w_witness2)
  k_fill
  refine Wm.walk (l := PySem.Challenge.rw_waymark_k17_what_is_no_text) rfl rfl (fun w h Y => PySem.W.kIn_of Y) ?F
  case F =>
    intro w mg fa h KX G hmg
    refine' Wm.all_mk (dt19_0 := 0) (dt23_0 := 0) KX G hmg ?aC_Cursor ?en_NoAddress ?en_NoRow ?en_WayError ?en_NoName ?en_NoValue ?en_NoPattern ?en_NoBase ?a1 ?l1 ?a2 ?l2 ?a3 ?l3 ?a4 ?i4 ?l4 ?a5 ?i5 ?l5 ?a6 ?i6 ?l6 ?a7 ?i7 ?l7 ?a8 ?i8 ?l8 ?a9 ?l9 ?a10 ?l10 ?a11 ?l11 ?a12 ?l12 ?a13 ?l13 ?a14 ?i14 ?l14 ?a15 ?l15 ?a16 ?l16 ?a17 ?l17 ?a18 ?l18 ?a19 ?l19 ?d19 ?a20 ?l20 ?a21 ?l21 ?a22 ?l22 ?a23 ?l23 ?d23 ?a24 ?l24 ?a25 ?l25 ?a26 ?l26 ?a27 ?l27 ?a28 ?l28 ?e_SIGNS ?e_LETTERS ?e_LETTERS_AND_FIGURES ?e_FIGURES ?e_PLAIN ?e_FREE_IN_STEPS ?e_FREE_IN_QUESTIONS ?e_FREE_IN_MARKS ?e_FIRST_NUMBER ?e_LAST_NUMBER ?e_NUMBER_LEFT_OUT ?e_SMALL_FIGURES ?e_GREAT_FIGURES ?e_LONGEST_SCHEME ?e_LONGEST_HOUSE ?e_LAST_DOOR ?e_FIRST_FIGURES ?z_all ?z_len ?z_int ?z_isinstance ?z_bool ?z_ValueError ?z_str ?z_tuple ?ew1_NoAddress ?ew2_NoAddress ?ew3_NoAddress ?el0_NoAddress ?el1_NoAddress ?el2_NoAddress ?el3_NoAddress ?el4_NoAddress ?el5_NoAddress ?ey_NoAddress ?ek_NoAddress ?es_NoAddress ?eo_NoAddress ?eh_NoAddress ?ef_NoAddress_at ?eu_NoAddress_NoAddress ?ei_NoAddress_NoBase ?ei_NoAddress_NoPattern ?ei_NoAddress_NoValue ?ei_NoAddress_NoName ?ei_NoAddress_WayError ?ei_NoAddress_ValueError ?ei_NoAddress_NoRow ?pg_Cursor ?hd_Cursor ?po_Cursor ?sa_Cursor ?mk_Cursor ?kc_Cursor ?nf_Cursor_text ?nf_Cursor_place ?kk ?cc
    (case aC_Cursor => k_is)
    (case en_NoAddress => first | k_is | kit_is | with_unfolding_all kernel_rfl | with_unfolding_all rfl)
    (case en_NoRow => first | k_is | kit_is | with_unfolding_all kernel_rfl | with_unfolding_all rfl)
    (case en_WayError => first | k_is | kit_is | with_unfolding_all kernel_rfl | with_unfolding_all rfl)
    (case en_NoName => first | k_is | kit_is | with_unfolding_all kernel_rfl | with_unfolding_all rfl)
    (case en_NoValue => first | k_is | kit_is | with_unfolding_all kernel_rfl | with_unfolding_all rfl)
    (case en_NoPattern => first | k_is | kit_is | with_unfolding_all kernel_rfl | with_unfolding_all rfl)
    (case en_NoBase => first | k_is | kit_is | with_unfolding_all kernel_rfl | with_unfolding_all rfl)
    (case a1 => k_is)
    (case l1 => k_is)
    (case a2 => k_is)
    (case l2 => k_is)
    (case a3 => k_is)
    (case l3 => k_is)
    (case a4 => k_is)
    (case i4 => k_is)
    (case l4 => k_is)
    (case a5 => k_is)
    (case i5 => k_is)
    (case l5 => k_is)
    (case a6 => k_is)
    (case i6 => k_is)
    (case l6 => k_is)
    (case a7 => k_is)
    (case i7 => k_is)
    (case l7 => k_is)
    (case a8 => k_is)
    (case i8 => k_is)
    (case l8 => k_is)
    (case a9 => k_is)
    (case l9 => k_is)
    (case a10 => k_is)
    (case l10 => k_is)
    (case a11 => k_is)
    (case l11 => k_is)
    (case a12 => k_is)
    (case l12 => k_is)
    (case a13 => k_is)
    (case l13 => k_is)
    (case a14 => k_is)
    (case i14 => k_is)
    (case l14 => k_is)
    (case a15 => k_is)
    (case l15 => k_is)
    (case a16 => k_is)
    (case l16 => k_is)
    (case a17 => k_is)
    (case l17 => k_is)
    (case a18 => k_is)
    (case l18 => k_is)
    (case a19 => k_is)
    (case l19 => k_is)
    (case d19 => k_is)
    (case a20 => k_is)
    (case l20 => k_is)
    (case a21 => k_is)
    (case l21 => k_is)
    (case a22 => k_is)
    (case l22 => k_is)
    (case a23 => k_is)
    (case l23 => k_is)
    (case d23 => k_is)
    (case a24 => k_is)
    (case l24 => k_is)
    (case a25 => k_is)
    (case l25 => k_is)
    (case a26 => k_is)
    (case l26 => k_is)
    (case a27 => k_is)
    (case l27 => k_is)
    (case a28 => k_is)
    (case l28 => k_is)
    (case e_SIGNS => k_is)
    (case e_LETTERS => k_is)
    (case e_LETTERS_AND_FIGURES => k_is)
    (case e_FIGURES => k_is)
    (case e_PLAIN => k_is)
    (case e_FREE_IN_STEPS => k_is)
    (case e_FREE_IN_QUESTIONS => k_is)
    (case e_FREE_IN_MARKS => k_is)
    (case e_FIRST_NUMBER => k_is)
    (case e_LAST_NUMBER => k_is)
    (case e_NUMBER_LEFT_OUT => k_is)
    (case e_SMALL_FIGURES => k_is)
    (case e_GREAT_FIGURES => k_is)
    (case e_LONGEST_SCHEME => k_is)
    (case e_LONGEST_HOUSE => k_is)
    (case e_LAST_DOOR => k_is)
    (case e_FIRST_FIGURES => k_is)
    (case z_all => k_is)
    (case z_len => k_is)
    (case z_int => k_is)
    (case z_isinstance => k_is)
    (case z_bool => k_is)
    (case z_ValueError => k_is)
    (case z_str => k_is)
    (case z_tuple => k_is)
    (case ew1_NoAddress => first | k_is | kit_is | with_unfolding_all kernel_rfl | with_unfolding_all rfl)
    (case ew2_NoAddress => first | k_is | kit_is | with_unfolding_all kernel_rfl | with_unfolding_all rfl)
    (case ew3_NoAddress => first | k_is | kit_is | with_unfolding_all kernel_rfl | with_unfolding_all rfl)
    (case el0_NoAddress => first | k_is | kit_is | with_unfolding_all kernel_rfl | with_unfolding_all rfl)
    (case el1_NoAddress => first | k_is | kit_is | with_unfolding_all kernel_rfl | with_unfolding_all rfl)
    (case el2_NoAddress => first | k_is | kit_is | with_unfolding_all kernel_rfl | with_unfolding_all rfl)
    (case el3_NoAddress => first | k_is | kit_is | with_unfolding_all kernel_rfl | with_unfolding_all rfl)
    (case el4_NoAddress => first | k_is | kit_is | with_unfolding_all kernel_rfl | with_unfolding_all rfl)
    (case el5_NoAddress => first | k_is | kit_is | with_unfolding_all kernel_rfl | with_unfolding_all rfl)
    (case ey_NoAddress => first | k_is | kit_is | with_unfolding_all kernel_rfl | with_unfolding_all rfl)
    (case ek_NoAddress => first | k_is | kit_is | with_unfolding_all kernel_rfl | with_unfolding_all rfl)
    (case es_NoAddress => first | k_is | kit_is | with_unfolding_all kernel_rfl | with_unfolding_all rfl)
    (case eo_NoAddress => first | k_is | kit_is | with_unfolding_all kernel_rfl | with_unfolding_all rfl)
    (case eh_NoAddress => first | k_is | kit_is | with_unfolding_all kernel_rfl | with_unfolding_all rfl)
    (case ef_NoAddress_at => first | k_is | kit_is | with_unfolding_all kernel_rfl | with_unfolding_all rfl)
    (case eu_NoAddress_NoAddress => first | k_is | kit_is | with_unfolding_all kernel_rfl | with_unfolding_all rfl)
    (case ei_NoAddress_NoBase => first | k_is | kit_is | with_unfolding_all kernel_rfl | with_unfolding_all rfl)
    (case ei_NoAddress_NoPattern => first | k_is | kit_is | with_unfolding_all kernel_rfl | with_unfolding_all rfl)
    (case ei_NoAddress_NoValue => first | k_is | kit_is | with_unfolding_all kernel_rfl | with_unfolding_all rfl)
    (case ei_NoAddress_NoName => first | k_is | kit_is | with_unfolding_all kernel_rfl | with_unfolding_all rfl)
    (case ei_NoAddress_WayError => first | k_is | kit_is | with_unfolding_all kernel_rfl | with_unfolding_all rfl)
    (case ei_NoAddress_ValueError => first | k_is | kit_is | with_unfolding_all kernel_rfl | with_unfolding_all rfl)
    (case ei_NoAddress_NoRow => first | k_is | kit_is | with_unfolding_all kernel_rfl | with_unfolding_all rfl)
    (case pg_Cursor => k_is)
    (case hd_Cursor => k_is)
    (case po_Cursor => k_is)
    (case sa_Cursor => k_is)
    (case mk_Cursor => k_is)
    (case kc_Cursor => k_is)
    (case nf_Cursor_text => k_is)
    (case nf_Cursor_place => k_is)
    (case kk => first | k_is | with_unfolding_all kernel_rfl | with_unfolding_all rfl)
    (case cc => first | k_is | with_unfolding_all kernel_rfl | with_unfolding_all rfl)
