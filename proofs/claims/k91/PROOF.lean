import PyProof.Rows.All
import Wide.All
import OpenK.AllK
import Wide.FinOn
import Lean
import PyProof.EqAt
import PyProof.EqKinds
import PyProof.TupleCall
import PySem.Challenge.RW_waymark_k91_whole_parts_come_back
set_option Elab.async false
set_option linter.all false
set_option maxRecDepth 100000
/-! THE HAND LAYER, for ints, bools, texts, own classes, LISTS and tuples (index, slices, in, append, pop ..), calls, loops. Paste it whole ahead of your own text; what your proof does not reach may be deleted. -/
namespace L2
open PySem PySem.Spec PyProof.Rows

/-- a key: an int or a str -/
abbrev Key := Sum Int Str
def keyIs : Key → Value → Bool
  | .inl k, v => Value.isInt k v
  | .inr x, v => Value.isStrOf x v
def keyH (w : World) : Key → Int
  | .inl k => hashInt k
  | .inr x => hashStr w x
theorem keyIs_shape : ∀ {k : Key} {v : Value}, keyIs k v = true → (∃ i t, k = Sum.inl i ∧ v = Value.int i t) ∨ (∃ x t, k = Sum.inr x ∧ v = Value.str x t)
  | .inl i, v, h => by
    obtain ⟨t, e⟩ := Value.isInt_shape (k := i) (v := v) h
    exact .inl ⟨i, t, rfl, e⟩
  | .inr x, v, h => by
    obtain ⟨t, e⟩ := Value.isStrOf_shape (x := x) (v := v) h
    exact .inr ⟨x, t, rfl, e⟩
theorem key_ll (a b : Int) : decide ((Sum.inl a : Key) = Sum.inl b) = (a == b) := by
  by_cases e : a = b
  · subst e; simp
  · have h : ¬ (Sum.inl a : Key) = Sum.inl b := fun q => e (Sum.inl.inj q)
    rw [decide_eq_false h]
    exact (beq_eq_false_iff_ne.mpr e).symm
theorem key_rr (a b : Str) : decide ((Sum.inr a : Key) = Sum.inr b) = decide (a = b) := by
  by_cases e : a = b
  · subst e; simp
  · have h : ¬ (Sum.inr a : Key) = Sum.inr b := fun q => e (Sum.inr.inj q)
    rw [decide_eq_false h, decide_eq_false e]
theorem key_lr (a : Int) (b : Str) : decide ((Sum.inl a : Key) = Sum.inr b) = false := decide_eq_false (fun q => nomatch q)
theorem key_rl (a : Str) (b : Int) : decide ((Sum.inr a : Key) = Sum.inl b) = false := decide_eq_false (fun q => nomatch q)

def mixKind (prog : Program) (w : World) : PySem.KeyKind prog w Key where
  is := keyIs
  hash := keyH w
  inj := fun v a b ha hb => by
    rcases keyIs_shape ha with ⟨i, t, rfl, rfl⟩ | ⟨x, t, rfl, rfl⟩
    · rcases keyIs_shape hb with ⟨j, u, rfl, e⟩ | ⟨y, u, rfl, e⟩
      · injection e with e1 _; rw [e1]
      · exact nomatch e
    · rcases keyIs_shape hb with ⟨j, u, rfl, e⟩ | ⟨y, u, rfl, e⟩
      · exact nomatch e
      · injection e with e1 _; rw [e1]
  byValue := fun k v h => by
    rcases keyIs_shape h with ⟨i, t, rfl, rfl⟩ | ⟨x, t, rfl, rfl⟩ <;> rfl
  pyHash := fun hv h => by
    rcases keyIs_shape hv with ⟨i, t, rfl, rfl⟩ | ⟨x, t, rfl, rfl⟩
    · exact wpAny_pyHash_int h
    · exact wpAny_pyHash_str h
  eqBool := fun hu hv h => by
    rcases keyIs_shape hu with ⟨i, t, rfl, rfl⟩ | ⟨x, t, rfl, rfl⟩
    · rcases keyIs_shape hv with ⟨j, u, rfl, rfl⟩ | ⟨y, u, rfl, rfl⟩
      · rw [key_ll] at h; exact wpAny_eqBool_int h
      · rw [key_lr] at h; exact SeqAt.EqAt.int_str i t y u _ _ _ _ h
    · rcases keyIs_shape hv with ⟨j, u, rfl, rfl⟩ | ⟨y, u, rfl, rfl⟩
      · rw [key_rl] at h; exact SeqAt.EqAt.str_int x t j u _ _ _ _ h
      · rw [key_rr] at h; exact wpAny_eqBool_str h
  «strs» := fun k x t v h => by
    rcases keyIs_shape h with ⟨i, u, rfl, e⟩ | ⟨y, u, rfl, e⟩
    · exact nomatch e
    · injection e with e1 _
      subst e1
      cases v <;> rfl

end L2

namespace L2
open PySem PySem.Spec PyProof.Rows

/-- a value, without the heap -/
inductive V where
  | non | bl (b : Bool) | int (i : Int) | str (x : Str) | byt (b : Array UInt8) | flt (b : UInt64) | ref (a : Addr) | ty (n : String)
  deriving DecidableEq

def RelV : V → Value → Prop
  | .non, u => u = Value.none
  | .bl b, u => u = Value.bool b
  | .int i, u => ∃ t, u = Value.int i t
  | .str x, u => ∃ t, u = Value.str x t
  | .byt b, u => ∃ t, u = Value.bytes b t
  | .flt b, u => ∃ t, u = Value.float b t
  | .ref a, u => u = Value.ref a
  | .ty n, u => u = Value.type n

abbrev Vals : List V → List Value → Prop := Paired RelV
theorem Vals.length {xs : List V} {us : List Value} (r : Vals xs us) : xs.length = us.length := Paired.length r
theorem Vals.get : ∀ {xs : List V} {us : List Value} {i : Nat} {x : V}, Vals xs us → xs[i]? = some x → ∃ u, us[i]? = some u ∧ RelV x u
  | _, _, _, _, .nil, e => by simp at e
  | _, _, 0, _, .cons r _, e => by simp at e; subst e; exact ⟨_, rfl, r⟩
  | _, _, i + 1, x, .cons _ t, e => by
    obtain ⟨u, h1, h2⟩ := Vals.get (i := i) (x := x) t (by simpa using e)
    exact ⟨u, by simpa using h1, h2⟩
theorem Vals.set {x : V} {u : Value} (r : RelV x u) : ∀ {xs : List V} {us : List Value} (i : Nat), Vals xs us → Vals (xs.set i x) (us.set i u)
  | _, _, _, .nil => .nil
  | _, _, 0, .cons _ t => .cons r t
  | _, _, i + 1, .cons q t => .cons q (Vals.set r i t)
theorem Vals.append : ∀ {xs ys : List V} {us ws : List Value}, Vals xs us → Vals ys ws → Vals (xs ++ ys) (us ++ ws)
  | _, _, _, _, .nil, s => s
  | _, _, _, _, .cons r t, s => .cons r (Vals.append t s)
theorem Vals.take : ∀ {xs : List V} {us : List Value} (n : Nat), Vals xs us → Vals (xs.take n) (us.take n)
  | _, _, 0, _ => .nil
  | _, _, _ + 1, .nil => .nil
  | _, _, n + 1, .cons r t => .cons r (Vals.take n t)
theorem Vals.drop : ∀ {xs : List V} {us : List Value} (n : Nat), Vals xs us → Vals (xs.drop n) (us.drop n)
  | _, _, 0, r => r
  | _, _, _ + 1, .nil => .nil
  | _, _, n + 1, .cons _ t => Vals.drop n t
theorem Vals.none_of : ∀ {xs : List V} {us : List Value} {i : Nat}, Vals xs us → xs[i]? = none → us[i]? = none := fun {xs us i} r e => by
  have h1 := r.length
  have h2 : xs.length ≤ i := List.getElem?_eq_none_iff.mp e
  exact List.getElem?_eq_none_iff.mpr (by omega)

def RelO : Option V → Option Value → Prop
  | some v, some u => RelV v u
  | none, none => True
  | _, _ => False
def KV {κ : Type} : List (κ × V) → List (κ × Value) → Prop := Paired fun (p : κ × V) (q : κ × Value) => p.1 = q.1 ∧ RelV p.2 q.2

/-- a key of a dict (00_mix): an int or a text -/
def kV : Key → V
  | .inl i => .int i
  | .inr x => .str x

/-- what stands at a tracked address -/
inductive HO where
  /-- a list -/
  | lst (xs : List V)
  /-- a tuple (never changes) -/
  | tup (xs : List V)
  /-- a dict whose keys are ints and texts; one whose keys are tuples of ints and texts (the empty one is both) -/
  | dK (kvs : List (Key × V)) | dT (kvs : List (List Key × V))
  /-- a set of ints: its members, its size -/
  | set (S : Int → Bool) (n : Nat)
  /-- an instance of the class at C, its dict at dx, its attributes -/
  | ins (C dx : Addr) (fs : List (Str × V))
  /-- the dict of the instance at x -/
  | own (x : Addr)
  /-- the dict of an exception -/
  | xd (fs : List (Str × V))
  /-- a bound method, f of x -/
  | met (f x : Addr)
  /-- a range object lo, lo + 1, .. below hi -/
  | rng (lo hi : Int)
  /-- a thing that is known to the object (the script; a dict while a loop walks it): read, never written while it is so -/
  | frz (o : Obj) (u : HO)
  /-- a code object's table -/
  | tbl (ps : Array Value)
  /-- any other thing, by what is true of its one object (a def of one's own: SetO a S n := HO.ext fun h => ..) -/
  | ext (φ : Heap → Prop)

abbrev Hp := Addr → Option HO
def upd (H : Hp) (a : Addr) (o : HO) : Hp := fun b => if b = a then some o else H b
theorem upd_same {H : Hp} {a : Addr} {o : HO} : upd H a o a = some o := by unfold upd; rw [if_pos rfl]
theorem upd_ne {H : Hp} {a b : Addr} {o : HO} (h : b ≠ a) : upd H a o b = H b := by unfold upd; rw [if_neg h]
theorem upd_upd {H : Hp} {a : Addr} {o u : HO} : upd (upd H a o) a u = upd H a u := by
  funext b; unfold upd; split <;> rfl
/-- two objects of different content stand apart -/
theorem ne_of {H : Hp} {a b : Addr} {o u : HO} (h : H a = some o) (h' : H b = some u) (d : o ≠ u) : a ≠ b := by
  intro e; subst e; rw [h] at h'; exact d (Option.some.inj h')
theorem ne_of_none {H : Hp} {a b : Addr} {o : HO} (h : H a = some o) (h' : H b = none) : a ≠ b := by
  intro e; subst e; rw [h] at h'; cases h'

section
variable (P : Program) (w : World)
def ObjOk (H : Hp) (h : Heap) (a : Addr) : HO → Prop
  | .lst xs => xs.length ≤ sizeLine ∧ ∃ (its : List Value) (n : Nat), Vals xs its ∧ h.get? a = some { cls := .type "list", data := .seq its.toArray n }
  | .tup xs => xs.length ≤ sizeLine ∧ ∃ its : List Value, Vals xs its ∧ IsTup h a its.toArray
  | .dK kvs => kvs.length ≤ sizeLine ∧ (a == sysModules) = false ∧ ∃ vs, KV kvs vs ∧ h.DictOf (mixKind P w) a vs
  | .dT kvs => kvs.length ≤ sizeLine ∧ (a == sysModules) = false ∧ ∃ xs : List (List Key × Addr × Value),
      Paired (fun (p : List Key × V) (q : List Key × Addr × Value) => p.1 = q.1 ∧ H q.2.1 = some (.tup (p.1.map kV)) ∧ RelV p.2 q.2.2) kvs xs ∧
      ∃ o es ep, h.get? a = some o ∧ o.ExactDict ∧ o.data = .dict es ep ∧ es.toList = xs.map (entryOfKey (tupleKind (mixKind P w))) ∧ (xs.map (·.1)).Nodup
  | .set S n => h.SetOf (intKind P w) a S n
  | .ins C dx fs => H dx = some (.own a) ∧ fs.length ≤ 1000 ∧ dx ≠ a ∧ h.get? a = some (PySem.W.instObj C dx) ∧
      ∃ mA, h.Ns1 dx mA ∧ (∀ f, RelO (fs.lookup f) (mA f)) ∧ PySem.Within mA (fs.map (·.1))
  | .own _ => ∃ o, h.get? a = some o
  | .xd fs => ∃ mA, h.Ns1 a mA ∧ ∀ f, RelO (fs.lookup f) (mA f)
  | .rng lo hi => ∃ t u v, h.get? a = some { cls := .type "range", data := .fields #[.int lo t, .int hi u, .int 1 v] }
  | .frz o u => h.get? a = some o ∧ ObjOk H h a u
  | .tbl ps => h.get? a = some { cls := .none, data := .fields ps }
  | .met f x => h.get? a = some (PySem.W.methodObj (.ref f) (.ref x))
  | .ext φ => φ h ∧ (∃ o, h.get? a = some o) ∧ ∀ h1 h2 : Heap, φ h1 → (∀ o, h1.get? a = some o → h2.get? a = some o) → φ h2
/-- the abstract heap is held -/
def HOk (H : Hp) (h : Heap) : Prop := ∀ a o, H a = some o → ObjOk P w H h a o
end

section
variable {P : Program} {w : World} {H H' : Hp} {h h' : Heap} {a : Addr} {o : HO}
theorem ObjOk.lt (x : ObjOk P w H h a o) : a < h.objs.size := by
  cases o with
  | lst xs => obtain ⟨_, _, _, _, e⟩ := x; exact Heap.lt_size e
  | tup xs => obtain ⟨_, _, _, p⟩ := x; exact p.lt
  | dK kvs => obtain ⟨_, _, _, _, o, _, _, e, _⟩ := x; exact Heap.lt_size e
  | dT kvs => obtain ⟨_, _, _, _, o, _, _, e, _⟩ := x; exact Heap.lt_size e
  | set S n => obtain ⟨o, _, _, _, e, _⟩ := x; exact Heap.lt_size e
  | ins C dx fs => obtain ⟨_, _, _, e, _⟩ := x; exact Heap.lt_size e
  | own y => obtain ⟨_, e⟩ := x; exact Heap.lt_size e
  | xd fs => obtain ⟨_, ⟨_, _, _, e, _⟩, _⟩ := x; exact Heap.lt_size e
  | rng lo hi => obtain ⟨_, _, _, e⟩ := x; exact Heap.lt_size e
  | frz ob u => obtain ⟨e, _⟩ := x; exact Heap.lt_size e
  | tbl ps => exact Heap.lt_size (show h.get? a = some _ from x)
  | met f y => exact Heap.lt_size (show h.get? a = some _ from x)
  | ext φ => obtain ⟨_, ⟨_, e⟩, _⟩ := x; exact Heap.lt_size e
theorem Paired.mapP {α β : Type} {F G : α → β → Prop} : ∀ {l₁ : List α} {l₂ : List β}, Paired F l₁ l₂ → (∀ a b, F a b → G a b) → Paired G l₁ l₂
  | _, _, .nil, _ => .nil
  | _, _, .cons r t, f => .cons (f _ _ r) (Paired.mapP t f)
/-- what an object's description leans on: its own object, its own dict, the tuples -/
theorem ObjOk.stay (x : ObjOk P w H h a o) (k : ∀ b u, (b = a ∨ H b = some (.own a)) → h.get? b = some u → h'.get? b = some u)
    (ho : ∀ b, H b = some (.own a) → H' b = some (.own a)) (ht : ∀ b xs, H b = some (.tup xs) → H' b = some (.tup xs)) : ObjOk P w H' h' a o := by
  induction o with
  | lst xs => obtain ⟨z, its, n, r, e⟩ := x; exact ⟨z, its, n, r, k _ _ (.inl rfl) e⟩
  | tup xs => obtain ⟨z, its, r, ob, e, c⟩ := x; exact ⟨z, its, r, ob, k _ _ (.inl rfl) e, c⟩
  | dK kvs => obtain ⟨z, y, vs, r, ob, es, ep, e, c⟩ := x; exact ⟨z, y, vs, r, ob, es, ep, k _ _ (.inl rfl) e, c⟩
  | dT kvs =>
    obtain ⟨z, y, xs, r, ob, es, ep, e, c⟩ := x
    exact ⟨z, y, xs, Paired.mapP r fun p q z => ⟨z.1, ht _ _ z.2.1, z.2.2⟩, ob, es, ep, k _ _ (.inl rfl) e, c⟩
  | set S n => obtain ⟨ob, es, ep, t, e, c⟩ := x; exact ⟨ob, es, ep, t, k _ _ (.inl rfl) e, c⟩
  | ins C dx fs =>
    obtain ⟨d, z, ne, e, mA, ⟨od, es, ep, e2, c⟩, r⟩ := x
    exact ⟨ho _ d, z, ne, k _ _ (.inl rfl) e, mA, ⟨od, es, ep, k _ _ (.inr d) e2, c⟩, r⟩
  | own y => obtain ⟨ob, e⟩ := x; exact ⟨ob, k _ _ (.inl rfl) e⟩
  | xd fs => obtain ⟨mA, ⟨od, es, ep, e, c⟩, r⟩ := x; exact ⟨mA, ⟨od, es, ep, k _ _ (.inl rfl) e, c⟩, r⟩
  | rng lo hi => obtain ⟨t, u, v, e⟩ := x; exact ⟨t, u, v, k _ _ (.inl rfl) e⟩
  | frz ob u ih => obtain ⟨e, q⟩ := x; exact ⟨k _ _ (.inl rfl) e, ih q⟩
  | tbl ps =>
    have e : h.get? a = some { cls := .none, data := .fields ps } := x
    show h'.get? a = some { cls := .none, data := .fields ps }
    exact k a _ (.inl rfl) e
  | met f y =>
    have e : h.get? a = some (PySem.W.methodObj (.ref f) (.ref y)) := x
    show h'.get? a = some (PySem.W.methodObj (.ref f) (.ref y))
    exact k a _ (.inl rfl) e
  | ext φ => obtain ⟨p, ⟨o, e⟩, st⟩ := x; exact ⟨st _ _ p fun o q => k _ _ (.inl rfl) q, ⟨o, k _ _ (.inl rfl) e⟩, st⟩
theorem HOk.lt (x : HOk P w H h) (e : H a = some o) : a < h.objs.size := (x a o e).lt
theorem HOk.fresh (x : HOk P w H h) (e : h.objs.size ≤ a) : H a = none := by
  cases q : H a with
  | none => rfl
  | some u => exact absurd (Nat.lt_of_lt_of_le (x.lt q) e) (Nat.lt_irrefl _)
/-- every object of the heap is kept -/
theorem HOk.kept (x : HOk P w H h) (k : ∀ b u, h.get? b = some u → h'.get? b = some u) : HOk P w H h' := fun a o e =>
  (x a o e).stay (fun b u _ q => k b u q) (fun _ q => q) fun _ _ q => q
/-- a new object is laid and tracked -/
theorem HOk.laid (x : HOk P w H h) (k : ∀ b u, h.get? b = some u → h'.get? b = some u) (hp : h.objs.size ≤ a) (new : ObjOk P w (upd H a o) h' a o) : HOk P w (upd H a o) h' := fun b u e => by
  have hn := x.fresh hp
  by_cases hb : b = a
  · subst hb; rw [upd_same] at e; cases e; exact new
  · rw [upd_ne hb] at e
    exact (x b u e).stay (fun c v _ q => k c v q) (fun c q => by rw [upd_ne (ne_of_none q hn)]; exact q) fun c xs q => by rw [upd_ne (ne_of_none q hn)]; exact q
end

/-- what may be read as u: it is u, or a known u -/
def Rd (H : Hp) (a : Addr) (u : HO) : Prop := H a = some u ∨ ∃ o, H a = some (.frz o u)
theorem Rd.of {H : Hp} {a : Addr} {u : HO} (h : H a = some u) : Rd H a u := .inl h
theorem Rd.ok {P : Program} {w : World} {H : Hp} {h : Heap} {a : Addr} {u : HO} (r : Rd H a u) (x : HOk P w H h) : ObjOk P w H h a u := by
  rcases r with r | ⟨o, r⟩
  · exact x a u r
  · obtain ⟨_, q⟩ := x a _ r
    exact q
/-- what may be written -/
def Mut : Option HO → Prop
  | some (.lst _) => True
  | some (.dK _) => True
  | some (.dT _) => True
  | some (.set _ _) => True
  | some (.ins _ _ _) => True
  | some (.ext _) => True
  | _ => False
section
variable {P : Program} {w : World} {H : Hp} {h h' : Heap} {x e : Addr} {o' : HO}
/-- the object at e is changed: x itself, or the dict of the instance x -/
theorem HOk.write (ok : HOk P w H h) (mu : Mut (H x)) (he : e = x ∨ H e = some (.own x)) (k : ∀ b u, b ≠ e → h.get? b = some u → h'.get? b = some u) (heo : ∃ u, h'.get? e = some u)
    (new : ObjOk P w (upd H x o') h' x o') : HOk P w (upd H x o') h' := fun b u q => by
  have nown : ∀ c y, H c = some (.own y) → c ≠ x := fun c y r z => by subst z; rw [r] at mu; exact mu
  have ntup : ∀ c xs, H c = some (.tup xs) → c ≠ x := fun c xs r z => by subst z; rw [r] at mu; exact mu
  by_cases hb : b = x
  · subst hb; rw [upd_same] at q; cases q; exact new
  · rw [upd_ne hb] at q
    by_cases hbe : b = e
    · have q' : H b = some (.own x) := by
        rcases he with z | z
        · exact absurd (hbe.trans z) hb
        · rw [hbe]; exact z
      rw [q] at q'; cases q'
      obtain ⟨v, hv⟩ := heo
      exact ⟨v, by rw [hbe]; exact hv⟩
    · refine (ok b u q).stay (fun c v hc r => k c v ?_ r) (fun c r => by rw [upd_ne (nown c b r)]; exact r) fun c xs r => by rw [upd_ne (ntup c xs r)]; exact r
      rcases hc with rfl | hc
      · exact hbe
      · rintro rfl
        rcases he with z | z
        · exact nown c b hc z
        · rw [hc] at z; cases z; exact hb rfl
end

/-! ### kept unless tracked; of the frames at fs (the callers') the slots may change (an exception that passes writes there); of the records at ex (iterators) nothing is said -/
structure Un (fs ex : List Addr) (H H' : Hp) (h h' : Heap) : Prop where
  keep : ∀ b o, h.get? b = some o → H b = none → b ∉ fs → b ∉ ex → h'.get? b = some o
  slot : ∀ b o, h.get? b = some o → H b = none → b ∈ fs → b ∉ ex → ∃ sl, h'.get? b = some { o with slots := sl }
  free : ∀ b o, h.get? b = some o → H b = none → b ∉ ex → H' b = none
  there : ∀ b o, h.get? b = some o → b ∉ ex → ∃ o', h'.get? b = some o'
  tups : ∀ b xs, H b = some (.tup xs) → H' b = some (.tup xs)
  frzs : ∀ b o u, H b = some (.frz o u) → H' b = some (.frz o u)
  tbls : ∀ b ps, H b = some (.tbl ps) → ∃ more, H' b = some (.tbl (ps ++ more))
section
variable {fs fs' ex ex' : List Addr} {H H1 H2 : Hp} {h h1 h2 h' : Heap} {a x e : Addr} {o : HO}
theorem Un.any (u : Un fs ex H H1 h h1) {b : Addr} {ob : Obj} (q : h.get? b = some ob) (n : H b = none) (hx : b ∉ ex) : ∃ sl, h1.get? b = some { ob with slots := sl } := by
  by_cases hb : b ∈ fs
  · exact u.slot b ob q n hb hx
  · exact ⟨ob.slots, u.keep b ob q n hb hx⟩
theorem Un.trans (a : Un fs ex H H1 h h1) (b : Un fs ex H1 H2 h1 h2) : Un fs ex H H2 h h2 where
  keep := fun c ob q n hc hx => b.keep c ob (a.keep c ob q n hc hx) (a.free c ob q n hx) hc hx
  slot := fun c ob q n hc hx => by
    obtain ⟨sl, e1⟩ := a.slot c ob q n hc hx
    obtain ⟨sl', e2⟩ := b.slot c _ e1 (a.free c ob q n hx) hc hx
    exact ⟨sl', e2⟩
  free := fun c ob q n hx => by
    obtain ⟨o', e1⟩ := a.there c ob q hx
    exact b.free c o' e1 (a.free c ob q n hx) hx
  there := fun c ob q hx => by
    obtain ⟨o', e1⟩ := a.there c ob q hx
    exact b.there c o' e1 hx
  tups := fun c xs q => b.tups c xs (a.tups c xs q)
  frzs := fun c ob xs q => b.frzs c ob xs (a.frzs c ob xs q)
  tbls := fun c ps q => by
    obtain ⟨m1, e1⟩ := a.tbls c ps q
    obtain ⟨m2, e2⟩ := b.tbls c _ e1
    exact ⟨m1 ++ m2, by rw [e2, Array.append_assoc]⟩
theorem Un.kept (k : ∀ b u, h.get? b = some u → h'.get? b = some u) : Un fs ex H H h h' :=
  ⟨fun b ob q _ _ _ => k b ob q, fun b ob q _ _ _ => ⟨ob.slots, k b ob q⟩, fun _ _ _ n _ => n, fun b ob q _ => ⟨ob, k b ob q⟩, fun _ _ q => q, fun _ _ _ q => q, fun _ ps q => ⟨#[], by rw [q]; simp⟩⟩
theorem Un.refl : Un fs ex H H h h := Un.kept fun _ _ q => q
theorem Un.laid (k : ∀ b u, h.get? b = some u → h'.get? b = some u) (hp : h.objs.size ≤ a) (hn : H a = none) : Un fs ex H (upd H a o) h h' where
  keep := fun b u q _ _ _ => k b u q
  slot := fun b u q _ _ _ => ⟨u.slots, k b u q⟩
  free := fun b u q n _ => by rw [upd_ne (Nat.ne_of_lt (Nat.lt_of_lt_of_le (Heap.lt_size q) hp))]; exact n
  there := fun b u q _ => ⟨u, k b u q⟩
  tups := fun b xs q => by rw [upd_ne (ne_of_none q hn)]; exact q
  frzs := fun b u xs q => by rw [upd_ne (ne_of_none q hn)]; exact q
  tbls := fun b ps q => ⟨#[], by rw [upd_ne (ne_of_none q hn), q]; simp⟩
theorem Un.write (mu : Mut (H x)) (he : e = x ∨ H e = some (.own x)) (k : ∀ b u, b ≠ e → h.get? b = some u → h'.get? b = some u) (heo : ∃ u, h'.get? e = some u) : Un fs ex H (upd H x o) h h' := by
  have hx : ∀ b, H b = none → b ≠ x := fun b n z => by subst z; rw [n] at mu; exact mu
  have hb : ∀ b, H b = none → b ≠ e := fun b n z => by
    subst z
    rcases he with r | r
    · exact hx b n r
    · rw [n] at r; cases r
  have hm : ∀ b u, H b = some u → ¬ Mut (some u) → b ≠ x := fun b u q nm z => by subst z; rw [q] at mu; exact nm mu
  refine ⟨fun b u q n _ _ => k b u (hb b n) q, fun b u q n _ _ => ⟨u.slots, k b u (hb b n) q⟩, fun b u q n _ => by rw [upd_ne (hx b n)]; exact n, fun b u q _ => ?_,
    fun b xs q => by rw [upd_ne (hm b _ q fun z => z)]; exact q, fun b u xs q => by rw [upd_ne (hm b _ q fun z => z)]; exact q, fun b ps q => ⟨#[], by rw [upd_ne (hm b _ q fun z => z), q]; simp⟩⟩
  by_cases hbe : b = e
  · subst hbe; exact heo
  · exact ⟨u, k b u hbe q⟩
theorem Un.mono (u : Un fs ex H H1 h h1) (hs : ∀ b ∈ fs, b ∈ fs') (hx : ∀ b ∈ ex, b ∈ ex') : Un fs' ex' H H1 h h1 :=
  ⟨fun b ob q n hb he => u.keep b ob q n (fun z => hb (hs b z)) fun z => he (hx b z), fun _ _ q n _ he => u.any q n fun z => he (hx _ z), fun b ob q n he => u.free b ob q n fun z => he (hx b z), fun b ob q he => u.there b ob q fun z => he (hx b z), u.tups, u.frzs, u.tbls⟩
end

/-! ### the heap without what is tracked -/
def trk (h : Heap) (H : Hp) : List Addr := (List.range h.objs.size).filter fun a => (H a).isSome
def hidT (h : Heap) (H : Hp) : Heap := PySem.W.hideAll h (trk h H)
theorem hidT_size (h : Heap) (H : Hp) : (hidT h H).objs.size = h.objs.size := PySem.W.hideAll_size _ _
theorem hidT_get {h : Heap} {H : Hp} {b : Addr} {o : Obj} (e : h.get? b = some o) (n : H b = none) : (hidT h H).get? b = some o :=
  PySem.W.hideAll_get _ e fun hm => by
    have q : (H b).isSome = true := (List.mem_filter.mp hm).2
    rw [n] at q; simp at q
theorem of_hidT {h : Heap} {H : Hp} {b : Addr} {o : Obj} (e : (hidT h H).get? b = some o) : h.get? b = some o ∧ H b = none := by
  have e' : h.get? b = some o := PySem.W.of_hideAll (trk h H) e
  refine ⟨e', ?_⟩
  cases q : H b with
  | none => rfl
  | some x =>
    have hm : b ∈ trk h H := List.mem_filter.mpr ⟨List.mem_range.mpr (Heap.lt_size e'), by simp [q]⟩
    have z : (hidT h H).get? b = none := PySem.W.hideAll_none (trk h H) hm
    rw [z] at e; cases e

/-! ### OpenK's ledger, filled with every new object but one -/
def allNews (g h : Heap) (L : Addr) : List (Addr × Obj) := (List.range h.objs.size).filterMap fun a => if a = L ∨ (g.get? a).isSome = true then none else (h.get? a).map fun o => (a, o)
def rest (g h : Heap) (L d : Addr) : List (Addr × Obj) := (allNews g h L).filter fun p => decide (p.1 ≠ d)
end L2

namespace L2
open PySem PySem.Spec PyProof.Rows

/-- the module's facts, over the base: the heap at the law's entry without what is tracked there -/
structure Mod (K : PySem.W.Frag) (mg : Str → Option Value) (base : Heap) : Prop where
  kin : K.In base
  glob : base.Ns mainGlobals mg
  blt : ∃ mb, base.Ns builtinsNs mb ∧ ∀ x : Str, x ≠ "__name__" → mb x = bootBuiltins x
  nolimit : base.NoLimit

/-- the context: a def's body (or a comprehension's block) running. base: fixed through the whole law; s₀, H₀: the entry; outer: the frames whose slots others may change (a def's callers); stack: all frames that run;
   ex: iterators that were made ahead of the entry and are walked here (a comprehension's); fn: the names whose cells were made at the entry (a def: all; a comprehension's block: its own); calm: not within an except suite; pn: pins that every state bears; xe: what is wanted of an exception that leaves the code -/
structure Cx where
  prog : Program
  w : World
  K : PySem.W.Frag
  mg : Str → Option Value
  base : Heap
  A : Around
  N : List Str
  s₀ : Shared
  H₀ : Hp
  env : Env
  outer : List Env
  stack : List Env
  ex : List Addr
  fn : Str → Bool
  calm : Bool
  pn : List (Addr × Obj)
  xe : Value → Shared → Prop
/-- the callers' frames -/
def frs (l : List Env) : List Addr := l.filterMap (·.frame)
abbrev Cx.fs (X : Cx) : List Addr := frs X.outer

def Vis (sc : Scope) (x : Str) : Prop := sc.names.lookup x = some .local ∨ sc.names.lookup x = some .cell ∨ sc.names.lookup x = some .free
def Loc (sc : Scope) (x : Str) : Prop := sc.names.lookup x = some .local ∨ sc.names.lookup x = some .cell
def Look (env : Env) (h : Heap) (m : Str → Option Value) (x : Str) (u : Value) : Prop :=
  (env.kindOf x = some .local ∧ m x = some u) ∨ ((env.kindOf x = some .cell ∨ env.kindOf x = some .free) ∧ ∃ c, env.cells.lookup x = some c ∧ h.IsCell c (some u))

structure Cx.Ok (X : Cx) : Prop where
  mod : Mod X.K X.mg X.base
  kind : X.env.scope.kind = .function
  glob : X.env.globals = mainGlobals
  blt : X.env.builtins = builtinsNs
  above : X.s₀.heap.objs.size ≤ X.env.locals
  inj : ∀ x y c, X.env.cells.lookup x = some c → X.env.cells.lookup y = some c → x = y
  has : ∀ x, (X.env.kindOf x = some .cell ∨ X.env.kindOf x = some .free) → ∃ c, X.env.cells.lookup x = some c
  cab : ∀ x c, X.fn x = true → X.env.cells.lookup x = some c → X.s₀.heap.objs.size ≤ c
  hd : X.calm = true → X.A.handled = none
  frames : X.A.frames = some X.stack
  stk : X.stack = X.outer ∨ (X.stack = X.env :: X.outer ∧ X.env.frame = some X.env.locals)
  exf : ∀ b ∈ X.ex, b ≠ X.env.locals ∧ ∀ x c, X.env.cells.lookup x = some c → c ≠ b
  bs : ∀ b o, X.base.get? b = some o → X.s₀.heap.get? b = some o ∧ X.H₀ b = none
  bsz : X.base.objs.size ≤ X.s₀.heap.objs.size
  noex : ∀ b o, X.base.get? b = some o → b ∉ X.ex
  exfs : ∀ b ∈ X.ex, b ∉ X.fs
  funs : X.s₀.heap.FunFrames X.base X.outer
  frf : ∀ b ∈ X.fs, X.H₀ b = none

structure Inv (X : Cx) (pins : List (Addr × Obj)) (σ : List (Option V)) (H : Hp) (s : Shared) : Prop where
  ok : X.Ok
  os : s.os = X.s₀.os
  bare : AllBare s.gens
  base : Un X.fs X.ex X.H₀ H X.s₀.heap s.heap
  loc : ∃ m, s.heap.Ns X.env.locals m ∧ ∀ (i : Nat) (x : Str) (v : V), X.N[i]? = some x → σ[i]? = some (some v) → Vis X.env.scope x → ∃ u, RelV v u ∧ Look X.env s.heap m x u
  cell : ∀ x c, X.env.cells.lookup x = some c → ∃ v, s.heap.IsCell c v
  free : H X.env.locals = none
  freeC : ∀ x c, X.env.cells.lookup x = some c → H c = none
  pin : ∀ p ∈ X.pn ++ pins, s.heap.get? p.1 = some p.2 ∧ H p.1 = none ∧ p.1 ≠ X.env.locals ∧ p.1 ∉ X.fs ∧ ∀ v, p.2.data ≠ .cell v
  hok : HOk X.prog X.w H s.heap
  len : σ.length = X.N.length

section
variable {X : Cx} {pins : List (Addr × Obj)} {σ : List (Option V)} {H H' : Hp} {s : Shared} {h' : Heap}

theorem Cx.Ok.nofr (ok : X.Ok) {b : Addr} {o : Obj} (e : X.base.get? b = some o) : b ∉ X.fs := fun hb => by
  have := (ok.funs.mem hb).1
  rw [e] at this; cases this
theorem Inv.bs (I : Inv X pins σ H s) : ∀ b o, X.base.get? b = some o → s.heap.get? b = some o ∧ H b = none := fun b o e =>
  ⟨I.base.keep b o (I.ok.bs b o e).1 (I.ok.bs b o e).2 (I.ok.nofr e) (I.ok.noex b o e), I.base.free b o (I.ok.bs b o e).1 (I.ok.bs b o e).2 (I.ok.noex b o e)⟩
theorem Inv.bk (I : Inv X pins σ H s) : ∀ b o, X.base.get? b = some o → s.heap.get? b = some o := fun b o e => (I.bs b o e).1
theorem Inv.mod (I : Inv X pins σ H s) : Mod X.K X.mg X.base := I.ok.mod
theorem Inv.kIn (I : Inv X pins σ H s) : X.K.In s.heap := I.ok.mod.kin.keeps I.bk
theorem Inv.nolimit (I : Inv X pins σ H s) : s.heap.NoLimit := I.ok.mod.nolimit.keeps I.bk
/-- the frame over the base: for OpenK's rules (K.In X.base is I.mod.kin) -/
theorem Inv.fr (I : Inv X pins σ H s) : ∃ m, Fr X.base X.env.locals s.heap m :=
  let ⟨m, hn, _⟩ := I.loc
  ⟨m, hn, I.bk, Nat.le_trans I.ok.bsz I.ok.above⟩
theorem Inv.lt (I : Inv X pins σ H s) : X.env.locals < s.heap.objs.size := let ⟨_, hn, _⟩ := I.loc; hn.lt
theorem Inv.sz (I : Inv X pins σ H s) : X.s₀.heap.objs.size ≤ s.heap.objs.size := Nat.le_trans I.ok.above (Nat.le_of_lt I.lt)
theorem Inv.nofs (I : Inv X pins σ H s) {a : Addr} (h : s.heap.objs.size ≤ a) : a ∉ X.fs := fun hb => by
  obtain ⟨_, o, ho, _⟩ := I.ok.funs.mem hb
  exact absurd (Nat.lt_of_lt_of_le (Heap.lt_size ho) (Nat.le_trans I.sz h)) (Nat.lt_irrefl _)
theorem Inv.cne (I : Inv X pins σ H s) : ∀ x c, X.env.cells.lookup x = some c → c ≠ X.env.locals := fun x c e z => by
  obtain ⟨v, o, ho, hd⟩ := I.cell x c e
  obtain ⟨m, ⟨o', es, ep, ho', hd', _⟩, _⟩ := I.loc
  rw [z, ho'] at ho; cases ho; rw [hd'] at hd; cases hd
theorem Inv.funs (I : Inv X pins σ H s) : s.heap.FunFrames X.base X.outer := by
  have all : ∀ (l : List Env), (∀ b ∈ frs l, b ∈ X.fs) → X.s₀.heap.FunFrames X.base l → s.heap.FunFrames X.base l := by
    intro l
    induction l with
    | nil => intro _ _; trivial
    | cons env r ih =>
      intro hs hl
      obtain ⟨hk, ⟨L, o, hf, hn, ho, hd⟩, hr⟩ := hl
      have hL : L ∈ X.fs := hs L (by unfold frs; rw [List.filterMap_cons, hf]; exact List.mem_cons_self)
      obtain ⟨sl, e⟩ := I.base.slot L o ho (I.ok.frf L hL) hL fun z => I.ok.exfs L z hL
      exact ⟨hk, ⟨L, _, hf, hn, e, hd⟩, ih (fun b hb => hs b (by unfold frs; rw [List.filterMap_cons, hf]; exact List.mem_cons_of_mem _ hb)) hr⟩
  exact all X.outer (fun _ hb => hb) I.ok.funs

/-- the frames that run, for a call -/
theorem Inv.stack (I : Inv X pins σ H s) : s.heap.FunFrames X.base X.stack := by
  rcases I.ok.stk with e | ⟨e, hf⟩
  · rw [e]; exact I.funs
  · rw [e]
    obtain ⟨m, hn, _⟩ := I.loc
    refine .cons (by rw [I.ok.kind]; decide) hf hn ?_ I.funs
    exact Heap.get?_none_of_le (Nat.le_trans I.ok.bsz I.ok.above)
theorem Inv.stkSub (I : Inv X pins σ H s) : ∀ b ∈ frs X.stack, b ∈ X.env.locals :: X.fs := fun b hb => by
  rcases I.ok.stk with e | ⟨e, hf⟩
  · rw [e] at hb; exact List.mem_cons_of_mem _ hb
  · rw [e] at hb
    unfold frs at hb
    rw [List.filterMap_cons, hf] at hb
    exact hb
theorem Inv.stkFree (I : Inv X pins σ H s) : ∀ b ∈ frs X.stack, H b = none := fun b hb => by
  rcases List.mem_cons.mp (I.stkSub b hb) with e | hb
  · rw [e]; exact I.free
  · obtain ⟨_, o, ho, _⟩ := I.ok.funs.mem hb
    exact I.base.free b o ho (I.ok.frf b hb) fun z => I.ok.exfs b z hb

/-- THE STEP: the untracked objects but the frame and the records at ch are kept (the callers' frames up to slots), the frame's map is kept, the new abstract heap is held -/
theorem Inv.step {g' : Array GenState} {t' : Nat} {d' : Drawn} {ch : List Addr} (I : Inv X pins σ H s)
    (hch : ∀ b ∈ ch, (b ∈ X.ex ∨ X.s₀.heap.objs.size ≤ b) ∧ b ≠ X.env.locals ∧ (∀ x c, X.env.cells.lookup x = some c → c ≠ b) ∧ ∀ p ∈ X.pn ++ pins, p.1 ≠ b)
    (keep : ∀ b o, b ≠ X.env.locals → b ∉ X.fs → b ∉ ch → s.heap.get? b = some o → H b = none → h'.get? b = some o)
    (slot : ∀ b o, b ≠ X.env.locals → b ∈ X.fs → b ∉ ch → s.heap.get? b = some o → H b = none → ∃ sl, h'.get? b = some { o with slots := sl }) (free : ∀ b o, b ∉ ch → s.heap.get? b = some o → H b = none → H' b = none)
    (there : ∀ b o, b ∉ ch → s.heap.get? b = some o → ∃ o', h'.get? b = some o')
    (tups : ∀ b xs, H b = some (.tup xs) → H' b = some (.tup xs)) (frzs : ∀ b o u, H b = some (.frz o u) → H' b = some (.frz o u)) (tbls : ∀ b ps, H b = some (.tbl ps) → ∃ more, H' b = some (.tbl (ps ++ more)))
    (ns : ∀ m, s.heap.Ns X.env.locals m → h'.Ns X.env.locals m) (hok : HOk X.prog X.w H' h') (hg : AllBare g') :
    Inv X pins σ H' { s with heap := h', gens := g', drawn := d', toks := t' } := by
  have neL : ∀ b o, X.s₀.heap.get? b = some o → b ≠ X.env.locals := fun b o e => Nat.ne_of_lt (Nat.lt_of_lt_of_le (Heap.lt_size e) I.ok.above)
  have neC : ∀ b o, X.s₀.heap.get? b = some o → b ∉ X.ex → b ∉ ch := fun b o e hx hb => by
    rcases (hch b hb).1 with z | z
    · exact hx z
    · exact absurd (Nat.lt_of_lt_of_le (Heap.lt_size e) z) (Nat.lt_irrefl _)
  have cellK : ∀ x c, X.env.cells.lookup x = some c → ∀ v, s.heap.IsCell c v → h'.IsCell c v := fun x c e v ⟨o, ho, hd⟩ => by
    have nch : c ∉ ch := fun z => (hch c z).2.2.1 x c e rfl
    by_cases hc : c ∈ X.fs
    · obtain ⟨sl, q⟩ := slot c o (I.cne x c e) hc nch ho (I.freeC x c e)
      exact ⟨_, q, hd⟩
    · exact ⟨o, keep c o (I.cne x c e) hc nch ho (I.freeC x c e), hd⟩
  refine ⟨I.ok, I.os, hg, ⟨fun b o e n hb hx => ?_, fun b o e n hb hx => ?_, fun b o e n hx => ?_, fun b o e hx => ?_, fun b xs e => tups b xs (I.base.tups b xs e), fun b o xs e => frzs b o xs (I.base.frzs b o xs e), fun b ps e => ?_⟩, ?_, fun x c e => ?_, ?_, fun x c e => ?_, fun p hp => ?_, hok, I.len⟩
  · exact keep b o (neL b o e) hb (neC b o e hx) (I.base.keep b o e n hb hx) (I.base.free b o e n hx)
  · obtain ⟨sl, e1⟩ := I.base.slot b o e n hb hx
    obtain ⟨sl', e2⟩ := slot b _ (neL b o e) hb (neC b o e hx) e1 (I.base.free b o e n hx)
    exact ⟨sl', e2⟩
  · obtain ⟨o', e1⟩ := I.base.there b o e hx
    exact free b o' (neC b o e hx) e1 (I.base.free b o e n hx)
  · obtain ⟨o', e1⟩ := I.base.there b o e hx
    exact there b o' (neC b o e hx) e1
  · obtain ⟨m1, e1⟩ := I.base.tbls b ps e
    obtain ⟨m2, e2⟩ := tbls b _ e1
    exact ⟨m1 ++ m2, by rw [e2, Array.append_assoc]⟩
  · obtain ⟨m, hn, hl⟩ := I.loc
    refine ⟨m, ns m hn, fun i x v e1 e2 e3 => ?_⟩
    obtain ⟨u, r, l⟩ := hl i x v e1 e2 e3
    refine ⟨u, r, ?_⟩
    rcases l with l | ⟨k, c, e, z⟩
    · exact .inl l
    · exact .inr ⟨k, c, e, cellK x c e _ z⟩
  · obtain ⟨v, z⟩ := I.cell x c e
    exact ⟨v, cellK x c e v z⟩
  · obtain ⟨m, ⟨o, _, _, ho, _⟩, _⟩ := I.loc
    exact free _ o (fun z => (hch _ z).2.1 rfl) ho I.free
  · obtain ⟨v, o, ho, hd⟩ := I.cell x c e
    exact free c o (fun z => (hch c z).2.2.1 x c e rfl) ho (I.freeC x c e)
  · obtain ⟨e, n, ne, nf, d⟩ := I.pin p hp
    have nch : p.1 ∉ ch := fun z => (hch p.1 z).2.2.2 p hp rfl
    exact ⟨keep p.1 p.2 ne nf nch e n, free p.1 p.2 nch e n, ne, nf, d⟩
/-- .. where the frame's own object is kept too -/
theorem Inv.un {t' : Nat} (I : Inv X pins σ H s) (u : Un X.fs [] H H' s.heap h') (hok : HOk X.prog X.w H' h') : Inv X pins σ H' { s with heap := h', toks := t' } := by
  obtain ⟨m, ⟨o, es, ep, ho, r⟩, _⟩ := id I.loc
  obtain ⟨sl, hL⟩ := u.any ho I.free (by simp)
  exact I.step (g' := s.gens) (d' := s.drawn) (ch := []) (fun _ z => nomatch z) (fun b o _ hb _ e n => u.keep b o e n hb (by simp)) (fun b o _ hb _ e n => u.slot b o e n hb (by simp)) (fun b o _ e n => u.free b o e n (by simp)) (fun b o _ e => u.there b o e (by simp)) u.tups u.frzs u.tbls (fun m' hm => by
    obtain ⟨o', es', ep', ho', r'⟩ := hm
    rw [ho] at ho'; cases ho'
    exact ⟨_, es', ep', hL, r'⟩) hok I.bare
/-- behind a call (or a comprehension's block): the slots of this frame may have changed too, the records at ch may have turned -/
theorem Inv.call {g' : Array GenState} {t' : Nat} {d' : Drawn} {ch : List Addr} (I : Inv X pins σ H s) (u : Un (frs X.stack) ch H H' s.heap h') (hok : HOk X.prog X.w H' h') (hg : AllBare g')
    (hch : ∀ b ∈ ch, (b ∈ X.ex ∨ X.s₀.heap.objs.size ≤ b) ∧ b ≠ X.env.locals ∧ (∀ x c, X.env.cells.lookup x = some c → c ≠ b) ∧ ∀ p ∈ X.pn ++ pins, p.1 ≠ b) :
    Inv X pins σ H' { s with heap := h', gens := g', drawn := d', toks := t' } := by
  obtain ⟨m, ⟨o, es, ep, ho, r⟩, _⟩ := id I.loc
  obtain ⟨sl, hL⟩ := u.any ho I.free fun z => (hch _ z).2.1 rfl
  exact I.step (ch := ch) hch (fun b o hL hb hc e n => u.keep b o e n (fun z => (List.mem_cons.mp (I.stkSub b z)).elim hL hb) hc) (fun b o _ _ hc e n => u.any e n hc) (fun b o hc e n => u.free b o e n hc) (fun b o hc e => u.there b o e hc) u.tups u.frzs u.tbls (fun m' hm => by
    obtain ⟨o', es', ep', ho', r'⟩ := hm
    rw [ho] at ho'; cases ho'
    exact ⟨_, es', ep', hL, r'⟩) hok hg
/-- an untracked record of ours (an iterator) has turned -/
theorem Inv.turned {t' : Nat} {it : Addr} (I : Inv X pins σ H s) (k : ∀ b o, b ≠ it → s.heap.get? b = some o → h'.get? b = some o) (hn : H it = none) (hL : it ≠ X.env.locals)
    (h1 : it ∈ X.ex ∨ X.s₀.heap.objs.size ≤ it) (h2 : ∀ x c, X.env.cells.lookup x = some c → c ≠ it) (h3 : ∀ p ∈ X.pn ++ pins, p.1 ≠ it) : Inv X pins σ H { s with heap := h', toks := t' } := by
  have nit : ∀ b u, H b = some u → b ≠ it := fun b u e z => by rw [z, hn] at e; cases e
  refine I.step (g' := s.gens) (d' := s.drawn) (ch := [it]) (fun b hb => ?_) (fun b o _ _ hc e _ => k b o (fun z => hc (by simp [z])) e) (fun b o _ _ hc e _ => ⟨o.slots, k b o (fun z => hc (by simp [z])) e⟩) (fun _ _ _ _ n => n)
    (fun b o hc e => ⟨o, k b o (fun z => hc (by simp [z])) e⟩) (fun _ _ e => e) (fun _ _ _ e => e) (fun b ps e => ⟨#[], by rw [e]; simp⟩) (fun m hm => ?_) (fun b u e => ?_) I.bare
  · have e : b = it := by simpa using hb
    subst e
    exact ⟨h1, hL, h2, h3⟩
  · obtain ⟨o, es, ep, ho, r⟩ := hm
    exact ⟨o, es, ep, k _ o (Ne.symm hL) ho, r⟩
  · refine (I.hok b u e).stay (fun c v hc q => k c v ?_ q) (fun _ q => q) fun _ _ q => q
    rcases hc with z | z
    · rw [z]; exact nit b u e
    · exact nit c _ z
theorem Inv.tok (I : Inv X pins σ H s) (t : Nat) : Inv X pins σ H { s with toks := t } := I.un (h' := s.heap) (t' := t) Un.refl I.hok
/-- all objects kept -/
theorem Inv.kept {t' : Nat} (I : Inv X pins σ H s) (k : ∀ b u, s.heap.get? b = some u → h'.get? b = some u) : Inv X pins σ H { s with heap := h', toks := t' } := I.un (Un.kept k) (I.hok.kept k)
/-- a new object laid and tracked -/
theorem Inv.laid {a : Addr} {o : HO} {t' : Nat} (I : Inv X pins σ H s) (k : ∀ b u, s.heap.get? b = some u → h'.get? b = some u) (hp : s.heap.objs.size ≤ a) (new : ObjOk X.prog X.w (upd H a o) h' a o) :
    Inv X pins σ (upd H a o) { s with heap := h', toks := t' } := I.un (Un.laid k hp (I.hok.fresh hp)) (I.hok.laid k hp new)
/-- an object written -/
theorem Inv.write {x e : Addr} {o : HO} {t' : Nat} (I : Inv X pins σ H s) (mu : Mut (H x)) (he : e = x ∨ H e = some (.own x)) (k : ∀ b u, b ≠ e → s.heap.get? b = some u → h'.get? b = some u) (heo : ∃ u, h'.get? e = some u)
    (new : ObjOk X.prog X.w (upd H x o) h' x o) : Inv X pins σ (upd H x o) { s with heap := h', toks := t' } := I.un (Un.write mu he k heo) (I.hok.write mu he k heo new)
theorem Inv.pins_of {pins' : List (Addr × Obj)} (I : Inv X pins σ H s) (h : ∀ p ∈ pins', s.heap.get? p.1 = some p.2 ∧ H p.1 = none ∧ p.1 ≠ X.env.locals ∧ p.1 ∉ X.fs ∧ ∀ v, p.2.data ≠ .cell v) : Inv X pins' σ H s :=
  ⟨I.ok, I.os, I.bare, I.base, I.loc, I.cell, I.free, I.freeC, fun p hp => (List.mem_append.mp hp).elim (fun z => I.pin p (List.mem_append_left _ z)) (h p), I.hok, I.len⟩

theorem nodup_ix {N : List Str} (hN : N.Nodup) {i j : Nat} {x : Str} (a : N[i]? = some x) (b : N[j]? = some x) : i = j := by
  obtain ⟨h1, e1⟩ := List.getElem?_eq_some_iff.mp a
  obtain ⟨h2, e2⟩ := List.getElem?_eq_some_iff.mp b
  exact (List.getElem_inj hN).mp (e1.trans e2.symm)

/-- a name is stored; what changed -/
theorem store_ok2 {M : Model} {A : Around} {E : Value → Shared → Prop} {i : Nat} {x : Str} {v : V} {u : Value} {Q : Unit → Shared → Prop} (I : Inv X pins σ H s) (hN : X.N.Nodup) (hi : X.N[i]? = some x) (hx : Loc X.env.scope x) (r : RelV v u)
    (h : ∀ s', Inv X pins (σ.set i (some v)) H s' → (∃ a, Heap.SameBut a s.heap s'.heap ∧ (a = X.env.locals ∨ X.env.cells.lookup x = some a)) → Q () s') (hf : X.fn x = true ∨ X.env.scope.names.lookup x = some .local := by first | exact .inl rfl | exact .inr rfl | assumption) : wpAny M A (storeName X.env x u) Q E s := by
  obtain ⟨m, hn, hl⟩ := id I.loc
  have hcls : (X.env.scope.kind == .class || (X.env.scope.kind == .module && X.env.locals != X.env.globals)) = false := by rw [I.ok.kind]; rfl
  have hiσ : i < σ.length := by rw [I.len]; exact (List.getElem?_eq_some_iff.mp hi).1
  have cne := I.cne
  have tracked : ∀ {a : Addr} {h' : Heap}, (∃ o, s.heap.get? a = some o ∧ H a = none) → Heap.SameBut a s.heap h' → HOk X.prog X.w H h' := fun {a h'} ha hs b ob e => by
    obtain ⟨_, _, hfree⟩ := ha
    refine (I.hok b ob e).stay (fun c w' hc q => (hs.2 c ?_).trans q) (fun _ q => q) fun _ _ q => q
    rintro rfl
    rcases hc with rfl | hc
    · rw [hfree] at e; cases e
    · rw [hfree] at hc; cases hc
  rcases hx with hk | hk
  · refine wpAny_storeName_local hk hn (fun h' hn' hs => ?_) hcls
    obtain ⟨oL, _, _, hoL, _⟩ := id hn
    refine h _ ⟨I.ok, I.os, I.bare, ⟨fun b o e n hb hx => ?_, fun b o e n hb hx => ?_, I.base.free, fun b o e hx => ?_, I.base.tups, I.base.frzs, I.base.tbls⟩, ⟨_, hn', fun j y v' e1 e2 e3 => ?_⟩, fun y c e => ?_, I.free, I.freeC, fun p hp => ?_, tracked ⟨oL, hoL, I.free⟩ hs, by simpa using I.len⟩ ⟨_, hs, .inl rfl⟩
    · exact (hs.2 b (Nat.ne_of_lt (Nat.lt_of_lt_of_le (Heap.lt_size e) I.ok.above))).trans (I.base.keep b o e n hb hx)
    · obtain ⟨sl, e1⟩ := I.base.slot b o e n hb hx
      exact ⟨sl, (hs.2 b (Nat.ne_of_lt (Nat.lt_of_lt_of_le (Heap.lt_size e) I.ok.above))).trans e1⟩
    · obtain ⟨o', e1⟩ := I.base.there b o e hx
      exact ⟨o', (hs.2 b (Nat.ne_of_lt (Nat.lt_of_lt_of_le (Heap.lt_size e) I.ok.above))).trans e1⟩
    · by_cases hj : j = i
      · subst hj
        rw [hi] at e1; cases e1
        rw [List.getElem?_set_self hiσ] at e2
        cases e2
        exact ⟨u, r, .inl ⟨hk, by simp⟩⟩
      · rw [List.getElem?_set_ne (Ne.symm hj)] at e2
        obtain ⟨u', r', q⟩ := hl j y v' e1 e2 e3
        refine ⟨u', r', ?_⟩
        rcases q with ⟨k, e⟩ | ⟨k, c, e, z⟩
        · refine .inl ⟨k, ?_⟩
          have : y ≠ x := fun e => hj (nodup_ix hN e1 (e ▸ hi))
          simp [this, e]
        · exact .inr ⟨k, c, e, z.sameBut hs (cne y c e)⟩
    · obtain ⟨w', z⟩ := I.cell y c e
      exact ⟨w', z.sameBut hs (cne y c e)⟩
    · obtain ⟨e, n, ne, nf, d⟩ := I.pin p hp
      exact ⟨(hs.2 p.1 ne).trans e, n, ne, nf, d⟩
  · have hfn : X.fn x = true := by
      rcases hf with z | z
      · exact z
      · rw [z] at hk; cases hk
    obtain ⟨c, hc⟩ := I.ok.has x (.inl hk)
    obtain ⟨w', z⟩ := I.cell x c hc
    refine wpAny_storeName_cell I.ok.kind hk hc z (fun h' hc' hs => ?_)
    obtain ⟨oc, hoc, hocd⟩ := id z
    refine h { s with heap := h' } ⟨I.ok, I.os, I.bare, ⟨fun b o e n hb hx => ?_, fun b o e n hb hx => ?_, I.base.free, fun b o e hx => ?_, I.base.tups, I.base.frzs, I.base.tbls⟩, ⟨m, hn.sameBut hs (Ne.symm (cne x c hc)), fun j y v' e1 e2 e3 => ?_⟩, fun y c' e => ?_, I.free, I.freeC, fun p hp => ?_, tracked ⟨oc, hoc, I.freeC x c hc⟩ hs, by simpa using I.len⟩ ⟨c, hs, .inr hc⟩
    · exact (hs.2 b (Nat.ne_of_lt (Nat.lt_of_lt_of_le (Heap.lt_size e) (I.ok.cab x c hfn hc)))).trans (I.base.keep b o e n hb hx)
    · obtain ⟨sl, e1⟩ := I.base.slot b o e n hb hx
      exact ⟨sl, (hs.2 b (Nat.ne_of_lt (Nat.lt_of_lt_of_le (Heap.lt_size e) (I.ok.cab x c hfn hc)))).trans e1⟩
    · obtain ⟨o', e1⟩ := I.base.there b o e hx
      exact ⟨o', (hs.2 b (Nat.ne_of_lt (Nat.lt_of_lt_of_le (Heap.lt_size e) (I.ok.cab x c hfn hc)))).trans e1⟩
    · by_cases hj : j = i
      · subst hj
        rw [hi] at e1; cases e1
        rw [List.getElem?_set_self hiσ] at e2
        cases e2
        exact ⟨u, r, .inr ⟨.inl hk, c, hc, hc'⟩⟩
      · rw [List.getElem?_set_ne (Ne.symm hj)] at e2
        obtain ⟨u', r', q⟩ := hl j y v' e1 e2 e3
        refine ⟨u', r', ?_⟩
        rcases q with q | ⟨k, c', e, z'⟩
        · exact .inl q
        · refine .inr ⟨k, c', e, z'.sameBut hs ?_⟩
          rintro rfl
          exact hj (nodup_ix hN e1 (I.ok.inj _ _ _ e hc ▸ hi))
    · by_cases hcc : c' = c
      · subst hcc; exact ⟨_, hc'⟩
      · obtain ⟨w2, z2⟩ := I.cell y c' e
        exact ⟨w2, z2.sameBut hs hcc⟩
    · obtain ⟨e, n, ne, nf, d⟩ := I.pin p hp
      refine ⟨(hs.2 p.1 ?_).trans e, n, ne, nf, d⟩
      intro q
      rw [q, hoc] at e
      have q' : oc = p.2 := Option.some.inj e
      exact d w' (by rw [← q']; exact hocd)
theorem store_ok {M : Model} {A : Around} {E : Value → Shared → Prop} {i : Nat} {x : Str} {v : V} {u : Value} {Q : Unit → Shared → Prop} (I : Inv X pins σ H s) (hN : X.N.Nodup) (hi : X.N[i]? = some x) (hx : Loc X.env.scope x) (r : RelV v u)
    (h : ∀ s', Inv X pins (σ.set i (some v)) H s' → Q () s') (hf : X.fn x = true ∨ X.env.scope.names.lookup x = some .local := by first | exact .inl rfl | exact .inr rfl | assumption) : wpAny M A (storeName X.env x u) Q E s :=
  store_ok2 I hN hi hx r (fun s' I' _ => h s' I') hf
/-- behind a call or a block, the state as it is -/
theorem Inv.call' {s' : Shared} {ch : List Addr} (I : Inv X pins σ H s) (ho : s'.os = s.os) (u : Un (frs X.stack) ch H H' s.heap s'.heap) (hok : HOk X.prog X.w H' s'.heap) (hg : AllBare s'.gens)
    (hch : ∀ b ∈ ch, (b ∈ X.ex ∨ X.s₀.heap.objs.size ≤ b) ∧ b ≠ X.env.locals ∧ (∀ x c, X.env.cells.lookup x = some c → c ≠ b) ∧ ∀ p ∈ X.pn ++ pins, p.1 ≠ b) : Inv X pins σ H' s' := by
  obtain ⟨h', g', d', t', o'⟩ := s'
  have e : o' = s.os := ho
  subst e
  exact I.call (g' := g') (t' := t') (d' := d') u hok hg hch
end

/-! ### the judgements -/
/-- an exception: its class, its own dict's address (where it has one), the abstract heap behind it -/
abbrev XK := Value → Option Addr → Hp → Prop
abbrev St := List (Option V)
abbrev VK := V → Hp → Prop
/-- an expression's reading; a test's; an argument list's -/
abbrev TE := St → Hp → VK → Prop
abbrev TT := St → Hp → (Bool → Hp → Prop) → Prop
abbrev TA := St → Hp → (List V → Hp → Prop) → Prop
/-- what is wanted behind a statement -/
structure Ends where
  nx : St → Hp → Prop
  rt : VK
  bk : St → Hp → Prop := fun _ _ => False
  ct : St → Hp → Prop := fun _ _ => False
abbrev TS := Ends → St → Hp → Prop

def EP (X : Cx) (pins : List (Addr × Obj)) (σ : St) (Q : VK) (u : Value) (s' : Shared) : Prop := ∃ v H', Inv X pins σ H' s' ∧ RelV v u ∧ Q v H'
def TP (X : Cx) (pins : List (Addr × Obj)) (σ : St) (Q : Bool → Hp → Prop) (b : Bool) (s' : Shared) : Prop := ∃ H', Inv X pins σ H' s' ∧ Q b H'
def AP (X : Cx) (pins : List (Addr × Obj)) (σ : St) (Q : List V → Hp → Prop) (us : List Value) (s' : Shared) : Prop := ∃ vs H', Inv X pins σ H' s' ∧ Vals vs us ∧ Q vs H'
def SP (X : Cx) (pins : List (Addr × Obj)) (D : Ends) (f : Flow) (s' : Shared) : Prop :=
  match f with
  | .next => ∃ σ' H', Inv X pins σ' H' s' ∧ D.nx σ' H'
  | .brk => ∃ σ' H', Inv X pins σ' H' s' ∧ D.bk σ' H'
  | .cont => ∃ σ' H', Inv X pins σ' H' s' ∧ D.ct σ' H'
  | .ret u => ∃ v σ' H', Inv X pins σ' H' s' ∧ RelV v u ∧ D.rt v H'

def PE (X : Cx) (e : Expr) (t : TE) : Prop :=
  ∀ (pins : List (Addr × Obj)) (s : Shared) (σ : St) (H : Hp) (Q : VK), Inv X pins σ H s → t σ H Q → wpAny (model X.prog X.w) X.A (eval e X.env) (EP X pins σ Q) X.xe s
def PT (X : Cx) (e : Expr) (t : TT) : Prop :=
  ∀ (pins : List (Addr × Obj)) (s : Shared) (σ : St) (H : Hp) (Q : Bool → Hp → Prop), Inv X pins σ H s → t σ H Q → wpAny (model X.prog X.w) X.A (isTrue e X.env (eval e X.env)) (TP X pins σ Q) X.xe s
/-- a test whatever its 'whole' is (and, or) -/
def PW (X : Cx) (e : Expr) (t : TT) : Prop :=
  ∀ (whole : Sem Value) (pins : List (Addr × Obj)) (s : Shared) (σ : St) (H : Hp) (Q : Bool → Hp → Prop), Inv X pins σ H s → t σ H Q → wpAny (model X.prog X.w) X.A (isTrue e X.env whole) (TP X pins σ Q) X.xe s
theorem PW.pt {X : Cx} {e : Expr} {t : TT} (h : PW X e t) : PT X e t := h _
/-- an argument list (no star), from the left -/
def PA (X : Cx) (es : List Expr) (t : TA) : Prop :=
  ∀ (pos : Pos) (pins : List (Addr × Obj)) (s : Shared) (σ : St) (H : Hp) (Q : List V → Hp → Prop), Inv X pins σ H s → t σ H Q → wpAny (model X.prog X.w) X.A (spliced (backTo pos (starEach es X.env))) (AP X pins σ Q) X.xe s
def PS (X : Cx) (st : Stmt) (t : TS) : Prop :=
  ∀ (pins : List (Addr × Obj)) (s : Shared) (σ : St) (H : Hp) (D : Ends), Inv X pins σ H s → t D σ H → wpAny (model X.prog X.w) X.A (exec st X.env) (SP X pins D) X.xe s
def PSs (X : Cx) (st : List Stmt) (t : TS) : Prop :=
  ∀ (pins : List (Addr × Obj)) (s : Shared) (σ : St) (H : Hp) (D : Ends), Inv X pins σ H s → t D σ H → wpAny (model X.prog X.w) X.A (execs st X.env) (SP X pins D) X.xe s
/-- weaken the end -/
theorem thn {α : Type} {t : Sem α} {Q Q' : α → Shared → Prop} {M : Model} {A : Around} {E : Value → Shared → Prop} {s : Shared} (h : wpAny M A t Q E s) (hQ : ∀ a s, Q a s → Q' a s) : wpAny M A t Q' E s := wpAny_mono h hQ fun _ _ x => x
end L2

namespace L2
open PySem PySem.Spec PyProof.Rows
section
variable {X : Cx}

/-! ### names and constants -/
def tVar (i : Nat) : TE := fun σ H Q => ∃ v, σ[i]? = some (some v) ∧ Q v H
def tC (v : V) : TE := fun _ H Q => Q v H
theorem pe_var {i : Nat} {x : Str} {pos : Pos} (hN : X.N[i]? = some x) (hv : Vis X.env.scope x) (hd : (x == ("__debug__" : Str)) = false := by decide) (hcd : (x == ("__classdict__" : Str)) = false := by decide) : PE X (.Name x pos) (tVar i) := by
  intro pins s σ H Q I h
  obtain ⟨v, e, h⟩ := h
  obtain ⟨m, hn, hl⟩ := I.loc
  obtain ⟨u, r, l⟩ := hl i x v hN e hv
  have fin : EP X pins σ Q u s := ⟨v, H, I, r, h⟩
  rcases l with ⟨hk, hm⟩ | ⟨hk, c, hc, hcell⟩
  · exact wpAny_Name (wpAny_loadName_local I.ok.kind hk hn hm fin) hd
  · rcases hk with hk | hk
    · exact wpAny_Name (wpAny_loadName_cell I.ok.kind hk hc hcell fin) hd
    · exact wpAny_Name (wpAny_loadName_free I.ok.kind hk hc hcell fin hcd) hd
theorem pe_int {i j pos} : PE X (.Constant (.int i) j pos) (tC (.int i)) := fun _ _ _ H _ I h => wpAny_Constant_int ⟨.int i, H, I.tok _, ⟨_, rfl⟩, h⟩
theorem pe_bl {b j pos} : PE X (.Constant (.bool b) j pos) (tC (.bl b)) := fun _ _ _ H _ I h => Constant_bool ⟨.bl b, H, I, rfl, h⟩
theorem pe_non {j pos} : PE X (.Constant .none j pos) (tC .non) := fun _ _ _ H _ I h => Constant_none ⟨.non, H, I, rfl, h⟩
theorem pe_str {x j pos} : PE X (.Constant (.str x) j pos) (tC (.str x)) := fun _ _ _ H _ I h => Calls.Constant_str ⟨.str x, H, I.tok _, ⟨_, rfl⟩, h⟩

/-- a global name of the def -/
def Gl (X : Cx) (x : Str) : Prop := X.env.kindOf x = some .globalImplicit
theorem ld_glob {E : Value → Shared → Prop} {pins : List (Addr × Obj)} {s : Shared} {σ : St} {H : Hp} {x : Str} {u : Value} {pos : Pos} {Q : Value → Shared → Prop} (I : Inv X pins σ H s) (hg : Gl X x) (hm : X.mg x = some u) (h : Q u s)
    (hd : (x == ("__debug__" : Str)) = false := by decide) : wpAny (model X.prog X.w) X.A (eval (.Name x pos) X.env) Q E s :=
  Calls.Name_function_global I.ok.kind hg (Calls.loadGlobal_global (by rw [I.ok.glob]; exact I.mod.glob.keeps I.bk) hm h) hd
theorem ld_blt {E : Value → Shared → Prop} {pins : List (Addr × Obj)} {s : Shared} {σ : St} {H : Hp} {x : Str} {u : Value} {pos : Pos} {Q : Value → Shared → Prop} (I : Inv X pins σ H s) (hg : Gl X x) (hm : X.mg x = none) (hv : bootBuiltins x = some u) (h : Q u s)
    (hn : x ≠ "__name__" := by decide) (hd : (x == ("__debug__" : Str)) = false := by decide) : wpAny (model X.prog X.w) X.A (eval (.Name x pos) X.env) Q E s := by
  obtain ⟨mb, h1, h2⟩ := I.mod.blt
  exact Calls.Name_function_global I.ok.kind hg (Calls.loadGlobal_builtin (by rw [I.ok.glob]; exact I.mod.glob.keeps I.bk) hm (by rw [I.ok.blt]; exact h1.keeps I.bk) ((h2 x hn).trans hv) h) hd
/-- a module's constant, a class, a function, as a value -/
theorem pe_glob {x : Str} {v : V} {u : Value} {pos : Pos} (hg : Gl X x) (hm : X.mg x = some u) (r : RelV v u) (hd : (x == ("__debug__" : Str)) = false := by decide) : PE X (.Name x pos) (tC v) :=
  fun _ _ _ H _ I h => ld_glob I hg hm ⟨v, H, I, r, h⟩ hd
theorem pe_bltn {x : Str} {v : V} {u : Value} {pos : Pos} (hg : Gl X x) (hm : X.mg x = none) (hv : bootBuiltins x = some u) (r : RelV v u) (hn : x ≠ "__name__" := by decide) (hd : (x == ("__debug__" : Str)) = false := by decide) : PE X (.Name x pos) (tC v) :=
  fun _ _ _ H _ I h => ld_blt I hg hm hv ⟨v, H, I, r, h⟩ hn hd

/-! ### arithmetic -/
variable {a b : Expr} {ta tb : TE} {pos : Pos}
/-! ### comparisons -/
/-- a comparison as a value, as a test -/
def tB (t : TE) : TT := fun σ H Q => t σ H fun x H1 => ∃ c, x = .bl c ∧ Q c H1
/-- an expression whose value is a bool, as a test -/
theorem pt_val {e : Expr} {t : TE} (h : PE X e t) (he : ∀ whole, isTrue e X.env whole = (do let v ← whole; standAt e.pos; holding [v] (truthy v)) := by intro _; rfl) : PT X e (tB t) := by
  intro pins s σ H Q I hw
  refine isTrue_plain (thn (h pins s σ H _ I hw) fun v s1 ⟨x, H1, I1, r1, q1⟩ => ?_) (he _)
  obtain ⟨d, rfl, q⟩ := q1
  cases r1
  exact wpAny_truthy_bool ⟨H1, I1, q⟩

/-! ### and, or, not -/
variable {tA tB' : TT} {rest : List Expr}
def tAnd (t u : TT) : TT := fun σ H Q => t σ H fun c H1 => if c = true then u σ H1 Q else Q false H1
def tOr (t u : TT) : TT := fun σ H Q => t σ H fun c H1 => if c = true then Q true H1 else u σ H1 Q
def tNot (t : TT) : TT := fun σ H Q => t σ H fun c H1 => Q (!c) H1
theorem pw_and1 (ha : PT X a tA) : PW X (.BoolOp .And [a] pos) tA := by
  intro wh pins s σ H Q I h
  refine isTrue_and (thn (ha pins s σ H Q I h) fun c s1 e => ?_)
  cases c with
  | true => exact isTrue_and_nil e
  | false => exact e
theorem pw_or1 (ha : PT X a tA) : PW X (.BoolOp .Or [a] pos) tA := by
  intro wh pins s σ H Q I h
  refine isTrue_or (thn (ha pins s σ H Q I h) fun c s1 e => ?_)
  cases c with
  | false => exact isTrue_or_nil e
  | true => exact e
theorem pw_and (ha : PT X a tA) (hb : PW X (.BoolOp .And (b :: rest) pos) tB') : PW X (.BoolOp .And (a :: b :: rest) pos) (tAnd tA tB') := by
  intro wh pins s σ H Q I h
  refine isTrue_and (thn (ha pins s σ H _ I h) fun c s1 ⟨H1, I1, q1⟩ => ?_)
  cases c with
  | true => exact hb wh pins s1 σ H1 Q I1 q1
  | false => exact ⟨H1, I1, q1⟩
theorem pw_or (ha : PT X a tA) (hb : PW X (.BoolOp .Or (b :: rest) pos) tB') : PW X (.BoolOp .Or (a :: b :: rest) pos) (tOr tA tB') := by
  intro wh pins s σ H Q I h
  refine isTrue_or (thn (ha pins s σ H _ I h) fun c s1 ⟨H1, I1, q1⟩ => ?_)
  cases c with
  | true => exact ⟨H1, I1, q1⟩
  | false => exact hb wh pins s1 σ H1 Q I1 q1
theorem pt_not (ha : PT X a tA) : PT X (.UnaryOp .Not a pos) (tNot tA) := by
  intro pins s σ H Q I h
  exact isTrue_not (ha pins s σ H (fun c H1 => Q (!c) H1) I h)
/-- .. as values (bools) -/
def tAndV (ta tb : TE) : TE := fun σ H Q => ta σ H fun x H1 => ∃ c, x = .bl c ∧ if c = true then tb σ H1 Q else Q (.bl false) H1
def tOrV (ta tb : TE) : TE := fun σ H Q => ta σ H fun x H1 => ∃ c, x = .bl c ∧ if c = true then Q (.bl true) H1 else tb σ H1 Q
def tNotV (ta : TE) : TE := fun σ H Q => ta σ H fun x H1 => ∃ c, x = .bl c ∧ Q (.bl (!c)) H1
theorem pe_one {op} {t : TE} (h : PE X a t) : PE X (.BoolOp op [a] pos) t := fun pins s σ H Q I hw => BoolOp_one (h pins s σ H Q I hw)
theorem pe_and (ha : PE X a ta) (hb : PE X (.BoolOp .And (b :: rest) pos) tb) : PE X (.BoolOp .And (a :: b :: rest) pos) (tAndV ta tb) := by
  intro pins s σ H Q I h
  refine BoolOp_and (thn (ha pins s σ H _ I h) fun v s1 ⟨x, H1, I1, r1, q1⟩ => ?_)
  obtain ⟨c, rfl, q1⟩ := q1
  cases r1
  refine wpAny_truthy_bool ?_
  cases c with
  | true => exact hb pins s1 σ H1 Q I1 q1
  | false => exact ⟨.bl false, H1, I1, rfl, q1⟩
theorem pe_or (ha : PE X a ta) (hb : PE X (.BoolOp .Or (b :: rest) pos) tb) : PE X (.BoolOp .Or (a :: b :: rest) pos) (tOrV ta tb) := by
  intro pins s σ H Q I h
  refine BoolOp_or (thn (ha pins s σ H _ I h) fun v s1 ⟨x, H1, I1, r1, q1⟩ => ?_)
  obtain ⟨c, rfl, q1⟩ := q1
  cases r1
  refine wpAny_truthy_bool ?_
  cases c with
  | false => exact hb pins s1 σ H1 Q I1 q1
  | true => exact ⟨.bl true, H1, I1, rfl, q1⟩
theorem pe_not (ha : PE X a ta) : PE X (.UnaryOp .Not a pos) (tNotV ta) := by
  intro pins s σ H Q I h
  refine UnaryOp_ (thn (ha pins s σ H _ I h) fun v s1 ⟨x, H1, I1, r1, q1⟩ => ?_)
  obtain ⟨c, rfl, q1⟩ := q1
  cases r1
  exact not_of (wpAny_truthy_bool ⟨.bl (!c), H1, I1, rfl, q1⟩)
/-- a if t else b -/
def tIf (t : TT) (ta tb : TE) : TE := fun σ H Q => t σ H fun c H1 => if c = true then ta σ H1 Q else tb σ H1 Q
theorem pe_ifExp {c : Expr} (hc : PT X c tA) (ha : PE X a ta) (hb : PE X b tb) : PE X (.IfExp c a b pos) (tIf tA ta tb) := by
  intro pins s σ H Q I h
  refine wpAny_IfExp (thn (hc pins s σ H _ I h) fun d s1 ⟨H1, I1, q1⟩ => ?_)
  cases d with
  | true => exact ha pins s1 σ H1 Q I1 q1
  | false => exact hb pins s1 σ H1 Q I1 q1
end
end L2

namespace L2
open PySem PySem.Spec PyProof.Rows

/-! ### a list, a tuple that is read: tracked, frozen, or an object of the module -/
def SqL (K : PySem.W.Frag) (H : Hp) (a : Addr) (xs : List V) : Prop :=
  Rd H a (.lst xs) ∨
    ∃ (o : Obj) (its : Array Value) (n : Nat), K.lookup a = some o ∧ o.cls = .type "list" ∧ o.dict = none ∧ o.data = .seq its n ∧ its.size ≤ sizeLine ∧ Vals xs its.toList
def SqT (K : PySem.W.Frag) (H : Hp) (a : Addr) (xs : List V) : Prop :=
  Rd H a (.tup xs) ∨
    ∃ (o : Obj) (its : Array Value) (n : Nat), K.lookup a = some o ∧ o.cls = .type "tuple" ∧ o.data = .seq its n ∧ its.size ≤ sizeLine ∧ Vals xs its.toList
def absV : Value → Option V
  | .none => some .non
  | .bool b => some (.bl b)
  | .int i _ => some (.int i)
  | .str x _ => some (.str x)
  | .bytes b _ => some (.byt b)
  | .float b _ => some (.flt b)
  | .ref a => some (.ref a)
  | .type n => some (.ty n)
  | _ => none
theorem RelV.abs {x : V} {u : Value} (r : RelV x u) : absV u = some x := by
  cases x with
  | non => cases r; rfl
  | bl _ => cases r; rfl
  | int _ => obtain ⟨t, rfl⟩ := r; rfl
  | str _ => obtain ⟨t, rfl⟩ := r; rfl
  | byt _ => obtain ⟨t, rfl⟩ := r; rfl
  | flt _ => obtain ⟨t, rfl⟩ := r; rfl
  | ref _ => cases r; rfl
  | ty _ => cases r; rfl
theorem RelV.inj {x y : V} {u : Value} (r : RelV x u) (q : RelV y u) : x = y := Option.some.inj (r.abs.symm.trans q.abs)
theorem Vals.inj : ∀ {xs ys : List V} {us : List Value}, Vals xs us → Vals ys us → xs = ys
  | _, _, _, .nil, .nil => rfl
  | _, _, _, .cons r t, .cons r' t' => by rw [r.inj r', Vals.inj t t']
section
variable {X : Cx} {pins : List (Addr × Obj)} {σ : St} {H : Hp} {s : Shared} {a : Addr} {xs ys : List V}
theorem SqL.of {K : PySem.W.Frag} (h : H a = some (.lst xs)) : SqL K H a xs := .inl (.inl h)
theorem SqT.of {K : PySem.W.Frag} (h : H a = some (.tup xs)) : SqT K H a xs := .inl (.inl h)
theorem Inv.list (I : Inv X pins σ H s) (h : SqL X.K H a xs) : ∃ its : List Value, Vals xs its ∧ PlainL s.heap a its.toArray ∧ xs.length ≤ sizeLine := by
  rcases h with h | ⟨o, its, n, hk, hc, hd, hs, hz, r⟩
  · obtain ⟨z, its, n, r, e⟩ := h.ok I.hok
    exact ⟨its, r, ⟨_, n, e, rfl, rfl, rfl⟩, z⟩
  · refine ⟨its.toList, r, ⟨o, n, I.kIn a o hk, hc, hd, by simpa using hs⟩, ?_⟩
    have e := r.length
    simp only [Array.length_toList] at e
    omega
theorem Inv.tuple (I : Inv X pins σ H s) (h : SqT X.K H a xs) : ∃ its : List Value, Vals xs its ∧ IsTup s.heap a its.toArray ∧ xs.length ≤ sizeLine := by
  rcases h with h | ⟨o, its, n, hk, hc, hs, hz, r⟩
  · obtain ⟨z, its, r, p⟩ := h.ok I.hok
    exact ⟨its, r, p, z⟩
  · refine ⟨its.toList, r, ⟨o, I.kIn a o hk, hc, n, by simpa using hs⟩, ?_⟩
    have e := r.length
    simp only [Array.length_toList] at e
    omega
theorem Inv.list_inj (I : Inv X pins σ H s) (h : SqL X.K H a xs) (h' : SqL X.K H a ys) : xs = ys := by
  obtain ⟨its, r, ⟨o, n, e, _, _, d⟩, _⟩ := I.list h
  obtain ⟨its', r', ⟨o', n', e', _, _, d'⟩, _⟩ := I.list h'
  rw [e] at e'; cases e'
  rw [d] at d'
  injection d' with d1 _
  have : its = its' := by simpa using congrArg Array.toList d1
  subst this
  exact r.inj r'
theorem Inv.tuple_inj (I : Inv X pins σ H s) (h : SqT X.K H a xs) (h' : SqT X.K H a ys) : xs = ys := by
  obtain ⟨its, r, ⟨o, e, _, n, d⟩, _⟩ := I.tuple h
  obtain ⟨its', r', ⟨o', e', _, n', d'⟩, _⟩ := I.tuple h'
  rw [e] at e'; cases e'
  rw [d] at d'
  injection d' with d1 _
  have : its = its' := by simpa using congrArg Array.toList d1
  subst this
  exact r.inj r'
end

/-! ### another wish about exceptions -/
abbrev Cx.wish (X : Cx) (E : Value → Shared → Prop) : Cx := { X with xe := E }
/-- no exception leaves -/
abbrev Cx.nox (X : Cx) : Cx := X.wish fun _ _ => False
theorem Cx.Ok.wish {X : Cx} (ok : X.Ok) (E : Value → Shared → Prop) : (X.wish E).Ok :=
  ⟨ok.mod, ok.kind, ok.glob, ok.blt, ok.above, ok.inj, ok.has, ok.cab, ok.hd, ok.frames, ok.stk, ok.exf, ok.bs, ok.bsz, ok.noex, ok.exfs, ok.funs, ok.frf⟩
theorem Cx.Ok.unwish {X : Cx} {E : Value → Shared → Prop} (ok : (X.wish E).Ok) : X.Ok :=
  ⟨ok.mod, ok.kind, ok.glob, ok.blt, ok.above, ok.inj, ok.has, ok.cab, ok.hd, ok.frames, ok.stk, ok.exf, ok.bs, ok.bsz, ok.noex, ok.exfs, ok.funs, ok.frf⟩
section
variable {X : Cx} {pins : List (Addr × Obj)} {σ : St} {H : Hp} {s : Shared} {E : Value → Shared → Prop}
theorem Inv.wish (I : Inv X pins σ H s) (E : Value → Shared → Prop) : Inv (X.wish E) pins σ H s := ⟨I.ok.wish E, I.os, I.bare, I.base, I.loc, I.cell, I.free, I.freeC, I.pin, I.hok, I.len⟩
theorem Inv.unwish (I : Inv (X.wish E) pins σ H s) : Inv X pins σ H s := ⟨I.ok.unwish, I.os, I.bare, I.base, I.loc, I.cell, I.free, I.freeC, I.pin, I.hok, I.len⟩
theorem SP.unwish {D : Ends} {f : Flow} {s' : Shared} (h : SP (X.wish E) pins D f s') : SP X pins D f s' := by
  cases f with
  | next => obtain ⟨σ', H', I, q⟩ := h; exact ⟨σ', H', I.unwish, q⟩
  | brk => obtain ⟨σ', H', I, q⟩ := h; exact ⟨σ', H', I.unwish, q⟩
  | cont => obtain ⟨σ', H', I, q⟩ := h; exact ⟨σ', H', I.unwish, q⟩
  | ret u => obtain ⟨v, σ', H', I, r, q⟩ := h; exact ⟨v, σ', H', I.unwish, r, q⟩
theorem PE.nox {e : Expr} {t : TE} (h : PE X.nox e t) : PE X e t := fun pins s σ H Q I hw =>
  wpAny_mono (h pins s σ H Q (I.wish _) hw) (fun _ _ ⟨v, H', I', r, q⟩ => ⟨v, H', I'.unwish, r, q⟩) fun _ _ z => False.elim z
theorem PT.nox {e : Expr} {t : TT} (h : PT X.nox e t) : PT X e t := fun pins s σ H Q I hw =>
  wpAny_mono (h pins s σ H Q (I.wish _) hw) (fun _ _ ⟨H', I', q⟩ => ⟨H', I'.unwish, q⟩) fun _ _ z => False.elim z
theorem PSs.nox {st : List Stmt} {t : TS} (h : PSs X.nox st t) : PSs X st t := fun pins s σ H D I hw =>
  wpAny_mono (h pins s σ H D (I.wish _) hw) (fun _ _ q => q.unwish) fun _ _ z => False.elim z
end

/-! ### blocks and small statements -/
section
variable {X : Cx} {st : Stmt} {rest : List Stmt} {t u : TS} {e : Expr} {te : TE} {pos : Pos}
def tNext : TS := fun D σ H => D.nx σ H
def tSeq (t u : TS) : TS := fun D σ H => t { D with nx := u D } σ H
theorem pss_nil : PSs X [] tNext := fun _ _ σ H _ I h => wpAny_execs_nil ⟨σ, H, I, h⟩
theorem pss_cons (h1 : PS X st t) (h2 : PSs X rest u) : PSs X (st :: rest) (tSeq t u) := by
  intro pins s σ H D I h
  refine wpAny_execs_cons (thn (h1 pins s σ H { D with nx := u D } I h) fun f s1 q => ?_)
  cases f with
  | next =>
    obtain ⟨σ', H', I', q⟩ := q
    exact h2 pins s1 σ' H' D I' q
  | ret v => exact q
  | brk => exact q
  | cont => exact q
theorem pss_one (h1 : PS X st t) : PSs X [st] t := by
  intro pins s σ H D I h
  refine wpAny_execs_cons (thn (h1 pins s σ H D I h) fun f s1 q => ?_)
  cases f with
  | next => exact wpAny_execs_nil q
  | ret v => exact q
  | brk => exact q
  | cont => exact q
def tBreak : TS := fun D σ H => D.bk σ H
/-- in a def's body nothing is shown -/
theorem Inv.quiet {pins : List (Addr × Obj)} {σ : St} {H : Hp} {s : Shared} (I : Inv X pins σ H s) : interactive X.env = false := by simp [interactive, I.ok.kind]
/-- an expression whose value is dropped -/
def tDrop (te : TE) : TS := fun D σ H => te σ H fun _ H1 => D.nx σ H1
theorem ps_expr (he : PE X e te) (hs : swapsWith e none pos.line X.env = pure false := by rfl) : PS X (.Expr e pos) (tDrop te) := by
  intro pins s σ H D I h
  exact wpAny_Expr_any (thn (he pins s σ H _ I h) fun v s1 ⟨x, H1, I1, r1, q1⟩ => ⟨σ, H1, I1, q1⟩) I.quiet hs
def tRet (te : TE) : TS := fun D σ H => te σ H D.rt
theorem ps_ret (he : PE X e te) : PS X (.Return (some e) pos) (tRet te) := by
  intro pins s σ H D I h
  exact wpAny_Return_some (thn (he pins s σ H _ I h) fun v s1 ⟨x, H1, I1, r1, q1⟩ => ⟨x, σ, H1, I1, r1, q1⟩)
def tIfS (c : TT) (t u : TS) : TS := fun D σ H => c σ H fun b H1 => if b = true then t D σ H1 else u D σ H1
theorem ps_if {c : Expr} {a b : List Stmt} {tc : TT} (hc : PT X c tc) (ha : PSs X a t) (hb : PSs X b u) : PS X (.If c a b pos) (tIfS tc t u) := by
  intro pins s σ H D I h
  refine wpAny_If (thn (hc pins s σ H _ I h) fun d s1 ⟨H1, I1, q1⟩ => ?_)
  cases d with
  | true => exact ha pins s1 σ H1 D I1 q1
  | false => exact hb pins s1 σ H1 D I1 q1
/-- code that the proof never comes to -/
def tNever : TS := fun _ _ _ => False
theorem ps_never : PS X st tNever := fun _ _ _ _ _ _ h => h.elim
end

/-! ### targets -/
abbrev TG := V → St → Hp → (St → Hp → Prop) → Prop
abbrev TGs := List V → St → Hp → (St → Hp → Prop) → Prop
def PG (X : Cx) (target : Expr) (t : TG) : Prop :=
  ∀ (pins : List (Addr × Obj)) (s : Shared) (σ : St) (H : Hp) (v : V) (u : Value) (Q : St → Hp → Prop), Inv X pins σ H s → RelV v u → t v σ H Q →
    wpAny (model X.prog X.w) X.A (assign target X.env u) (fun _ s' => ∃ σ' H', Inv X pins σ' H' s' ∧ Q σ' H') X.xe s
/-- several targets, one after another -/
def PGs (X : Cx) (ts : List Expr) (t : TGs) : Prop :=
  ∀ (pins : List (Addr × Obj)) (s : Shared) (σ : St) (H : Hp) (vs : List V) (us : List Value) (Q : St → Hp → Prop), Inv X pins σ H s → Vals vs us → t vs σ H Q →
    wpAny (model X.prog X.w) X.A (assignInOrder ((assignEach ts X.env).map (·.2)) us) (fun _ s' => ∃ σ' H', Inv X pins σ' H' s' ∧ Q σ' H') X.xe s
/-- o[i] = v, by values -/
abbrev TSet := V → V → V → Hp → (Hp → Prop) → Prop
def PSet (X : Cx) (t : TSet) : Prop :=
  ∀ (pins : List (Addr × Obj)) (s : Shared) (σ : St) (H : Hp) (o i v : V) (ov iv u : Value) (Q : Hp → Prop), Inv X pins σ H s → RelV o ov → RelV i iv → RelV v u → t o i v H Q →
    wpAny (model X.prog X.w) X.A (setItem ov iv u) (fun _ s' => ∃ H', Inv X pins σ H' s' ∧ Q H') X.xe s
section
variable {X : Cx} {pos : Pos}
def gName (i : Nat) : TG := fun v σ H Q => Q (σ.set i (some v)) H
theorem pg_name {i : Nat} {x : Str} (hN : X.N.Nodup) (hi : X.N[i]? = some x) (hx : Loc X.env.scope x) (hf : X.fn x = true ∨ X.env.scope.names.lookup x = some .local := by first | exact .inl rfl | exact .inr rfl | assumption) : PG X (.Name x pos) (gName i) := by
  intro pins s σ H v u Q I r h
  exact wpAny_assign_Name (store_ok I hN hi hx r (fun s' I' => ⟨_, H, I', h⟩) hf)
def gNil : TGs := fun vs σ H Q => vs = [] ∧ Q σ H
def gCons (t : TG) (u : TGs) : TGs := fun vs σ H Q => ∃ v r, vs = v :: r ∧ t v σ H fun σ' H' => u r σ' H' Q
theorem pgs_nil : PGs X [] gNil := by
  intro pins s σ H vs us Q I r h
  obtain ⟨e, h⟩ := h
  subst e
  cases r
  exact assignInOrder_nil ⟨σ, H, I, h⟩
theorem pgs_cons {e : Expr} {es : List Expr} {t : TG} {u : TGs} (h1 : PG X e t) (h2 : PGs X es u)
    (hs : (assignEach (e :: es) X.env).map (·.2) = assign e X.env :: (assignEach es X.env).map (·.2) := by rfl) : PGs X (e :: es) (gCons t u) := by
  intro pins s σ H vs us Q I r h
  obtain ⟨v, vr, e1, h⟩ := h
  subst e1
  cases r with
  | cons r rr =>
    rw [hs]
    refine assignInOrder_cons (thn (h1 pins s σ H _ _ _ I r h) fun _ s1 ⟨σ1, H1, I1, q1⟩ => ?_)
    exact h2 pins s1 σ1 H1 _ _ Q I1 rr q1
/-- (a, b, ..) = a tuple of that length -/
def gTup (K : PySem.W.Frag) (n : Nat) (t : TGs) : TG := fun v σ H Q => ∃ a xs, v = .ref a ∧ SqT K H a xs ∧ xs.length = n ∧ t xs σ H Q
theorem pg_tup {es : List Expr} {k : Nat} {t : TGs} {n : Nat} (hc : X.calm = true) (h : PGs X es t)
    (hn : (assignEach es X.env).length = n := by rfl) (hst : (assignEach es X.env).findIdx? (·.1) = none := by rfl) : PG X (.Tuple es k pos) (gTup X.K n t) := by
  intro pins s σ H v u Q I r hw
  obtain ⟨a, xs, e1, hq, hl, hw⟩ := hw
  subst e1
  cases r
  obtain ⟨its, rv, ht, hz⟩ := I.tuple hq
  refine assign_Tuple_tuple (I.ok.hd hc) ht (by simp [hn, ← hl, rv.length]) hst fun h' hx => ?_
  have I1 : Inv X pins σ H { s with heap := h' } := I.kept (t' := s.toks) fun b o e => hx b o (Nat.ne_of_lt (Heap.lt_size e)) e
  exact h pins _ σ H xs _ Q I1 (by simpa using rv) hw
/-- o[i] = .. -/
def gSub (to ti : TE) (t : TSet) : TG := fun v σ H Q => to σ H fun o H1 => ti σ H1 fun i H2 => t o i v H2 fun H3 => Q σ H3
theorem pg_sub {o i : Expr} {to ti : TE} {t : TSet} (ho : PE X o to) (hi : PE X i ti) (hs : PSet X t)
    (ha : ∀ v, assign (.Subscript o i pos) X.env v = (do
      let ov ← holding [v] (eval o X.env)
      let iv ← holding [v, ov] (eval i X.env)
      standAt pos
      holding [v, ov, iv] (setItem ov iv v)
      release [v, ov, iv] []) := by intro _; rfl) : PG X (.Subscript o i pos) (gSub to ti t) := by
  intro pins s σ H v u Q I r h
  rw [ha]
  refine wpAny_bind (wpAny_holding (thn (ho pins s σ H _ I h) fun ov s1 ⟨x, H1, I1, r1, q1⟩ => ?_))
  refine wpAny_bind (wpAny_holding (thn (hi pins s1 σ H1 _ I1 q1) fun iv s2 ⟨y, H2, I2, r2, q2⟩ => ?_))
  refine wpAny_bind (wpAny_standAt (wpAny_bind (wpAny_holding (thn (hs pins s2 σ H2 x y v ov iv u _ I2 r1 r2 r q2) fun _ s3 ⟨H3, I3, q3⟩ => ?_))))
  exact wpAny_release ⟨σ, H3, I3, q3⟩
/-- target = value -/
def tAsg (te : TE) (g : TG) : TS := fun D σ H => te σ H fun x H1 => g x σ H1 D.nx
theorem ps_asg {tg e : Expr} {te : TE} {g : TG} (he : PE X e te) (hg : PG X tg g) (hs : swapsWithSole [tg] e pos.line X.env = pure false := by rfl) (hw : swappedStores [tg] e X.env = pure none := by rfl)
    (h1 : (assignEach [tg] X.env).map (·.2) = [assign tg X.env] := by rfl) : PS X (.Assign [tg] e pos) (tAsg te g) := by
  intro pins s σ H D I h
  refine wpAny_Assign_stores (thn (he pins s σ H _ I h) fun v s1 ⟨x, H1, I1, r1, q1⟩ => ?_) hs hw
  rw [h1]
  exact thn (hg pins s1 σ H1 x v _ I1 r1 q1) fun _ s2 q => q
/-- name = value -/
theorem ps_set {i : Nat} {x : Str} {e : Expr} {te : TE} {pos' : Pos} (hN : X.N.Nodup) (hi : X.N[i]? = some x) (hx : Loc X.env.scope x) (he : PE X e te) (hs : swapsWith e (some (.Name x pos')) pos.line X.env = pure false := by rfl) (hf : X.fn x = true ∨ X.env.scope.names.lookup x = some .local := by first | exact .inl rfl | exact .inr rfl | assumption) :
    PS X (.Assign [.Name x pos'] e pos) (tAsg te (gName i)) := by
  intro pins s σ H D I h
  refine wpAny_Assign_Name (thn (he pins s σ H _ I h) fun v s1 ⟨y, H1, I1, r1, q1⟩ => ?_) hs
  exact store_ok I1 hN hi hx r1 (fun s2 I2 => ⟨_, H1, I2, q1⟩) hf
end

/-! ### while -/
section
variable {X : Cx} {pos : Pos}
/-- the invariant W with its measure -/
def tWhile (c : TT) (tb : TS) : TS := fun D σ H => ∃ W : Nat → St → Hp → Prop, (∃ m, W m σ H) ∧ ∀ m σ H, W m σ H →
  c σ H fun b H1 => if b = true then ∃ N : St → Hp → Prop, (∀ σ' H', N σ' H' → ∃ m', m' < m ∧ W m' σ' H') ∧ tb { D with nx := N, ct := N, bk := D.nx } σ H1 else D.nx σ H1
theorem ps_while {c : Expr} {body : List Stmt} {tc : TT} {tb : TS} (hp : PassesOwn (model X.prog X.w) X.A X.env X.xe) (hc : PT X c tc) (hb : PSs X body tb) : PS X (.While c body [] pos) (tWhile tc tb) := by
  intro pins s σ H D I h
  obtain ⟨W, ⟨m0, w0⟩, turn⟩ := h
  refine wpAny_While (codeAny_whileLoop (fun n s' => ∃ σ' H', Inv X pins σ' H' s' ∧ W n σ' H') ?_ m0 ⟨σ, H, I, w0⟩)
  rintro n s1 ⟨σ1, H1, I1, w1⟩
  refine wpAny_passesOwn hp (thn (hc pins s1 σ1 H1 _ I1 (turn n σ1 H1 w1)) fun b s2 ⟨H2, I2, q2⟩ => ?_)
  cases b with
  | true =>
    obtain ⟨N, hN, q2⟩ := q2
    rw [if_pos rfl]
    refine wpAny_passesOwn hp (thn (hb pins s2 σ1 H2 _ I2 q2) fun f s3 q3 => ?_)
    cases f with
    | next =>
      obtain ⟨σ3, H3, I3, n3⟩ := q3
      obtain ⟨m', hm, w3⟩ := hN σ3 H3 n3
      exact ⟨m', hm, σ3, H3, I3, w3⟩
    | cont =>
      obtain ⟨σ3, H3, I3, n3⟩ := q3
      obtain ⟨m', hm, w3⟩ := hN σ3 H3 n3
      exact ⟨m', hm, σ3, H3, I3, w3⟩
    | brk => exact q3
    | ret v => exact q3
  | false =>
    rw [if_neg Bool.false_ne_true]
    exact wpAny_execs_nil ⟨σ1, H2, I2, q2⟩
end

/-! ### what a loop or a comprehension walks -/
/-- at turn i: it yields x (the heap may grow), or it stops -/
structure It where
  go : Nat → Hp → Prop
  yld : Nat → Hp → V → Hp → Prop
  stop : Nat → Hp → Prop
/-- the iterator's own objects may turn: they are not the frame's, not pinned, younger than the entry (or a comprehension's own) -/
def FpOk (X : Cx) (pins : List (Addr × Obj)) (H : Hp) (b : Addr) : Prop :=
  H b = none ∧ b ≠ X.env.locals ∧ b ∉ X.fs ∧ (b ∈ X.ex ∨ X.s₀.heap.objs.size ≤ b) ∧ (∀ x c, X.env.cells.lookup x = some c → c ≠ b) ∧ ∀ p ∈ X.pn ++ pins, p.1 ≠ b
theorem Inv.fpOk {X : Cx} {pins : List (Addr × Obj)} {σ : St} {H H' : Hp} {s : Shared} {b : Addr} (I : Inv X pins σ H s) (hb : s.heap.objs.size ≤ b) (hn : H' b = none) : FpOk X pins H' b := by
  refine ⟨hn, Nat.ne_of_gt (Nat.lt_of_lt_of_le I.lt hb), I.nofs hb, .inr (Nat.le_trans I.sz hb), fun x c e z => ?_, fun p hp z => ?_⟩
  · obtain ⟨v, q⟩ := I.cell x c e
    exact absurd (Nat.lt_of_lt_of_le q.lt (by rw [z]; exact hb)) (Nat.lt_irrefl _)
  · exact absurd (Nat.lt_of_lt_of_le (Heap.lt_size (I.pin p hp).1) (by rw [z]; exact hb)) (Nat.lt_irrefl _)
structure Turn (P : Program) (w : World) (K : PySem.W.Frag) (tg : Expr) (J : It) (fp : List Addr) (it : Addr) (tn : Nat → Heap → Prop) : Prop where
  mem : it ∈ fp
  obj : ∀ i h, tn i h → ∀ b ∈ fp, ∃ o, h.get? b = some o ∧ ∀ v, o.data ≠ .cell v
  keep : ∀ i h h', tn i h → (∀ b ∈ fp, ∀ o, h.get? b = some o → h'.get? b = some o) → tn i h'
  item : ∀ (X : Cx), X.prog = P → X.w = w → X.K = K → X.calm = true → ∀ (i : Nat) (pins : List (Addr × Obj)) (s : Shared) (σ : St) (H : Hp) (E : Value → Shared → Prop), Inv X pins σ H s → (∀ b ∈ fp, FpOk X pins H b) → tn i s.heap → J.go i H →
    wpAny (model P w) X.A (pyNext (.ref it)) (fun r s1 => ∃ u, r = some u ∧
      wpAny (model P w) X.A (letOwnedTupleGo tg (.ref it) u) (fun _ s2 => ∃ x H', Inv X pins σ H' s2 ∧ RelV x u ∧ J.yld i H x H' ∧ tn (i + 1) s2.heap ∧ ∀ b ∈ fp, H' b = none) E s1) E s
  done : ∀ (X : Cx), X.prog = P → X.w = w → X.K = K → X.calm = true → ∀ (i : Nat) (pins : List (Addr × Obj)) (s : Shared) (σ : St) (H : Hp) (E : Value → Shared → Prop), Inv X pins σ H s → (∀ b ∈ fp, FpOk X pins H b) → tn i s.heap → J.stop i H →
    wpAny (model P w) X.A (pyNext (.ref it)) (fun r s1 => r = none ∧ Inv X pins σ H s1) E s
  self : ∀ (A : Around) (i : Nat) (s : Shared) (Q : Value → Shared → Prop) (E : Value → Shared → Prop), tn i s.heap → Q (.ref it) s → wpAny (model P w) A (pyIter (.ref it)) Q E s
abbrev TI := St → Hp → (It → Hp → Prop) → Prop
/-- an iterator has come -/
def PIE (X : Cx) (pins : List (Addr × Obj)) (σ : St) (tg : Expr) (R : It → Hp → Prop) (itv : Value) (s2 : Shared) : Prop :=
  ∃ (it : Addr) (fp : List Addr) (tn : Nat → Heap → Prop) (J : It) (H' : Hp), itv = .ref it ∧ Inv X pins σ H' s2 ∧ Turn X.prog X.w X.K tg J fp it tn ∧ tn 0 s2.heap ∧ (∀ b ∈ fp, FpOk X pins H' b) ∧ R J H'
def PI (X : Cx) (tg iter : Expr) (wi : TI) : Prop :=
  ∀ (pins : List (Addr × Obj)) (s : Shared) (σ : St) (H : Hp) (R : It → Hp → Prop), Inv X pins σ H s → wi σ H R →
    wpAny (model X.prog X.w) X.A (eval iter X.env) (fun v s1 => wpAny (model X.prog X.w) X.A (pyIter v) (PIE X pins σ tg R) X.xe s1) X.xe s

/-- the step ahead of the store is nothing for an iterator that keeps no tuple -/
theorem go_of {M : Model} {A : Around} {E : Value → Shared → Prop} {s : Shared} {tg : Expr} {it : Addr} {u : Value} {o : Obj} {n : String} {vs : Array Value} {Q : Unit → Shared → Prop} (ho : s.heap.get? it = some o) (hc : o.cls = .type n) (hd : o.data = .fields vs)
    (hn : ["enumerate", "zip", "dict_itemiterator", "dict_reverseitemiterator", "odict_iterator", "itertools.zip_longest", "itertools.pairwise"].contains n = false) (hQ : Q () s) : wpAny M A (letOwnedTupleGo tg (.ref it) u) Q E s := by
  unfold letOwnedTupleGo
  cases tg <;> first
    | exact wpAny_pure hQ
    | (cases u <;> first
        | exact wpAny_pure hQ
        | (refine wpAny_bind (wpAny_load ho ?_)
           rw [hc, hd]
           show wpAny M A (if (["enumerate", "zip", "dict_itemiterator", "dict_reverseitemiterator", "odict_iterator", "itertools.zip_longest", "itertools.pairwise"].contains n && vs[0]? == some (rawInt _)) = true then _ else _) Q E s
           rw [if_neg (by intro h; rw [hn, Bool.false_and] at h; cases h)]
           exact wpAny_pure hQ))

/-- the list at a, as it stands at each turn (a loop may append to it) -/
def Itl (K : PySem.W.Frag) (a : Addr) : It :=
  ⟨fun i H => ∃ xs x, SqL K H a xs ∧ xs[i]? = some x, fun i H x H' => H' = H ∧ ∀ xs, SqL K H a xs → xs[i]? = some x, fun i H => ∃ xs, SqL K H a xs ∧ xs.length ≤ i⟩
def Itt (K : PySem.W.Frag) (a : Addr) : It :=
  ⟨fun i H => ∃ xs x, SqT K H a xs ∧ xs[i]? = some x, fun i H x H' => H' = H ∧ ∀ xs, SqT K H a xs → xs[i]? = some x, fun i H => ∃ xs, SqT K H a xs ∧ xs.length ≤ i⟩
/-- lo, lo + 1, .. (n of them) -/
def Itr (lo : Int) (n : Nat) : It := ⟨fun i _ => i < n, fun i H x H' => H' = H ∧ x = .int (lo + i), fun i _ => n ≤ i⟩
theorem turn_list {P : Program} {w : World} {K : PySem.W.Frag} {tg : Expr} (a it : Addr) : Turn P w K tg (Itl K a) [it] it (fun i h => h.IsListIter it a i) where
  mem := by simp
  obj := fun i h st b hb => by
    have e : b = it := by simpa using hb
    subst e
    obtain ⟨o, e, c, d⟩ := st
    exact ⟨o, e, fun v z => by rw [d] at z; cases z⟩
  keep := fun i h h' st k => st.at fun o e => k it (by simp) o e
  item := by
    intro X hP hw hK hc i pins s σ H E I hf st hg
    subst hP hw hK
    obtain ⟨xs, x, hq, hx⟩ := hg
    obtain ⟨its, rv, p, hz⟩ := I.list hq
    obtain ⟨u, hu, ru⟩ := rv.get hx
    obtain ⟨f0, f1, f2, f3, f4, f5⟩ := hf it (by simp)
    refine wpAny_pyNext_list_item st p.isList (x := u) (by simpa using hu) fun h' st' sb => ?_
    have I1 : Inv X pins σ H { s with heap := h' } := I.turned (t' := s.toks) (fun b o hb e => (sb.2 b hb).trans e) f0 f1 f3 f4 f5
    obtain ⟨o, e, c, d⟩ := id st'
    exact ⟨u, rfl, go_of (s := { s with heap := h' }) e c d (by decide) ⟨x, H, I1, ru, ⟨rfl, fun ys hy => by rw [I.list_inj hy hq]; exact hx⟩, st', fun b hb => (hf b hb).1⟩⟩
  done := by
    intro X hP hw hK hc i pins s σ H E I hf st hg
    subst hP hw hK
    obtain ⟨xs, hq, hx⟩ := hg
    obtain ⟨its, rv, p, hz⟩ := I.list hq
    obtain ⟨f0, f1, f2, f3, f4, f5⟩ := hf it (by simp)
    have hl := rv.length
    exact wpAny_pyNext_list_end (I.ok.hd hc) st p.isList (by simp; omega) fun h' eb => ⟨rfl, I.turned (t' := s.toks) (fun b o hb e => eb b o hb e) f0 f1 f3 f4 f5⟩
  self := fun _ _ _ _ _ st h => wpAny_pyIter_listiter st h
theorem turn_tuple {P : Program} {w : World} {K : PySem.W.Frag} {tg : Expr} (a it : Addr) : Turn P w K tg (Itt K a) [it] it (fun i h => h.IsTupleIter it a i) where
  mem := by simp
  obj := fun i h st b hb => by
    have e : b = it := by simpa using hb
    subst e
    obtain ⟨o, e, c, d⟩ := st
    exact ⟨o, e, fun v z => by rw [d] at z; cases z⟩
  keep := fun i h h' st k => st.at fun o e => k it (by simp) o e
  item := by
    intro X hP hw hK hc i pins s σ H E I hf st hg
    subst hP hw hK
    obtain ⟨xs, x, hq, hx⟩ := hg
    obtain ⟨its, rv, p, hz⟩ := I.tuple hq
    obtain ⟨u, hu, ru⟩ := rv.get hx
    obtain ⟨f0, f1, f2, f3, f4, f5⟩ := hf it (by simp)
    refine wpAny_pyNext_tuple_item st (show s.heap.IsTuple a its.toArray from p) (x := u) (by simpa using hu) fun h' st' sb => ?_
    have I1 : Inv X pins σ H { s with heap := h' } := I.turned (t' := s.toks) (fun b o hb e => (sb.2 b hb).trans e) f0 f1 f3 f4 f5
    obtain ⟨o, e, c, d⟩ := id st'
    exact ⟨u, rfl, go_of (s := { s with heap := h' }) e c d (by decide) ⟨x, H, I1, ru, ⟨rfl, fun ys hy => by rw [I.tuple_inj hy hq]; exact hx⟩, st', fun b hb => (hf b hb).1⟩⟩
  done := by
    intro X hP hw hK hc i pins s σ H E I hf st hg
    subst hP hw hK
    obtain ⟨xs, hq, hx⟩ := hg
    obtain ⟨its, rv, p, hz⟩ := I.tuple hq
    obtain ⟨f0, f1, f2, f3, f4, f5⟩ := hf it (by simp)
    have hl := rv.length
    exact wpAny_pyNext_tuple_end (I.ok.hd hc) st (show s.heap.IsTuple a its.toArray from p) (by simp; omega) fun h' eb => ⟨rfl, I.turned (t' := s.toks) (fun b o hb e => eb b o hb e) f0 f1 f3 f4 f5⟩
  self := fun _ _ _ _ _ st h => wpAny_pyIter_tupleiter st h
theorem turn_range {P : Program} {w : World} {K : PySem.W.Frag} {tg : Expr} (it : Addr) (lo : Int) (n : Nat) : Turn P w K tg (Itr lo n) [it] it (fun i h => IsRangeIter h it (lo + (i : Nat) * 1) ((n : Int) - (i : Nat)) 1) where
  mem := by simp
  obj := fun i h st b hb => by
    have e : b = it := by simpa using hb
    subst e
    exact ⟨_, st, fun v z => by
      have z' : Data.fields _ = Data.cell v := z
      cases z'⟩
  keep := fun i h h' st k => k it (by simp) _ st
  item := by
    intro X hP hw hK hc i pins s σ H E I hf st hg
    subst hP hw hK
    obtain ⟨f0, f1, f2, f3, f4, f5⟩ := hf it (by simp)
    have W := Walks.range (prog := X.prog) (w := X.w) (I.ok.hd hc) it lo 1 n
    refine W.item i s _ _ hg st fun v h' tk hv st' kk => ?_
    obtain ⟨t, rfl⟩ := hv
    have I1 : Inv X pins σ H { s with heap := h', toks := tk } := I.turned (fun b o hb e => kk b o (by simpa using hb) e) f0 f1 f3 f4 f5
    refine ⟨_, rfl, go_of (s := { s with heap := h', toks := tk }) (n := "range_iterator") st' rfl rfl (by decide) ⟨.int (lo + i), H, I1, ⟨t, ?_⟩, ⟨rfl, rfl⟩, st', fun b hb => (hf b hb).1⟩⟩
    rw [Int.mul_one]
  done := by
    intro X hP hw hK hc i pins s σ H E I hf st hg
    subst hP hw hK
    obtain ⟨f0, f1, f2, f3, f4, f5⟩ := hf it (by simp)
    exact wpAny_pyNext_range_end (I.ok.hd hc) st (by have : n ≤ i := hg; omega) fun h' eb => ⟨rfl, I.turned (t' := s.toks) (fun b o hb e => eb b o hb e) f0 f1 f3 f4 f5⟩
  self := fun _ _ _ _ _ st h => wpAny_pyIter_rangeiter st h
end L2

namespace L2
open PySem PySem.Spec PyProof.Rows
section
variable {X : Cx} {tg : Expr}
def iList (K : PySem.W.Frag) (tl : TE) : TI := fun σ H R => tl σ H fun x H1 => ∃ a, x = .ref a ∧ (∃ xs, SqL K H1 a xs) ∧ R (Itl K a) H1
def iTup (K : PySem.W.Frag) (tl : TE) : TI := fun σ H R => tl σ H fun x H1 => ∃ a, x = .ref a ∧ (∃ xs, SqT K H1 a xs) ∧ R (Itt K a) H1
theorem pi_list {l : Expr} {tl : TE} (hl : PE X l tl) : PI X tg l (iList X.K tl) := by
  intro pins s σ H R I h
  refine thn (hl pins s σ H _ I h) fun v s1 ⟨x, H1, I1, r1, q1⟩ => ?_
  obtain ⟨a, e, ⟨xs, hq⟩, q⟩ := q1
  subst e
  cases r1
  obtain ⟨its, rv, p, hz⟩ := I1.list hq
  refine wpAny_pyIter_list p.isList ?_
  refine ⟨s1.heap.objs.size, [s1.heap.objs.size], _, _, H1, rfl, I1.kept (t' := s1.toks) fun b o e => Heap.get?_push_of_some _ e, turn_list a _, ⟨_, Heap.get?_push_size _ rfl, rfl, rfl⟩, fun b hb => ?_, q⟩
  have e : b = s1.heap.objs.size := by simpa using hb
  subst e
  exact I1.fpOk (Nat.le_refl _) (I1.hok.fresh (Nat.le_refl _))
theorem pi_tup {l : Expr} {tl : TE} (hl : PE X l tl) : PI X tg l (iTup X.K tl) := by
  intro pins s σ H R I h
  refine thn (hl pins s σ H _ I h) fun v s1 ⟨x, H1, I1, r1, q1⟩ => ?_
  obtain ⟨a, e, ⟨xs, hq⟩, q⟩ := q1
  subst e
  cases r1
  obtain ⟨its, rv, p, hz⟩ := I1.tuple hq
  refine wpAny_pyIter_tuple (show s1.heap.IsTuple a its.toArray from p) ?_
  refine ⟨s1.heap.objs.size, [s1.heap.objs.size], _, _, H1, rfl, I1.kept (t' := s1.toks) fun b o e => Heap.get?_push_of_some _ e, turn_tuple a _, ⟨_, Heap.get?_push_size _ rfl, rfl, rfl⟩, fun b hb => ?_, q⟩
  have e : b = s1.heap.objs.size := by simpa using hb
  subst e
  exact I1.fpOk (Nat.le_refl _) (I1.hok.fresh (Nat.le_refl _))
/-- a range object just made, walked -/
theorem range_it {pins : List (Addr × Obj)} {σ : St} {H : Hp} {s : Shared} {R : It → Hp → Prop} {E : Value → Shared → Prop} {lo hi : Int} {t u v : Tok} {tk : Nat} (I : Inv X pins σ H s) (h1 : -(2 ^ 62) ≤ lo) (h2 : lo < 2 ^ 62) (h3 : -(2 ^ 62) ≤ hi) (h4 : hi < 2 ^ 62)
    (q : R (Itr lo (hi - lo).toNat) H) : wpAny (model X.prog X.w) X.A (pyIter (.ref s.heap.objs.size)) (PIE X pins σ tg R) E { s with heap := s.heap.push { cls := .type "range", data := .fields #[.int lo t, .int hi u, .int 1 v] }, toks := tk } := by
  refine wpAny_pyIter_range (IsRange.new ..) (small_one h1 h2 h3 h4) ?_
  have I1 : Inv X pins σ H { s with heap := s.heap.push { cls := .type "range", data := .fields #[.int lo t, .int hi u, .int 1 v] }, toks := tk } := I.kept fun b o e => Heap.get?_push_of_some _ e
  refine ⟨(s.heap.push { cls := .type "range", data := .fields #[.int lo t, .int hi u, .int 1 v] }).objs.size, [(s.heap.push { cls := .type "range", data := .fields #[.int lo t, .int hi u, .int 1 v] }).objs.size], _, _, H, rfl,
    I1.kept (t' := tk) fun b o e => Heap.get?_push_of_some _ e, turn_range _ lo (hi - lo).toNat, ?_, fun b hb => ?_, q⟩
  · have e1 : lo + ((0 : Nat) : Int) * 1 = lo := by simp
    have e2 : (((hi - lo).toNat : Nat) : Int) - ((0 : Nat) : Int) = Builtin.Range.rangeSize lo hi 1 := by rw [rangeSize_one]; split <;> omega
    show IsRangeIter _ _ (lo + ((0 : Nat) : Int) * 1) ((((hi - lo).toNat : Nat) : Int) - ((0 : Nat) : Int)) 1
    rw [e1, e2]
    exact Heap.get?_push_size _ rfl
  · have e : b = (s.heap.push { cls := .type "range", data := .fields #[.int lo t, .int hi u, .int 1 v] }).objs.size := by simpa using hb
    subst e
    exact I1.fpOk (Nat.le_refl _) (I1.hok.fresh (Nat.le_refl _))
def iRng1 (ta : TA) : TI := fun σ H R => ta σ H fun vs H1 => ∃ j : Int, vs = [.int j] ∧ -(2 ^ 62) ≤ j ∧ j < 2 ^ 62 ∧ R (Itr 0 j.toNat) H1
theorem pi_range1 {a : Expr} {ta : TA} {p pos : Pos} (hg : Gl X "range") (hm : X.mg "range" = none) (ha : PA X [a] ta) (hs : starEach [a] X.env = [(false, eval a X.env)] := by rfl) : PI X tg (.Call (.Name "range" p) [a] [] pos) (iRng1 ta) := by
  intro pins s σ H R I h
  refine Call_ (ld_blt I hg hm boot_range (PyProof.Rows.callWith_type1 (thn (ha pos pins s σ H _ I h) fun us s1 ⟨vs, H1, I1, r1, q1⟩ => ?_) hs rfl))
  obtain ⟨j, e, q1, q2, q⟩ := q1
  subst e
  cases r1 with
  | cons r rr =>
    cases rr
    obtain ⟨t, rfl⟩ := r
    exact call_range_1 (range_it I1 (by omega) (by omega) q1 q2 (by simpa using q))
/-! ### for -/
/-- W: the invariant by the turn and a measure; N: what the body is to reach -/
def tFor (wi : TI) (g : TG) (tb : TS) : TS := fun D σ H => wi σ H fun J H1 => ∃ W : Nat → Nat → St → Hp → Prop, (∃ m, W 0 m σ H1) ∧ ∀ i m σ H, W i m σ H →
  (J.stop i H ∧ D.nx σ H) ∨ (J.go i H ∧ ∃ N : St → Hp → Prop, (∀ σ' H', N σ' H' → ∃ m', m' < m ∧ W (i + 1) m' σ' H') ∧ ∀ x H', J.yld i H x H' → g x σ H' fun σ2 H2 => tb { D with nx := N, ct := N, bk := D.nx } σ2 H2)
/-- the records at fp as they stand -/
def pinsAt (fp : List Addr) (h : Heap) : List (Addr × Obj) := fp.filterMap fun b => (h.get? b).map fun o => (b, o)
theorem mem_pinsAt {fp : List Addr} {h : Heap} {b : Addr} {o : Obj} (hb : b ∈ fp) (e : h.get? b = some o) : (b, o) ∈ pinsAt fp h := List.mem_filterMap.mpr ⟨b, hb, by rw [e]; rfl⟩
theorem of_pinsAt {fp : List Addr} {h : Heap} {p : Addr × Obj} (hp : p ∈ pinsAt fp h) : p.1 ∈ fp ∧ h.get? p.1 = some p.2 := by
  obtain ⟨b, hb, e⟩ := List.mem_filterMap.mp hp
  cases q : h.get? b with
  | none => rw [q] at e; cases e
  | some o =>
    rw [q] at e
    have e' : (b, o) = p := Option.some.inj e
    subst e'
    exact ⟨hb, q⟩
theorem Inv.pinned {pins : List (Addr × Obj)} {σ : St} {H : Hp} {s : Shared} {fp : List Addr} (I : Inv X pins σ H s) (hf : ∀ b ∈ fp, FpOk X pins H b) (ho : ∀ b ∈ fp, ∃ o, s.heap.get? b = some o ∧ ∀ v, o.data ≠ .cell v) : Inv X (pins ++ pinsAt fp s.heap) σ H s :=
  I.pins_of fun p hp => (List.mem_append.mp hp).elim (fun z => I.pin p (List.mem_append_right _ z)) fun z => by
    obtain ⟨hb, e⟩ := of_pinsAt z
    obtain ⟨f0, f1, f2, _⟩ := hf p.1 hb
    obtain ⟨o, e', d⟩ := ho p.1 hb
    rw [e] at e'; cases e'
    exact ⟨e, f0, f1, f2, d⟩
theorem Inv.unpinned {pins pl : List (Addr × Obj)} {σ : St} {H : Hp} {s : Shared} (I : Inv X (pins ++ pl) σ H s) : Inv X pins σ H s := I.pins_of fun p hp => I.pin p (List.mem_append_right _ (List.mem_append_left _ hp))
theorem ps_for {iter : Expr} {body : List Stmt} {wi : TI} {g : TG} {tb : TS} {pos : Pos} (hp : PassesOwn (model X.prog X.w) X.A X.env X.xe) (hc : X.calm = true) (hi : PI X tg iter wi) (hg : PG X tg g) (hb : PSs X body tb)
    (hs : ∀ x, foldedSetIterable iter X.env x = pure x := by intro _; rfl) : PS X (.For tg iter body [] pos) (tFor wi g tb) := by
  intro pins s σ H D I h
  refine wpAny_For (thn (hi pins s σ H _ I h) fun v s1 h1 => thn h1 fun itv s2 h2 => ?_) hs
  obtain ⟨it, fp, tn, J, H2, e, I2, T, st2, f2, W, ⟨m0, w0⟩, turn⟩ := h2
  subst e
  -- what stays true of the iterator's objects through the loop
  have stat : ∀ {H' : Hp}, (∀ b ∈ fp, H' b = none) → ∀ b ∈ fp, FpOk X pins H' b := fun hn b hb => ⟨hn b hb, (f2 b hb).2⟩
  refine codeAny_forLoop_any (fun n s' => ∃ i σ' H', Inv X pins σ' H' s' ∧ tn i s'.heap ∧ (∀ b ∈ fp, H' b = none) ∧ W i n σ' H') ?_ m0 ⟨0, σ, H2, I2, st2, fun b hb => (f2 b hb).1, w0⟩
  rintro n s3 ⟨i, σ3, H3, I3, st3, fr3, w3⟩
  rcases turn i n σ3 H3 w3 with ⟨stop, qn⟩ | ⟨go, N, hN, step⟩
  · refine wpAny_passesOwn hp (thn (T.done X rfl rfl rfl hc i pins s3 σ3 H3 X.xe I3 (stat fr3) st3 stop) fun r s4 ⟨hr, I4⟩ => ?_)
    subst hr
    exact wpAny_execs_nil ⟨σ3, H3, I4, qn⟩
  · refine wpAny_passesOwn hp (thn (T.item X rfl rfl rfl hc i pins s3 σ3 H3 X.xe I3 (stat fr3) st3 go) fun r s4 ⟨u, hr, h4⟩ => ?_)
    subst hr
    refine wpAny_passesOwn hp (thn h4 fun _ s5 ⟨x, H5, I5, r5, y5, st5, fr5⟩ => ?_)
    have I5' := I5.pinned (stat fr5) (T.obj _ _ st5)
    refine wpAny_passesOwn hp (thn (hg _ s5 σ3 H5 x u _ I5' r5 (step x H5 y5)) fun _ s6 ⟨σ6, H6, I6, q6⟩ => ?_)
    refine wpAny_passesOwn hp (thn (hb _ s6 σ6 H6 _ I6 q6) fun f s7 q7 => ?_)
    have again : ∀ {σ7 : St} {H7 : Hp}, Inv X (pins ++ pinsAt fp s5.heap) σ7 H7 s7 → N σ7 H7 → ∃ m, m < n ∧ ∃ i σ' H', Inv X pins σ' H' s7 ∧ tn i s7.heap ∧ (∀ b ∈ fp, H' b = none) ∧ W i m σ' H' := fun {σ7 H7} I7 n7 => by
      obtain ⟨m', hm, w7⟩ := hN σ7 H7 n7
      refine ⟨m', hm, i + 1, σ7, H7, I7.unpinned, T.keep _ _ _ st5 fun b hb o e => (I7.pin (b, o) (List.mem_append_right _ (List.mem_append_right _ (mem_pinsAt hb e)))).1, fun b hb => ?_, w7⟩
      obtain ⟨o, e, d⟩ := T.obj _ _ st5 b hb
      exact (I7.pin (b, o) (List.mem_append_right _ (List.mem_append_right _ (mem_pinsAt hb e)))).2.1
    cases f with
    | next => obtain ⟨σ7, H7, I7, n7⟩ := q7; exact again I7 n7
    | cont => obtain ⟨σ7, H7, I7, n7⟩ := q7; exact again I7 n7
    | brk => obtain ⟨σ7, H7, I7, q7⟩ := q7; exact ⟨σ7, H7, I7.unpinned, q7⟩
    | ret v => obtain ⟨x7, σ7, H7, I7, r7, q7⟩ := q7; exact ⟨x7, σ7, H7, I7.unpinned, r7, q7⟩
end

/-! ### the forms one uses -/
/-- over a list that the body leaves as it is -/
theorem for_list {K : PySem.W.Frag} {a : Addr} {xs : List V} {g : TG} {tb : TS} {D : Ends} {σ : St} {H : Hp} (Pv : Nat → St → Hp → Prop) (h0 : Pv 0 σ H) (hl : ∀ i σ H, i ≤ xs.length → Pv i σ H → SqL K H a xs)
    (hs : ∀ i x σ H, xs[i]? = some x → Pv i σ H → g x σ H fun σ2 H2 => tb { D with nx := Pv (i + 1), ct := Pv (i + 1), bk := D.nx } σ2 H2) (hd : ∀ σ H, Pv xs.length σ H → D.nx σ H) :
    ∃ W : Nat → Nat → St → Hp → Prop, (∃ m, W 0 m σ H) ∧ ∀ i m σ H, W i m σ H →
      ((Itl K a).stop i H ∧ D.nx σ H) ∨ ((Itl K a).go i H ∧ ∃ N : St → Hp → Prop, (∀ σ' H', N σ' H' → ∃ m', m' < m ∧ W (i + 1) m' σ' H') ∧ ∀ x H', (Itl K a).yld i H x H' → g x σ H' fun σ2 H2 => tb { D with nx := N, ct := N, bk := D.nx } σ2 H2) := by
  refine ⟨fun i m σ H => m = xs.length - i ∧ i ≤ xs.length ∧ Pv i σ H, ⟨xs.length, by simp, Nat.zero_le _, h0⟩, ?_⟩
  rintro i m σ H ⟨rfl, hi, p⟩
  have q := hl i σ H hi p
  by_cases hlt : i < xs.length
  · refine .inr ⟨⟨xs, xs[i], q, by simp [hlt]⟩, Pv (i + 1), fun σ' H' p' => ⟨xs.length - (i + 1), by omega, rfl, hlt, p'⟩, fun x H' y => ?_⟩
    obtain ⟨e, y⟩ := y
    subst e
    exact hs i x σ _ (y xs q) p
  · have e : i = xs.length := by omega
    subst e
    exact .inl ⟨⟨xs, q, Nat.le_refl _⟩, hd σ H p⟩
theorem for_range {lo : Int} {n : Nat} {g : TG} {tb : TS} {D : Ends} {σ : St} {H : Hp} (Pv : Nat → St → Hp → Prop) (h0 : Pv 0 σ H)
    (hs : ∀ i σ H, i < n → Pv i σ H → g (.int (lo + i)) σ H fun σ2 H2 => tb { D with nx := Pv (i + 1), ct := Pv (i + 1), bk := D.nx } σ2 H2) (hd : ∀ σ H, Pv n σ H → D.nx σ H) :
    ∃ W : Nat → Nat → St → Hp → Prop, (∃ m, W 0 m σ H) ∧ ∀ i m σ H, W i m σ H →
      ((Itr lo n).stop i H ∧ D.nx σ H) ∨ ((Itr lo n).go i H ∧ ∃ N : St → Hp → Prop, (∀ σ' H', N σ' H' → ∃ m', m' < m ∧ W (i + 1) m' σ' H') ∧ ∀ x H', (Itr lo n).yld i H x H' → g x σ H' fun σ2 H2 => tb { D with nx := N, ct := N, bk := D.nx } σ2 H2) := by
  refine ⟨fun i m σ H => m = n - i ∧ i ≤ n ∧ Pv i σ H, ⟨n, by simp, Nat.zero_le _, h0⟩, ?_⟩
  rintro i m σ H ⟨rfl, hi, p⟩
  by_cases hlt : i < n
  · refine .inr ⟨hlt, Pv (i + 1), fun σ' H' p' => ⟨n - (i + 1), by omega, rfl, hlt, p'⟩, fun x H' y => ?_⟩
    obtain ⟨e, y⟩ := y
    subst e y
    exact hs i σ _ hlt p
  · have e : i = n := by omega
    subst e
    exact .inl ⟨Nat.le_refl _, hd σ H p⟩
end L2

namespace L2
open PySem PySem.Spec PyProof.Rows

abbrev R2 := V → V → Hp → VK → Prop
/-- a two-place operation on values: f is binaryOp op, inplaceOp op or compareOp op -/
def OpR (X : Cx) (f : Value → Value → Sem Value) (r : R2) : Prop :=
  ∀ (pins : List (Addr × Obj)) (s : Shared) (σ : St) (H : Hp) (x y : V) (v u : Value) (Q : VK), Inv X pins σ H s → RelV x v → RelV y u → r x y H Q →
    wpAny (model X.prog X.w) X.A (f v u) (EP X pins σ Q) X.xe s
/-- a call of a value that is known (a builtin, a type) with values -/
def CallR (X : Cx) (f : Value) (r : List V → Hp → VK → Prop) : Prop :=
  ∀ (pins : List (Addr × Obj)) (s : Shared) (σ : St) (H : Hp) (xs : List V) (us : List Value) (Q : VK), Inv X pins σ H s → Vals xs us → r xs H Q →
    wpAny (model X.prog X.w) X.A (call f us) (EP X pins σ Q) X.xe s
def tOp (r : R2) (ta tb : TE) : TE := fun σ H Q => ta σ H fun x H1 => tb σ H1 fun y H2 => r x y H2 Q
def tUn (r : V → Hp → VK → Prop) (ta : TE) : TE := fun σ H Q => ta σ H fun x H1 => r x H1 Q
/-- ints in, under C, and a value out -/
def rI (C : Int → Int → Prop) (g : Int → Int → V) : R2 := fun x y H Q => ∃ i j, x = .int i ∧ y = .int j ∧ C i j ∧ Q (g i j) H
def rI0 (g : Int → Int → V) : R2 := fun x y H Q => ∃ i j, x = .int i ∧ y = .int j ∧ Q (g i j) H
def rU (g : Int → V) : V → Hp → VK → Prop := fun x H Q => ∃ i, x = .int i ∧ Q (g i) H

section
variable {X : Cx} {a b c : Expr} {ta tb tc : TE} {pos : Pos}

theorem binT (ha : PE X a ta) (hb : PE X b tb) {pins : List (Addr × Obj)} {s : Shared} {σ : St} {H : Hp} {R : V → V → Hp → Prop} (I : Inv X pins σ H s)
    (h : ta σ H fun x H1 => tb σ H1 fun y H2 => R x y H2) {Q : Value → Shared → Prop} {f : Value → Value → Sem Value}
    (hf : ∀ v u s2 x y H2, Inv X pins σ H2 s2 → RelV x v → RelV y u → R x y H2 → wpAny (model X.prog X.w) X.A (f v u) Q X.xe s2) :
    wpAny (model X.prog X.w) X.A (eval a X.env) (fun v s₁ => wpAny (model X.prog X.w) X.A (eval b X.env) (fun u s₂ => wpAny (model X.prog X.w) X.A (f v u) Q X.xe s₂) X.xe s₁) X.xe s := by
  refine thn (ha pins s σ H _ I h) fun v s1 ⟨x, H1, I1, r1, q1⟩ => ?_
  refine thn (hb pins s1 σ H1 _ I1 q1) fun u s2 ⟨y, H2, I2, r2, q2⟩ => ?_
  exact hf v u s2 x y H2 I2 r1 r2 q2

theorem pe_op {op : Operator} {r : R2} (ho : OpR X (binaryOp op) r) (ha : PE X a ta) (hb : PE X b tb) : PE X (.BinOp a op b pos) (tOp r ta tb) := by
  intro pins s σ H Q I h
  exact wpAny_BinOp (binT ha hb I h fun v u s2 x y H2 I2 rx ry q => ho pins s2 σ H2 x y v u Q I2 rx ry q)
/-! ### ints -/
theorem opI {f : Value → Value → Sem Value} {C : Int → Int → Prop} {g : Int → Int → Int}
    (rule : ∀ (i j : Int) (t u : Tok) (s : Shared) (Q : Value → Shared → Prop) (E : Value → Shared → Prop), C i j → Q (.int (g i j) s.toks) { s with toks := s.toks + 1 } → wpAny (model X.prog X.w) X.A (f (.int i t) (.int j u)) Q E s) :
    OpR X f (rI C fun i j => .int (g i j)) := by
  intro pins s σ H x y v u Q I rx ry h
  obtain ⟨i, j, rfl, rfl, hc, q⟩ := h
  obtain ⟨t, rfl⟩ := rx
  obtain ⟨t', rfl⟩ := ry
  exact rule i j t t' s _ _ hc ⟨.int (g i j), H, I.tok _, ⟨_, rfl⟩, q⟩
theorem opI0 {f : Value → Value → Sem Value} {g : Int → Int → Int}
    (rule : ∀ (i j : Int) (t u : Tok) (s : Shared) (Q : Value → Shared → Prop) (E : Value → Shared → Prop), Q (.int (g i j) s.toks) { s with toks := s.toks + 1 } → wpAny (model X.prog X.w) X.A (f (.int i t) (.int j u)) Q E s) :
    OpR X f (rI0 fun i j => .int (g i j)) := by
  intro pins s σ H x y v u Q I rx ry h
  obtain ⟨i, j, rfl, rfl, q⟩ := h
  obtain ⟨t, rfl⟩ := rx
  obtain ⟨t', rfl⟩ := ry
  exact rule i j t t' s _ _ ⟨.int (g i j), H, I.tok _, ⟨_, rfl⟩, q⟩
theorem opB0 {f : Value → Value → Sem Value} {g : Int → Int → Bool}
    (rule : ∀ (i j : Int) (t u : Tok) (s : Shared) (Q : Value → Shared → Prop) (E : Value → Shared → Prop), Q (.bool (g i j)) s → wpAny (model X.prog X.w) X.A (f (.int i t) (.int j u)) Q E s) :
    OpR X f (rI0 fun i j => .bl (g i j)) := by
  intro pins s σ H x y v u Q I rx ry h
  obtain ⟨i, j, rfl, rfl, q⟩ := h
  obtain ⟨t, rfl⟩ := rx
  obtain ⟨t', rfl⟩ := ry
  exact rule i j t t' s _ _ ⟨.bl (g i j), H, I, rfl, q⟩

def CDiv (i j : Int) : Prop := 0 < j ∧ j < 1073741824
def CPow (i j : Int) : Prop := 0 ≤ j ∧ j ≤ 1000000 ∧ i.natAbs < 2 ^ 64
def CMul (i j : Int) : Prop := (-(2 ^ 64) < i ∧ i < 2 ^ 64) ∨ (-(2 ^ 64) < j ∧ j < 2 ^ 64)
theorem CMul.ok {i j : Int} (h : CMul i j) : IntMulOk i j := by
  rcases h with ⟨h1, h2⟩ | ⟨h1, h2⟩
  · exact .of_left (intBits_le_64 h1 h2)
  · exact .of_right (intBits_le_64 h1 h2)
theorem op_add : OpR X (binaryOp .Add) (rI0 fun i j => .int (i + j)) := opI0 fun _ _ _ _ _ _ _ q => add_int q
theorem op_sub : OpR X (binaryOp .Sub) (rI0 fun i j => .int (i - j)) := opI0 fun _ _ _ _ _ _ _ q => sub_int q
theorem op_mul : OpR X (binaryOp .Mult) (rI CMul fun i j => .int (i * j)) := opI fun _ _ _ _ _ _ _ hc q => mul_int q hc.ok
/-- // by a positive divisor -/
theorem op_fdiv : OpR X (binaryOp .FloorDiv) (rI CDiv fun i j => .int (i / j)) := opI fun i j _ _ _ _ _ hc q => by
  have h1 : (0 : Int) < j := hc.1
  have h2 : j < 1073741824 := hc.2
  exact floordiv_int (by omega) (by rw [Int.fdiv_eq_ediv_of_nonneg i (by omega)]; exact q) (.inl (PyProof.noPylong_small (by omega)))
/-- % by a positive divisor of any size -/
theorem op_mod : OpR X (binaryOp .Mod) (rI (fun _ j => 0 < j) fun i j => .int (i % j)) := opI fun i j _ _ _ _ _ hc q => by
  have h1 : (0 : Int) < j := hc
  exact mod_int' (by omega) (by rw [Int.fmod_eq_emod_of_nonneg i (by omega)]; exact q)
theorem op_pow : OpR X (binaryOp .Pow) (rI CPow fun i j => .int (i ^ j.toNat)) := opI fun _ _ _ _ _ _ _ hc q => pow_int_small hc.1 hc.2.1 hc.2.2 q
/-! ### bools among ints: n += (a < b) -/
end

/-! ### comparisons -/
/-- the scalars that == tells apart as data does -/
def scal : V → V → Bool
  | .non, .non => true | .non, .int _ => true | .int _, .non => true | .non, .bl _ => true | .bl _, .non => true | .non, .str _ => true | .str _, .non => true
  | .int _, .int _ => true | .bl _, .bl _ => true | .str _, .str _ => true | .byt _, .byt _ => true
  | .int _, .str _ => true | .str _, .int _ => true | .bl _, .str _ => true | .str _, .bl _ => true
  | _, _ => false
def rEq : R2 := fun x y H Q => scal x y = true ∧ Q (.bl (decide (x = y))) H
def rNe : R2 := fun x y H Q => scal x y = true ∧ Q (.bl (!decide (x = y))) H

theorem dec_int {i j : Int} : decide (V.int i = V.int j) = (i == j) := by
  rw [Bool.eq_iff_iff]
  simp
theorem dec_bl {i j : Bool} : decide (V.bl i = V.bl j) = (i == j) := by
  rw [Bool.eq_iff_iff]
  simp
theorem dec_str {i j : Str} : decide (V.str i = V.str j) = (i == j) := by
  rw [Bool.eq_iff_iff]
  simp
theorem dec_byt {i j : Array UInt8} : decide (V.byt i = V.byt j) = (i.toList == j.toList) := by
  rw [Bool.eq_iff_iff]
  cases i
  cases j
  simp

section
variable {X : Cx} {a b c : Expr} {ta tb tc : TE} {pos : Pos}
theorem fin_bl {pins : List (Addr × Obj)} {σ : St} {H : Hp} {s : Shared} {Q : VK} {k k' : Bool} (I : Inv X pins σ H s) (q : Q (.bl k) H) (e : k = k') : EP X pins σ Q (.bool k') s := by
  subst e
  exact ⟨.bl k, H, I, rfl, q⟩
theorem op_eq : OpR X (compareOp .Eq) rEq := by
  intro pins s σ H x y v u Q I rx ry h
  obtain ⟨hs, q⟩ := h
  cases x with
  | non =>
    cases rx
    cases y with
    | non => cases ry; exact PySem.EqNone.eq_none_none (fin_bl I q (by simp))
    | bl j => cases ry; exact PySem.EqNone.eq_none_bool (fin_bl I q (by simp))
    | int j => obtain ⟨t', rfl⟩ := ry; exact PySem.EqNone.eq_none_int (fin_bl I q (by simp))
    | str j => obtain ⟨t', rfl⟩ := ry; exact PySem.EqNone.eq_none_str (fin_bl I q (by simp))
    | _ => exact absurd (show false = true from hs) Bool.false_ne_true
  | bl i =>
    cases rx
    cases y with
    | non => cases ry; exact PySem.EqNone.eq_bool_none (fin_bl I q (by simp))
    | bl j => cases ry; exact eq_bool (fin_bl I q dec_bl)
    | str j => obtain ⟨t', rfl⟩ := ry; exact PySem.EqMixed.eq_bool_str (fin_bl I q (by simp))
    | _ => exact absurd (show false = true from hs) Bool.false_ne_true
  | int i =>
    obtain ⟨t, rfl⟩ := rx
    cases y with
    | non => cases ry; exact PySem.EqNone.eq_int_none (fin_bl I q (by simp))
    | int j => obtain ⟨t', rfl⟩ := ry; exact eq_int (fin_bl I q dec_int)
    | str j => obtain ⟨t', rfl⟩ := ry; exact PySem.EqMixed.eq_int_str (fin_bl I q (by simp))
    | _ => exact absurd (show false = true from hs) Bool.false_ne_true
  | str i =>
    obtain ⟨t, rfl⟩ := rx
    cases y with
    | non => cases ry; exact PySem.EqNone.eq_str_none (fin_bl I q (by simp))
    | bl j => cases ry; exact PySem.EqMixed.eq_str_bool (fin_bl I q (by simp))
    | int j => obtain ⟨t', rfl⟩ := ry; exact PySem.EqMixed.eq_str_int (fin_bl I q (by simp))
    | str j => obtain ⟨t', rfl⟩ := ry; exact eq_str (fin_bl I q dec_str)
    | _ => exact absurd (show false = true from hs) Bool.false_ne_true
  | byt i =>
    obtain ⟨t, rfl⟩ := rx
    cases y with
    | byt j => obtain ⟨t', rfl⟩ := ry; exact PySem.W.eq_bytes (fin_bl I q dec_byt)
    | _ => exact absurd (show false = true from hs) Bool.false_ne_true
  | _ => cases y <;> exact absurd (show false = true from hs) Bool.false_ne_true
theorem op_ne : OpR X (compareOp .NotEq) rNe := by
  intro pins s σ H x y v u Q I rx ry h
  obtain ⟨hs, q⟩ := h
  cases x with
  | non =>
    cases rx
    cases y with
    | non => cases ry; exact PySem.EqNone.ne_none_none (fin_bl I q (by simp))
    | bl j => cases ry; exact PySem.EqNone.ne_none_bool (fin_bl I q (by simp))
    | int j => obtain ⟨t', rfl⟩ := ry; exact PySem.EqNone.ne_none_int (fin_bl I q (by simp))
    | str j => obtain ⟨t', rfl⟩ := ry; exact PySem.EqNone.ne_none_str (fin_bl I q (by simp))
    | _ => exact absurd (show false = true from hs) Bool.false_ne_true
  | bl i =>
    cases rx
    cases y with
    | non => cases ry; exact PySem.EqNone.ne_bool_none (fin_bl I q (by simp))
    | bl j => cases ry; exact ne_bool (fin_bl I q (congrArg not dec_bl))
    | str j => obtain ⟨t', rfl⟩ := ry; exact PySem.EqMixed.ne_bool_str (fin_bl I q (by simp))
    | _ => exact absurd (show false = true from hs) Bool.false_ne_true
  | int i =>
    obtain ⟨t, rfl⟩ := rx
    cases y with
    | non => cases ry; exact PySem.EqNone.ne_int_none (fin_bl I q (by simp))
    | int j => obtain ⟨t', rfl⟩ := ry; exact ne_int (fin_bl I q (congrArg not dec_int))
    | str j => obtain ⟨t', rfl⟩ := ry; exact PySem.EqMixed.ne_int_str (fin_bl I q (by simp))
    | _ => exact absurd (show false = true from hs) Bool.false_ne_true
  | str i =>
    obtain ⟨t, rfl⟩ := rx
    cases y with
    | non => cases ry; exact PySem.EqNone.ne_str_none (fin_bl I q (by simp))
    | bl j => cases ry; exact PySem.EqMixed.ne_str_bool (fin_bl I q (by simp))
    | int j => obtain ⟨t', rfl⟩ := ry; exact PySem.EqMixed.ne_str_int (fin_bl I q (by simp))
    | str j => obtain ⟨t', rfl⟩ := ry; exact ne_str (fin_bl I q (congrArg not dec_str))
    | _ => exact absurd (show false = true from hs) Bool.false_ne_true
  | byt i =>
    obtain ⟨t, rfl⟩ := rx
    cases y with
    | byt j => obtain ⟨t', rfl⟩ := ry; exact PySem.W.ne_bytes (fin_bl I q (congrArg not dec_byt))
    | _ => exact absurd (show false = true from hs) Bool.false_ne_true
  | _ => cases y <;> exact absurd (show false = true from hs) Bool.false_ne_true

theorem op_lt : OpR X (compareOp .Lt) (rI0 fun i j => .bl (decide (i < j))) := opB0 fun _ _ _ _ _ _ _ q => lt_int q
theorem op_le : OpR X (compareOp .LtE) (rI0 fun i j => .bl (decide (i ≤ j))) := opB0 fun _ _ _ _ _ _ _ q => le_int q
theorem op_gt : OpR X (compareOp .Gt) (rI0 fun i j => .bl (decide (j < i))) := opB0 fun _ _ _ _ _ _ _ q => gt_int q
/-- the one string within the other -/
theorem op_in_str : OpR X (compareOp .In) (fun x y H Q => ∃ i j, x = .str i ∧ y = .str j ∧ Q (.bl (!(Builtin.Str.occurrences j i 0 j.length 1).isEmpty)) H) := by
  intro pins s σ H x y v u Q I rx ry h
  obtain ⟨i, j, rfl, rfl, q⟩ := h
  obtain ⟨t, rfl⟩ := rx
  obtain ⟨t', rfl⟩ := ry
  exact in_str (fin_bl I q rfl)

/-- is None, is not None: the right side a value none -/
theorem op_isN : OpR X (compareOp .Is) (fun x y H Q => y = .non ∧ Q (.bl (decide (x = .non))) H) := by
  intro pins s σ H x y v u Q I rx ry h
  obtain ⟨rfl, q⟩ := h
  cases ry
  refine is_none_gen (fin_bl I q ?_)
  cases x <;> first
    | (cases rx; rfl)
    | (obtain ⟨t, rfl⟩ := rx; rfl)
theorem op_notN : OpR X (compareOp .IsNot) (fun x y H Q => y = .non ∧ Q (.bl (!decide (x = .non))) H) := by
  intro pins s σ H x y v u Q I rx ry h
  obtain ⟨rfl, q⟩ := h
  cases ry
  refine isnot_none_gen (fin_bl I q ?_)
  cases x <;> first
    | (cases rx; rfl)
    | (obtain ⟨t, rfl⟩ := rx; rfl)

/-- two rules for one operation: by cases -/
theorem OpR.or {f : Value → Value → Sem Value} {r r' : R2} (h : OpR X f r) (h' : OpR X f r') : OpR X f (fun x y H Q => r x y H Q ∨ r' x y H Q) := by
  intro pins s σ H x y v u Q I rx ry q
  rcases q with q | q
  · exact h pins s σ H x y v u Q I rx ry q
  · exact h' pins s σ H x y v u Q I rx ry q

theorem nomark (b : Expr) {op : CmpOp} (h : op ≠ .In := by decide) (h2 : op ≠ .NotIn := by decide) : behindInMarks op b = false := by
  have e1 : (op == CmpOp.In) = false := by cases op <;> first | rfl | exact absurd rfl h
  have e2 : (op == CmpOp.NotIn) = false := by cases op <;> first | rfl | exact absurd rfl h2
  cases b <;> simp [behindInMarks, e1, e2]
/-- a comparison as a value; hm: nomark b, or (for in, not in) by with_unfolding_all rfl -/
theorem pe_cmpR {op : CmpOp} {r : R2} (ho : OpR X (compareOp op) r) (ha : PE X a ta) (hb : PE X b tb) (hm : behindInMarks op b = false) : PE X (.Compare a [op] [b] pos) (tOp r ta tb) := by
  intro pins s σ H Q I h
  exact wpAny_Compare1 (binT ha hb I h fun v u s2 x y H2 I2 rx ry q => ho pins s2 σ H2 x y v u Q I2 rx ry q) hm
/-- a reading of a value as a test -/
def tTest (t : TE) : TT := fun σ H Q => t σ H fun x H' => ∃ k, x = .bl k ∧ Q k H'
theorem pt_cmpR {op : CmpOp} {r : R2} (ho : OpR X (compareOp op) r) (ha : PE X a ta) (hb : PE X b tb) (hm : behindInMarks op b = false) : PT X (.Compare a [op] [b] pos) (tTest (tOp r ta tb)) := by
  intro pins s σ H Q I h
  refine wpAny_isTrue_Compare1 (thn (ha pins s σ H _ I h) fun v s1 ⟨x, H1, I1, r1, q1⟩ => thn (hb pins s1 σ H1 _ I1 q1) fun u s2 ⟨y, H2, I2, r2, q2⟩ =>
    thn (ho pins s2 σ H2 x y v u _ I2 r1 r2 q2) fun c s3 ⟨z, H3, I3, r3, k, e, q3⟩ => ?_) hm
  subst e
  cases r3
  exact wpAny_truthy_bool ⟨H3, I3, q3⟩
/-- a op1 b op2 c -/
def tChain (r r' : R2) (ta tb tc : TE) : TE := fun σ H Q => ta σ H fun x H1 => tb σ H1 fun y H2 => r x y H2 fun z H3 => ∃ k, z = .bl k ∧
  (if k = true then tc σ H3 fun w' H4 => r' y w' H4 Q else Q (.bl false) H3)
theorem pe_chain {op op' : CmpOp} {r r' : R2} (ho : OpR X (compareOp op) r) (ho' : OpR X (compareOp op') r') (ha : PE X a ta) (hb : PE X b tb) (hc : PE X c tc)
    (hm : lastMarks [op, op'] [b, c] = false := by with_unfolding_all rfl) : PE X (.Compare a [op, op'] [b, c] pos) (tChain r r' ta tb tc) := by
  intro pins s σ H Q I h
  refine Compare_chain (thn (ha pins s σ H _ I h) fun v s1 ⟨x, H1, I1, r1, q1⟩ => chain_link (thn (hb pins s1 σ H1 _ I1 q1) fun u s2 ⟨y, H2, I2, r2, q2⟩ =>
    thn (ho pins s2 σ H2 x y v u _ I2 r1 r2 q2) fun d s3 ⟨z, H3, I3, r3, k, e, q3⟩ => ?_)) hm
  subst e
  cases r3
  refine wpAny_truthy_bool ?_
  cases k with
  | false => exact ite_ff ⟨.bl false, H3, I3, rfl, q3⟩
  | true => exact ite_tt (chain_last (thn (hc pins s3 σ H3 _ I3 q3) fun w' s4 ⟨z', H4, I4, r4, q4⟩ => ho' pins s4 σ H4 y z' u w' Q I4 r2 r4 q4))
/-! ### truth -/
theorem line63 : (sizeLine : Nat) < 2 ^ 63 := by rw [sizeLine_eq]; decide
/-! ### strs and bytes -/
theorem op_add_str : OpR X (binaryOp .Add) (fun x y H Q => ∃ i j, x = .str i ∧ y = .str j ∧ i.length + j.length ≤ sizeLine ∧ Q (.str (i ++ j)) H) := by
  intro pins s σ H x y v u Q I rx ry h
  obtain ⟨i, j, rfl, rfl, hz, q⟩ := h
  obtain ⟨t, rfl⟩ := rx
  obtain ⟨t', rfl⟩ := ry
  exact add_str (fun t' tk => ⟨.str (i ++ j), H, I.tok _, ⟨_, rfl⟩, q⟩) hz
/-! ### scalar builtins, by CallR -/
theorem vals1 {x : V} {us : List Value} (r : Vals [x] us) : ∃ u, us = [u] ∧ RelV x u := by
  cases r with
  | cons r1 r2 => cases r2; exact ⟨_, rfl, r1⟩
theorem vals2 {x y : V} {us : List Value} (r : Vals [x, y] us) : ∃ u w', us = [u, w'] ∧ RelV x u ∧ RelV y w' := by
  cases r with
  | cons r1 r2 =>
    cases r2 with
    | cons r3 r4 => cases r4; exact ⟨_, _, rfl, r1, r3⟩
theorem call_int1 : CallR X (.type "int") (fun xs H Q => (∃ i, xs = [.int i] ∧ Q (.int i) H) ∨ ∃ k, xs = [.bl k] ∧ Q (.int (if k then 1 else 0)) H) := by
  intro pins s σ H xs us Q I r h
  rcases h with ⟨i, rfl, q⟩ | ⟨k, rfl, q⟩
  · obtain ⟨u, rfl, t, rfl⟩ := vals1 r
    exact call_int_int ⟨.int i, H, I, ⟨_, rfl⟩, q⟩
  · obtain ⟨u, rfl, r1⟩ := vals1 r
    cases r1
    exact call_int_bool ⟨.int (if k then 1 else 0), H, I.tok _, ⟨_, rfl⟩, q⟩
theorem call_str_int : CallR X (.type "str") (fun xs H Q => ∃ i, xs = [.int i] ∧ i.natAbs.log2 < 1920 ∧ Q (.str (toString i)) H) := by
  intro pins s σ H xs us Q I r h
  obtain ⟨i, rfl, hz, q⟩ := h
  obtain ⟨u, rfl, t, rfl⟩ := vals1 r
  exact PySem.P.str_of_int hz ⟨.str _, H, I.tok _, ⟨_, rfl⟩, q⟩
theorem call_ord : CallR X (.builtin "ord") (fun xs H Q => ∃ x, xs = [.str x] ∧ x.length = 1 ∧ Q (.int (x.cps.getD 0 0 : Nat)) H) := by
  intro pins s σ H xs us Q I r h
  obtain ⟨x, rfl, hz, q⟩ := h
  obtain ⟨u, rfl, t, rfl⟩ := vals1 r
  exact ord_of_one hz ⟨.int _, H, I.tok _, ⟨_, rfl⟩, q⟩
end
end L2

namespace L2
open PySem PySem.Spec PyProof.Rows

/-! ### an instance, its attributes a map -/
structure ObjM (h : Heap) (x dx C : Addr) (mA : Str → Option Value) : Prop where
  obj : h.get? x = some (PySem.W.instObj C dx)
  ns : h.Ns1 dx mA
  ne : dx ≠ x

theorem lookIn_ns {h : Heap} {dx : Addr} {mA : Str → Option Value} (n : h.Ns1 dx mA) : ∃ od, h.get? dx = some od ∧ ∀ name, PySem.W.lookIn name od = some (mA name) := by
  obtain ⟨o, es, ep, ho, hd, hk, _, hm⟩ := n
  refine ⟨o, ho, fun name => ?_⟩
  have e := hm name
  unfold nsFind findBy at e
  rw [← Array.find?_toList] at e
  unfold PySem.W.lookIn
  rw [hd]
  dsimp only
  split
  · rename_i y q
    rw [q] at e
    exact congrArg some e
  · rename_i q
    rw [q] at e
    have a : es.toList.any (·.refKey) = false := by
      rw [List.any_eq_false]
      intro y hy
      obtain ⟨z, t, hkey⟩ := hk y (Array.mem_toList_iff.mp hy)
      simp [DictEntry.refKey, hkey]
    have a' : ¬ es.toList.any (·.refKey) = true := by rw [a]; exact Bool.false_ne_true
    rw [if_neg a']
    exact congrArg some e

theorem ObjM.look {h : Heap} {x dx C : Addr} {mA : Str → Option Value} (I : ObjM h x dx C mA) : ∃ od, PySem.W.InstAt h x (PySem.W.instObj C dx) C (some od) ∧ ∀ name, PySem.W.lookIn name od = some (mA name) :=
  let ⟨od, ho, hl⟩ := lookIn_ns I.ns
  ⟨od, ⟨I.obj, rfl, rfl, ho⟩, hl⟩

section
variable {prog : Program} {w : World} {A : Around} {E : Value → Shared → Prop} {s : Shared} {K : PySem.W.Frag} {x dx C f : Addr} {mA : Str → Option Value} {name : Str} {v : Value}

theorem get_map {expr : Bool} {Q : Value → Shared → Prop} (X : K.In s.heap) (I : ObjM s.heap x dx C mA) (hg : PySem.W.plainGet K C name = true) (hh : PySem.W.hasDictIn K C = true)
    (ha : PySem.W.findIn K (.ref C) name = some none) (hv : mA name = some v) (hv' : PySem.W.handedIn v = true) (h : Q v { s with toks := s.toks + 1 }) :
    wpAny (model prog w) A (getAttr (.ref x) name expr) Q E s := by
  obtain ⟨od, J, hl⟩ := I.look
  exact PySem.W.get_value X J (PySem.W.plainGet_of hg).1 (PySem.W.findObj_own hh ha rfl (by rw [hl, hv])) hv' h

theorem get_meth {pl : Sem Bool} {Q : Value × List Value → Shared → Prop} (X : K.In s.heap) (I : ObjM s.heap x dx C mA) (hg : PySem.W.plainGet K C name = true)
    (hf : PySem.W.findIn K (.ref C) name = some (some (.ref f))) (ht : PySem.W.isFn K (.ref f) = true) (hv : mA name = none) (h : Q (.ref f, [.ref x]) s) :
    wpAny (model prog w) A (getMethod (.ref x) name pl) Q E s := by
  obtain ⟨od, J, hl⟩ := I.look
  exact PySem.W.method_fn X J (PySem.W.plainGet_of hg).1 (PySem.W.plainGet_of hg).2 hf (beq_iff_eq.mp ht) (by show (PySem.W.lookIn name od).map (·.isSome) = some false; rw [hl, hv]; rfl) h

theorem set_map {ns : List Str} {Q : Unit → Shared → Prop} (X : K.In s.heap) (I : ObjM s.heap x dx C mA)
    (hs : PySem.W.findIn K (.ref C) "__setattr__" = some (some (.builtin "object.__setattr__"))) (hp : PySem.W.plainOver K C = true) (ht : PySem.W.takerIn K C name = some none) (hh : PySem.W.hasDictIn K C = true)
    (hw : PySem.Within mA ns) (hsz : ns.length ≤ sizeLine)
    (h : ∀ h', ObjM h' x dx C (fun y => if y = name then some v else mA y) → Heap.SameBut dx s.heap h' → Q () { s with heap := h', toks := s.toks + 2 }) :
    wpAny (model prog w) A (setAttr (.ref x) name v) Q E s := by
  obtain ⟨od, J, hl⟩ := I.look
  refine PySem.W.set_plain X J hs (PySem.W.osa_open (s := { s with toks := s.toks + 1 }) (r := none) X J hp ht fun b => ?_)
  obtain ⟨cd, hc, hd'⟩ := PySem.W.any_some hh
  have hx : s.heap.get? x = some ⟨.ref C, some dx, .plain, #[]⟩ := I.obj
  refine wpAny_bind (wpAny_pure (wpAny_bind (wpAny_bind (wpAny_loadPart hx (wpAny_bind (PySem.W.Looks.here (s := { s with toks := s.toks + 1 }) (PySem.W.looks_clsIn X hc) ?_))))))
  rw [hd']
  refine wpAny_pure (a := some dx) (wpAny_bind (wpAny_pure (wpAny_bind ?_)))
  refine wpAny_nsSet1 (s := { s with toks := s.toks + 1 }) I.ns fun h' hn2 hs2 => ?_
  obtain ⟨oD, esD, epD, hoD, hdD, hcD⟩ := hn2.count (PySem.Within.cons name v hw)
  refine wpAny_bind (wpAny_lookBehind hoD (by rw [hdD]; exact pastItsLine_dict (Nat.le_trans hcD (by rw [List.length_cons]; omega))) ?_)
  exact wpAny_pure (h _ ⟨(hs2.2 _ (Ne.symm I.ne)).trans I.obj, hn2, I.ne⟩ hs2)

/-- C(..): the dict at the heap's end, the instance behind it; then its __init__ -/
theorem make_map {R : Result → Shared → Prop} {vs : List Value} {kw : List (Str × Value)} (X : K.In s.heap) (hm : PySem.W.makesIn K C = true)
    (hi : PySem.W.findIn K (.ref C) "__init__" = some (some (.ref f))) (hf : PySem.W.typeIn K (.ref f) = some (.type "function"))
    (h : codeAny (model prog w) (A.under (.builtin "type.__call__" ⟨.ref C :: vs, kw⟩)) (.call (.ref f) ⟨.ref (s.heap.objs.size + 1) :: vs, kw⟩) (PySem.W.InitBack (s.heap.objs.size + 1) R)
      { s with heap := (s.heap.push PySem.W.emptyDict).push (PySem.W.instObj C s.heap.objs.size) }) :
    codeAny (model prog w) A (.call (.ref C) ⟨vs, kw⟩) R s := by
  obtain ⟨hh, g, d, t, os⟩ := s
  exact PySem.W.make_core (PySem.W.makes_of X hm) (PySem.W.looks_findIn X hi) (fun self => PySem.W.bind_fn X self hf) (.inl rfl) h
end

/-! ### the attributes as a list of pairs -/
def putF (f : Str) (v : V) : List (Str × V) → List (Str × V)
  | [] => [(f, v)]
  | (g, x) :: r => if g = f then (g, v) :: r else (g, x) :: putF f v r
theorem lookup_putF (f g : Str) (v : V) : ∀ fs : List (Str × V), (putF f v fs).lookup g = if g = f then some v else fs.lookup g
  | [] => by
    show List.lookup g [(f, v)] = _
    by_cases h : g = f
    · have hb : (g == f) = true := beq_iff_eq.mpr h
      simp only [List.lookup, hb, if_pos h]
    · have hb : (g == f) = false := beq_eq_false_iff_ne.mpr h
      simp only [List.lookup, hb, if_neg h]
  | (k, x) :: r => by
    have ih := lookup_putF f g v r
    rw [show putF f v ((k, x) :: r) = (if k = f then (k, v) :: r else (k, x) :: putF f v r) from rfl]
    by_cases hk : k = f
    · rw [if_pos hk]
      by_cases h : g = k
      · have hb : (g == k) = true := beq_iff_eq.mpr h
        simp only [List.lookup, hb, if_pos (h.trans hk)]
      · have hb : (g == k) = false := beq_eq_false_iff_ne.mpr h
        simp only [List.lookup, hb, if_neg (fun e : g = f => h (e.trans hk.symm))]
    · rw [if_neg hk]
      by_cases h : g = k
      · have hb : (g == k) = true := beq_iff_eq.mpr h
        simp only [List.lookup, hb, if_neg (fun e : g = f => hk (h.symm.trans e))]
      · have hb : (g == k) = false := beq_eq_false_iff_ne.mpr h
        simp only [List.lookup, hb]
        exact ih
theorem keys_putF (f : Str) (v : V) : ∀ fs : List (Str × V), f ∈ (putF f v fs).map (·.1) ∧ ∀ g, g ∈ fs.map (·.1) → g ∈ (putF f v fs).map (·.1)
  | [] => ⟨by simp [putF], fun g h => by simp at h⟩
  | (k, x) :: r => by
    obtain ⟨i1, i2⟩ := keys_putF f v r
    rw [show putF f v ((k, x) :: r) = (if k = f then (k, v) :: r else (k, x) :: putF f v r) from rfl]
    by_cases hk : k = f
    · rw [if_pos hk]
      subst hk
      exact ⟨by simp, fun g h => by simpa using h⟩
    · rw [if_neg hk]
      refine ⟨?_, fun g h => ?_⟩
      · rw [List.map_cons]
        exact List.mem_cons_of_mem _ i1
      · rw [List.map_cons] at h ⊢
        rcases List.mem_cons.mp h with e | e
        · exact List.mem_cons.mpr (.inl e)
        · exact List.mem_cons_of_mem _ (i2 g e)
theorem length_putF (f : Str) (v : V) : ∀ fs : List (Str × V), (putF f v fs).length ≤ fs.length + 1
  | [] => by simp [putF]
  | (k, x) :: r => by
    have ih := length_putF f v r
    rw [show putF f v ((k, x) :: r) = (if k = f then (k, v) :: r else (k, x) :: putF f v r) from rfl]
    by_cases hk : k = f
    · rw [if_pos hk, List.length_cons, List.length_cons]; omega
    · rw [if_neg hk, List.length_cons, List.length_cons]; omega

theorem RelO.some_of {v : V} {o : Option Value} (r : RelO (some v) o) : ∃ u, o = some u ∧ RelV v u := by
  cases o with
  | none => exact (show False from r).elim
  | some u => exact ⟨u, rfl, r⟩
theorem RelO.none_of {o : Option Value} (r : RelO none o) : o = none := by
  cases o with
  | none => rfl
  | some u => exact (show False from r).elim
theorem handed_of {v : V} {u : Value} (r : RelV v u) : PySem.W.handedIn u = true := by
  cases v with
  | non => cases (show u = Value.none from r); rfl
  | bl b => cases (show u = Value.bool b from r); rfl
  | int i => obtain ⟨t, e⟩ := (show ∃ t, u = Value.int i t from r); cases e; rfl
  | str x => obtain ⟨t, e⟩ := (show ∃ t, u = Value.str x t from r); cases e; rfl
  | byt b => obtain ⟨t, e⟩ := (show ∃ t, u = Value.bytes b t from r); cases e; rfl
  | flt b => obtain ⟨t, e⟩ := (show ∃ t, u = Value.float b t from r); cases e; rfl
  | ref a => cases (show u = Value.ref a from r); rfl
  | ty n => cases (show u = Value.type n from r); rfl

section
variable {P : Program} {w : World} {H H' : Hp} {h h' : Heap} {a C dx : Addr} {fs fs' : List (Str × V)}
theorem ins_get (hok : HOk P w H h) (e : H a = some (.ins C dx fs)) : ∃ mA, ObjM h a dx C mA ∧ (∀ f, RelO (fs.lookup f) (mA f)) ∧ PySem.Within mA (fs.map (·.1)) ∧ fs.length ≤ 1000 ∧ H dx = some (.own a) := by
  obtain ⟨d, z, ne, ob, mA, n, r, q⟩ := (show ObjOk P w H h a (.ins C dx fs) from hok a _ e)
  exact ⟨mA, ⟨ob, n, ne⟩, r, q, z, d⟩
end

/-! ### what of the text a class must have -/
structure Cls (K : PySem.W.Frag) (C : Addr) : Prop where
  pg : PySem.W.plainGet K C Str.empty = true
  hd : PySem.W.hasDictIn K C = true
  po : PySem.W.plainOver K C = true
  sa : PySem.W.findIn K (.ref C) "__setattr__" = some (some (.builtin "object.__setattr__"))
theorem Cls.get {K : PySem.W.Frag} {C : Addr} (c : Cls K C) (f : Str) : PySem.W.plainGet K C f = true := c.pg
/-- no class of it has the name -/
def NoAttr (K : PySem.W.Frag) (C : Addr) (f : Str) : Prop := PySem.W.findIn K (.ref C) f = some none
theorem NoAttr.taker {K : PySem.W.Frag} {C : Addr} {f : Str} (n : NoAttr K C f) : PySem.W.takerIn K C f = some none := by
  unfold PySem.W.takerIn
  rw [show PySem.W.findIn K (.ref C) f = some none from n]
  rfl
/-- a constant of the class -/
structure Con (K : PySem.W.Frag) (C : Addr) (f : Str) (v : V) (u : Value) : Prop where
  at_ : PySem.W.findIn K (.ref C) f = some (some u)
  rel : RelV v u
  get : PySem.W.specialIn K u "__get__" = some none
  cp : PySem.W.copiedNames.contains f = false
/-- a method: a plain def of the class or of one above it -/
structure Meth (K : PySem.W.Frag) (C : Addr) (m : Str) (f : Addr) : Prop where
  at_ : PySem.W.findIn K (.ref C) m = some (some (.ref f))
  fn : PySem.W.isFn K (.ref f) = true
  kp : PySem.W.keepIn K (.ref f) = true

section
variable {X : Cx} {pins : List (Addr × Obj)} {σ : St} {H : Hp} {s : Shared} {a C dx : Addr} {fs : List (Str × V)} {f : Str} {v : V} {A : Around} {E : Value → Shared → Prop}

theorem getattr_ok {b : Bool} {Q : Value → Shared → Prop} (I : Inv X pins σ H s) (e : H a = some (.ins C dx fs)) (c : Cls X.K C) (n : NoAttr X.K C f) (l : fs.lookup f = some v)
    (h : ∀ u s', Inv X pins σ H s' → RelV v u → Q u s') : wpAny (model X.prog X.w) A (getAttr (.ref a) f b) Q E s := by
  obtain ⟨mA, O, r, _, _, _⟩ := ins_get I.hok e
  obtain ⟨u, hu, ru⟩ := RelO.some_of (v := v) (o := mA f) (by rw [← l]; exact r f)
  exact get_map I.kIn O (c.get f) c.hd n hu (handed_of ru) (h u _ (I.tok _) ru)

theorem getmeth_ok {m : Str} {g : Addr} {pl : Sem Bool} {Q : Value × List Value → Shared → Prop} (I : Inv X pins σ H s) (e : H a = some (.ins C dx fs)) (c : Cls X.K C) (k : Meth X.K C m g) (l : fs.lookup m = none)
    (h : Q (.ref g, [.ref a]) s) : wpAny (model X.prog X.w) A (getMethod (.ref a) m pl) Q E s := by
  obtain ⟨mA, O, r, _, _, _⟩ := ins_get I.hok e
  have hn : mA m = none := RelO.none_of (by rw [← l]; exact r m)
  exact get_meth I.kIn O (c.get m) k.at_ k.fn hn h

theorem setattr_ok {y : V} {u : Value} {Q : Unit → Shared → Prop} (I : Inv X pins σ H s) (e : H a = some (.ins C dx fs)) (c : Cls X.K C) (n : NoAttr X.K C f) (hl : fs.length < 1000) (ry : RelV y u)
    (h : ∀ s', Inv X pins σ (upd H a (.ins C dx (putF f y fs))) s' → Q () s') : wpAny (model X.prog X.w) A (setAttr (.ref a) f u) Q E s := by
  obtain ⟨mA, O, r, wi, _, ho⟩ := ins_get I.hok e
  have hz : (fs.map (·.1)).length ≤ sizeLine := by rw [List.length_map, sizeLine_eq]; omega
  refine set_map I.kIn O c.sa c.po n.taker c.hd wi hz fun h' O' sb => h _ ?_
  have hd : ∃ o, h'.get? dx = some o := let ⟨o, _, _, e', _⟩ := O'.ns; ⟨o, e'⟩
  refine I.write (x := a) (e := dx) (by rw [e]; exact True.intro) (.inr ho) (fun b q hb z => (sb.2 b hb).trans z) hd ?_
  refine ⟨by rw [upd_ne O.ne]; exact ho, ?_, O.ne, O'.obj, _, O'.ns, fun g => ?_, fun g hg => ?_⟩
  · have := length_putF f y fs; omega
  · show RelO ((putF f y fs).lookup g) (if g = f then some u else mA g)
    rw [lookup_putF]
    by_cases q : g = f
    · rw [if_pos q, if_pos q]; exact ry
    · rw [if_neg q, if_neg q]; exact r g
  · by_cases q : g = f
    · rw [q]; exact (keys_putF f y fs).1
    · refine (keys_putF f y fs).2 g (wi g fun z => hg ?_)
      show (if g = f then some u else mA g) = none
      rw [if_neg q]; exact z

/-- a new instance, tracked, without attributes -/
theorem Inv.made (I : Inv X pins σ H s) : Inv X pins σ (upd (upd H s.heap.objs.size (.own (s.heap.objs.size + 1))) (s.heap.objs.size + 1) (.ins C s.heap.objs.size []))
    { s with heap := (s.heap.push PySem.W.emptyDict).push (PySem.W.instObj C s.heap.objs.size) } := by
  have e1 : (s.heap.push PySem.W.emptyDict).get? s.heap.objs.size = some PySem.W.emptyDict := Heap.get?_push_size s.heap rfl
  have e2 : ((s.heap.push PySem.W.emptyDict).push (PySem.W.instObj C s.heap.objs.size)).get? (s.heap.objs.size + 1) = some (PySem.W.instObj C s.heap.objs.size) := by
    have := Heap.get?_push_size (s.heap.push PySem.W.emptyDict) (o := PySem.W.instObj C s.heap.objs.size) rfl
    rwa [Heap.size_push] at this
  have e3 : (s.heap.push PySem.W.emptyDict).Ns s.heap.objs.size (fun _ => none) := ⟨PySem.W.emptyDict, #[], _, e1, rfl, (fun e he => absurd he (by simp)), fun _ => rfl⟩
  have I1 := I.laid (a := s.heap.objs.size) (o := .own (s.heap.objs.size + 1)) (h' := s.heap.push PySem.W.emptyDict) (t' := s.toks) (fun b u q => Heap.get?_push_of_some _ q) (Nat.le_refl _) ⟨_, e1⟩
  refine I1.laid (a := s.heap.objs.size + 1) (o := .ins C s.heap.objs.size []) (t' := s.toks) (fun b u q => Heap.get?_push_of_some _ q) (Nat.le_of_eq (Heap.size_push _ _)) ?_
  have ne : s.heap.objs.size ≠ s.heap.objs.size + 1 := Nat.ne_of_lt (Nat.lt_succ_self _)
  refine ⟨by rw [upd_ne ne, upd_same], Nat.zero_le _, ne, e2, fun _ => none, (Heap.Ns1.of_empty e3).at fun o q => Heap.get?_push_of_some _ q, fun _ => True.intro, fun y hy => absurd rfl hy⟩

/-- e.f where nothing but the object is asked: through attributeBase (super) and the last hold -/
theorem attr_of {prog : Program} {w : World} {env : Env} {e : Expr} {f : Str} {pos : Pos} {s : Shared} {Q : Value → Shared → Prop} (hb : attributeBase e f env (eval e env) = eval e env)
    (h : wpAny (model prog w) A (eval e env) (fun o s₁ => wpAny (model prog w) A (getAttr o f true) Q E s₁) E s) : wpAny (model prog w) A (eval (.Attribute e f pos) env) Q E s :=
  Attribute_any_ h (by rw [arm_eval_Attribute, hb])
end

/-! ### readings and rules -/
/-- e.f, an attribute of the instance -/
def tFld (K : PySem.W.Frag) (ta : TE) (f : Str) : TE := fun σ H Q => ta σ H fun x H1 => ∃ a C dx fs v, x = .ref a ∧ H1 a = some (.ins C dx fs) ∧ Cls K C ∧ NoAttr K C f ∧ fs.lookup f = some v ∧ Q v H1
/-- e.f = value -/
def sFld (K : PySem.W.Frag) (ta tv : TE) (f : Str) : TS := fun D σ H => tv σ H fun y H1 => ta σ H1 fun x H2 => ∃ a C dx fs, x = .ref a ∧ H2 a = some (.ins C dx fs) ∧ Cls K C ∧ NoAttr K C f ∧ fs.length < 1000 ∧
  D.nx σ (upd H2 a (.ins C dx (putF f y fs)))
section
variable {X : Cx} {o e value : Expr} {f : Str} {pos pos' tpos : Pos} {ta tv : TE}
theorem pe_fld (he : PE X e ta) (hb : attributeBase e f X.env (eval e X.env) = eval e X.env) : PE X (.Attribute e f pos) (tFld X.K ta f) := by
  intro pins s σ H Q I h
  refine attr_of hb (thn (he pins s σ H _ I h) fun u s1 ⟨x, H1, I1, rx, a, C, dx, fs, v, ex, ea, c, n, l, q⟩ => ?_)
  subst ex
  obtain rfl : u = Value.ref a := rx
  exact getattr_ok I1 ea c n l fun u' s2 I2 ru => ⟨v, H1, I2, ru, q⟩
theorem ps_fld (ha : PE X o ta) (hv : PE X value tv) (hs : swapsWith value (some (.Attribute o f pos')) pos.line X.env = pure false) : PS X (.Assign [.Attribute o f pos'] value pos) (sFld X.K ta tv f) := by
  intro pins s σ H D I h
  refine plainObj_wpAny_Assign_Attribute (thn (hv pins s σ H _ I h) fun u s1 ⟨y, H1, I1, ry, q⟩ => thn (ha pins s1 σ H1 _ I1 q) fun ov s2 ⟨x, H2, I2, rx, a, C, dx, fs, ex, ea, c, n, l, q2⟩ => ?_) hs
  subst ex
  obtain rfl : ov = Value.ref a := rx
  exact setattr_ok I2 ea c n l ry fun s3 I3 => ⟨σ, _, I3, q2⟩
end

/-! ### isinstance -/
section
variable {X : Cx} {pins : List (Addr × Obj)} {σ : St} {H : Hp} {s : Shared} {A : Around} {E : Value → Shared → Prop} {Q : Value → Shared → Prop} {c : Value} {b : Bool}
/-- the type of a value, as the fragment's deciders take it; for an instance its class -/
inductive TyOf (K : PySem.W.Frag) (H : Hp) : V → Value → Prop where
  | non : TyOf K H .non (.type "NoneType")
  | bl (x : Bool) : TyOf K H (.bl x) (.type "bool")
  | int (i : Int) : TyOf K H (.int i) (.type "int")
  | str (x : Str) : TyOf K H (.str x) (.type "str")
  | flt (x : UInt64) : TyOf K H (.flt x) (.type "float")
  | lst {a : Addr} {xs : List V} (e : H a = some (.lst xs)) : TyOf K H (.ref a) (.type "list")
  | frz {a : Addr} {o : Obj} {xs : List V} (e : H a = some (.frz o (.lst xs))) : TyOf K H (.ref a) (.type "list")
  | tup {a : Addr} {xs : List V} (e : H a = some (.tup xs)) : TyOf K H (.ref a) (.type "tuple")
  | dK {a : Addr} {kvs : List (Key × V)} (e : H a = some (.dK kvs)) : TyOf K H (.ref a) (.type "dict")
  | dT {a : Addr} {kvs : List (List Key × V)} (e : H a = some (.dT kvs)) : TyOf K H (.ref a) (.type "dict")
  | ins {a C dx : Addr} {fs : List (Str × V)} (e : H a = some (.ins C dx fs)) (cl : Cls K C) (ha : PySem.W.findIn K (.ref C) "__class__" = some (some (.builtin "object.__class__")))
      (hn : PySem.W.specialIn K (.builtin "object.__class__") "__get__" = some (some (.builtin "getset_descriptor.__get__"))) (htk : PySem.W.takesIn K (.builtin "object.__class__") = some true)
      (hm : PySem.W.mroIn K C (.type "object") = some true) : TyOf K H (.ref a) (.ref C)
/-- isinstance(x, c) for one class c, a built-in or an own one: kitOne's answer -/
theorem isinst_ok {x : V} {u t : Value} (I : Inv X pins σ H s) (rx : RelV x u) (ty : TyOf X.K H x t) (e : PySem.W.kitOne X.K t c = some b) (h : ∀ tk, Q (.bool b) { s with toks := tk }) :
    wpAny (model X.prog X.w) A (call (.builtin "isinstance") [u, c]) Q E s := by
  cases ty with
  | non => cases (show u = Value.none from rx); exact PySem.W.kia_one PySem.W.kitx_none I.kIn True.intro e (fun z => nomatch z) h
  | bl y => cases (show u = Value.bool y from rx); exact PySem.W.kia_one PySem.W.kitx_bool I.kIn True.intro e (fun z => nomatch z) h
  | int i => obtain ⟨t, q⟩ := (show ∃ t, u = Value.int i t from rx); cases q; exact PySem.W.kia_one PySem.W.kitx_int I.kIn True.intro e (fun z => nomatch z) h
  | str y => obtain ⟨t, q⟩ := (show ∃ t, u = Value.str y t from rx); cases q; exact PySem.W.kia_one PySem.W.kitx_str I.kIn True.intro e (fun z => nomatch z) h
  | flt y => obtain ⟨t, q⟩ := (show ∃ t, u = Value.float y t from rx); cases q; exact PySem.W.kia_one PySem.W.kitx_float I.kIn True.intro e (fun z => nomatch z) h
  | @lst a xs ea =>
    cases (show u = Value.ref a from rx)
    obtain ⟨_, _, n, _, h1⟩ := (show ObjOk X.prog X.w H s.heap a (.lst xs) from I.hok a _ ea)
    exact PySem.W.kia_one PySem.W.kitx_list I.kIn ⟨_, h1, rfl⟩ e (fun z => nomatch z) h
  | @frz a ob xs ea =>
    cases (show u = Value.ref a from rx)
    obtain ⟨_, _, _, n, _, h1⟩ := (show ObjOk X.prog X.w H s.heap a (.frz ob (.lst xs)) from I.hok a _ ea)
    exact PySem.W.kia_one PySem.W.kitx_list I.kIn ⟨_, h1, rfl⟩ e (fun z => nomatch z) h
  | @tup a xs ea =>
    cases (show u = Value.ref a from rx)
    obtain ⟨_, _, _, p⟩ := (show ObjOk X.prog X.w H s.heap a (.tup xs) from I.hok a _ ea)
    obtain ⟨o, h1, h2, _⟩ := p
    exact PySem.W.kia_one PySem.W.kitx_tuple I.kIn ⟨o, h1, h2⟩ e (fun z => nomatch z) h
  | @dK a kvs ea =>
    cases (show u = Value.ref a from rx)
    obtain ⟨_, _, vs, _, p⟩ := (show ObjOk X.prog X.w H s.heap a (.dK kvs) from I.hok a _ ea)
    obtain ⟨o, es, ep, h1, h2, _⟩ := p
    exact PySem.W.kia_one PySem.W.kitx_dict I.kIn ⟨o, h1, h2.1⟩ e (fun z => nomatch z) h
  | @dT a kvs ea =>
    cases (show u = Value.ref a from rx)
    obtain ⟨_, _, xs, _, o, es, ep, h1, h2, _⟩ := (show ObjOk X.prog X.w H s.heap a (.dT kvs) from I.hok a _ ea)
    exact PySem.W.kia_one PySem.W.kitx_dict I.kIn ⟨o, h1, h2.1⟩ e (fun z => nomatch z) h
  | @ins a C dx fs ea cl ha hn htk hm =>
    cases (show u = Value.ref a from rx)
    obtain ⟨mA, O, _⟩ := ins_get I.hok ea
    obtain ⟨od, J, _⟩ := O.look
    exact PySem.W.kia_one (PySem.W.kitx_own (cl.get _) cl.hd ha hn htk hm) I.kIn J e (fun z => nomatch z) h
end
end L2

namespace L2
open PySem PySem.Spec PyProof.Rows

/-! ### room -/
structure Room (k : Nat) (A : Around) : Prop where
  hd : A.handled = none
  dp : A.depth + 3 * k + 5 < recursionLimit
  un : A.units + 16 * k + 200 < cLine
theorem Room.mono {j k : Nat} {A : Around} (r : Room k A) (h : j ≤ k) : Room j A := ⟨r.hd, by have := r.dp; omega, by have := r.un; omega⟩
theorem Room.deeper {k : Nat} {A : Around} (r : Room (k + 1) A) (env : Env) : Room k (A.deeper env) :=
  ⟨r.hd, by have := r.dp; show A.depth + 1 + 3 * k + 5 < _; omega, by have := r.un; show A.units + 3 + 16 * k + 200 < _; omega⟩
theorem Room.in1 {k : Nat} {A : Around} (r : Room (k + 1) A) : Room k A.in1 :=
  ⟨r.hd, by have := r.dp; show A.depth + 3 * k + 5 < _; omega, by have := r.un; show A.units + 1 + 16 * k + 200 < _; omega⟩
theorem make_depth {A : Around} {C : Addr} {us : List Value} {kw : List (Str × Value)} : (A.under (.builtin "type.__call__" ⟨.ref C :: us, kw⟩)).depth = A.depth + 1 := by
  first | rfl | simp [Around.under, Code.weight, Code.isCreation, Code.isGuard, Code.isCaller, Code.frames, Code.isFrame, guardIds]
theorem make_units {A : Around} {C : Addr} {us : List Value} {kw : List (Str × Value)} : (A.under (.builtin "type.__call__" ⟨.ref C :: us, kw⟩)).units = A.units + 1 := by
  first | rfl | simp [Around.under, Code.cUnits, Code.frames, Code.isFrame]
theorem Room.make {k : Nat} {A : Around} (r : Room (k + 1) A) (C : Addr) (us : List Value) (kw : List (Str × Value)) : Room k (A.under (.builtin "type.__call__" ⟨.ref C :: us, kw⟩)) :=
  ⟨r.hd, by have := r.dp; rw [make_depth]; omega, by have := r.un; rw [make_units]; omega⟩
theorem Room.depth {k : Nat} {A : Around} (r : Room k A) : A.depth < recursionLimit := by have := r.dp; omega
theorem Room.units {k : Nat} {A : Around} (r : Room k A) : A.units + 64 < cLine := by have := r.un; omega
/-! ### argument lists and displays -/
def tNil : TA := fun _ H Q => Q [] H
def tCons (ta : TE) (tr : TA) : TA := fun σ H Q => ta σ H fun x H1 => tr σ H1 fun xs H2 => Q (x :: xs) H2
section
variable {X : Cx} {e : Expr} {es : List Expr} {te : TE} {t : TA} {pos : Pos}
theorem pa_nil : PA X [] tNil := fun _ _ _ _ H Q I h => Calls.spliced_nil ⟨[], H, I, .nil, h⟩
theorem pa_cons (ha : PE X e te) (hr : PA X es t) (hs : starEach (e :: es) X.env = (false, eval e X.env) :: starEach es X.env := by rfl) : PA X (e :: es) (tCons te t) := by
  intro pos pins s σ H Q I h
  rw [hs]
  show wpAny _ _ (spliced ((false, eval e X.env) :: backTo pos (starEach es X.env))) _ _ s
  refine Calls.spliced_cons (thn (ha pins s σ H _ I h) fun u s1 ⟨x, H1, I1, r1, q1⟩ => ?_)
  exact thn (hr pos pins s1 σ H1 _ I1 q1) fun us s2 ⟨xs, H2, I2, r2, q2⟩ => ⟨x :: xs, H2, I2, .cons r1 r2, q2⟩

/-- a tuple, a list of written items -/
def tTup (t : TA) : TE := fun σ H Q => t σ H fun xs H1 => xs.length ≤ sizeLine ∧ ∀ p, H1 p = none → Q (.ref p) (upd H1 p (.tup xs))
def tLst (t : TA) : TE := fun σ H Q => t σ H fun xs H1 => xs.length ≤ sizeLine ∧ ∀ p, H1 p = none → Q (.ref p) (upd H1 p (.lst xs))
theorem pe_tup {x1} (h : PA X es t) : PE X (.Tuple es x1 pos) (tTup t) := by
  intro pins s σ H Q I hq
  refine wpAny_Tuple_spliced (thn (h pos pins s σ H _ I hq) fun us s1 ⟨xs, H1, I1, r, z, q⟩ => ⟨by rw [← r.length]; exact z, ?_⟩)
  have hf : H1 s1.heap.objs.size = none := I1.hok.fresh (Nat.le_refl _)
  refine ⟨.ref s1.heap.objs.size, upd H1 s1.heap.objs.size (.tup xs), I1.laid (t' := s1.toks) (fun b u e => Heap.get?_push_of_some _ e) (Nat.le_refl _) ?_, rfl, q _ hf⟩
  exact ⟨z, us, r, ⟨_, Heap.get?_push_size _ rfl, rfl, _, rfl⟩⟩
theorem pe_lst (h : PA X es t) : PE X (.List es pos) (tLst t) := by
  intro pins s σ H Q I hq
  refine wpAny_List_spliced (thn (h pos pins s σ H _ I hq) fun us s1 ⟨xs, H1, I1, r, z, q⟩ => ⟨by rw [← r.length]; exact z, ?_⟩)
  have hf : H1 s1.heap.objs.size = none := I1.hok.fresh (Nat.le_refl _)
  refine ⟨.ref s1.heap.objs.size, upd H1 s1.heap.objs.size (.lst xs), I1.laid (t' := s1.toks) (fun b u e => Heap.get?_push_of_some _ e) (Nat.le_refl _) ?_, rfl, q _ hf⟩
  exact ⟨z, us, 0, r, Heap.get?_push_size _ rfl⟩
end

/-! ### what a def promises -/
/-- a def's promise: the bound arguments in the parameters' order, the heap, the wanted end, the wanted exception -/
abbrev Sp := List V → Hp → VK → XK → Prop
/-- how an exception lies behind a call (file 08 gives it): the callers' frames, abstract heap and state ahead of the call, the wish, the exception, the state -/
abbrev CXT := List Env → Hp → Shared → XK → Value → Shared → Prop

/-- the state at a call -/
structure Env0 (P : Program) (w : World) (K : PySem.W.Frag) (mg : Str → Option Value) (base : Heap) (A : Around) (outer : List Env) (s : Shared) (H : Hp) : Prop where
  frames : A.frames = some outer
  mod : Mod K mg base
  bs : ∀ b o, base.get? b = some o → s.heap.get? b = some o ∧ H b = none
  bsz : base.objs.size ≤ s.heap.objs.size
  funs : s.heap.FunFrames base outer
  frf : ∀ b ∈ frs outer, H b = none
  hok : HOk P w H s.heap
  bare : AllBare s.gens
/-- a call's end -/
def CE (outer : List Env) (P : Program) (w : World) (H : Hp) (s : Shared) (Q : VK) (u : Value) (s' : Shared) : Prop :=
  ∃ v H', s'.os = s.os ∧ AllBare s'.gens ∧ Un (frs outer) [] H H' s.heap s'.heap ∧ HOk P w H' s'.heap ∧ RelV v u ∧ Q v H'
def CR (CX : CXT) (outer : List Env) (P : Program) (w : World) (H : Hp) (s : Shared) (Q : VK) (E : XK) (r : Result) (s' : Shared) : Prop :=
  match r with
  | .ok (.ret u) => CE outer P w H s Q u s'
  | .ok _ => False
  | .error e => CX outer H s E e s'
structure FnOk (P : Program) (w : World) (K : PySem.W.Frag) (mg : Str → Option Value) (base : Heap) (CX : CXT) (k : Nat) (f : Addr) (fd : FuncData) (ps : List Str) (sp : Sp) : Prop where
  len : ∀ vs H Q E, sp vs H Q E → vs.length = ps.length
  run : ∀ (A : Around) (outer : List Env) (s : Shared) (H : Hp) (args : Args) (us : List Value) (vs : List V) (Q : VK) (E : XK), Room k A → Env0 P w K mg base A outer s H → BindsTo s fd args (ps.zip us) → Vals vs us → sp vs H Q E →
    codeAny (model P w) A (.call (.ref f) args) (CR CX outer P w H s Q E) s
theorem FnOk.mono {P : Program} {w : World} {K : PySem.W.Frag} {mg : Str → Option Value} {base : Heap} {CX : CXT} {j k : Nat} {f : Addr} {fd : FuncData} {ps : List Str} {sp : Sp} (F : FnOk P w K mg base CX j f fd ps sp) (h : j ≤ k) :
    FnOk P w K mg base CX k f fd ps sp := ⟨F.len, fun A outer s H args us vs Q E hr => F.run A outer s H args us vs Q E (hr.mono h)⟩
/-- a weaker promise -/
theorem FnOk.imp {P : Program} {w : World} {K : PySem.W.Frag} {mg : Str → Option Value} {base : Heap} {CX : CXT} {k : Nat} {f : Addr} {fd : FuncData} {ps : List Str} {sp sp' : Sp} (F : FnOk P w K mg base CX k f fd ps sp)
    (h : ∀ vs H Q E, sp' vs H Q E → sp vs H Q E) : FnOk P w K mg base CX k f fd ps sp' :=
  ⟨fun vs H Q E q => F.len vs H Q E (h _ _ _ _ q), fun A outer s H args us vs Q E hr he hb hv hs => F.run A outer s H args us vs Q E hr he hb hv (h _ _ _ _ hs)⟩

theorem Env0.make {P : Program} {w : World} {K : PySem.W.Frag} {mg : Str → Option Value} {base : Heap} {A : Around} {outer : List Env} {s : Shared} {H : Hp} (e : Env0 P w K mg base A outer s H) (C : Addr) (us : List Value) (kw : List (Str × Value)) :
    Env0 P w K mg base (A.under (.builtin "type.__call__" ⟨.ref C :: us, kw⟩)) outer s H := ⟨by first | exact e.frames | (simpa [Around.under, Code.envs, Code.isFrame, pushEnvs] using e.frames), e.mod, e.bs, e.bsz, e.funs, e.frf, e.hok, e.bare⟩
theorem Env0.in1 {P : Program} {w : World} {K : PySem.W.Frag} {mg : Str → Option Value} {base : Heap} {A : Around} {outer : List Env} {s : Shared} {H : Hp} (e : Env0 P w K mg base A outer s H) :
    Env0 P w K mg base A.in1 outer s H := ⟨e.frames, e.mod, e.bs, e.bsz, e.funs, e.frf, e.hok, e.bare⟩

section
variable {X : Cx} {pins : List (Addr × Obj)} {σ : St} {H : Hp} {s s' : Shared}
/-- from a body: what a callee wants -/
theorem Inv.env0 (I : Inv X pins σ H s) : Env0 X.prog X.w X.K X.mg X.base X.A X.stack s H :=
  ⟨I.ok.frames, I.ok.mod, I.bs, Nat.le_trans I.ok.bsz I.sz, I.stack, I.stkFree, I.hok, I.bare⟩
/-- behind a call -/
theorem Inv.after {Q : VK} {u : Value} (I : Inv X pins σ H s) (h : CE X.stack X.prog X.w H s Q u s') : EP X pins σ Q u s' := by
  obtain ⟨v, H', os, bare, un, hok, r, q⟩ := h
  obtain ⟨hh, g, d, t, os'⟩ := s'
  obtain rfl : os' = s.os := os
  exact ⟨v, H', I.call (h' := hh) (g' := g) (d' := d) (t' := t) (ch := []) un hok bare (fun b z => absurd z (by simp)), r, q⟩
end

/-! ### calls -/
/-- f(..): the written arguments, then the defaults dvs; E: what is wanted of an exception -/
def tCall (sp : Sp) (dvs : List V) (E : XK) (t : TA) : TE := fun σ H Q => t σ H fun vs H1 => sp (vs ++ dvs) H1 Q E
/-- o.m(..) of an instance of the class at C -/
def tMeth (C : Addr) (m : Str) (sp : Sp) (dvs : List V) (E : XK) (ta : TE) (t : TA) : TE := fun σ H Q => ta σ H fun x H1 => ∃ a dx fs, x = .ref a ∧ H1 a = some (.ins C dx fs) ∧ fs.lookup m = none ∧
  t σ H1 fun vs H2 => sp (x :: (vs ++ dvs)) H2 Q E
/-- C(..): a new instance and its dict, then __init__ -/
def tMake (C : Addr) (sp : Sp) (dvs : List V) (E : XK) (t : TA) : TE := fun σ H Q => t σ H fun vs H1 => ∀ x dx, H1 x = none → H1 dx = none → dx ≠ x →
  sp (.ref x :: (vs ++ dvs)) (upd (upd H1 dx (.own x)) x (.ins C dx [])) (fun v H2 => v = .non ∧ Q (.ref x) H2) E

/-- how the parameters are bound: us the positional arguments, kw the keywords' values by name, ds the defaults that fill up -/
def Binds (K : PySem.W.Frag) (fd : FuncData) (ps : List Str) (ds : List Value) : Prop :=
  ∀ (s : Shared) (us : List Value), K.In s.heap → (us ++ ds).length = ps.length → BindsTo s fd ⟨us, []⟩ (ps.zip (us ++ ds))
/-- every parameter is given -/
theorem Binds.all {K : PySem.W.Frag} {fd : FuncData} {ps : List Str} (h : ∀ us : List Value, us.length = ps.length → bindArgs fd ⟨us, []⟩ = pure (ps.zip us)) : Binds K fd ps [] := fun s us _ hl => by
  rw [List.append_nil] at hl ⊢
  exact .of_eq (h us hl)

/-- an exception of a callee reaches what this body wants of exceptions -/
def Passes (CX : CXT) (X : Cx) (E : XK) : Prop := ∀ (pins : List (Addr × Obj)) (σ : St) (H : Hp) (s : Shared) (e : Value) (s' : Shared), Inv X pins σ H s → CX X.stack H s E e s' → X.xe e s'

section
variable {X : Cx} {CX : CXT} {k : Nat} {f C : Addr} {fd : FuncData} {ps : List Str} {sp : Sp} {dvs : List V} {ds : List Value} {E : XK} {x m : Str} {p pos apos : Pos} {e o : Expr} {es : List Expr} {ta : TE} {t : TA}

/-- the callee runs -/
theorem run_fn {pins : List (Addr × Obj)} {σ : St} {H : Hp} {s : Shared} {Q : VK} {us : List Value} {vs : List V} (F : FnOk X.prog X.w X.K X.mg X.base CX k f fd ps sp) (hr : Room k X.A) (hb : Binds X.K fd ps ds) (hd : Vals dvs ds) (hx : Passes CX X E)
    (I : Inv X pins σ H s) (r : Vals vs us) (h : sp (vs ++ dvs) H Q E) : wpAny (model X.prog X.w) X.A (call (.ref f) us) (EP X pins σ Q) X.xe s := by
  have r2 : Vals (vs ++ dvs) (us ++ ds) := r.append hd
  have hl : (us ++ ds).length = ps.length := by rw [← r2.length]; exact F.len _ _ _ _ h
  refine wpAny_call (codeAny_mono (F.run X.A X.stack s H ⟨us, []⟩ (us ++ ds) (vs ++ dvs) Q E hr I.env0 (hb s us I.kIn hl) r2 h) fun r s' hq => ?_)
  cases r with
  | error e => exact hx pins σ H s e s' I hq
  | ok fl =>
    cases fl with
    | ret u => exact I.after hq
    | next => exact False.elim hq
    | brk => exact False.elim hq
    | cont => exact False.elim hq

theorem pe_call (F : FnOk X.prog X.w X.K X.mg X.base CX k f fd ps sp) (hr : Room k X.A) (hg : Gl X x) (hm : X.mg x = some (.ref f)) (hk : PySem.W.keepIn X.K (.ref f) = true) (hb : Binds X.K fd ps ds) (hd : Vals dvs ds) (hx : Passes CX X E)
    (ha : PA X (e :: es) t) (hdb : (x == ("__debug__" : Str)) = false := by decide) (he : starEach (e :: es) X.env = (false, eval e X.env) :: starEach es X.env := by rfl) (hpl : (backTo pos (starEach es X.env)).any (·.1) = false := by rfl) :
    PE X (.Call (.Name x p) (e :: es) [] pos) (tCall sp dvs E t) := by
  intro pins s σ H Q I h
  refine wpAny_Call_Name_kw (ld_glob I hg hm ?_ hdb)
  refine PySem.W.callWith_K (h₀ := X.base) I.ok.mod.kin hk (thn (ha pos pins s σ H _ I h) fun us s1 ⟨vs, H1, I1, r, q⟩ => ⟨I1.kIn, ?_⟩) he hpl
  exact run_fn F hr hb hd hx I1 r q
theorem pe_call0 (F : FnOk X.prog X.w X.K X.mg X.base CX k f fd ps sp) (hr : Room k X.A) (hg : Gl X x) (hm : X.mg x = some (.ref f)) (hk : PySem.W.keepIn X.K (.ref f) = true) (hb : Binds X.K fd ps ds) (hd : Vals dvs ds) (hx : Passes CX X E)
    (hdb : (x == ("__debug__" : Str)) = false := by decide) : PE X (.Call (.Name x p) [] [] pos) (tCall sp dvs E tNil) := by
  intro pins s σ H Q I h
  refine wpAny_Call_Name_kw (ld_glob I hg hm ?_ hdb)
  exact PySem.W.callWith_K0 I.kIn hk (run_fn (us := []) F hr hb hd hx I .nil h)

/-- o.m(e, ..) -/
theorem pe_meth {pl : Sem Bool} (he : PE X o ta) (c : Cls X.K C) (hm : Meth X.K C m f) (F : FnOk X.prog X.w X.K X.mg X.base CX k f fd ps sp) (hr : Room k X.A) (hb : Binds X.K fd ps ds) (hd : Vals dvs ds) (hx : Passes CX X E) (ha : PA X (e :: es) t)
    (hst : starEach (e :: es) X.env = (false, eval e X.env) :: starEach es X.env := by rfl) (hpl : (backTo pos (starEach es X.env)).any (·.1) = false := by rfl)
    (ht : eval (.Call (.Attribute o m apos) (e :: es) [] pos) X.env = (do
      let ov ← eval o X.env
      standAt apos.atName
      let (f, first) ← holding [ov] (getMethod ov m pl)
      callWith pos f first (backTo pos (starEach (e :: es) X.env)) (backToKw pos (keywordEach [] X.env))) := by rfl) :
    PE X (.Call (.Attribute o m apos) (e :: es) [] pos) (tMeth C m sp dvs E ta t) := by
  intro pins s σ H Q I h
  refine PySem.W.methodCall_KW (pl := pl) (thn (he pins s σ H _ I h) fun u s1 ⟨x, H1, I1, rx, a, dx, fs, ex, ea, l, q⟩ => ?_) ht
  subst ex
  obtain rfl : u = Value.ref a := rx
  refine getmeth_ok I1 ea c hm l ?_
  refine PySem.W.callWith_K (first := [.ref a]) (h₀ := X.base) I.ok.mod.kin hm.kp (thn (ha pos pins s1 σ H1 _ I1 q) fun us s2 ⟨vs, H2, I2, r, q2⟩ => ⟨I2.kIn, ?_⟩) hst hpl
  exact run_fn (us := .ref a :: us) (vs := .ref a :: vs) F hr hb hd hx I2 (.cons rfl r) q2
/-- o.m() -/
theorem pe_meth0 {pl : Sem Bool} (he : PE X o ta) (c : Cls X.K C) (hm : Meth X.K C m f) (F : FnOk X.prog X.w X.K X.mg X.base CX k f fd ps sp) (hr : Room k X.A) (hb : Binds X.K fd ps ds) (hd : Vals dvs ds) (hx : Passes CX X E)
    (ht : eval (.Call (.Attribute o m apos) [] [] pos) X.env = (do
      let ov ← eval o X.env
      standAt apos.atName
      let (f, first) ← holding [ov] (getMethod ov m pl)
      callWith pos f first (backTo pos (starEach [] X.env)) (backToKw pos (keywordEach [] X.env))) := by rfl) :
    PE X (.Call (.Attribute o m apos) [] [] pos) (tMeth C m sp dvs E ta tNil) := by
  intro pins s σ H Q I h
  refine PySem.W.methodCall_KW (pl := pl) (thn (he pins s σ H _ I h) fun u s1 ⟨x, H1, I1, rx, a, dx, fs, ex, ea, l, q⟩ => ?_) ht
  subst ex
  obtain rfl : u = Value.ref a := rx
  refine getmeth_ok I1 ea c hm l ?_
  exact PySem.W.callWith_K0 (first := [.ref a]) I1.kIn hm.kp (run_fn (us := [.ref a]) (vs := [.ref a]) F hr hb hd hx I1 (.cons rfl .nil) q)

/-- what a class must have to be made -/
structure Mk (K : PySem.W.Frag) (C f : Addr) : Prop where
  makes : PySem.W.makesIn K C = true
  init : PySem.W.findIn K (.ref C) "__init__" = some (some (.ref f))
  fn : PySem.W.isFn K (.ref f) = true
  kp : PySem.W.keepIn K (.ref C) = true

theorem run_make {pins : List (Addr × Obj)} {σ : St} {H : Hp} {s : Shared} {Q : VK} {us : List Value} {vs : List V} (M : Mk X.K C f) (F : FnOk X.prog X.w X.K X.mg X.base CX k f fd ps sp) (hr : Room (k + 1) X.A) (hb : Binds X.K fd ps ds) (hd : Vals dvs ds)
    (hx : Passes CX X E) (I : Inv X pins σ H s) (r : Vals vs us)
    (h : ∀ x dx, H x = none → H dx = none → dx ≠ x → sp (.ref x :: (vs ++ dvs)) (upd (upd H dx (.own x)) x (.ins C dx [])) (fun v H2 => v = .non ∧ Q (.ref x) H2) E) :
    wpAny (model X.prog X.w) X.A (call (.ref C) us) (EP X pins σ Q) X.xe s := by
  have hq := h (s.heap.objs.size + 1) s.heap.objs.size (I.hok.fresh (Nat.le_succ _)) (I.hok.fresh (Nat.le_refl _)) (Nat.ne_of_lt (Nat.lt_succ_self _))
  have I2 := Inv.made (C := C) I
  have r2 : Vals (V.ref (s.heap.objs.size + 1) :: (vs ++ dvs)) (Value.ref (s.heap.objs.size + 1) :: (us ++ ds)) := .cons rfl (r.append hd)
  have hl : (Value.ref (s.heap.objs.size + 1) :: us ++ ds).length = ps.length := by
    have e := r2.length
    rw [F.len _ _ _ _ hq] at e
    exact e.symm
  refine wpAny_call (make_map (f := f) I.kIn M.makes M.init (beq_iff_eq.mp M.fn) (codeAny_mono (F.run _ X.stack _ _ ⟨Value.ref (s.heap.objs.size + 1) :: us, []⟩ (Value.ref (s.heap.objs.size + 1) :: (us ++ ds)) _ _ E (hr.make C us [])
    (I2.env0.make C us []) (hb _ (Value.ref (s.heap.objs.size + 1) :: us) I2.kIn hl) r2 hq) fun r s' hq' => ?_))
  cases r with
  | error e => exact hx pins σ _ _ e s' I2 hq'
  | ok fl =>
    cases fl with
    | ret u =>
      obtain ⟨v, H', I3, rv, ev, q3⟩ := I2.after hq'
      subst ev
      exact ⟨rv, ⟨V.ref (s.heap.objs.size + 1), H', I3, rfl, q3⟩⟩
    | next => exact False.elim hq'
    | brk => exact False.elim hq'
    | cont => exact False.elim hq'
theorem pe_make (M : Mk X.K C f) (F : FnOk X.prog X.w X.K X.mg X.base CX k f fd ps sp) (hr : Room (k + 1) X.A) (hg : Gl X x) (hm : X.mg x = some (.ref C)) (hb : Binds X.K fd ps ds) (hd : Vals dvs ds) (hx : Passes CX X E)
    (ha : PA X (e :: es) t) (hdb : (x == ("__debug__" : Str)) = false := by decide) (he : starEach (e :: es) X.env = (false, eval e X.env) :: starEach es X.env := by rfl) (hpl : (backTo pos (starEach es X.env)).any (·.1) = false := by rfl) :
    PE X (.Call (.Name x p) (e :: es) [] pos) (tMake C sp dvs E t) := by
  intro pins s σ H Q I h
  refine wpAny_Call_Name_kw (ld_glob I hg hm ?_ hdb)
  refine PySem.W.callWith_K (h₀ := X.base) I.ok.mod.kin M.kp (thn (ha pos pins s σ H _ I h) fun us s1 ⟨vs, H1, I1, r, q⟩ => ⟨I1.kIn, ?_⟩) he hpl
  exact run_make M F hr hb hd hx I1 r q
end

/-! ### keywords -/
section
variable {X : Cx} {CX : CXT} {k : Nat} {f C : Addr} {fd : FuncData} {ps ks : List Str} {sp : Sp} {E : XK} {x m : Str} {p pos apos kpos : Pos} {e o : Expr} {es : List Expr} {kws : List Keyword} {te ta : TE} {t tk : TA} {nm : Option Str}
/-- how a call with keywords binds: g puts the positional values us and the keywords' values ws (names ks) in the parameters' order, defaults among them -/
structure KBinds (K : PySem.W.Frag) (fd : FuncData) (ps ks : List Str) (g : List Value → List Value → List Value) (gV : List V → List V → List V) : Prop where
  to : ∀ (s : Shared) (us ws : List Value), K.In s.heap → (g us ws).length = ps.length → BindsTo s fd ⟨us, ks.zip ws⟩ (ps.zip (g us ws))
  rel : ∀ {vs : List V} {us : List Value} {zs : List V} {ws : List Value}, Vals vs us → Vals zs ws → Vals (gV vs zs) (g us ws)
variable {g : List Value → List Value → List Value} {gV : List V → List V → List V}
end

/-! ### a def's body keeps its promise -/
/-- names: the parameters first -/
structure FnScope (N P : List Str) (sc : Scope) : Prop where
  kind : sc.kind = .function
  co : sc.isCoroutine = false
  gen : sc.isGenerator = false
  nd : N.Nodup
  pre : N.take P.length = P
  par : ∀ x ∈ P, sc.names.lookup x = some .local ∨ sc.names.lookup x = some .cell
  nofree : ∀ y ∈ sc.names, y.2 ≠ .free

theorem bindL_out {kindOf : Str → Option NameKind} {x : Str} : ∀ {binds : List (Str × Value)} {m : Str → Option Value}, (∀ v, (x, v) ∉ binds) → bindL kindOf binds m x = m x
  | [], _, _ => rfl
  | (n, v) :: r, m, h => by
    unfold bindL
    rw [bindL_out fun w hw => h w (List.mem_cons_of_mem _ hw)]
    split
    · have : x ≠ n := by rintro rfl; exact h v List.mem_cons_self
      simp [this]
    · rfl
theorem bindC_out {kindOf : Str → Option NameKind} {x : Str} : ∀ {binds : List (Str × Value)} {m : Str → Option Value}, (∀ v, (x, v) ∉ binds) → bindC kindOf binds m x = m x
  | [], _, _ => rfl
  | (n, v) :: r, m, h => by
    unfold bindC
    rw [bindC_out fun w hw => h w (List.mem_cons_of_mem _ hw)]
    split
    · rfl
    · have : x ≠ n := by rintro rfl; exact h v List.mem_cons_self
      simp [this]
theorem bindL_get {kindOf : Str → Option NameKind} {x : Str} {v : Value} : ∀ {P : List Str} {vs : List Value} {i : Nat} {m : Str → Option Value}, P.Nodup → P[i]? = some x → vs[i]? = some v → kindOf x = some .local →
    bindL kindOf (P.zip vs) m x = some v
  | [], _, _, _, _, h, _, _ => by simp at h
  | _ :: _, [], _, _, _, _, h, _ => by simp at h
  | p :: P, w :: vs, 0, m, nd, h1, h2, hk => by
    simp at h1 h2; subst h1; subst h2
    show bindL kindOf ((p, w) :: P.zip vs) m p = _
    unfold bindL
    rw [bindL_out fun v hv => (List.nodup_cons.mp nd).1 (List.of_mem_zip hv).1, if_pos hk]
    simp
  | p :: P, w :: vs, i + 1, m, nd, h1, h2, hk => by
    show bindL kindOf ((p, w) :: P.zip vs) m x = _
    unfold bindL
    exact bindL_get (i := i) (List.nodup_cons.mp nd).2 (by simpa using h1) (by simpa using h2) hk
theorem bindC_get {kindOf : Str → Option NameKind} {x : Str} {v : Value} : ∀ {P : List Str} {vs : List Value} {i : Nat} {m : Str → Option Value}, P.Nodup → P[i]? = some x → vs[i]? = some v → kindOf x ≠ some .local →
    bindC kindOf (P.zip vs) m x = some v
  | [], _, _, _, _, h, _, _ => by simp at h
  | _ :: _, [], _, _, _, _, h, _ => by simp at h
  | p :: P, w :: vs, 0, m, nd, h1, h2, hk => by
    simp at h1 h2; subst h1; subst h2
    show bindC kindOf ((p, w) :: P.zip vs) m p = _
    unfold bindC
    rw [bindC_out fun v hv => (List.nodup_cons.mp nd).1 (List.of_mem_zip hv).1, if_neg hk]
    simp
  | p :: P, w :: vs, i + 1, m, nd, h1, h2, hk => by
    show bindC kindOf ((p, w) :: P.zip vs) m x = _
    unfold bindC
    exact bindC_get (i := i) (List.nodup_cons.mp nd).2 (by simpa using h1) (by simpa using h2) hk

/-- the names' values at the entry -/
def start (N : List Str) (vs : List V) : St := vs.map some ++ List.replicate (N.length - vs.length) none

/-- the context of a def's body, at its entry; an exception leaves the frame, then lies as CX says -/
def cxOf (CX : CXT) (P : Program) (w : World) (K : PySem.W.Frag) (mg : Str → Option Value) (base : Heap) (N : List Str) (qual : Str) (scope : Scope) (f : Addr) (cd : Value) (A : Around) (outer : List Env) (s : Shared) (H : Hp) (E : XK) : Cx where
  prog := P
  w := w
  K := K
  mg := mg
  base := base
  A := A.deeper (envOfC qual scope s.heap.objs.size f cd)
  N := N
  s₀ := s
  H₀ := H
  env := envOfC qual scope s.heap.objs.size f cd
  outer := outer
  stack := envOfC qual scope s.heap.objs.size f cd :: outer
  ex := []
  calm := true
  fn := fun _ => true
  pn := []
  xe := fun e s' => wpAny (model P w) (A.deeper (envOfC qual scope s.heap.objs.size f cd)) (leaving (envOfC qual scope s.heap.objs.size f cd) e) (fun _ s'' => CX outer H s E e s'') (fun e' s'' => CX outer H s E e' s'') s'

theorem cell_has {sc : Scope} {n : Nat} {x : Str} (h : sc.names.lookup x = some .cell) : ∃ c, (cellsFrom n sc.names []).lookup x = some c := by
  have q := PySem.W.cellsFrom_some sc.names n [] (.inl h)
  exact Option.isSome_iff_exists.mp q

theorem inv_start {CX : CXT} {P : Program} {w : World} {K : PySem.W.Frag} {mg : Str → Option Value} {base : Heap} {N ps : List Str} {qual : Str} {scope : Scope} {f : Addr} {cd : Value} {A : Around} {outer : List Env} {s s1 : Shared} {H : Hp} {E : XK} {us : List Value} {vs : List V}
    (S : FnScope N ps scope) (hd : A.handled = none) (e0 : Env0 P w K mg base A outer s H) (hl : vs.length = ps.length) (r : Vals vs us)
    (x : InCallC s s.heap.objs.size (bindL (envOfC qual scope s.heap.objs.size f cd).kindOf (ps.zip us) fun _ => none) (cellsFrom (s.heap.objs.size + 1) scope.names []) (bindC (envOfC qual scope s.heap.objs.size f cd).kindOf (ps.zip us) fun _ => none) s1) :
    Inv (cxOf CX P w K mg base N qual scope f cd A outer s H E) [] (start N vs) H s1 := by
  have hpl : ps.length ≤ N.length := by have := congrArg List.length S.pre; rw [List.length_take] at this; omega
  obtain ⟨h1, tk, rfl, hk⟩ := x.done
  have noA : ∀ b : Addr, b ∉ (cxOf CX P w K mg base N qual scope f cd A outer s H E).ex := fun b z => absurd (show b ∈ ([] : List Addr) from z) (by simp)
  refine ⟨⟨e0.mod, S.kind, rfl, rfl, Nat.le_refl _, fun y z c h1 h2 => ?_, fun y hy => ?_, fun y c _ h => ?_, fun _ => hd, Around.frames_deeper e0.frames, .inr ⟨rfl, rfl⟩, fun b z => absurd z (noA b), e0.bs, e0.bsz, fun b _ _ => noA b, fun b z => absurd z (noA b), e0.funs, e0.frf⟩,
    rfl, e0.bare, Un.kept hk, ⟨_, x.toInCall.ns, fun i y v h1 h2 h3 => ?_⟩, fun y c h => ⟨_, x.cell y c h⟩, e0.hok.fresh (Nat.le_refl _), fun y c h => ?_, fun p hp => absurd (show p ∈ ([] : List (Addr × Obj)) from hp) (by simp), e0.hok.kept hk, ?_⟩
  · exact name_of_addr x.apart (PySem.mem_of_lookup h1) (PySem.mem_of_lookup h2)
  · have hy : scope.names.lookup y = some .cell ∨ scope.names.lookup y = some .free := hy
    rcases hy with hy | hy
    · exact cell_has hy
    · exact absurd rfl (S.nofree _ (PySem.mem_of_lookup hy))
  · exact Nat.le_of_lt (x.above y c (PySem.mem_of_lookup h))
  · have hi : i < vs.length := by
      unfold start at h2
      by_cases hi : i < vs.length
      · exact hi
      · rw [List.getElem?_append_right (by simpa using hi)] at h2
        rw [List.getElem?_replicate] at h2
        split at h2 <;> cases h2
    have ha : vs[i]? = some v := by
      unfold start at h2
      rw [List.getElem?_append_left (by simpa using hi), List.getElem?_map] at h2
      cases e : vs[i]? with
      | none => rw [e] at h2; cases h2
      | some a => rw [e] at h2; cases h2; rfl
    obtain ⟨u, hu, rv⟩ := r.get ha
    have hp : ps[i]? = some y := by
      rw [← S.pre, List.getElem?_take_of_lt (by omega)]; exact h1
    have ndP : ps.Nodup := by rw [← S.pre]; exact S.nd.sublist (List.take_sublist _ _)
    refine ⟨u, rv, ?_⟩
    rcases S.par y (List.mem_of_getElem? hp) with k | k
    · exact .inl ⟨k, bindL_get ndP hp hu k⟩
    · obtain ⟨c, e⟩ := cell_has (n := s.heap.objs.size + 1) k
      refine .inr ⟨.inl k, c, e, ?_⟩
      have q := x.cell y c e
      rw [bindC_get ndP hp hu (by show scope.names.lookup y ≠ _; rw [k]; decide)] at q
      exact q
  · exact e0.hok.fresh (Nat.le_of_lt (x.above y c (PySem.mem_of_lookup h)))
  · unfold start
    show _ = N.length
    rw [List.length_append, List.length_map, List.length_replicate]
    omega

/-- THE RULE: a def (or a method) of the text, by its body. The body's reading t is chosen for each entry; it is run at the parameters' values -/
theorem fn_of {CX : CXT} {P : Program} {w : World} {K : PySem.W.Frag} {mg : Str → Option Value} {base : Heap} {k : Nat} {f : Addr} {name qual : Str} {params : Arguments} {body : List Stmt} {scope : Scope} {dV kV doc pm cdv ct oc : Value} {an od : Option Addr}
    {osl : Array (Option Value)} {N ps : List Str} {sp : Sp} (lk : K.lookup f = some ⟨oc, od, .func (PySem.W.fnOf name qual params body scope dV kV doc pm an cdv ct), osl⟩) (hcd : PySem.W.codeIn K cdv qual = true) (S : FnScope N ps scope)
    (len : ∀ vs H Q E, sp vs H Q E → vs.length = ps.length)
    (hbody : ∀ (A : Around) (outer : List Env) (s : Shared) (H : Hp) (vs : List V) (Q : VK) (E : XK), Room k (A.deeper (envOfC qual scope s.heap.objs.size f cdv)) → sp vs H Q E →
      ∃ t, PSs (cxOf CX P w K mg base N qual scope f cdv A outer s H E) body t ∧ t { nx := fun _ H' => Q .non H', rt := Q } (start N vs) H) :
    FnOk P w K mg base CX (k + 1) f (PySem.W.fnOf name qual params body scope dV kV doc pm an cdv ct) ps sp := by
  refine ⟨len, fun A outer s H args us vs Q E hr e0 hb r hsp => ?_⟩
  have hl := len _ _ _ _ hsp
  have KX : K.In s.heap := e0.mod.kin.keeps fun b o e => (e0.bs b o e).1
  have lim : s.heap.NoLimit := e0.mod.nolimit.keeps fun b o e => (e0.bs b o e).1
  have hkind : ∀ y ∈ ps.zip us, scope.names.lookup y.1 = some .local ∨ (scope.names.lookup y.1 = some .cell ∧ ((cellsFrom (s.heap.objs.size + 1) scope.names []).lookup y.1).isSome = true) := fun ⟨n, v⟩ hy => by
    rcases S.par n (List.of_mem_zip hy).1 with q | q
    · exact .inl q
    · exact .inr ⟨q, PySem.W.cellsFrom_some _ _ _ (.inl q)⟩
  refine codeAny_call_function hr.depth (KX _ _ lk) rfl S.co S.gen rfl (PySem.W.codeRec_of KX hcd) (hb _ _ _ _ ?_)
  refine wpAny_newFunctionEnv_cells S.kind hkind fun env he s1 x => ?_
  subst he
  refine ⟨lim.keeps x.toInCall.keep, codeAny_func ?_⟩
  obtain ⟨t, ht, hq⟩ := hbody A outer s H vs Q E (hr.deeper _) hsp
  have I : Inv (cxOf CX P w K mg base N qual scope f cdv A outer s H E) [] (start N vs) H s1 := inv_start S hr.hd e0 hl r x
  refine wpAny_mono (ht [] s1 (start N vs) H _ I hq) (fun fl s' hs => ?_) fun e s' hs => hs
  have fin : ∀ {σ' : St} {H' : Hp} {v : V} {u : Value}, Inv (cxOf CX P w K mg base N qual scope f cdv A outer s H E) [] σ' H' s' → RelV v u → Q v H' → CE outer P w H s Q u s' :=
    fun {σ' H' v u} J rv q => ⟨v, H', J.os, J.bare, J.base, J.hok, rv, q⟩
  cases fl with
  | ret u =>
    obtain ⟨v, σ', H', J, rv, q⟩ := hs
    exact fin J rv q
  | next =>
    obtain ⟨σ', H', J, q⟩ := hs
    exact fin (v := V.non) (u := Value.none) J rfl q
  | brk =>
    obtain ⟨_, _, _, q⟩ := hs
    exact False.elim q
  | cont =>
    obtain ⟨_, _, _, q⟩ := hs
    exact False.elim q
end L2

namespace L2
open PySem PySem.Spec PyProof.Rows
section
variable {X : Cx} {x : Str} {p pos : Pos} {e : Expr} {es : List Expr} {t : TA} {id T : String} {r : List V → Hp → VK → Prop}

def tCB (r : List V → Hp → VK → Prop) (t : TA) : TE := fun σ H Q => t σ H fun vs H1 => r vs H1 Q
/-- f(e, ..), f a built-in function -/
theorem pe_callB (hc : CallR X (.builtin id) r) (hg : Gl X x) (hm : X.mg x = none) (hv : bootBuiltins x = some (.builtin id)) (ha : PA X (e :: es) t) (hn : x ≠ "__name__" := by decide) (hdb : (x == ("__debug__" : Str)) = false := by decide)
    (he : starEach (e :: es) X.env = (false, eval e X.env) :: starEach es X.env := by rfl) (hpl : (backTo pos (starEach es X.env)).any (·.1) = false := by rfl) : PE X (.Call (.Name x p) (e :: es) [] pos) (tCB r t) := by
  intro pins s σ H Q I h
  refine wpAny_Call_Name_kw (ld_blt I hg hm hv ?_ hn hdb)
  exact PyProof.Rows.callWith_builtin1 (thn (ha pos pins s σ H _ I h) fun us s1 ⟨vs, H1, I1, r1, q1⟩ => hc pins s1 σ H1 vs us Q I1 r1 q1) he hpl
/-- T(e, ..), T a built-in type -/
theorem pe_callTy (hc : CallR X (.type T) r) (hg : Gl X x) (hm : X.mg x = none) (hv : bootBuiltins x = some (.type T)) (ha : PA X (e :: es) t) (hn : x ≠ "__name__" := by decide) (hdb : (x == ("__debug__" : Str)) = false := by decide)
    (he : starEach (e :: es) X.env = (false, eval e X.env) :: starEach es X.env := by rfl) (hpl : (backTo pos (starEach es X.env)).any (·.1) = false := by rfl) : PE X (.Call (.Name x p) (e :: es) [] pos) (tCB r t) := by
  intro pins s σ H Q I h
  refine wpAny_Call_Name_kw (ld_blt I hg hm hv ?_ hn hdb)
  exact PyProof.Rows.callWith_type1 (thn (ha pos pins s σ H _ I h) fun us s1 ⟨vs, H1, I1, r1, q1⟩ => hc pins s1 σ H1 vs us Q I1 r1 q1) he hpl
end
end L2

namespace HT
open PySem PyProof.Rows

section
open PySem.SeqAt
open PySem.AutoSeq1 (wpAny_loadPart')
open PySem.MeetsSeq PySem.MeetsSeq2 PySem.MeetsSeq3

end

section
variable {prog : Program} {w : World} {A : Around} {E : Value → Shared → Prop} {s : Shared}

/-- t + u, t not empty -/
theorem cat_tup {t b : Addr} {vs ws : List Value} {Q : Value → Shared → Prop} (ht : IsTup s.heap t vs.toArray) (hb : IsTup s.heap b ws.toArray) (hv : vs ≠ [])
    (h1 : ws = [] → Q (.ref t) s) (h2 : ws ≠ [] → Q (.ref s.heap.objs.size) { s with heap := s.heap.push { cls := .type "tuple", data := .seq (vs ++ ws).toArray } })
    (hsz : vs.length + ws.length ≤ sizeLine) : wpAny (model prog w) A (binaryOp .Add (.ref t) (.ref b)) Q E s := by
  obtain ⟨⟨cls, dd, data, sl⟩, ho, hc, n, hd⟩ := id ht
  obtain ⟨⟨cls2, dd2, data2, sl2⟩, ho2, hc2, n2, hd2⟩ := id hb
  simp only at hc hd hc2 hd2
  subst hc hd hc2 hd2
  have e : vs.toArray ++ ws.toArray = (vs ++ ws).toArray := by simp
  by_cases hw : ws = []
  · exact concat_meets ⟨_, ho, rfl⟩ ⟨_, ho2, rfl⟩ noFill_tuple_add seq_tuple_add PySem.F.slot_tuple_add PySem.F.entry_tuple_add (PySem.F.args_tuple_add_2 _ _)
      (tuple_addW1 t b vs.toArray ws.toArray n n2 dd dd2 sl sl2 (by simpa using hv) (by simp [hw])) ⟨ho, ho2, h1 hw⟩
  · refine concat_meets ⟨_, ho, rfl⟩ ⟨_, ho2, rfl⟩ noFill_tuple_add seq_tuple_add PySem.F.slot_tuple_add PySem.F.entry_tuple_add (PySem.F.args_tuple_add_2 _ _)
      (tuple_addW2 t b vs.toArray ws.toArray n n2 dd dd2 sl sl2 (by simpa using hv) (by simpa using hw) (by rw [List.size_toArray, List.size_toArray]; exact hsz)) ⟨ho, ho2, ?_⟩
    rw [e]
    exact h2 hw

/-! ### t[a:b], not the whole -/
/-- a slice's bound as a place among n (d where it is left out) -/
def sIx (n d : Nat) : Option Int → Nat
  | none => d
  | some v => if v < 0 then (v + (n : Int)).toNat else min v.toNat n
theorem sIx_nat (n d k : Nat) : sIx n d (some (k : Int)) = min k n := by
  show (if (k : Int) < 0 then ((k : Int) + (n : Int)).toNat else min (k : Int).toNat n) = min k n
  rw [if_neg (by omega), Int.toNat_natCast]
theorem sIx_le (n d : Nat) (hd : d ≤ n) (o : Option Int) : sIx n d o ≤ n := by
  cases o with
  | none => exact hd
  | some v =>
    show (if v < 0 then (v + (n : Int)).toNat else min v.toNat n) ≤ n
    by_cases hv : v < 0
    · rw [if_pos hv]; omega
    · rw [if_neg hv]; exact Nat.min_le_right _ _
theorem clip_eq (v : Int) (n d : Nat) : (if v < 0 then max (v + (n : Int)) 0 else min v (n : Int)) = ((sIx n d (some v) : Nat) : Int) := by
  show (if v < 0 then max (v + (n : Int)) 0 else min v (n : Int)) = (((if v < 0 then (v + (n : Int)).toNat else min v.toNat n) : Nat) : Int)
  by_cases hv : v < 0
  · simp only [if_pos hv]; omega
  · simp only [if_neg hv]; omega
theorem adjust_gen (lo hi : Option Int) (n : Nat) : Builtin.Slice.sliceAdjust lo hi 1 (n : Int) = (((sIx n 0 lo : Nat) : Int), ((sIx n n hi : Nat) : Int)) := by
  have h1 : ¬ ((1 : Int) < 0) := by omega
  unfold Builtin.Slice.sliceAdjust
  simp only [h1, if_false]
  refine Prod.ext ?_ ?_
  · cases lo with
    | none => rfl
    | some v => exact clip_eq v n 0
  · cases hi with
    | none => rfl
    | some v => exact clip_eq v n n
theorem places_gen (i j : Nat) : Builtin.Slice.slicePlaces (i : Int) (j : Int) 1 = j - i := by
  unfold Builtin.Slice.slicePlaces
  have h1 : (1 : Int) > 0 := by omega
  simp only [h1, if_true, Int.ediv_one]
  split <;> omega
theorem slicePart_ {v : Value} {o : Option Int} {Q : Option Int → Shared → Prop} (p : IsPart v o) (h : Q o s) : wpAny (model prog w) A (Builtin.Slice.slicePartIndex v) Q E s := by
  cases p with
  | none => exact slicePart_none h
  | int i t => exact slicePart_int h
theorem sliceApplied_gen {sl : Addr} {vl vu : Value} {lo hi : Option Int} {n : Nat} {Q : Int × Int × Nat → Shared → Prop} (hs : s.heap.IsSliceOf sl vl vu .none) (pl : IsPart vl lo) (pu : IsPart vu hi)
    (h : Q (((sIx n 0 lo : Nat) : Int), 1, sIx n n hi - sIx n 0 lo) s) : wpAny (model prog w) A (Builtin.Slice.sliceApplied (.ref sl) (pure (n : Int))) Q E s := by
  obtain ⟨os, hos, hcs, hds⟩ := id hs
  unfold Builtin.Slice.sliceApplied Builtin.Slice.sliceFields
  refine wpAny_bind (wpAny_bind (wpAny_field hos hds (x := vl) rfl (wpAny_bind (wpAny_field hos hds (x := vu) rfl (wpAny_bind (wpAny_field hos hds (x := .none) rfl (wpAny_pure ?_)))))))
  refine wpAny_bind (slicePart_none ?_)
  show wpAny _ _ (if ((1 : Int) == 0) = true then _ else _) _ _ s
  rw [if_neg (by decide)]
  refine wpAny_bind (slicePart_ pl (wpAny_bind (slicePart_ pu (wpAny_bind (wpAny_pure ?_)))))
  show wpAny _ _ (match Builtin.Slice.sliceAdjust lo hi 1 (n : Int) with | (lo, hi) => pure (lo, (1 : Int), Builtin.Slice.slicePlaces lo hi 1)) _ _ s
  rw [adjust_gen lo hi n]
  show wpAny _ _ (pure (((sIx n 0 lo : Nat) : Int), (1 : Int), Builtin.Slice.slicePlaces ((sIx n 0 lo : Nat) : Int) ((sIx n n hi : Nat) : Int) 1)) _ _ s
  rw [places_gen]
  exact wpAny_pure h
theorem pick_gen (xs : Array Value) (i k : Nat) : ((List.range k).filterMap fun (m : Nat) => xs[((i : Int) + (m : Int) * 1).toNat]?).toArray = ((xs.toList.drop i).take k).toArray := by
  have e : (fun (m : Nat) => xs[((i : Int) + (m : Int) * 1).toNat]?) = fun m => xs[i + m]? := by
    funext m
    have : ((i : Int) + (m : Int) * 1).toNat = i + m := by omega
    rw [this]
  rw [e]
  have := pick_run xs i k
  rw [List.filterMap_map] at this
  have e2 : ((fun x => xs[x]?) ∘ fun x => i + x) = fun m => xs[i + m]? := rfl
  rw [e2] at this
  rw [this]

theorem getItem_tuple_cut {t sl : Addr} {items : Array Value} {vl vu : Value} {lo hi : Option Int} {Q : Value → Shared → Prop} (ht : IsTup s.heap t items) (hs : s.heap.IsSliceOf sl vl vu .none) (pl : IsPart vl lo) (pu : IsPart vu hi)
    (hw : ¬ (sIx items.size 0 lo = 0 ∧ sIx items.size items.size hi = items.size))
    (h : Q (.ref s.heap.objs.size) { s with heap := s.heap.push { cls := .type "tuple", data := .seq ((items.toList.drop (sIx items.size 0 lo)).take (sIx items.size items.size hi - sIx items.size 0 lo)).toArray } })
    (hsz : items.size ≤ sizeLine) : wpAny (model prog w) A (getItem (.ref t) (.ref sl)) Q E s := by
  have htake : sizeOk (.seq ((items.toList.drop (sIx items.size 0 lo)).take (sIx items.size items.size hi - sIx items.size 0 lo)).toArray) := by
    show ((items.toList.drop (sIx items.size 0 lo)).take (sIx items.size items.size hi - sIx items.size 0 lo)).toArray.size ≤ sizeLine
    rw [List.size_toArray, List.length_take, List.length_drop, Array.length_toList]
    omega
  have hj : sIx items.size items.size hi ≤ items.size := sIx_le _ _ (Nat.le_refl _) hi
  obtain ⟨os, hos, hcs, hds⟩ := id hs
  have hTs : s.TypeIs (.ref sl) "slice" := ⟨os, hos, hcs⟩
  unfold getItem
  try with_reducible refine wpAny_holding ?_
  first | refine wpAny_bind (wpAny_pure ?_) | skip
  refine wpAny_bind (wpAny_sequenceKey ht.typeIs (by decide) ?_)
  refine wpAny_bind (wpAny_callSpecial?_slot (name := Str.ofString "__getitem__") ht.typeIs PyProof.Rows.slot_tuple_getitem
    (wpAny_call_entry PyProof.Rows.slot_tuple_getitem ht.typeIs entry_tuple_getitem ?_ (args_tuple_getitem _ _)))
  show wpAny _ _ (Builtin.Tuple.tupleItemsOf (.ref t) >>= _) _ _ s
  refine wpAny_bind (tupleItemsOf_ ht ?_)
  refine wpAny_bind (wpAny_typeOf hTs ?_)
  rw [if_pos (by decide)]
  refine wpAny_bind (sliceApplied_gen hs pl pu ?_)
  have hno : ¬ ((((sIx items.size 0 lo : Nat) : Int) == 0 && (1 : Int) == 1 && (sIx items.size items.size hi - sIx items.size 0 lo) == items.size) = true) := by
    intro q
    rw [Bool.and_eq_true, Bool.and_eq_true] at q
    have q1 : ((sIx items.size 0 lo : Nat) : Int) = 0 := eq_of_beq q.1.1
    have q2 : sIx items.size items.size hi - sIx items.size 0 lo = items.size := eq_of_beq q.2
    exact hw ⟨by omega, by omega⟩
  show wpAny _ _ (if (((sIx items.size 0 lo : Nat) : Int) == 0 && (1 : Int) == 1 && (sIx items.size items.size hi - sIx items.size 0 lo) == items.size) = true then _ else _) _ _ s
  rw [if_neg hno, pick_gen]
  first
    | exact wpAny_bind (m := Builtin.Tuple.tupleExact _) (wpAny_newObj_type (wpAny_pure ⟨_, rfl, wpAny_pure h⟩) htake)
    | exact wpAny_bind (m := Builtin.Tuple.tupleExact _) (wpAny_newObj_type (wpAny_bind (wpAny_pure (wpAny_pure ⟨_, rfl, wpAny_pure h⟩))) htake)
    | exact wpAny_bind (wpAny_bind (m := Builtin.Tuple.tupleExact _) (wpAny_newObj_type (wpAny_pure (wpAny_pure ⟨_, rfl, wpAny_pure h⟩)) htake))
    | exact wpAny_bind (wpAny_bind (m := Builtin.Tuple.tupleExact _) (wpAny_newObj_type (wpAny_pure ⟨_, rfl, wpAny_pure h⟩) htake))
end
end HT

namespace L2
open PySem PySem.Spec PyProof.Rows

/-! ### the parts of a slice -/
abbrev TO := St → Hp → (Option Int → Hp → Prop) → Prop
/-- a slice's part (left out, or an int) -/
def PO (X : Cx) (e : Option Expr) (t : TO) : Prop :=
  ∀ (pins : List (Addr × Obj)) (s : Shared) (σ : St) (H : Hp) (Q : Option Int → Hp → Prop), Inv X pins σ H s → t σ H Q →
    wpAny (model X.prog X.w) X.A (evalPart e X.env) (fun u s' => ∃ o H', Inv X pins σ H' s' ∧ IsPart u o ∧ Q o H') X.xe s
def tNoPart : TO := fun _ H Q => Q none H
def tPart (t : TE) : TO := fun σ H Q => t σ H fun x H1 => ∃ i, x = .int i ∧ Q (some i) H1

section
variable {X : Cx} {e : Expr} {te : TE} {lo hi : Option Expr} {tl th : TO} {pos p2 : Pos}

theorem po_none : PO X none tNoPart := by
  intro pins s σ H Q I h
  rw [evalPart_none]
  exact wpAny_pure ⟨none, H, I, .none, h⟩
theorem po_some (h : PE X e te) : PO X (some e) (tPart te) := by
  intro pins s σ H Q I hw
  rw [evalPart_some]
  refine thn (h pins s σ H _ I hw) fun u s1 ⟨x, H1, I1, r1, q1⟩ => ?_
  obtain ⟨i, rfl, q⟩ := q1
  obtain ⟨t, rfl⟩ := r1
  exact ⟨some i, H1, I1, .int i t, q⟩

/-- what a slice of a value is, by values: the slice object stands at sl -/
def SlR (X : Cx) (r : V → Option Int → Option Int → Hp → VK → Prop) : Prop :=
  ∀ (pins : List (Addr × Obj)) (s : Shared) (σ : St) (H : Hp) (x : V) (v vl vu : Value) (lo hi : Option Int) (sl : Addr) (Q : VK), Inv X pins σ H s → RelV x v → s.heap.IsSliceOf sl vl vu .none → IsPart vl lo → IsPart vu hi → r x lo hi H Q →
    ∃ T id, typeLookup (.type T) "__getitem__" = pure (some (.builtin id)) ∧ s.TypeIs v T ∧ wpAny (model X.prog X.w) X.A (getItem v (.ref sl)) (EP X pins σ Q) X.xe s
theorem SlR.or {r r' : V → Option Int → Option Int → Hp → VK → Prop} (h : SlR X r) (h' : SlR X r') : SlR X (fun x lo hi H Q => r x lo hi H Q ∨ r' x lo hi H Q) := by
  intro pins s σ H x v vl vu lo hi sl Q I rx hs pl pu q
  rcases q with q | q
  · exact h pins s σ H x v vl vu lo hi sl Q I rx hs pl pu q
  · exact h' pins s σ H x v vl vu lo hi sl Q I rx hs pl pu q
def tSl (r : V → Option Int → Option Int → Hp → VK → Prop) (te : TE) (tl th : TO) : TE := fun σ H Q => te σ H fun x H1 => tl σ H1 fun l H2 => th σ H2 fun u H3 => r x l u H3 Q
/-- a[lo:hi], any a -/
theorem pe_slice {r : V → Option Int → Option Int → Hp → VK → Prop} (hr : SlR X r) (he : PE X e te) (hl : PO X lo tl) (hu : PO X hi th) : PE X (.Subscript e (.Slice lo hi none p2) pos) (tSl r te tl th) := by
  intro pins s σ H Q I h
  refine Subscript_ (thn (he pins s σ H _ I h) fun v s1 ⟨x, H1, I1, r1, q1⟩ => ?_)
  refine wpAny_Slice (thn (hl pins s1 σ H1 _ I1 q1) fun vl s2 ⟨l, H2, I2, pl, q2⟩ => thn (hu pins s2 σ H2 _ I2 q2) fun vu s3 ⟨u, H3, I3, pu, q3⟩ => ?_)
  rw [evalPart_none]
  refine wpAny_pure ?_
  have I4 : Inv X pins σ H3 { s3 with heap := s3.heap.push { cls := .type "slice", data := .fields #[vl, vu, .none] } } := I3.kept (t' := s3.toks) fun b ob q => Heap.get?_push_of_some _ q
  obtain ⟨T, id, hT, ht, hg⟩ := hr pins { s3 with heap := s3.heap.push { cls := .type "slice", data := .fields #[vl, vu, .none] } } σ H3 x v vl vu l u s3.heap.objs.size Q I4 r1 (Heap.IsSliceOf.new ..) pl pu q3
  show wpAny (model X.prog X.w) X.A (subscriptTail e (.Slice lo hi none p2) v (.ref s3.heap.objs.size)) (EP X pins σ Q) X.xe { s3 with heap := s3.heap.push { cls := .type "slice", data := .fields #[vl, vu, .none] } }
  exact tail_any (ops := [.ref s3.heap.objs.size, v]) ht hT hg (by with_unfolding_all rfl)

/-- the items of xs[lo:hi] -/
def cutV (xs : List V) (lo hi : Option Int) : List V := (xs.drop (HT.sIx xs.length 0 lo)).take (HT.sIx xs.length xs.length hi - HT.sIx xs.length 0 lo)
theorem cutV_length (xs : List V) (lo hi : Option Int) : (cutV xs lo hi).length ≤ xs.length := by
  unfold cutV
  rw [List.length_take, List.length_drop]
  omega
/-- t[lo:hi], not the whole of it (the whole would be t itself) -/
def rSlT (K : PySem.W.Frag) : V → Option Int → Option Int → Hp → VK → Prop := fun x lo hi H Q => ∃ a xs, x = .ref a ∧ SqT K H a xs ∧
  ¬ (HT.sIx xs.length 0 lo = 0 ∧ HT.sIx xs.length xs.length hi = xs.length) ∧ ∀ p, H p = none → Q (.ref p) (upd H p (.tup (cutV xs lo hi)))
theorem sl_tup : SlR X (rSlT X.K) := by
  intro pins s σ H x v vl vu lo hi sl Q I rx hs pl pu h
  obtain ⟨a, xs, rfl, hx, hw, q⟩ := h
  cases rx
  obtain ⟨its, r, ht, hz⟩ := I.tuple hx
  have hlen : its.toArray.size = xs.length := by rw [List.size_toArray]; exact r.length.symm
  refine ⟨"tuple", _, PyProof.Rows.slot_tuple_getitem.lookup, ht.typeIs, ?_⟩
  refine HT.getItem_tuple_cut ht hs pl pu (by rw [hlen]; exact hw) ?_ (by rw [hlen]; exact hz)
  rw [hlen]
  refine ⟨.ref s.heap.objs.size, _, I.laid (t' := s.toks) (o := .tup (cutV xs lo hi)) (fun b ob q => Heap.get?_push_of_some _ q) (Nat.le_refl _) ?_, rfl, q _ (I.hok.fresh (Nat.le_refl _))⟩
  exact ⟨Nat.le_trans (cutV_length xs lo hi) hz, _, (r.drop (HT.sIx xs.length 0 lo)).take (HT.sIx xs.length xs.length hi - HT.sIx xs.length 0 lo), IsTup.new _ _⟩

/-! ### t < u, t + u -/
/-- t + u, t not empty: u empty gives t itself -/
def rCatT (K : PySem.W.Frag) : R2 := fun x y H Q => ∃ a b xs ys, x = .ref a ∧ y = .ref b ∧ SqT K H a xs ∧ SqT K H b ys ∧ xs ≠ [] ∧ xs.length + ys.length ≤ sizeLine ∧
  (ys = [] → Q (.ref a) H) ∧ (ys ≠ [] → ∀ p, H p = none → Q (.ref p) (upd H p (.tup (xs ++ ys))))
theorem Vals.nil_iff {xs : List V} {us : List Value} (r : Vals xs us) : us = [] ↔ xs = [] := by
  cases r with
  | nil => simp
  | cons _ _ => simp
theorem op_catT : OpR X (binaryOp .Add) (rCatT X.K) := by
  intro pins s σ H x y v u Q I rx ry h
  obtain ⟨a, b, xs, ys, rfl, rfl, ha, hb, hx, hz, q1, q2⟩ := h
  cases rx
  cases ry
  obtain ⟨its, r1, p1, _⟩ := I.tuple ha
  obtain ⟨its2, r2, p2, _⟩ := I.tuple hb
  refine HT.cat_tup p1 p2 (fun z => hx (r1.nil_iff.mp z)) (fun z => ⟨.ref a, H, I, rfl, q1 (r2.nil_iff.mp z)⟩) (fun z => ?_) (by rw [← r1.length, ← r2.length]; exact hz)
  refine ⟨.ref s.heap.objs.size, _, I.laid (t' := s.toks) (o := .tup (xs ++ ys)) (fun b ob q => Heap.get?_push_of_some _ q) (Nat.le_refl _) ?_, rfl, q2 (fun w => z (r2.nil_iff.mpr w)) _ (I.hok.fresh (Nat.le_refl _))⟩
  exact ⟨by rw [List.length_append]; exact hz, _, r1.append r2, IsTup.new _ _⟩
end
end L2

namespace L2
open PySem PySem.Spec PyProof.Rows

/-! ### places -/
/-- the place that an index of any sign means -/
def ixN (n : Nat) (i : Int) : Option Nat := if 0 ≤ i then (if i < n then some i.toNat else none) else if -(n : Int) ≤ i then some (i + n).toNat else none
def atI {α : Type} (xs : List α) (i : Int) : Option α := (ixN xs.length i).bind fun j => xs[j]?
theorem ixN_seq {n : Nat} {i : Int} {j : Nat} (h : ixN n i = some j) : seqIndex? i n = some j ∧ j < n ∧ -(n : Int) ≤ i ∧ i < n := by
  unfold ixN at h
  by_cases h0 : 0 ≤ i
  · rw [if_pos h0] at h
    by_cases h1 : i < n
    · rw [if_pos h1] at h
      have e : i.toNat = j := Option.some.inj h
      exact ⟨by rw [seqIndex_of h0 h1, e], by omega, by omega, h1⟩
    · rw [if_neg h1] at h; cases h
  · rw [if_neg h0] at h
    by_cases h1 : -(n : Int) ≤ i
    · rw [if_pos h1] at h
      have e : (i + n).toNat = j := Option.some.inj h
      exact ⟨by rw [seqIndex_neg (by omega) h1, e], by omega, h1, by omega⟩
    · rw [if_neg h1] at h; cases h
theorem atI_get {α : Type} {xs : List α} {i : Int} {v : α} (h : atI xs i = some v) : ∃ j, seqIndex? i xs.length = some j ∧ xs[j]? = some v ∧ j < xs.length ∧ -(xs.length : Int) ≤ i ∧ i < xs.length := by
  unfold atI at h
  cases e : ixN xs.length i with
  | none => rw [e] at h; cases h
  | some j =>
    rw [e] at h
    obtain ⟨h1, h2, h3, h4⟩ := ixN_seq e
    exact ⟨j, h1, h, h2, h3, h4⟩
theorem atI_nat {α : Type} {xs : List α} {j : Nat} {v : α} (h : xs[j]? = some v) : atI xs (j : Int) = some v := by
  have hj : j < xs.length := (List.getElem?_eq_some_iff.mp h).1
  have e : ixN xs.length (j : Int) = some j := by
    unfold ixN
    rw [if_pos (by omega), if_pos (by omega)]; simp
  unfold atI; rw [e]; exact h
/-! ### what may be subscripted -/
/-- what stands as an index of a plain subscript -/
def PlainIx (b : Expr) : Prop := ∀ o i, subscripted b false o i = operate [o, i] (getItem o i)
/-- a subscript by values -/
def IxR (X : Cx) (r : R2) : Prop :=
  ∀ (value slice : Expr) (pins : List (Addr × Obj)) (s : Shared) (σ : St) (H : Hp) (x y : V) (v u : Value) (Q : VK), Inv X pins σ H s → RelV x v → RelV y u → r x y H Q →
    subscripted slice false v u = operate [v, u] (getItem v u) → wpAny (model X.prog X.w) X.A (subscriptTail value slice v u) (EP X pins σ Q) X.xe s
/-- a call of a builtin's method by values: the receiver, the arguments -/
def MtR (X : Cx) (id : String) (r : V → List V → Hp → VK → Prop) : Prop :=
  ∀ (pins : List (Addr × Obj)) (s : Shared) (σ : St) (H : Hp) (x : V) (xs : List V) (v : Value) (us : List Value) (Q : VK), Inv X pins σ H s → RelV x v → Vals xs us → r x xs H Q →
    wpAny (model X.prog X.w) X.A (call (.builtin id) (v :: us)) (EP X pins σ Q) X.xe s
section
variable {X : Cx} {a b : Expr} {ta tb : TE} {pos : Pos}
theorem IxR.or {r r' : R2} (h : IxR X r) (h' : IxR X r') : IxR X (fun x y H Q => r x y H Q ∨ r' x y H Q) := by
  intro value slice pins s σ H x y v u Q I rx ry q hs
  rcases q with q | q
  · exact h value slice pins s σ H x y v u Q I rx ry q hs
  · exact h' value slice pins s σ H x y v u Q I rx ry q hs
theorem MtR.or {id : String} {r r' : V → List V → Hp → VK → Prop} (h : MtR X id r) (h' : MtR X id r') : MtR X id (fun x xs H Q => r x xs H Q ∨ r' x xs H Q) := by
  intro pins s σ H x xs v us Q I rx rs q
  rcases q with q | q
  · exact h pins s σ H x xs v us Q I rx rs q
  · exact h' pins s σ H x xs v us Q I rx rs q
/-- a[b] -/
theorem pe_ix {r : R2} (hr : IxR X r) (ha : PE X a ta) (hb : PE X b tb) (hs : PlainIx b) : PE X (.Subscript a b pos) (tOp r ta tb) := by
  intro pins s σ H Q I h
  exact Subscript_ (binT ha hb I h fun v u s2 x y H2 I2 rx ry q => hr a b pins s2 σ H2 x y v u Q I2 rx ry q (hs _ _))

def rIxL (K : PySem.W.Frag) : R2 := fun x y H Q => ∃ p xs i v, x = .ref p ∧ y = .int i ∧ SqL K H p xs ∧ atI xs i = some v ∧ Q v H
def rIxT (K : PySem.W.Frag) : R2 := fun x y H Q => ∃ p xs i v, x = .ref p ∧ y = .int i ∧ SqT K H p xs ∧ atI xs i = some v ∧ Q v H
def rIxS : R2 := fun x y H Q => ∃ z i c, x = .str z ∧ y = .int i ∧ z.length ≤ sizeLine ∧ atI z.cps.toList i = some c ∧ Q (.str ⟨#[c]⟩) H
theorem ix_list : IxR X (rIxL X.K) := by
  intro value slice pins s σ H x y v u Q I rx ry h hs
  obtain ⟨p, xs, i, z, rfl, rfl, hq, he, q⟩ := h
  cases rx
  obtain ⟨t, rfl⟩ := ry
  obtain ⟨its, r, pl, hz⟩ := I.list hq
  obtain ⟨j, h1, h2, h3, h4, h5⟩ := atI_get he
  obtain ⟨w, ew, rw'⟩ := r.get h2
  have hl := r.length
  have hn := line63
  have fin : EP X pins σ Q w s := ⟨z, H, I, rw', q⟩
  by_cases h0 : 0 ≤ i
  · have hj : i.toNat = j := by
      rw [seqIndex_of h0 h5] at h1
      exact Option.some.inj h1
    exact item_listR pl.isList h0 (by omega) (by rw [hj]; simpa using ew) fin hs
  · have hj : (i + (its.toArray.size : Int)).toNat = j := by
      rw [seqIndex_neg (by omega) h4] at h1
      rw [List.size_toArray, ← hl]
      exact Option.some.inj h1
    exact subscriptTail_builtinR (x := w) pl.isList.typeIs slot_list_getitem.lookup
      (wpAny_getItem_list_neg (Q := fun r s' => r = w ∧ EP X pins σ Q r s') pl.isList (by omega) (by rw [List.size_toArray] <;> omega) (by omega) (by rw [hj]; simpa using ew) ⟨rfl, fin⟩) hs
theorem ix_tup : IxR X (rIxT X.K) := by
  intro value slice pins s σ H x y v u Q I rx ry h hs
  obtain ⟨p, xs, i, z, rfl, rfl, hq, he, q⟩ := h
  cases rx
  obtain ⟨t, rfl⟩ := ry
  obtain ⟨its, r, pl, hz⟩ := I.tuple hq
  obtain ⟨j, h1, h2, h3, h4, h5⟩ := atI_get he
  obtain ⟨w, ew, rw'⟩ := r.get h2
  have hl := r.length
  have hn := line63
  have fin : EP X pins σ Q w s := ⟨z, H, I, rw', q⟩
  exact subscriptTail_builtinR (x := w) pl.typeIs slot_tuple_getitem.lookup
    (getItem_tuple (j := j) (Q := fun r s' => r = w ∧ EP X pins σ Q r s') pl (by omega) (by omega) (by rw [List.size_toArray, ← hl]; exact h1) (by simpa using ew) ⟨rfl, fin⟩) hs
theorem ix_str : IxR X rIxS := by
  intro value slice pins s σ H x y v u Q I rx ry h hs
  obtain ⟨z, i, c, rfl, rfl, hz, he, q⟩ := h
  obtain ⟨t, rfl⟩ := rx
  obtain ⟨t', rfl⟩ := ry
  obtain ⟨j, h1, h2, h3, h4, h5⟩ := atI_get he
  have hl : z.cps.toList.length = z.length := by simp [Str.length]
  rw [hl] at h1 h4 h5
  have hn := line63
  exact tail_any (typeIs_str s z t) slot_str_getitem.lookup (getItem_str (c := c) (by
    have e1 : decide (i < -(2 ^ 63 : Int)) = false := decide_eq_false (by omega)
    have e2 : decide (i ≥ 2 ^ 63) = false := decide_eq_false (by omega)
    rw [e1, e2, Bool.or_false]) (by rw [h1]; simpa using h2) ⟨.str ⟨#[c]⟩, H, I.tok _, ⟨_, rfl⟩, q⟩) hs
/-- list, tuple or str -/
def rIx (K : PySem.W.Frag) : R2 := fun x y H Q => rIxL K x y H Q ∨ rIxT K x y H Q ∨ rIxS x y H Q
theorem ix_seq : IxR X (rIx X.K) := ix_list.or (ix_tup.or ix_str)

/-! ### xs[i] = v, any sign -/
/-- the list's object behind a store -/
theorem mapSeq_set (its : List Value) (n j : Nat) (u : Value) : Obj.mapSeq (·.setIfInBounds j u) { cls := .type "list", data := .seq its.toArray n } = { cls := .type "list", data := .seq (its.set j u).toArray n } := by
  simp [Obj.mapSeq]
theorem Inv.lst {pins : List (Addr × Obj)} {σ : St} {H : Hp} {s : Shared} {p : Addr} {xs : List V} (I : Inv X pins σ H s) (h : H p = some (.lst xs)) :
    ∃ (its : List Value) (n : Nat), Vals xs its ∧ s.heap.get? p = some { cls := .type "list", data := .seq its.toArray n } ∧ xs.length ≤ sizeLine := by
  obtain ⟨z, its, n, r, e⟩ := I.hok p _ h
  exact ⟨its, n, r, e, z⟩
/-- the list at p is written by an update of its object -/
theorem Inv.lstUpd {pins : List (Addr × Obj)} {σ : St} {H : Hp} {s : Shared} {p : Addr} {xs ys : List V} {its its' : List Value} {n n' : Nat} {f : Obj → Obj} (I : Inv X pins σ H s) (h : H p = some (.lst xs))
    (ho : s.heap.get? p = some { cls := .type "list", data := .seq its.toArray n }) (hf : f { cls := .type "list", data := .seq its.toArray n } = { cls := .type "list", data := .seq its'.toArray n' }) (r : Vals ys its') (hz : ys.length ≤ sizeLine) (t : Nat) :
    Inv X pins σ (upd H p (.lst ys)) { s with heap := s.heap.update p f, toks := t } := by
  have e : (s.heap.update p f).get? p = some { cls := .type "list", data := .seq its'.toArray n' } := by
    rw [Heap.get?_update_self f ho (by rw [hf] <;> rfl), hf]
  refine I.write (x := p) (e := p) (by rw [h]; trivial) (.inl rfl) (fun b u hb q => (Heap.get?_update_other _ _ (Ne.symm hb)).trans q) ⟨_, e⟩ ?_
  exact ⟨hz, its', n', r, e⟩
def rSetL : V → V → V → Hp → (Hp → Prop) → Prop := fun o i v H Q => ∃ p xs k j, o = .ref p ∧ i = .int k ∧ H p = some (.lst xs) ∧ ixN xs.length k = some j ∧ Q (upd H p (.lst (xs.set j v)))
theorem set_list : PSet X rSetL := by
  intro pins s σ H o i v ov iv u Q I ro ri rv h
  obtain ⟨p, xs, k, j, rfl, rfl, hp, hj, q⟩ := h
  cases ro
  obtain ⟨t, rfl⟩ := ri
  obtain ⟨its, n, r, ho, hz⟩ := I.lst hp
  obtain ⟨h1, h2, h3, h4⟩ := ixN_seq hj
  have hl := r.length
  have hn := line63
  have I' : Inv X pins σ (upd H p (.lst (xs.set j v))) { s with heap := s.heap.update p (Obj.mapSeq (·.setIfInBounds j u)) } :=
    I.lstUpd hp ho (mapSeq_set its n j u) (r.set rv j) (by rw [List.length_set]; exact hz) s.toks
  by_cases h0 : 0 ≤ k
  · have hk : k.toNat = j := by
      rw [seqIndex_of h0 h4] at h1
      exact Option.some.inj h1
    exact PySem.W.ki_setAt ho h0 (by omega) (by rw [List.size_toArray, ← hl]; exact h4) (by rw [hk]; exact ⟨_, I', q⟩)
  · have hk : (k + (its.toArray.size : Int)).toNat = j := by
      rw [seqIndex_neg (by omega) h3] at h1
      rw [List.size_toArray, ← hl]
      exact Option.some.inj h1
    exact PySem.W.ki_setBack ho (by omega) (by rw [List.size_toArray, ← hl]; exact h3) (by omega) (by rw [hk]; exact ⟨_, I', q⟩)

/-! ### slices -/
theorem slice_bounds (lo hi : Option Int) (n : Nat) : (sliceBounds lo hi none n).1 = ((HT.sIx n 0 lo : Nat) : Int) ∧ (sliceBounds lo hi none n).2.1 = ((HT.sIx n n hi : Nat) : Int) ∧ (sliceBounds lo hi none n).2.2 = 1 := by
  refine ⟨?_, ?_, rfl⟩
  · cases lo with
    | none => simp [sliceBounds, HT.sIx]
    | some i =>
      simp only [sliceBounds, HT.sIx, Option.getD_none, show (1 : Int) > 0 by decide, if_true]
      by_cases h : i < 0
      · simp only [h, if_true] <;> omega
      · simp only [h, if_false] <;> omega
  · cases hi with
    | none => simp [sliceBounds, HT.sIx]
    | some i =>
      simp only [sliceBounds, HT.sIx, Option.getD_none, show (1 : Int) > 0 by decide, if_true]
      by_cases h : i < 0
      · simp only [h, if_true] <;> omega
      · simp only [h, if_false] <;> omega
theorem slicePick_cut (its : List Value) (lo hi : Option Int) : slicePick its.toArray lo hi none = ((its.drop (HT.sIx its.length 0 lo)).take (HT.sIx its.length its.length hi - HT.sIx its.length 0 lo)).toArray := by
  obtain ⟨h1, h2, h3⟩ := slice_bounds lo hi its.toArray.size
  unfold slicePick
  rw [h1, h2, h3]
  simp only [sliceRange_one, pick_run, List.size_toArray] <;> rfl
/-- xs[lo:hi] of a list: a new list -/
def rSlL (K : PySem.W.Frag) : V → Option Int → Option Int → Hp → VK → Prop := fun x lo hi H Q => ∃ a xs, x = .ref a ∧ SqL K H a xs ∧ ∀ p, H p = none → Q (.ref p) (upd H p (.lst (cutV xs lo hi)))
theorem sl_list : SlR X (rSlL X.K) := by
  intro pins s σ H x v vl vu lo hi sl Q I rx hs pl pu h
  obtain ⟨a, xs, rfl, hx, q⟩ := h
  cases rx
  obtain ⟨its, r, ht, hz⟩ := I.list hx
  have hlen := r.length
  refine ⟨"list", _, slot_list_getitem.lookup, ht.isList.typeIs, ?_⟩
  refine wpAny_getItem_list_slice ht.isList hs pl pu .none (by simp) ?_ (by rw [List.size_toArray] <;> omega)
  rw [slicePick_cut, ← hlen]
  refine ⟨.ref s.heap.objs.size, _, I.laid (t' := s.toks) (o := .lst (cutV xs lo hi)) (fun b ob q => Heap.get?_push_of_some _ q) (Nat.le_refl _) ?_, rfl, q _ (I.hok.fresh (Nat.le_refl _))⟩
  exact ⟨Nat.le_trans (cutV_length xs lo hi) hz, _, 0, (r.drop (HT.sIx xs.length 0 lo)).take (HT.sIx xs.length xs.length hi - HT.sIx xs.length 0 lo), Heap.get?_push_size _ rfl⟩

/-! ### in, not in: flat items -/
/-! ### len, list(x), tuple(x) of any list or tuple that is read -/
theorem call_len_seq : CallR X (.builtin "len") (fun xs H Q => ∃ p ys, xs = [.ref p] ∧ (SqL X.K H p ys ∨ SqT X.K H p ys) ∧ Q (.int ys.length) H) := by
  intro pins s σ H xs us Q I r h
  obtain ⟨p, ys, rfl, hq, q⟩ := h
  obtain ⟨u, rfl, rx⟩ := vals1 r
  cases rx
  have hn := line63
  rcases hq with hq | hq
  · obtain ⟨its, r', pl, hz⟩ := I.list hq
    have hlen := r'.length
    exact Calls.call_len_list pl.isList (by simp only [List.size_toArray] <;> omega) ⟨.int ys.length, H, I.tok _, ⟨s.toks + 1, by rw [List.size_toArray, hlen]⟩, q⟩
  · obtain ⟨its, r', pl, hz⟩ := I.tuple hq
    have hlen := r'.length
    exact len_tuple pl (by simp only [List.size_toArray] <;> omega) ⟨.int ys.length, H, I.tok _, ⟨s.toks + 1, by rw [List.size_toArray, hlen]⟩, q⟩
theorem call_len_str : CallR X (.builtin "len") (fun xs H Q => ∃ z, xs = [.str z] ∧ z.length ≤ sizeLine ∧ Q (.int z.length) H) := by
  intro pins s σ H xs us Q I r h
  obtain ⟨z, rfl, hz, q⟩ := h
  obtain ⟨u, rfl, t, rfl⟩ := vals1 r
  have hn := line63
  exact len_str (by omega) ⟨.int z.length, H, I.tok _, ⟨_, rfl⟩, q⟩
theorem CallR.or {f : Value} {r r' : List V → Hp → VK → Prop} (h : CallR X f r) (h' : CallR X f r') : CallR X f (fun xs H Q => r xs H Q ∨ r' xs H Q) := by
  intro pins s σ H xs us Q I rs q
  rcases q with q | q
  · exact h pins s σ H xs us Q I rs q
  · exact h' pins s σ H xs us Q I rs q
theorem call_tuple_of : CallR X (.type "tuple") (fun xs H Q => ∃ p ys, xs = [.ref p] ∧ ((SqL X.K H p ys ∧ ∀ l, H l = none → Q (.ref l) (upd H l (.tup ys))) ∨ (SqT X.K H p ys ∧ Q (.ref p) H))) := by
  intro pins s σ H xs us Q I r h
  obtain ⟨p, ys, rfl, h⟩ := h
  obtain ⟨u, rfl, rx⟩ := vals1 r
  cases rx
  rcases h with ⟨hq, q⟩ | ⟨hq, q⟩
  · obtain ⟨its, r', pl, hz⟩ := I.list hq
    have hlen := r'.length
    refine call_tuple_list pl.isList (fun h' kp => ?_) (by simp only [List.size_toArray] <;> omega)
    have I1 : Inv X pins σ H { s with heap := h' } := I.kept (t' := s.toks) kp
    have I2 : Inv X pins σ (upd H h'.objs.size (.tup ys)) { s with heap := h'.push { cls := .type "tuple", data := .seq its.toArray } } :=
      I1.laid (t' := s.toks) (fun b o e => Heap.get?_push_of_some _ e) (Nat.le_refl _) (show ObjOk X.prog X.w _ _ _ (.tup ys) from ⟨hz, its, r', IsTup.new _ _⟩)
    exact ⟨.ref h'.objs.size, _, I2, rfl, q _ (I1.hok.fresh (Nat.le_refl _))⟩
  · obtain ⟨its, r', pl, hz⟩ := I.tuple hq
    exact call_tuple_same pl ⟨.ref p, H, I, rfl, q⟩

/-! ### the call of a builtin's method: o.m(..) -/
/-- the value is of that builtin type -/
def tyV (K : PySem.W.Frag) (T : String) (x : V) (H : Hp) : Prop := match x with
  | .str _ => T = "str"
  | .int _ => T = "int"
  | .ref p => (T = "list" ∧ ∃ xs, SqL K H p xs) ∨ (T = "tuple" ∧ ∃ o, K.lookup p = some o ∧ o.cls = .type "tuple" ∧ o.dict = none) ∨
      (T = "dict" ∧ ((∃ kvs, H p = some (.dK kvs)) ∨ ∃ kvs, H p = some (.dT kvs))) ∨ (T = "set" ∧ ∃ S n, H p = some (.set S n))
  | _ => False
theorem tyV_is {pins : List (Addr × Obj)} {σ : St} {H : Hp} {s : Shared} {T : String} {x : V} {v : Value} (I : Inv X pins σ H s) (r : RelV x v) (ty : tyV X.K T x H) :
    s.TypeIs v T ∧ ∀ a, v = .ref a → ∃ ob, s.heap.get? a = some ob ∧ ob.dict = none := by
  cases x with
  | str z =>
    obtain ⟨t, rfl⟩ := r
    cases (show T = "str" from ty)
    exact ⟨typeIs_str s z t, fun _ e => nomatch e⟩
  | int i =>
    obtain ⟨t, rfl⟩ := r
    cases (show T = "int" from ty)
    exact ⟨typeIs_int s i t, fun _ e => nomatch e⟩
  | ref p =>
    cases r
    rcases ty with ⟨rfl, xs, hq⟩ | ⟨rfl, o, hk, hc, hd⟩ | ⟨rfl, hk⟩ | ⟨rfl, S, n, hk⟩
    · obtain ⟨its, _, pl, _⟩ := I.list hq
      refine ⟨pl.isList.typeIs, fun a e => ?_⟩
      cases e
      obtain ⟨o, n, e, c, hd, _⟩ := pl
      exact ⟨o, e, hd⟩
    · refine ⟨⟨o, I.kIn p o hk, hc⟩, fun a e => ?_⟩
      cases e
      exact ⟨o, I.kIn _ o hk, hd⟩
    · have z : ∃ o, s.heap.get? p = some o ∧ o.ExactDict := by
        rcases hk with ⟨kvs, hk⟩ | ⟨kvs, hk⟩
        · obtain ⟨_, _, _, _, o, _, _, e, ex, _⟩ := I.hok p _ hk
          exact ⟨o, e, ex⟩
        · obtain ⟨_, _, _, _, o, _, _, e, ex, _⟩ := I.hok p _ hk
          exact ⟨o, e, ex⟩
      obtain ⟨o, e, ex⟩ := z
      refine ⟨⟨o, e, ex.1⟩, fun a e2 => ?_⟩
      cases e2
      exact ⟨o, e, ex.2.1⟩
    · obtain ⟨o, _, _, _, e, ex, _⟩ := I.hok p _ hk
      refine ⟨⟨o, e, ex.1⟩, fun a e2 => ?_⟩
      cases e2
      exact ⟨o, e, ex.2.1⟩
  | _ => exact False.elim ty
def tBM0 (K : PySem.W.Frag) (T : String) (r : V → List V → Hp → VK → Prop) (to : TE) : TE := fun σ H Q => to σ H fun x H1 => tyV K T x H1 ∧ r x [] H1 Q
def tBM (K : PySem.W.Frag) (T : String) (r : V → List V → Hp → VK → Prop) (to : TE) (t : TA) : TE := fun σ H Q => to σ H fun x H1 => tyV K T x H1 ∧ t σ H1 fun xs H2 => r x xs H2 Q
variable {o e : Expr} {es : List Expr} {to : TE} {t : TA} {name : Str} {apos cpos : Pos} {T id : String} {r : V → List V → Hp → VK → Prop}
theorem pe_bm0 (pa : PlainAttrs T) (slot : Slot T name id) (hty : typeOf (.builtin id) = pure (.type "method_descriptor")) (hm : MtR X id r) (ho : PE X o to)
    (hbase : attributeBase o name X.env (eval o X.env) = eval o X.env := by rfl) (hline : (apos.endLine == cpos.line) = true := by rfl) : PE X (.Call (.Attribute o name apos) [] [] cpos) (tBM0 X.K T r to) := by
  intro pins s σ H Q I h
  refine wpAny_Call_method0_late hbase hline (thn (ho pins s σ H _ I h) fun v s1 ⟨x, H1, I1, r1, ty, q1⟩ => ?_)
  obtain ⟨h1, h2⟩ := tyV_is I1 r1 ty
  exact ⟨T, id, pa, slot, hty, h1, h2, Calls.callWith_builtin rfl (PySem.evalArgs_none (hm pins s1 σ H1 x [] v [] Q I1 r1 .nil q1))⟩
theorem pe_bm (pa : PlainAttrs T) (slot : Slot T name id) (hty : typeOf (.builtin id) = pure (.type "method_descriptor")) (hm : MtR X id r) (ho : PE X o to) (ha : PA X (e :: es) t)
    (hbase : attributeBase o name X.env (eval o X.env) = eval o X.env := by rfl)
    (hfew : ((backTo cpos (starEach (e :: es) X.env)).all (fun x => !x.1) && (backToKw cpos (keywordEach [] X.env)).all (fun x => x.1.isSome)
      && decide ((e :: es).length + ([] : List Keyword).length + (if ([] : List Keyword).isEmpty then 0 else 1) < 30)) = true := by rfl)
    (hline : (apos.endLine == cpos.line) = true := by rfl) (hs : starEach (e :: es) X.env = (false, eval e X.env) :: starEach es X.env := by rfl) (hplain : (backTo cpos (starEach es X.env)).any (·.1) = false := by rfl) :
    PE X (.Call (.Attribute o name apos) (e :: es) [] cpos) (tBM X.K T r to t) := by
  intro pins s σ H Q I h
  refine wpAny_Call_method_late hbase hfew hline rfl (thn (ho pins s σ H _ I h) fun v s1 ⟨x, H1, I1, r1, ty, q1⟩ => ?_)
  obtain ⟨h1, h2⟩ := tyV_is I1 r1 ty
  refine ⟨T, id, pa, slot, hty, h1, h2, ?_⟩
  have hA := ha cpos pins s1 σ H1 _ I1 q1
  rw [hs] at hA ⊢
  refine Calls.callWith_builtin (by show (false || (backTo cpos (starEach es X.env)).any (·.1)) = false; rw [hplain] <;> rfl) (Calls.evalArgs_plain ?_)
  exact thn hA fun us s2 ⟨vs, H2, I2, r2, q2⟩ => hm pins s2 σ H2 x vs v us Q I2 r1 r2 q2
/- xs.append(e), list.index on a module's tuple .. are MtR facts of 06m -/
end
end L2

namespace L2
open PySem PySem.Spec PyProof.Rows

def MtM (X : Cx) (id : String) (r : V → List V → Hp → VK → Prop) : Prop :=
  ∀ (pins : List (Addr × Obj)) (s : Shared) (σ : St) (H : Hp) (x : V) (xs : List V) (v : Value) (us : List Value) (Q : VK), Inv X pins σ H s → RelV x v → Vals xs us → r x xs H Q →
    wpAny (model X.prog X.w) X.A (call (.builtin id) (v :: us)) (EP X pins σ Q) X.xe s

/-! ### lists of values -/
theorem Vals.one : ∀ {x : V} {us : List Value}, Vals [x] us → ∃ u, us = [u] ∧ RelV x u
  | _, _, .cons r .nil => ⟨_, rfl, r⟩
theorem Vals.two : ∀ {x y : V} {us : List Value}, Vals [x, y] us → ∃ u v, us = [u, v] ∧ RelV x u ∧ RelV y v
  | _, _, _, .cons r (.cons q .nil) => ⟨_, _, rfl, r, q⟩
theorem Vals.zero : ∀ {us : List Value}, Vals [] us → us = []
  | _, .nil => rfl
theorem Vals.dropLast {xs : List V} {us : List Value} (h : Vals xs us) : Vals xs.dropLast us.dropLast := by
  induction h with
  | nil => exact .nil
  | cons r t ih =>
    cases t with
    | nil => exact .nil
    | cons q t' => exact .cons r ih
theorem Vals.eraseIdx : ∀ {xs : List V} {us : List Value} (i : Nat), Vals xs us → Vals (xs.eraseIdx i) (us.eraseIdx i)
  | _, _, _, .nil => .nil
  | _, _, 0, .cons _ t => t
  | _, _, i + 1, .cons r t => .cons r (Vals.eraseIdx i t)
theorem Vals.reverse {xs : List V} {us : List Value} (h : Vals xs us) : Vals xs.reverse us.reverse := by
  induction h with
  | nil => exact .nil
  | cons r t ih => rw [List.reverse_cons, List.reverse_cons]; exact Vals.append ih (.cons r .nil)
section
variable {X : Cx} {pins : List (Addr × Obj)} {σ : St} {H : Hp} {s : Shared} {l b : Addr} {xs ys zs : List V}

/-! ### the two steps: a tracked list is rewritten, a new list is laid -/
theorem Inv.lset {its its' : List Value} {n : Nat} {f : Array Value → Array Value} {t' : Nat} (I : Inv X pins σ H s) (hH : H l = some (.lst xs))
    (e : s.heap.get? l = some { cls := .type "list", data := .seq its.toArray n }) (hf : f its.toArray = its'.toArray) (hv : Vals ys its') (hz : ys.length ≤ sizeLine) :
    Inv X pins σ (upd H l (.lst ys)) { s with heap := s.heap.update l (Obj.mapSeq f), toks := t' } := by
  have q := PySem.IsL.update e f
  rw [hf] at q
  refine I.write (x := l) (e := l) (by rw [hH]; exact trivial) (.inl rfl) (fun b' u hb hu => (Heap.get?_update_other s.heap (Obj.mapSeq f) (Ne.symm hb)).trans hu) ⟨_, q⟩ ?_
  exact ⟨hz, its', _, hv, q⟩
theorem Inv.lnew {its : List Value} {t' : Nat} (I : Inv X pins σ H s) (hv : Vals ys its) (hz : ys.length ≤ sizeLine) :
    Inv X pins σ (upd H s.heap.objs.size (.lst ys)) { s with heap := s.heap.push { cls := .type "list", data := .seq its.toArray }, toks := t' } :=
  I.laid (fun _ _ q => Heap.get?_push_of_some _ q) (Nat.le_refl _) ⟨hz, its, 0, hv, Heap.get?_push_size _ rfl⟩
theorem Inv.fresh (I : Inv X pins σ H s) : H s.heap.objs.size = none := I.hok.fresh (Nat.le_refl _)
theorem Inv.lstM (I : Inv X pins σ H s) (hH : H l = some (.lst xs)) : xs.length ≤ sizeLine ∧ ∃ (its : List Value) (n : Nat), Vals xs its ∧ xs.length = its.length ∧ s.heap.get? l = some { cls := .type "list", data := .seq its.toArray n } := by
  obtain ⟨z, its, n, r, e⟩ := I.hok l _ hH
  exact ⟨z, its, n, r, r.length, e⟩

end

section
variable {X : Cx}

/-! ### methods -/
def rAppend : V → List V → Hp → VK → Prop := fun x vs H Q => ∃ l xs y, x = .ref l ∧ vs = [y] ∧ H l = some (.lst xs) ∧ xs.length < sizeLine ∧ Q .non (upd H l (.lst (xs ++ [y])))
theorem mt_append : MtM X "list.append" rAppend := by
  intro pins s σ H x vs v us Q I rx rv h
  obtain ⟨l, xs, y, rfl, rfl, hH, hz, q⟩ := h
  cases rx
  obtain ⟨u, rfl, ru⟩ := rv.one
  obtain ⟨z, its, n, r, hl, e⟩ := I.lstM hH
  refine call_meets F.slot_list_append ⟨_, e, rfl⟩ F.entry_list_append (F.args_list_append_2 _ _) (PySem.list_append l its.toArray n u (by rw [List.size_toArray]; omega)) ⟨e, ?_⟩
  refine ⟨.non, _, I.lset (its' := its ++ [u]) hH e (by simp) (r.append (.cons ru .nil)) ?_, rfl, q⟩
  rw [List.length_append, List.length_singleton]
  omega

def rPop : V → List V → Hp → VK → Prop := fun x vs H Q => ∃ l xs y, x = .ref l ∧ vs = [] ∧ H l = some (.lst xs) ∧ xs[xs.length - 1]? = some y ∧ Q y (upd H l (.lst xs.dropLast))
def rPopAt : V → List V → Hp → VK → Prop := fun x vs H Q => ∃ l xs i k y, x = .ref l ∧ vs = [.int i] ∧ H l = some (.lst xs) ∧ -(2 ^ 63) ≤ i ∧ i < 2 ^ 63 ∧ seqIndex? i xs.length = some k ∧ xs[k]? = some y ∧ Q y (upd H l (.lst (xs.eraseIdx k)))
def rReverse : V → List V → Hp → VK → Prop := fun x vs H Q => ∃ l xs, x = .ref l ∧ vs = [] ∧ H l = some (.lst xs) ∧ Q .non (upd H l (.lst xs.reverse))
/-! ### list + list, list += list, list * int -/
def rCat : R2 := fun x y H Q => ∃ l b xs zs, x = .ref l ∧ y = .ref b ∧ H l = some (.lst xs) ∧ H b = some (.lst zs) ∧ xs.length + zs.length ≤ sizeLine ∧ ∀ p, H p = none → Q (.ref p) (upd H p (.lst (xs ++ zs)))
theorem op_cat : OpR X (binaryOp .Add) rCat := by
  intro pins s σ H x y v u Q I rx ry h
  obtain ⟨l, b, xs, zs, rfl, rfl, hH, hB, hz, q⟩ := h
  cases rx
  cases ry
  obtain ⟨z, its, n, r, hl, e⟩ := I.lstM hH
  obtain ⟨z2, its2, n2, r2, hl2, e2⟩ := I.lstM hB
  refine PySem.P.add_list e e2 ?_ (by rw [List.size_toArray, List.size_toArray]; omega)
  have ea : its.toArray ++ its2.toArray = (its ++ its2).toArray := by simp
  rw [ea]
  exact ⟨.ref _, _, I.lnew (t' := s.toks) (r.append r2) (by rw [List.length_append]; omega), rfl, q _ I.fresh⟩
/-! ### del xs[i] -/
end

/-! ### xs[a:b] = ys -/
section
variable {prog : Program} {w : World} {A : Around} {E : Value → Shared → Prop} {s : Shared}
set_option maxRecDepth 100000 in
end

section
variable {X : Cx}
end
end L2

namespace Att
open PySem PySem.W PySem.Calls PyProof.Rows

/-! ### the script -/
theorem ints_of_wellAll {P : Params} {h : Heap} : ∀ (ns : List Int) (vs : List Value), WellAll P h vs (ns.map WData.int) → IntsAre vs ns := by
  intro ns
  induction ns with
  | nil =>
    intro vs w
    rw [List.map_nil] at w
    cases w
    exact .nil
  | cons n ns ih =>
    intro vs w
    rw [List.map_cons] at w
    cases w with
    | cons a b =>
      cases a
      exact .cons _ _ (ih _ b)

theorem script_of {l : OpenLaw} {n : Nat} (hn : l.most = some n) {P : Params} {h : Heap} {args : List WData} {vals : List Value}
    (hpre : l.row.toRowW.claim.pre args = true) (hwl : WellAll P h vals args) :
    ∃ a vs ns, vals = [Value.ref a] ∧ args = [WData.list (ns.map WData.int)] ∧ h.get? a = some { cls := .type "list", data := .seq vs.toArray } ∧ IntsAre vs ns ∧ ns.length ≤ n := by
  have hsh : WShape.hasAll [] args [.list .int] = true := (pre_splitW hpre).1
  have hc : l.pre.holds [] { args := args } = true := (pre_splitW hpre).2
  obtain ⟨d, r, rfl, h1, h2⟩ := hasAllW_cons hsh
  obtain rfl := hasAllW_nil h2
  obtain ⟨xs, rfl, h3⟩ := hasW_list h1
  obtain ⟨ns, rfl⟩ := items_int h3
  have hlen : ns.length ≤ n := by
    unfold OpenLaw.pre at hc
    have h4 : (WTm.not (.lt (.lit (.int (n : Int))) (.len (.arg 0)))).holds [] { args := [.list (ns.map .int)] } = true := by
      have h4 := (holds_andW hc).1
      rw [hn] at h4
      exact h4
    have h5 := condW_of h4 (w_not (w_lt w_lit (w_len_list (w_arg rfl))))
    rw [List.length_map] at h5
    refine Nat.le_of_not_lt fun q => ?_
    have q' : (n : Int) < ((ns.length : Nat) : Int) := by omega
    first
      | (rw [decide_eq_true q'] at h5; exact absurd h5 (by decide))
      | (simp at h5; omega)
  cases hwl with
  | cons w1 w2 =>
    cases w2
    cases w1 with
    | list ho hall => exact ⟨_, _, ns, rfl, rfl, ho, ints_of_wellAll ns _ hall, hlen⟩

theorem post_true (l : OpenLaw) (args : List WData) : l.row.toRowW.claim.post args (.bool true) args = true :=
  postW_of (r := l.row.toRowW) (X := (true == true))
    (show WShape.has [] (.bool true) .bool = true by first | rfl | decide | simp [WShape.has, WShape.arms, WShape.armsAll])
    (show (WTm.eq .res (.lit (.bool true))).value [] { args := args, res := some (.bool true), after := args } = some (.bool (true == true)) from w_eq_bool (w_res rfl) w_lit) rfl

/-! ### the attachment: holds_open's last premise (the goal 'hc' behind k_head) from a wpAny of the law's body -/
/-- the same from a codeAny of the CALL (for a layer whose function contracts speak of calls) -/
theorem attach_call {l : OpenLaw} {n : Nat} {q : Program} {loose : List Str} {XP : (Str → Option Value) → Heap → Prop} {YP : World → Heap → Prop} {d : DefRec}
    (hn : l.most = some n) (hdf : d.params.defaults = [])
    (call : ∀ (w : World) (s₀ s₁ : Shared) (mg mb : Str → Option Value) (fa : Addr) (o : Obj) (pm cd doc : Value) (a : Addr) (vs : List Value) (ns : List Int),
      Ground q loose [] XP w s₀ mg mb s₁.heap → YP w s₁.heap →
      s₁.heap.get? fa = some o → o.data = .func (docDef d.name d.params d.body d.scope pm cd doc) → s₁.heap.CodeRec cd d.name → mg d.name = some (.ref fa) →
      s₁.heap.get? a = some { cls := .type "list", data := .seq vs.toArray } → IntsAre vs ns → ns.length ≤ n → s₁.gens = #[] →
      codeAny (model l.prog w) callerA (.call (.ref fa) ⟨[.ref a], []⟩) (fun r s' => r = .ok (.ret (.bool true)) ∧ OldK s₁.heap s'.heap ∧ s'.os = s₁.os ∧ AllBare s'.gens) s₁) :
    WalkO q loose XP YP l.row.toRowW d [] (fun f vs => PySem.call f vs) := by
  intro w s₀ s₁ mg mb G Y fa o pm cd doc dV kV ho hd hcd hD hmg hg args vals as hpre hlay hrd hwl hlo
  obtain rfl : dV = .none := Dflts.none hD hdf
  obtain rfl : kV = .none := Dflts.noKw hD
  obtain ⟨a, vs, ns, rfl, rfl, hobj, hints, hlen⟩ := script_of hn hpre hwl
  refine enter_call (codeAny_mono (call w s₀ s₁ mg mb fa o pm cd doc a vs ns G Y ho (fd_plain hd) hcd hmg hobj hints hlen hg) fun r s' hq => ?_)
  obtain ⟨rfl, h2, h3, h4⟩ := hq
  exact ⟨.inl ⟨.bool true, .bool true, [], rfl, fun _ => rfl, .bool true, post_true l _, fun _ => ⟨List.Pairwise.nil, fun _ hm => (nomatch hm)⟩⟩, h2, h3, h4⟩

/-! ### rules over ANY heap (no ledger) from facts about the written part K: the library's own take a ledger (News) for what they write -/
section
variable {prog : Program} {w : World} {A : Around} {E : Value → Shared → Prop} {s : Shared} {K : Frag}

/-! the whole heap as the ledger: makes every rule that writes through a ledger a rule over any heap -/
def ledger (h : Heap) (L d : Addr) : List (Addr × Obj) := (List.range h.objs.size).filterMap fun a => if a = L ∨ a = d then none else (h.get? a).map fun o => (a, o)
end
end Att

namespace L2
open PySem PySem.Spec PyProof.Rows

theorem vals_ints : ∀ {vs : List Value} {ns : List Int}, IntsAre vs ns → Vals (ns.map V.int) vs
  | _, _, .nil => .nil
  | _, _, .cons n t h => .cons ⟨t, rfl⟩ (vals_ints h)

/-- nothing is tracked but the script, known to the object (or it is an object of the module) -/
def Only (H : Hp) : Prop := ∀ b, H b = none ∨ ∃ o xs, H b = some (.frz o (.lst xs))

/-- THE HEAD: the law's promise, at the heap behind the top. F, the promise of the law's def, may use that base is part of the heap (so K.In base, base.Ns mainGlobals mg stand in Mod) -/
theorem law_call {P : Program} {w : World} {K : PySem.W.Frag} {mg mb : Str → Option Value} {CX : CXT} {k : Nat} {fa a : Addr} {fd : FuncData} {x : Str} {sp : Sp} {s₁ : Shared} {vs : List Value} {ns : List Int}
    (KX : K.In s₁.heap) (hns : s₁.heap.Ns mainGlobals mg) (hb : s₁.heap.Ns builtinsNs mb) (hbb : ∀ x : Str, x ≠ "__name__" → mb x = bootBuiltins x) (hlim : s₁.heap.NoLimit) (hg : s₁.gens = #[])
    (ha : s₁.heap.get? a = some { cls := .type "list", data := .seq vs.toArray }) (hi : IntsAre vs ns) (hl : ns.length ≤ sizeLine) (hr : Room k callerA)
    (F : ∀ base : Heap, K.In base → base.Ns mainGlobals mg → FnOk P w K mg base CX k fa fd [x] sp) (hbind : ∀ (s : Shared) (u : Value), BindsTo s fd ⟨[u], []⟩ [(x, u)])
    (hsp : ∀ H : Hp, Only H → SqL K H a (ns.map V.int) → sp [.ref a] H (fun v _ => v = .bl true) fun _ _ _ => False)
    (hCX : ∀ H e s', CX [] H s₁ (fun _ _ _ => False) e s' → False) :
    codeAny (model P w) callerA (.call (.ref fa) ⟨[.ref a], []⟩) (fun r s' => r = .ok (.ret (.bool true)) ∧ OldK s₁.heap s'.heap ∧ s'.os = s₁.os ∧ AllBare s'.gens) s₁ := by
  have rv := vals_ints hi
  have lenV := hi.length
  -- from an abstract heap in which nothing but the script may be tracked
  have core : ∀ H : Hp, Only H → SqL K H a (ns.map V.int) → HOk P w H s₁.heap → (∀ b, H b ≠ none → b = a) → (H a ≠ none → K.lookup a = none) →
      codeAny (model P w) callerA (.call (.ref fa) ⟨[.ref a], []⟩) (fun r s' => r = .ok (.ret (.bool true)) ∧ OldK s₁.heap s'.heap ∧ s'.os = s₁.os ∧ AllBare s'.gens) s₁ := by
    intro H hO hS hok hA hK
    have base_of : ∀ {b : Addr} {o : Obj}, s₁.heap.get? b = some o → H b = none → (hidT s₁.heap H).get? b = some o := fun e n => hidT_get e n
    have noA : ∀ {b : Addr} {o : Obj} {es : Array DictEntry} {ep : Nat}, s₁.heap.get? b = some o → o.data = .dict es ep → H b = none := fun {b o es ep} e d => by
      cases q : H b with
      | none => rfl
      | some u =>
        have e' : b = a := hA b (by rw [q]; simp)
        subst e'
        rw [ha] at e; cases e
        have d' : Data.seq vs.toArray _ = Data.dict es ep := d
        cases d'
    have nsK : ∀ {b : Addr} {m : Str → Option Value}, s₁.heap.Ns b m → (hidT s₁.heap H).Ns b m := fun {b m} ⟨o, es, ep, e, d, r⟩ => ⟨o, es, ep, base_of e (noA e d), d, r⟩
    have hKb : K.In (hidT s₁.heap H) := fun b o e => base_of (KX b o e) (by
      cases q : H b with
      | none => rfl
      | some u =>
        have e' : b = a := hA b (by rw [q]; simp)
        subst e'
        rw [hK (by rw [q]; simp)] at e; cases e)
    have hM : Mod K mg (hidT s₁.heap H) := ⟨hKb, nsK hns, ⟨mb, nsK hb, hbb⟩, let ⟨mc, h1, h2⟩ := hlim; ⟨mc, nsK h1, h2⟩⟩
    have e0 : Env0 P w K mg (hidT s₁.heap H) callerA [] s₁ H := ⟨rfl, hM, fun b o e => of_hidT e, Nat.le_of_eq (hidT_size _ _), trivial, fun b hb => absurd (show b ∈ ([] : List Addr) from hb) (by simp), hok, .of_eq hg⟩
    refine codeAny_mono ((F _ hKb (nsK hns)).run callerA [] s₁ H ⟨[.ref a], []⟩ [.ref a] [.ref a] _ _ hr e0 (hbind s₁ (.ref a)) (.cons rfl .nil) (hsp H hO hS)) fun r s' h => ?_
    cases r with
    | error e => exact (hCX H e s' h).elim
    | ok fl =>
      cases fl with
      | next => exact False.elim h
      | brk => exact False.elim h
      | cont => exact False.elim h
      | ret u =>
        obtain ⟨v, H', os, bare, un, hok', r', q⟩ := h
        have q' : v = .bl true := q
        subst q'
        obtain rfl : u = Value.bool true := r'
        refine ⟨rfl, OldK.of_keep fun b o e => ?_, os, bare⟩
        cases q : H b with
        | none => exact un.keep b o e q (by intro z; exact absurd (show b ∈ ([] : List Addr) from z) (by simp)) (by simp)
        | some u =>
          rcases hO b with z | ⟨ob, xs, z⟩
          · rw [q] at z; cases z
          · have z2 := un.frzs b ob _ z
            obtain ⟨e1, _⟩ := hok b _ z
            obtain ⟨e2, _⟩ := hok' b _ z2
            rw [e] at e1; cases e1
            exact e2
  cases hk : K.lookup a with
  | some o =>
    -- the script is one of the module's own objects
    have e := KX a o hk
    rw [ha] at e
    cases e
    refine core (fun _ => none) (fun _ => .inl rfl) (.inr ⟨_, vs.toArray, _, hk, rfl, rfl, rfl, by rw [List.size_toArray, lenV]; exact hl, by simpa using rv⟩) (fun b u z => by have z' : (none : Option HO) = some u := z; cases z') (fun b z => absurd rfl z) fun z => absurd rfl z
  | none =>
    refine core (fun b => if b = a then some (.frz { cls := .type "list", data := .seq vs.toArray } (.lst (ns.map V.int))) else none) (fun b => ?_) (.inl (.inr ⟨{ cls := .type "list", data := .seq vs.toArray }, if_pos rfl⟩)) (fun b u z => ?_) (fun b z => ?_) fun _ => hk
    · by_cases hb : b = a
      · exact .inr ⟨_, _, if_pos hb⟩
      · exact .inl (if_neg hb)
    · by_cases hb : b = a
      · have z' := (if_pos hb).symm.trans z
        cases z'
        subst hb
        exact ⟨ha, by rw [List.length_map]; exact hl, vs, _, rv, ha⟩
      · have z' := (if_neg hb).symm.trans z
        cases z'
    · by_cases hb : b = a
      · exact hb
      · exact absurd (if_neg hb) z
end L2

namespace L2
open PySem PySem.Spec PyProof.Rows

abbrev KOf {K : PySem.W.Frag} {h : Heap} (_ : K.In h) : PySem.W.Frag := K

/-- the goal that k_head leaves (case hc), from the law's promise. F gives the function object fd (K's own) once, then the promise over every base -/
theorem walk_of {l : PySem.W.OpenLaw} {n k : Nat} {q : Program} {loose : List Str} {XP : (Str → Option Value) → Heap → Prop} {YP : World → Heap → Prop} {d : DefRec} {K : Params → PySem.W.Frag} {CX : World → CXT} {sp : World → Sp} {x : Str}
    (hn : l.most = some n) (hn2 : n ≤ sizeLine) (hdf : d.params.defaults = []) (hr : Room k callerA)
    (hY : ∀ (w : World) (h : Heap), YP w h → (K w.params).In h)
    (F : ∀ (w : World) (mg : Str → Option Value) (fa : Addr) (h : Heap), (K w.params).In h → h.Ns mainGlobals mg → mg d.name = some (.ref fa) →
      ∃ fd : FuncData, (∀ (s : Shared) (u : Value), BindsTo s fd ⟨[u], []⟩ [(x, u)]) ∧
        ∀ base : Heap, (K w.params).In base → base.Ns mainGlobals mg → FnOk l.prog w (K w.params) mg base (CX w) k fa fd [x] (sp w))
    (hsp : ∀ (w : World) (H : Hp) (a : Addr) (ns : List Int), ns.length ≤ n → Only H → SqL (K w.params) H a (ns.map V.int) → sp w [.ref a] H (fun v _ => v = .bl true) fun _ _ _ => False)
    (hCX : ∀ (w : World) (H : Hp) (s : Shared) (e : Value) (s' : Shared), CX w [] H s (fun _ _ _ => False) e s' → False) :
    PySem.W.WalkO q loose XP YP l.row.toRowW d [] (fun f vs => PySem.call f vs) := by
  refine Att.attach_call hn hdf fun w s₀ s₁ mg mb fa o pm cd doc a vs ns G Y ho hd hcd hmg hobj hints hlen hg => ?_
  have KX := hY w _ Y
  obtain ⟨fd, hb, hF⟩ := F w mg fa _ KX G.T.g hmg
  exact law_call KX G.T.g G.T.b G.T.builtins G.T.nolimit hg hobj hints (Nat.le_trans hlen hn2) hr hF hb (fun H hO hS => hsp w H a ns hlen hO hS) fun H e s' => hCX w H s₁ e s'
end L2

/- THE LAST THEOREM (shape; LID, My.* are yours):
   My.Adr: a structure of the addresses that your layer names (classes, functions); My.Txt K t: a structure (Prop) of the equations over K;
   My.txt_mk : {K} {implicit addresses ..} (e1 : nsIn K mainGlobals "law" = some (some (.ref f))) (e2 : K.lookup f = some ⟨oc, od, .func (fnOf "law" "law" params body scope dV kV doc pm an cdv ct), sl⟩) (e3 : codeIn K cdv "law" = true) .. : ∃ t, My.Txt K t

set_option maxRecDepth 100000 in
set_option maxHeartbeats 0 in
theorem PySem.Challenge.cw_LID_holds : PySem.Challenge.rw_LID.Holds := by
  w_on; o_law; k_head; (case hw => w_witness2)
  k_fill
  refine L2.walk_of (l := PySem.Challenge.rw_LID) (n := 63) (k := 40) (x := "script") (CX := fun w => ..) (sp := fun _ => My.sp_law) rfl (by decide) rfl ⟨rfl, by decide, by decide⟩ (fun w h Y => PySem.W.kIn_of Y) ?F ?S ?C
  case F =>
    intro w mg fa h KX G hmg
    have T : ∃ t, My.Txt (L2.KOf KX) t := by
      dsimp only [L2.KOf]                          -- K must stand as «<heap const> w.params» for k_is
      refine' My.txt_mk ?e1 ?e2 ?e3 ..
      (case e1 => PySem.W.k_is)                    -- in the order: a name -> its address -> its object -> its parts
      (case e2 => PySem.W.k_is)
      ..
    obtain ⟨t, T⟩ := T
    have e0 := hmg.symm.trans (PySem.W.mg_of KX G T.law)
    cases e0                                       -- fa is the law's own address
    exact ⟨_, fun s u => .of_eq rfl, fun base kb nb => My.law_fn T kb nb⟩     -- if «.of_eq rfl» comes too early: refine' ⟨_, ?b, fun base kb nb => My.law_fn T kb nb⟩; exact fun s u => .of_eq rfl
  case S => exact fun w H a ns hl hO hS => ..
  case C => exact ..
(the tactic k_is has no namespace: write k_is) -/

/-! SHORT WORDS over the layer: a def of the text, its body, what a loop and a test want. -/
namespace L2
open PySem PySem.Spec PyProof.Rows

/-! ### the text by places -/
/-- the j-th statement of a class's body -/
def inClass (s : Stmt) (j : Nat) : Stmt := match s with
  | .ClassDef _ _ _ body _ _ _ _ _ _ _ => body.getD j (.Pass ⟨0, 0, 0, 0⟩)
  | _ => .Pass ⟨0, 0, 0, 0⟩
def defArgs (s : Stmt) : Arguments := match s with
  | .FunctionDef _ a _ _ _ _ _ _ _ _ => a
  | _ => { posonlyargs := [], args := [], vararg := none, kwonlyargs := [], kw_defaults := [], kwarg := none, defaults := [] }
def defBody (s : Stmt) : List Stmt := match s with
  | .FunctionDef _ _ b _ _ _ _ _ _ _ => b
  | _ => []
def defScope (s : Stmt) : Scope := match s with
  | .FunctionDef _ _ _ _ _ _ sc _ _ _ => sc
  | _ => { kind := .function, names := [], isGenerator := false, isCoroutine := false }

/-! ### no exception leaves a def -/
abbrev CX0 : CXT := fun _ _ _ _ _ _ => False
abbrev E0 : XK := fun _ _ _ => False
theorem pass0 {X : Cx} : Passes CX0 X E0 := fun _ _ _ _ _ _ _ h => h.elim

/-! ### a def (or method) of the text as it stands behind the top -/
structure Fun (K : PySem.W.Frag) (x qual : Str) (st : Stmt) (f : Addr) (fd : FuncData) : Prop where
  ex : ∃ (oc : Value) (od : Option Addr) (kV doc pm : Value) (an : Option Addr) (cdv ct : Value) (osl : Array (Option Value)),
    fd = PySem.W.fnOf x qual (defArgs st) (defBody st) (defScope st) .none kV doc pm an cdv ct ∧ K.lookup f = some ⟨oc, od, .func fd, osl⟩ ∧ PySem.W.codeIn K cdv qual = true
  kp : PySem.W.keepIn K (.ref f) = true
section
variable {P : Program} {w : World} {K : PySem.W.Frag} {mg : Str → Option Value} {base : Heap}
/-- THE RULE for a def: its body as a term of rules, and the reading of that term -/
theorem Fun.ok {x qual : Str} {st : Stmt} {f : Addr} {fd : FuncData} {N ps : List Str} {k : Nat} {sp : Sp} (F : Fun K x qual st f fd) (S : FnScope N ps (defScope st)) (len : ∀ vs H Q E, sp vs H Q E → vs.length = ps.length)
    (hbody : ∀ (cdv : Value) (A : Around) (outer : List Env) (s : Shared) (H : Hp) (vs : List V) (Q : VK) (E : XK), Room k (A.deeper (envOfC qual (defScope st) s.heap.objs.size f cdv)) → sp vs H Q E →
      ∃ t, PSs (cxOf CX0 P w K mg base N qual (defScope st) f cdv A outer s H E).nox (defBody st) t ∧ t { nx := fun _ H' => Q .non H', rt := Q } (start N vs) H) : FnOk P w K mg base CX0 (k + 1) f fd ps sp := by
  obtain ⟨oc, od, kV, doc, pm, an, cdv, ct, osl, rfl, lk, hcd⟩ := F.ex
  refine fn_of lk hcd S len fun A outer s H vs Q E hr hsp => ?_
  obtain ⟨t, h, q⟩ := hbody cdv A outer s H vs Q E hr hsp
  exact ⟨t, h.nox, q⟩
/-- how its arguments bind (no defaults): h is «fun _ _ _ _ _ _ us hl => match us, hl with | [_, _], _ => rfl», one _ a parameter -/
theorem Fun.binds {x qual : Str} {st : Stmt} {f : Addr} {fd : FuncData} {ps : List Str} (F : Fun K x qual st f fd)
    (h : ∀ (kV doc pm : Value) (an : Option Addr) (cdv ct : Value) (us : List Value), us.length = ps.length → bindArgs (PySem.W.fnOf x qual (defArgs st) (defBody st) (defScope st) .none kV doc pm an cdv ct) ⟨us, []⟩ = pure (ps.zip us)) : Binds K fd ps [] := by
  obtain ⟨oc, od, kV, doc, pm, an, cdv, ct, osl, rfl, lk, hcd⟩ := F.ex
  exact .all (h kV doc pm an cdv ct)
theorem fun_mk {x qual : Str} {st : Stmt} {f : Addr} {oc : Value} {od an : Option Addr} {osl : Array (Option Value)} {kV doc pm cdv ct : Value} (l : K.lookup f = some ⟨oc, od, .func (PySem.W.fnOf x qual (defArgs st) (defBody st) (defScope st) .none kV doc pm an cdv ct), osl⟩)
    (c : PySem.W.codeIn K cdv qual = true) (k : PySem.W.keepIn K (.ref f) = true) : Fun K x qual st f (PySem.W.fnOf x qual (defArgs st) (defBody st) (defScope st) .none kV doc pm an cdv ct) := ⟨⟨oc, od, kV, doc, pm, an, cdv, ct, osl, rfl, l, c⟩, k⟩
end
/-! ### expressions in short: the name that stands in the i-th slot -/
section
variable {X : Cx}
theorem pv (i : Nat) {x : Str} {pos : Pos} (hN : X.N[i]? = some x := by rfl) (hv : Vis X.env.scope x := by first | exact Or.inl rfl | exact Or.inr (Or.inl rfl) | exact Or.inr (Or.inr rfl)) (hd : (x == ("__debug__" : Str)) = false := by decide)
    (hcd : (x == ("__classdict__" : Str)) = false := by decide) : PE X (.Name x pos) (tVar i) := pe_var hN hv hd hcd
end

/-! ### tests -/
theorem ite2 {c A B : Prop} [Decidable c] (h1 : c → A) (h2 : ¬ c → B) : if c then A else B := by
  by_cases h : c
  · rw [if_pos h]
    exact h1 h
  · rw [if_neg h]
    exact h2 h
/-! ### heaps -/
/-- all that was tracked is as it was -/
def Same (H H' : Hp) : Prop := ∀ b o, H b = some o → H' b = some o
theorem Same.refl (H : Hp) : Same H H := fun _ _ h => h
theorem Same.trans {H H1 H2 : Hp} (a : Same H H1) (b : Same H1 H2) : Same H H2 := fun c o h => b c o (a c o h)
theorem Same.free {H H' : Hp} (e : Same H H') {l : Addr} (h : H' l = Option.none) : H l = Option.none := by
  cases q : H l with
  | none => rfl
  | some o =>
    rw [e l o q] at h
    cases h
theorem Same.seq {K : PySem.W.Frag} {H H' : Hp} {a : Addr} {xs : List V} (e : Same H H') (h : SqL K H a xs) : SqL K H' a xs := by
  rcases h with (h | ⟨o, h⟩) | h
  · exact .inl (.inl (e _ _ h))
  · exact .inl (.inr ⟨o, e _ _ h⟩)
  · exact .inr h

end L2
set_option maxHeartbeats 4000000
/-! TEXTS over the hand layer: walks over the signs, slices, methods; one rule for each operation, told by the kinds of its values. -/
namespace L2
open PySem PySem.Spec PyProof.Rows

/-! ### walking a text -/
def Its (z : Str) : It := ⟨fun i _ => i < z.length, fun i H x H' => H' = H ∧ ∃ c, z.cps.toList[i]? = some c ∧ x = .str ⟨#[c]⟩, fun i _ => z.length ≤ i⟩
theorem sign_at {z : Str} {i : Nat} (h : i < z.length) : ∃ c, z.cps[i]? = some c ∧ z.cps.toList[i]? = some c := by
  have h' : i < z.cps.size := h
  exact ⟨z.cps[i], by simp [h'], by simp [h']⟩
theorem sign_not {z : Str} {i : Nat} (h : z.length ≤ i) : z.cps[i]? = none := by
  have h' : z.cps.size ≤ i := h
  simp [h']
theorem turn_strA {P : Program} {w : World} {K : PySem.W.Frag} {tg : Expr} (it : Addr) (z : Str) (t : Tok) : Turn P w K tg (Its z) [it] it (fun i h => h.IsStrIter it "str_ascii_iterator" z t i) where
  mem := by simp
  obj := fun i h st b hb => by
    have e : b = it := by simpa using hb
    subst e
    obtain ⟨o, e, c, d⟩ := st
    exact ⟨o, e, fun v z => by rw [d] at z; cases z⟩
  keep := fun i h h' st k => by
    obtain ⟨o, e, r⟩ := st
    exact ⟨o, k it (by simp) o e, r⟩
  item := by
    intro X hP hw hK hc i pins s σ H E I hf st hg
    subst hP hw hK
    obtain ⟨c, h1, h2⟩ := sign_at (z := z) (i := i) hg
    obtain ⟨f0, f1, f2, f3, f4, f5⟩ := hf it (by simp)
    refine wpAny_pyNext_ascii_item st h1 fun h' st' sb => ?_
    have I1 : Inv X pins σ H { s with heap := h', toks := s.toks + 1 } := I.turned (t' := s.toks + 1) (fun b o hb e => (sb.2 b hb).trans e) f0 f1 f3 f4 f5
    obtain ⟨o, e, cl, d⟩ := id st'
    exact ⟨_, rfl, go_of (s := { s with heap := h', toks := s.toks + 1 }) e cl d (by decide) ⟨.str ⟨#[c]⟩, H, I1, ⟨_, rfl⟩, ⟨rfl, c, h2, rfl⟩, st', fun b hb => (hf b hb).1⟩⟩
  done := by
    intro X hP hw hK hc i pins s σ H E I hf st hg
    subst hP hw hK
    obtain ⟨f0, f1, f2, f3, f4, f5⟩ := hf it (by simp)
    exact wpAny_pyNext_ascii_end (I.ok.hd hc) st (sign_not hg) fun h' eb => ⟨rfl, I.turned (t' := s.toks) (fun b o hb e => eb b o hb e) f0 f1 f3 f4 f5⟩
  self := fun _ _ _ _ _ st h => wpAny_pyIter_striter_ascii st h
theorem turn_strW {P : Program} {w : World} {K : PySem.W.Frag} {tg : Expr} (it : Addr) (z : Str) (t : Tok) : Turn P w K tg (Its z) [it] it (fun i h => h.IsStrIter it "str_iterator" z t i) where
  mem := by simp
  obj := fun i h st b hb => by
    have e : b = it := by simpa using hb
    subst e
    obtain ⟨o, e, c, d⟩ := st
    exact ⟨o, e, fun v z => by rw [d] at z; cases z⟩
  keep := fun i h h' st k => by
    obtain ⟨o, e, r⟩ := st
    exact ⟨o, k it (by simp) o e, r⟩
  item := by
    intro X hP hw hK hc i pins s σ H E I hf st hg
    subst hP hw hK
    obtain ⟨c, h1, h2⟩ := sign_at (z := z) (i := i) hg
    obtain ⟨f0, f1, f2, f3, f4, f5⟩ := hf it (by simp)
    refine wpAny_pyNext_wide_item st h1 fun h' st' sb => ?_
    have I1 : Inv X pins σ H { s with heap := h', toks := s.toks + 1 } := I.turned (t' := s.toks + 1) (fun b o hb e => (sb.2 b hb).trans e) f0 f1 f3 f4 f5
    obtain ⟨o, e, cl, d⟩ := id st'
    exact ⟨_, rfl, go_of (s := { s with heap := h', toks := s.toks + 1 }) e cl d (by decide) ⟨.str ⟨#[c]⟩, H, I1, ⟨_, rfl⟩, ⟨rfl, c, h2, rfl⟩, st', fun b hb => (hf b hb).1⟩⟩
  done := by
    intro X hP hw hK hc i pins s σ H E I hf st hg
    subst hP hw hK
    obtain ⟨f0, f1, f2, f3, f4, f5⟩ := hf it (by simp)
    exact wpAny_pyNext_wide_end (I.ok.hd hc) st (sign_not hg) fun h' eb => ⟨rfl, I.turned (t' := s.toks) (fun b o hb e => eb b o hb e) f0 f1 f3 f4 f5⟩
  self := fun _ _ _ _ _ st h => wpAny_pyIter_striter_wide st h
section
variable {X : Cx} {tg : Expr}
def iStr (tl : TE) : TI := fun σ H R => tl σ H fun x H1 => ∃ z, x = .str z ∧ R (Its z) H1
theorem pi_str {l : Expr} {tl : TE} (hl : PE X l tl) : PI X tg l (iStr tl) := by
  intro pins s σ H R I h
  refine thn (hl pins s σ H _ I h) fun v s1 ⟨x, H1, I1, r1, q1⟩ => ?_
  obtain ⟨z, rfl, q⟩ := q1
  obtain ⟨t, rfl⟩ := r1
  have fp : ∀ b ∈ [s1.heap.objs.size], FpOk X pins H1 b := fun b hb => by
    have e : b = s1.heap.objs.size := by simpa using hb
    subst e
    exact I1.fpOk (Nat.le_refl _) (I1.hok.fresh (Nat.le_refl _))
  cases ha : z.cps.all (· < 128)
  · refine wpAny_pyIter_wide ha ?_
    exact ⟨s1.heap.objs.size, [s1.heap.objs.size], _, _, H1, rfl, I1.kept (t' := s1.toks) fun b o e => Heap.get?_push_of_some _ e, turn_strW _ z t, ⟨_, Heap.get?_push_size _ rfl, rfl, rfl⟩, fp, q⟩
  · refine wpAny_pyIter_ascii ha ?_
    exact ⟨s1.heap.objs.size, [s1.heap.objs.size], _, _, H1, rfl, I1.kept (t' := s1.toks) fun b o e => Heap.get?_push_of_some _ e, turn_strA _ z t, ⟨_, Heap.get?_push_size _ rfl, rfl, rfl⟩, fp, q⟩
end
section
variable {X : Cx}
/-! ### slices of a text -/
def rSlS : V → Option Int → Option Int → Hp → VK → Prop := fun x lo hi H Q => ∃ z, x = .str z ∧ z.length ≤ sizeLine ∧ Q (.str (Txt.slice z lo hi)) H
theorem sl_str : SlR X rSlS := by
  intro pins s σ H x v vl vu lo hi sl Q I rx hs pl pu h
  obtain ⟨z, rfl, hz, q⟩ := h
  obtain ⟨t, rfl⟩ := rx
  refine ⟨"str", _, F.slot_str_getitem.lookup, typeIs_str _ _ _, ?_⟩
  obtain ⟨o, ho, hc, hd⟩ := hs
  cases pl with
  | none =>
    cases pu with
    | none => exact wpAny_getItem_str_slice (l := none) (u := none) (st := none) ⟨o, ho, hc, hd⟩ rfl (post_val_or_str ⟨Nat.le_trans (Txt.slice_le z none none) hz, fun t' k => ⟨.str (Txt.slice z none none), H, I.tok k, ⟨t', rfl⟩, q⟩⟩)
    | int j uj => exact wpAny_getItem_str_slice (l := none) (u := some (j, uj)) (st := none) ⟨o, ho, hc, hd⟩ rfl (post_val_or_str ⟨Nat.le_trans (Txt.slice_le z none (some j)) hz, fun t' k => ⟨.str (Txt.slice z none (some j)), H, I.tok k, ⟨t', rfl⟩, q⟩⟩)
  | int i ui =>
    cases pu with
    | none => exact wpAny_getItem_str_slice (l := some (i, ui)) (u := none) (st := none) ⟨o, ho, hc, hd⟩ rfl (post_val_or_str ⟨Nat.le_trans (Txt.slice_le z (some i) none) hz, fun t' k => ⟨.str (Txt.slice z (some i) none), H, I.tok k, ⟨t', rfl⟩, q⟩⟩)
    | int j uj => exact wpAny_getItem_str_slice (l := some (i, ui)) (u := some (j, uj)) (st := none) ⟨o, ho, hc, hd⟩ rfl (post_val_or_str ⟨Nat.le_trans (Txt.slice_le z (some i) (some j)) hz, fun t' k => ⟨.str (Txt.slice z (some i) (some j)), H, I.tok k, ⟨t', rfl⟩, q⟩⟩)
/-- of a list or a text -/
def rSl (K : PySem.W.Frag) : V → Option Int → Option Int → Hp → VK → Prop := fun x lo hi H Q => rSlL K x lo hi H Q ∨ rSlS x lo hi H Q
theorem sl_any : SlR X (rSl X.K) := sl_list.or sl_str

/-! ### methods of a text -/
def rIndex : V → List V → Hp → VK → Prop := fun x vs H Q => match x, vs with
  | .str z, [.str y] => ∃ i r, Builtin.Str.occurrences z y 0 z.length 1 = i :: r ∧ Q (.int (i : Nat)) H
  | _, _ => False
theorem ix_index {z y : Str} {H : Hp} {Q : VK} : rIndex (.str z) [.str y] H Q ↔ ∃ i r, Builtin.Str.occurrences z y 0 z.length 1 = i :: r ∧ Q (.int (i : Nat)) H := Iff.rfl
theorem mt_index : MtR X "str.index" rIndex := by
  intro pins s σ H x vs v us Q I rx rv h
  unfold rIndex at h
  split at h
  rotate_left
  · exact h.elim
  rename_i z y
  obtain ⟨i, r, ho, q⟩ := h
  obtain ⟨t, rfl⟩ := rx
  obtain ⟨u, rfl, t', rfl⟩ := vals1 rv
  exact SC.index ho ⟨.int (i : Nat), H, I.tok _, ⟨_, rfl⟩, q⟩
theorem notTooLong {n : Nat} (h : n ≤ 1000000) : Builtin.Str.tooLong n = false := by
  unfold Builtin.Str.tooLong
  rw [sizeLine_eq]
  exact decide_eq_false (by omega)
def rUpper : V → List V → Hp → VK → Prop := fun x vs H Q => match x, vs with
  | .str z, [] => (∀ c ∈ z.cps.toList, c < 128) ∧ z.length ≤ 1000000 ∧ Q (.str ⟨z.cps.map up1⟩) H
  | _, _ => False
theorem up_str {z : Str} {H : Hp} {Q : VK} : rUpper (.str z) [] H Q ↔ (∀ c ∈ z.cps.toList, c < 128) ∧ z.length ≤ 1000000 ∧ Q (.str ⟨z.cps.map up1⟩) H := Iff.rfl
theorem mt_upper : MtR X "str.upper" rUpper := by
  intro pins s σ H x vs v us Q I rx rv h
  unfold rUpper at h
  split at h
  rotate_left
  · exact h.elim
  rename_i z
  obtain ⟨ha, hz, q⟩ := h
  obtain ⟨t, rfl⟩ := rx
  cases rv
  have e := upper_ascii ha
  refine SC.upper ?_ ⟨.str ⟨z.cps.map up1⟩, H, I.tok _, ⟨_, by rw [e]⟩, q⟩
  rw [e]
  exact notTooLong (by show (z.cps.map up1).size ≤ _; rw [Array.size_map]; exact hz)
def rLower : V → List V → Hp → VK → Prop := fun x vs H Q => match x, vs with
  | .str z, [] => (∀ c ∈ z.cps.toList, c < 128) ∧ z.length ≤ 1000000 ∧ Q (.str ⟨z.cps.map lo1⟩) H
  | _, _ => False
theorem lo_str {z : Str} {H : Hp} {Q : VK} : rLower (.str z) [] H Q ↔ (∀ c ∈ z.cps.toList, c < 128) ∧ z.length ≤ 1000000 ∧ Q (.str ⟨z.cps.map lo1⟩) H := Iff.rfl
def rAlnum : V → List V → Hp → VK → Prop := fun x vs H Q => match x, vs with
  | .str z, [] => Q (.bl (Txt.isalnum z)) H
  | _, _ => False
theorem an_str {z : Str} {H : Hp} {Q : VK} : rAlnum (.str z) [] H Q ↔ Q (.bl (Txt.isalnum z)) H := Iff.rfl
theorem mt_alnum : MtR X "str.isalnum" rAlnum := by
  intro pins s σ H x vs v us Q I rx rv q
  unfold rAlnum at q
  split at q
  rotate_left
  · exact q.elim
  rename_i z
  obtain ⟨t, rfl⟩ := rx
  cases rv
  exact SC.isalnum ⟨.bl _, H, I, rfl, q⟩
theorem strsAre_of {ys : List Str} : ∀ {us : List Value}, Vals (ys.map V.str) us → StrsAre us ys := by
  induction ys with
  | nil => intro us r; rw [List.map_nil] at r; cases r; exact .nil
  | cons y ys ih =>
    intro us r
    rw [List.map_cons] at r
    cases r with
    | cons r1 r2 =>
      obtain ⟨t, e⟩ := r1
      subst e
      exact .cons y t (ih r2)
/-- sep.join(list of texts) -/
def rJoin (K : PySem.W.Frag) : V → List V → Hp → VK → Prop := fun x vs H Q => ∃ z p ys, x = .str z ∧ vs = [.ref p] ∧ SqL K H p (ys.map V.str) ∧ (ys.map (·.length)).sum + ys.length * z.length ≤ 16777216 ∧ Q (.str (Txt.join z ys)) H
theorem mt_join : MtR X "str.join" (rJoin X.K) := by
  intro pins s σ H x vs v us Q I rx rv h
  obtain ⟨z, p, ys, rfl, rfl, hq, hz, q⟩ := h
  obtain ⟨t, rfl⟩ := rx
  obtain ⟨u, rfl, ru⟩ := vals1 rv
  cases ru
  obtain ⟨its, r, pl, hl⟩ := I.list hq
  exact join_list pl.isList (by simpa using strsAre_of r) hz fun t' k => ⟨.str (Txt.join z ys), H, I.tok k, ⟨t', rfl⟩, q⟩

/-! ### isinstance -/
def rIsi (K : PySem.W.Frag) : List V → Hp → VK → Prop := fun vs H Q => ∃ x T t b, vs = [x, .ty T] ∧ TyOf K H x t ∧ PySem.W.kitOne K t (.type T) = some b ∧ Q (.bl b) H
theorem call_isi : CallR X (.builtin "isinstance") (rIsi X.K) := by
  intro pins s σ H xs us Q I r h
  obtain ⟨x, T, t, b, rfl, ty, e, q⟩ := h
  obtain ⟨u, v, rfl, ru, rv⟩ := vals2 r
  cases (show v = Value.type T from rv)
  exact isinst_ok I ru ty e fun tk => ⟨.bl b, H, I.tok tk, rfl, q⟩

/-! ### one rule for + -/
/-- t + u: a tuple of both, a new one or one that is there -/
def rCatD : R2 := fun x y H Q => ∃ a b xs ys, x = .ref a ∧ y = .ref b ∧ H a = some (.tup xs) ∧ H b = some (.tup ys) ∧ xs.length + ys.length ≤ sizeLine ∧ ∀ p H', Same H H' → H' p = some (.tup (xs ++ ys)) → Q (.ref p) H'
theorem op_catD : OpR X (binaryOp .Add) rCatD := by
  intro pins s σ H x y v u Q I rx ry h
  obtain ⟨a, b, xs, ys, rfl, rfl, ha, hb, hz, q⟩ := h
  by_cases hx : xs = []
  · subst hx
    cases rx
    cases ry
    obtain ⟨its, r1, p1, _⟩ := I.tuple (SqT.of ha)
    obtain ⟨its2, r2, p2, _⟩ := I.tuple (SqT.of hb)
    cases r1
    obtain ⟨⟨cls, dd, data, sl⟩, ho, hc, n, hd⟩ := id p1
    obtain ⟨⟨cls2, dd2, data2, sl2⟩, ho2, hc2, n2, hd2⟩ := id p2
    simp only at hc hd hc2 hd2
    subst hc hd hc2 hd2
    exact concat_meets ⟨_, ho, rfl⟩ ⟨_, ho2, rfl⟩ noFill_tuple_add seq_tuple_add PySem.F.slot_tuple_add PySem.F.entry_tuple_add (PySem.F.args_tuple_add_2 _ _)
      (tuple_addW0 a b ([] : List Value).toArray its2.toArray n n2 dd dd2 sl sl2 rfl) ⟨ho, ho2, ⟨.ref b, H, I, rfl, q b H (Same.refl _) hb⟩⟩
  · refine op_catT pins s σ H _ _ v u Q I rx ry ⟨a, b, xs, ys, rfl, rfl, SqT.of ha, SqT.of hb, hx, hz, fun e => q a H (Same.refl _) (by rw [e, List.append_nil]; exact ha), fun _ p hp => q p _ (fun b o e => by rw [upd_ne (ne_of_none e hp)]; exact e) upd_same⟩
def rAddU (K : PySem.W.Frag) : R2 := fun x y H Q => match x, y with
  | .int i, .int j => Q (.int (i + j)) H
  | .str i, .str j => i.length + j.length ≤ sizeLine ∧ Q (.str (i ++ j)) H
  | .ref a, .ref b => (∃ xs zs, H a = some (.lst xs) ∧ H b = some (.lst zs) ∧ xs.length + zs.length ≤ sizeLine ∧ ∀ p, H p = none → Q (.ref p) (upd H p (.lst (xs ++ zs)))) ∨
      (∃ xs ys, H a = some (.tup xs) ∧ H b = some (.tup ys) ∧ xs.length + ys.length ≤ sizeLine ∧ ∀ p H', Same H H' → H' p = some (.tup (xs ++ ys)) → Q (.ref p) H')
  | _, _ => False
theorem op_addU : OpR X (binaryOp .Add) (rAddU X.K) := by
  intro pins s σ H x y v u Q I rx ry h
  cases x with
  | int i =>
    cases y with
    | int j => exact op_add pins s σ H _ _ v u Q I rx ry ⟨i, j, rfl, rfl, h⟩
    | _ => exact h.elim
  | str i =>
    cases y with
    | str j => exact op_add_str pins s σ H _ _ v u Q I rx ry ⟨i, j, rfl, rfl, h.1, h.2⟩
    | _ => exact h.elim
  | ref a =>
    cases y with
    | ref b =>
      rcases h with ⟨xs, zs, h1, h2, h3, h4⟩ | ⟨xs, ys, h1, h2, h3, h4⟩
      · exact op_cat pins s σ H _ _ v u Q I rx ry ⟨a, b, xs, zs, rfl, rfl, h1, h2, h3, h4⟩
      · exact op_catD pins s σ H _ _ v u Q I rx ry ⟨a, b, xs, ys, rfl, rfl, h1, h2, h3, h4⟩
    | _ => exact h.elim
  | _ => exact h.elim
theorem ad_int {K : PySem.W.Frag} {i j : Int} {H : Hp} {Q : VK} : rAddU K (.int i) (.int j) H Q ↔ Q (.int (i + j)) H := Iff.rfl
theorem ad_str {K : PySem.W.Frag} {i j : Str} {H : Hp} {Q : VK} : rAddU K (.str i) (.str j) H Q ↔ i.length + j.length ≤ sizeLine ∧ Q (.str (i ++ j)) H := Iff.rfl
end

/-! ### one rule for *, len, ord, int, in, isinstance -/
section
variable {X : Cx}
def rMulU : R2 := fun x y H Q => match x, y with
  | .int i, .int j => CMul i j ∧ Q (.int (i * j)) H
  | .str z, .int k => MulOk z k ∧ Q (.str (Txt.mul z k)) H
  | _, _ => False
theorem op_mulU : OpR X (binaryOp .Mult) rMulU := by
  intro pins s σ H x y v u Q I rx ry h
  cases x with
  | int i =>
    cases y with
    | int j => exact op_mul pins s σ H _ _ v u Q I rx ry ⟨i, j, rfl, rfl, h.1, h.2⟩
    | _ => exact h.elim
  | str z =>
    cases y with
    | int k =>
      obtain ⟨t, rfl⟩ := rx
      obtain ⟨t', rfl⟩ := ry
      exact SB.mul h.1 fun t' k' => ⟨.str (Txt.mul z k), H, I.tok k', ⟨t', rfl⟩, h.2⟩
    | _ => exact h.elim
  | _ => exact h.elim
theorem mu_int {i j : Int} {H : Hp} {Q : VK} : rMulU (.int i) (.int j) H Q ↔ CMul i j ∧ Q (.int (i * j)) H := Iff.rfl
theorem mu_str {z : Str} {k : Int} {H : Hp} {Q : VK} : rMulU (.str z) (.int k) H Q ↔ MulOk z k ∧ Q (.str (Txt.mul z k)) H := Iff.rfl

def rLenU (K : PySem.W.Frag) : List V → Hp → VK → Prop := fun xs H Q => match xs with
  | [.str z] => z.length ≤ sizeLine ∧ Q (.int z.length) H
  | [.ref p] => ∃ ys, (SqL K H p ys ∨ SqT K H p ys) ∧ Q (.int ys.length) H
  | _ => False
theorem call_lenU : CallR X (.builtin "len") (rLenU X.K) := by
  intro pins s σ H xs us Q I r h
  unfold rLenU at h
  split at h
  · exact call_len_str pins s σ H _ us Q I r ⟨_, rfl, h.1, h.2⟩
  · obtain ⟨ys, h1, h2⟩ := h
    exact call_len_seq pins s σ H _ us Q I r ⟨_, ys, rfl, h1, h2⟩
  · exact h.elim
theorem le_str {K : PySem.W.Frag} {z : Str} {H : Hp} {Q : VK} : rLenU K [.str z] H Q ↔ z.length ≤ sizeLine ∧ Q (.int z.length) H := Iff.rfl
theorem le_ref {K : PySem.W.Frag} {p : Addr} {H : Hp} {Q : VK} : rLenU K [.ref p] H Q ↔ ∃ ys, (SqL K H p ys ∨ SqT K H p ys) ∧ Q (.int ys.length) H := Iff.rfl

def rOrdU : List V → Hp → VK → Prop := fun xs H Q => match xs with
  | [.str z] => z.length = 1 ∧ Q (.int (z.cps.getD 0 0 : Nat)) H
  | _ => False
theorem call_ordU : CallR X (.builtin "ord") rOrdU := by
  intro pins s σ H xs us Q I r h
  unfold rOrdU at h
  split at h
  · exact call_ord pins s σ H _ us Q I r ⟨_, rfl, h.1, h.2⟩
  · exact h.elim
theorem or_one {c : Nat} {H : Hp} {Q : VK} : rOrdU [.str ⟨#[c]⟩] H Q ↔ Q (.int (c : Nat)) H := ⟨fun h => h.2, fun h => ⟨rfl, h⟩⟩
theorem bt_int : bootBuiltins "int" = some (.type "int") := by decide +kernel
theorem bt_str : bootBuiltins "str" = some (.type "str") := by decide +kernel
theorem bt_bool : bootBuiltins "bool" = some (.type "bool") := by decide +kernel
theorem bt_tuple : bootBuiltins "tuple" = some (.type "tuple") := by decide +kernel
theorem boot_ord : bootBuiltins "ord" = some (.builtin "ord") := by decide +kernel
theorem boot_isinstance : bootBuiltins "isinstance" = some (.builtin "isinstance") := by decide +kernel

def rIntU : List V → Hp → VK → Prop := fun xs H Q => match xs with
  | [.int i] => Q (.int i) H
  | [.bl k] => Q (.int (if k then 1 else 0)) H
  | _ => False
theorem call_intU : CallR X (.type "int") rIntU := by
  intro pins s σ H xs us Q I r h
  unfold rIntU at h
  split at h
  · exact call_int1 pins s σ H _ us Q I r (.inl ⟨_, rfl, h⟩)
  · exact call_int1 pins s σ H _ us Q I r (.inr ⟨_, rfl, h⟩)
  · exact h.elim
theorem in_bl {k : Bool} {H : Hp} {Q : VK} : rIntU [.bl k] H Q ↔ Q (.int (if k then 1 else 0)) H := Iff.rfl

def rInU : R2 := fun x y H Q => match x, y with
  | .str i, .str j => Q (.bl (!(Builtin.Str.occurrences j i 0 j.length 1).isEmpty)) H
  | _, _ => False
theorem op_inU : OpR X (compareOp .In) rInU := by
  intro pins s σ H x y v u Q I rx ry h
  cases x with
  | str i =>
    cases y with
    | str j => exact op_in_str pins s σ H _ _ v u Q I rx ry ⟨i, j, rfl, rfl, h⟩
    | _ => exact h.elim
  | _ => exact h.elim
def rNotInU : R2 := fun x y H Q => match x, y with
  | .str i, .str j => Q (.bl (!(!(Builtin.Str.occurrences j i 0 j.length 1).isEmpty))) H
  | _, _ => False
theorem in_one {c : Nat} {j : Str} {H : Hp} {Q : VK} : rInU (.str ⟨#[c]⟩) (.str j) H Q ↔ Q (.bl (decide (c ∈ j.cps.toList))) H := by
  show Q (.bl (!(Builtin.Str.occurrences j ⟨#[c]⟩ 0 j.length 1).isEmpty)) H ↔ _
  rw [StrLaws.found_one]
theorem notin_one {c : Nat} {j : Str} {H : Hp} {Q : VK} : rNotInU (.str ⟨#[c]⟩) (.str j) H Q ↔ Q (.bl (!decide (c ∈ j.cps.toList))) H := by
  show Q (.bl (!(!(Builtin.Str.occurrences j ⟨#[c]⟩ 0 j.length 1).isEmpty))) H ↔ _
  rw [StrLaws.found_one]

def rIsN (neg : Bool) : R2 := fun x y H Q => y = .non ∧ Q (.bl (if neg then !decide (x = .non) else decide (x = .non))) H
theorem op_isNU : OpR X (compareOp .Is) (rIsN false) := fun pins s σ H x y v u Q I rx ry h => op_isN pins s σ H x y v u Q I rx ry h
theorem op_notNU : OpR X (compareOp .IsNot) (rIsN true) := fun pins s σ H x y v u Q I rx ry h => op_notN pins s σ H x y v u Q I rx ry h
theorem isN_f {x : V} {H : Hp} {Q : VK} : rIsN false x .non H Q ↔ Q (.bl (decide (x = .non))) H := ⟨fun h => h.2, fun h => ⟨rfl, h⟩⟩
theorem isN_t {x : V} {H : Hp} {Q : VK} : rIsN true x .non H Q ↔ Q (.bl (!decide (x = .non))) H := ⟨fun h => h.2, fun h => ⟨rfl, h⟩⟩

/-- the kind of a value -/
def kindV (x : V) (H : Hp) : Option String := match x with
  | .non => some "NoneType"
  | .bl _ => some "bool"
  | .int _ => some "int"
  | .str _ => some "str"
  | .ref a => match H a with
    | some (.lst _) => some "list"
    | some (.tup _) => some "tuple"
    | _ => none
  | _ => none
def subT (a b : String) : Bool := a == b || (a == "bool" && b == "int")
theorem kit_tab (K : PySem.W.Frag) : ∀ a ∈ ["NoneType", "bool", "int", "str", "list", "tuple"], ∀ b ∈ ["bool", "int", "str", "list", "tuple"], PySem.W.kitOne K (.type a) (.type b) = some (subT a b) := by
  intro a ha b hb
  simp only [List.mem_cons, List.not_mem_nil, or_false] at ha hb
  rcases ha with rfl | rfl | rfl | rfl | rfl | rfl <;> rcases hb with rfl | rfl | rfl | rfl | rfl <;> with_unfolding_all kernel_rfl
def rIsiU : List V → Hp → VK → Prop := fun vs H Q => match vs with
  | [x, .ty T] => ∃ k, kindV x H = some k ∧ T ∈ ["bool", "int", "str", "list", "tuple"] ∧ Q (.bl (subT k T)) H
  | _ => False
theorem call_isiU : CallR X (.builtin "isinstance") rIsiU := by
  intro pins s σ H xs us Q I r h
  unfold rIsiU at h
  split at h
  · rename_i x T
    obtain ⟨k, hk, hT, q⟩ := h
    have key : TyOf X.K H x (.type k) ∧ k ∈ ["NoneType", "bool", "int", "str", "list", "tuple"] := by
      unfold kindV at hk
      split at hk
      · cases hk; exact ⟨.non, by decide⟩
      · cases hk; exact ⟨.bl _, by decide⟩
      · cases hk; exact ⟨.int _, by decide⟩
      · cases hk; exact ⟨.str _, by decide⟩
      · split at hk
        · rename_i e; cases hk; exact ⟨.lst e, by decide⟩
        · rename_i e; cases hk; exact ⟨.tup e, by decide⟩
        · cases hk
      · cases hk
    exact call_isi pins s σ H _ us Q I r ⟨x, T, .type k, subT k T, rfl, key.1, kit_tab X.K k key.2 T hT, q⟩
  · exact h.elim
end

/-! ### the readings, in full -/
section
variable {σ : St} {H : Hp} {Q : VK} {D : Ends} {K : PySem.W.Frag} {ta tb te : TE} {tt tu : TT} {t u : TS} {aa ab : TA} {v x y : V} {r r' : R2}
theorem rd_var {i : Nat} : tVar i σ H Q ↔ ∃ v, σ[i]? = some (some v) ∧ Q v H := Iff.rfl
theorem rd_C : tC v σ H Q ↔ Q v H := Iff.rfl
theorem rd_seq : tSeq t u D σ H ↔ t { D with nx := u D } σ H := Iff.rfl
theorem rd_asg {g : TG} : tAsg te g D σ H ↔ te σ H fun x H1 => g x σ H1 D.nx := Iff.rfl
theorem rd_name {i : Nat} {R : St → Hp → Prop} : gName i v σ H R ↔ R (σ.set i (some v)) H := Iff.rfl
theorem rd_ifS : tIfS tt t u D σ H ↔ tt σ H fun b H1 => if b = true then t D σ H1 else u D σ H1 := Iff.rfl
theorem rd_next : tNext D σ H ↔ D.nx σ H := Iff.rfl
theorem rd_brk : tBreak D σ H ↔ D.bk σ H := Iff.rfl
theorem rd_ret : tRet te D σ H ↔ te σ H D.rt := Iff.rfl
theorem rd_drop : tDrop te D σ H ↔ te σ H fun _ H1 => D.nx σ H1 := Iff.rfl
theorem rd_op : tOp r ta tb σ H Q ↔ ta σ H fun x H1 => tb σ H1 fun y H2 => r x y H2 Q := Iff.rfl
theorem rd_test {R : Bool → Hp → Prop} : tTest te σ H R ↔ te σ H fun x H' => ∃ k, x = .bl k ∧ R k H' := Iff.rfl
theorem rd_B {R : Bool → Hp → Prop} : tB te σ H R ↔ te σ H fun x H' => ∃ k, x = .bl k ∧ R k H' := Iff.rfl
theorem rd_and {R : Bool → Hp → Prop} : tAnd tt tu σ H R ↔ tt σ H fun c H1 => if c = true then tu σ H1 R else R false H1 := Iff.rfl
theorem rd_or {R : Bool → Hp → Prop} : tOr tt tu σ H R ↔ tt σ H fun c H1 => if c = true then R true H1 else tu σ H1 R := Iff.rfl
theorem rd_not {R : Bool → Hp → Prop} : tNot tt σ H R ↔ tt σ H fun c H1 => R (!c) H1 := Iff.rfl
theorem rd_andV : tAndV ta tb σ H Q ↔ ta σ H fun x H1 => ∃ c, x = .bl c ∧ if c = true then tb σ H1 Q else Q (.bl false) H1 := Iff.rfl
theorem rd_orV : tOrV ta tb σ H Q ↔ ta σ H fun x H1 => ∃ c, x = .bl c ∧ if c = true then Q (.bl true) H1 else tb σ H1 Q := Iff.rfl
theorem rd_notV : tNotV ta σ H Q ↔ ta σ H fun x H1 => ∃ c, x = .bl c ∧ Q (.bl (!c)) H1 := Iff.rfl
theorem rd_if : tIf tt ta tb σ H Q ↔ tt σ H fun c H1 => if c = true then ta σ H1 Q else tb σ H1 Q := Iff.rfl
theorem rd_chain {tc : TE} : tChain r r' ta tb tc σ H Q ↔ ta σ H fun x H1 => tb σ H1 fun y H2 => r x y H2 fun z H3 => ∃ k, z = .bl k ∧ (if k = true then tc σ H3 fun w' H4 => r' y w' H4 Q else Q (.bl false) H3) := Iff.rfl
theorem rd_nil {R : List V → Hp → Prop} : tNil σ H R ↔ R [] H := Iff.rfl
theorem rd_cons {R : List V → Hp → Prop} : tCons te aa σ H R ↔ te σ H fun x H1 => aa σ H1 fun xs H2 => R (x :: xs) H2 := Iff.rfl
theorem rd_lst : tLst aa σ H Q ↔ aa σ H fun xs H1 => xs.length ≤ sizeLine ∧ ∀ p, H1 p = none → Q (.ref p) (upd H1 p (.lst xs)) := Iff.rfl
theorem rd_tup : tTup aa σ H Q ↔ aa σ H fun xs H1 => xs.length ≤ sizeLine ∧ ∀ p, H1 p = none → Q (.ref p) (upd H1 p (.tup xs)) := Iff.rfl
theorem rd_call {sp : Sp} {dvs : List V} {E : XK} : tCall sp dvs E aa σ H Q ↔ aa σ H fun vs H1 => sp (vs ++ dvs) H1 Q E := Iff.rfl
theorem rd_cb {c : List V → Hp → VK → Prop} : tCB c aa σ H Q ↔ aa σ H fun vs H1 => c vs H1 Q := Iff.rfl
theorem rd_bm {T : String} {m : V → List V → Hp → VK → Prop} : tBM K T m te aa σ H Q ↔ te σ H fun x H1 => tyV K T x H1 ∧ aa σ H1 fun xs H2 => m x xs H2 Q := Iff.rfl
theorem rd_bm0 {T : String} {m : V → List V → Hp → VK → Prop} : tBM0 K T m te σ H Q ↔ te σ H fun x H1 => tyV K T x H1 ∧ m x [] H1 Q := Iff.rfl
theorem rd_sl {m : V → Option Int → Option Int → Hp → VK → Prop} {tl th : TO} : tSl m te tl th σ H Q ↔ te σ H fun x H1 => tl σ H1 fun l H2 => th σ H2 fun u H3 => m x l u H3 Q := Iff.rfl
theorem rd_noPart {R : Option Int → Hp → Prop} : tNoPart σ H R ↔ R none H := Iff.rfl
theorem rd_part {R : Option Int → Hp → Prop} : tPart te σ H R ↔ te σ H fun x H1 => ∃ i, x = .int i ∧ R (some i) H1 := Iff.rfl
theorem rd_tyStr {z : Str} : tyV K "str" (.str z) H ↔ True := ⟨fun _ => trivial, fun _ => rfl⟩
theorem rd_I {C : Int → Int → Prop} {g : Int → Int → V} {i j : Int} : rI C g (.int i) (.int j) H Q ↔ C i j ∧ Q (g i j) H :=
  ⟨fun ⟨_, _, h1, h2, h3⟩ => by cases h1; cases h2; exact h3, fun h => ⟨i, j, rfl, rfl, h⟩⟩
theorem rd_I0 {g : Int → Int → V} {i j : Int} : rI0 g (.int i) (.int j) H Q ↔ Q (g i j) H :=
  ⟨fun ⟨_, _, h1, h2, h3⟩ => by cases h1; cases h2; exact h3, fun h => ⟨i, j, rfl, rfl, h⟩⟩
theorem rd_eqII {i j : Int} : rEq (.int i) (.int j) H Q ↔ Q (.bl (decide (i = j))) H := by
  unfold rEq scal; simp only [true_and, V.int.injEq]
theorem rd_eqSS {i j : Str} : rEq (.str i) (.str j) H Q ↔ Q (.bl (decide (i = j))) H := by
  unfold rEq scal; simp only [true_and, V.str.injEq]
theorem rd_eqBB {i j : Bool} : rEq (.bl i) (.bl j) H Q ↔ Q (.bl (decide (i = j))) H := by
  unfold rEq scal; simp only [true_and, V.bl.injEq]
theorem rd_neII {i j : Int} : rNe (.int i) (.int j) H Q ↔ Q (.bl (!decide (i = j))) H := by
  unfold rNe scal; simp only [true_and, V.int.injEq]
theorem rd_neSS {i j : Str} : rNe (.str i) (.str j) H Q ↔ Q (.bl (!decide (i = j))) H := by
  unfold rNe scal; simp only [true_and, V.str.injEq]
theorem rd_neBB {i j : Bool} : rNe (.bl i) (.bl j) H Q ↔ Q (.bl (!decide (i = j))) H := by
  unfold rNe scal; simp only [true_and, V.bl.injEq]
theorem rd_neNN : rNe .non .non H Q ↔ Q (.bl false) H := ⟨fun h => h.2, fun h => ⟨rfl, h⟩⟩
theorem rd_neSN {i : Str} : rNe (.str i) .non H Q ↔ Q (.bl true) H := ⟨fun h => h.2, fun h => ⟨rfl, h⟩⟩
theorem rd_neNSx {i : Str} : rNe .non (.str i) H Q ↔ Q (.bl true) H := ⟨fun h => h.2, fun h => ⟨rfl, h⟩⟩
theorem rd_eqNN : rEq .non .non H Q ↔ Q (.bl true) H := ⟨fun h => h.2, fun h => ⟨rfl, h⟩⟩
theorem rd_eqSN {i : Str} : rEq (.str i) .non H Q ↔ Q (.bl false) H := ⟨fun h => h.2, fun h => ⟨rfl, h⟩⟩
theorem rd_eqNSx {i : Str} : rEq .non (.str i) H Q ↔ Q (.bl false) H := ⟨fun h => h.2, fun h => ⟨rfl, h⟩⟩
theorem rd_ixS {z : Str} {i : Int} : rIx K (.str z) (.int i) H Q ↔ ∃ c, z.length ≤ sizeLine ∧ atI z.cps.toList i = some c ∧ Q (.str ⟨#[c]⟩) H := by
  constructor
  · rintro (⟨p, xs, j, v, h, _⟩ | ⟨p, xs, j, v, h, _⟩ | ⟨z', j, c, h1, h2, h3, h4, h5⟩)
    · cases h
    · cases h
    · cases h1; cases h2; exact ⟨c, h3, h4, h5⟩
  · rintro ⟨c, h3, h4, h5⟩
    exact .inr (.inr ⟨z, i, c, rfl, rfl, h3, h4, h5⟩)
theorem rd_slS {z : Str} {lo hi : Option Int} : rSl K (.str z) lo hi H Q ↔ z.length ≤ sizeLine ∧ Q (.str (Txt.slice z lo hi)) H := by
  constructor
  · rintro (⟨a, xs, h, _⟩ | ⟨z', h1, h2, h3⟩)
    · cases h
    · cases h1; exact ⟨h2, h3⟩
  · rintro ⟨h2, h3⟩
    exact .inr ⟨z, rfl, h2, h3⟩
end
section
variable {σ : St} {H : Hp} {Q : VK} {K : PySem.W.Frag}
theorem rd_slL {a : Addr} {lo hi : Option Int} : rSl K (.ref a) lo hi H Q ↔ ∃ xs, SqL K H a xs ∧ ∀ p, H p = none → Q (.ref p) (upd H p (.lst (cutV xs lo hi))) := by
  constructor
  · rintro (⟨a', xs, h, h2⟩ | ⟨z', h1, _⟩)
    · cases h; exact ⟨xs, h2⟩
    · cases h1
  · rintro ⟨xs, h2⟩
    exact .inl ⟨a, xs, rfl, h2⟩
theorem rd_ixR {p : Addr} {i : Int} : rIx K (.ref p) (.int i) H Q ↔ ∃ xs v, (SqL K H p xs ∨ SqT K H p xs) ∧ atI xs i = some v ∧ Q v H := by
  constructor
  · rintro (⟨p', xs, j, v, h, h2, h3, h4⟩ | ⟨p', xs, j, v, h, h2, h3, h4⟩ | ⟨z', j, c, h1, _⟩)
    · cases h; cases h2; exact ⟨xs, v, .inl h3, h4⟩
    · cases h; cases h2; exact ⟨xs, v, .inr h3, h4⟩
    · cases h1
  · rintro ⟨xs, v, h | h, h2⟩
    · exact .inl ⟨p, xs, i, v, rfl, rfl, h, h2⟩
    · exact .inr (.inl ⟨p, xs, i, v, rfl, rfl, h, h2⟩)
theorem ad_ref {a b : Addr} : rAddU K (.ref a) (.ref b) H Q ↔ (∃ xs zs, H a = some (.lst xs) ∧ H b = some (.lst zs) ∧ xs.length + zs.length ≤ sizeLine ∧ ∀ p, H p = none → Q (.ref p) (upd H p (.lst (xs ++ zs)))) ∨
      (∃ xs ys, H a = some (.tup xs) ∧ H b = some (.tup ys) ∧ xs.length + ys.length ≤ sizeLine ∧ ∀ p H', Same H H' → H' p = some (.tup (xs ++ ys)) → Q (.ref p) H') := Iff.rfl
theorem cx_K {CX : CXT} {P : Program} {w : World} {mg : Str → Option Value} {base : Heap} {N : List Str} {qual : Str} {scope : Scope} {f : Addr} {cd : Value} {A : Around} {outer : List Env} {s : Shared} {E : XK} :
    (cxOf CX P w K mg base N qual scope f cd A outer s H E).K = K := rfl
end
/-! ### loops as one word -/
def LoopI (J : It) (g : TG) (tb : TS) (D : Ends) (σ : St) (H : Hp) : Prop := ∃ W : Nat → Nat → St → Hp → Prop, (∃ m, W 0 m σ H) ∧ ∀ i m σ H, W i m σ H →
  (J.stop i H ∧ D.nx σ H) ∨ (J.go i H ∧ ∃ N : St → Hp → Prop, (∀ σ' H', N σ' H' → ∃ m', m' < m ∧ W (i + 1) m' σ' H') ∧ ∀ x H', J.yld i H x H' → g x σ H' fun σ2 H2 => tb { D with nx := N, ct := N, bk := D.nx } σ2 H2)
section
variable {σ : St} {H : Hp} {D : Ends} {K : PySem.W.Frag} {te : TE} {g : TG} {tb : TS} {aa : TA}
theorem rd_forS : tFor (iStr te) g tb D σ H ↔ te σ H fun x H1 => ∃ z, x = .str z ∧ LoopI (Its z) g tb D σ H1 := Iff.rfl
theorem rd_forL : tFor (iList K te) g tb D σ H ↔ te σ H fun x H1 => ∃ a, x = .ref a ∧ (∃ xs, SqL K H1 a xs) ∧ LoopI (Itl K a) g tb D σ H1 := Iff.rfl
theorem rd_forR : tFor (iRng1 aa) g tb D σ H ↔ aa σ H fun vs H1 => ∃ j : Int, vs = [.int j] ∧ -(2 ^ 62) ≤ j ∧ j < 2 ^ 62 ∧ LoopI (Itr 0 j.toNat) g tb D σ H1 := Iff.rfl
theorem loop_list {a : Addr} {xs : List V} (Pv : Nat → St → Hp → Prop) (h0 : Pv 0 σ H) (hl : ∀ i σ H, i ≤ xs.length → Pv i σ H → SqL K H a xs)
    (hs : ∀ i x σ H, xs[i]? = some x → Pv i σ H → g x σ H fun σ2 H2 => tb { D with nx := Pv (i + 1), ct := Pv (i + 1), bk := D.nx } σ2 H2) (hd : ∀ σ H, Pv xs.length σ H → D.nx σ H) : LoopI (Itl K a) g tb D σ H := for_list Pv h0 hl hs hd
theorem loop_range {lo : Int} {n : Nat} (Pv : Nat → St → Hp → Prop) (h0 : Pv 0 σ H)
    (hs : ∀ i σ H, i < n → Pv i σ H → g (.int (lo + i)) σ H fun σ2 H2 => tb { D with nx := Pv (i + 1), ct := Pv (i + 1), bk := D.nx } σ2 H2) (hd : ∀ σ H, Pv n σ H → D.nx σ H) : LoopI (Itr lo n) g tb D σ H := for_range Pv h0 hs hd
end
end L2
/-! COMPREHENSIONS of one for over the hand layer: the block has a context of its own, its free names are cells of the def around it. -/
namespace L2
open PySem PySem.Spec PyProof.Rows

section
variable {prog : Program} {w : World} {A : Around} {R : Result → Shared → Prop} {s : Shared}
theorem compLoop_any {elt target iter : Expr} {ifs : List Expr} {scope : Scope} {pos : Pos} {it acc : Value} {env : Env} (I : Nat → Shared → Prop)
    (turn : ∀ n s, I n s → wpAny (model prog w) A (pyNext it) (fun r s₁ => match r with
      | none => R (.ok .next) s₁
      | some v => wpAny (model prog w) A (letOwnedTupleGo target it v) (fun _ s₁' => wpAny (model prog w) A (assign target env v) (fun _ s₂ =>
          wpAny (model prog w) A (forIn ifs true fun c r => if r = true then do let ok ← isTrue c env (eval c env); pure (ForInStep.yield ok) else pure (ForInStep.yield r)) (fun ok s₃ =>
            if ok = true then wpAny (model prog w) A (eval elt env) (fun x s₄ =>
              wpAny (model prog w) A (call (.builtin "list.append") [acc, x]) (fun _ s₅ => ∃ m, m < n ∧ I m s₅) (fun _ _ => False) s₄) (fun _ _ => False) s₃
            else ∃ m, m < n ∧ I m s₃) (fun _ _ => False) s₂) (fun _ _ => False) s₁') (fun _ _ => False) s₁) (fun _ _ => False) s)
    (n : Nat) (h : I n s) : codeAny (model prog w) A (.compLoop (.ListComp elt [⟨target, iter, ifs, 0⟩] scope pos) 0 it acc env) R s := by
  refine codeAny_loop rfl I (fun n s hI => ?_) n h
  show wpAny _ A ((compTurn (.ListComp elt [⟨target, iter, ifs, 0⟩] scope pos) 0 it acc env).onRaise (fun x => do noteFrame x env; theTreesLotGoes x)) _ _ s
  refine wpAny_noted ?_
  rw [compTurn_list]
  refine wpAny_bind (wpAny_standAt (wpAny_bind (wpAny_mono (turn n s hI) (fun r s₁ h₁ => ?_) fun _ _ h' => h'.elim)))
  cases r with
  | none => exact wpAny_pure h₁
  | some v =>
    refine wpAny_bind (wpAny_mono h₁ (fun _ s₁' h₁' => wpAny_bind (wpAny_mono h₁' (fun _ s₂ h₂ => wpAny_bind (wpAny_mono h₂ (fun ok s₃ h₃ => ?_) fun _ _ h' => h'.elim)) fun _ _ h' => h'.elim)) fun _ _ h' => h'.elim)
    cases ok with
    | false => exact wpAny_pure ⟨rfl, h₃⟩
    | true =>
      exact wpAny_bind (wpAny_bind (wpAny_mono h₃ (fun x s₄ h₄ => wpAny_bind (wpAny_mono h₄ (fun _ s₅ h₅ => wpAny_pure (wpAny_pure ⟨rfl, h₅⟩)) fun _ _ h' => h'.elim)) fun _ _ h' => h'.elim))
end

/-- the context of the block -/
def compCx (X : Cx) (N' : List Str) (scope : Scope) (cl : List (Str × Addr)) (s : Shared) (H : Hp) (fp : List Addr) : Cx :=
  { X with N := N', s₀ := s, H₀ := H, env := compEnvC scope cl s.heap.objs.size X.env, outer := X.stack, stack := X.stack, ex := fp, fn := fun _ => false, pn := [], xe := fun _ _ => False }
/-- the free names of the block: where they stand in the def around it -/
inductive Frees (X : Cx) (rs : Scope) (cl : List (Str × Addr)) : List Str → List Nat → Prop where
  | nil : Frees X rs cl [] []
  | cons {y : Str} {i : Nat} {fx : List Str} {fr : List Nat} (h1 : X.N[i]? = some y) (h2 : X.env.kindOf y = some .cell) (h3 : rs.names.lookup y = some .cell) (h4 : cl.lookup y = X.env.cells.lookup y) (r : Frees X rs cl fx fr) : Frees X rs cl (y :: fx) (i :: fr)
def frV (σ : St) (fr : List Nat) : St := fr.map fun i => (σ[i]?).getD none
theorem Frees.len {X : Cx} {rs : Scope} {cl : List (Str × Addr)} {fx : List Str} {fr : List Nat} (F : Frees X rs cl fx fr) : fr.length = fx.length := by
  induction F with
  | nil => rfl
  | cons _ _ _ _ _ ih => simp [ih]
theorem Frees.at {X : Cx} {rs : Scope} {cl : List (Str × Addr)} {σ : St} : ∀ {fx : List Str} {fr : List Nat}, Frees X rs cl fx fr → ∀ (j : Nat) (y : Str) (v : V), fx[j]? = some y → (frV σ fr)[j]? = some (some v) →
    ∃ i : Nat, X.N[i]? = some y ∧ σ[i]? = some (some v) ∧ X.env.kindOf y = some .cell ∧ rs.names.lookup y = some .cell ∧ cl.lookup y = X.env.cells.lookup y
  | _, _, .nil, j, y, v, h, _ => by simp at h
  | _, _, .cons (y := z) (i := i) h1 h2 h3 h4 r, 0, y, v, h, hv => by
    simp only [List.getElem?_cons_zero, Option.some.injEq] at h
    subst h
    simp only [frV, List.map_cons, List.getElem?_cons_zero, Option.some.injEq] at hv
    refine ⟨i, h1, ?_, h2, h3, h4⟩
    cases e : σ[i]? with
    | none => rw [e] at hv; cases hv
    | some o => rw [e] at hv; exact congrArg some hv
  | _, _, .cons h1 h2 h3 h4 r, j + 1, y, v, h, hv => by
    simp only [List.getElem?_cons_succ] at h
    simp only [frV, List.map_cons, List.getElem?_cons_succ] at hv
    exact r.at j y v h hv
theorem Frees.mem {X : Cx} {rs : Scope} {cl : List (Str × Addr)} : ∀ {fx : List Str} {fr : List Nat}, Frees X rs cl fx fr → ∀ y ∈ fx, X.env.kindOf y = some .cell ∧ cl.lookup y = X.env.cells.lookup y
  | _, _, .nil, y, h => by simp at h
  | _, _, .cons h1 h2 h3 h4 r, y, h => by
    rcases List.mem_cons.mp h with rfl | h
    · exact ⟨h2, h4⟩
    · exact r.mem y h

section
variable {X : Cx} {pins : List (Addr × Obj)} {σ : St} {H1 : Hp} {s3 : Shared} {x : Str} {fx : List Str} {fr : List Nat} {scope : Scope} {cl : List (Str × Addr)} {fp : List Addr}
theorem comp_ok (I : Inv X pins σ H1 s3) (hkind : scope.kind = .function) (hcl : ∀ y c, cl.lookup y = some c → X.env.cells.lookup y = some c)
    (F : Frees X (relabel scope X.env) cl fx fr) (hfx : ((relabel scope X.env).names.all fun p => if (p.2 == .cell || p.2 == .free) then fx.contains p.1 else true) = true)
    (ffp : ∀ b ∈ fp, FpOk X pins H1 b) (flt : ∀ b ∈ fp, b < s3.heap.objs.size) : (compCx X (x :: fx) scope cl s3 H1 fp).Ok where
  mod := I.ok.mod
  kind := hkind
  glob := I.ok.glob
  blt := I.ok.blt
  above := Nat.le_refl _
  inj := fun y z c h1 h2 => I.ok.inj y z c (hcl y c h1) (hcl z c h2)
  has := fun y h => by
    have h : (relabel scope X.env).names.lookup y = some .cell ∨ (relabel scope X.env).names.lookup y = some .free := h
    have key : y ∈ fx := by
      rcases h with h | h
      · have q := List.all_eq_true.mp hfx _ (PySem.mem_of_lookup h)
        simpa using q
      · have q := List.all_eq_true.mp hfx _ (PySem.mem_of_lookup h)
        simpa using q
    obtain ⟨k1, k2⟩ := F.mem y key
    obtain ⟨c, e⟩ := I.ok.has y (.inl k1)
    exact ⟨c, k2.trans e⟩
  cab := fun y c h => by cases (show false = true from h)
  hd := I.ok.hd
  frames := I.ok.frames
  stk := .inl rfl
  exf := fun b hb => ⟨Nat.ne_of_lt (flt b hb), fun y c e => (ffp b hb).2.2.2.2.1 y c (hcl y c e)⟩
  bs := I.bs
  bsz := Nat.le_trans I.ok.bsz I.sz
  noex := fun b o e hb => by
    rcases (ffp b hb).2.2.2.1 with z | z
    · exact I.ok.noex b o e z
    · exact absurd (Nat.lt_of_lt_of_le (Heap.lt_size (I.ok.bs b o e).1) z) (Nat.lt_irrefl _)
  exfs := fun b hb z => by
    rcases List.mem_cons.mp (I.stkSub b z) with q | q
    · exact (ffp b hb).2.1 q
    · exact (ffp b hb).2.2.1 q
  funs := I.stack
  frf := I.stkFree
theorem comp_start (I : Inv X pins σ H1 s3) (hkind : scope.kind = .function) (hcl : ∀ y c, cl.lookup y = some c → X.env.cells.lookup y = some c)
    (F : Frees X (relabel scope X.env) cl fx fr) (hfx : ((relabel scope X.env).names.all fun p => if (p.2 == .cell || p.2 == .free) then fx.contains p.1 else true) = true)
    (ffp : ∀ b ∈ fp, FpOk X pins H1 b) (flt : ∀ b ∈ fp, b < s3.heap.objs.size) {h1 : Heap} {t : Nat} {m : Str → Option Value} (hn : h1.Ns s3.heap.objs.size m)
    (keep : ∀ b u, s3.heap.get? b = some u → h1.get? b = some u) : Inv (compCx X (x :: fx) scope cl s3 H1 fp) [] (none :: frV σ fr) H1 { s3 with heap := h1, toks := t } := by
  refine ⟨comp_ok I hkind hcl F hfx ffp flt, rfl, I.bare, Un.kept keep, ⟨m, hn, fun i y v e1 e2 e3 => ?_⟩, fun y c e => ?_, I.hok.fresh (Nat.le_refl _), fun y c e => I.freeC y c (hcl y c e), fun p hp => absurd (show p ∈ ([] : List (Addr × Obj)) from hp) (by simp), I.hok.kept keep, ?_⟩
  · cases i with
    | zero => simp at e2
    | succ j =>
      obtain ⟨i0, k1, k2, k3, k4, k5⟩ := F.at (σ := σ) j y v (by simpa [compCx] using e1) (by simpa using e2)
      obtain ⟨m0, hn0, hl0⟩ := I.loc
      obtain ⟨u, r, l⟩ := hl0 i0 y v k1 k2 (.inr (.inl k3))
      refine ⟨u, r, ?_⟩
      rcases l with ⟨z, _⟩ | ⟨_, c, e, o, ho, hd⟩
      · rw [k3] at z; cases z
      · exact .inr ⟨.inl k4, c, k5.trans e, o, keep c o ho, hd⟩
  · obtain ⟨v, o, ho, hd⟩ := I.cell y c (hcl y c e)
    exact ⟨v, o, keep c o ho, hd⟩
  · show (none :: frV σ fr).length = (x :: fx).length
    simp [frV, F.len]
theorem comp_done {N' : List Str} {pins' : List (Addr × Obj)} {σ' : St} {H2 : Hp} {s' : Shared} {h' : Heap} (I : Inv X pins σ H1 s3) (J : Inv (compCx X N' scope cl s3 H1 fp) pins' σ' H2 s') (ffp : ∀ b ∈ fp, FpOk X pins H1 b)
    (sb : Heap.SameBut s3.heap.objs.size s'.heap h') : Inv X pins σ H2 { s' with heap := h' } := by
  have k : ∀ b u, b ≠ s3.heap.objs.size → s'.heap.get? b = some u → h'.get? b = some u := fun b u hb e => sb.extBut b u hb e
  have lt : ∀ b u, s3.heap.get? b = some u → b ≠ s3.heap.objs.size := fun b u e => Nat.ne_of_lt (Heap.lt_size e)
  have u : Un (frs X.stack) fp H1 H2 s3.heap s'.heap := J.base
  have u' : Un (frs X.stack) fp H1 H2 s3.heap h' :=
    ⟨fun b o q n hb hx => k b o (lt b o q) (u.keep b o q n hb hx), fun b o q n hb hx => by
        obtain ⟨sl, e⟩ := u.slot b o q n hb hx
        exact ⟨sl, k b _ (lt b o q) e⟩, u.free, fun b o q hx => by
        obtain ⟨o', e⟩ := u.there b o q hx
        exact ⟨o', k b _ (lt b o q) e⟩, u.tups, u.frzs, u.tbls⟩
  have nC : H2 s3.heap.objs.size = none := J.free
  have hok : HOk X.prog X.w H2 h' := fun b uo e => by
    refine (J.hok b uo e).stay (fun c v hc q => k c v ?_ q) (fun _ q => q) fun _ _ q => q
    rintro rfl
    rcases hc with z | z
    · rw [← z, nC] at e; cases e
    · rw [nC] at z; cases z
  have os : s'.os = s3.os := J.os
  have bare := J.bare
  obtain ⟨hh, g, d, t, os'⟩ := s'
  obtain rfl : os' = s3.os := os
  have fin := I.call (h' := h') (g' := g) (d' := d) (t' := t) (ch := fp) u' hok bare fun b hb => by
    obtain ⟨f0, f1, f2, f3, f4, f5⟩ := ffp b hb
    exact ⟨f3, f1, f4, f5⟩
  exact fin
end

/-- the tests behind a for -/
def PF (X : Cx) (ifs : List Expr) (t : TT) : Prop :=
  ∀ (pins : List (Addr × Obj)) (s : Shared) (σ : St) (H : Hp) (Q : Bool → Hp → Prop), Inv X pins σ H s → t σ H Q →
    wpAny (model X.prog X.w) X.A (forIn ifs true fun c r => if r = true then do let ok ← isTrue c X.env (eval c X.env); pure (ForInStep.yield ok) else pure (ForInStep.yield r)) (TP X pins σ Q) X.xe s
def tYes : TT := fun _ H Q => Q true H
theorem pf_nil {X : Cx} : PF X [] tYes := fun _ _ _ H _ I h => wpAny_tests_nil ⟨H, I, h⟩
/-- the walk of a comprehension: J what is walked, p the list that is made, fv the free names' values -/
def CompI (J : It) (p : Addr) (fv : St) (tt : TT) (te : TE) (Q : VK) (H1 : Hp) : Prop :=
  ∃ W : Nat → Nat → List V → Hp → Prop, (∃ m, W 0 m [] (upd H1 p (.lst []))) ∧ ∀ i m ys H2, W i m ys H2 → H2 p = some (.lst ys) ∧
    ((J.stop i H2 ∧ Q (.ref p) H2) ∨ (J.go i H2 ∧ ys.length < sizeLine ∧ ∀ x H3, J.yld i H2 x H3 → tt (some x :: fv) H3 fun b H4 =>
      if b = true then te (some x :: fv) H4 fun y H5 => H5 p = some (.lst ys) ∧ ∃ m', m' < m ∧ W (i + 1) m' (ys ++ [y]) (upd H5 p (.lst (ys ++ [y])))
      else ∃ m', m' < m ∧ W (i + 1) m' ys H4))
def tComp (wi : TI) (fr : List Nat) (tt : TT) (te : TE) : TE := fun σ H Q => wi σ H fun J H1 => ∀ p, H1 p = none → CompI J p (frV σ fr) tt te Q H1

section
variable {X : Cx} {elt iter : Expr} {x : Str} {px pos : Pos} {ifs : List Expr} {scope : Scope} {cl : List (Str × Addr)} {fx : List Str} {fr : List Nat} {wi : TI} {tt : TT} {te : TE}
theorem comp_block {pins : List (Addr × Obj)} {σ : St} {H3 : Hp} {s3 : Shared} {it p : Addr} {fp : List Addr} {tn : Nat → Heap → Prop} {J : It} {Q : VK} {W : Nat → Nat → List V → Hp → Prop} {m0 t : Nat} {h₁ : Heap} {m : Str → Option Value} {RR : Result → Shared → Prop}
    (hc : X.calm = true) (hkind : scope.kind = .function) (hx : scope.names.lookup x = some .local) (hnd : (x :: fx).Nodup)
    (hcl : ∀ y c, cl.lookup y = some c → X.env.cells.lookup y = some c) (F : Frees X (relabel scope X.env) cl fx fr)
    (hfx : ((relabel scope X.env).names.all fun p => if (p.2 == .cell || p.2 == .free) then fx.contains p.1 else true) = true)
    (ht : ∀ s H fp, PF (compCx X (x :: fx) scope cl s H fp) ifs tt) (he : ∀ s H fp, PE (compCx X (x :: fx) scope cl s H fp) elt te)
    (I3 : Inv X pins σ H3 s3) (T : Turn X.prog X.w X.K (.Name x px) J fp it tn) (st3 : tn 0 s3.heap) (ffp : ∀ b ∈ fp, FpOk X pins H3 b) (flt3 : ∀ b ∈ fp, b < s3.heap.objs.size)
    (w0 : W 0 m0 [] H3) (turn : ∀ i m ys H2, W i m ys H2 → H2 p = some (.lst ys) ∧
      ((J.stop i H2 ∧ Q (.ref p) H2) ∨ (J.go i H2 ∧ ys.length < sizeLine ∧ ∀ x H3, J.yld i H2 x H3 → tt (some x :: frV σ fr) H3 fun b H4 =>
        if b = true then te (some x :: frV σ fr) H4 fun y H5 => H5 p = some (.lst ys) ∧ ∃ m', m' < m ∧ W (i + 1) m' (ys ++ [y]) (upd H5 p (.lst (ys ++ [y])))
        else ∃ m', m' < m ∧ W (i + 1) m' ys H4)))
    (hns : h₁.Ns s3.heap.objs.size m) (keep1 : ∀ b u, s3.heap.get? b = some u → h₁.get? b = some u)
    (fin : ∀ s6 H5 o, Inv (compCx X (x :: fx) scope cl s3 H3 fp) [] (o :: frV σ fr) H5 s6 → Q (.ref p) H5 → RR (.ok .next) s6) :
    codeAny (model X.prog X.w) X.A (.compStart (.ListComp elt [⟨.Name x px, iter, ifs, 0⟩] scope pos) 0 (.ref it) (.ref p) (compEnvC scope cl s3.heap.objs.size X.env))
      RR { s3 with heap := h₁, toks := t } := by
  have I4 := comp_start (x := x) (t := t) I3 hkind hcl F hfx ffp flt3 hns keep1
  have st4 : tn 0 h₁ := T.keep _ _ _ st3 fun b hb o e => keep1 b o e
  have fp0 : ∀ b ∈ fp, H3 b = none := fun b hb => (ffp b hb).1
  have hcal : (compCx X (x :: fx) scope cl s3 H3 fp).calm = true := hc
  have stat : ∀ {H' : Hp}, (∀ b ∈ fp, H' b = none) → ∀ b ∈ fp, FpOk (compCx X (x :: fx) scope cl s3 H3 fp) [] H' b := fun {H'} hn b hb => by
    obtain ⟨f0, f1, f2, f3, f4, f5⟩ := ffp b hb
    exact ⟨hn b hb, Nat.ne_of_lt (flt3 b hb), I4.ok.exfs b hb, .inl hb, fun y c e => f4 y c (hcl y c e), fun q hq => absurd (show q ∈ ([] : List (Addr × Obj)) from hq) (by simp)⟩
  have hxl : (relabel scope X.env).names.lookup x = some .local := lookup_relabel_local hx
  have pg : PG (compCx X (x :: fx) scope cl s3 H3 fp) (.Name x px) (gName 0) := pg_name (i := 0) hnd rfl (.inl hxl) (.inr hxl)
  have loop : codeAny (model X.prog X.w) X.A (.compLoop (.ListComp elt [⟨.Name x px, iter, ifs, 0⟩] scope pos) 0 (.ref it) (.ref p) (compEnvC scope cl s3.heap.objs.size X.env))
        RR { s3 with heap := h₁, toks := t } := by
    refine compLoop_any (fun n s' => ∃ i ys H' o, Inv (compCx X (x :: fx) scope cl s3 H3 fp) [] (o :: frV σ fr) H' s' ∧ tn i s'.heap ∧ (∀ b ∈ fp, H' b = none) ∧ W i n ys H') ?_ m0 ⟨0, [], _, none, I4, st4, fp0, w0⟩
    rintro n s5 ⟨i, ys, H5, o, I5, st5, fr5, w5⟩
    obtain ⟨hp5, alt⟩ := turn i n ys H5 w5
    rcases alt with ⟨stop, qn⟩ | ⟨go, hlen, step⟩
    · refine thn (T.done (compCx X (x :: fx) scope cl s3 H3 fp) rfl rfl rfl hcal i [] s5 (o :: frV σ fr) H5 _ I5 (stat fr5) st5 stop) fun r s6 ⟨hr, I6⟩ => ?_
      subst hr
      exact fin s6 H5 o I6 qn
    · refine thn (T.item (compCx X (x :: fx) scope cl s3 H3 fp) rfl rfl rfl hcal i [] s5 (o :: frV σ fr) H5 _ I5 (stat fr5) st5 go) fun r s6 ⟨u, hr, h6⟩ => ?_
      subst hr
      refine thn h6 fun _ s7 ⟨y7, H7, I7, r7, yl7, st7, fr7⟩ => ?_
      have I7' := I7.pinned (stat fr7) (T.obj _ _ st7)
      have back : ∀ {σ' : St} {H' : Hp} {s' : Shared}, Inv (compCx X (x :: fx) scope cl s3 H3 fp) ([] ++ pinsAt fp s7.heap) σ' H' s' → tn (i + 1) s'.heap ∧ ∀ b ∈ fp, H' b = none := fun {σ' H' s'} I' => by
        refine ⟨T.keep _ _ _ st7 fun b hb o e => (I'.pin (b, o) (List.mem_append_right _ (List.mem_append_right _ (mem_pinsAt hb e)))).1, fun b hb => ?_⟩
        obtain ⟨o, e, d⟩ := T.obj _ _ st7 b hb
        exact (I'.pin (b, o) (List.mem_append_right _ (List.mem_append_right _ (mem_pinsAt hb e)))).2.1
      refine thn (pg _ s7 _ H7 y7 u (fun σ' H' => σ' = some y7 :: frV σ fr ∧ H' = H7) I7' r7 ⟨rfl, rfl⟩) fun _ s8 ⟨σ8, H8, I8, e8, e8'⟩ => ?_
      subst e8 e8'
      refine thn (ht s3 H3 fp _ s8 _ _ _ I8 (step y7 _ yl7)) fun b s9 ⟨H9, I9, q9⟩ => ?_
      cases b with
      | false =>
        rw [if_neg Bool.false_ne_true] at q9 ⊢
        obtain ⟨m', hm, w9⟩ := q9
        exact ⟨m', hm, i + 1, ys, H9, some y7, I9.unpinned, (back I9).1, (back I9).2, w9⟩
      | true =>
        rw [if_pos rfl] at q9 ⊢
        refine thn (he s3 H3 fp _ s9 _ H9 _ I9 q9) fun u10 s10 ⟨y10, H10, I10, r10, hp10, m', hm, w10⟩ => ?_
        refine thn (mt_append _ s10 _ H10 (.ref p) [y10] (.ref p) [u10] (fun _ H' => H' = upd H10 p (.lst (ys ++ [y10]))) I10 rfl (.cons r10 .nil) ⟨p, ys, y10, rfl, rfl, hp10, hlen, rfl⟩) fun _ s11 ⟨_, H11, I11, _, e11⟩ => ?_
        subst e11
        exact ⟨m', hm, i + 1, ys ++ [y10], _, some y7, I11.unpinned, (back I11).1, (back I11).2, w10⟩
  exact codeAny_compStart_list loop (T.self _ 0 _ _ _ st4 loop)
theorem pe_comp (hc : X.calm = true) (hclos : closureFor scope X.env = pure cl) (hcell : ∀ y ∈ scope.names, y.2 ≠ .cell) (hkind : scope.kind = .function)
    (hnames : ∀ y ∈ scope.names, y.2 = .local → scope.names.lookup y.1 = some .local) (hx : scope.names.lookup x = some .local) (hnd : (x :: fx).Nodup)
    (hk : (cl.all fun q => fx.contains q.1) = true) (F : Frees X (relabel scope X.env) cl fx fr)
    (hfx : ((relabel scope X.env).names.all fun p => if (p.2 == .cell || p.2 == .free) then fx.contains p.1 else true) = true)
    (hi : PI X (.Name x px) iter wi) (ht : ∀ s H fp, PF (compCx X (x :: fx) scope cl s H fp) ifs tt) (he : ∀ s H fp, PE (compCx X (x :: fx) scope cl s H fp) elt te)
    (hs : ∀ x, foldedSetIterable iter X.env x = pure x := by intro _; rfl) :
    PE X (.ListComp elt [⟨.Name x px, iter, ifs, 0⟩] scope pos) (tComp wi fr tt te) := by
  intro pins s σ H Q I h
  have hcl : ∀ y c, cl.lookup y = some c → X.env.cells.lookup y = some c := fun y c e => by
    have q := List.all_eq_true.mp hk _ (PySem.mem_of_lookup e)
    rw [← (F.mem y (by simpa using q)).2]
    exact e
  rw [eval_ListComp]
  refine wpAny_comprehension_free (use := none) rfl hs hclos hkind hnames ?_
  refine thn (hi pins s σ H _ I h) fun v s1 h1 => thn h1 fun itv s2 h2 => ?_
  obtain ⟨it, fp, tn, J, H2, e, I2, T, st2, f2, q2⟩ := h2
  subst e
  have hp0 : H2 s2.heap.objs.size = none := I2.hok.fresh (Nat.le_refl _)
  obtain ⟨W, ⟨m0, w0⟩, turn⟩ := q2 _ hp0
  have flt : ∀ b ∈ fp, b < s2.heap.objs.size := fun b hb => by
    obtain ⟨o, e, _⟩ := T.obj _ _ st2 b hb
    exact Heap.lt_size e
  refine wpAny_newObj_type (wpAny_newFunctionEnv hcell (by intro y hy; simp at hy) (fun h₁ hns₁ hsb₁ => ?_) hkind)
  dsimp only at hns₁ hsb₁ ⊢
  have hlay : ∀ b u, s2.heap.get? b = some u → (s2.heap.push { cls := .type "list", dict := none, data := .seq ([] : List Value).toArray }).get? b = some u := fun b u e => Heap.get?_push_of_some _ e
  have hnew : (s2.heap.push { cls := .type "list", dict := none, data := .seq ([] : List Value).toArray }).get? s2.heap.objs.size = some { cls := .type "list", dict := none, data := .seq ([] : List Value).toArray } := Heap.get?_push_size _ rfl
  have hsz : (s2.heap.push { cls := .type "list", dict := none, data := .seq ([] : List Value).toArray }).objs.size = s2.heap.objs.size + 1 := Heap.size_push _ _
  generalize hHH : s2.heap.push { cls := .type "list", dict := none, data := .seq ([] : List Value).toArray } = HH at hns₁ hsb₁ hlay hnew hsz ⊢
  have I3 : Inv X pins σ (upd H2 s2.heap.objs.size (.lst [])) { s2 with heap := HH, toks := s2.toks } :=
    I2.laid (t' := s2.toks) (o := .lst []) hlay (Nat.le_refl _) ⟨Nat.zero_le _, [], 0, .nil, hnew⟩
  have ffp : ∀ b ∈ fp, FpOk X pins (upd H2 s2.heap.objs.size (.lst [])) b := fun b hb => by
    obtain ⟨f0, fr'⟩ := f2 b hb
    exact ⟨by rw [upd_ne (Nat.ne_of_lt (flt b hb))]; exact f0, fr'⟩
  have keep1 : ∀ b u, HH.get? b = some u → h₁.get? b = some u := fun b u e => hsb₁.extBut b u (Nat.ne_of_lt (Heap.lt_size e)) (Heap.get?_push_of_some _ e)
  exact comp_block (s3 := { s2 with heap := HH, toks := s2.toks }) hc hkind hx hnd hcl F hfx ht he I3 T (T.keep _ _ _ st2 fun b hb o e => hlay b o e) ffp (fun b hb => by show b < HH.objs.size; rw [hsz]; exact Nat.lt_succ_of_lt (flt b hb)) w0 turn hns₁ keep1 fun s6 H5 o I6 qn => by
    obtain ⟨m, hn6, _⟩ := id I6.loc
    exact ⟨m, hn6, fun h' sb => ⟨.ref _, H5, comp_done I3 I6 ffp sb, rfl, qn⟩⟩
end

/-! ### the forms one uses -/
section
variable {p : Addr} {fv : St} {te : TE} {Q : VK} {H1 : Hp}
/-- over a text, no test: each sign's value, what is tracked stays -/
theorem comp_str {z : Str} (hz : z.length ≤ sizeLine) (hp : H1 p = none) (f : Nat → V)
    (he : ∀ c, c ∈ z.cps.toList → ∀ (H' : Hp) (R : VK), (∀ H'', Same H' H'' → R (f c) H'') → te (some (.str ⟨#[c]⟩) :: fv) H' R)
    (hQ : ∀ H', Same H1 H' → H' p = some (.lst (z.cps.toList.map f)) → Q (.ref p) H') : CompI (Its z) p fv tYes te Q H1 := by
  have hl : z.cps.toList.length = z.length := by simp [Str.length]
  refine ⟨fun i m ys H2 => m = z.length - i ∧ i ≤ z.length ∧ ys = (z.cps.toList.take i).map f ∧ H2 p = some (.lst ys) ∧ Same H1 H2, ⟨z.length, by simp, Nat.zero_le _, by simp, upd_same, fun b o e => by rw [upd_ne (ne_of_none e hp)]; exact e⟩, ?_⟩
  rintro i m ys H2 ⟨rfl, hi, rfl, hp2, sm⟩
  refine ⟨hp2, ?_⟩
  by_cases hlt : i < z.length
  · refine .inr ⟨hlt, ?_, fun x H3 y => ?_⟩
    · rw [List.length_map, List.length_take]; omega
    · obtain ⟨rfl, c, hc, rfl⟩ := y
      unfold tYes
      dsimp only
      rw [if_pos rfl]
      refine he c (List.mem_of_getElem? hc) _ _ fun H5 s5 => ⟨s5 _ _ hp2, z.length - (i + 1), by omega, rfl, hlt, ?_, upd_same, fun b o e => ?_⟩
      · rw [List.take_add_one, hc, List.map_append]; rfl
      · rw [upd_ne (ne_of_none e hp)]; exact s5 _ _ (sm _ _ e)
  · have e : i = z.length := by omega
    subst e
    refine .inl ⟨Nat.le_refl _, hQ H2 sm ?_⟩
    rw [hp2, ← hl, List.take_length]
end
section
variable {σ : St} {H : Hp} {Q : VK} {K : PySem.W.Frag} {tl te : TE} {tt : TT} {fr : List Nat}
theorem frV_nil : frV σ [] = [] := rfl
theorem frV_cons {i : Nat} {r : List Nat} : frV σ (i :: r) = (σ[i]?).getD none :: frV σ r := rfl
theorem jo_ref {z : Str} {p : Addr} : rJoin K (.str z) [.ref p] H Q ↔ ∃ ys : List Str, SqL K H p (ys.map V.str) ∧ (ys.map (·.length)).sum + ys.length * z.length ≤ 16777216 ∧ Q (.str (Txt.join z ys)) H := by
  constructor
  · rintro ⟨z', p', ys, h1, h2, h3⟩
    cases h1; cases h2
    exact ⟨ys, h3⟩
  · rintro ⟨ys, h⟩
    exact ⟨z, p, ys, rfl, rfl, h⟩
theorem rd_compS : tComp (iStr tl) fr tt te σ H Q ↔ tl σ H fun x H1 => ∃ z, x = .str z ∧ ∀ p, H1 p = none → CompI (Its z) p (frV σ fr) tt te Q H1 := Iff.rfl
theorem rd_compL : tComp (iList K tl) fr tt te σ H Q ↔ tl σ H fun x H1 => ∃ a, x = .ref a ∧ (∃ xs, SqL K H1 a xs) ∧ ∀ p, H1 p = none → CompI (Itl K a) p (frV σ fr) tt te Q H1 := Iff.rfl
end

/-! ### the rules again, the written part named -/
section
variable {X : Cx} {K : PySem.W.Frag}
theorem op_addK (h : X.K = K) : OpR X (binaryOp .Add) (rAddU K) := by subst h; exact op_addU
theorem ix_seqK (h : X.K = K) : IxR X (rIx K) := by subst h; exact ix_seq
theorem sl_anyK (h : X.K = K) : SlR X (rSl K) := by subst h; exact sl_any
theorem call_lenK (h : X.K = K) : CallR X (.builtin "len") (rLenU K) := by subst h; exact call_lenU
theorem mt_joinK (h : X.K = K) : MtR X "str.join" (rJoin K) := by subst h; exact mt_join
theorem pi_listK {tg l : Expr} {tl : TE} (h : X.K = K) (hl : PE X l tl) : PI X tg l (iList K tl) := by subst h; exact pi_list hl
variable {o e : Expr} {es : List Expr} {to : TE} {t : TA} {name : Str} {apos cpos : Pos} {T id : String} {r : V → List V → Hp → VK → Prop}
theorem pe_bm0K (h : X.K = K) (pa : PlainAttrs T) (slot : Slot T name id) (hty : typeOf (.builtin id) = pure (.type "method_descriptor")) (hm : MtR X id r) (ho : PE X o to)
    (hbase : attributeBase o name X.env (eval o X.env) = eval o X.env := by rfl) (hline : (apos.endLine == cpos.line) = true := by rfl) : PE X (.Call (.Attribute o name apos) [] [] cpos) (tBM0 K T r to) := by
  subst h; exact pe_bm0 pa slot hty hm ho hbase hline
theorem pe_bmK (h : X.K = K) (pa : PlainAttrs T) (slot : Slot T name id) (hty : typeOf (.builtin id) = pure (.type "method_descriptor")) (hm : MtR X id r) (ho : PE X o to) (ha : PA X (e :: es) t)
    (hbase : attributeBase o name X.env (eval o X.env) = eval o X.env := by rfl)
    (hfew : ((backTo cpos (starEach (e :: es) X.env)).all (fun x => !x.1) && (backToKw cpos (keywordEach [] X.env)).all (fun x => x.1.isSome)
      && decide ((e :: es).length + ([] : List Keyword).length + (if ([] : List Keyword).isEmpty then 0 else 1) < 30)) = true := by rfl)
    (hline : (apos.endLine == cpos.line) = true := by rfl) (hs : starEach (e :: es) X.env = (false, eval e X.env) :: starEach es X.env := by rfl) (hplain : (backTo cpos (starEach es X.env)).any (·.1) = false := by rfl) :
    PE X (.Call (.Attribute o name apos) (e :: es) [] cpos) (tBM K T r to t) := by
  subst h; exact pe_bm pa slot hty hm ho ha hbase hfew hline hs hplain
end

/-! ### defs with a default -/
structure FunD (K : PySem.W.Frag) (x qual : Str) (st : Stmt) (f : Addr) (fd : FuncData) (T : Addr) : Prop where
  ex : ∃ (oc : Value) (od : Option Addr) (kV doc pm : Value) (an : Option Addr) (cdv ct : Value) (osl : Array (Option Value)),
    fd = PySem.W.fnOf x qual (defArgs st) (defBody st) (defScope st) (.ref T) kV doc pm an cdv ct ∧ K.lookup f = some ⟨oc, od, .func fd, osl⟩ ∧ PySem.W.codeIn K cdv qual = true
  kp : PySem.W.keepIn K (.ref f) = true
section
variable {P : Program} {w : World} {K : PySem.W.Frag} {mg : Str → Option Value} {base : Heap}
theorem FunD.ok {x qual : Str} {st : Stmt} {f T : Addr} {fd : FuncData} {N ps : List Str} {k : Nat} {sp : Sp} (F : FunD K x qual st f fd T) (S : FnScope N ps (defScope st)) (len : ∀ vs H Q E, sp vs H Q E → vs.length = ps.length)
    (hbody : ∀ (cdv : Value) (A : Around) (outer : List Env) (s : Shared) (H : Hp) (vs : List V) (Q : VK) (E : XK), Room k (A.deeper (envOfC qual (defScope st) s.heap.objs.size f cdv)) → sp vs H Q E →
      ∃ t, PSs (cxOf CX0 P w K mg base N qual (defScope st) f cdv A outer s H E).nox (defBody st) t ∧ t { nx := fun _ H' => Q .non H', rt := Q } (start N vs) H) : FnOk P w K mg base CX0 (k + 1) f fd ps sp := by
  obtain ⟨oc, od, kV, doc, pm, an, cdv, ct, osl, rfl, lk, hcd⟩ := F.ex
  refine fn_of lk hcd S len fun A outer s H vs Q E hr hsp => ?_
  obtain ⟨t, h, q⟩ := hbody cdv A outer s H vs Q E hr hsp
  exact ⟨t, h.nox, q⟩
theorem FunD.binds {x qual : Str} {st : Stmt} {f T : Addr} {fd : FuncData} {ps : List Str} {ds : List Value} {oc : Value} {od : Option Addr} {items : Array Value} {n : Nat} {sl : Array (Option Value)} (F : FunD K x qual st f fd T) (hT : K.lookup T = some ⟨oc, od, .seq items n, sl⟩)
    (h : ∀ (kV doc pm : Value) (an : Option Addr) (cdv ct : Value) (us : List Value), (us ++ ds).length = ps.length → ∃ k : Option (Array Value) → Sem (List (Str × Value)),
      bindArgs (PySem.W.fnOf x qual (defArgs st) (defBody st) (defScope st) (.ref T) kV doc pm an cdv ct) ⟨us, []⟩ = seqItems? (.ref T) >>= k ∧ k (some items) = pure (ps.zip (us ++ ds))) : Binds K fd ps ds := by
  obtain ⟨oc', od', kV, doc, pm, an, cdv, ct, osl, rfl, lk, hcd⟩ := F.ex
  intro s us X hl
  obtain ⟨k, h1, h2⟩ := h kV doc pm an cdv ct us hl
  exact BindsTo.of_defaults (T := T) rfl (X T _ hT) rfl h1 h2
theorem funD_mk {x qual : Str} {st : Stmt} {f T : Addr} {oc : Value} {od an : Option Addr} {osl : Array (Option Value)} {kV doc pm cdv ct : Value} (l : K.lookup f = some ⟨oc, od, .func (PySem.W.fnOf x qual (defArgs st) (defBody st) (defScope st) (.ref T) kV doc pm an cdv ct), osl⟩)
    (c : PySem.W.codeIn K cdv qual = true) (k : PySem.W.keepIn K (.ref f) = true) : FunD K x qual st f (PySem.W.fnOf x qual (defArgs st) (defBody st) (defScope st) (.ref T) kV doc pm an cdv ct) T := ⟨⟨oc, od, kV, doc, pm, an, cdv, ct, osl, rfl, l, c⟩, k⟩
end
/-! ### while, by a word with its measure -/
theorem while_W {c : TT} {tb : TS} {D : Ends} {σ : St} {H : Hp} (W : Nat → St → Hp → Prop) (m0 : Nat) (h0 : W m0 σ H)
    (hs : ∀ m σ H, W m σ H → c σ H fun b H1 => if b = true then ∃ N : St → Hp → Prop, (∀ σ' H', N σ' H' → ∃ m', m' < m ∧ W m' σ' H') ∧ tb { D with nx := N, ct := N, bk := D.nx } σ H1 else D.nx σ H1) : tWhile c tb D σ H := ⟨W, ⟨m0, h0⟩, hs⟩
section
variable {σ : St} {H : Hp} {Q : VK}
theorem rd_un {r : V → Hp → VK → Prop} {ta : TE} : tUn r ta σ H Q ↔ ta σ H fun x H1 => r x H1 Q := Iff.rfl
theorem rd_U {g : Int → V} {i : Int} : rU g (.int i) H Q ↔ Q (g i) H := ⟨fun ⟨_, h1, h2⟩ => by cases h1; exact h2, fun h => ⟨i, rfl, h⟩⟩
theorem ap_ref {l : Addr} {y : V} : rAppend (.ref l) [y] H Q ↔ ∃ xs, H l = some (.lst xs) ∧ xs.length < sizeLine ∧ Q .non (upd H l (.lst (xs ++ [y]))) := by
  constructor
  · rintro ⟨l', xs, y', h1, h2, h3⟩
    cases h1; cases h2
    exact ⟨xs, h3⟩
  · rintro ⟨xs, h⟩
    exact ⟨l, xs, y, rfl, rfl, h⟩
theorem ty_list {K : PySem.W.Frag} {p : Addr} : tyV K "list" (.ref p) H ↔ ∃ xs, SqL K H p xs := by
  constructor
  · rintro (⟨_, h⟩ | ⟨h, _⟩ | ⟨h, _⟩ | ⟨h, _⟩)
    · exact h
    · exact absurd h (by decide)
    · exact absurd h (by decide)
    · exact absurd h (by decide)
  · intro h; exact .inl ⟨rfl, h⟩
end
end L2
/-! PLAIN DATA over the hand layer: what a value is, whole, as a tree; deep comparisons. -/
namespace L2
open PySem PySem.Spec PyProof.Rows
mutual
inductive Is (H : Hp) : PyData → V → Prop
  | non : Is H .none .non
  | bl (b : Bool) : Is H (.bool b) (.bl b)
  | int (i : Int) : Is H (.int i) (.int i)
  | str (x : Str) : Is H (.str x) (.str x)
  | lst {p : Addr} {xs : List V} {ds : List PyData} : H p = some (.lst xs) → IsAll H ds xs → Is H (.list ds) (.ref p)
  | tup {p : Addr} {xs : List V} {ds : List PyData} : H p = some (.tup xs) → IsAll H ds xs → Is H (.tuple ds) (.ref p)
inductive IsAll (H : Hp) : List PyData → List V → Prop
  | nil : IsAll H [] []
  | cons {d : PyData} {x : V} {ds : List PyData} {xs : List V} : Is H d x → IsAll H ds xs → IsAll H (d :: ds) (x :: xs)
end
mutual
theorem Is.mono {H H' : Hp} (sm : Same H H') : ∀ {d : PyData} {x : V}, Is H d x → Is H' d x
  | _, _, .non => .non
  | _, _, .bl b => .bl b
  | _, _, .int i => .int i
  | _, _, .str x => .str x
  | _, _, .lst h r => .lst (sm _ _ h) (IsAll.mono sm r)
  | _, _, .tup h r => .tup (sm _ _ h) (IsAll.mono sm r)
theorem IsAll.mono {H H' : Hp} (sm : Same H H') : ∀ {ds : List PyData} {xs : List V}, IsAll H ds xs → IsAll H' ds xs
  | _, _, .nil => .nil
  | _, _, .cons h r => .cons (Is.mono sm h) (IsAll.mono sm r)
end
theorem IsAll.length {H : Hp} : ∀ {ds : List PyData} {xs : List V}, IsAll H ds xs → ds.length = xs.length
  | _, _, .nil => rfl
  | _, _, .cons _ r => by rw [List.length_cons, List.length_cons, IsAll.length r]
theorem IsAll.append {H : Hp} : ∀ {ds es : List PyData} {xs ys : List V}, IsAll H ds xs → IsAll H es ys → IsAll H (ds ++ es) (xs ++ ys)
  | _, _, _, _, .nil, r => r
  | _, _, _, _, .cons h t, r => .cons h (t.append r)
theorem IsAll.at {H : Hp} : ∀ {ds : List PyData} {xs : List V}, IsAll H ds xs → ∀ (i : Nat) (x : V), xs[i]? = some x → ∃ d, ds[i]? = some d ∧ Is H d x
  | _, _, .nil, i, x, h => by simp at h
  | _, _, .cons q r, 0, x, h => by simp at h; subst h; exact ⟨_, rfl, q⟩
  | _, _, .cons q r, i + 1, x, h => by
    obtain ⟨d, h1, h2⟩ := r.at i x (by simpa using h)
    exact ⟨d, by simpa using h1, h2⟩
theorem IsAll.take {H : Hp} : ∀ {ds : List PyData} {xs : List V} (n : Nat), IsAll H ds xs → IsAll H (ds.take n) (xs.take n)
  | _, _, 0, _ => .nil
  | _, _, _ + 1, .nil => .nil
  | _, _, n + 1, .cons r t => .cons r (t.take n)
theorem IsAll.drop {H : Hp} : ∀ {ds : List PyData} {xs : List V} (n : Nat), IsAll H ds xs → IsAll H (ds.drop n) (xs.drop n)
  | _, _, 0, r => r
  | _, _, _ + 1, .nil => .nil
  | _, _, n + 1, .cons _ t => t.drop n
theorem IsAll.set {H : Hp} {d : PyData} {x : V} (h : Is H d x) : ∀ {ds : List PyData} {xs : List V} (n : Nat), IsAll H ds xs → IsAll H (ds.set n d) (xs.set n x)
  | _, _, _, .nil => .nil
  | _, _, 0, .cons _ t => .cons h t
  | _, _, n + 1, .cons r t => .cons r (t.set h n)
theorem IsAll.strs {H : Hp} : ∀ (l : List Str), IsAll H (l.map PyData.str) (l.map V.str)
  | [] => .nil
  | x :: r => .cons (.str x) (IsAll.strs r)
section
variable {X : Cx} {pins : List (Addr × Obj)} {σ : St} {H : Hp} {s : Shared}
mutual
theorem Is.reads (I : Inv X pins σ H s) : ∀ {d : PyData} {x : V} {v : Value}, Is H d x → RelV x v → ∃ as, Reads s.heap v d as
  | _, _, _, .non, r => by cases r; exact ⟨_, .none⟩
  | _, _, _, .bl b, r => by cases r; exact ⟨_, .bool b⟩
  | _, _, _, .int i, r => by obtain ⟨t, rfl⟩ := r; exact ⟨_, .int i t⟩
  | _, _, _, .str x, r => by obtain ⟨t, rfl⟩ := r; exact ⟨_, .str x t⟩
  | _, _, _, .lst h q, r => by
    cases r
    obtain ⟨its, vs, ⟨o, n, e, c, _, dt⟩, _⟩ := I.list (SqL.of h)
    obtain ⟨as, ra⟩ := IsAll.reads I q vs
    exact ⟨_, .list e c dt (by simpa using ra)⟩
  | _, _, _, .tup h q, r => by
    cases r
    obtain ⟨its, vs, ⟨o, e, c, n, dt⟩, _⟩ := I.tuple (SqT.of h)
    obtain ⟨as, ra⟩ := IsAll.reads I q vs
    exact ⟨_, .tuple e c dt (by simpa using ra)⟩
theorem IsAll.reads (I : Inv X pins σ H s) : ∀ {ds : List PyData} {xs : List V} {vs : List Value}, IsAll H ds xs → Vals xs vs → ∃ as, ReadsAll s.heap vs ds as
  | _, _, _, .nil, r => by cases r; exact ⟨_, .nil⟩
  | _, _, _, .cons q t, r => by
    cases r with
    | cons r1 r2 =>
      obtain ⟨as, h1⟩ := Is.reads I q r1
      obtain ⟨bs, h2⟩ := IsAll.reads I t r2
      exact ⟨_, .cons h1 h2⟩
end
def rEqD : R2 := fun x y H Q => ∃ d e, Is H d x ∧ Is H e y ∧ SeqAt.shaped d = true ∧ SeqAt.shaped e = true ∧ Q (.bl (PyData.eqv d e)) H
def rNeD : R2 := fun x y H Q => ∃ d e, Is H d x ∧ Is H e y ∧ SeqAt.shaped d = true ∧ SeqAt.shaped e = true ∧ Q (.bl (!PyData.eqv d e)) H
theorem op_eqD (hu : X.A.units + 64 < cLine) : OpR X (compareOp .Eq) rEqD := by
  intro pins s σ H x y v u Q I rx ry h
  obtain ⟨d, e, hx, hy, sx, sy, q⟩ := h
  obtain ⟨as, ra⟩ := hx.reads I rx
  obtain ⟨bs, rb⟩ := hy.reads I ry
  exact eq_dataH ra rb sx sy hu ⟨.bl _, H, I, rfl, q⟩
theorem op_neD (hu : X.A.units + 64 < cLine) : OpR X (compareOp .NotEq) rNeD := by
  intro pins s σ H x y v u Q I rx ry h
  obtain ⟨d, e, hx, hy, sx, sy, q⟩ := h
  obtain ⟨as, ra⟩ := hx.reads I rx
  obtain ⟨bs, rb⟩ := hy.reads I ry
  exact ne_dataH ra rb sx sy hu ⟨.bl _, H, I, rfl, q⟩
end
/-! ### data of tuples and scalars: no change of a list changes it -/
mutual
inductive IsT (H : Hp) : PyData → V → Prop
  | non : IsT H .none .non
  | bl (b : Bool) : IsT H (.bool b) (.bl b)
  | int (i : Int) : IsT H (.int i) (.int i)
  | str (x : Str) : IsT H (.str x) (.str x)
  | tup {p : Addr} {xs : List V} {ds : List PyData} : H p = some (.tup xs) → IsTAll H ds xs → IsT H (.tuple ds) (.ref p)
inductive IsTAll (H : Hp) : List PyData → List V → Prop
  | nil : IsTAll H [] []
  | cons {d : PyData} {x : V} {ds : List PyData} {xs : List V} : IsT H d x → IsTAll H ds xs → IsTAll H (d :: ds) (x :: xs)
end
def SameT (H H' : Hp) : Prop := ∀ b xs, H b = some (.tup xs) → H' b = some (.tup xs)
theorem Same.toT {H H' : Hp} (h : Same H H') : SameT H H' := fun b xs e => h b _ e
theorem SameT.refl (H : Hp) : SameT H H := fun _ _ e => e
theorem SameT.trans {H H' H'' : Hp} (h : SameT H H') (h' : SameT H' H'') : SameT H H'' := fun b xs e => h' b xs (h b xs e)
theorem sameT_lst {H : Hp} {p : Addr} {xs : List V} {o : HO} (h : H p = some (.lst xs)) : SameT H (upd H p o) := fun b ys e => by
  rw [upd_ne (ne_of e h (by intro z; cases z))]; exact e
theorem sameT_new {H : Hp} {p : Addr} {o : HO} (h : H p = none) : SameT H (upd H p o) := fun b ys e => by
  rw [upd_ne (ne_of_none e h)]; exact e
mutual
theorem IsT.mono {H H' : Hp} (sm : SameT H H') : ∀ {d : PyData} {x : V}, IsT H d x → IsT H' d x
  | _, _, .non => .non
  | _, _, .bl b => .bl b
  | _, _, .int i => .int i
  | _, _, .str x => .str x
  | _, _, .tup h r => .tup (sm _ _ h) (IsTAll.mono sm r)
theorem IsTAll.mono {H H' : Hp} (sm : SameT H H') : ∀ {ds : List PyData} {xs : List V}, IsTAll H ds xs → IsTAll H' ds xs
  | _, _, .nil => .nil
  | _, _, .cons h r => .cons (IsT.mono sm h) (IsTAll.mono sm r)
end
mutual
theorem IsT.is {H : Hp} : ∀ {d : PyData} {x : V}, IsT H d x → Is H d x
  | _, _, .non => .non
  | _, _, .bl b => .bl b
  | _, _, .int i => .int i
  | _, _, .str x => .str x
  | _, _, .tup h r => .tup h (IsTAll.is r)
theorem IsTAll.is {H : Hp} : ∀ {ds : List PyData} {xs : List V}, IsTAll H ds xs → IsAll H ds xs
  | _, _, .nil => .nil
  | _, _, .cons h r => .cons (IsT.is h) (IsTAll.is r)
end
theorem IsTAll.append {H : Hp} : ∀ {ds es : List PyData} {xs ys : List V}, IsTAll H ds xs → IsTAll H es ys → IsTAll H (ds ++ es) (xs ++ ys)
  | _, _, _, _, .nil, r => r
  | _, _, _, _, .cons h t, r => .cons h (t.append r)
theorem IsTAll.length {H : Hp} {ds : List PyData} {xs : List V} (h : IsTAll H ds xs) : ds.length = xs.length := h.is.length

/-! ### a comprehension over a list, no test, by a relation that grows with the heap -/
section
variable {p : Addr} {fv : St} {te : TE} {Q : VK} {H1 : Hp}
inductive All2 (R : V → V → Hp → Prop) (H : Hp) : List V → List V → Prop
  | nil : All2 R H [] []
  | cons {x y : V} {xs ys : List V} : R x y H → All2 R H xs ys → All2 R H (x :: xs) (y :: ys)
theorem All2.mono {R : V → V → Hp → Prop} (hm : ∀ x y H H', SameT H H' → R x y H → R x y H') {H H' : Hp} (sm : SameT H H') : ∀ {xs ys : List V}, All2 R H xs ys → All2 R H' xs ys
  | _, _, .nil => .nil
  | _, _, .cons h t => .cons (hm _ _ _ _ sm h) (t.mono hm sm)
theorem All2.snoc {R : V → V → Hp → Prop} {H : Hp} {x y : V} (h : R x y H) : ∀ {xs ys : List V}, All2 R H xs ys → All2 R H (xs ++ [x]) (ys ++ [y])
  | _, _, .nil => .cons h .nil
  | _, _, .cons q t => .cons q (t.snoc h)
theorem All2.length {R : V → V → Hp → Prop} {H : Hp} : ∀ {xs ys : List V}, All2 R H xs ys → xs.length = ys.length
  | _, _, .nil => rfl
  | _, _, .cons _ t => by rw [List.length_cons, List.length_cons, t.length]
end

/-! ### all, any of a list of truths -/
section
variable {X : Cx}
def rAllB (K : PySem.W.Frag) : List V → Hp → VK → Prop := fun vs H Q => ∃ (p : Addr) (bs : List Bool), vs = [.ref p] ∧ SqL K H p (bs.map V.bl) ∧ Q (.bl (bs.all id)) H
def rAnyB (K : PySem.W.Frag) : List V → Hp → VK → Prop := fun vs H Q => ∃ (p : Addr) (bs : List Bool), vs = [.ref p] ∧ SqL K H p (bs.map V.bl) ∧ Q (.bl (bs.any id)) H
theorem bools_at {bs : List Bool} : ∀ {us : List Value}, Vals (bs.map V.bl) us → ∀ (i : Nat) (v : Value), us[i]? = some v → ∃ b, bs[i]? = some b ∧ v = .bool b := by
  induction bs with
  | nil => intro us r i v h; rw [List.map_nil] at r; cases r; simp at h
  | cons b bs ih =>
    intro us r i v h
    rw [List.map_cons] at r
    cases r with
    | cons r1 r2 =>
      cases i with
      | zero => simp at h; subst h; exact ⟨b, rfl, r1⟩
      | succ i =>
        obtain ⟨c, h1, h2⟩ := ih r2 i v (by simpa using h)
        exact ⟨c, by simpa using h1, h2⟩
theorem call_allB (hc : X.calm = true) : CallR X (.builtin "all") (rAllB X.K) := by
  intro pins s σ H xs us Q I r h
  obtain ⟨p, bs, rfl, hq, q⟩ := h
  obtain ⟨u, rfl, ru⟩ := vals1 r
  cases ru
  obtain ⟨its, vs, pl, hl⟩ := I.list hq
  have hI := pl.isList
  have hlt : p < s.heap.objs.size := by obtain ⟨_, e, _⟩ := hI; exact Heap.lt_size e
  refine call_all_walk (wpAny_pyIter_list hI ?_)
  refine ⟨s.heap.objs.size, [s.heap.objs.size, p], [s.heap.objs.size], its.toArray.size, _, _, fun i => (bs[i]?).getD true, rfl, Walks.list (A := X.A.in1) (I.ok.hd hc) _ p (Nat.ne_of_lt hlt) its.toArray,
    ⟨⟨_, Heap.get?_push_size _ rfl, rfl, rfl⟩, hI.push _⟩, fun i v s' Q' E' hP hQ => ?_, fun h' tk hk => ?_⟩
  · obtain ⟨b, e, rfl⟩ := bools_at vs i v (by simpa using hP)
    simp only [e, Option.getD_some] at hQ
    exact wpAny_truthy_bool hQ
  · have hbl := vs.length
    rw [List.length_map] at hbl
    have e : ((List.range its.toArray.size).all fun i => (bs[i]?).getD true) = bs.all id := by
      rw [List.size_toArray, ← hbl]; exact PyProof.Rows.LSm.range_all bs
    exact ⟨.bl _, H, I.kept (t' := tk) (PyProof.Rows.LSm.kept_iter hk), rfl, by rw [e]; exact q⟩
variable {K : PySem.W.Frag}
theorem call_allK (h : X.K = K) (hc : X.calm = true) : CallR X (.builtin "all") (rAllB K) := by subst h; exact call_allB hc
def rListU (K : PySem.W.Frag) : List V → Hp → VK → Prop := fun xs H Q => ∃ p ys, xs = [.ref p] ∧ (SqL K H p ys ∨ SqT K H p ys) ∧ ∀ l, H l = none → Q (.ref l) (upd H l (.lst ys))
def rTupleU (K : PySem.W.Frag) : List V → Hp → VK → Prop := fun xs H Q => ∃ p ys, xs = [.ref p] ∧ ((SqL K H p ys ∧ ∀ l, H l = none → Q (.ref l) (upd H l (.tup ys))) ∨ (SqT K H p ys ∧ Q (.ref p) H))
theorem call_tupleK (h : X.K = K) : CallR X (.type "tuple") (rTupleU K) := by subst h; exact call_tuple_of
theorem pi_tupK {tg l : Expr} {tl : TE} (h : X.K = K) (hl : PE X l tl) : PI X tg l (iTup K tl) := by subst h; exact pi_tup hl
end

/-! ### kinds, stores, targets -/
section
variable {H : Hp} {Q : VK} {K : PySem.W.Frag}
theorem isi_any {x : V} {T : String} : rIsiU [x, .ty T] H Q ↔ ∃ k, kindV x H = some k ∧ T ∈ ["bool", "int", "str", "list", "tuple"] ∧ Q (.bl (subT k T)) H := Iff.rfl
theorem kind_non : kindV .non H = some "NoneType" := rfl
theorem kind_bl {b : Bool} : kindV (.bl b) H = some "bool" := rfl
theorem kind_int {i : Int} : kindV (.int i) H = some "int" := rfl
theorem kind_str {x : Str} : kindV (.str x) H = some "str" := rfl
theorem kind_lst {p : Addr} {xs : List V} (h : H p = some (.lst xs)) : kindV (.ref p) H = some "list" := by simp only [kindV, h]
theorem kind_tup {p : Addr} {xs : List V} (h : H p = some (.tup xs)) : kindV (.ref p) H = some "tuple" := by simp only [kindV, h]
theorem memT_bool : ("bool" ∈ ["bool", "int", "str", "list", "tuple"]) = True := by simp
theorem memT_int : ("int" ∈ ["bool", "int", "str", "list", "tuple"]) = True := by simp
theorem memT_str : ("str" ∈ ["bool", "int", "str", "list", "tuple"]) = True := by simp
theorem memT_list : ("list" ∈ ["bool", "int", "str", "list", "tuple"]) = True := by simp
theorem memT_tuple : ("tuple" ∈ ["bool", "int", "str", "list", "tuple"]) = True := by simp
theorem sub_NoneType_bool : subT "NoneType" "bool" = false := by decide
theorem sub_NoneType_int : subT "NoneType" "int" = false := by decide
theorem sub_NoneType_str : subT "NoneType" "str" = false := by decide
theorem sub_NoneType_list : subT "NoneType" "list" = false := by decide
theorem sub_NoneType_tuple : subT "NoneType" "tuple" = false := by decide
theorem sub_bool_bool : subT "bool" "bool" = true := by decide
theorem sub_bool_int : subT "bool" "int" = true := by decide
theorem sub_bool_str : subT "bool" "str" = false := by decide
theorem sub_bool_list : subT "bool" "list" = false := by decide
theorem sub_bool_tuple : subT "bool" "tuple" = false := by decide
theorem sub_int_bool : subT "int" "bool" = false := by decide
theorem sub_int_int : subT "int" "int" = true := by decide
theorem sub_int_str : subT "int" "str" = false := by decide
theorem sub_int_list : subT "int" "list" = false := by decide
theorem sub_int_tuple : subT "int" "tuple" = false := by decide
theorem sub_str_bool : subT "str" "bool" = false := by decide
theorem sub_str_int : subT "str" "int" = false := by decide
theorem sub_str_str : subT "str" "str" = true := by decide
theorem sub_str_list : subT "str" "list" = false := by decide
theorem sub_str_tuple : subT "str" "tuple" = false := by decide
theorem sub_list_bool : subT "list" "bool" = false := by decide
theorem sub_list_int : subT "list" "int" = false := by decide
theorem sub_list_str : subT "list" "str" = false := by decide
theorem sub_list_list : subT "list" "list" = true := by decide
theorem sub_list_tuple : subT "list" "tuple" = false := by decide
theorem sub_tuple_bool : subT "tuple" "bool" = false := by decide
theorem sub_tuple_int : subT "tuple" "int" = false := by decide
theorem sub_tuple_str : subT "tuple" "str" = false := by decide
theorem sub_tuple_list : subT "tuple" "list" = false := by decide
theorem sub_tuple_tuple : subT "tuple" "tuple" = true := by decide
/-- the kind of a thing -/
def kindD : PyData → String
  | .none => "NoneType" | .bool _ => "bool" | .int _ => "int" | .str _ => "str" | .list _ => "list" | .tuple _ => "tuple" | .dict _ => "dict"
theorem Is.kind {d : PyData} {x : V} (h : Is H d x) : kindV x H = some (kindD d) := by
  cases h with
  | non => rfl
  | bl => rfl
  | int => rfl
  | str => rfl
  | lst h _ => exact kind_lst h
  | tup h _ => exact kind_tup h
theorem rd_gTup {n : Nat} {t : TGs} {v : V} {σ : St} {R : St → Hp → Prop} : gTup K n t v σ H R ↔ ∃ a xs, v = .ref a ∧ SqT K H a xs ∧ xs.length = n ∧ t xs σ H R := Iff.rfl
theorem rd_gCons {t : TG} {u : TGs} {vs : List V} {σ : St} {R : St → Hp → Prop} : gCons t u vs σ H R ↔ ∃ v r, vs = v :: r ∧ t v σ H fun σ' H' => u r σ' H' R := Iff.rfl
theorem rd_gNil {vs : List V} {σ : St} {R : St → Hp → Prop} : gNil vs σ H R ↔ vs = [] ∧ R σ H := Iff.rfl
theorem rd_gSub {to ti : TE} {t : TSet} {v : V} {σ : St} {R : St → Hp → Prop} : gSub to ti t v σ H R ↔ to σ H fun o H1 => ti σ H1 fun i H2 => t o i v H2 fun H3 => R σ H3 := Iff.rfl
theorem set_ref {p : Addr} {k : Int} {v : V} {R : Hp → Prop} : rSetL (.ref p) (.int k) v H R ↔ ∃ xs j, H p = some (.lst xs) ∧ ixN xs.length k = some j ∧ R (upd H p (.lst (xs.set j v))) := by
  constructor
  · rintro ⟨p', xs, k', j, h1, h2, h3⟩; cases h1; cases h2; exact ⟨xs, j, h3⟩
  · rintro ⟨xs, j, h⟩; exact ⟨p, xs, k, j, rfl, rfl, h⟩
end
section
variable {X : Cx} {K : PySem.W.Frag}
theorem pg_tupK {es : List Expr} {k : Nat} {t : TGs} {n : Nat} {pos : Pos} (h : X.K = K) (hc : X.calm = true) (hg : PGs X es t)
    (hn : (assignEach es X.env).length = n := by rfl) (hst : (assignEach es X.env).findIdx? (·.1) = none := by rfl) : PG X (.Tuple es k pos) (gTup K n t) := by
  subst h; exact pg_tup hc hg hn hst
end
/-! ### all but one address -/
def SameBut (p : Addr) (H H' : Hp) : Prop := ∀ b o, b ≠ p → H b = some o → H' b = some o
theorem SameBut.refl (p : Addr) (H : Hp) : SameBut p H H := fun _ _ _ e => e
theorem SameBut.trans {p : Addr} {H H' H'' : Hp} (h : SameBut p H H') (h' : SameBut p H' H'') : SameBut p H H'' := fun b o n e => h' b o n (h b o n e)
theorem Same.but {p : Addr} {H H' : Hp} (h : Same H H') : SameBut p H H' := fun b o _ e => h b o e
theorem sameBut_upd {p : Addr} {H : Hp} {o : HO} : SameBut p H (upd H p o) := fun b u n e => by rw [upd_ne n]; exact e
theorem SameBut.toT {p : Addr} {H H' : Hp} {xs : List V} (h : SameBut p H H') (hp : H p = some (.lst xs)) : SameT H H' := fun b ys e => h b _ (ne_of e hp (by intro z; cases z)) e
theorem SameBut.same {p : Addr} {H H' : Hp} (h : SameBut p H H') (hp : H p = none) : Same H H' := fun b o e => h b o (ne_of_none e hp) e

/-! ### a comprehension over a list or tuple whose values are known one by one -/
section
variable {p : Addr} {fv : St} {te : TE} {Q : VK} {H1 : Hp} {K : PySem.W.Frag}
theorem Same.tup {H H' : Hp} {a : Addr} {xs : List V} (e : Same H H') (h : SqT K H a xs) : SqT K H' a xs := by
  rcases h with (h | ⟨o, h⟩) | h
  · exact .inl (.inl (e _ _ h))
  · exact .inl (.inr ⟨o, e _ _ h⟩)
  · exact .inr h
theorem comp_tupZ {a : Addr} {xs zs : List V} (hxs : SqT K H1 a xs) (hlen : xs.length ≤ sizeLine) (hp : H1 p = none) (hz : zs.length = xs.length)
    (he : ∀ (i : Nat) (x z : V), xs[i]? = some x → zs[i]? = some z → ∀ (H' : Hp) (T : VK), Same H1 H' → (∀ H'', Same H' H'' → T z H'') → te (some x :: fv) H' T)
    (hQ : ∀ H', Same H1 H' → H' p = some (.lst zs) → Q (.ref p) H') : CompI (Itt K a) p fv tYes te Q H1 := by
  refine ⟨fun i m ys H2 => m = xs.length - i ∧ i ≤ xs.length ∧ ys = zs.take i ∧ H2 p = some (.lst ys) ∧ Same H1 H2, ⟨xs.length, by simp, Nat.zero_le _, by simp, upd_same, fun b o e => by rw [upd_ne (ne_of_none e hp)]; exact e⟩, ?_⟩
  rintro i m ys H2 ⟨rfl, hi, rfl, hp2, sm⟩
  refine ⟨hp2, ?_⟩
  have q := sm.tup hxs
  by_cases hlt : i < xs.length
  · refine .inr ⟨⟨xs, xs[i], q, by simp [hlt]⟩, ?_, fun x H3 y => ?_⟩
    · rw [List.length_take]; omega
    · obtain ⟨rfl, y⟩ := y
      have hc := y xs q
      have hzi : zs[i]? = some zs[i] := List.getElem?_eq_getElem (by omega)
      unfold tYes
      dsimp only
      rw [if_pos rfl]
      refine he i x _ hc hzi _ _ sm fun H5 s5 => ⟨s5 _ _ hp2, xs.length - (i + 1), by omega, rfl, hlt, ?_, upd_same, fun b o e => ?_⟩
      · rw [List.take_add_one, hzi]; rfl
      · rw [upd_ne (ne_of_none e hp)]; exact s5 _ _ (sm _ _ e)
  · have e : i = xs.length := by omega
    subst e
    refine .inl ⟨⟨xs, q, Nat.le_refl _⟩, hQ H2 sm ?_⟩
    rw [hp2, ← hz, List.take_length]
theorem comp_listZ {a : Addr} {xs zs : List V} (hxs : SqL K H1 a xs) (hlen : xs.length ≤ sizeLine) (hp : H1 p = none) (hz : zs.length = xs.length)
    (he : ∀ (i : Nat) (x z : V), xs[i]? = some x → zs[i]? = some z → ∀ (H' : Hp) (T : VK), Same H1 H' → (∀ H'', Same H' H'' → T z H'') → te (some x :: fv) H' T)
    (hQ : ∀ H', Same H1 H' → H' p = some (.lst zs) → Q (.ref p) H') : CompI (Itl K a) p fv tYes te Q H1 := by
  refine ⟨fun i m ys H2 => m = xs.length - i ∧ i ≤ xs.length ∧ ys = zs.take i ∧ H2 p = some (.lst ys) ∧ Same H1 H2, ⟨xs.length, by simp, Nat.zero_le _, by simp, upd_same, fun b o e => by rw [upd_ne (ne_of_none e hp)]; exact e⟩, ?_⟩
  rintro i m ys H2 ⟨rfl, hi, rfl, hp2, sm⟩
  refine ⟨hp2, ?_⟩
  have q := sm.seq hxs
  by_cases hlt : i < xs.length
  · refine .inr ⟨⟨xs, xs[i], q, by simp [hlt]⟩, ?_, fun x H3 y => ?_⟩
    · rw [List.length_take]; omega
    · obtain ⟨rfl, y⟩ := y
      have hc := y xs q
      have hzi : zs[i]? = some zs[i] := List.getElem?_eq_getElem (by omega)
      unfold tYes
      dsimp only
      rw [if_pos rfl]
      refine he i x _ hc hzi _ _ sm fun H5 s5 => ⟨s5 _ _ hp2, xs.length - (i + 1), by omega, rfl, hlt, ?_, upd_same, fun b o e => ?_⟩
      · rw [List.take_add_one, hzi]; rfl
      · rw [upd_ne (ne_of_none e hp)]; exact s5 _ _ (sm _ _ e)
  · have e : i = xs.length := by omega
    subst e
    refine .inl ⟨⟨xs, q, Nat.le_refl _⟩, hQ H2 sm ?_⟩
    rw [hp2, ← hz, List.take_length]
variable {σ : St} {H : Hp} {tl : TE} {tt : TT} {fr : List Nat} {g : TG} {tb : TS} {D : Ends}
theorem rd_compT : tComp (iTup K tl) fr tt te σ H Q ↔ tl σ H fun x H1 => ∃ a, x = .ref a ∧ (∃ xs, SqT K H1 a xs) ∧ ∀ p, H1 p = none → CompI (Itt K a) p (frV σ fr) tt te Q H1 := Iff.rfl
theorem rd_forT : tFor (iTup K te) g tb D σ H ↔ te σ H fun x H1 => ∃ a, x = .ref a ∧ (∃ xs, SqT K H1 a xs) ∧ LoopI (Itt K a) g tb D σ H1 := Iff.rfl
theorem all_ref {a : Addr} : rAllB K [.ref a] H Q ↔ ∃ bs : List Bool, SqL K H a (bs.map V.bl) ∧ Q (.bl (bs.all id)) H := by
  constructor
  · rintro ⟨p, bs, h1, h2⟩; cases h1; exact ⟨bs, h2⟩
  · rintro ⟨bs, h⟩; exact ⟨a, bs, rfl, h⟩
theorem any_ref {a : Addr} : rAnyB K [.ref a] H Q ↔ ∃ bs : List Bool, SqL K H a (bs.map V.bl) ∧ Q (.bl (bs.any id)) H := by
  constructor
  · rintro ⟨p, bs, h1, h2⟩; cases h1; exact ⟨bs, h2⟩
  · rintro ⟨bs, h⟩; exact ⟨a, bs, rfl, h⟩
theorem li_ref {a : Addr} : rListU K [.ref a] H Q ↔ ∃ ys, (SqL K H a ys ∨ SqT K H a ys) ∧ ∀ l, H l = none → Q (.ref l) (upd H l (.lst ys)) := by
  constructor
  · rintro ⟨p, bs, h1, h2⟩; cases h1; exact ⟨bs, h2⟩
  · rintro ⟨bs, h⟩; exact ⟨a, bs, rfl, h⟩
theorem tu_ref {a : Addr} : rTupleU K [.ref a] H Q ↔ ∃ ys, (SqL K H a ys ∧ ∀ l, H l = none → Q (.ref l) (upd H l (.tup ys))) ∨ (SqT K H a ys ∧ Q (.ref a) H) := by
  constructor
  · rintro ⟨p, bs, h1, h2⟩; cases h1; exact ⟨bs, h2⟩
  · rintro ⟨bs, h⟩; exact ⟨a, bs, rfl, h⟩
theorem slT_ref {a : Addr} {lo hi : Option Int} : rSlT K (.ref a) lo hi H Q ↔ ∃ xs, SqT K H a xs ∧ ¬ (HT.sIx xs.length 0 lo = 0 ∧ HT.sIx xs.length xs.length hi = xs.length) ∧ ∀ p, H p = none → Q (.ref p) (upd H p (.tup (cutV xs lo hi))) := by
  constructor
  · rintro ⟨p, bs, h1, h2⟩; cases h1; exact ⟨bs, h2⟩
  · rintro ⟨bs, h⟩; exact ⟨a, bs, rfl, h⟩
end

/-! ### a block cut in two by what holds between -/
def tCut (t u : TS) : TS := fun D σ H => ∃ P : St → Hp → Prop, t { D with nx := P } σ H ∧ ∀ σ' H', P σ' H' → u D σ' H'
section
variable {X : Cx} {st : Stmt} {rest : List Stmt} {t u : TS}
theorem pss_cut (h1 : PS X st t) (h2 : PSs X rest u) : PSs X (st :: rest) (tCut t u) := by
  intro pins s σ H D I h
  obtain ⟨P, h, hu⟩ := h
  refine wpAny_execs_cons (thn (h1 pins s σ H { D with nx := P } I h) fun f s1 q => ?_)
  cases f with
  | next =>
    obtain ⟨σ', H', I', q⟩ := q
    exact h2 pins s1 σ' H' D I' (hu _ _ q)
  | ret v => exact q
  | brk => exact q
  | cont => exact q
/-- what is read only when it is come to: behind a cut, with the names' values at hand -/
def Later (u : TS) (D : Ends) (σ : St) (H : Hp) : Prop := u D σ H
theorem rd_later {D : Ends} {x : Option V} {σ : St} {H : Hp} : Later u D (x :: σ) H ↔ u D (x :: σ) H := Iff.rfl
theorem rd_cut {D : Ends} {σ : St} {H : Hp} : tCut t u D σ H ↔ ∃ P : St → Hp → Prop, t { D with nx := P } σ H ∧ ∀ σ' H', P σ' H' → Later u D σ' H' := Iff.rfl
end
theorem SameBut.free {p q : Addr} {H H' : Hp} (sb : SameBut p H H') (hq : H' q = none) (hne : q ≠ p) : H q = none := by
  cases e : H q with
  | none => rfl
  | some o => rw [sb q o hne e] at hq; cases hq
theorem SameBut.upd {p q : Addr} {H H' : Hp} {o : HO} (sb : SameBut p H H') (hq : H q = none) : SameBut p H (upd H' q o) := fun b u n e => by
  rw [upd_ne (ne_of_none e hq)]; exact sb b u n e
theorem IsTAll.strs {H : Hp} : ∀ (l : List (List Nat)), IsTAll H (l.map fun z => PyData.str ⟨z.toArray⟩) (l.map fun z => V.str ⟨z.toArray⟩)
  | [] => .nil
  | x :: r => .cons (.str _) (IsTAll.strs r)
theorem IsTAll.snoc {H : Hp} {ds : List PyData} {xs : List V} {d : PyData} {x : V} (h : IsTAll H ds xs) (hd : IsT H d x) : IsTAll H (ds ++ [d]) (xs ++ [x]) := h.append (.cons hd .nil)

/-! ### new objects, the heap behind them as any that holds them -/
theorem same_new {H : Hp} {p : Addr} {o : HO} (hp : H p = none) : Same H (upd H p o) := fun b u e => by rw [upd_ne (ne_of_none e hp)]; exact e
def tTupS (t : TA) : TE := fun σ H Q => t σ H fun xs H1 => xs.length ≤ sizeLine ∧ ∀ p H', H1 p = none → Same H1 H' → H' p = some (.tup xs) → Q (.ref p) H'
def tLstS (t : TA) : TE := fun σ H Q => t σ H fun xs H1 => xs.length ≤ sizeLine ∧ ∀ p H', H1 p = none → Same H1 H' → H' p = some (.lst xs) → Q (.ref p) H'
section
variable {X : Cx} {es : List Expr} {t : TA} {pos : Pos} {K : PySem.W.Frag}
theorem pe_tupS {x1} (h : PA X es t) : PE X (.Tuple es x1 pos) (tTupS t) := by
  intro pins s σ H Q I hq
  refine wpAny_Tuple_spliced (thn (h pos pins s σ H _ I hq) fun us s1 ⟨xs, H1, I1, r, z, q⟩ => ⟨by rw [← r.length]; exact z, ?_⟩)
  have hf : H1 s1.heap.objs.size = none := I1.hok.fresh (Nat.le_refl _)
  refine ⟨.ref s1.heap.objs.size, upd H1 s1.heap.objs.size (.tup xs), I1.laid (t' := s1.toks) (fun b u e => Heap.get?_push_of_some _ e) (Nat.le_refl _) ?_, rfl, q _ _ hf (same_new hf) upd_same⟩
  exact ⟨z, us, r, ⟨_, Heap.get?_push_size _ rfl, rfl, _, rfl⟩⟩
theorem pe_lstS (h : PA X es t) : PE X (.List es pos) (tLstS t) := by
  intro pins s σ H Q I hq
  refine wpAny_List_spliced (thn (h pos pins s σ H _ I hq) fun us s1 ⟨xs, H1, I1, r, z, q⟩ => ⟨by rw [← r.length]; exact z, ?_⟩)
  have hf : H1 s1.heap.objs.size = none := I1.hok.fresh (Nat.le_refl _)
  refine ⟨.ref s1.heap.objs.size, upd H1 s1.heap.objs.size (.lst xs), I1.laid (t' := s1.toks) (fun b u e => Heap.get?_push_of_some _ e) (Nat.le_refl _) ?_, rfl, q _ _ hf (same_new hf) upd_same⟩
  exact ⟨z, us, 0, r, Heap.get?_push_size _ rfl⟩
def rAddS (K : PySem.W.Frag) : R2 := fun x y H Q => match x, y with
  | .int i, .int j => Q (.int (i + j)) H
  | .str i, .str j => i.length + j.length ≤ sizeLine ∧ Q (.str (i ++ j)) H
  | .ref a, .ref b => (∃ xs zs, H a = some (.lst xs) ∧ H b = some (.lst zs) ∧ xs.length + zs.length ≤ sizeLine ∧ ∀ p H', H p = none → Same H H' → H' p = some (.lst (xs ++ zs)) → Q (.ref p) H') ∨
      (∃ xs ys, H a = some (.tup xs) ∧ H b = some (.tup ys) ∧ xs.length + ys.length ≤ sizeLine ∧ ∀ p H', Same H H' → H' p = some (.tup (xs ++ ys)) → Q (.ref p) H')
  | _, _ => False
theorem op_addS : OpR X (binaryOp .Add) (rAddS K) := by
  intro pins s σ H x y v u Q I rx ry h
  refine op_addU pins s σ H x y v u Q I rx ry ?_
  cases x with
  | int i =>
    cases y with
    | int j => exact h
    | _ => exact h.elim
  | str i =>
    cases y with
    | str j => exact h
    | _ => exact h.elim
  | ref a =>
    cases y with
    | ref b =>
      rcases h with ⟨xs, zs, h1, h2, h3, h4⟩ | h
      · exact .inl ⟨xs, zs, h1, h2, h3, fun p hp => h4 p _ hp (same_new hp) upd_same⟩
      · exact .inr h
    | _ => exact h.elim
  | _ => exact h.elim
def rListS (K : PySem.W.Frag) : List V → Hp → VK → Prop := fun xs H Q => ∃ p ys, xs = [.ref p] ∧ (SqL K H p ys ∨ SqT K H p ys) ∧ ∀ l H', H l = none → Same H H' → H' l = some (.lst ys) → Q (.ref l) H'
def rTupleS (K : PySem.W.Frag) : List V → Hp → VK → Prop := fun xs H Q => ∃ p ys, xs = [.ref p] ∧ (SqL K H p ys ∨ H p = some (.tup ys)) ∧ ∀ l H', Same H H' → H' l = some (.tup ys) → Q (.ref l) H'
theorem call_tupleS (h : X.K = K) : CallR X (.type "tuple") (rTupleS K) := by
  subst h
  intro pins s σ H xs us Q I r h
  obtain ⟨p, ys, h1, h2, h3⟩ := h
  rcases h2 with h2 | h2
  · exact call_tuple_of pins s σ H xs us Q I r ⟨p, ys, h1, .inl ⟨h2, fun l hl => h3 l _ (same_new hl) upd_same⟩⟩
  · exact call_tuple_of pins s σ H xs us Q I r ⟨p, ys, h1, .inr ⟨SqT.of h2, h3 p H (Same.refl _) h2⟩⟩
def rSlS2 (K : PySem.W.Frag) : V → Option Int → Option Int → Hp → VK → Prop := fun x lo hi H Q => ∃ a xs, x = .ref a ∧ SqT K H a xs ∧
  ¬ (HT.sIx xs.length 0 lo = 0 ∧ HT.sIx xs.length xs.length hi = xs.length) ∧ ∀ p H', H p = none → Same H H' → H' p = some (.tup (cutV xs lo hi)) → Q (.ref p) H'
end
section
variable {σ : St} {H : Hp} {Q : VK} {K : PySem.W.Frag} {aa : TA}
theorem rd_tupS : tTupS aa σ H Q ↔ aa σ H fun xs H1 => xs.length ≤ sizeLine ∧ ∀ p H', H1 p = none → Same H1 H' → H' p = some (.tup xs) → Q (.ref p) H' := Iff.rfl
theorem rd_lstS : tLstS aa σ H Q ↔ aa σ H fun xs H1 => xs.length ≤ sizeLine ∧ ∀ p H', H1 p = none → Same H1 H' → H' p = some (.lst xs) → Q (.ref p) H' := Iff.rfl
theorem adS_int {i j : Int} : rAddS K (.int i) (.int j) H Q ↔ Q (.int (i + j)) H := Iff.rfl
theorem adS_str {i j : Str} : rAddS K (.str i) (.str j) H Q ↔ i.length + j.length ≤ sizeLine ∧ Q (.str (i ++ j)) H := Iff.rfl
theorem liS_ref {a : Addr} : rListS K [.ref a] H Q ↔ ∃ ys, (SqL K H a ys ∨ SqT K H a ys) ∧ ∀ l H', H l = none → Same H H' → H' l = some (.lst ys) → Q (.ref l) H' := by
  constructor
  · rintro ⟨p, bs, h1, h2⟩; cases h1; exact ⟨bs, h2⟩
  · rintro ⟨bs, h⟩; exact ⟨a, bs, rfl, h⟩
theorem tuS_ref {a : Addr} : rTupleS K [.ref a] H Q ↔ ∃ ys, (SqL K H a ys ∨ H a = some (.tup ys)) ∧ ∀ l H', Same H H' → H' l = some (.tup ys) → Q (.ref l) H' := by
  constructor
  · rintro ⟨p, bs, h1, h2⟩; cases h1; exact ⟨bs, h2⟩
  · rintro ⟨bs, h⟩; exact ⟨a, bs, rfl, h⟩
theorem slS_ref {a : Addr} {lo hi : Option Int} : rSlS2 K (.ref a) lo hi H Q ↔ ∃ xs, SqT K H a xs ∧ ¬ (HT.sIx xs.length 0 lo = 0 ∧ HT.sIx xs.length xs.length hi = xs.length) ∧ ∀ p H', H p = none → Same H H' → H' p = some (.tup (cutV xs lo hi)) → Q (.ref p) H' := by
  constructor
  · rintro ⟨p, bs, h1, h2⟩; cases h1; exact ⟨bs, h2⟩
  · rintro ⟨bs, h⟩; exact ⟨a, bs, rfl, h⟩
end

def rSlLS (K : PySem.W.Frag) : V → Option Int → Option Int → Hp → VK → Prop := fun x lo hi H Q => ∃ a xs, x = .ref a ∧ SqL K H a xs ∧ ∀ p H', H p = none → Same H H' → H' p = some (.lst (cutV xs lo hi)) → Q (.ref p) H'
theorem sl_listS {X : Cx} {K : PySem.W.Frag} (h : X.K = K) : SlR X (rSlLS K) := by
  subst h
  intro pins s σ H x v vl vu lo hi sl Q I rx hs pl pu h
  obtain ⟨a, xs, h1, h2, h3⟩ := h
  exact sl_list pins s σ H x v vl vu lo hi sl Q I rx hs pl pu ⟨a, xs, h1, h2, fun p hp => h3 p _ hp (same_new hp) upd_same⟩
theorem slLS_ref {K : PySem.W.Frag} {H : Hp} {Q : VK} {a : Addr} {lo hi : Option Int} : rSlLS K (.ref a) lo hi H Q ↔ ∃ xs, SqL K H a xs ∧ ∀ p H', H p = none → Same H H' → H' p = some (.lst (cutV xs lo hi)) → Q (.ref p) H' := by
  constructor
  · rintro ⟨p, bs, h1, h2⟩; cases h1; exact ⟨bs, h2⟩
  · rintro ⟨bs, h⟩; exact ⟨a, bs, rfl, h⟩

/-! ### is True, is False -/
def rIsB (neg : Bool) : R2 := fun x y H Q => match x, y with
  | .bl b, .bl c => Q (.bl (if neg then !decide (b = c) else decide (b = c))) H
  | _, _ => False
theorem isB_f {b c : Bool} {H : Hp} {Q : VK} : rIsB false (.bl b) (.bl c) H Q ↔ Q (.bl (decide (b = c))) H := Iff.rfl
end L2
namespace Wm
open PySem L2

/-! ### the signs, and what is told of them, over plain numbers -/
def isSg (c : Nat) : Bool := decide (32 ≤ c) && decide (c ≤ 126) && !decide (c = 37)
def SG : List Nat := (List.range 127).filter isSg
def hexd (n : Nat) : Nat := if n < 10 then 48 + n else 87 + n
def fig (a : Nat) : Option Nat := if 48 ≤ a ∧ a ≤ 57 then some (a - 48) else if 97 ≤ a ∧ a ≤ 102 then some (a - 87) else if 65 ≤ a ∧ a ≤ 70 then some (a - 55) else none
def figV (a : Nat) : V := match fig a with | some n => .int (n : Nat) | none => .non
abbrev one (c : Nat) : V := .str ⟨#[c]⟩
def sgV (n : Nat) : V := if isSg n then one n else .non
def signOf (a b : Nat) : V := match fig a, fig b with | some h, some l => sgV (h * 16 + l) | _, _ => .non
def signOfL : List Nat → V
  | [a, b] => signOf a b
  | _ => .non
theorem mem_SG {c : Nat} : c ∈ SG ↔ isSg c = true := by
  unfold SG
  rw [List.mem_filter, List.mem_range]
  constructor
  · exact fun h => h.2
  · intro h
    refine ⟨?_, h⟩
    simp only [isSg, Bool.and_eq_true, decide_eq_true_eq] at h
    omega
theorem isSg_lt {c : Nat} (h : isSg c = true) : 32 ≤ c ∧ c ≤ 126 ∧ c ≠ 37 := by
  simp only [isSg, Bool.and_eq_true, decide_eq_true_eq, Bool.not_eq_true', decide_eq_false_iff_not] at h
  omega
theorem hexd_at : ∀ n, n < 16 → (Str.ofString "0123456789abcdef").cps.toList[n]? = some (hexd n) := by decide +kernel
theorem hex_i {i : Int} {n : Nat} (e : i = (n : Int)) (h : n < 16) : atI (Str.ofString "0123456789abcdef").cps.toList i = some (hexd n) := by
  rw [e]; exact atI_nat (hexd_at n h)
theorem small_len : (Str.ofString "0123456789abcdef").length ≤ sizeLine := by decide +kernel
theorem small_ix : ∀ a, a < 128 → a ∈ (Str.ofString "0123456789abcdef").cps.toList →
    Builtin.Str.occurrences (Str.ofString "0123456789abcdef") ⟨#[a]⟩ 0 (Str.ofString "0123456789abcdef").length 1 = [(fig a).getD 0] ∧ (fig a).isSome = true := by decide +kernel
theorem great_ix : ∀ a, a < 128 → ¬ a ∈ (Str.ofString "0123456789abcdef").cps.toList → a ∈ (Str.ofString "0123456789ABCDEF").cps.toList →
    Builtin.Str.occurrences (Str.ofString "0123456789ABCDEF") ⟨#[a]⟩ 0 (Str.ofString "0123456789ABCDEF").length 1 = [(fig a).getD 0] ∧ (fig a).isSome = true := by decide +kernel
theorem no_ix : ∀ a, a < 128 → ¬ a ∈ (Str.ofString "0123456789abcdef").cps.toList → ¬ a ∈ (Str.ofString "0123456789ABCDEF").cps.toList → fig a = none := by decide +kernel
theorem signs_at : ∀ n, n < 127 → isSg n = true → (Str.ofString " !\"#$&'()*+,-./0123456789:;<=>?@ABCDEFGHIJKLMNOPQRSTUVWXYZ[\\]^_`abcdefghijklmnopqrstuvwxyz{|}~").cps.toList[n - 32 - (if 37 < n then 1 else 0)]? = some n := by decide +kernel
theorem signs_len : (Str.ofString " !\"#$&'()*+,-./0123456789:;<=>?@ABCDEFGHIJKLMNOPQRSTUVWXYZ[\\]^_`abcdefghijklmnopqrstuvwxyz{|}~").length ≤ sizeLine := by decide +kernel
theorem tab_eq : (Str.ofString " !\"#$&'()*+,-./0123456789:;<=>?@ABCDEFGHIJKLMNOPQRSTUVWXYZ[\\]^_`" ++ Str.ofString "abcdefghijklmnopqrstuvwxyz{|}~" : Str) = ⟨SG.toArray⟩ := by decide +kernel
theorem tab_len : (Str.ofString " !\"#$&'()*+,-./0123456789:;<=>?@ABCDEFGHIJKLMNOPQRSTUVWXYZ[\\]^_`").length + (Str.ofString "abcdefghijklmnopqrstuvwxyz{|}~").length ≤ sizeLine := by decide +kernel
theorem SG_len : SG.length = 94 := by decide +kernel
/-- where a sign stands in the table -/
def ixT (c : Nat) : Nat := c - 32 - (if 37 < c then 1 else 0)
theorem tab_ix : ∀ c, c < 127 → isSg c = true → Builtin.Str.occurrences (⟨SG.toArray⟩ : Str) ⟨#[c]⟩ 0 (⟨SG.toArray⟩ : Str).length 1 = [ixT c] := by decide +kernel
theorem ixT_num {c : Nat} (h : isSg c = true) : (32 : Int) + (ixT c : Int) + (if 4 < (ixT c : Int) then 1 else 0) = (c : Int) := by
  have h := isSg_lt h
  unfold ixT
  by_cases h1 : 37 < c
  · rw [if_pos h1, if_pos (by omega)]; omega
  · rw [if_neg h1, if_neg (by omega)]; omega
/-! ### slices of a text as pieces of its list of signs -/
theorem pick_list (l : List Nat) (a : Nat) : ∀ k, ((List.range k).map fun j => a + j).filterMap (fun i => l[i]?) = (l.drop a).take k
  | 0 => by simp
  | k + 1 => by
    rw [List.range_succ, List.map_append, List.filterMap_append, pick_list l a k, List.take_add_one, List.getElem?_drop]
    simp only [List.map_cons, List.map_nil]
    cases e : l[a + k]? with
    | none => simp [e]
    | some c => simp [e]
def clipI (n : Nat) (v : Int) : Nat := (max 0 (min (if v < 0 then v + n else v) n)).toNat
theorem sl_range (a b : Nat) : sliceRange (a : Int) (b : Int) 1 = (List.range (b - a)).map fun j => a + j := by
  unfold sliceRange
  have h1 : (1 : Int) > 0 := by decide
  simp only [h1, if_true, Int.one_mul, Int.ediv_one]
  have e : (if (a : Int) < (b : Int) then (b : Int) - (a : Int) + 1 - 1 else 0).toNat = b - a := by split <;> omega
  rw [e]
  apply List.map_congr_left
  intro j _
  omega
theorem indices_gen (lo hi : Option Int) (n : Nat) : Builtin.Str.strSliceIndices lo hi 1 n = (List.range ((hi.elim n (clipI n)) - (lo.elim 0 (clipI n)))).map fun j => (lo.elim 0 (clipI n)) + j := by
  unfold Builtin.Str.strSliceIndices
  have h1 : (1 : Int) > 0 := by decide
  simp only [h1, if_true]
  rw [← sl_range]
  congr 1
  · cases lo with
    | none => rfl
    | some v => simp only [Option.elim_some, clipI]; omega
  · cases hi with
    | none => rfl
    | some v => simp only [Option.elim_some, clipI]; omega
theorem slice_gen (l : List Nat) (lo hi : Option Int) : Txt.slice (⟨l.toArray⟩ : Str) lo hi = ⟨((l.drop (lo.elim 0 (clipI l.length))).take ((hi.elim l.length (clipI l.length)) - (lo.elim 0 (clipI l.length)))).toArray⟩ := by
  have hl : (⟨l.toArray⟩ : Str).length = l.length := by simp [Str.length]
  have hb : hi.elim l.length (clipI l.length) ≤ l.length := by
    cases hi with
    | none => exact Nat.le_refl _
    | some v => simp only [Option.elim_some, clipI]; omega
  have hb' : lo.elim 0 (clipI l.length) ≤ l.length := by
    cases lo with
    | none => exact Nat.zero_le _
    | some v => simp only [Option.elim_some, clipI]; omega
  have ef : (fun i : Nat => (⟨l.toArray⟩ : Str).cps[i]?) = fun i => l[i]? := by funext i; simp
  unfold Txt.slice
  rw [hl, indices_gen, ef]
  split
  · rename_i h
    simp only [List.length_map, List.length_range, beq_self_eq_true, Bool.true_and, beq_iff_eq] at h
    have e1 : lo.elim 0 (clipI l.length) = 0 := by omega
    have e2 : hi.elim l.length (clipI l.length) = l.length := by omega
    rw [e1, e2]
    simp
  · rw [pick_list l (lo.elim 0 (clipI l.length)) ((hi.elim l.length (clipI l.length)) - (lo.elim 0 (clipI l.length)))]
theorem clip_nat (n k : Nat) : clipI n (k : Int) = min k n := by unfold clipI; split <;> omega
theorem slice_from (l : List Nat) (k : Nat) : Txt.slice (⟨l.toArray⟩ : Str) (some (k : Int)) none = ⟨(l.drop k).toArray⟩ := by
  rw [slice_gen]
  simp only [Option.elim_some, Option.elim_none, clip_nat]
  by_cases h : k ≤ l.length
  · rw [Nat.min_eq_left h, List.take_of_length_le (by simp)]
  · rw [Nat.min_eq_right (by omega), List.drop_eq_nil_of_le (Nat.le_refl _), List.drop_eq_nil_of_le (by omega)]
    simp
theorem slice_to (l : List Nat) (k : Nat) : Txt.slice (⟨l.toArray⟩ : Str) none (some (k : Int)) = ⟨(l.take k).toArray⟩ := by
  rw [slice_gen]
  simp only [Option.elim_some, Option.elim_none, clip_nat, List.drop_zero, Nat.sub_zero]
  by_cases h : k ≤ l.length
  · rw [Nat.min_eq_left h]
  · rw [Nat.min_eq_right (by omega), List.take_length, List.take_of_length_le (by omega)]
theorem slice_mid (l : List Nat) (i j : Nat) : Txt.slice (⟨l.toArray⟩ : Str) (some (i : Int)) (some (j : Int)) = ⟨((l.drop i).take (j - i)).toArray⟩ := by
  rw [slice_gen]
  simp only [Option.elim_some, clip_nat]
  by_cases h : i ≤ l.length
  · rw [Nat.min_eq_left h]
    by_cases h2 : j ≤ l.length
    · rw [Nat.min_eq_left h2]
    · rw [Nat.min_eq_right (by omega : l.length ≤ j), List.take_of_length_le (by simp), List.take_of_length_le (by simp; omega)]
  · rw [Nat.min_eq_right (by omega : l.length ≤ i), List.drop_eq_nil_of_le (Nat.le_refl _), List.drop_eq_nil_of_le (by omega)]
    simp
theorem emp_eq : Str.ofString "" = ⟨([] : List Nat).toArray⟩ := by decide +kernel
theorem join_one (ys : List Str) : Txt.join (⟨([] : List Nat).toArray⟩ : Str) ys = ⟨(ys.flatMap fun y => y.cps.toList).toArray⟩ := by
  show Builtin.Str.glued _ _ = _
  rw [StrLaws.glued_eq_join]
  induction ys with
  | nil => rfl
  | cons y r ih =>
    cases r with
    | nil =>
      show y = _
      simp
    | cons z r =>
      show y ++ (⟨#[]⟩ : Str) ++ Str.join ⟨#[]⟩ (z :: r) = _
      rw [ih]
      show Str.mk (y.cps ++ #[] ++ _) = _
      simp [List.flatMap_cons]
theorem mk_app (l m : List Nat) : ((⟨l.toArray⟩ : Str) ++ (⟨m.toArray⟩ : Str)) = ⟨(l ++ m).toArray⟩ := by
  show Str.mk (l.toArray ++ m.toArray) = _
  simp
theorem mk_inj {l m : List Nat} : ((⟨l.toArray⟩ : Str) = ⟨m.toArray⟩) ↔ l = m := by
  constructor
  · intro h; injection h with h; injection h
  · rintro rfl; rfl
theorem mk_len (l : List Nat) : (⟨l.toArray⟩ : Str).length = l.length := by simp [Str.length]

theorem tilde_eq : Str.ofString "~" = ⟨[126].toArray⟩ := by decide +kernel
theorem slice_1 (l : List Nat) : Txt.slice (⟨l.toArray⟩ : Str) (some 1) none = ⟨(l.drop 1).toArray⟩ := slice_from l 1
theorem figV_some {a n : Nat} (h : fig a = some n) : figV a = .int (n : Nat) := by unfold figV; rw [h]
theorem figV_none {a : Nat} (h : fig a = none) : figV a = .non := by unfold figV; rw [h]
theorem sgV_yes {n : Nat} (h : isSg n = true) : sgV n = one n := by unfold sgV; rw [if_pos h]
theorem sgV_no {n : Nat} (h : ¬ isSg n = true) : sgV n = .non := by unfold sgV; rw [if_neg h]
theorem isSg_of {n : Nat} (h1 : 32 ≤ n) (h2 : n ≤ 126) (h3 : n ≠ 37) : isSg n = true := by
  simp only [isSg, Bool.and_eq_true, decide_eq_true_eq, Bool.not_eq_true', decide_eq_false_iff_not]
  omega
theorem signOfL_no {l : List Nat} (h : l.length ≠ 2) : signOfL l = .non := by
  match l with
  | [] => rfl
  | [_] => rfl
  | [_, _] => exact absurd rfl h
  | _ :: _ :: _ :: _ => rfl
theorem two_of {l : List Nat} (h : l.length = 2) : ∃ a b, l = [a, b] := by
  match l, h with
  | [a, b], _ => exact ⟨a, b, rfl⟩
/-! ### written texts -/
def isPl (c : Nat) : Bool := decide (48 ≤ c ∧ c ≤ 57) || decide (65 ≤ c ∧ c ≤ 90) || decide (97 ≤ c ∧ c ≤ 122) || decide (c = 45) || decide (c = 46) || decide (c = 95)
theorem plain_in : ∀ c, c < 128 → (decide (c ∈ (Str.ofString "abcdefghijklmnopqrstuvwxyzABCDEFGHIJKLMNOPQRSTUVWXYZ0123456789-_.").cps.toList)) = isPl c := by decide +kernel
theorem plain_law : ∀ c, c < 128 → (Txt.isalnum ⟨#[c]⟩ || decide (c ∈ (Str.ofString "-_.").cps.toList)) = isPl c := by decide +kernel
def wr1 (c : Nat) : List Nat := if isPl c then [c] else [126, hexd (c / 16), hexd (c % 16)]
def wr (l : List Nat) : List Nat := l.flatMap wr1
theorem wr1_len (c : Nat) : (wr1 c).length ≤ 3 := by unfold wr1; split <;> simp
theorem wr_len (l : List Nat) : (wr l).length ≤ 3 * l.length := by
  induction l with
  | nil => simp [wr]
  | cons c r ih =>
    have := wr1_len c
    unfold wr at ih ⊢
    rw [List.flatMap_cons, List.length_append, List.length_cons]
    omega
/-! ### texts undone -/
def sgO (a b : Nat) : Option Nat := match fig a, fig b with
  | some h, some l => if isSg (h * 16 + l) then some (h * 16 + l) else none
  | _, _ => none
def oV : Option Nat → V
  | some c => one c
  | none => .non
theorem signOf_eq (a b : Nat) : signOf a b = oV (sgO a b) := by
  unfold signOf sgO
  cases fig a with
  | none => rfl
  | some h =>
    cases fig b with
    | none => rfl
    | some l =>
      simp only [sgV]
      split <;> rfl
def und (fr : List Nat) : List Nat → Option (List Nat)
  | [] => some []
  | c :: r => if c = 126 then match r with
      | a :: b :: r' => match sgO a b with
        | some d => (und fr r').map (d :: ·)
        | none => none
      | _ => none
    else if isPl c || decide (c ∈ fr) then (und fr r).map (c :: ·) else none
theorem und_nil (fr : List Nat) : und fr [] = some [] := by unfold und; rfl
theorem und_pair {fr : List Nat} {a b d : Nat} {r : List Nat} (h : sgO a b = some d) : und fr (126 :: a :: b :: r) = (und fr r).map (d :: ·) := by
  rw [und]; simp only [if_true, h]
theorem und_self {fr : List Nat} {c : Nat} {r : List Nat} (h : c ≠ 126) (h2 : (isPl c || decide (c ∈ fr)) = true) : und fr (c :: r) = (und fr r).map (c :: ·) := by
  rw [und.eq_def]; simp only [if_neg h, h2, if_true]
theorem sgO_hex {c : Nat} (hc : isSg c = true) : sgO (hexd (c / 16)) (hexd (c % 16)) = some c := by
  have l := isSg_lt hc
  have key : ∀ h, h < 16 → fig (hexd h) = some h := by decide +kernel
  unfold sgO
  rw [key _ (by omega), key _ (by omega)]
  have e : c / 16 * 16 + c % 16 = c := by omega
  simp only [e, hc, if_true]
theorem not_pl : isPl 126 = false := by decide
theorem und_wr {fr : List Nat} : ∀ (l r : List Nat), (∀ c ∈ l, isSg c = true) → und fr (wr l ++ r) = (und fr r).map (l ++ ·)
  | [], r, _ => by simp [wr]
  | c :: l, r, h => by
    have ih := und_wr (fr := fr) l r fun d hd => h d (List.mem_cons_of_mem _ hd)
    have e : wr (c :: l) ++ r = wr1 c ++ (wr l ++ r) := by unfold wr; rw [List.flatMap_cons, List.append_assoc]
    rw [e]
    unfold wr1
    split
    · rename_i hp
      have hn : c ≠ 126 := by rintro rfl; rw [not_pl] at hp; cases hp
      show und fr (c :: (wr l ++ r)) = _
      rw [und_self hn (by rw [hp]; rfl), ih, Option.map_map]
      rfl
    · show und fr (126 :: hexd (c / 16) :: hexd (c % 16) :: (wr l ++ r)) = _
      rw [und_pair (sgO_hex (h c List.mem_cons_self)), ih, Option.map_map]
      rfl

/-! ### what the laws draw -/
def sgAt (c : Int) : Nat := SG.getD (c % 94).toNat 32
theorem sgAt_at (c : Int) : atI SG (c % 94) = some (sgAt c) ∧ isSg (sgAt c) = true := by
  have h1 := Int.emod_nonneg c (show (94 : Int) ≠ 0 by decide)
  have h2 := Int.emod_lt_of_pos c (show (0 : Int) < 94 by decide)
  have h3 : (c % 94).toNat < SG.length := by rw [SG_len]; omega
  have e : SG[(c % 94).toNat]? = some (sgAt c) := by
    unfold sgAt
    rw [List.getElem?_eq_getElem h3, List.getD_eq_getElem?_getD, List.getElem?_eq_getElem h3]
    rfl
  refine ⟨?_, mem_SG.mp (List.mem_of_getElem? e)⟩
  have := atI_nat e
  rw [Int.toNat_of_nonneg h1] at this
  exact this
theorem cell_of {ns : List Int} {k : Nat} (h : k < ns.length) : atI (ns.map V.int) (k : Int) = some (.int (ns.getD k 0)) := by
  refine atI_nat ?_
  rw [List.getElem?_map, List.getElem?_eq_getElem h, List.getD_eq_getElem?_getD, List.getElem?_eq_getElem h]
  rfl
theorem le_line {n : Nat} (h : n ≤ 100000) : n ≤ sizeLine := Nat.le_trans h (by decide)
theorem map_arr (f : Nat → Nat) (l : List Nat) : (l.toArray).map f = (l.map f).toArray := by simp
theorem mk_list (l : List Nat) : (⟨l.toArray⟩ : Str).cps.toList = l := rfl
theorem same_upd {H : Hp} {p : Addr} {o : HO} (hp : H p = none) : Same H (upd H p o) := fun b u e => by rw [upd_ne (ne_of_none e hp)]; exact e
theorem und_all {fr l : List Nat} (h : ∀ c ∈ l, isSg c = true) : und fr (wr l) = some l := by
  have := und_wr (fr := fr) l [] h
  rw [List.append_nil, und_nil] at this
  rw [this]; simp

theorem flat_codes (dn : List Nat) : ((dn.map fun c => (⟨[c].toArray⟩ : Str)).flatMap fun y => y.cps.toList) = dn := by
  induction dn with
  | nil => rfl
  | cons c r ih => rw [List.map_cons, List.flatMap_cons, ih]; rfl
theorem sum_codes (dn : List Nat) : ((dn.map fun c => (⟨[c].toArray⟩ : Str)).map (·.length)).sum = dn.length := by
  induction dn with
  | nil => rfl
  | cons c r ih => rw [List.map_cons, List.map_cons, List.sum_cons, ih, List.length_cons]; show 1 + _ = _; omega
def hit (a b c : Nat) : Bool := decide ([hexd (c / 16), hexd (c % 16)] = [PyProof.Rows.lo1 a, PyProof.Rows.lo1 b])
end Wm
/-! ADDRESSES as data: what is_address tells, over trees -/
namespace Wm
open PySem L2
mutual
def smallD : PyData → Bool
  | .str x => decide (x.length ≤ 100000)
  | .list xs => decide (xs.length ≤ 100000) && smallAll xs
  | .tuple xs => decide (xs.length ≤ 100000) && smallAll xs
  | .dict _ => false
  | .none => true
  | .bool _ => true
  | .int _ => true
def smallAll : List PyData → Bool
  | [] => true
  | d :: ds => smallD d && smallAll ds
end
theorem smallAll_mem : ∀ {ds : List PyData} {d : PyData}, smallAll ds = true → d ∈ ds → smallD d = true
  | e :: ds, d, h, hm => by
    simp only [smallAll, Bool.and_eq_true] at h
    rcases List.mem_cons.mp hm with rfl | hm
    · exact h.1
    · exact smallAll_mem h.2 hm
theorem smallAll_of : ∀ {ds : List PyData}, (∀ d ∈ ds, smallD d = true) → smallAll ds = true
  | [], _ => rfl
  | d :: ds, h => by
    simp only [smallAll, Bool.and_eq_true]
    exact ⟨h d List.mem_cons_self, smallAll_of fun e he => h e (List.mem_cons_of_mem _ he)⟩
theorem small_str {x : Str} (h : smallD (.str x) = true) : x.length ≤ 100000 := by simpa [smallD] using h
theorem small_tup {ds : List PyData} (h : smallD (.tuple ds) = true) : ds.length ≤ 100000 ∧ smallAll ds = true := by simpa [smallD] using h
theorem small_tup_of {ds : List PyData} (h : ds.length ≤ 100000) (h2 : smallAll ds = true) : smallD (.tuple ds) = true := by simp [smallD, h, h2]
def isLet (c : Nat) : Bool := decide (65 ≤ c ∧ c ≤ 90) || decide (97 ≤ c ∧ c ≤ 122)
def isAln (c : Nat) : Bool := isLet c || decide (48 ≤ c ∧ c ≤ 57)
theorem let_in : ∀ c, c < 128 → (decide (c ∈ (Str.ofString "abcdefghijklmnopqrstuvwxyzABCDEFGHIJKLMNOPQRSTUVWXYZ").cps.toList)) = isLet c := by decide +kernel
theorem aln_in : ∀ c, c < 128 → (decide (c ∈ (Str.ofString "abcdefghijklmnopqrstuvwxyzABCDEFGHIJKLMNOPQRSTUVWXYZ0123456789").cps.toList)) = isAln c := by decide +kernel
theorem sig_eq : (Str.ofString " !\"#$&'()*+,-./0123456789:;<=>?@ABCDEFGHIJKLMNOPQRSTUVWXYZ[\\]^_`abcdefghijklmnopqrstuvwxyz{|}~").cps.toList = SG := by decide +kernel
theorem sig_in (c : Nat) : (decide (c ∈ (Str.ofString " !\"#$&'()*+,-./0123456789:;<=>?@ABCDEFGHIJKLMNOPQRSTUVWXYZ[\\]^_`abcdefghijklmnopqrstuvwxyz{|}~").cps.toList)) = isSg c := by
  rw [sig_eq, Bool.eq_iff_iff, decide_eq_true_eq, mem_SG]
/-- a text of signs -/
def tx : PyData → Bool
  | .str x => x.cps.toList.all isSg
  | _ => false
def ftx : PyData → Bool
  | .str x => x.cps.toList.all isSg && decide (0 < x.length)
  | _ => false
def ntx : PyData → Bool
  | .none => true
  | .str x => x.cps.toList.all isSg
  | _ => false
def schD : PyData → Bool
  | .str x => x.cps.toList.all isSg && decide (x.length ≤ 8) && (x.cps.toList.take 1).all isLet && x.cps.toList.all isAln
  | _ => false
def houD : PyData → Bool
  | .none => true
  | .str x => x.cps.toList.all isSg && decide (0 < x.length) && decide (x.length ≤ 60)
  | _ => false
def dooD : PyData → Bool
  | .none => true
  | .int i => decide (0 ≤ i) && decide (i ≤ 65535)
  | _ => false
def stpD : PyData → Bool
  | .tuple ds => ds.all ftx
  | _ => false
def isB : PyData → Bool
  | .bool _ => true
  | _ => false
def tupN (n : Int) : PyData → Bool
  | .tuple ds => decide ((ds.length : Int) = n)
  | _ => false
def wayD : PyData → Bool
  | .tuple [a, b, c] => match a, b, c with
    | .bool r, .tuple ds, .bool e => ds.all ftx && (decide (0 < ds.length) || decide (r = e))
    | _, _, _ => false
  | _ => false
def askD : PyData → Bool
  | .tuple [a, b] => ftx a && ntx b
  | _ => false
def queD : PyData → Bool
  | .none => true
  | .tuple ds => ds.all askD
  | _ => false
def nonD : PyData → Bool
  | .none => true
  | _ => false
def agrD (a b c d : PyData) : Bool := (nonD c || !nonD b) && ((match d with | .tuple (.bool r :: _) => r | _ => false) || !((match a with | .str x => !decide (x = ⟨#[]⟩) | _ => false) || !nonD b))
def addrD : PyData → Bool
  | .tuple [a, b, c, d, e, f] => (schD a && (houD b && (dooD c && (wayD d && (queD e && ntx f))))) && agrD a b c d
  | _ => false
theorem wayD_shape {d : PyData} (h : wayD d = true) : ∃ r ds e, d = .tuple [.bool r, .tuple ds, .bool e] := by
  unfold wayD at h
  split at h
  · split at h
    · exact ⟨_, _, _, rfl⟩
    · cases h
  · cases h
theorem schD_shape {d : PyData} (h : schD d = true) : ∃ x, d = .str x := by
  unfold schD at h
  split at h
  · exact ⟨_, rfl⟩
  · cases h
/-! ### an address -/
abbrev st (l : List Nat) : PyData := .str ⟨l.toArray⟩
def oD : Option (List Nat) → PyData
  | none => .none
  | some l => st l
def otV : Option (List Nat) → V
  | none => .non
  | some l => .str ⟨l.toArray⟩
theorem is_oD {H : Hp} (o : Option (List Nat)) : IsT H (oD o) (otV o) := by
  cases o with
  | none => exact .non
  | some x => exact .str _
def iD : Option Int → PyData
  | none => .none
  | some i => .int i
def qD : Option (List (List Nat × Option (List Nat))) → PyData
  | none => .none
  | some ps => .tuple (ps.map fun p => .tuple [st p.1, oD p.2])
structure Ad where
  scheme : List Nat
  house : Option (List Nat)
  door : Option Int
  rooted : Bool
  steps : List (List Nat)
  ends : Bool
  quest : Option (List (List Nat × Option (List Nat)))
  mark : Option (List Nat)
def Ad.way (x : Ad) : PyData := .tuple [.bool x.rooted, .tuple (x.steps.map st), .bool x.ends]
def Ad.data (x : Ad) : PyData := .tuple [st x.scheme, oD x.house, iD x.door, x.way, qD x.quest, oD x.mark]
/-- a text of signs of at most so many -/
def Tx (n : Nat) (l : List Nat) : Prop := l.length ≤ n ∧ ∀ c ∈ l, isSg c = true
structure Ad.Ok (x : Ad) : Prop where
  sch : x.scheme.length ≤ 8 ∧ (∀ c ∈ x.scheme, isAln c = true) ∧ ∀ c ∈ x.scheme.take 1, isLet c = true
  hou : ∀ l, x.house = some l → 0 < l.length ∧ Tx 60 l
  doo : ∀ i, x.door = some i → (0 ≤ i ∧ i ≤ 65535) ∧ x.house ≠ none
  stp : x.steps.length ≤ 50 ∧ ∀ l ∈ x.steps, 0 < l.length ∧ Tx 60 l
  roo : x.scheme ≠ [] ∨ x.house ≠ none → x.rooted = true
  end_ : x.steps = [] → x.ends = x.rooted
  que : ∀ ps, x.quest = some ps → ps.length ≤ 20 ∧ ∀ p ∈ ps, (0 < p.1.length ∧ Tx 6 p.1) ∧ ∀ v, p.2 = some v → Tx 6 v
  mar : ∀ l, x.mark = some l → Tx 60 l
theorem aln_sg {c : Nat} (h : isAln c = true) : isSg c = true := by
  simp only [isAln, isLet, Bool.or_eq_true, decide_eq_true_eq] at h
  simp only [isSg, Bool.and_eq_true, decide_eq_true_eq, Bool.not_eq_true', decide_eq_false_iff_not]
  omega
theorem st_len (l : List Nat) : (⟨l.toArray⟩ : Str).length = l.length := mk_len l
theorem ftx_st {l : List Nat} {n : Nat} (h : 0 < l.length ∧ Tx n l) : ftx (st l) = true := by
  simp only [ftx, st_len, Bool.and_eq_true, decide_eq_true_eq]
  exact ⟨List.all_eq_true.mpr h.2.2, h.1⟩
theorem tx_st {l : List Nat} {n : Nat} (h : Tx n l) : (⟨l.toArray⟩ : Str).cps.toList.all isSg = true := List.all_eq_true.mpr h.2
theorem ntx_oD {o : Option (List Nat)} {n : Nat} (h : ∀ l, o = some l → Tx n l) : ntx (oD o) = true := by
  cases o with
  | none => rfl
  | some l => exact tx_st (h l rfl)
theorem Ad.Ok.isWay {x : Ad} (h : x.Ok) : wayD x.way = true := by
  simp only [Ad.way, wayD, Bool.and_eq_true, Bool.or_eq_true, decide_eq_true_eq, List.length_map]
  refine ⟨List.all_eq_true.mpr fun d hd => ?_, ?_⟩
  · obtain ⟨l, hl, rfl⟩ := List.mem_map.mp hd
    exact ftx_st (h.stp.2 l hl)
  · by_cases e : x.steps = []
    · exact .inr (h.end_ e).symm
    · exact .inl (List.length_pos_iff.mpr e)
theorem Ad.Ok.isQ {x : Ad} (h : x.Ok) : queD (qD x.quest) = true := by
  cases e : x.quest with
  | none => rfl
  | some ps =>
    refine List.all_eq_true.mpr fun d hd => ?_
    obtain ⟨p, hp, rfl⟩ := List.mem_map.mp hd
    obtain ⟨h1, h2⟩ := (h.que ps e).2 p hp
    simp only [askD, Bool.and_eq_true]
    exact ⟨ftx_st h1, ntx_oD h2⟩
theorem Ad.Ok.isSch {x : Ad} (h : x.Ok) : schD (st x.scheme) = true := by
  simp only [schD, st_len, Bool.and_eq_true, decide_eq_true_eq]
  exact ⟨⟨⟨List.all_eq_true.mpr fun c hc => aln_sg (h.sch.2.1 c hc), h.sch.1⟩, List.all_eq_true.mpr h.sch.2.2⟩, List.all_eq_true.mpr h.sch.2.1⟩
theorem Ad.Ok.isHou {x : Ad} (h : x.Ok) : houD (oD x.house) = true := by
  cases e : x.house with
  | none => rfl
  | some l =>
    have := h.hou l e
    simp only [oD, houD, st_len, Bool.and_eq_true, decide_eq_true_eq]
    exact ⟨⟨tx_st this.2, this.1⟩, this.2.1⟩
theorem Ad.Ok.isDoo {x : Ad} (h : x.Ok) : dooD (iD x.door) = true := by
  cases e : x.door with
  | none => rfl
  | some i =>
    have := (h.doo i e).1
    simp only [iD, dooD, Bool.and_eq_true, decide_eq_true_eq]
    exact this
theorem Ad.Ok.isAgr {x : Ad} (h : x.Ok) : agrD (st x.scheme) (oD x.house) (iD x.door) x.way = true := by
  have hn : ∀ o : Option (List Nat), nonD (oD o) = o.isNone := fun o => by cases o <;> rfl
  have hi : nonD (iD x.door) = x.door.isNone := by cases x.door <;> rfl
  simp only [agrD, Ad.way, hn, hi, Bool.and_eq_true, Bool.or_eq_true]
  refine ⟨?_, ?_⟩
  · cases e : x.door with
    | none => exact .inl rfl
    | some i =>
      right
      cases e2 : x.house with
      | none => exact absurd e2 (h.doo i e).2
      | some l => rfl
  · by_cases e : x.scheme ≠ [] ∨ x.house ≠ none
    · exact .inl (h.roo e)
    · right
      have e1 : x.scheme = [] := Classical.byContradiction fun z => e (.inl z)
      have e2 : x.house = none := Classical.byContradiction fun z => e (.inr z)
      rw [e1, e2]
      decide
theorem Ad.Ok.isAd {x : Ad} (h : x.Ok) : addrD x.data = true := by
  simp only [Ad.data, addrD, h.isSch, h.isHou, h.isDoo, h.isWay, h.isQ, h.isAgr, ntx_oD h.mar, Bool.and_self]
theorem small_st {l : List Nat} {n : Nat} (h : Tx n l) (hn : n ≤ 100000) : smallD (st l) = true := by
  simp only [smallD, st_len, decide_eq_true_eq]
  have := h.1
  omega
theorem small_oD {o : Option (List Nat)} {n : Nat} (h : ∀ l, o = some l → Tx n l) (hn : n ≤ 100000) : smallD (oD o) = true := by
  cases o with
  | none => rfl
  | some l => exact small_st (h l rfl) hn
theorem Ad.Ok.smallWay {x : Ad} (h : x.Ok) : smallD x.way = true := by
  have h1 : smallD (.tuple (x.steps.map st)) = true := small_tup_of (by rw [List.length_map]; have := h.stp.1; omega) (smallAll_of fun d hd => by
    obtain ⟨l, hl, rfl⟩ := List.mem_map.mp hd
    exact small_st (h.stp.2 l hl).2 (by decide))
  exact small_tup_of (by simp) (by simp only [smallAll, h1]; rfl)
theorem Ad.Ok.smallQ {x : Ad} (h : x.Ok) : smallD (qD x.quest) = true := by
  cases e : x.quest with
  | none => rfl
  | some ps =>
    have hq := h.que ps e
    refine small_tup_of (by rw [List.length_map]; have := hq.1; omega) (smallAll_of fun d hd => ?_)
    obtain ⟨p, hp, rfl⟩ := List.mem_map.mp hd
    obtain ⟨h1, h2⟩ := hq.2 p hp
    exact small_tup_of (by simp) (by simp only [smallAll, small_st h1.2 (by decide), small_oD h2 (by decide)]; rfl)
theorem Ad.Ok.smallS {x : Ad} (h : x.Ok) : smallD (st x.scheme) = true := small_st ⟨h.sch.1, fun c hc => aln_sg (h.sch.2.1 c hc)⟩ (by decide)
theorem Ad.Ok.smallH {x : Ad} (h : x.Ok) : smallD (oD x.house) = true := small_oD (fun l e => (h.hou l e).2) (by decide)
theorem Ad.Ok.smallI {x : Ad} (h : x.Ok) : smallD (iD x.door) = true := by cases x.door <;> rfl
theorem Ad.Ok.smallM {x : Ad} (h : x.Ok) : smallD (oD x.mark) = true := small_oD h.mar (by decide)
theorem Ad.Ok.small {x : Ad} (h : x.Ok) : smallD x.data = true :=
  small_tup_of (by simp) (by simp only [smallAll, h.smallS, h.smallH, h.smallI, h.smallWay, h.smallQ, h.smallM]; rfl)

/-! ### decks that are drawn from -/
def Deck (H : Hp) (p : Addr) (n : Nat) : Prop := ∃ a b c : Int, H p = some (.lst [.int a, .int b, .int c]) ∧ 0 ≤ c ∧ c ≤ n
theorem Deck.lst {H : Hp} {p : Addr} {n : Nat} (h : Deck H p n) : ∃ xs, H p = some (.lst xs) := by obtain ⟨a, b, c, h, _⟩ := h; exact ⟨_, h⟩
theorem Deck.le {H : Hp} {p : Addr} {n m : Nat} (h : Deck H p n) (hm : n ≤ m) : Deck H p m := by obtain ⟨a, b, c, h, h1, h2⟩ := h; exact ⟨a, b, c, h, h1, by omega⟩
theorem Deck.same {H H' : Hp} {p : Addr} {n : Nat} (h : Deck H p n) (sm : Same H H') : Deck H' p n := by obtain ⟨a, b, c, h, r⟩ := h; exact ⟨a, b, c, sm _ _ h, r⟩
theorem Deck.ne {H : Hp} {p q : Addr} {n : Nat} (h : Deck H p n) (hq : H q = none) : q ≠ p := by
  obtain ⟨xs, e⟩ := h.lst
  exact (ne_of_none e hq).symm
theorem Deck.upd {H : Hp} {p q : Addr} {n : Nat} {o : HO} (h : Deck H p n) (hq : q ≠ p) : Deck (upd H q o) p n := by
  obtain ⟨a, b, c, h, r⟩ := h
  exact ⟨a, b, c, by rw [upd_ne (Ne.symm hq)]; exact h, r⟩
theorem Deck.toT {H H' : Hp} {p : Addr} {n : Nat} (h : Deck H p n) (sb : SameBut p H H') : SameT H H' := by
  obtain ⟨xs, e⟩ := h.lst
  exact sb.toT e

theorem tupN_shape {n : Int} {d : PyData} (h : tupN n d = true) : ∃ ds, d = .tuple ds ∧ (ds.length : Int) = n := by
  unfold tupN at h
  split at h
  · exact ⟨_, rfl, by simpa using h⟩
  · cases h
theorem len2 {α : Type} {l : List α} (h : (l.length : Int) = 2) : ∃ a b, l = [a, b] := by
  match l, h with
  | [a, b], _ => exact ⟨a, b, rfl⟩
  | [], h => simp at h
  | [_], h => simp at h
  | _ :: _ :: _ :: _, h => simp at h; omega
theorem len3 {α : Type} {l : List α} (h : (l.length : Int) = 3) : ∃ a b c, l = [a, b, c] := by
  match l, h with
  | [a, b, c], _ => exact ⟨a, b, c, rfl⟩
  | [], h => simp at h
  | [_], h => simp at h
  | [_, _], h => simp at h
  | _ :: _ :: _ :: _ :: _, h => simp at h; omega
theorem len6 {α : Type} {l : List α} (h : (l.length : Int) = 6) : ∃ a b c d e f, l = [a, b, c, d, e, f] := by
  match l, h with
  | [a, b, c, d, e, f], _ => exact ⟨a, b, c, d, e, f, rfl⟩
  | [], h => simp at h
  | [_], h => simp at h
  | [_, _], h => simp at h
  | [_, _, _], h => simp at h
  | [_, _, _, _], h => simp at h
  | [_, _, _, _, _], h => simp at h
  | _ :: _ :: _ :: _ :: _ :: _ :: _ :: _, h => simp at h; omega
theorem tup2 {d : PyData} (h : tupN 2 d = true) : ∃ a b, d = .tuple [a, b] := by
  obtain ⟨ds, rfl, e⟩ := tupN_shape h
  obtain ⟨a, b, rfl⟩ := len2 e
  exact ⟨a, b, rfl⟩
theorem tup3 {d : PyData} (h : tupN 3 d = true) : ∃ a b c, d = .tuple [a, b, c] := by
  obtain ⟨ds, rfl, e⟩ := tupN_shape h
  obtain ⟨a, b, c, rfl⟩ := len3 e
  exact ⟨a, b, c, rfl⟩
theorem tup6 {d : PyData} (h : tupN 6 d = true) : ∃ a b c x e f, d = .tuple [a, b, c, x, e, f] := by
  obtain ⟨ds, rfl, hl⟩ := tupN_shape h
  obtain ⟨a, b, c, x, e, f, rfl⟩ := len6 hl
  exact ⟨a, b, c, x, e, f, rfl⟩
theorem askD_no {d : PyData} (h : ¬ tupN 2 d = true) : askD d = false := by
  unfold askD
  split
  · exact absurd rfl h
  · rfl
theorem wayD_no {d : PyData} (h : ¬ tupN 3 d = true) : wayD d = false := by
  unfold wayD
  split
  · exact absurd rfl h
  · rfl
theorem addrD_no {d : PyData} (h : ¬ tupN 6 d = true) : addrD d = false := by
  unfold addrD
  split
  · exact absurd rfl h
  · rfl
theorem isAll2 {H : Hp} {a b : PyData} {xs : List V} (h : IsAll H [a, b] xs) : ∃ x y, xs = [x, y] ∧ Is H a x ∧ Is H b y := by
  cases h with
  | cons h1 r => cases r with
    | cons h2 r => cases r; exact ⟨_, _, rfl, h1, h2⟩
theorem isAll3 {H : Hp} {a b c : PyData} {xs : List V} (h : IsAll H [a, b, c] xs) : ∃ x y z, xs = [x, y, z] ∧ Is H a x ∧ Is H b y ∧ Is H c z := by
  cases h with
  | cons h1 r => obtain ⟨y, z, rfl, h2, h3⟩ := isAll2 r; exact ⟨_, _, _, rfl, h1, h2, h3⟩
theorem isAll6 {H : Hp} {a b c d e f : PyData} {xs : List V} (h : IsAll H [a, b, c, d, e, f] xs) : ∃ x0 x1 x2 x3 x4 x5, xs = [x0, x1, x2, x3, x4, x5] ∧ Is H a x0 ∧ Is H b x1 ∧ Is H c x2 ∧ Is H d x3 ∧ Is H e x4 ∧ Is H f x5 := by
  cases h with
  | cons h1 r => cases r with
    | cons h2 r => cases r with
      | cons h3 r => obtain ⟨x, y, z, rfl, h4, h5, h6⟩ := isAll3 r; exact ⟨_, _, _, _, _, _, rfl, h1, h2, h3, h4, h5, h6⟩
theorem sub_isB (d : PyData) : subT (kindD d) "bool" = isB d := by cases d <;> simp only [kindD, isB] <;> decide
theorem isB_shape {d : PyData} (h : isB d = true) : ∃ r, d = .bool r := by
  cases d with
  | bool r => exact ⟨r, rfl⟩
  | _ => cases h
theorem stpD_shape {d : PyData} (h : stpD d = true) : ∃ ds, d = .tuple ds := by
  cases d with
  | tuple ds => exact ⟨ds, rfl⟩
  | _ => cases h
theorem wayD_eq (a b c : PyData) : wayD (.tuple [a, b, c]) = (isB a && (stpD b && (isB c && (match a, b, c with | .bool r, .tuple ds, .bool e => decide (0 < ds.length) || decide (r = e) | _, _, _ => false)))) := by
  cases a <;> cases b <;> cases c <;> simp [wayD, isB, stpD]

theorem at_lt {α : Type} (l : List α) {r : Int} (h0 : 0 ≤ r) (h1 : r < l.length) : ∃ c, c ∈ l ∧ atI l r = some c := by
  have h3 : r.toNat < l.length := by omega
  refine ⟨l[r.toNat], List.getElem_mem _, ?_⟩
  have := atI_nat (xs := l) (j := r.toNat) (v := l[r.toNat]) (by simp [h3])
  rw [Int.toNat_of_nonneg h0] at this
  exact this
def AL : List Nat := (Str.ofString "abcdefghijklmnopqrstuvwxyzABCDEFGHIJKLMNOPQRSTUVWXYZ0123456789").cps.toList
theorem al_app : (Str.ofString "abcdefghijklmnopqrstuvwxyzABCDEFGHIJKLMNOPQRSTUVWXYZ" ++ Str.ofString "0123456789" : Str) = ⟨AL.toArray⟩ := by decide +kernel
theorem al_len : AL.length = 62 := by decide +kernel
theorem al_aln : ∀ c ∈ AL, isAln c = true := by decide +kernel
theorem al_let : ∀ i, i < 52 → ∃ c, AL[i]? = some c ∧ isLet c = true := by
  have h : ∀ i, i < 52 → (AL[i]?).any isLet = true := by decide +kernel
  intro i hi
  have := h i hi
  cases e : AL[i]? with
  | none => rw [e] at this; cases this
  | some c => rw [e] at this; exact ⟨c, rfl, this⟩
theorem tabs5 : ∀ r : Int, 0 ≤ r → r < 5 → ∃ tab : List Nat, atI [V.str ⟨SG.toArray⟩, V.str ⟨SG.toArray⟩, V.str (Str.ofString "abcXYZ019-_."), V.str (Str.ofString "/?#:&=~.@ +"), V.str (Str.ofString "aA.~")] r = some (.str ⟨tab.toArray⟩) ∧ 0 < tab.length ∧ tab.length ≤ 94 ∧ ∀ c ∈ tab, isSg c = true := by
  intro r h0 h1
  have h : r = ((0 : Nat) : Int) ∨ r = ((1 : Nat) : Int) ∨ r = ((2 : Nat) : Int) ∨ r = ((3 : Nat) : Int) ∨ r = ((4 : Nat) : Int) := by omega
  rcases h with rfl | rfl | rfl | rfl | rfl
  · exact ⟨SG, atI_nat rfl, by rw [SG_len]; decide, by rw [SG_len]; decide, fun c hc => mem_SG.mp hc⟩
  · exact ⟨SG, atI_nat rfl, by rw [SG_len]; decide, by rw [SG_len]; decide, fun c hc => mem_SG.mp hc⟩
  · exact ⟨(Str.ofString "abcXYZ019-_.").cps.toList, atI_nat rfl, by decide +kernel, by decide +kernel, by decide +kernel⟩
  · exact ⟨(Str.ofString "/?#:&=~.@ +").cps.toList, atI_nat rfl, by decide +kernel, by decide +kernel, by decide +kernel⟩
  · exact ⟨(Str.ofString "aA.~").cps.toList, atI_nat rfl, by decide +kernel, by decide +kernel, by decide +kernel⟩
theorem pair_or_nil {α : Type} (l : List α) (c : α) : (l ++ [c]).take 1 = if l.length = 0 then [c] else l.take 1 := by
  cases l with
  | nil => rfl
  | cons a r => rfl

def itV : Option Int → V
  | none => .non
  | some i => .int i
theorem is_iD {H : Hp} (o : Option Int) : IsT H (iD o) (itV o) := by
  cases o with
  | none => exact .non
  | some x => exact .int _
theorem lay_strs : ∀ {ss : List (List Nat)}, (∀ l ∈ ss, ∀ c ∈ l, isSg c = true) → PyData.canLayAll0 (ss.map st) = true ∧ PyData.depthAll (ss.map st) = 0
  | [], _ => ⟨rfl, rfl⟩
  | l :: r, h => by
    obtain ⟨h1, h2⟩ := lay_strs (ss := r) fun l' hl' => h l' (List.mem_cons_of_mem _ hl')
    have hc : PyData.strOk ⟨l.toArray⟩ = true := by
      simp only [PyData.strOk, List.all_toArray, List.all_eq_true, decide_eq_true_eq]
      intro c hc
      have := isSg_lt (h l List.mem_cons_self c hc)
      omega
    refine ⟨?_, ?_⟩
    · simp only [List.map_cons, PyData.canLayAll0, PyData.canLay0, hc, h1]; rfl
    · simp only [List.map_cons, PyData.depthAll, PyData.depth, h2]; rfl
theorem shaped_steps {ss : List (List Nat)} (h : ∀ l ∈ ss, ∀ c ∈ l, isSg c = true) : SeqAt.shaped (.tuple (ss.map st)) = true := by
  obtain ⟨h1, h2⟩ := lay_strs h
  unfold SeqAt.shaped
  simp only [PyData.canLay0, PyData.depth, h1, h2]
  decide
theorem eqv_nil (ds : List PyData) : PyData.eqv (.tuple ds) (.tuple []) = ds.isEmpty := by
  cases ds <;> simp [PyData.eqv, PyData.eqvAll]
theorem mk_nil {l : List Nat} : ((⟨l.toArray⟩ : Str) = ⟨#[]⟩) ↔ l = [] := mk_inj (m := [])

/-! ### things that are none -/
def Bad (f : PyData → Bool) (H : Hp) (v : V) : Prop := ∃ d, Is H d v ∧ smallD d = true ∧ f d = false
theorem Bad.mono {f : PyData → Bool} {H H' : Hp} {v : V} (h : Bad f H v) (sm : Same H H') : Bad f H' v := by
  obtain ⟨d, h1, h2⟩ := h
  exact ⟨d, h1.mono sm, h2⟩
def Bads (f : PyData → Bool) (H : Hp) (vs : List V) : Prop := ∀ v ∈ vs, Bad f H v
theorem Bads.nil {f : PyData → Bool} {H : Hp} : Bads f H [] := fun v h => absurd h (by simp)
theorem Bads.cons {f : PyData → Bool} {H : Hp} {v : V} {vs : List V} (h : Bad f H v) (r : Bads f H vs) : Bads f H (v :: vs) := fun w hw => by
  rcases List.mem_cons.mp hw with rfl | hw
  · exact h
  · exact r w hw
theorem Bads.mono {f : PyData → Bool} {H H' : Hp} {vs : List V} (h : Bads f H vs) (sm : Same H H') : Bads f H' vs := fun v hv => (h v hv).mono sm
/-! ### one list left out of sight (it will be written to) -/
def HQ (qo : Option Addr) (H : Hp) : Prop := ∀ q, qo = some q → ∃ xs, H q = some (.lst xs)
theorem HQ.mono {qo : Option Addr} {H H' : Hp} (h : HQ qo H) (sm : Same H H') : HQ qo H' := fun q e => by
  obtain ⟨xs, hx⟩ := h q e
  exact ⟨xs, sm _ _ hx⟩
/-- six things of which one is none of its kind -/
def BadL (H : Hp) (xs : List V) : Prop := ∃ ds, IsAll H ds xs ∧ ds.length = 6 ∧ smallAll ds = true ∧ addrD (.tuple ds) = false

theorem same_over {q : Addr} {H H' : Hp} {o : HO} (hq : H q = none) (sm : Same H H') : Same H (upd H' q o) := fun b u e => by
  rw [upd_ne (ne_of_none e hq)]; exact sm _ _ e
theorem BadL.mono {H H' : Hp} {xs : List V} (h : BadL H xs) (sm : Same H H') : BadL H' xs := by
  obtain ⟨ds, r, h⟩ := h
  exact ⟨ds, r.mono sm, h⟩
end Wm
/-! SHOWING, as mathematics: the text of an address; unlike addresses have unlike texts -/
namespace Wm
open PySem L2
def dg (i : Int) : List Nat := (Str.ofString (toString i)).cps.toList
theorem dg_inj {i j : Int} (hi : 0 ≤ i) (hi' : i ≤ 65535) (hj : 0 ≤ j) (hj' : j ≤ 65535) (h : dg i = dg j) : i = j := by
  have e : Str.ofString (toString i) = Str.ofString (toString j) := by
    have : (Str.ofString (toString i)).cps = (Str.ofString (toString j)).cps := Array.ext' h
    cases hA : Str.ofString (toString i); cases hB : Str.ofString (toString j); rw [hA, hB] at this; exact congrArg _ this
  have a := PySem.W.KIN.num_reads hi (by omega)
  have b := PySem.W.KIN.num_reads hj (by omega)
  rw [e] at a; rw [a] at b; injection b
theorem dg_fig {i : Int} (hi : 0 ≤ i) : ∀ c ∈ dg i, 48 ≤ c ∧ c ≤ 57 := by
  intro c hc
  obtain ⟨n, rfl⟩ := Int.eq_ofNat_of_zero_le hi
  unfold dg at hc
  rw [PySem.W.KIN.signs_num, List.mem_map] at hc
  obtain ⟨d, hd, rfl⟩ := hc
  have := Nat.isDigit_of_mem_toDigits (by decide) (by decide) hd
  simp only [Char.isDigit, Bool.and_eq_true, decide_eq_true_eq] at this
  exact ⟨this.1, this.2⟩
theorem dg_len {i : Int} (hi : 0 ≤ i) (hi' : i ≤ 65535) : (dg i).length ≤ 5 := by
  have := PyProof.Rows.toString_length_le hi (k := 5) (by decide) (by omega)
  simpa [dg, Str.length] using this

/-! ### cutting at the first sign that parts -/
def Hd (p : Nat → Bool) (r : List Nat) : Prop := ∀ c r', r = c :: r' → p c = true
theorem Hd.nil {p : Nat → Bool} : Hd p [] := fun c r' h => by cases h
theorem Hd.cons {p : Nat → Bool} {c : Nat} {r : List Nat} (h : p c = true) : Hd p (c :: r) := fun d r' e => by injection e with e; exact e ▸ h
theorem cutL {p : Nat → Bool} : ∀ {u u' r r' : List Nat}, (∀ c ∈ u, p c = false) → (∀ c ∈ u', p c = false) → Hd p r → Hd p r' → u ++ r = u' ++ r' → u = u' ∧ r = r'
  | [], [], r, r', _, _, _, _, e => ⟨rfl, e⟩
  | [], c :: u', r, r', _, h', hr, _, e => by
    have := hr c (u' ++ r') e
    rw [h' c (List.mem_cons_self ..)] at this; cases this
  | c :: u, [], r, r', h, _, _, hr', e => by
    have := hr' c (u ++ r) e.symm
    rw [h c (List.mem_cons_self ..)] at this; cases this
  | c :: u, d :: u', r, r', h, h', hr, hr', e => by
    simp only [List.cons_append, List.cons.injEq] at e
    obtain ⟨e1, e2⟩ := cutL (fun x hx => h x (List.mem_cons_of_mem _ hx)) (fun x hx => h' x (List.mem_cons_of_mem _ hx)) hr hr' e.2
    exact ⟨by rw [e.1, e1], e2⟩

/-! ### what is written -/
def wch (c : Nat) : Bool := isPl c || decide (c = 126)
theorem hexd_pl : ∀ n, n < 16 → isPl (hexd n) = true := by decide +kernel
theorem wr_ch {l : List Nat} (h : ∀ c ∈ l, isSg c = true) : ∀ c ∈ wr l, wch c = true := by
  intro c hc
  unfold wr at hc
  obtain ⟨d, hd, hc⟩ := List.mem_flatMap.mp hc
  have := isSg_lt (h d hd)
  unfold wr1 at hc
  split at hc
  · next hp => rw [List.mem_singleton] at hc; rw [hc, wch, hp]; rfl
  · simp only [List.mem_cons, List.not_mem_nil, or_false] at hc
    rcases hc with rfl | rfl | rfl
    · rfl
    · rw [wch, hexd_pl _ (by omega)]; rfl
    · rw [wch, hexd_pl _ (by omega)]; rfl
theorem wch_not {c : Nat} (h : wch c = true) : c ≠ 35 ∧ c ≠ 38 ∧ c ≠ 47 ∧ c ≠ 58 ∧ c ≠ 61 ∧ c ≠ 63 := by
  simp only [wch, isPl, Bool.or_eq_true, decide_eq_true_eq] at h
  omega
theorem aln_wch {c : Nat} (h : isAln c = true) : wch c = true := by
  simp only [isAln, isLet, Bool.or_eq_true, decide_eq_true_eq] at h
  simp only [wch, isPl, Bool.or_eq_true, decide_eq_true_eq]
  omega
theorem wr_inj {l m : List Nat} (hl : ∀ c ∈ l, isSg c = true) (hm : ∀ c ∈ m, isSg c = true) (h : wr l = wr m) : l = m := by
  have a := und_all (fr := []) hl
  rw [h, und_all hm] at a; injection a with a; exact a.symm
theorem wr_nil : wr [] = [] := rfl
theorem wr_ne {l : List Nat} (hl : ∀ c ∈ l, isSg c = true) (h : 0 < l.length) : wr l ≠ [] := fun e => by
  have := wr_inj hl (m := []) (by simp) (by rw [e, wr_nil]); rw [this] at h; cases h
theorem map_inj_on {α β : Type} {f : α → β} {P : α → Prop} (hf : ∀ a b, P a → P b → f a = f b → a = b) : ∀ {l m : List α}, (∀ a ∈ l, P a) → (∀ a ∈ m, P a) → l.map f = m.map f → l = m
  | [], [], _, _, _ => rfl
  | [], b :: m, _, _, e => by simp at e
  | a :: l, [], _, _, e => by simp at e
  | a :: l, b :: m, hl, hm, e => by
    simp only [List.map_cons, List.cons.injEq] at e
    rw [hf a b (hl a (List.mem_cons_self ..)) (hm b (List.mem_cons_self ..)) e.1, map_inj_on hf (fun x hx => hl x (List.mem_cons_of_mem _ hx)) (fun x hx => hm x (List.mem_cons_of_mem _ hx)) e.2]

/-! ### pieces with a sign between two -/
def tlT (sep : Nat) : List (List Nat) → List Nat
  | [] => []
  | s :: r => sep :: (s ++ tlT sep r)
def joinT (sep : Nat) : List (List Nat) → List Nat
  | [] => []
  | s :: r => s ++ tlT sep r
theorem tl_hd (sep : Nat) (r : List (List Nat)) : Hd (fun c => decide (c = sep)) (tlT sep r) := by
  cases r with
  | nil => exact .nil
  | cons s r => exact .cons (by simp)
def Free (sep : Nat) (ss : List (List Nat)) : Prop := ∀ s ∈ ss, ∀ c ∈ s, c ≠ sep
theorem Free.hd {sep : Nat} {s : List Nat} {ss : List (List Nat)} (h : Free sep (s :: ss)) : ∀ c ∈ s, (fun c => decide (c = sep)) c = false := fun c hc => decide_eq_false (h s (List.mem_cons_self ..) c hc)
theorem Free.tl {sep : Nat} {s : List Nat} {ss : List (List Nat)} (h : Free sep (s :: ss)) : Free sep ss := fun t ht => h t (List.mem_cons_of_mem _ ht)
theorem tl_inj {sep : Nat} : ∀ {a b : List (List Nat)}, Free sep a → Free sep b → tlT sep a = tlT sep b → a = b
  | [], [], _, _, _ => rfl
  | [], t :: b, _, _, e => by simp [tlT] at e
  | s :: a, [], _, _, e => by simp [tlT] at e
  | s :: a, t :: b, ha, hb, e => by
    simp only [tlT, List.cons.injEq, true_and] at e
    obtain ⟨e1, e2⟩ := cutL ha.hd hb.hd (tl_hd sep a) (tl_hd sep b) e
    rw [e1, tl_inj ha.tl hb.tl e2]
theorem join_inj {sep : Nat} {a b : List (List Nat)} (ha : Free sep a) (hb : Free sep b) (na : a ≠ []) (nb : b ≠ []) (e : joinT sep a = joinT sep b) : a = b := by
  match a, b, na, nb with
  | s :: a, t :: b, _, _ =>
    simp only [joinT] at e
    obtain ⟨e1, e2⟩ := cutL ha.hd hb.hd (tl_hd sep a) (tl_hd sep b) e
    rw [e1, tl_inj ha.tl hb.tl e2]
theorem tl_snoc (sep : Nat) : ∀ (a : List (List Nat)) (s : List Nat), tlT sep (a ++ [s]) = tlT sep a ++ sep :: s
  | [], s => by simp [tlT]
  | t :: a, s => by simp [tlT, tl_snoc sep a s]
theorem join_snoc (sep : Nat) {a : List (List Nat)} (s : List Nat) (h : a ≠ []) : joinT sep (a ++ [s]) = joinT sep a ++ sep :: s := by
  match a, h with
  | t :: a, _ => simp [joinT, tl_snoc]
theorem tl_all {sep : Nat} {P : Nat → Prop} (hs : P sep) : ∀ {a : List (List Nat)}, (∀ s ∈ a, ∀ c ∈ s, P c) → ∀ c ∈ tlT sep a, P c
  | [], _, c, hc => by cases hc
  | s :: a, h, c, hc => by
    simp only [tlT, List.mem_cons, List.mem_append] at hc
    rcases hc with rfl | hc | hc
    · exact hs
    · exact h s (List.mem_cons_self ..) c hc
    · exact tl_all hs (fun t ht => h t (List.mem_cons_of_mem _ ht)) c hc
theorem join_all {sep : Nat} {P : Nat → Prop} (hs : P sep) {a : List (List Nat)} (h : ∀ s ∈ a, ∀ c ∈ s, P c) : ∀ c ∈ joinT sep a, P c := by
  intro c hc
  match a with
  | [] => cases hc
  | s :: a =>
    simp only [joinT, List.mem_append] at hc
    rcases hc with hc | hc
    · exact h s (List.mem_cons_self ..) c hc
    · exact tl_all hs (fun t ht => h t (List.mem_cons_of_mem _ ht)) c hc

/-! ### the parts of an address, and the whole -/
def oT (sep : Nat) : Option (List Nat) → List Nat
  | none => []
  | some l => sep :: wr l
def pairT (p : List Nat × Option (List Nat)) : List Nat := wr p.1 ++ oT 61 p.2
def queT : Option (List (List Nat × Option (List Nat))) → List Nat
  | none => []
  | some ps => 63 :: joinT 38 (ps.map pairT)
def wayT (r : Bool) (ss : List (List Nat)) (e : Bool) : List Nat := (if r then [47] else []) ++ (joinT 47 (ss.map wr) ++ (if e && !ss.isEmpty then [47] else []))
def dooT : Option Int → List Nat
  | none => []
  | some i => 58 :: dg i
def houT : Option (List Nat) → List Nat
  | none => []
  | some l => 47 :: 47 :: wr l
def schT (s : List Nat) : List Nat := if s = [] then [] else s ++ [58]
def Ad.wayT (x : Ad) : List Nat := Wm.wayT x.rooted x.steps x.ends
def Ad.shw (x : Ad) : List Nat := schT x.scheme ++ (houT x.house ++ (dooT x.door ++ (x.wayT ++ (queT x.quest ++ oT 35 x.mark))))
theorem oT_inj {sep : Nat} {a b : Option (List Nat)} (ha : ∀ l, a = some l → ∀ c ∈ l, isSg c = true) (hb : ∀ l, b = some l → ∀ c ∈ l, isSg c = true) (e : oT sep a = oT sep b) : a = b := by
  match a, b with
  | none, none => rfl
  | none, some _ => simp [oT] at e
  | some _, none => simp [oT] at e
  | some l, some m => simp only [oT, List.cons.injEq, true_and] at e; rw [wr_inj (ha l rfl) (hb m rfl) e]
theorem oT_hd (sep : Nat) (o : Option (List Nat)) : Hd (fun c => decide (c = sep)) (oT sep o) := by
  cases o with
  | none => exact .nil
  | some l => exact .cons (by simp)
theorem oT_all {sep : Nat} {P : Nat → Prop} (hs : P sep) (hw : ∀ c, wch c = true → P c) {o : Option (List Nat)} (h : ∀ l, o = some l → ∀ c ∈ l, isSg c = true) : ∀ c ∈ oT sep o, P c := by
  intro c hc
  cases o with
  | none => cases hc
  | some l =>
    simp only [oT, List.mem_cons] at hc
    rcases hc with rfl | hc
    · exact hs
    · exact hw c (wr_ch (h l rfl) c hc)
/-- a pair whose name has a sign, of signs -/
def PairOk (p : List Nat × Option (List Nat)) : Prop := (0 < p.1.length ∧ ∀ c ∈ p.1, isSg c = true) ∧ ∀ v, p.2 = some v → ∀ c ∈ v, isSg c = true
theorem pair_inj (p q : List Nat × Option (List Nat)) (hp : PairOk p) (hq : PairOk q) (e : pairT p = pairT q) : p = q := by
  have f : ∀ {l : List Nat}, (∀ c ∈ l, isSg c = true) → ∀ c ∈ wr l, (fun c => decide (c = 61)) c = false := fun h c hc => decide_eq_false (wch_not (wr_ch h c hc)).2.2.2.2.1
  obtain ⟨e1, e2⟩ := cutL (f hp.1.2) (f hq.1.2) (oT_hd 61 p.2) (oT_hd 61 q.2) e
  exact Prod.ext (wr_inj hp.1.2 hq.1.2 e1) (oT_inj hp.2 hq.2 e2)
theorem pair_all {P : Nat → Prop} (hs : P 61) (hw : ∀ c, wch c = true → P c) {p : List Nat × Option (List Nat)} (h : PairOk p) : ∀ c ∈ pairT p, P c := by
  intro c hc
  rcases List.mem_append.mp hc with hc | hc
  · exact hw c (wr_ch h.1.2 c hc)
  · exact oT_all hs hw h.2 c hc
theorem pair_ne {p : List Nat × Option (List Nat)} (h : PairOk p) : pairT p ≠ [] := fun e => wr_ne h.1.2 h.1.1 (List.append_eq_nil_iff.mp e).1
theorem join_ne {sep : Nat} {s : List Nat} {r : List (List Nat)} (h : s ≠ []) : joinT sep (s :: r) ≠ [] := fun e => h (List.append_eq_nil_iff.mp e).1
theorem quest_inj {a b : Option (List (List Nat × Option (List Nat)))} (ha : ∀ ps, a = some ps → ∀ p ∈ ps, PairOk p) (hb : ∀ ps, b = some ps → ∀ p ∈ ps, PairOk p) (e : queT a = queT b) : a = b := by
  match a, b with
  | none, none => rfl
  | none, some _ => simp [queT] at e
  | some _, none => simp [queT] at e
  | some ps, some qs =>
    have hp := ha ps rfl
    have hq := hb qs rfl
    simp only [queT, List.cons.injEq, true_and] at e
    match ps, qs with
    | [], [] => rfl
    | [], q :: qs => exact absurd e.symm (join_ne (pair_ne (hq q (List.mem_cons_self ..))))
    | p :: ps, [] => exact absurd e (join_ne (pair_ne (hp p (List.mem_cons_self ..))))
    | p :: ps, q :: qs =>
      have f : ∀ {ps : List (List Nat × Option (List Nat))}, (∀ p ∈ ps, PairOk p) → Free 38 (ps.map pairT) := fun h s hs => by
        obtain ⟨p, hp, rfl⟩ := List.mem_map.mp hs
        exact pair_all (P := fun c => c ≠ 38) (by decide) (fun c hc => (wch_not hc).2.1) (h p hp)
      have := join_inj (f hp) (f hq) (by simp) (by simp) e
      rw [map_inj_on pair_inj hp hq this]
def StepOk (s : List Nat) : Prop := 0 < s.length ∧ ∀ c ∈ s, isSg c = true
theorem steps_free {ss : List (List Nat)} (h : ∀ s ∈ ss, StepOk s) : Free 47 (ss.map wr) := fun t ht => by
  obtain ⟨s, hs, rfl⟩ := List.mem_map.mp ht
  exact fun c hc => (wch_not (wr_ch (h s hs).2 c hc)).2.2.1
theorem steps_ne {ss : List (List Nat)} (h : ∀ s ∈ ss, StepOk s) : ∀ t ∈ ss.map wr, t ≠ [] := fun t ht => by
  obtain ⟨s, hs, rfl⟩ := List.mem_map.mp ht
  exact wr_ne (h s hs).2 (h s hs).1
def stpT (ss : List (List Nat)) (e : Bool) : List Nat := joinT 47 (ss.map wr) ++ (if e && !ss.isEmpty then [47] else [])
theorem stpT_eq {ss : List (List Nat)} {e : Bool} (h : ss ≠ []) : stpT ss e = joinT 47 (ss.map wr ++ if e then [[]] else []) := by
  unfold stpT
  cases e with
  | false => simp
  | true =>
    have : ss.isEmpty = false := by cases ss with | nil => exact absurd rfl h | cons _ _ => rfl
    rw [this]
    simp only [Bool.not_false, Bool.and_true, if_true]
    rw [join_snoc 47 [] (by simpa using h)]
theorem stpT_nil (e : Bool) : stpT [] e = [] := by simp [stpT, joinT]
theorem stpT_head {s : List Nat} {ss : List (List Nat)} {e : Bool} (h : StepOk s) : ∃ c r, stpT (s :: ss) e = c :: r ∧ c ≠ 47 := by
  have hn := wr_ne h.2 h.1
  match hw : wr s, hn with
  | c :: r, _ =>
    refine ⟨c, _, by simp only [stpT, List.map_cons, joinT, hw, List.cons_append]; rfl, ?_⟩
    exact (wch_not (wr_ch h.2 c (by rw [hw]; exact List.mem_cons_self ..))).2.2.1
theorem snoc_ends {α : Type} {a b : List (List α)} {e f : Bool} (ha : ∀ t ∈ a, t ≠ []) (hb : ∀ t ∈ b, t ≠ []) (h : (a ++ if e then [[]] else []) = b ++ if f then [[]] else []) : a = b ∧ e = f := by
  cases e <;> cases f
  · simpa using h
  · simp only [Bool.false_eq_true, if_false, if_true, List.append_nil] at h
    exact absurd rfl (ha [] (by rw [h]; simp))
  · simp only [Bool.false_eq_true, if_false, if_true, List.append_nil] at h
    exact absurd rfl (hb [] (by rw [← h]; simp))
  · exact ⟨List.append_cancel_right h, rfl⟩
theorem stpT_inj {ss tt : List (List Nat)} {e f : Bool} (hs : ∀ s ∈ ss, StepOk s) (ht : ∀ s ∈ tt, StepOk s) (h : stpT ss e = stpT tt f) : ss = tt ∧ (ss ≠ [] → e = f) := by
  match ss, tt with
  | [], [] => exact ⟨rfl, fun h => absurd rfl h⟩
  | [], t :: tt =>
    obtain ⟨c, r, hc, _⟩ := stpT_head (ss := tt) (e := f) (ht t (List.mem_cons_self ..))
    rw [stpT_nil, hc] at h; cases h
  | s :: ss, [] =>
    obtain ⟨c, r, hc, _⟩ := stpT_head (ss := ss) (e := e) (hs s (List.mem_cons_self ..))
    rw [stpT_nil, hc] at h; cases h
  | s :: ss, t :: tt =>
    rw [stpT_eq (by simp), stpT_eq (by simp)] at h
    have f0 : ∀ {uu : List (List Nat)} {g : Bool}, (∀ s ∈ uu, StepOk s) → Free 47 (uu.map wr ++ if g then [[]] else []) := fun hu x hx => by
      rcases List.mem_append.mp hx with hx | hx
      · exact steps_free hu x hx
      · split at hx
        · rw [List.mem_singleton.mp hx]; intro c hc; cases hc
        · cases hx
    have := join_inj (f0 hs) (f0 ht) (by simp) (by simp) h
    obtain ⟨e1, e2⟩ := snoc_ends (steps_ne hs) (steps_ne ht) this
    exact ⟨map_inj_on (P := StepOk) (fun a b ha hb e => wr_inj ha.2 hb.2 e) hs ht e1, fun _ => e2⟩
theorem stpT_no {ss : List (List Nat)} {e : Bool} (hs : ∀ s ∈ ss, StepOk s) {r : List Nat} : stpT ss e ≠ 47 :: r := fun h => by
  match ss with
  | [] => rw [stpT_nil] at h; cases h
  | s :: ss =>
    obtain ⟨c, r', hc, hn⟩ := stpT_head (ss := ss) (e := e) (hs s (List.mem_cons_self ..))
    rw [hc] at h; injection h with h; exact hn h
theorem wayT_eq (r : Bool) (ss : List (List Nat)) (e : Bool) : wayT r ss e = (if r then [47] else []) ++ stpT ss e := rfl
theorem wayT_inj {r q : Bool} {ss tt : List (List Nat)} {e f : Bool} (hs : ∀ s ∈ ss, StepOk s) (ht : ∀ s ∈ tt, StepOk s) (he : ss = [] → e = r) (hf : tt = [] → f = q) (h : wayT r ss e = wayT q tt f) : r = q ∧ ss = tt ∧ e = f := by
  rw [wayT_eq, wayT_eq] at h
  have fin : r = q → stpT ss e = stpT tt f → r = q ∧ ss = tt ∧ e = f := fun hr hh => by
    obtain ⟨e1, e2⟩ := stpT_inj hs ht hh
    refine ⟨hr, e1, ?_⟩
    by_cases hn : ss = []
    · rw [he hn, hf (e1 ▸ hn), hr]
    · exact e2 hn
  cases r <;> cases q
  · exact fin rfl (by simpa using h)
  · exact absurd (by simpa using h) (stpT_no hs)
  · exact absurd (by simpa using h.symm) (stpT_no ht)
  · exact fin rfl (by simpa using h)
/-- what the document asks of an address, without the bounds of those that are drawn -/
structure Ad.Wf (x : Ad) : Prop where
  sch : x.scheme.length ≤ 8 ∧ (∀ c ∈ x.scheme, isAln c = true) ∧ ∀ c ∈ x.scheme.take 1, isLet c = true
  hou : ∀ l, x.house = some l → (0 < l.length ∧ l.length ≤ 60) ∧ ∀ c ∈ l, isSg c = true
  doo : ∀ i, x.door = some i → (0 ≤ i ∧ i ≤ 65535) ∧ x.house ≠ none
  stp : ∀ s ∈ x.steps, StepOk s
  roo : x.scheme ≠ [] ∨ x.house ≠ none → x.rooted = true
  end_ : x.steps = [] → x.ends = x.rooted
  que : ∀ ps, x.quest = some ps → ∀ p ∈ ps, PairOk p
  mar : ∀ l, x.mark = some l → ∀ c ∈ l, isSg c = true
theorem Ad.Ok.wf {x : Ad} (h : x.Ok) : x.Wf where
  sch := h.sch
  hou := fun l e => ⟨⟨(h.hou l e).1, (h.hou l e).2.1⟩, (h.hou l e).2.2⟩
  doo := h.doo
  stp := fun s hs => ⟨(h.stp.2 s hs).1, (h.stp.2 s hs).2.2⟩
  roo := h.roo
  end_ := h.end_
  que := fun ps e p hp => ⟨⟨((h.que ps e).2 p hp).1.1, ((h.que ps e).2 p hp).1.2.2⟩, fun v hv => (((h.que ps e).2 p hp).2 v hv).2⟩
  mar := fun l e => (h.mar l e).2
/-- house, door and way -/
def Ad.mid (x : Ad) : List Nat := houT x.house ++ (dooT x.door ++ x.wayT)
def Ad.pre (x : Ad) : List Nat := schT x.scheme ++ x.mid
theorem Ad.shw_eq (x : Ad) : x.shw = (x.pre ++ queT x.quest) ++ oT 35 x.mark := by simp [Ad.shw, Ad.pre, Ad.mid]
theorem stp_all {P : Nat → Prop} (hs : P 47) (hw : ∀ c, wch c = true → P c) {ss : List (List Nat)} {e : Bool} (h : ∀ s ∈ ss, StepOk s) : ∀ c ∈ stpT ss e, P c := by
  intro c hc
  rcases List.mem_append.mp hc with hc | hc
  · refine join_all hs (fun s hs' d hd => ?_) c hc
    obtain ⟨t, ht, rfl⟩ := List.mem_map.mp hs'
    exact hw d (wr_ch (h t ht).2 d hd)
  · split at hc
    · rw [List.mem_singleton.mp hc]; exact hs
    · cases hc
theorem way_all {P : Nat → Prop} (hs : P 47) (hw : ∀ c, wch c = true → P c) {r : Bool} {ss : List (List Nat)} {e : Bool} (h : ∀ s ∈ ss, StepOk s) : ∀ c ∈ wayT r ss e, P c := by
  intro c hc
  rw [wayT_eq] at hc
  rcases List.mem_append.mp hc with hc | hc
  · split at hc
    · rw [List.mem_singleton.mp hc]; exact hs
    · cases hc
  · exact stp_all hs hw h c hc
theorem dig_wch {c : Nat} (h : 48 ≤ c ∧ c ≤ 57) : wch c = true := by
  simp only [wch, isPl, Bool.or_eq_true, decide_eq_true_eq]; omega
theorem Ad.Wf.pre_all {P : Nat → Prop} {x : Ad} (h : x.Wf) (h1 : P 47) (h2 : P 58) (hw : ∀ c, wch c = true → P c) : ∀ c ∈ x.pre, P c := by
  intro c hc
  rcases List.mem_append.mp hc with hc | hc
  · unfold schT at hc
    split at hc
    · cases hc
    · rcases List.mem_append.mp hc with hc | hc
      · exact hw c (aln_wch (h.sch.2.1 c hc))
      · rw [List.mem_singleton.mp hc]; exact h2
  rcases List.mem_append.mp hc with hc | hc
  · cases hh : x.house with
    | none => rw [hh] at hc; cases hc
    | some l =>
      rw [hh] at hc
      simp only [houT, List.mem_cons] at hc
      rcases hc with rfl | rfl | hc
      · exact h1
      · exact h1
      · exact hw c (wr_ch (h.hou l hh).2 c hc)
  rcases List.mem_append.mp hc with hc | hc
  · cases hd : x.door with
    | none => rw [hd] at hc; cases hc
    | some i =>
      rw [hd] at hc
      simp only [dooT, List.mem_cons] at hc
      rcases hc with rfl | hc
      · exact h2
      · exact hw c (dig_wch (dg_fig (h.doo i hd).1.1 c hc))
  · exact way_all h1 hw h.stp c hc
theorem que_all {P : Nat → Prop} (h1 : P 63) (h2 : P 38) (h3 : P 61) (hw : ∀ c, wch c = true → P c) {q : Option (List (List Nat × Option (List Nat)))} (h : ∀ ps, q = some ps → ∀ p ∈ ps, PairOk p) : ∀ c ∈ queT q, P c := by
  intro c hc
  cases q with
  | none => cases hc
  | some ps =>
    simp only [queT, List.mem_cons] at hc
    rcases hc with rfl | hc
    · exact h1
    · refine join_all h2 (fun s hs d hd => ?_) c hc
      obtain ⟨p, hp, rfl⟩ := List.mem_map.mp hs
      exact pair_all h3 hw (h ps rfl p hp) d hd
theorem que_hd (q : Option (List (List Nat × Option (List Nat)))) : Hd (fun c => decide (c = 63)) (queT q) := by
  cases q with
  | none => exact .nil
  | some ps => exact .cons (by simp)
/-- the part ahead of the first sign that parts: it is no : -/
theorem Ad.Wf.mid_first {x : Ad} (h : x.Wf) : ∃ w r, x.mid = w ++ r ∧ (∀ c ∈ w, (fun c => decide (c = 58 ∨ c = 47)) c = false) ∧ (r = [] ∨ ∃ r', r = 47 :: r') := by
  unfold Ad.mid
  cases hh : x.house with
  | some l => exact ⟨[], _, rfl, by simp, .inr ⟨_, rfl⟩⟩
  | none =>
    have hd : x.door = none := by
      cases hd : x.door with
      | none => rfl
      | some i => exact absurd hh (h.doo i hd).2
    rw [hd]
    show ∃ w r, x.wayT = w ++ r ∧ _
    unfold Ad.wayT
    rw [wayT_eq]
    cases x.rooted with
    | true => exact ⟨[], _, rfl, by simp, .inr ⟨_, rfl⟩⟩
    | false =>
      match hs : x.steps with
      | [] => exact ⟨[], [], by simp [stpT_nil], by simp, .inl rfl⟩
      | s :: ss =>
        have hk := h.stp s (by rw [hs]; exact List.mem_cons_self ..)
        refine ⟨wr s, tlT 47 (ss.map wr) ++ (if x.ends then [47] else []), by simp [stpT, joinT], fun c hc => ?_, ?_⟩
        · have := wch_not (wr_ch hk.2 c hc)
          exact decide_eq_false (by omega)
        · cases ss with
          | nil =>
            cases x.ends with
            | false => exact .inl (by simp [tlT])
            | true => exact .inr ⟨[], by simp [tlT]⟩
          | cons t tt => exact .inr ⟨_, by simp only [List.map_cons, tlT, List.cons_append]; rfl⟩
theorem Ad.Wf.nodoor {x : Ad} (h : x.Wf) (hh : x.house = none) : x.door = none := by
  cases hd : x.door with
  | none => rfl
  | some i => exact absurd hh (h.doo i hd).2
theorem Ad.Wf.way_hd {x : Ad} (h : x.Wf) (hh : x.house ≠ none) : ∃ r, x.wayT = 47 :: r := by
  unfold Ad.wayT
  rw [wayT_eq, h.roo (.inr hh)]
  exact ⟨_, rfl⟩
theorem Ad.Wf.sch_mid {x y : Ad} (hx : x.Wf) (hy : y.Wf) (e : x.pre = y.pre) : x.scheme = y.scheme ∧ x.mid = y.mid := by
  unfold Ad.pre schT at e
  have fs : ∀ {z : Ad}, z.Wf → ∀ c ∈ z.scheme, (fun c => decide (c = 58 ∨ c = 47)) c = false := fun hz c hc => by
    have := wch_not (aln_wch (hz.sch.2.1 c hc))
    exact decide_eq_false (by omega)
  have odd : ∀ {z y : Ad}, z.Wf → y.Wf → z.scheme ++ (58 :: z.mid) = y.mid → False := fun {z y} hz hy e => by
    obtain ⟨w, r, e', hw, hr⟩ := hy.mid_first
    rw [e'] at e
    obtain ⟨_, e2⟩ := cutL (fs hz) hw (.cons (by simp)) (by rcases hr with rfl | ⟨r', rfl⟩; exact .nil; exact .cons (by simp)) e
    rcases hr with rfl | ⟨r', rfl⟩
    · cases e2
    · injection e2 with e2; cases e2
  split at e
  · next h1 =>
    split at e
    · next h2 => exact ⟨by rw [h1, h2], e⟩
    · exact (odd hy hx (by simpa using e.symm)).elim
  · split at e
    · exact (odd hx hy (by simpa using e)).elim
    · simp only [List.append_assoc, List.cons_append, List.nil_append] at e
      obtain ⟨e1, e2⟩ := cutL (fs hx) (fs hy) (.cons (by simp)) (.cons (by simp)) e
      exact ⟨e1, by injection e2⟩
theorem Ad.Wf.way_no {x : Ad} (h : x.Wf) {r : List Nat} : x.wayT ≠ 47 :: 47 :: r := fun e => by
  unfold Ad.wayT at e
  rw [wayT_eq] at e
  cases hr : x.rooted with
  | true =>
    rw [hr] at e
    simp only [if_true, List.cons_append, List.nil_append, List.cons.injEq, true_and] at e
    exact stpT_no h.stp e
  | false =>
    rw [hr] at e
    simp only [Bool.false_eq_true, if_false, List.nil_append] at e
    exact stpT_no h.stp e
theorem Ad.Wf.mid_inj {x y : Ad} (hx : x.Wf) (hy : y.Wf) (e : x.mid = y.mid) : x.house = y.house ∧ x.door = y.door ∧ x.wayT = y.wayT := by
  unfold Ad.mid at e
  cases h1 : x.house with
  | none =>
    rw [h1, hx.nodoor h1] at e
    cases h2 : y.house with
    | none => rw [h2, hy.nodoor h2] at e; exact ⟨rfl, by rw [hx.nodoor h1, hy.nodoor h2], e⟩
    | some m => rw [h2] at e; exact (hx.way_no e).elim
  | some l =>
    rw [h1] at e
    cases h2 : y.house with
    | none => rw [h2, hy.nodoor h2] at e; exact (hy.way_no e.symm).elim
    | some m =>
      rw [h2] at e
      simp only [houT, List.cons_append, List.cons.injEq, true_and] at e
      obtain ⟨rx, wx⟩ := hx.way_hd (by rw [h1]; exact Option.some_ne_none _)
      obtain ⟨ry, wy⟩ := hy.way_hd (by rw [h2]; exact Option.some_ne_none _)
      have f : ∀ {l : List Nat}, (∀ c ∈ l, isSg c = true) → ∀ c ∈ wr l, (fun c => decide (c = 58 ∨ c = 47)) c = false := fun h c hc => by
        have := wch_not (wr_ch h c hc)
        exact decide_eq_false (by omega)
      have g : ∀ (o : Option Int) (r : List Nat), Hd (fun c => decide (c = 58 ∨ c = 47)) (dooT o ++ 47 :: r) := fun o r => by
        cases o with
        | none => exact .cons (by simp)
        | some i => exact .cons (by simp)
      rw [wx, wy] at e
      obtain ⟨e1, e2⟩ := cutL (f (hx.hou l h1).2) (f (hy.hou m h2).2) (g _ _) (g _ _) e
      refine ⟨by rw [wr_inj (hx.hou l h1).2 (hy.hou m h2).2 e1], ?_⟩
      rw [wx, wy]
      cases d1 : x.door with
      | none =>
        rw [d1] at e2
        cases d2 : y.door with
        | none => rw [d2] at e2; exact ⟨rfl, e2⟩
        | some j => rw [d2] at e2; simp [dooT] at e2
      | some i =>
        rw [d1] at e2
        cases d2 : y.door with
        | none => rw [d2] at e2; simp [dooT] at e2
        | some j =>
          rw [d2] at e2
          simp only [dooT, List.cons_append, List.cons.injEq, true_and] at e2
          have k : ∀ {i : Int}, 0 ≤ i → ∀ c ∈ dg i, (fun c => decide (c = 47)) c = false := fun h c hc => by
            have := dg_fig h c hc
            exact decide_eq_false (by omega)
          have bi := (hx.doo i d1).1
          have bj := (hy.doo j d2).1
          obtain ⟨e3, e4⟩ := cutL (k bi.1) (k bj.1) (.cons (by simp)) (.cons (by simp)) e2
          exact ⟨by rw [dg_inj bi.1 bi.2 bj.1 bj.2 e3], e4⟩
/-- unlike addresses have unlike texts -/
theorem Ad.Wf.shw_inj {x y : Ad} (hx : x.Wf) (hy : y.Wf) (e : x.shw = y.shw) : x = y := by
  rw [Ad.shw_eq, Ad.shw_eq] at e
  have f1 : ∀ {z : Ad}, z.Wf → ∀ c ∈ z.pre ++ queT z.quest, (fun c => decide (c = 35)) c = false := fun hz c hc => by
    refine decide_eq_false ?_
    rcases List.mem_append.mp hc with hc | hc
    · exact hz.pre_all (P := fun c => c ≠ 35) (by decide) (by decide) (fun c h => (wch_not h).1) c hc
    · exact que_all (P := fun c => c ≠ 35) (by decide) (by decide) (by decide) (fun c h => (wch_not h).1) hz.que c hc
  obtain ⟨e1, e2⟩ := cutL (f1 hx) (f1 hy) (oT_hd 35 _) (oT_hd 35 _) e
  have f2 : ∀ {z : Ad}, z.Wf → ∀ c ∈ z.pre, (fun c => decide (c = 63)) c = false := fun hz c hc => decide_eq_false (hz.pre_all (P := fun c => c ≠ 63) (by decide) (by decide) (fun c h => (wch_not h).2.2.2.2.2) c hc)
  obtain ⟨e3, e4⟩ := cutL (f2 hx) (f2 hy) (que_hd _) (que_hd _) e1
  obtain ⟨a1, e5⟩ := hx.sch_mid hy e3
  obtain ⟨a2, a3, e6⟩ := hx.mid_inj hy e5
  obtain ⟨a4, a5, a6⟩ := wayT_inj hx.stp hy.stp hx.end_ hy.end_ e6
  have a7 := quest_inj hx.que hy.que e4
  have a8 := oT_inj hx.mar hy.mar e2
  cases x; cases y; simp_all
/-! ### addresses as data: when two are ==, and that == may be asked of them -/
theorem eqv_st (l m : List Nat) : PyData.eqv (st l) (st m) = true ↔ l = m := by
  simp only [PyData.eqv, beq_iff_eq]; exact mk_inj
theorem eqv_oD (a b : Option (List Nat)) : PyData.eqv (oD a) (oD b) = true ↔ a = b := by
  match a, b with
  | none, none => simp [oD, PyData.eqv]
  | none, some m => simp [oD, PyData.eqv]
  | some l, none => simp [oD, PyData.eqv]
  | some l, some m => exact (eqv_st l m).trans (by simp)
theorem eqv_iD (a b : Option Int) : PyData.eqv (iD a) (iD b) = true ↔ a = b := by
  match a, b with
  | none, none => simp [iD, PyData.eqv]
  | none, some m => simp [iD, PyData.eqv]
  | some l, none => simp [iD, PyData.eqv]
  | some l, some m => simp [iD, PyData.eqv]
theorem eqvAll_map {α : Type} {f : α → PyData} (hf : ∀ a b, PyData.eqv (f a) (f b) = true ↔ a = b) : ∀ (l m : List α), PyData.eqvAll (l.map f) (m.map f) = true ↔ l = m
  | [], [] => by simp [PyData.eqvAll]
  | [], b :: m => by simp [PyData.eqvAll]
  | a :: l, [] => by simp [PyData.eqvAll]
  | a :: l, b :: m => by
    simp only [List.map_cons, PyData.eqvAll, Bool.and_eq_true, List.cons.injEq]
    rw [hf a b, eqvAll_map hf l m]
theorem eqv_qD (a b : Option (List (List Nat × Option (List Nat)))) : PyData.eqv (qD a) (qD b) = true ↔ a = b := by
  match a, b with
  | none, none => simp [qD, PyData.eqv]
  | none, some m => simp [qD, PyData.eqv]
  | some l, none => simp [qD, PyData.eqv]
  | some l, some m =>
    simp only [qD, PyData.eqv, Option.some.injEq]
    refine eqvAll_map (fun a b => ?_) l m
    simp only [PyData.eqv, PyData.eqvAll, Bool.and_eq_true, Bool.and_true]
    rw [eqv_oD, beq_iff_eq]
    exact ⟨fun h => Prod.ext (mk_inj.mp h.1) h.2, fun h => by rw [h]; exact ⟨rfl, rfl⟩⟩
theorem eqv_way (x y : Ad) : PyData.eqv x.way y.way = true ↔ x.rooted = y.rooted ∧ x.steps = y.steps ∧ x.ends = y.ends := by
  simp only [Ad.way, PyData.eqv, PyData.eqvAll, Bool.and_eq_true, Bool.and_true, beq_iff_eq]
  rw [eqvAll_map eqv_st]
theorem Ad.eqv_iff (x y : Ad) : PyData.eqv x.data y.data = true ↔ x = y := by
  simp only [Ad.data, PyData.eqv, PyData.eqvAll, Bool.and_eq_true, Bool.and_true, beq_iff_eq]
  rw [eqv_oD, eqv_iD, eqv_way, eqv_qD, eqv_oD]
  cases x; cases y
  simp only [Ad.mk.injEq]
  constructor
  · rintro ⟨h1, h2, h3, ⟨h4, h5, h6⟩, h7, h8⟩
    exact ⟨mk_inj.mp h1, h2, h3, h4, h5, h6, h7, h8⟩
  · rintro ⟨h1, h2, h3, h4, h5, h6, h7, h8⟩
    exact ⟨by rw [h1], h2, h3, ⟨h4, h5, h6⟩, h7, h8⟩
/-- shown alike just where they are the same -/
theorem Ad.Wf.shw_iff {x y : Ad} (hx : x.Wf) (hy : y.Wf) : decide (x.shw = y.shw) = PyData.eqv x.data y.data := by
  rw [Bool.eq_iff_iff, decide_eq_true_eq, Ad.eqv_iff]
  exact ⟨fun h => hx.shw_inj hy h, fun h => by rw [h]⟩
def LayAt (n : Nat) (d : PyData) : Prop := d.canLay0 = true ∧ d.depth ≤ n
theorem LayAt.shaped {n : Nat} {d : PyData} (h : LayAt n d) (hn : n ≤ 64) : SeqAt.shaped d = true := by
  unfold SeqAt.shaped; rw [h.1, decide_eq_true (Nat.le_trans h.2 hn)]; rfl
theorem LayAt.le {n m : Nat} {d : PyData} (h : LayAt n d) (hn : n ≤ m) : LayAt m d := ⟨h.1, Nat.le_trans h.2 hn⟩
theorem layAll {n : Nat} : ∀ {ds : List PyData}, (∀ d ∈ ds, LayAt n d) → PyData.canLayAll0 ds = true ∧ PyData.depthAll ds ≤ n
  | [], _ => ⟨rfl, Nat.zero_le _⟩
  | d :: ds, h => by
    obtain ⟨h1, h2⟩ := layAll (ds := ds) fun e he => h e (List.mem_cons_of_mem _ he)
    have := h d (List.mem_cons_self ..)
    simp only [PyData.canLayAll0, PyData.depthAll, this.1, h1, Bool.and_self, true_and]
    exact Nat.max_le.mpr ⟨this.2, h2⟩
theorem LayAt.tup {n : Nat} {ds : List PyData} (h : ∀ d ∈ ds, LayAt n d) : LayAt (n + 1) (.tuple ds) := by
  obtain ⟨h1, h2⟩ := layAll h
  exact ⟨by simp only [PyData.canLay0, h1], by simp only [PyData.depth]; omega⟩
theorem LayAt.st {l : List Nat} (h : ∀ c ∈ l, isSg c = true) : LayAt 0 (st l) := by
  refine ⟨?_, Nat.le_refl _⟩
  simp only [PyData.canLay0, PyData.strOk, List.all_toArray, List.all_eq_true, decide_eq_true_eq]
  intro c hc
  have := isSg_lt (h c hc)
  omega
theorem LayAt.bool {b : Bool} : LayAt 0 (.bool b) := ⟨rfl, Nat.le_refl _⟩
theorem LayAt.oD {o : Option (List Nat)} (h : ∀ l, o = some l → ∀ c ∈ l, isSg c = true) : LayAt 0 (oD o) := by
  cases o with
  | none => exact ⟨rfl, Nat.le_refl _⟩
  | some l => exact .st (h l rfl)
theorem LayAt.iD {o : Option Int} : LayAt 0 (iD o) := by
  cases o with
  | none => exact ⟨rfl, Nat.le_refl _⟩
  | some l => exact ⟨rfl, Nat.le_refl _⟩
theorem LayAt.qD {q : Option (List (List Nat × Option (List Nat)))} (h : ∀ ps, q = some ps → ∀ p ∈ ps, PairOk p) : LayAt 2 (qD q) := by
  cases q with
  | none => exact ⟨rfl, Nat.zero_le _⟩
  | some ps =>
    refine .tup (n := 1) fun d hd => ?_
    obtain ⟨p, hp, rfl⟩ := List.mem_map.mp hd
    have hk := h ps rfl p hp
    refine .tup (n := 0) fun e he => ?_
    simp only [List.mem_cons, List.not_mem_nil, or_false] at he
    rcases he with rfl | rfl
    · exact .st hk.1.2
    · exact .oD hk.2
theorem Ad.Wf.layWay {x : Ad} (h : x.Wf) : LayAt 2 x.way := by
  refine .tup (n := 1) fun e he => ?_
  simp only [List.mem_cons, List.not_mem_nil, or_false] at he
  rcases he with rfl | rfl | rfl
  · exact LayAt.bool.le (by decide)
  · refine .tup (n := 0) fun d hd => ?_
    obtain ⟨s, hs, rfl⟩ := List.mem_map.mp hd
    exact .st (h.stp s hs).2
  · exact LayAt.bool.le (by decide)
theorem Ad.Wf.lay {x : Ad} (h : x.Wf) : LayAt 3 x.data := by
  refine .tup (n := 2) fun e he => ?_
  simp only [List.mem_cons, List.not_mem_nil, or_false] at he
  rcases he with rfl | rfl | rfl | rfl | rfl | rfl
  · exact (LayAt.st fun c hc => aln_sg (h.sch.2.1 c hc)).le (by decide)
  · exact (LayAt.oD fun l e => (h.hou l e).2).le (by decide)
  · exact LayAt.iD.le (by decide)
  · exact h.layWay
  · exact .qD h.que
  · exact (LayAt.oD h.mar).le (by decide)
theorem Ad.Wf.shaped {x : Ad} (h : x.Wf) : SeqAt.shaped x.data = true := h.lay.shaped (by decide)
end Wm
namespace Wm
open PySem L2
/-! ### data of tuples, taken apart -/
theorem isT_st {H : Hp} {l : List Nat} {v : V} (h : IsT H (st l) v) : v = .str ⟨l.toArray⟩ := by cases h; rfl
theorem isT_oD {H : Hp} {o : Option (List Nat)} {v : V} (h : IsT H (oD o) v) : v = otV o := by
  cases o with
  | none => cases h; rfl
  | some l => exact isT_st h
theorem isT_iD {H : Hp} {o : Option Int} {v : V} (h : IsT H (iD o) v) : v = itV o := by
  cases o with
  | none => cases h; rfl
  | some l => cases h; rfl
theorem isT_bool {H : Hp} {b : Bool} {v : V} (h : IsT H (.bool b) v) : v = .bl b := by cases h; rfl
theorem isT_tup {H : Hp} {ds : List PyData} {v : V} (h : IsT H (.tuple ds) v) : ∃ p xs, v = .ref p ∧ H p = some (.tup xs) ∧ IsTAll H ds xs := by
  cases h with
  | tup h1 h2 => exact ⟨_, _, rfl, h1, h2⟩
theorem isT2 {H : Hp} {a b : PyData} {v : V} (h : IsT H (.tuple [a, b]) v) : ∃ p x y, v = .ref p ∧ H p = some (.tup [x, y]) ∧ IsT H a x ∧ IsT H b y := by
  obtain ⟨p, xs, rfl, hp, r⟩ := isT_tup h
  cases r with
  | cons h1 r => cases r with
    | cons h2 r => cases r; exact ⟨p, _, _, rfl, hp, h1, h2⟩
theorem isT3 {H : Hp} {a b c : PyData} {v : V} (h : IsT H (.tuple [a, b, c]) v) : ∃ p x y z, v = .ref p ∧ H p = some (.tup [x, y, z]) ∧ IsT H a x ∧ IsT H b y ∧ IsT H c z := by
  obtain ⟨p, xs, rfl, hp, r⟩ := isT_tup h
  cases r with
  | cons h1 r => cases r with
    | cons h2 r => cases r with
      | cons h3 r => cases r; exact ⟨p, _, _, _, rfl, hp, h1, h2, h3⟩
theorem isT6 {H : Hp} {a b c d e f : PyData} {v : V} (h : IsT H (.tuple [a, b, c, d, e, f]) v) : ∃ p x0 x1 x2 x3 x4 x5, v = .ref p ∧ H p = some (.tup [x0, x1, x2, x3, x4, x5]) ∧ IsT H a x0 ∧ IsT H b x1 ∧ IsT H c x2 ∧ IsT H d x3 ∧ IsT H e x4 ∧ IsT H f x5 := by
  obtain ⟨p, xs, rfl, hp, r⟩ := isT_tup h
  cases r with
  | cons h1 r => cases r with
    | cons h2 r => cases r with
      | cons h3 r => cases r with
        | cons h4 r => cases r with
          | cons h5 r => cases r with
            | cons h6 r => cases r; exact ⟨p, _, _, _, _, _, _, rfl, hp, h1, h2, h3, h4, h5, h6⟩
/-- the way of an address as it lies -/
theorem isT_steps {H : Hp} : ∀ {ss : List (List Nat)} {xs : List V}, IsTAll H (ss.map st) xs → xs = ss.map fun l => V.str ⟨l.toArray⟩
  | [], _, h => by cases h; rfl
  | s :: ss, _, h => by
    cases h with
    | cons h1 h2 => rw [isT_st h1, isT_steps h2]; rfl
end Wm
namespace Wm
/-- how large an address may be that is shown -/
structure Ad.Sz (x : Ad) : Prop where
  stp : ∀ s ∈ x.steps, s.length ≤ 2000
  que : ∀ ps, x.quest = some ps → ps.length ≤ 2000 ∧ ∀ p ∈ ps, p.1.length ≤ 2000 ∧ ∀ v, p.2 = some v → v.length ≤ 2000
  mar : ∀ l, x.mark = some l → l.length ≤ 2000
  num : x.steps.length ≤ 2000
  all : x.shw.length ≤ 90000
end Wm
namespace Wm
theorem lg {i : Int} (h : 0 ≤ i) (h' : i ≤ 65535) : i.natAbs.log2 < 1920 := by
  by_cases h0 : i.natAbs = 0
  · rw [h0]; simp
  · refine (Nat.log2_lt h0).mpr (Nat.lt_of_lt_of_le (show i.natAbs < 2 ^ 16 by omega) (Nat.pow_le_pow_right (by decide) (by decide)))
theorem dg_str (i : Int) : PySem.Str.ofString (toString i) = ⟨(dg i).toArray⟩ := rfl
end Wm
namespace Wm
end Wm
namespace Wm
open PySem L2
theorem atI_map {α : Type} {l : List α} {i : Nat} {s : α} (g : α → V) (h : l[i]? = some s) : atI (l.map g) (i : Int) = some (g s) := by
  have hi := (List.getElem?_eq_some_iff.mp h).1
  obtain ⟨c, _, hc⟩ := at_lt (l.map g) (r := (i : Int)) (by omega) (by rw [List.length_map]; omega)
  have : atI (l.map g) (i : Int) = (l.map g)[i]? := by
    unfold atI ixN
    rw [List.length_map]
    simp [hi]
  rw [this, List.getElem?_map, h]; rfl
end Wm
namespace Wm
open PySem L2
theorem isTAll_at {H : Hp} {α : Type} {f : α → PyData} : ∀ {l : List α} {xs : List V}, IsTAll H (l.map f) xs → xs.length = l.length ∧ ∀ (i : Nat) (v : V), xs[i]? = some v → ∃ a, l[i]? = some a ∧ IsT H (f a) v
  | [], _, h => by cases h; exact ⟨rfl, fun i v e => by simp at e⟩
  | a :: l, _, h => by
    cases h with
    | cons h1 h2 =>
      obtain ⟨e, r⟩ := isTAll_at h2
      refine ⟨by simp [e], fun i v hv => ?_⟩
      cases i with
      | zero => exact ⟨a, rfl, by simp at hv; exact hv ▸ h1⟩
      | succ i => exact r i v (by simpa using hv)
theorem join_sep (sep : Nat) (ys : List (List Nat)) : Txt.join (⟨[sep].toArray⟩ : Str) (ys.map fun l => (⟨l.toArray⟩ : Str)) = ⟨(joinT sep ys).toArray⟩ := by
  show Builtin.Str.glued _ _ = _
  rw [StrLaws.glued_eq_join]
  induction ys with
  | nil => rfl
  | cons y r ih =>
    cases r with
    | nil =>
      show (⟨y.toArray⟩ : Str) = _
      simp [joinT, tlT]
    | cons z r =>
      show (⟨y.toArray⟩ : Str) ++ (⟨[sep].toArray⟩ : Str) ++ Str.join ⟨[sep].toArray⟩ ((z :: r).map fun l => (⟨l.toArray⟩ : Str)) = _
      rw [ih, mk_app, mk_app]
      simp [joinT, tlT]
theorem tl_len {sep : Nat} : ∀ (ys : List (List Nat)), (tlT sep ys).length = (ys.map (·.length)).sum + ys.length
  | [] => rfl
  | y :: r => by simp only [tlT, List.length_cons, List.length_append, List.map_cons, List.sum_cons, tl_len r]; omega
theorem join_len {sep : Nat} (ys : List (List Nat)) : (ys.map (·.length)).sum + ys.length ≤ (joinT sep ys).length + 1 := by
  cases ys with
  | nil => simp [joinT]
  | cons y r => simp only [joinT, List.length_append, List.map_cons, List.sum_cons, List.length_cons, tl_len]; omega
end Wm
namespace Wm
open PySem L2
theorem tl_bound {sep m : Nat} : ∀ {ys : List (List Nat)}, (∀ s ∈ ys, s.length ≤ m) → (tlT sep ys).length ≤ ys.length * (m + 1)
  | [], _ => by simp [tlT]
  | y :: r, h => by
    have h1 := h y (List.mem_cons_self ..)
    have h2 := tl_bound (sep := sep) (ys := r) fun s hs => h s (List.mem_cons_of_mem _ hs)
    simp only [tlT, List.length_cons, List.length_append, Nat.add_mul, Nat.one_mul]
    omega
theorem join_bound {sep m : Nat} {ys : List (List Nat)} (h : ∀ s ∈ ys, s.length ≤ m) : (joinT sep ys).length ≤ ys.length * (m + 1) := by
  cases ys with
  | nil => simp [joinT]
  | cons y r =>
    have h1 := h y (List.mem_cons_self ..)
    have h2 := tl_bound (sep := sep) (ys := r) fun s hs => h s (List.mem_cons_of_mem _ hs)
    simp only [joinT, List.length_cons, List.length_append, Nat.add_mul, Nat.one_mul]
    omega
theorem oT_len {sep n : Nat} {o : Option (List Nat)} (h : ∀ l, o = some l → l.length ≤ n) : (oT sep o).length ≤ 3 * n + 1 := by
  cases o with
  | none => simp [oT]
  | some l => have := h l rfl; have := wr_len l; simp only [oT, List.length_cons]; omega
theorem Ad.Ok.sz {x : Ad} (h : x.Ok) : x.Sz where
  stp := fun s hs => Nat.le_trans (h.stp.2 s hs).2.1 (by decide)
  que := fun ps e => ⟨Nat.le_trans (h.que ps e).1 (by decide), fun p hp => ⟨Nat.le_trans ((h.que ps e).2 p hp).1.2.1 (by decide), fun v hv => Nat.le_trans (((h.que ps e).2 p hp).2 v hv).1 (by decide)⟩⟩
  mar := fun l e => Nat.le_trans (h.mar l e).1 (by decide)
  num := Nat.le_trans h.stp.1 (by decide)
  all := by
    have a1 : (schT x.scheme).length ≤ 9 := by
      unfold schT
      split
      · simp
      · have := h.sch.1; simp only [List.length_append, List.length_cons, List.length_nil]; omega
    have a2 : (houT x.house).length ≤ 200 := by
      cases hh : x.house with
      | none => simp [houT]
      | some l => have := (h.hou l hh).2.1; have := wr_len l; simp only [houT, List.length_cons]; omega
    have a3 : (dooT x.door).length ≤ 6 := by
      cases hh : x.door with
      | none => simp [dooT]
      | some i => have b := (h.doo i hh).1; have := dg_len b.1 b.2; simp only [dooT, List.length_cons]; omega
    have a4 : x.wayT.length ≤ 9500 := by
      have hj := join_bound (sep := 47) (m := 180) (ys := x.steps.map wr) fun s hs => by
        obtain ⟨t, ht, rfl⟩ := List.mem_map.mp hs
        have := wr_len t; have := (h.stp.2 t ht).2.1; omega
      rw [List.length_map] at hj
      have := h.stp.1
      have e1 : (if x.rooted then [47] else [] : List Nat).length ≤ 1 := by split <;> simp
      have e2 : (if x.ends && !x.steps.isEmpty then [47] else [] : List Nat).length ≤ 1 := by split <;> simp
      simp only [Ad.wayT, Wm.wayT, List.length_append]
      have : x.steps.length * (180 + 1) ≤ 50 * 181 := Nat.mul_le_mul this (Nat.le_refl _)
      omega
    have a5 : (queT x.quest).length ≤ 1000 := by
      cases hq : x.quest with
      | none => simp [queT]
      | some ps =>
        have hk := h.que ps hq
        have hj := join_bound (sep := 38) (m := 37) (ys := ps.map pairT) fun s hs => by
          obtain ⟨p, hp, rfl⟩ := List.mem_map.mp hs
          have h1 := (hk.2 p hp).1.2.1
          have h2 := oT_len (sep := 61) (n := 6) (o := p.2) fun v hv => ((hk.2 p hp).2 v hv).1
          have := wr_len p.1
          simp only [pairT, List.length_append]
          omega
        rw [List.length_map] at hj
        have : ps.length * (37 + 1) ≤ 20 * 38 := Nat.mul_le_mul hk.1 (Nat.le_refl _)
        simp only [queT, List.length_cons]
        omega
    have a6 := oT_len (sep := 35) (n := 60) (o := x.mark) fun l e => (h.mar l e).1
    simp only [Ad.shw, List.length_append]
    omega
end Wm
namespace Wm
open PySem L2
theorem lens_eq (ts : List (List Nat)) : (ts.map fun l => (⟨l.toArray⟩ : Str)).map (·.length) = ts.map List.length := by
  rw [List.map_map]
  apply List.map_congr_left
  intro l _
  exact mk_len l
theorem atI_0 {a : V} {r : List V} : atI (a :: r) 0 = some a := by
  unfold atI ixN
  simp
/-- rooted or not, texts with a / between two, and a / where it ends and has some -/
def slT (r : Bool) (ts : List (List Nat)) (e : Bool) : List Nat := (if r then [47] else []) ++ (joinT 47 ts ++ (if e && !ts.isEmpty then [47] else []))
theorem wayT_sl (r : Bool) (ss : List (List Nat)) (e : Bool) : wayT r ss e = slT r (ss.map wr) e := by
  unfold wayT slT
  simp
end Wm
namespace L2
open PySem
theorem IsTAll.get {H : Hp} : ∀ {ds : List PyData} {xs : List V} {i : Nat} {d : PyData} {x : V}, IsTAll H ds xs → ds[i]? = some d → xs[i]? = some x → IsT H d x
  | _, _, 0, _, _, .cons h _, h1, h2 => by
    simp only [List.getElem?_cons_zero, Option.some.injEq] at h1 h2
    subst h1 h2; exact h
  | _, _, i + 1, _, _, .cons _ r, h1, h2 => by
    simp only [List.getElem?_cons_succ] at h1 h2
    exact r.get h1 h2
end L2
/-! WAYS GONE, as mathematics: from the first step on (the document) and from the last one back (the laws) -/
namespace Wm
open PySem L2
abbrev Stp := List Nat
def sUp : Stp := [46, 46]
def sStay : Stp := [46]
def isDot (s : Stp) : Bool := decide (s = sUp) || decide (s = sStay)
theorem up_ne_stay : sUp ≠ sStay := by decide
theorem isDot_false {s : Stp} : isDot s = false ↔ s ≠ sUp ∧ s ≠ sStay := by simp [isDot]
/-- one step, from the first on: how many steps up stand ahead, and the steps put behind them, the last one first -/
def fwd (r : Bool) (q : Nat × List Stp) (s : Stp) : Nat × List Stp :=
  if s = sUp then (match q.2 with | [] => (if r then q.1 else q.1 + 1, []) | _ :: t => (q.1, t))
  else if s = sStay then q else (q.1, s :: q.2)
def goneS (r : Bool) (ss : List Stp) : List Stp := List.replicate (ss.foldl (fwd r) (0, [])).1 sUp ++ (ss.foldl (fwd r) (0, [])).2.reverse
/-- one step, from the last one back -/
def bwd1 (s : Stp) (q : Nat × List Stp) : Nat × List Stp :=
  if s = sUp then (q.1 + 1, q.2) else if s ≠ sStay ∧ 0 < q.1 then (q.1 - 1, q.2) else if s ≠ sStay then (q.1, s :: q.2) else q
def bwd (ss : List Stp) : Nat × List Stp := ss.foldr bwd1 (0, [])
theorem bwd_cons (s : Stp) (ss : List Stp) : bwd (s :: ss) = bwd1 s (bwd ss) := rfl
theorem fwd_bwd (r : Bool) : ∀ (ss : List Stp) (u : Nat) (ns : List Stp),
    ss.foldl (fwd r) (u, ns) = (if r then u else u + ((bwd ss).1 - ns.length), (bwd ss).2.reverse ++ ns.drop (bwd ss).1)
  | [], u, ns => by simp [bwd]
  | s :: ss, u, ns => by
    rw [List.foldl_cons, bwd_cons]
    by_cases h1 : s = sUp
    · cases ns with
      | nil =>
        rw [show fwd r (u, []) s = (if r then u else u + 1, []) by simp [fwd, h1], fwd_bwd r ss]
        cases r <;> simp [bwd1, h1]
        omega
      | cons a t =>
        rw [show fwd r (u, a :: t) s = (u, t) by simp [fwd, h1], fwd_bwd r ss]
        simp [bwd1, h1]
    · by_cases h2 : s = sStay
      · rw [show fwd r (u, ns) s = (u, ns) by simp [fwd, h1, h2, up_ne_stay.symm], fwd_bwd r ss]
        simp [bwd1, h2, up_ne_stay.symm]
      · rw [show fwd r (u, ns) s = (u, s :: ns) by simp [fwd, h1, h2], fwd_bwd r ss]
        by_cases h3 : 0 < (bwd ss).1
        · obtain ⟨k, hk⟩ : ∃ k, (bwd ss).1 = k + 1 := ⟨(bwd ss).1 - 1, by omega⟩
          simp [bwd1, h1, h2, hk]
        · have h0 : (bwd ss).1 = 0 := by omega
          simp [bwd1, h1, h2, h0]
theorem gone_bwd (r : Bool) (ss : List Stp) : goneS r ss = (if r then [] else List.replicate (bwd ss).1 sUp) ++ (bwd ss).2 := by
  unfold goneS
  rw [fwd_bwd]
  cases r <;> simp
theorem bwd_snd {ss : List Stp} : ∀ s ∈ (bwd ss).2, s ∈ ss ∧ isDot s = false := by
  induction ss with
  | nil => simp [bwd]
  | cons t ss ih =>
    intro s hs
    rw [bwd_cons] at hs
    unfold bwd1 at hs
    split at hs
    · exact ⟨List.mem_cons_of_mem _ (ih s hs).1, (ih s hs).2⟩
    · next h1 =>
      split at hs
      · exact ⟨List.mem_cons_of_mem _ (ih s hs).1, (ih s hs).2⟩
      · split at hs
        · next h2 =>
          rcases List.mem_cons.mp hs with rfl | hs
          · exact ⟨List.mem_cons_self .., isDot_false.mpr ⟨h1, h2⟩⟩
          · exact ⟨List.mem_cons_of_mem _ (ih s hs).1, (ih s hs).2⟩
        · exact ⟨List.mem_cons_of_mem _ (ih s hs).1, (ih s hs).2⟩
theorem gone_mem {r : Bool} {ss : List Stp} : ∀ s ∈ goneS r ss, s ∈ ss ∧ isDot s = false ∨ r = false ∧ s = sUp := by
  intro s hs
  rw [gone_bwd] at hs
  rcases List.mem_append.mp hs with hs | hs
  · cases r with
    | true => cases hs
    | false => exact .inr ⟨rfl, (List.mem_replicate.mp (by simpa using hs)).2⟩
  · exact .inl (bwd_snd s hs)
/-- the last step is a dot -/
def lastDot (ss : List Stp) : Bool := match ss.getLast? with | some s => isDot s | none => false
/-- a way gone -/
def goneW (r : Bool) (ss : List Stp) (e : Bool) : Bool × List Stp × Bool :=
  if ss = [] then (r, [], e) else if goneS r ss = [] then (r, if r then [] else [sStay], true) else (r, goneS r ss, e || lastDot ss)
theorem goneW_fst (r : Bool) (ss : List Stp) (e : Bool) : (goneW r ss e).1 = r := by
  unfold goneW; split; rfl; split <;> rfl
end Wm
namespace Wm
open PySem L2
/-- the list that holds the state of going from the first step on -/
def stk (q : Nat × List Stp) : List Stp := List.replicate q.1 sUp ++ q.2.reverse
def StkOk (r : Bool) (q : Nat × List Stp) : Prop := (r = true → q.1 = 0) ∧ ∀ s ∈ q.2, s ≠ sUp
theorem StkOk.fwd {r : Bool} {q : Nat × List Stp} (h : StkOk r q) (s : Stp) : StkOk r (fwd r q s) := by
  obtain ⟨u, t⟩ := q
  obtain ⟨h1, h2⟩ := h
  dsimp only at h1 h2
  unfold Wm.fwd
  by_cases e : s = sUp
  · rw [if_pos e]
    cases t with
    | nil => exact ⟨fun z => by simp [z, h1 z], fun s hs => absurd hs (by simp)⟩
    | cons a t => exact ⟨h1, fun s hs => h2 s (List.mem_cons_of_mem _ hs)⟩
  · rw [if_neg e]
    by_cases e2 : s = sStay
    · rw [if_pos e2]; exact ⟨h1, h2⟩
    · rw [if_neg e2]
      refine ⟨h1, fun x hx => ?_⟩
      rcases List.mem_cons.mp hx with rfl | hx
      · exact e
      · exact h2 x hx
end Wm
/-! A TUPLE'S SLICE, the whole of it too -/
namespace L2
open PySem PySem.Spec PyProof.Rows HT
section
variable {prog : Program} {w : World} {A : Around} {E : Value → Shared → Prop} {s : Shared}
theorem getItem_tuple_same {t sl : Addr} {items : Array Value} {vl vu : Value} {lo hi : Option Int} {Q : Value → Shared → Prop} (ht : IsTup s.heap t items) (hs : s.heap.IsSliceOf sl vl vu .none) (pl : IsPart vl lo) (pu : IsPart vu hi)
    (hw : sIx items.size 0 lo = 0 ∧ sIx items.size items.size hi = items.size) (h : Q (.ref t) s) : wpAny (model prog w) A (getItem (.ref t) (.ref sl)) Q E s := by
  obtain ⟨os, hos, hcs, hds⟩ := id hs
  have hTs : s.TypeIs (.ref sl) "slice" := ⟨os, hos, hcs⟩
  unfold getItem
  try with_reducible refine wpAny_holding ?_
  first | refine wpAny_bind (wpAny_pure ?_) | skip
  refine wpAny_bind (wpAny_sequenceKey ht.typeIs (by decide) ?_)
  refine wpAny_bind (wpAny_callSpecial?_slot (name := Str.ofString "__getitem__") ht.typeIs PyProof.Rows.slot_tuple_getitem
    (wpAny_call_entry PyProof.Rows.slot_tuple_getitem ht.typeIs entry_tuple_getitem ?_ (args_tuple_getitem _ _)))
  show wpAny _ _ (Builtin.Tuple.tupleItemsOf (.ref t) >>= _) _ _ s
  refine wpAny_bind (tupleItemsOf_ ht ?_)
  refine wpAny_bind (wpAny_typeOf hTs ?_)
  rw [if_pos (by decide)]
  refine wpAny_bind (sliceApplied_gen hs pl pu ?_)
  show wpAny _ _ (if (((sIx items.size 0 lo : Nat) : Int) == 0 && (1 : Int) == 1 && (sIx items.size items.size hi - sIx items.size 0 lo) == items.size) = true then _ else _) _ _ s
  rw [if_pos (by rw [hw.1, hw.2]; simp)]
  refine wpAny_bind ?_
  show wpAny _ _ (typeOf (.ref t) >>= _) _ _ s
  refine wpAny_bind (wpAny_typeOf ht.typeIs (wpAny_pure ?_))
  rw [if_pos (by decide)]
  exact wpAny_bind (wpAny_rule (wpAny_pure ⟨_, rfl, wpAny_pure h⟩))
end
section
variable {X : Cx} {K : PySem.W.Frag}
def rSlTA : V → Option Int → Option Int → Hp → VK → Prop := fun x lo hi H Q => ∃ a xs, x = .ref a ∧ H a = some (.tup xs) ∧ ∀ p H', Same H H' → H' p = some (.tup (cutV xs lo hi)) → Q (.ref p) H'
theorem cutV_whole {xs : List V} {lo hi : Option Int} (h : sIx xs.length 0 lo = 0 ∧ sIx xs.length xs.length hi = xs.length) : cutV xs lo hi = xs := by
  unfold cutV
  rw [h.1, h.2, List.drop_zero, Nat.sub_zero, List.take_length]
theorem sl_tupA : SlR X rSlTA := by
  intro pins s σ H x v vl vu lo hi sl Q I rx hs pl pu h
  obtain ⟨a, xs, rfl, hx, q⟩ := h
  by_cases hw : sIx xs.length 0 lo = 0 ∧ sIx xs.length xs.length hi = xs.length
  · cases rx
    obtain ⟨its, r, ht, hz⟩ := I.tuple (SqT.of hx)
    have hlen : its.toArray.size = xs.length := by rw [List.size_toArray]; exact r.length.symm
    refine ⟨"tuple", _, PyProof.Rows.slot_tuple_getitem.lookup, ht.typeIs, ?_⟩
    exact getItem_tuple_same ht hs pl pu (by rw [hlen]; exact hw) ⟨.ref a, H, I, rfl, q a H (Same.refl _) (by rw [cutV_whole hw]; exact hx)⟩
  · exact sl_tup pins s σ H _ v vl vu lo hi sl Q I rx hs pl pu ⟨a, xs, rfl, SqT.of hx, hw, fun p hp => q p _ (same_new hp) upd_same⟩
theorem slTA_ref {a : Addr} {lo hi : Option Int} {H : Hp} {Q : VK} : rSlTA (.ref a) lo hi H Q ↔ ∃ xs, H a = some (.tup xs) ∧ ∀ p H', Same H H' → H' p = some (.tup (cutV xs lo hi)) → Q (.ref p) H' := by
  constructor
  · rintro ⟨p, bs, h1, h2⟩; cases h1; exact ⟨bs, h2⟩
  · rintro ⟨bs, h⟩; exact ⟨a, bs, rfl, h⟩
end
end L2
/-! DATA OF TUPLES that may be the module's own: a tuple that is tracked, or one of the module's constants -/
namespace L2
open PySem PySem.Spec PyProof.Rows HT
mutual
inductive IsK (K : PySem.W.Frag) (H : Hp) : PyData → V → Prop
  | non : IsK K H .none .non
  | bl (b : Bool) : IsK K H (.bool b) (.bl b)
  | int (i : Int) : IsK K H (.int i) (.int i)
  | str (x : Str) : IsK K H (.str x) (.str x)
  | tup {p : Addr} {xs : List V} {ds : List PyData} : SqT K H p xs → IsKAll K H ds xs → IsK K H (.tuple ds) (.ref p)
inductive IsKAll (K : PySem.W.Frag) (H : Hp) : List PyData → List V → Prop
  | nil : IsKAll K H [] []
  | cons {d : PyData} {x : V} {ds : List PyData} {xs : List V} : IsK K H d x → IsKAll K H ds xs → IsKAll K H (d :: ds) (x :: xs)
end
section
variable {K : PySem.W.Frag} {H H' : Hp}
mutual
theorem IsK.mono (sm : Same H H') : ∀ {d : PyData} {x : V}, IsK K H d x → IsK K H' d x
  | _, _, .non => .non
  | _, _, .bl b => .bl b
  | _, _, .int i => .int i
  | _, _, .str x => .str x
  | _, _, .tup h r => .tup (sm.tup h) (IsKAll.mono sm r)
theorem IsKAll.mono (sm : Same H H') : ∀ {ds : List PyData} {xs : List V}, IsKAll K H ds xs → IsKAll K H' ds xs
  | _, _, .nil => .nil
  | _, _, .cons h r => .cons (IsK.mono sm h) (IsKAll.mono sm r)
end
mutual
theorem IsT.k : ∀ {d : PyData} {x : V}, IsT H d x → IsK K H d x
  | _, _, .non => .non
  | _, _, .bl b => .bl b
  | _, _, .int i => .int i
  | _, _, .str x => .str x
  | _, _, .tup h r => .tup (SqT.of h) (IsTAll.k r)
theorem IsTAll.k : ∀ {ds : List PyData} {xs : List V}, IsTAll H ds xs → IsKAll K H ds xs
  | _, _, .nil => .nil
  | _, _, .cons h r => .cons (IsT.k h) (IsTAll.k r)
end
end
section
variable {X : Cx} {pins : List (Addr × Obj)} {σ : St} {H : Hp} {s : Shared}
mutual
theorem IsK.reads (I : Inv X pins σ H s) : ∀ {d : PyData} {x : V} {v : Value}, IsK X.K H d x → RelV x v → ∃ as, Reads s.heap v d as
  | _, _, _, .non, r => by cases r; exact ⟨_, .none⟩
  | _, _, _, .bl b, r => by cases r; exact ⟨_, .bool b⟩
  | _, _, _, .int i, r => by obtain ⟨t, rfl⟩ := r; exact ⟨_, .int i t⟩
  | _, _, _, .str x, r => by obtain ⟨t, rfl⟩ := r; exact ⟨_, .str x t⟩
  | _, _, _, .tup h q, r => by
    cases r
    obtain ⟨its, vs, ⟨o, e, c, n, dt⟩, _⟩ := I.tuple h
    obtain ⟨as, ra⟩ := IsKAll.reads I q vs
    exact ⟨_, .tuple e c dt (by simpa using ra)⟩
theorem IsKAll.reads (I : Inv X pins σ H s) : ∀ {ds : List PyData} {xs : List V} {vs : List Value}, IsKAll X.K H ds xs → Vals xs vs → ∃ as, ReadsAll s.heap vs ds as
  | _, _, _, .nil, r => by cases r; exact ⟨_, .nil⟩
  | _, _, _, .cons q t, r => by
    cases r with
    | cons r1 r2 =>
      obtain ⟨as, h1⟩ := IsK.reads I q r1
      obtain ⟨bs, h2⟩ := IsKAll.reads I t r2
      exact ⟨_, .cons h1 h2⟩
end
variable {K : PySem.W.Frag}
/-- a tuple's slice -/
def rSlX (K : PySem.W.Frag) : V → Option Int → Option Int → Hp → VK → Prop := fun x lo hi H Q => ∃ a xs, x = .ref a ∧ SqT K H a xs ∧ ∀ p H', Same H H' → SqT K H' p (cutV xs lo hi) → Q (.ref p) H'
theorem slX_ref {a : Addr} {lo hi : Option Int} {H : Hp} {Q : VK} : rSlX K (.ref a) lo hi H Q ↔ ∃ xs, SqT K H a xs ∧ ∀ p H', Same H H' → SqT K H' p (cutV xs lo hi) → Q (.ref p) H' := by
  constructor
  · rintro ⟨p, bs, h1, h2⟩; cases h1; exact ⟨bs, h2⟩
  · rintro ⟨bs, h⟩; exact ⟨a, bs, rfl, h⟩
/-- t + u of two tuples -/
def rCatX (K : PySem.W.Frag) : R2 := fun x y H Q => ∃ a b xs ys, x = .ref a ∧ y = .ref b ∧ SqT K H a xs ∧ SqT K H b ys ∧ xs.length + ys.length ≤ sizeLine ∧ ∀ p H', Same H H' → SqT K H' p (xs ++ ys) → Q (.ref p) H'
theorem catX_ref {a b : Addr} {H : Hp} {Q : VK} : rCatX K (.ref a) (.ref b) H Q ↔ ∃ xs ys, SqT K H a xs ∧ SqT K H b ys ∧ xs.length + ys.length ≤ sizeLine ∧ ∀ p H', Same H H' → SqT K H' p (xs ++ ys) → Q (.ref p) H' := by
  constructor
  · rintro ⟨p, p', xs, ys, h1, h2, h3⟩; cases h1; cases h2; exact ⟨xs, ys, h3⟩
  · rintro ⟨xs, ys, h⟩; exact ⟨a, b, xs, ys, rfl, rfl, h⟩
/-- isinstance of one built-in kind -/
def KindK (K : PySem.W.Frag) (H : Hp) (x : V) (k : String) : Prop := kindV x H = some k ∨ ∃ a xs, x = .ref a ∧ SqT K H a xs ∧ k = "tuple"
theorem KindK.tup {K : PySem.W.Frag} {H : Hp} {a : Addr} {xs : List V} (h : SqT K H a xs) : KindK K H (.ref a) "tuple" := .inr ⟨a, xs, rfl, h, rfl⟩
def rIsiX (K : PySem.W.Frag) : List V → Hp → VK → Prop := fun vs H Q => match vs with
  | [x, .ty T] => ∃ k, KindK K H x k ∧ T ∈ ["bool", "int", "str", "list", "tuple"] ∧ Q (.bl (subT k T)) H
  | _ => False
theorem isiX_any {x : V} {T : String} {H : Hp} {Q : VK} : rIsiX K [x, .ty T] H Q ↔ ∃ k, KindK K H x k ∧ T ∈ ["bool", "int", "str", "list", "tuple"] ∧ Q (.bl (subT k T)) H := Iff.rfl
end
end L2
namespace Wm
open PySem L2
section
variable {K : PySem.W.Frag} {H : Hp}
theorem isK_st {l : List Nat} {v : V} (h : IsK K H (st l) v) : v = .str ⟨l.toArray⟩ := by cases h; rfl
theorem isK_oD {o : Option (List Nat)} {v : V} (h : IsK K H (oD o) v) : v = otV o := by
  cases o with
  | none => cases h; rfl
  | some l => exact isK_st h
theorem isK_iD {o : Option Int} {v : V} (h : IsK K H (iD o) v) : v = itV o := by
  cases o with
  | none => cases h; rfl
  | some l => cases h; rfl
theorem isK_bool {b : Bool} {v : V} (h : IsK K H (.bool b) v) : v = .bl b := by cases h; rfl
theorem isK_tup {ds : List PyData} {v : V} (h : IsK K H (.tuple ds) v) : ∃ p xs, v = .ref p ∧ SqT K H p xs ∧ IsKAll K H ds xs := by
  cases h with
  | tup h1 h2 => exact ⟨_, _, rfl, h1, h2⟩
theorem isK2 {a b : PyData} {v : V} (h : IsK K H (.tuple [a, b]) v) : ∃ p x y, v = .ref p ∧ SqT K H p [x, y] ∧ IsK K H a x ∧ IsK K H b y := by
  obtain ⟨p, xs, rfl, hp, r⟩ := isK_tup h
  cases r with
  | cons h1 r => cases r with
    | cons h2 r => cases r; exact ⟨p, _, _, rfl, hp, h1, h2⟩
theorem isK3 {a b c : PyData} {v : V} (h : IsK K H (.tuple [a, b, c]) v) : ∃ p x y z, v = .ref p ∧ SqT K H p [x, y, z] ∧ IsK K H a x ∧ IsK K H b y ∧ IsK K H c z := by
  obtain ⟨p, xs, rfl, hp, r⟩ := isK_tup h
  cases r with
  | cons h1 r => cases r with
    | cons h2 r => cases r with
      | cons h3 r => cases r; exact ⟨p, _, _, _, rfl, hp, h1, h2, h3⟩
theorem isK6 {a b c d e f : PyData} {v : V} (h : IsK K H (.tuple [a, b, c, d, e, f]) v) : ∃ p x0 x1 x2 x3 x4 x5, v = .ref p ∧ SqT K H p [x0, x1, x2, x3, x4, x5] ∧ IsK K H a x0 ∧ IsK K H b x1 ∧ IsK K H c x2 ∧ IsK K H d x3 ∧ IsK K H e x4 ∧ IsK K H f x5 := by
  obtain ⟨p, xs, rfl, hp, r⟩ := isK_tup h
  cases r with
  | cons h1 r => cases r with
    | cons h2 r => cases r with
      | cons h3 r => cases r with
        | cons h4 r => cases r with
          | cons h5 r => cases r with
            | cons h6 r => cases r; exact ⟨p, _, _, _, _, _, _, rfl, hp, h1, h2, h3, h4, h5, h6⟩
theorem isK_steps : ∀ {ss : List (List Nat)} {xs : List V}, IsKAll K H (ss.map st) xs → xs = ss.map fun l => V.str ⟨l.toArray⟩
  | [], _, h => by cases h; rfl
  | s :: ss, _, h => by
    cases h with
    | cons h1 h2 => rw [isK_st h1, isK_steps h2]; rfl
/-- a way, opened -/
theorem isK_way {r e : Bool} {ss : List (List Nat)} {v : V} (h : IsK K H (.tuple [.bool r, .tuple (ss.map st), .bool e]) v) : ∃ p q, v = .ref p ∧ SqT K H p [.bl r, .ref q, .bl e] ∧ SqT K H q (ss.map fun l => V.str ⟨l.toArray⟩) := by
  obtain ⟨p, x, y, z, rfl, hp, h1, h2, h3⟩ := isK3 h
  cases isK_bool h1
  cases isK_bool h3
  obtain ⟨q, xs, rfl, hq, r⟩ := isK_tup h2
  cases isK_steps r
  exact ⟨p, q, rfl, hp, hq⟩
/-- an address, opened -/
theorem isK_ad {x : Ad} {v : V} (h : IsK K H x.data v) : ∃ p w q, v = .ref p ∧ SqT K H p [.str ⟨x.scheme.toArray⟩, otV x.house, itV x.door, w, q, otV x.mark] ∧ IsK K H x.way w ∧ IsK K H (qD x.quest) q := by
  obtain ⟨p, x0, x1, x2, x3, x4, x5, rfl, hp, i0, i1, i2, i3, i4, i5⟩ := isK6 (show IsK K H (.tuple [st x.scheme, oD x.house, iD x.door, x.way, qD x.quest, oD x.mark]) v from h)
  cases isK_st i0
  cases isK_oD i1
  cases isK_iD i2
  cases isK_oD i5
  exact ⟨p, x3, x4, rfl, hp, i3, i4⟩
end
end Wm
/-! A LIST'S SLICE WITH A STEP -/
namespace L2
open PySem PySem.Spec PyProof.Rows
theorem Vals.at {xs : List V} {us : List Value} (h : Vals xs us) : ∀ (i : Nat), (∃ x u, xs[i]? = some x ∧ us[i]? = some u ∧ RelV x u) ∨ (xs[i]? = none ∧ us[i]? = none) := by
  induction h with
  | nil => intro i; exact .inr ⟨by simp, by simp⟩
  | cons r _ ih =>
    intro i
    cases i with
    | zero => exact .inl ⟨_, _, rfl, rfl, r⟩
    | succ i => simpa using ih i
def pickV {α : Type} (xs : List α) (lo hi st : Option Int) : List α :=
  (sliceRange (sliceBounds lo hi st xs.length).1 (sliceBounds lo hi st xs.length).2.1 (sliceBounds lo hi st xs.length).2.2).filterMap fun i => xs[i]?
section
variable {X : Cx}
def tSl3 (K : PySem.W.Frag) (te : TE) (tl th ts : TO) : TE := fun σ H Q => te σ H fun x H1 => tl σ H1 fun l H2 => th σ H2 fun u H3 => ts σ H3 fun k H4 =>
  ∃ a xs, x = .ref a ∧ SqL K H4 a xs ∧ k ≠ some 0 ∧ (pickV xs l u k).length ≤ sizeLine ∧ ∀ p, H4 p = none → Q (.ref p) (upd H4 p (.lst (pickV xs l u k)))
end
theorem rd_sl3 {K : PySem.W.Frag} {te : TE} {tl th ts : TO} {σ : St} {H : Hp} {Q : VK} : tSl3 K te tl th ts σ H Q ↔ te σ H fun x H1 => tl σ H1 fun l H2 => th σ H2 fun u H3 => ts σ H3 fun k H4 =>
  ∃ a xs, x = .ref a ∧ SqL K H4 a xs ∧ k ≠ some 0 ∧ (pickV xs l u k).length ≤ sizeLine ∧ ∀ p, H4 p = none → Q (.ref p) (upd H4 p (.lst (pickV xs l u k))) := Iff.rfl
end L2
/-! RESOLVING AND TELLING RELATIVE, as mathematics -/
namespace Wm
open PySem L2
abbrev Way := Bool × List Stp × Bool
def Ad.w (x : Ad) : Way := (x.rooted, x.steps, x.ends)
def Ad.withWay (x : Ad) (w : Way) : Ad := { x with rooted := w.1, steps := w.2.1, ends := w.2.2 }
def goneV (w : Way) : Way := goneW w.1 w.2.1 w.2.2
def Ad.gone (x : Ad) : Ad := x.withWay (goneV x.w)
/-! ### what a rooted way comes to -/
/-! ### a way gone that is rooted -/
/-! ### resolved: whole, and without dots; told relative and resolved it is the goal -/
/-! ### step by step -/
end Wm
namespace Wm
open PySem L2
def wayOf (w : Way) : PyData := .tuple [.bool w.1, .tuple (w.2.1.map st), .bool w.2.2]
theorem rv_ref {l : Addr} {H : Hp} {Q : VK} : rReverse (.ref l) [] H Q ↔ ∃ xs, H l = some (.lst xs) ∧ Q .non (upd H l (.lst xs.reverse)) :=
  ⟨fun ⟨_, xs, e, _, h, q⟩ => by cases e; exact ⟨xs, h, q⟩, fun ⟨xs, h, q⟩ => ⟨l, xs, rfl, rfl, h, q⟩⟩
end Wm
namespace Wm
open PySem L2
abbrev sV (l : List Nat) : V := .str ⟨l.toArray⟩
end Wm
namespace Wm
open PySem L2
theorem isAll_sV {H : Hp} : ∀ (ss : List (List Nat)), IsAll H (ss.map st) (ss.map sV)
  | [] => .nil
  | s :: ss => .cons (.str _) (isAll_sV ss)
theorem isTAll_sV {H : Hp} : ∀ (ss : List (List Nat)), IsTAll H (ss.map st) (ss.map sV)
  | [] => .nil
  | s :: ss => .cons (.str _) (isTAll_sV ss)
end Wm
namespace Wm
open PySem L2
end Wm
namespace Wm
open PySem L2
end Wm
namespace L2
open PySem
end L2
namespace L2
open PySem
theorem po_ref {l : Addr} {H : Hp} {Q : VK} : rPop (.ref l) [] H Q ↔ ∃ xs y, H l = some (.lst xs) ∧ xs[xs.length - 1]? = some y ∧ Q y (upd H l (.lst xs.dropLast)) :=
  ⟨fun ⟨_, xs, y, h1, _, h3, h4, h5⟩ => by cases h1; exact ⟨xs, y, h3, h4, h5⟩, fun ⟨xs, y, h3, h4, h5⟩ => ⟨_, xs, y, rfl, rfl, h3, h4, h5⟩⟩
end L2
namespace L2
open PySem
theorem rd_never {D : Ends} {σ : St} {H : Hp} : tNever D σ H ↔ False := Iff.rfl
end L2
namespace Wm
open PySem L2
/-- what the laws' small addresses keep to -/
structure Ad.Tiny (x : Ad) : Prop where
  stp : ∀ s ∈ x.steps, s.length ≤ 9
  que : ∀ ps, x.quest = some ps → ps.length ≤ 3 ∧ ∀ p ∈ ps, p.1.length ≤ 5 ∧ ∀ v, p.2 = some v → v.length ≤ 6
  mar : ∀ l, x.mark = some l → l.length ≤ 7
  hou : ∀ l, x.house = some l → l.length ≤ 13
end Wm
namespace Wm
open PySem L2
theorem stay_ok : StepOk sStay := ⟨by decide, by decide⟩
theorem up_ok : StepOk sUp := ⟨by decide, by decide⟩
theorem goneV_ok {w : Way} (h : ∀ s ∈ w.2.1, StepOk s) : ∀ s ∈ (goneV w).2.1, StepOk s := by
  intro s hs
  unfold goneV goneW at hs
  split at hs
  · cases hs
  · split at hs
    · cases e : w.1
      · rw [e] at hs; simp at hs; subst hs; exact stay_ok
      · rw [e] at hs; simp at hs
    · rcases gone_mem s hs with z | z
      · exact h s z.1
      · rw [z.2]; exact up_ok
theorem goneV_end_ {w : Way} (h : w.2.1 = [] → w.2.2 = w.1) : (goneV w).2.1 = [] → (goneV w).2.2 = (goneV w).1 := by
  intro e
  unfold goneV goneW at e ⊢
  split at e
  · rename_i z; rw [if_pos z]; exact h z
  · rename_i z
    rw [if_neg z]
    split at e
    · rename_i y
      rw [if_pos y]
      cases ew : w.1
      · rw [ew] at e; simp at e
      · rfl
    · rename_i y; exact absurd e y
theorem goneV_fst (w : Way) : (goneV w).1 = w.1 := goneW_fst _ _ _
theorem Ad.Wf.gone {x : Ad} (h : x.Wf) : x.gone.Wf where
  sch := h.sch
  hou := h.hou
  doo := h.doo
  stp := goneV_ok (w := x.w) h.stp
  roo := fun z => (goneV_fst x.w).trans (h.roo z)
  end_ := goneV_end_ (w := x.w) h.end_
  que := h.que
  mar := h.mar
end Wm
namespace Wm
end Wm
namespace Wm
open PySem L2
/-- a slice of anything -/
def cutA {α : Type} (xs : List α) (lo hi : Option Int) : List α := (xs.drop (HT.sIx xs.length 0 lo)).take (HT.sIx xs.length xs.length hi - HT.sIx xs.length 0 lo)
theorem cutV_map {α : Type} (f : α → V) (xs : List α) (lo hi : Option Int) : cutV (xs.map f) lo hi = (cutA xs lo hi).map f := by
  unfold cutV cutA; rw [List.length_map, List.map_take, List.map_drop]
/-- steps that may be shown: signs alone -/
def AllSg (ss : List Stp) : Prop := ∀ s ∈ ss, ∀ c ∈ s, isSg c = true
end Wm
namespace Wm
open PySem L2
end Wm
namespace L2
open PySem
theorem IsKAll.at {K : PySem.W.Frag} {H : Hp} : ∀ {ds : List PyData} {xs : List V} {i : Nat} {x : V}, IsKAll K H ds xs → xs[i]? = some x → ∃ d, ds[i]? = some d ∧ IsK K H d x
  | _, _, 0, _, .cons h _, h2 => by
    simp only [List.getElem?_cons_zero, Option.some.injEq] at h2
    subst h2; exact ⟨_, rfl, h⟩
  | _, _, i + 1, _, .cons _ r, h2 => by
    simp only [List.getElem?_cons_succ] at h2
    obtain ⟨d, h1, h3⟩ := r.at h2
    exact ⟨d, by simpa using h1, h3⟩
end L2
namespace Wm
open PySem L2
section
variable {H : Hp}
theorem isT_way {r e : Bool} {ss : List (List Nat)} {v : V} (h : IsT H (.tuple [.bool r, .tuple (ss.map st), .bool e]) v) : ∃ p q, v = .ref p ∧ H p = some (.tup [.bl r, .ref q, .bl e]) ∧ H q = some (.tup (ss.map fun l => V.str ⟨l.toArray⟩)) := by
  obtain ⟨p, x, y, z, rfl, hp, h1, h2, h3⟩ := isT3 h
  cases isT_bool h1
  cases isT_bool h3
  obtain ⟨q, xs, rfl, hq, r⟩ := isT_tup h2
  cases isT_steps r
  exact ⟨p, q, rfl, hp, hq⟩
theorem wayT' {r e : Bool} {ss : List (List Nat)} {p q : Addr} (hp : H p = some (.tup [.bl r, .ref q, .bl e])) (hq : H q = some (.tup (ss.map fun l => V.str ⟨l.toArray⟩))) : IsT H (.tuple [.bool r, .tuple (ss.map st), .bool e]) (.ref p) :=
  .tup hp (.cons (.bl _) (.cons (.tup hq (isTAll_sV _)) (.cons (.bl _) .nil)))
theorem isT_ad {x : Ad} {v : V} (h : IsT H x.data v) : ∃ p w q, v = .ref p ∧ H p = some (.tup [.str ⟨x.scheme.toArray⟩, otV x.house, itV x.door, w, q, otV x.mark]) ∧ IsT H x.way w ∧ IsT H (qD x.quest) q := by
  obtain ⟨p, x0, x1, x2, x3, x4, x5, rfl, hp, i0, i1, i2, i3, i4, i5⟩ := isT6 (show IsT H (.tuple [st x.scheme, oD x.house, iD x.door, x.way, qD x.quest, oD x.mark]) v from h)
  cases isT_st i0
  cases isT_oD i1
  cases isT_iD i2
  cases isT_oD i5
  exact ⟨p, x3, x4, rfl, hp, i3, i4⟩
theorem adT {x : Ad} {p : Addr} {w q : V} (hp : H p = some (.tup [.str ⟨x.scheme.toArray⟩, otV x.house, itV x.door, w, q, otV x.mark])) (hw : IsT H x.way w) (hq : IsT H (qD x.quest) q) : IsT H x.data (.ref p) :=
  .tup hp (.cons (.str _) (.cons (is_oD _) (.cons (is_iD _) (.cons hw (.cons hq (.cons (is_oD _) .nil))))))
end
theorem Ad.Wf.sg {x : Ad} (h : x.Wf) : AllSg x.steps := fun s hs => (h.stp s hs).2
theorem Ad.Wf.bare {x : Ad} (h : x.Wf) : ({ x with scheme := [] } : Ad).Wf :=
  ⟨⟨Nat.zero_le _, (fun c hc => by cases hc), (fun c hc => by cases hc)⟩, h.hou, h.doo, h.stp, (fun z => h.roo (z.elim (fun y => absurd rfl y) .inr)), h.end_, h.que, h.mar⟩
theorem Ad.Wf.local {x : Ad} (h : x.Wf) : ({ x with scheme := [], house := none, door := none } : Ad).Wf :=
  ⟨⟨Nat.zero_le _, (fun c hc => by cases hc), (fun c hc => by cases hc)⟩, (fun l e => by cases e), (fun l e => by cases e), h.stp, (fun z => z.elim (fun y => absurd rfl y) (fun y => absurd rfl y)), h.end_, h.que, h.mar⟩
/-- values that are addresses, of at most so many steps -/
def Goods (n : Nat) (H : Hp) (vs : List V) : Prop := ∀ v ∈ vs, ∃ x : Ad, x.Wf ∧ x.steps.length ≤ n ∧ IsT H x.data v
theorem Goods.mono {n : Nat} {H H' : Hp} {vs : List V} (h : Goods n H vs) (sm : SameT H H') : Goods n H' vs := fun v hv => by
  obtain ⟨x, h1, h2, h3⟩ := h v hv
  exact ⟨x, h1, h2, h3.mono sm⟩
theorem Goods.nil {n : Nat} {H : Hp} : Goods n H [] := fun v hv => by cases hv
theorem Goods.cons {n : Nat} {H : Hp} {v : V} {vs : List V} {x : Ad} (h1 : x.Wf) (h2 : x.steps.length ≤ n) (h3 : IsT H x.data v) (h : Goods n H vs) : Goods n H (v :: vs) := fun u hu => by
  rcases List.mem_cons.mp hu with rfl | hu
  · exact ⟨x, h1, h2, h3⟩
  · exact h u hu
theorem Goods.snoc {n : Nat} {H : Hp} {v : V} {vs : List V} {x : Ad} (h : Goods n H vs) (h1 : x.Wf) (h2 : x.steps.length ≤ n) (h3 : IsT H x.data v) : Goods n H (vs ++ [v]) := fun u hu => by
  rcases List.mem_append.mp hu with hu | hu
  · exact h u hu
  · rw [List.mem_singleton.mp hu]; exact ⟨x, h1, h2, h3⟩
end Wm
namespace Wm
open PySem L2
end Wm
namespace Wm
open PySem L2
end Wm
namespace L2
open PySem PySem.Spec PyProof.Rows
theorem op_notBU {X : Cx} : OpR X (compareOp .IsNot) (rIsB true) := by
  intro pins s σ H x y v u Q I rx ry h
  cases x with
  | bl b =>
    cases y with
    | bl c => cases rx; cases ry; exact isnot_bool (fin_bl I h (by cases b <;> cases c <;> rfl))
    | _ => exact h.elim
  | _ => exact h.elim
theorem isB_t {b c : Bool} {H : Hp} {Q : VK} : rIsB true (.bl b) (.bl c) H Q ↔ Q (.bl (!decide (b = c))) H := Iff.rfl
end L2
namespace Wm
open PySem L2
end Wm
namespace Wm
open PySem L2
end Wm
namespace Wm
open PySem L2
end Wm
namespace Wm
open PySem L2
end Wm
namespace Wm
open PySem L2
/-- a whole address of the laws, of at most so many steps -/
structure GoodAd (n : Nat) (x : Ad) : Prop where
  wf : x.Wf
  ti : x.Tiny
  sc : x.scheme ≠ []
  ln : x.steps.length ≤ n
theorem GoodAd.le {n m : Nat} {x : Ad} (h : GoodAd n x) (hm : n ≤ m) : GoodAd m x := ⟨h.wf, h.ti, h.sc, Nat.le_trans h.ln hm⟩
theorem GoodAd.rt {n : Nat} {x : Ad} (h : GoodAd n x) : x.rooted = true := h.wf.roo (.inl h.sc)
theorem GoodAd.way {n m : Nat} {g : Ad} (hg : GoodAd n g) {ss : List Stp} {e : Bool} (h1 : ∀ s ∈ ss, StepOk s ∧ s.length ≤ 9) (h2 : ss.length ≤ m) (h3 : ss = [] → e = true) : GoodAd m { g with rooted := true, steps := ss, ends := e } :=
  ⟨⟨hg.wf.sch, hg.wf.hou, hg.wf.doo, fun s hs => (h1 s hs).1, fun _ => rfl, h3, hg.wf.que, hg.wf.mar⟩, ⟨fun s hs => (h1 s hs).2, hg.ti.que, hg.ti.mar, hg.ti.hou⟩, hg.sc, h2⟩
theorem GoodAd.quest {n m : Nat} {b g : Ad} (hb : GoodAd n b) (hg : GoodAd m g) : GoodAd m { g with quest := b.quest } :=
  ⟨⟨hg.wf.sch, hg.wf.hou, hg.wf.doo, hg.wf.stp, hg.wf.roo, hg.wf.end_, hb.wf.que, hg.wf.mar⟩, ⟨hg.ti.stp, hb.ti.que, hg.ti.mar, hg.ti.hou⟩, hg.sc, hg.ln⟩
end Wm
/-! REVERSED TUPLES over the hand layer -/
namespace L2
open PySem PySem.Spec PyProof.Rows
def IsRv (h : Heap) (a t : Addr) (i : Int) : Prop := ∃ o, h.get? a = some o ∧ o.cls = .type "reversed" ∧ o.data = .fields #[.ref t, rawInt i]
section
variable {prog : Program} {w : World} {A : Around} {E : Value → Shared → Prop} {s : Shared}
theorem IsRv.ty {a t : Addr} {i : Int} (x : IsRv s.heap a t i) : s.TypeIs (.ref a) "reversed" := let ⟨o, ho, hc, _⟩ := x; ⟨o, ho, hc⟩
end
/-- a tuple from its end: n its length -/
def Itv (K : PySem.W.Frag) (a : Addr) (n : Nat) : It :=
  ⟨fun i H => ∃ xs x, SqT K H a xs ∧ xs.length = n ∧ i < n ∧ xs[n - 1 - i]? = some x, fun i H x H' => H' = H ∧ ∀ xs, SqT K H a xs → xs.length = n → xs[n - 1 - i]? = some x, fun i _ => n ≤ i⟩
section
variable {X : Cx} {tg : Expr} {K : PySem.W.Frag}
def iRev (K : PySem.W.Frag) (ta : TA) : TI := fun σ H R => ta σ H fun vs H1 => ∃ a xs, vs = [.ref a] ∧ SqT K H1 a xs ∧ R (Itv K a xs.length) H1
variable {σ : St} {H : Hp} {D : Ends} {g : TG} {tb : TS} {aa : TA}
theorem rd_forV : tFor (iRev K aa) g tb D σ H ↔ aa σ H fun vs H1 => ∃ a xs, vs = [.ref a] ∧ SqT K H1 a xs ∧ LoopI (Itv K a xs.length) g tb D σ H1 := Iff.rfl
end
end L2
/-! A TUPLE TIMES A NUMBER -/
namespace L2
open PySem PySem.Spec PyProof.Rows
section
variable {X : Cx}
def rRepT : R2 := fun x y H Q => ∃ a k xs, x = .ref a ∧ y = .int k ∧ H a = some (.tup xs) ∧ 2 ≤ k ∧ k < 1000 ∧ xs.length * k.toNat ≤ sizeLine ∧ ∀ p H', Same H H' → H' p = some (.tup (List.replicate k.toNat xs).flatten) → Q (.ref p) H'
theorem repT_ref {a : Addr} {k : Int} {H : Hp} {Q : VK} : rRepT (.ref a) (.int k) H Q ↔ ∃ xs, H a = some (.tup xs) ∧ 2 ≤ k ∧ k < 1000 ∧ xs.length * k.toNat ≤ sizeLine ∧ ∀ p H', Same H H' → H' p = some (.tup (List.replicate k.toNat xs).flatten) → Q (.ref p) H' := by
  constructor
  · rintro ⟨a', k', xs, h1, h2, h⟩; cases h1; cases h2; exact ⟨xs, h⟩
  · rintro ⟨xs, h⟩; exact ⟨a, k, xs, rfl, rfl, h⟩
/-- a list times a number, the heap behind it as any that holds it -/
def rRepS : R2 := fun x y H Q => ∃ l k xs, x = .ref l ∧ y = .int k ∧ H l = some (.lst xs) ∧ 0 ≤ k ∧ k < 1000000 ∧ xs.length * k.toNat ≤ sizeLine ∧ ∀ p H', H p = none → Same H H' → H' p = some (.lst (List.replicate k.toNat xs).flatten) → Q (.ref p) H'
theorem repS_ref {a : Addr} {k : Int} {H : Hp} {Q : VK} : rRepS (.ref a) (.int k) H Q ↔ ∃ xs, H a = some (.lst xs) ∧ 0 ≤ k ∧ k < 1000000 ∧ xs.length * k.toNat ≤ sizeLine ∧ ∀ p H', H p = none → Same H H' → H' p = some (.lst (List.replicate k.toNat xs).flatten) → Q (.ref p) H' := by
  constructor
  · rintro ⟨a', k', xs, h1, h2, h⟩; cases h1; cases h2; exact ⟨xs, h⟩
  · rintro ⟨xs, h⟩; exact ⟨a, k, xs, rfl, rfl, h⟩
end
end L2
/-! A TUPLE TIMES ANY NUMBER from 0 on -/
namespace L2
open PySem PySem.Spec PyProof.Rows
section
variable {X : Cx}
def rRepN : R2 := fun x y H Q => ∃ a k xs, x = .ref a ∧ y = .int k ∧ H a = some (.tup xs) ∧ 0 ≤ k ∧ k < 1000 ∧ xs.length * k.toNat ≤ sizeLine ∧ ∀ p H', Same H H' → H' p = some (.tup (List.replicate k.toNat xs).flatten) → Q (.ref p) H'
theorem repN_ref {a : Addr} {k : Int} {H : Hp} {Q : VK} : rRepN (.ref a) (.int k) H Q ↔ ∃ xs, H a = some (.tup xs) ∧ 0 ≤ k ∧ k < 1000 ∧ xs.length * k.toNat ≤ sizeLine ∧ ∀ p H', Same H H' → H' p = some (.tup (List.replicate k.toNat xs).flatten) → Q (.ref p) H' := by
  constructor
  · rintro ⟨a', k', xs, h1, h2, h⟩; cases h1; cases h2; exact ⟨xs, h⟩
  · rintro ⟨xs, h⟩; exact ⟨a, k, xs, rfl, rfl, h⟩
end
end L2
/-! list(range(n)), and the smaller one of two numbers -/
namespace L2
open PySem PySem.Spec PyProof.Rows
section
variable {X : Cx}
/-- the ints from lo on -/
def intsV (lo : Int) (n : Nat) : List V := (List.range n).map fun k => .int (lo + (k : Nat))
def tLR (ta : TA) : TE := fun σ H Q => ta σ H fun vs H1 => ∃ j : Int, vs = [.int j] ∧ 0 ≤ j ∧ j ≤ 1000000 ∧ ∀ p, H1 p = none → Q (.ref p) (upd H1 p (.lst (intsV 0 j.toNat)))
end
theorem rd_LR {ta : TA} {σ : St} {H : Hp} {Q : VK} : tLR ta σ H Q ↔ ta σ H fun vs H1 => ∃ j : Int, vs = [.int j] ∧ 0 ≤ j ∧ j ≤ 1000000 ∧ ∀ p, H1 p = none → Q (.ref p) (upd H1 p (.lst (intsV 0 j.toNat))) := Iff.rfl
end L2
/-! A COMPREHENSION over a tuple with a test: the items themselves are kept or left out, as is known one by one -/
namespace L2
open PySem
section
variable {p : Addr} {fv : St} {tt : TT} {te : TE} {Q : VK} {H1 : Hp} {K : PySem.W.Frag}
end
end L2
/-! COMPREHENSIONS of one for whose target is a tuple of two names -/
namespace L2
open PySem PySem.Spec PyProof.Rows
section
variable {X : Cx} {pins : List (Addr × Obj)} {σ : St} {H1 : Hp} {s3 : Shared} {x x2 : Str} {fx : List Str} {fr : List Nat} {scope : Scope} {cl : List (Str × Addr)} {fp : List Addr}
theorem comp_ok2 (I : Inv X pins σ H1 s3) (hkind : scope.kind = .function) (hcl : ∀ y c, cl.lookup y = some c → X.env.cells.lookup y = some c)
    (F : Frees X (relabel scope X.env) cl fx fr) (hfx : ((relabel scope X.env).names.all fun p => if (p.2 == .cell || p.2 == .free) then fx.contains p.1 else true) = true)
    (ffp : ∀ b ∈ fp, FpOk X pins H1 b) (flt : ∀ b ∈ fp, b < s3.heap.objs.size) : (compCx X (x :: x2 :: fx) scope cl s3 H1 fp).Ok where
  mod := I.ok.mod
  kind := hkind
  glob := I.ok.glob
  blt := I.ok.blt
  above := Nat.le_refl _
  inj := fun y z c h1 h2 => I.ok.inj y z c (hcl y c h1) (hcl z c h2)
  has := fun y h => by
    have h : (relabel scope X.env).names.lookup y = some .cell ∨ (relabel scope X.env).names.lookup y = some .free := h
    have key : y ∈ fx := by
      rcases h with h | h
      · have q := List.all_eq_true.mp hfx _ (PySem.mem_of_lookup h)
        simpa using q
      · have q := List.all_eq_true.mp hfx _ (PySem.mem_of_lookup h)
        simpa using q
    obtain ⟨k1, k2⟩ := F.mem y key
    obtain ⟨c, e⟩ := I.ok.has y (.inl k1)
    exact ⟨c, k2.trans e⟩
  cab := fun y c h => by cases (show false = true from h)
  hd := I.ok.hd
  frames := I.ok.frames
  stk := .inl rfl
  exf := fun b hb => ⟨Nat.ne_of_lt (flt b hb), fun y c e => (ffp b hb).2.2.2.2.1 y c (hcl y c e)⟩
  bs := I.bs
  bsz := Nat.le_trans I.ok.bsz I.sz
  noex := fun b o e hb => by
    rcases (ffp b hb).2.2.2.1 with z | z
    · exact I.ok.noex b o e z
    · exact absurd (Nat.lt_of_lt_of_le (Heap.lt_size (I.ok.bs b o e).1) z) (Nat.lt_irrefl _)
  exfs := fun b hb z => by
    rcases List.mem_cons.mp (I.stkSub b z) with q | q
    · exact (ffp b hb).2.1 q
    · exact (ffp b hb).2.2.1 q
  funs := I.stack
  frf := I.stkFree
theorem comp_start2 (I : Inv X pins σ H1 s3) (hkind : scope.kind = .function) (hcl : ∀ y c, cl.lookup y = some c → X.env.cells.lookup y = some c)
    (F : Frees X (relabel scope X.env) cl fx fr) (hfx : ((relabel scope X.env).names.all fun p => if (p.2 == .cell || p.2 == .free) then fx.contains p.1 else true) = true)
    (ffp : ∀ b ∈ fp, FpOk X pins H1 b) (flt : ∀ b ∈ fp, b < s3.heap.objs.size) {h1 : Heap} {t : Nat} {m : Str → Option Value} (hn : h1.Ns s3.heap.objs.size m)
    (keep : ∀ b u, s3.heap.get? b = some u → h1.get? b = some u) : Inv (compCx X (x :: x2 :: fx) scope cl s3 H1 fp) [] (none :: none :: frV σ fr) H1 { s3 with heap := h1, toks := t } := by
  refine ⟨comp_ok2 I hkind hcl F hfx ffp flt, rfl, I.bare, Un.kept keep, ⟨m, hn, fun i y v e1 e2 e3 => ?_⟩, fun y c e => ?_, I.hok.fresh (Nat.le_refl _), fun y c e => I.freeC y c (hcl y c e), fun p hp => absurd (show p ∈ ([] : List (Addr × Obj)) from hp) (by simp), I.hok.kept keep, ?_⟩
  · cases i with
    | zero => simp at e2
    | succ j =>
     cases j with
     | zero => simp at e2
     | succ j =>
      obtain ⟨i0, k1, k2, k3, k4, k5⟩ := F.at (σ := σ) j y v (by simpa [compCx] using e1) (by simpa using e2)
      obtain ⟨m0, hn0, hl0⟩ := I.loc
      obtain ⟨u, r, l⟩ := hl0 i0 y v k1 k2 (.inr (.inl k3))
      refine ⟨u, r, ?_⟩
      rcases l with ⟨z, _⟩ | ⟨_, c, e, o, ho, hd⟩
      · rw [k3] at z; cases z
      · exact .inr ⟨.inl k4, c, k5.trans e, o, keep c o ho, hd⟩
  · obtain ⟨v, o, ho, hd⟩ := I.cell y c (hcl y c e)
    exact ⟨v, o, keep c o ho, hd⟩
  · show (none :: none :: frV σ fr).length = (x :: x2 :: fx).length
    simp [frV, F.len]
end
/-- the walk: each item is a tuple of two -/
def CompI2 (K : PySem.W.Frag) (J : It) (p : Addr) (fv : St) (tt : TT) (te : TE) (Q : VK) (H1 : Hp) : Prop :=
  ∃ W : Nat → Nat → List V → Hp → Prop, (∃ m, W 0 m [] (upd H1 p (.lst []))) ∧ ∀ i m ys H2, W i m ys H2 → H2 p = some (.lst ys) ∧
    ((J.stop i H2 ∧ Q (.ref p) H2) ∨ (J.go i H2 ∧ ys.length < sizeLine ∧ ∀ z H3, J.yld i H2 z H3 → ∃ a x y, z = .ref a ∧ SqT K H3 a [x, y] ∧ tt (some x :: some y :: fv) H3 fun b H4 =>
      if b = true then te (some x :: some y :: fv) H4 fun y H5 => H5 p = some (.lst ys) ∧ ∃ m', m' < m ∧ W (i + 1) m' (ys ++ [y]) (upd H5 p (.lst (ys ++ [y])))
      else ∃ m', m' < m ∧ W (i + 1) m' ys H4))
def tComp2 (K : PySem.W.Frag) (wi : TI) (fr : List Nat) (tt : TT) (te : TE) : TE := fun σ H Q => wi σ H fun J H1 => ∀ p, H1 p = none → CompI2 K J p (frV σ fr) tt te Q H1
section
variable {X : Cx} {elt iter : Expr} {x x2 : Str} {px px2 ptx pos : Pos} {kx : Nat} {ifs : List Expr} {scope : Scope} {cl : List (Str × Addr)} {fx : List Str} {fr : List Nat} {wi : TI} {tt : TT} {te : TE}
theorem comp_block2 {pins : List (Addr × Obj)} {σ : St} {H3 : Hp} {s3 : Shared} {it p : Addr} {fp : List Addr} {tn : Nat → Heap → Prop} {J : It} {Q : VK} {W : Nat → Nat → List V → Hp → Prop} {m0 t : Nat} {h₁ : Heap} {m : Str → Option Value} {RR : Result → Shared → Prop}
    (hc : X.calm = true) (hkind : scope.kind = .function) (hx : scope.names.lookup x = some .local) (hx2 : scope.names.lookup x2 = some .local) (hnd : (x :: x2 :: fx).Nodup)
    (hcl : ∀ y c, cl.lookup y = some c → X.env.cells.lookup y = some c) (F : Frees X (relabel scope X.env) cl fx fr)
    (hfx : ((relabel scope X.env).names.all fun p => if (p.2 == .cell || p.2 == .free) then fx.contains p.1 else true) = true)
    (ht : ∀ s H fp, PF (compCx X (x :: x2 :: fx) scope cl s H fp) ifs tt) (he : ∀ s H fp, PE (compCx X (x :: x2 :: fx) scope cl s H fp) elt te)
    (I3 : Inv X pins σ H3 s3) (T : Turn X.prog X.w X.K (.Tuple [.Name x px, .Name x2 px2] kx ptx) J fp it tn) (st3 : tn 0 s3.heap) (ffp : ∀ b ∈ fp, FpOk X pins H3 b) (flt3 : ∀ b ∈ fp, b < s3.heap.objs.size)
    (w0 : W 0 m0 [] H3) (turn : ∀ i m ys H2, W i m ys H2 → H2 p = some (.lst ys) ∧
      ((J.stop i H2 ∧ Q (.ref p) H2) ∨ (J.go i H2 ∧ ys.length < sizeLine ∧ ∀ z H3, J.yld i H2 z H3 → ∃ a x y, z = .ref a ∧ SqT X.K H3 a [x, y] ∧ tt (some x :: some y :: frV σ fr) H3 fun b H4 =>
        if b = true then te (some x :: some y :: frV σ fr) H4 fun y H5 => H5 p = some (.lst ys) ∧ ∃ m', m' < m ∧ W (i + 1) m' (ys ++ [y]) (upd H5 p (.lst (ys ++ [y])))
        else ∃ m', m' < m ∧ W (i + 1) m' ys H4)))
    (hns : h₁.Ns s3.heap.objs.size m) (keep1 : ∀ b u, s3.heap.get? b = some u → h₁.get? b = some u)
    (fin : ∀ s6 H5 o o2, Inv (compCx X (x :: x2 :: fx) scope cl s3 H3 fp) [] (o :: o2 :: frV σ fr) H5 s6 → Q (.ref p) H5 → RR (.ok .next) s6) :
    codeAny (model X.prog X.w) X.A (.compStart (.ListComp elt [⟨.Tuple [.Name x px, .Name x2 px2] kx ptx, iter, ifs, 0⟩] scope pos) 0 (.ref it) (.ref p) (compEnvC scope cl s3.heap.objs.size X.env))
      RR { s3 with heap := h₁, toks := t } := by
  have I4 := comp_start2 (x := x) (x2 := x2) (t := t) I3 hkind hcl F hfx ffp flt3 hns keep1
  have st4 : tn 0 h₁ := T.keep _ _ _ st3 fun b hb o e => keep1 b o e
  have fp0 : ∀ b ∈ fp, H3 b = none := fun b hb => (ffp b hb).1
  have hcal : (compCx X (x :: x2 :: fx) scope cl s3 H3 fp).calm = true := hc
  have stat : ∀ {H' : Hp}, (∀ b ∈ fp, H' b = none) → ∀ b ∈ fp, FpOk (compCx X (x :: x2 :: fx) scope cl s3 H3 fp) [] H' b := fun {H'} hn b hb => by
    obtain ⟨f0, f1, f2, f3, f4, f5⟩ := ffp b hb
    exact ⟨hn b hb, Nat.ne_of_lt (flt3 b hb), I4.ok.exfs b hb, .inl hb, fun y c e => f4 y c (hcl y c e), fun q hq => absurd (show q ∈ ([] : List (Addr × Obj)) from hq) (by simp)⟩
  have hxl : (relabel scope X.env).names.lookup x = some .local := lookup_relabel_local hx
  have hxl2 : (relabel scope X.env).names.lookup x2 = some .local := lookup_relabel_local hx2
  have pg : PG (compCx X (x :: x2 :: fx) scope cl s3 H3 fp) (.Tuple [.Name x px, .Name x2 px2] kx ptx) (gTup X.K 2 (gCons (gName 0) (gCons (gName 1) gNil))) := pg_tup hcal (pgs_cons (pg_name (i := 0) hnd rfl (.inl hxl) (.inr hxl)) (pgs_cons (pg_name (i := 1) hnd rfl (.inl hxl2) (.inr hxl2)) pgs_nil))
  have loop : codeAny (model X.prog X.w) X.A (.compLoop (.ListComp elt [⟨.Tuple [.Name x px, .Name x2 px2] kx ptx, iter, ifs, 0⟩] scope pos) 0 (.ref it) (.ref p) (compEnvC scope cl s3.heap.objs.size X.env))
        RR { s3 with heap := h₁, toks := t } := by
    refine compLoop_any (fun n s' => ∃ i ys H' o o2, Inv (compCx X (x :: x2 :: fx) scope cl s3 H3 fp) [] (o :: o2 :: frV σ fr) H' s' ∧ tn i s'.heap ∧ (∀ b ∈ fp, H' b = none) ∧ W i n ys H') ?_ m0 ⟨0, [], _, none, none, I4, st4, fp0, w0⟩
    rintro n s5 ⟨i, ys, H5, o, o2, I5, st5, fr5, w5⟩
    obtain ⟨hp5, alt⟩ := turn i n ys H5 w5
    rcases alt with ⟨stop, qn⟩ | ⟨go, hlen, step⟩
    · refine thn (T.done (compCx X (x :: x2 :: fx) scope cl s3 H3 fp) rfl rfl rfl hcal i [] s5 (o :: o2 :: frV σ fr) H5 _ I5 (stat fr5) st5 stop) fun r s6 ⟨hr, I6⟩ => ?_
      subst hr
      exact fin s6 H5 o o2 I6 qn
    · refine thn (T.item (compCx X (x :: x2 :: fx) scope cl s3 H3 fp) rfl rfl rfl hcal i [] s5 (o :: o2 :: frV σ fr) H5 _ I5 (stat fr5) st5 go) fun r s6 ⟨u, hr, h6⟩ => ?_
      subst hr
      refine thn h6 fun _ s7 ⟨y7, H7, I7, r7, yl7, st7, fr7⟩ => ?_
      have I7' := I7.pinned (stat fr7) (T.obj _ _ st7)
      have back : ∀ {σ' : St} {H' : Hp} {s' : Shared}, Inv (compCx X (x :: x2 :: fx) scope cl s3 H3 fp) ([] ++ pinsAt fp s7.heap) σ' H' s' → tn (i + 1) s'.heap ∧ ∀ b ∈ fp, H' b = none := fun {σ' H' s'} I' => by
        refine ⟨T.keep _ _ _ st7 fun b hb o e => (I'.pin (b, o) (List.mem_append_right _ (List.mem_append_right _ (mem_pinsAt hb e)))).1, fun b hb => ?_⟩
        obtain ⟨o, e, d⟩ := T.obj _ _ st7 b hb
        exact (I'.pin (b, o) (List.mem_append_right _ (List.mem_append_right _ (mem_pinsAt hb e)))).2.1
      obtain ⟨a7, z1, z2, e7, q7, step7⟩ := step y7 _ yl7
      subst e7
      refine thn (pg _ s7 _ H7 (.ref a7) u (fun σ' H' => σ' = some z1 :: some z2 :: frV σ fr ∧ H' = H7) I7' r7 ⟨a7, [z1, z2], rfl, q7, rfl, z1, [z2], rfl, z2, [], rfl, rfl, rfl, rfl⟩) fun _ s8 ⟨σ8, H8, I8, e8, e8'⟩ => ?_
      subst e8 e8'
      refine thn (ht s3 H3 fp _ s8 _ _ _ I8 step7) fun b s9 ⟨H9, I9, q9⟩ => ?_
      cases b with
      | false =>
        rw [if_neg Bool.false_ne_true] at q9 ⊢
        obtain ⟨m', hm, w9⟩ := q9
        exact ⟨m', hm, i + 1, ys, H9, some z1, some z2, I9.unpinned, (back I9).1, (back I9).2, w9⟩
      | true =>
        rw [if_pos rfl] at q9 ⊢
        refine thn (he s3 H3 fp _ s9 _ H9 _ I9 q9) fun u10 s10 ⟨y10, H10, I10, r10, hp10, m', hm, w10⟩ => ?_
        refine thn (mt_append _ s10 _ H10 (.ref p) [y10] (.ref p) [u10] (fun _ H' => H' = upd H10 p (.lst (ys ++ [y10]))) I10 rfl (.cons r10 .nil) ⟨p, ys, y10, rfl, rfl, hp10, hlen, rfl⟩) fun _ s11 ⟨_, H11, I11, _, e11⟩ => ?_
        subst e11
        exact ⟨m', hm, i + 1, ys ++ [y10], _, some z1, some z2, I11.unpinned, (back I11).1, (back I11).2, w10⟩
  exact codeAny_compStart_list loop (T.self _ 0 _ _ _ st4 loop)
theorem pe_comp2 (hc : X.calm = true) (hclos : closureFor scope X.env = pure cl) (hcell : ∀ y ∈ scope.names, y.2 ≠ .cell) (hkind : scope.kind = .function)
    (hnames : ∀ y ∈ scope.names, y.2 = .local → scope.names.lookup y.1 = some .local) (hx : scope.names.lookup x = some .local) (hx2 : scope.names.lookup x2 = some .local) (hnd : (x :: x2 :: fx).Nodup)
    (hk : (cl.all fun q => fx.contains q.1) = true) (F : Frees X (relabel scope X.env) cl fx fr)
    (hfx : ((relabel scope X.env).names.all fun p => if (p.2 == .cell || p.2 == .free) then fx.contains p.1 else true) = true)
    (hi : PI X (.Tuple [.Name x px, .Name x2 px2] kx ptx) iter wi) (ht : ∀ s H fp, PF (compCx X (x :: x2 :: fx) scope cl s H fp) ifs tt) (he : ∀ s H fp, PE (compCx X (x :: x2 :: fx) scope cl s H fp) elt te)
    (hs : ∀ x, foldedSetIterable iter X.env x = pure x := by intro _; rfl) :
    PE X (.ListComp elt [⟨.Tuple [.Name x px, .Name x2 px2] kx ptx, iter, ifs, 0⟩] scope pos) (tComp2 X.K wi fr tt te) := by
  intro pins s σ H Q I h
  have hcl : ∀ y c, cl.lookup y = some c → X.env.cells.lookup y = some c := fun y c e => by
    have q := List.all_eq_true.mp hk _ (PySem.mem_of_lookup e)
    rw [← (F.mem y (by simpa using q)).2]
    exact e
  rw [eval_ListComp]
  refine wpAny_comprehension_free (use := none) rfl hs hclos hkind hnames ?_
  refine thn (hi pins s σ H _ I h) fun v s1 h1 => thn h1 fun itv s2 h2 => ?_
  obtain ⟨it, fp, tn, J, H2, e, I2, T, st2, f2, q2⟩ := h2
  subst e
  have hp0 : H2 s2.heap.objs.size = none := I2.hok.fresh (Nat.le_refl _)
  obtain ⟨W, ⟨m0, w0⟩, turn⟩ := q2 _ hp0
  have flt : ∀ b ∈ fp, b < s2.heap.objs.size := fun b hb => by
    obtain ⟨o, e, _⟩ := T.obj _ _ st2 b hb
    exact Heap.lt_size e
  refine wpAny_newObj_type (wpAny_newFunctionEnv hcell (by intro y hy; simp at hy) (fun h₁ hns₁ hsb₁ => ?_) hkind)
  dsimp only at hns₁ hsb₁ ⊢
  have hlay : ∀ b u, s2.heap.get? b = some u → (s2.heap.push { cls := .type "list", dict := none, data := .seq ([] : List Value).toArray }).get? b = some u := fun b u e => Heap.get?_push_of_some _ e
  have hnew : (s2.heap.push { cls := .type "list", dict := none, data := .seq ([] : List Value).toArray }).get? s2.heap.objs.size = some { cls := .type "list", dict := none, data := .seq ([] : List Value).toArray } := Heap.get?_push_size _ rfl
  have hsz : (s2.heap.push { cls := .type "list", dict := none, data := .seq ([] : List Value).toArray }).objs.size = s2.heap.objs.size + 1 := Heap.size_push _ _
  generalize hHH : s2.heap.push { cls := .type "list", dict := none, data := .seq ([] : List Value).toArray } = HH at hns₁ hsb₁ hlay hnew hsz ⊢
  have I3 : Inv X pins σ (upd H2 s2.heap.objs.size (.lst [])) { s2 with heap := HH, toks := s2.toks } :=
    I2.laid (t' := s2.toks) (o := .lst []) hlay (Nat.le_refl _) ⟨Nat.zero_le _, [], 0, .nil, hnew⟩
  have ffp : ∀ b ∈ fp, FpOk X pins (upd H2 s2.heap.objs.size (.lst [])) b := fun b hb => by
    obtain ⟨f0, fr'⟩ := f2 b hb
    exact ⟨by rw [upd_ne (Nat.ne_of_lt (flt b hb))]; exact f0, fr'⟩
  have keep1 : ∀ b u, HH.get? b = some u → h₁.get? b = some u := fun b u e => hsb₁.extBut b u (Nat.ne_of_lt (Heap.lt_size e)) (Heap.get?_push_of_some _ e)
  exact comp_block2 (s3 := { s2 with heap := HH, toks := s2.toks }) hc hkind hx hx2 hnd hcl F hfx ht he I3 T (T.keep _ _ _ st2 fun b hb o e => hlay b o e) ffp (fun b hb => by show b < HH.objs.size; rw [hsz]; exact Nat.lt_succ_of_lt (flt b hb)) w0 turn hns₁ keep1 fun s6 H5 o o2 I6 qn => by
    obtain ⟨m, hn6, _⟩ := id I6.loc
    exact ⟨m, hn6, fun h' sb => ⟨.ref _, H5, comp_done I3 I6 ffp sb, rfl, qn⟩⟩
theorem pe_comp2K {K : PySem.W.Frag} (h : X.K = K) (hc : X.calm = true) (hclos : closureFor scope X.env = pure cl) (hcell : ∀ y ∈ scope.names, y.2 ≠ .cell) (hkind : scope.kind = .function)
    (hnames : ∀ y ∈ scope.names, y.2 = .local → scope.names.lookup y.1 = some .local) (hx : scope.names.lookup x = some .local) (hx2 : scope.names.lookup x2 = some .local) (hnd : (x :: x2 :: fx).Nodup)
    (hk : (cl.all fun q => fx.contains q.1) = true) (F : Frees X (relabel scope X.env) cl fx fr)
    (hfx : ((relabel scope X.env).names.all fun p => if (p.2 == .cell || p.2 == .free) then fx.contains p.1 else true) = true)
    (hi : PI X (.Tuple [.Name x px, .Name x2 px2] kx ptx) iter wi) (ht : ∀ s H fp, PF (compCx X (x :: x2 :: fx) scope cl s H fp) ifs tt) (he : ∀ s H fp, PE (compCx X (x :: x2 :: fx) scope cl s H fp) elt te)
    (hs : ∀ x, foldedSetIterable iter X.env x = pure x := by intro _; rfl) :
    PE X (.ListComp elt [⟨.Tuple [.Name x px, .Name x2 px2] kx ptx, iter, ifs, 0⟩] scope pos) (tComp2 K wi fr tt te) := by
  subst h; exact pe_comp2 hc hclos hcell hkind hnames hx hx2 hnd hk F hfx hi ht he hs
end
section
variable {p : Addr} {fv : St} {te : TE} {Q : VK} {H1 : Hp} {K : PySem.W.Frag}
/-- over a tuple of tuples of two, no test: what comes of each is known one by one -/
theorem comp_tup2 {a : Addr} {xs zs : List V} {f : Nat → V × V} (hxs : SqT K H1 a xs) (hlen : xs.length ≤ sizeLine) (hp : H1 p = none) (hz : zs.length = xs.length)
    (hit : ∀ (i : Nat) (x : V) (H' : Hp), xs[i]? = some x → Same H1 H' → ∃ b, x = .ref b ∧ SqT K H' b [(f i).1, (f i).2])
    (he : ∀ (i : Nat) (z : V), i < xs.length → zs[i]? = some z → ∀ (H' : Hp) (T : VK), Same H1 H' → (∀ H'', Same H' H'' → T z H'') → te (some (f i).1 :: some (f i).2 :: fv) H' T)
    (hQ : ∀ H', Same H1 H' → H' p = some (.lst zs) → Q (.ref p) H') : CompI2 K (Itt K a) p fv tYes te Q H1 := by
  refine ⟨fun i m ys H2 => m = xs.length - i ∧ i ≤ xs.length ∧ ys = zs.take i ∧ H2 p = some (.lst ys) ∧ Same H1 H2, ⟨xs.length, by simp, Nat.zero_le _, by simp, upd_same, fun b o e => by rw [upd_ne (ne_of_none e hp)]; exact e⟩, ?_⟩
  rintro i m ys H2 ⟨rfl, hi, rfl, hp2, sm⟩
  refine ⟨hp2, ?_⟩
  have q := sm.tup hxs
  by_cases hlt : i < xs.length
  · refine .inr ⟨⟨xs, xs[i], q, by simp [hlt]⟩, ?_, fun x H3 y => ?_⟩
    · rw [List.length_take]; omega
    · obtain ⟨rfl, y⟩ := y
      have hc := y xs q
      obtain ⟨b, rfl, hb⟩ := hit i x H3 hc sm
      refine ⟨b, _, _, rfl, hb, ?_⟩
      unfold tYes
      dsimp only
      rw [if_pos rfl]
      have hzi : zs[i]? = some zs[i] := by simp [hz, hlt]
      refine he i _ hlt hzi _ _ sm fun H5 s5 => ⟨s5 _ _ hp2, xs.length - (i + 1), by omega, rfl, hlt, ?_, upd_same, fun b o e => ?_⟩
      · rw [List.take_add_one, hzi]; rfl
      · rw [upd_ne (ne_of_none e hp)]; exact s5 _ _ (sm _ _ e)
  · have e : i = xs.length := by omega
    subst e
    refine .inl ⟨⟨xs, q, Nat.le_refl _⟩, hQ H2 sm ?_⟩
    rw [hp2, ← hz, List.take_length]
theorem rd_comp2T {tl : TE} {tt : TT} {fr : List Nat} {σ : St} {H : Hp} : tComp2 K (iTup K tl) fr tt te σ H Q ↔ tl σ H fun x H1 => ∃ a, x = .ref a ∧ (∃ xs, SqT K H1 a xs) ∧ ∀ p, H1 p = none → CompI2 K (Itt K a) p (frV σ fr) tt te Q H1 := Iff.rfl
end
end L2
/-! A TEXT'S find -/
namespace L2
open PySem PySem.Spec PyProof.Rows
section
variable {X : Cx}
def rFind : V → List V → Hp → VK → Prop := fun x vs H Q => match x, vs with
  | .str z, [.str y] => Q (.int (Txt.find z y)) H
  | _, _ => False
theorem fi_find {z y : Str} {H : Hp} {Q : VK} : rFind (.str z) [.str y] H Q ↔ Q (.int (Txt.find z y)) H := Iff.rfl
end
end L2
namespace Wm
open PySem L2
theorem isSg_128 {c : Nat} (h : isSg c = true) : c < 128 := by have := isSg_lt h; omega
end Wm
namespace Wm
open PySem L2
end Wm
namespace Wm
open PySem L2
end Wm
namespace Wm
end Wm
namespace L2
open PySem
theorem pa_ref {l : Addr} {H : Hp} {Q : VK} {i : Int} : rPopAt (.ref l) [.int i] H Q ↔ ∃ xs k y, H l = some (.lst xs) ∧ -(2 ^ 63) ≤ i ∧ i < 2 ^ 63 ∧ seqIndex? i xs.length = some k ∧ xs[k]? = some y ∧ Q y (upd H l (.lst (xs.eraseIdx k))) :=
  ⟨fun ⟨_, xs, _, k, y, h1, h2, h⟩ => by cases h1; cases h2; exact ⟨xs, k, y, h⟩, fun ⟨xs, k, y, h⟩ => ⟨_, xs, _, k, y, rfl, rfl, h⟩⟩
end L2
/-! EXCEPTIONS of own classes: raised without arguments, leaving a def, caught around one call -/
namespace L2
open PySem PySem.Spec PySem.W PyProof.Rows
/-! ### raise C() -/
def tRaise (E : XK) (C : Addr) : TS := fun _ _ H => E (.ref C) none H
theorem rd_raise {E : XK} {C : Addr} {D : Ends} {σ : St} {H : Hp} : tRaise E C D σ H ↔ E (.ref C) none H := Iff.rfl
/-! ### an exception that leaves a def -/
theorem ObjOk.ex {P : Program} {w : World} {H : Hp} {h : Heap} {a : Addr} {o : HO} (x : ObjOk P w H h a o) : ∃ u, h.get? a = some u := by
  cases o with
  | lst xs => obtain ⟨_, _, _, _, e⟩ := x; exact ⟨_, e⟩
  | tup xs => obtain ⟨_, _, _, _, e, _⟩ := x; exact ⟨_, e⟩
  | dK kvs => obtain ⟨_, _, _, _, _, _, _, e, _⟩ := x; exact ⟨_, e⟩
  | dT kvs => obtain ⟨_, _, _, _, _, _, _, e, _⟩ := x; exact ⟨_, e⟩
  | set S n => obtain ⟨_, _, _, _, e, _⟩ := x; exact ⟨_, e⟩
  | ins C dx fs => obtain ⟨_, _, _, e, _⟩ := x; exact ⟨_, e⟩
  | own y => exact x
  | xd fs => obtain ⟨_, ⟨_, _, _, e, _⟩, _⟩ := x; exact ⟨_, e⟩
  | rng lo hi => obtain ⟨_, _, _, e⟩ := x; exact ⟨_, e⟩
  | frz ob u => exact ⟨_, x.1⟩
  | tbl ps => exact ⟨_, x⟩
  | met f y => exact ⟨_, x⟩
  | ext φ => exact x.2.1
/-- how it lies behind a call: in the heap s', with the abstract heap H'; B is all but the frames and the exception's own records -/
structure Flown (P : Program) (w : World) (base : Heap) (outer : List Env) (H : Hp) (s : Shared) (a t C : Addr) (B : Heap) (H' : Hp) (s' : Shared) : Prop where
  os : s'.os = s.os
  bare : AllBare s'.gens
  st : base.StaysIn B
  fly : Heap.FlyingW B outer a (.ref C) (.ref t) s'.heap
  hok : HOk P w H' B
  un : Un (frs outer) [] H H' s.heap s'.heap
  kb : ∀ b o, s.heap.get? b = some o → H b = none → b ∉ frs outer → B.get? b = some o
  thB : ∀ b o, s.heap.get? b = some o → b ∉ frs outer → ∃ o', B.get? b = some o'
section
variable {P : Program} {w : World} {K : Frag} {mg : Str → Option Value} {base : Heap} {N : List Str} {qual : Str} {scope : Scope} {f : Addr} {cd : Value} {A : Around} {outer : List Env} {s : Shared} {H : Hp} {E : XK}
end
end L2
namespace L2
open PySem PySem.Spec PySem.W PyProof.Rows
/-! ### try: f(..), except W as n -/
/-- what is kept of an exception that was caught: its class -/
def exO (a C : Addr) : HO := .ext fun h => ∃ o, h.get? a = some o ∧ o.cls = .ref C
abbrev Cx.handling (X : Cx) (e : Value) : Cx := { X with A := X.A.mark (some e), calm := false, xe := fun _ _ => False }
section
variable {X : Cx} {pins : List (Addr × Obj)} {σ : St} {H H1 H2 : Hp} {s s1 s2 : Shared}
theorem Inv.handling (e : Value) (I : Inv X pins σ H s) : Inv (X.handling e) pins σ H s :=
  ⟨⟨I.ok.mod, I.ok.kind, I.ok.glob, I.ok.blt, I.ok.above, I.ok.inj, I.ok.has, I.ok.cab, (fun z => by cases z), I.ok.frames, I.ok.stk, I.ok.exf, I.ok.bs, I.ok.bsz, I.ok.noex, I.ok.exfs, I.ok.funs, I.ok.frf⟩, I.os, I.bare, I.base, I.loc, I.cell, I.free, I.freeC, I.pin, I.hok, I.len⟩
theorem Inv.handled {e : Value} (J : X.Ok) (I : Inv (X.handling e) pins σ H s) : Inv X pins σ H s := ⟨J, I.os, I.bare, I.base, I.loc, I.cell, I.free, I.freeC, I.pin, I.hok, I.len⟩
theorem Flown.new {P : Program} {w : World} {base B h5 : Heap} {outer : List Env} {a t C : Addr} {a0 : Value} (W : Flown P w base outer H1 s1 a t C B H2 s2) : H2 a = none := by
  cases q : H2 a with
  | none => rfl
  | some u =>
    obtain ⟨o, z⟩ := (W.hok a u q).ex
    rw [W.fly.2.1] at z
    cases z
theorem Inv.caught {a t C : Addr} {B h5 : Heap} {a0 : Value} (I : Inv X pins σ H1 s1) (W : Flown X.prog X.w X.base X.stack H1 s1 a t C B H2 s2) (f5 : Heap.FlyingW B X.stack a (.ref C) a0 h5) (sm : s2.heap.UpToSlots h5) :
    Inv X pins σ (upd H2 a (exO a C)) { s2 with heap := h5 } := by
  have hn : H2 a = none := W.new (h5 := h5) (a0 := a0)
  obtain ⟨oe, vs, T, oT, ts, he, _, hd, _⟩ := W.fly.2.2.2
  have fr : ∀ b ∈ frs X.stack, ∀ o, s2.heap.get? b = some o → b ≠ a ∧ ∃ sl, h5.get? b = some { o with slots := sl } := fun b hb o q => by
    obtain ⟨_, o2, q2, nd⟩ := W.fly.2.2.1.mem hb
    rw [q] at q2
    cases q2
    refine ⟨fun z => ?_, sm b o q nd⟩
    rw [z, he] at q
    cases q
    exact nd _ hd
  have na : ∀ b o, s1.heap.get? b = some o → b ≠ a := fun b o q => by
    by_cases hb : b ∈ frs X.stack
    · obtain ⟨o', z⟩ := W.un.there b o q (by simp)
      exact (fr b hb o' z).1
    · obtain ⟨o', z⟩ := W.thB b o q hb
      rintro rfl
      rw [W.fly.2.1] at z
      cases z
  refine I.call' (H' := upd H2 a (exO a C)) (s' := { s2 with heap := h5 }) (ch := []) W.os ⟨fun b o q n nf _ => f5.1 b o (W.kb b o q n nf), fun b o q n hb _ => ?_, fun b o q n _ => ?_, fun b o q _ => ?_, fun b xs q => ?_, fun b o u q => ?_, fun b ps q => ?_⟩ (fun b u q => ?_) W.bare (fun b z => by cases z)
  · obtain ⟨sl, z⟩ := W.un.slot b o q n hb (by simp)
    obtain ⟨_, sl', z'⟩ := fr b hb _ z
    exact ⟨sl', z'⟩
  · rw [upd_ne (na b o q)]
    exact W.un.free b o q n (by simp)
  · by_cases hb : b ∈ frs X.stack
    · obtain ⟨o', z⟩ := W.un.there b o q (by simp)
      obtain ⟨_, sl', z'⟩ := fr b hb _ z
      exact ⟨_, z'⟩
    · obtain ⟨o', z⟩ := W.thB b o q hb
      exact ⟨o', f5.1 b o' z⟩
  · have z := W.un.tups b xs q
    rw [upd_ne (ne_of_none z hn)]
    exact z
  · have z := W.un.frzs b o u q
    rw [upd_ne (ne_of_none z hn)]
    exact z
  · obtain ⟨m, z⟩ := W.un.tbls b ps q
    exact ⟨m, by rw [upd_ne (ne_of_none z hn)]; exact z⟩
  · by_cases hb : b = a
    · subst hb
      rw [upd_same] at q
      cases q
      obtain ⟨ob, hob, hoc⟩ := f5.there
      exact ⟨⟨ob, hob, hoc⟩, ⟨ob, hob⟩, fun h1 h2 ⟨o, z, c⟩ k => ⟨o, k o z, c⟩⟩
    · rw [upd_ne hb] at q
      refine (W.hok b u q).stay (fun c v _ z => f5.1 c v z) (fun c z => ?_) fun c xs z => ?_
      · rw [upd_ne (ne_of_none z hn)]; exact z
      · rw [upd_ne (ne_of_none z hn)]; exact z
/-- the name of a clause goes behind its suite -/
theorem Inv.goes {M : Model} {A : Around} {E : Value → Shared → Prop} {i : Nat} {n : Str} {pos : Pos} {Q : Unit → Shared → Prop} (I : Inv X pins σ H s) (nd : X.N.Nodup) (hi : X.N[i]? = some n) (hl : X.env.scope.names.lookup n = some .local)
    (h : ∀ s', Inv X pins (σ.set i none) H s' → Q () s') : wpAny M A (do bindName X.env n .none; unbindBehindTheSuite X.env n pos) Q E s := by
  obtain ⟨m, hn, hlk⟩ := id I.loc
  have hcls : (X.env.scope.kind == .class || (X.env.scope.kind == .module && X.env.locals != X.env.globals)) = false := by rw [I.ok.kind]; rfl
  have hiσ : i < σ.length := by rw [I.len]; exact (List.getElem?_eq_some_iff.mp hi).1
  refine wpAny_nameGoes_keeps hl hn hcls fun h' v hn' hs => h _ ?_
  have neL : ∀ b o, X.s₀.heap.get? b = some o → b ≠ X.env.locals := fun b o e => Nat.ne_of_lt (Nat.lt_of_lt_of_le (Heap.lt_size e) I.ok.above)
  refine ⟨I.ok, I.os, I.bare, ⟨fun b o e z hb hx => (hs.2 b (neL b o e)).trans (I.base.keep b o e z hb hx), fun b o e z hb hx => ?_, I.base.free, fun b o e hx => ?_, I.base.tups, I.base.frzs, I.base.tbls⟩, ⟨_, hn', fun j y v' e1 e2 e3 => ?_⟩, fun y c e => ?_, I.free, I.freeC, fun p hp => ?_, fun b ob e => ?_, by simpa using I.len⟩
  · obtain ⟨sl, e1⟩ := I.base.slot b o e z hb hx
    exact ⟨sl, (hs.2 b (neL b o e)).trans e1⟩
  · obtain ⟨o', e1⟩ := I.base.there b o e hx
    exact ⟨o', (hs.2 b (neL b o e)).trans e1⟩
  · by_cases hj : j = i
    · subst hj
      rw [List.getElem?_set_self hiσ] at e2
      cases e2
    · rw [List.getElem?_set_ne (Ne.symm hj)] at e2
      obtain ⟨u', r', q⟩ := hlk j y v' e1 e2 e3
      refine ⟨u', r', ?_⟩
      rcases q with ⟨k, e⟩ | ⟨k, c, e, z⟩
      · refine .inl ⟨k, ?_⟩
        have : y ≠ n := fun e => hj (nodup_ix nd e1 (e ▸ hi))
        simp [this, e]
      · exact .inr ⟨k, c, e, z.sameBut hs (I.cne y c e)⟩
  · obtain ⟨w', z⟩ := I.cell y c e
    exact ⟨w', z.sameBut hs (I.cne y c e)⟩
  · obtain ⟨e, n1, ne, nf, d⟩ := I.pin p hp
    exact ⟨(hs.2 p.1 ne).trans e, n1, ne, nf, d⟩
  · refine (I.hok b ob e).stay (fun c w' hc q => (hs.2 c ?_).trans q) (fun _ q => q) fun _ _ q => q
    rintro rfl
    rcases hc with rfl | hc
    · rw [I.free] at e; cases e
    · rw [I.free] at hc; cases hc
end
/-- a class that may be caught, and what stands under it -/
structure Catch (K : Frag) (W : Addr) : Prop where
  ty : typeIn K (.ref W) = some (.type "type")
  ex : subIn K (.ref W) (.type "BaseException") = some true
  cl : (clsIn K W).isSome = true
end L2
namespace L2
open PySem PySem.Spec PySem.W PyProof.Rows
def tTry (K : Frag) (sp : Sp) (t : TA) (W : Addr) (i : Nat) (tb : TS) : TS := fun D σ H => t σ H fun vs H1 => sp vs H1 (fun _ H2 => D.nx σ H2) fun cls _ H2 =>
  ∃ C, cls = .ref C ∧ subIn K (.ref C) (.ref W) = some true ∧ ∀ a, H2 a = none → tb { nx := fun σ' H' => D.nx (σ'.set i none) H', rt := D.rt } (σ.set i (some (.ref a))) (upd H2 a (exO a C))
end L2
namespace L2
open PySem PySem.Spec PySem.W PySem.Calls PyProof.Rows PySem.Builtin PySem.Builtin.ObjectAttr PySem.Builtin.Getset_descriptor
/-! ### isinstance of an exception that was caught -/
/-- how __class__ is found on an exception of the class at C -/
structure ExLook (K : Frag) (C : Addr) : Prop where
  ga : findIn K (.ref C) "__getattribute__" = some (some (.builtin "BaseException.__getattribute__"))
  cl : findIn K (.ref C) "__class__" = some (some (.builtin "object.__class__"))
  na : findIn K (.ref C) "__getattr__" = some none
  mo : mroIn K C (.type "object") = some true
  mb : mroIn K C (.type "BaseException") = some true
  is : (clsIn K C).isSome = true
section
variable {prog : Program} {w : World} {A : Around} {E : Value → Shared → Prop} {hh : Heap} {g : Array GenState} {dr : Drawn} {t : Nat} {os : OsState} {K : Frag} {a C : Addr} {o : Obj}
end
/-- what isinstance says of an exception of the class at C -/
inductive KitAns (K : Frag) (H : Hp) (C : Addr) : V → Bool → Prop
  | cls {W : Addr} {b : Bool} : kitOne K (.ref C) (.ref W) = some b → KitAns K H C (.ref W) b
  | ty {T : String} {b : Bool} : kitOne K (.ref C) (.type T) = some b → KitAns K H C (.ty T) b
  | tup {p : Addr} {cs : List Addr} {b : Bool} : H p = some (.tup (cs.map V.ref)) → kitAny K (.ref C) (cs.map Value.ref) = some b → KitAns K H C (.ref p) b
def rIsE (K : Frag) : List V → Hp → VK → Prop := fun vs H Q => ∃ a c C b, vs = [.ref a, c] ∧ H a = some (exO a C) ∧ ExLook K C ∧ KitAns K H C c b ∧ Q (.bl b) H
end L2
namespace L2
open PySem PySem.W
theorem rd_isE {K : Frag} {a : Addr} {c : V} {H : Hp} {Q : VK} : rIsE K [.ref a, c] H Q ↔ ∃ C b, H a = some (exO a C) ∧ ExLook K C ∧ KitAns K H C c b ∧ Q (.bl b) H :=
  ⟨fun ⟨_, _, C, b, e, h⟩ => by cases e; exact ⟨C, b, h⟩, fun ⟨C, b, h⟩ => ⟨a, c, C, b, rfl, h⟩⟩
theorem rd_try {K : Frag} {sp : Sp} {t : TA} {W : Addr} {i : Nat} {tb : TS} {D : Ends} {σ : St} {H : Hp} : tTry K sp t W i tb D σ H ↔ t σ H fun vs H1 => sp vs H1 (fun _ H2 => D.nx σ H2) fun cls _ H2 =>
  ∃ C, cls = .ref C ∧ subIn K (.ref C) (.ref W) = some true ∧ ∀ a, H2 a = none → tb { nx := fun σ' H' => D.nx (σ'.set i none) H', rt := D.rt } (σ.set i (some (.ref a))) (upd H2 a (exO a C)) := Iff.rfl
end L2
/-! A TEXT'S startswith with a place -/
namespace L2
open PySem PySem.Spec PyProof.Rows
theorem sw3 (x y : Str) (t u : Tok) (i : Nat) (v : Tok) :
    Meets (Builtin.«str.startswith» ⟨[.str x t, .str y u, .int (i : Int) v], []⟩) (fun _ R s => R (.ok (.ret (.bool (decide (i + y.length ≤ x.length) && Builtin.Str.subAt x y i)))) s) :=
  .of_wp fun prog w A R s h => by
    obtain ⟨hp, g, d, tk, os⟩ := s
    unfold Builtin.«str.startswith»
    wp_walk
    rw [F.slot_int_index.lookup]
    wp_walk
    refine ⟨_, rfl, ?_⟩
    have e1 : (max (0 : Int) (if (i : Int) < 0 then (i : Int) + (x.length : Int) else (i : Int))).toNat = i := by
      rw [if_neg (by omega)]; omega
    have e2 : min ((x.length : Nat) : Int).toNat x.length = x.length := by omega
    dsimp only
    rw [e1, e2]
    exact h
section
variable {X : Cx}
def rStarts : V → List V → Hp → VK → Prop := fun x vs H Q => ∃ z y, ∃ i : Nat, x = .str z ∧ vs = [.str y, .int (i : Int)] ∧ Q (.bl (decide (i + y.length ≤ z.length) && Builtin.Str.subAt z y i)) H
theorem mt_starts3 : MtR X "str.startswith" rStarts := by
  intro pins s σ H x vs v us Q I rx rv h
  obtain ⟨z, y, i, rfl, rfl, q⟩ := h
  obtain ⟨t, rfl⟩ := rx
  obtain ⟨u1, u2, rfl, r1, r2⟩ := vals2 rv
  obtain ⟨t1, rfl⟩ := r1
  obtain ⟨t2, rfl⟩ := r2
  exact call_meets F.slot_str_startswith (typeIs_str _ _ _) F.entry_str_startswith (F.args_str_startswith_3 _ _ _) (sw3 z y t t1 i t2) ⟨.bl _, H, I, rfl, q⟩
end
end L2
namespace L2
open PySem PySem.Spec PyProof.Rows
section
variable {X : Cx}
def rPart : V → List V → Hp → VK → Prop := fun x vs H Q => ∃ z y, x = .str z ∧ vs = [.str y] ∧ (y.length == 0) = false ∧ z.length ≤ sizeLine ∧
  ∀ p, H p = none → Q (.ref p) (upd H p (.tup [.str (Txt.partition z y).1, .str (Txt.partition z y).2.1, .str (Txt.partition z y).2.2]))
theorem mt_partition : MtR X "str.partition" rPart := by
  intro pins s σ H x vs v us Q I rx rv h
  obtain ⟨z, y, rfl, rfl, hy, hz, q⟩ := h
  obtain ⟨t, rfl⟩ := rx
  obtain ⟨u, rfl, t', rfl⟩ := vals1 rv
  have hf : H s.heap.objs.size = none := I.hok.fresh (Nat.le_refl _)
  have q := q _ hf
  refine call_meets F.slot_str_partition (typeIs_str _ _ _) F.entry_str_partition (F.args_str_partition_2 _ _) (meets_str_partition z y t t' hy hz) ?_
  unfold Txt.partition at q
  revert q
  cases Builtin.Str.occurrences z y 0 z.length 1 with
  | nil =>
    intro q
    refine ⟨.ref s.heap.objs.size, _, I.laid (t' := s.toks + 1) (o := .tup _) (fun b u e => Heap.get?_push_of_some _ e) (by omega) ?_, rfl, q⟩
    exact ⟨by show 3 ≤ sizeLine; decide, _, .cons ⟨_, rfl⟩ (.cons ⟨_, rfl⟩ (.cons ⟨_, rfl⟩ .nil)), IsTup.new _ _⟩
  | cons i r =>
    intro q
    refine ⟨.ref s.heap.objs.size, _, I.laid (t' := s.toks + 1 + 1) (o := .tup _) (fun b u e => Heap.get?_push_of_some _ e) (by omega) ?_, rfl, q⟩
    exact ⟨by show 3 ≤ sizeLine; decide, _, .cons ⟨_, rfl⟩ (.cons ⟨_, rfl⟩ (.cons ⟨_, rfl⟩ .nil)), IsTup.new _ _⟩
end
end L2
/-! READING: a text and the place up to which it is read -/
namespace L2
open PySem PySem.Spec PyProof.Rows
theorem two_of3 {us : List Value} {d : Value} (h : (us ++ [d]).length = 3) : ∃ x y, us = [x, y] := by
  match us, h with
  | [x, y], _ => exact ⟨x, y, rfl⟩
  | [], h => simp at h
  | [_], h => simp at h
  | _ :: _ :: _ :: _, h => simp at h
section
variable {X : Cx}
/-- int of a text of figures -/
def rIntS : List V → Hp → VK → Prop := fun xs H Q => ∃ z n, xs = [.str z] ∧ z.length ≤ 640 ∧ PySem.intText? z = some n ∧ Q (.int n) H
theorem call_intS : CallR X (.type "int") rIntS := by
  intro pins s σ H xs us Q I r h
  obtain ⟨z, n, rfl, hz, hn, q⟩ := h
  obtain ⟨u, rfl, t, rfl⟩ := vals1 r
  exact PySem.W.KIN.call_text hn hz ⟨.int n, H, I.tok _, ⟨_, rfl⟩, q⟩
theorem inS_str {z : Str} {H : Hp} {Q : VK} : rIntS [.str z] H Q ↔ ∃ n, z.length ≤ 640 ∧ PySem.intText? z = some n ∧ Q (.int n) H :=
  ⟨fun ⟨_, n, e, h⟩ => by cases e; exact ⟨n, h⟩, fun ⟨n, h⟩ => ⟨z, n, rfl, h⟩⟩
theorem sw_str {z y : Str} {i : Nat} {H : Hp} {Q : VK} : rStarts (.str z) [.str y, .int (i : Int)] H Q ↔ Q (.bl (decide (i + y.length ≤ z.length) && Builtin.Str.subAt z y i)) H :=
  ⟨fun ⟨_, _, j, e1, e2, h⟩ => by
    cases e1
    injection e2 with e2 e3
    cases e2
    injection e3 with e3
    injection e3 with e3
    obtain rfl : i = j := by omega
    exact h, fun h => ⟨z, y, i, rfl, rfl, h⟩⟩
theorem pt_str {z y : Str} {H : Hp} {Q : VK} : rPart (.str z) [.str y] H Q ↔ (y.length == 0) = false ∧ z.length ≤ sizeLine ∧ ∀ p, H p = none → Q (.ref p) (upd H p (.tup [.str (Txt.partition z y).1, .str (Txt.partition z y).2.1, .str (Txt.partition z y).2.2])) :=
  ⟨fun ⟨_, _, e1, e2, h⟩ => by cases e1; cases e2; exact h, fun h => ⟨z, y, rfl, rfl, h⟩⟩
theorem rd_fld {K : PySem.W.Frag} {ta : TE} {f : Str} {σ : St} {H : Hp} {Q : VK} : tFld K ta f σ H Q ↔ ta σ H fun x H1 => ∃ a C dx fs v, x = .ref a ∧ H1 a = some (.ins C dx fs) ∧ Cls K C ∧ NoAttr K C f ∧ fs.lookup f = some v ∧ Q v H1 := Iff.rfl
theorem rd_sfld {K : PySem.W.Frag} {ta tv : TE} {f : Str} {D : Ends} {σ : St} {H : Hp} : sFld K ta tv f D σ H ↔ tv σ H fun y H1 => ta σ H1 fun x H2 => ∃ a C dx fs, x = .ref a ∧ H2 a = some (.ins C dx fs) ∧ Cls K C ∧ NoAttr K C f ∧ fs.length < 1000 ∧ D.nx σ (upd H2 a (.ins C dx (putF f y fs))) := Iff.rfl
theorem rd_meth {C : Addr} {m : Str} {sp : Sp} {dvs : List V} {E : XK} {ta : TE} {t : TA} {σ : St} {H : Hp} {Q : VK} : tMeth C m sp dvs E ta t σ H Q ↔ ta σ H fun x H1 => ∃ a dx fs, x = .ref a ∧ H1 a = some (.ins C dx fs) ∧ fs.lookup m = none ∧ t σ H1 fun vs H2 => sp (x :: (vs ++ dvs)) H2 Q E := Iff.rfl
theorem rd_make {C : Addr} {sp : Sp} {dvs : List V} {E : XK} {t : TA} {σ : St} {H : Hp} {Q : VK} : tMake C sp dvs E t σ H Q ↔ t σ H fun vs H1 => ∀ x dx, H1 x = none → H1 dx = none → dx ≠ x → sp (.ref x :: (vs ++ dvs)) (upd (upd H1 dx (.own x)) x (.ins C dx [])) (fun v H2 => v = .non ∧ Q (.ref x) H2) E := Iff.rfl
end
end L2
namespace Wm
open PySem L2
theorem sub_at (t w : List Nat) (i : Nat) (hi : i ≤ t.length) : (decide (i + (⟨w.toArray⟩ : Str).length ≤ (⟨t.toArray⟩ : Str).length) && Builtin.Str.subAt ⟨t.toArray⟩ ⟨w.toArray⟩ i) = decide ((t.drop i).take w.length = w) := by
  rw [mk_len, mk_len]
  have e : Builtin.Str.subAt ⟨t.toArray⟩ ⟨w.toArray⟩ i = decide ((t.drop i).take w.length = w) := by
    unfold Builtin.Str.subAt
    rw [mk_len, Bool.eq_iff_iff, beq_iff_eq, decide_eq_true_eq]
    show (t.toArray.extract i (i + w.length) = w.toArray) ↔ _
    rw [← Array.toList_inj]
    simp
  rw [e]
  by_cases h : (t.drop i).take w.length = w
  · have hl := congrArg List.length h
    rw [List.length_take, List.length_drop] at hl
    rw [decide_eq_true h, Bool.and_true]
    by_cases hw : w.length = 0
    · rw [hw, Nat.add_zero]
      exact decide_eq_true hi
    · exact decide_eq_true (by omega)
  · rw [decide_eq_false h, Bool.and_false]

/-- the first place of a text that a test likes -/
theorem occ1 (x y : Str) : ∀ (l : List Nat) (free : Nat), (∀ i ∈ l, free ≤ i) →
    (forIn l ((#[] : Array Nat), free) (StrLaws.occBody x y x.length 1)).run.fst.toList = (l.find? fun i => decide (i + y.length ≤ x.length) && Builtin.Str.subAt x y i).toList
  | [], free, _ => rfl
  | a :: l, free, hf => by
    rw [List.forIn_cons, List.find?_cons]
    have ha : free ≤ a := hf a (List.mem_cons_self ..)
    by_cases hc : a + y.length ≤ x.length ∧ Builtin.Str.subAt x y a = true
    · have e : (decide (a + y.length ≤ x.length) && Builtin.Str.subAt x y a) = true := by rw [decide_eq_true hc.1, hc.2]; rfl
      rw [e]
      unfold StrLaws.occBody
      rw [if_pos ⟨⟨⟨by simp, ha⟩, hc.1⟩, hc.2⟩]
      have full : ∀ (l : List Nat) (st : Array Nat × Nat), st.1.size = 1 → (forIn l st (StrLaws.occBody x y x.length 1)).run.fst = st.1 := by
        intro l
        induction l with
        | nil => intro st _; rfl
        | cons b l ih =>
          intro st hs
          rw [List.forIn_cons]
          unfold StrLaws.occBody
          rw [if_neg (fun h => by have := h.1.1.1; omega)]
          exact ih st hs
      show (forIn l ((#[] : Array Nat).push a, a + y.length) (StrLaws.occBody x y x.length 1)).run.fst.toList = _
      rw [full l _ (by simp)]
      simp
    · have e : (decide (a + y.length ≤ x.length) && Builtin.Str.subAt x y a) = false := by
        cases h1 : Builtin.Str.subAt x y a with
        | false => rw [Bool.and_false]
        | true => rw [Bool.and_true]; exact decide_eq_false fun z => hc ⟨z, h1⟩
      rw [e]
      unfold StrLaws.occBody
      rw [if_neg (fun h => hc ⟨h.1.2, h.2⟩)]
      exact occ1 x y l free fun i hi => hf i (List.mem_cons_of_mem _ hi)
/-- the part of a text ahead of its first colon -/
def ahead (t : List Nat) : List Nat := t.takeWhile fun c => decide (c ≠ 58)
theorem at_colon (t : List Nat) (i : Nat) : (decide (i + (⟨[58].toArray⟩ : Str).length ≤ (⟨t.toArray⟩ : Str).length) && Builtin.Str.subAt ⟨t.toArray⟩ ⟨[58].toArray⟩ i) = decide (t[i]? = some 58) := by
  by_cases hi : i ≤ t.length
  · rw [sub_at t [58] i hi, decide_eq_decide]
    cases h : t.drop i with
    | nil =>
      have : t[i]? = none := List.getElem?_eq_none (by have := congrArg List.length h; rw [List.length_drop, List.length_nil] at this; omega)
      rw [this]
      simp
    | cons c r =>
      have : t[i]? = some c := by rw [← List.head?_drop, h]; rfl
      rw [this]
      simp
  · rw [List.getElem?_eq_none (by omega), mk_len, mk_len, decide_eq_false (by rw [List.length_singleton]; omega)]
    rfl
theorem find_ahead (t : List Nat) : ∀ (k : Nat), k ≤ t.length → (t.take k).all (fun c => decide (c ≠ 58)) = true →
    ((List.range' k (t.length + 1 - k)).find? fun i => decide (t[i]? = some 58)) = if 58 ∈ t then some (ahead t).length else none := by
  intro k
  induction hn : t.length - k generalizing k with
  | zero =>
    intro hk ha
    have e : k = t.length := by omega
    subst e
    rw [List.take_length] at ha
    have hno : 58 ∉ t := fun h => by have := List.all_eq_true.mp ha 58 h; simp at this
    rw [if_neg hno, show t.length + 1 - t.length = 1 by omega]
    simp
  | succ n ih =>
    intro hk ha
    have hk' : k < t.length := by omega
    have hc : t[k]? = some t[k] := List.getElem?_eq_getElem hk'
    rw [show t.length + 1 - k = (t.length + 1 - (k + 1)) + 1 by omega, List.range'_succ, List.find?_cons, hc]
    by_cases h58 : t[k] = 58
    · rw [h58]
      simp only [decide_true]
      rw [if_pos (by rw [← h58]; exact List.getElem_mem hk')]
      congr 1
      have ht : t = t.take k ++ 58 :: t.drop (k + 1) := by
        rw [← h58, List.getElem_cons_drop, List.take_append_drop]
      unfold ahead
      rw [ht, List.takeWhile_append_of_pos (fun c hc' => List.all_eq_true.mp ha c hc'), List.takeWhile_cons_of_neg (by simp)]
      simp; omega
    · rw [show decide (some t[k] = some 58) = false from decide_eq_false (by simpa using h58)]
      refine ih (k + 1) (by omega) (by omega) ?_
      rw [List.take_add_one, hc, List.all_append, ha]
      simpa using h58
theorem part_colon (t : List Nat) : (Txt.partition ⟨t.toArray⟩ ⟨[58].toArray⟩).1 = ⟨(ahead t).toArray⟩ := by
  have e : Builtin.Str.occurrences (⟨t.toArray⟩ : Str) ⟨[58].toArray⟩ 0 (⟨t.toArray⟩ : Str).length 1 = (if 58 ∈ t then some (ahead t).length else none).toList := by
    rw [StrLaws.occ_eq, occ1 _ _ _ _ (fun i _ => Nat.zero_le i)]
    simp only [at_colon]
    rw [mk_len]
    exact congrArg Option.toList (find_ahead t 0 (Nat.zero_le _) rfl)
  unfold Txt.partition
  rw [e]
  by_cases h : 58 ∈ t
  · rw [if_pos h]
    show Builtin.Str.strSub ⟨t.toArray⟩ 0 (ahead t).length = _
    unfold Builtin.Str.strSub
    have hp : t.take (ahead t).length = ahead t := (List.prefix_iff_eq_take.mp (List.takeWhile_prefix _)).symm
    rw [← hp, List.length_take]
    have : (ahead t).length ≤ t.length := (List.takeWhile_prefix _).length_le
    rw [show min (ahead t).length t.length = (ahead t).length by omega]
    show (⟨t.toArray.extract 0 (ahead t).length⟩ : Str) = _
    simp
  · rw [if_neg h]
    have all : ∀ l : List Nat, 58 ∉ l → ahead l = l := fun l => by
      induction l with
      | nil => intro _; rfl
      | cons c l ih =>
        intro hl
        have h1 : c ≠ 58 := fun z => hl (by rw [z]; exact List.mem_cons_self ..)
        unfold ahead
        rw [List.takeWhile_cons, if_pos (decide_eq_true h1)]
        exact congrArg (c :: ·) (ih fun z => hl (List.mem_cons_of_mem _ z))
    have : ahead t = t := all t h
    rw [this]
    rfl

/-! ### a cursor: its text and its place -/
def Cur (H : Hp) (C p : Addr) (t : List Nat) (k : Nat) : Prop := ∃ dx, H p = some (.ins C dx [("text", .str ⟨t.toArray⟩), ("place", .int (k : Int))])
/-- w writes s, the signs of fr being free -/
inductive WrT (fr : List Nat) : List Nat → List Nat → Prop
  | nil : WrT fr [] []
  | self {c : Nat} {s w : List Nat} : (isPl c = true ∨ c ∈ fr) → c ≠ 126 → WrT fr s w → WrT fr (c :: s) (c :: w)
  | pair {c a b : Nat} {s w : List Nat} : sgO a b = some c → WrT fr s w → WrT fr (c :: s) (126 :: a :: b :: w)
/-- no text goes on with it -/
def Stops (fr r : List Nat) : Prop := ∀ c, r.head? = some c → isPl c = false ∧ c ∉ fr ∧ c ≠ 126
def moV : Option Nat → V
  | none => .non
  | some m => .int (m : Int)
theorem wrt_app {fr s w s' w' : List Nat} (h : WrT fr s w) (h' : WrT fr s' w') : WrT fr (s ++ s') (w ++ w') := by
  induction h with
  | nil => exact h'
  | self a b _ ih => exact .self a b ih
  | pair a _ ih => exact .pair a ih
theorem wrt_wr {fr s : List Nat} (h : ∀ c ∈ s, isSg c = true) : WrT fr s (wr s) := by
  induction s with
  | nil => exact .nil
  | cons c s ih =>
    have hc := h c (List.mem_cons_self ..)
    have ih := ih fun d hd => h d (List.mem_cons_of_mem _ hd)
    show WrT fr (c :: s) (wr1 c ++ wr s)
    unfold wr1
    by_cases hp : isPl c = true
    · rw [if_pos hp]
      exact .self (.inl hp) (fun z => by rw [z] at hp; cases hp) ih
    · rw [if_neg hp]
      exact .pair (sgO_hex hc) ih
theorem fig_at {a n : Nat} (h : fig a = some n) : a < 128 ∧ n < 16 ∧ (n < 10 → a = 48 + n) := by
  unfold fig at h
  split at h
  · cases h; omega
  · split at h
    · cases h; omega
    · split at h
      · cases h; omega
      · cases h
theorem sgO_first {a b c : Nat} (h : sgO a b = some c) : a ∈ (Str.ofString "234567").cps.toList ∧ a < 128 ∧ b < 128 ∧ isSg c = true := by
  unfold sgO at h
  cases ha : fig a with
  | none => simp [ha] at h
  | some n =>
    cases hb : fig b with
    | none => simp [ha, hb] at h
    | some m =>
      simp only [ha, hb] at h
      split at h
      · next hs =>
        cases h
        obtain ⟨a1, a2, a3⟩ := fig_at ha
        obtain ⟨b1, b2, _⟩ := fig_at hb
        have hr := hs
        simp only [isSg, Bool.and_eq_true, decide_eq_true_eq] at hr
        have e := a3 (by omega)
        refine ⟨?_, a1, b1, hs⟩
        have key : ∀ n, n < 8 → 2 ≤ n → 48 + n ∈ (Str.ofString "234567").cps.toList := by decide +kernel
        rw [e]
        exact key n (by omega) (by omega)
      · cases h

/-! ### reading through a cursor -/
section
variable {K : PySem.W.Frag} {H : Hp} {C p : Addr} {t : List Nat} {i : Nat}
theorem lk_text {v u : V} : List.lookup (Str.ofString "text") [(Str.ofString "text", v), (Str.ofString "place", u)] = some v := by
  rw [List.lookup_cons, beq_self_eq_true]
theorem lk_place {v u : V} : List.lookup (Str.ofString "place") [(Str.ofString "text", v), (Str.ofString "place", u)] = some u := by
  rw [List.lookup_cons, show (Str.ofString "place" == Str.ofString "text") = false by decide +kernel, List.lookup_cons, beq_self_eq_true]
theorem get_text {R : V → Prop} (h : Cur H C p t i) (cl : Cls K C) (n : NoAttr K C "text") (r : R (.str ⟨t.toArray⟩)) : ∃ a C dx fs v, p = a ∧ H a = some (.ins C dx fs) ∧ Cls K C ∧ NoAttr K C (Str.ofString "text") ∧ List.lookup (Str.ofString "text") fs = some v ∧ R v :=
  let ⟨dx, hp⟩ := h
  ⟨p, C, dx, _, _, rfl, hp, cl, n, lk_text, r⟩
theorem get_place {R : V → Prop} (h : Cur H C p t i) (cl : Cls K C) (n : NoAttr K C "place") (r : R (.int (i : Int))) : ∃ a C dx fs v, p = a ∧ H a = some (.ins C dx fs) ∧ Cls K C ∧ NoAttr K C (Str.ofString "place") ∧ List.lookup (Str.ofString "place") fs = some v ∧ R v :=
  let ⟨dx, hp⟩ := h
  ⟨p, C, dx, _, _, rfl, hp, cl, n, lk_place, r⟩
theorem put_place {v u w : V} : putF (Str.ofString "place") w [(Str.ofString "text", v), (Str.ofString "place", u)] = [(Str.ofString "text", v), (Str.ofString "place", w)] := by
  have h : Str.ofString "text" ≠ Str.ofString "place" := by decide +kernel
  simp only [putF, if_neg h, if_true]
theorem set_place {N : Hp → Prop} {z : Int} (h : Cur H C p t i) (cl : Cls K C) (n : NoAttr K C "place") (j : Nat) (hz : z = (j : Int)) (hN : ∀ H', SameBut p H H' → Cur H' C p t j → N H') :
    ∃ a C dx fs, p = a ∧ H a = some (.ins C dx fs) ∧ Cls K C ∧ NoAttr K C (Str.ofString "place") ∧ fs.length < 1000 ∧ N (upd H a (.ins C dx (putF (Str.ofString "place") (.int z) fs))) := by
  obtain ⟨dx, hp⟩ := h
  refine ⟨p, C, dx, _, rfl, hp, cl, n, by show 2 < 1000; decide, ?_⟩
  rw [put_place, hz]
  exact hN _ sameBut_upd ⟨dx, upd_same⟩
theorem lk_none {m : Str} {v u : V} (h1 : (m == Str.ofString "text") = false) (h2 : (m == Str.ofString "place") = false) : List.lookup m [(Str.ofString "text", v), (Str.ofString "place", u)] = none := by
  rw [List.lookup_cons, h1, List.lookup_cons, h2]; rfl
theorem cur_meth {R : Prop} {m : Str} (h : Cur H C p t i) (r : R) (h1 : (m == Str.ofString "text") = false := by decide +kernel) (h2 : (m == Str.ofString "place") = false := by decide +kernel) :
    ∃ a dx fs, p = a ∧ H a = some (.ins C dx fs) ∧ List.lookup m fs = none ∧ R :=
  let ⟨dx, hp⟩ := h
  ⟨p, dx, _, rfl, hp, lk_none h1 h2, r⟩
theorem Cur.same {H' : Hp} (h : Cur H C p t i) (s : Same H H') : Cur H' C p t i := let ⟨dx, hp⟩ := h; ⟨dx, s _ _ hp⟩
end

def plS : List Nat := (Str.ofString "abcdefghijklmnopqrstuvwxyzABCDEFGHIJKLMNOPQRSTUVWXYZ0123456789-_.").cps.toList
theorem plS_len : plS.length = 65 := by decide +kernel
theorem plS_in {c : Nat} (h : c < 128) : (c ∈ plS) ↔ isPl c = true := by
  have := plain_in c h
  rw [← this, decide_eq_true_eq]
  exact Iff.rfl

def seesB (t sg : List Nat) (i : Nat) : Bool := ((t[i]?).map fun c => decide (c ∈ sg)).getD false
theorem seesB_some {t sg : List Nat} {i c : Nat} (h : t[i]? = some c) : seesB t sg i = decide (c ∈ sg) := by unfold seesB; rw [h]; rfl
theorem seesB_none {t sg : List Nat} {i : Nat} (h : t[i]? = none) : seesB t sg i = false := by unfold seesB; rw [h]; rfl
theorem at_drop {t w : List Nat} {i c : Nat} (h : t.drop i = c :: w) : t[i]? = some c ∧ i < t.length := by
  have e : t[i]? = some c := by rw [← List.head?_drop, h]; rfl
  exact ⟨e, (List.getElem?_eq_some_iff.mp e).1⟩
theorem wrt_len {fr s w : List Nat} (h : WrT fr s w) : s.length ≤ w.length := by
  induction h with
  | nil => exact Nat.le_refl _
  | self _ _ _ ih => simp only [List.length_cons]; omega
  | pair _ _ ih => simp only [List.length_cons]; omega

def frS : List Nat := (Str.ofString "!$'()*,;@&=+").cps.toList
def frQ : List Nat := (Str.ofString "!$'()*,;@+/?:").cps.toList
def frM : List Nat := (Str.ofString "!$'()*,;@&=+/?:").cps.toList
theorem frS_len : frS.length ≤ 100 := by decide +kernel
theorem frQ_len : frQ.length ≤ 100 := by decide +kernel
theorem frM_len : frM.length ≤ 100 := by decide +kernel
theorem stops_nil {fr : List Nat} : Stops fr [] := fun c h => by cases h
theorem stops_cons {fr r : List Nat} {c : Nat} (h : isPl c = false ∧ c ∉ fr ∧ c ≠ 126) : Stops fr (c :: r) := fun d e => by cases e; exact h
/-- how the mark, a value are written -/
def MarW (o : Option (List Nat)) (w : List Nat) : Prop := match o with
  | none => w = []
  | some s => ∃ v, w = 35 :: v ∧ WrT frM s v
def ValW (o : Option (List Nat)) (w : List Nat) : Prop := match o with
  | none => w = []
  | some s => ∃ v, w = 61 :: v ∧ WrT frQ s v

def HouW (o : Option (List Nat)) (w : List Nat) : Prop := match o with
  | none => w = []
  | some s => ∃ v, w = 47 :: 47 :: v ∧ WrT [] s v ∧ s ≠ [] ∧ s.length ≤ 60

/-- what is written behind a step: nothing, a / at the end, or a / and further steps -/
inductive TlW : List (List Nat) → Bool → List Nat → Prop
  | stop : TlW [] false []
  | ends : TlW [] true [47]
  | more {s w : List Nat} {ss : List (List Nat)} {e : Bool} {v : List Nat} : WrT frS s w → s ≠ [] → TlW ss e v → TlW (s :: ss) e (47 :: (w ++ v))
inductive StpW : List (List Nat) → Bool → List Nat → Prop
  | none {e : Bool} : StpW [] e []
  | some {s w : List Nat} {ss : List (List Nat)} {e : Bool} {v : List Nat} : WrT frS s w → s ≠ [] → TlW ss e v → StpW (s :: ss) e (w ++ v)
theorem frS_47 : (47 : Nat) ∉ frS := by decide +kernel
theorem wrt_head {fr s w : List Nat} (h : WrT fr s w) (hs : s ≠ []) : ∃ c r, w = c :: r ∧ (isPl c = true ∨ c ∈ fr ∨ c = 126) := by
  cases h with
  | nil => exact absurd rfl hs
  | self a _ _ => exact ⟨_, _, rfl, a.elim .inl (fun z => .inr (.inl z))⟩
  | pair _ _ => exact ⟨_, _, rfl, .inr (.inr rfl)⟩
theorem tl_stops {ss : List (List Nat)} {e : Bool} {v rest : List Nat} (h : TlW ss e v) (hr : Stops frS rest) : Stops frS (v ++ rest) := by
  cases h with
  | stop => exact hr
  | ends => exact stops_cons ⟨by decide, frS_47, by decide⟩
  | more _ _ _ => exact stops_cons ⟨by decide, frS_47, by decide⟩
theorem stp_no47 {ss : List (List Nat)} {e : Bool} {v rest : List Nat} (h : StpW ss e v) (hr : rest.head? ≠ some 47) : (v ++ rest).head? ≠ some 47 := by
  cases h with
  | none => exact hr
  | some hw hs _ =>
    obtain ⟨c, r, rfl, hc⟩ := wrt_head hw hs
    intro z
    have e : c = 47 := Option.some.inj z
    subst e
    rcases hc with z | z | z
    · cases z
    · exact frS_47 z
    · cases z

theorem tlW_len {ss : List (List Nat)} {e : Bool} {v : List Nat} (h : TlW ss e v) : ss.length ≤ v.length := by
  induction h with
  | stop => exact Nat.le_refl _
  | ends => exact Nat.zero_le _
  | more _ _ _ ih => simp only [List.length_cons, List.length_append]; omega
theorem stpW_len {ss : List (List Nat)} {e : Bool} {v : List Nat} (h : StpW ss e v) : ss.length ≤ v.length := by
  cases h with
  | none => exact Nat.le_refl _
  | some hw hs ht =>
    obtain ⟨c, r, rfl, _⟩ := wrt_head hw hs
    have := tlW_len ht
    simp only [List.length_cons, List.length_append]; omega

/-- how pairs behind the first are written -/
inductive PrsW : List (List Nat × Option (List Nat)) → List Nat → Prop
  | nil : PrsW [] []
  | cons {n w v : List Nat} {o : Option (List Nat)} {ps : List (List Nat × Option (List Nat))} {r : List Nat} : WrT frQ n w → n ≠ [] → ValW o v → PrsW ps r → PrsW ((n, o) :: ps) (38 :: (w ++ (v ++ r)))
def QueW (q : Option (List (List Nat × Option (List Nat)))) (w : List Nat) : Prop := match q with
  | none => w = []
  | some [] => w = [63]
  | some ((n, o) :: ps) => ∃ a v r, w = 63 :: (a ++ (v ++ r)) ∧ WrT frQ n a ∧ n ≠ [] ∧ ValW o v ∧ PrsW ps r
theorem frQ_no : (35 : Nat) ∉ frQ ∧ (38 : Nat) ∉ frQ ∧ (61 : Nat) ∉ frQ := by decide +kernel
theorem prs_stops {ps : List (List Nat × Option (List Nat))} {r rest : List Nat} (h : PrsW ps r) (hr : rest = [] ∨ ∃ x, rest = 35 :: x) : Stops frQ (r ++ rest) ∧ (r ++ rest).head? ≠ some 61 := by
  cases h with
  | nil =>
    rcases hr with rfl | ⟨x, rfl⟩
    · exact ⟨stops_nil, by simp⟩
    · exact ⟨stops_cons ⟨by decide, frQ_no.1, by decide⟩, by simp⟩
  | cons _ _ _ _ => exact ⟨stops_cons ⟨by decide, frQ_no.2.1, by decide⟩, by simp⟩
theorem val_stops {o : Option (List Nat)} {v r : List Nat} (h : ValW o v) (hr : Stops frQ r) : Stops frQ (v ++ r) := by
  cases o with
  | none =>
    have h : v = [] := h
    subst h
    exact hr
  | some s =>
    obtain ⟨x, rfl, _⟩ := h
    exact stops_cons ⟨by decide, frQ_no.2.2, by decide⟩
theorem prs_len {ps : List (List Nat × Option (List Nat))} {r : List Nat} (h : PrsW ps r) : ps.length ≤ r.length := by
  induction h with
  | nil => exact Nat.le_refl _
  | cons _ _ _ _ ih => simp only [List.length_cons, List.length_append]; omega

theorem Cur.toT {H H' : Hp} {C p : Addr} {t : List Nat} {i : Nat} (h : Cur H C p t i) (s : SameBut p H H') : SameT H H' := fun b xs e => s b _ (by
  obtain ⟨dx, hp⟩ := h
  exact ne_of e hp (by intro z; cases z)) e
def pD (a : List Nat × Option (List Nat)) : PyData := .tuple [st a.1, oD a.2]
def PrL (H : Hp) (vs : List V) (dn : List (List Nat × Option (List Nat))) : Prop := vs.length = dn.length ∧ ∀ (i : Nat) (a : List Nat × Option (List Nat)) (y : V), dn[i]? = some a → vs[i]? = some y → IsT H (pD a) y
theorem PrL.mono {H H' : Hp} {vs : List V} {dn : List (List Nat × Option (List Nat))} (h : PrL H vs dn) (s : SameT H H') : PrL H' vs dn := ⟨h.1, fun i a y e1 e2 => (h.2 i a y e1 e2).mono s⟩
theorem PrL.snoc {H : Hp} {vs : List V} {dn : List (List Nat × Option (List Nat))} {a : List Nat × Option (List Nat)} {y : V} (h : PrL H vs dn) (hy : IsT H (pD a) y) : PrL H (vs ++ [y]) (dn ++ [a]) := by
  refine ⟨by simp [h.1], fun i b z e1 e2 => ?_⟩
  by_cases hi : i < dn.length
  · rw [List.getElem?_append_left hi] at e1
    rw [List.getElem?_append_left (by rw [h.1]; exact hi)] at e2
    exact h.2 i b z e1 e2
  · have := (List.getElem?_eq_some_iff.mp e1).1
    rw [List.length_append, List.length_singleton] at this
    have e : i = dn.length := by omega
    subst e
    rw [List.getElem?_append_right (Nat.le_refl _), Nat.sub_self] at e1
    rw [← h.1, List.getElem?_append_right (Nat.le_refl _), Nat.sub_self] at e2
    cases e1
    cases e2
    exact hy
theorem isTAll_mk' {H : Hp} {α : Type} {g : α → PyData} : ∀ {l : List α} {ys : List V}, ys.length = l.length → (∀ (i : Nat) (a : α) (y : V), l[i]? = some a → ys[i]? = some y → IsT H (g a) y) → IsTAll H (l.map g) ys
  | [], [], _, _ => .nil
  | [], _ :: _, h, _ => by simp at h
  | _ :: _, [], h, _ => by simp at h
  | a :: l, y :: ys, h, k => .cons (k 0 a y rfl rfl) (isTAll_mk' (by simpa using h) fun i b z e1 e2 => k (i + 1) b z (by simpa using e1) (by simpa using e2))

def fgS : List Nat := (Str.ofString "0123456789").cps.toList
theorem fgS_in {c : Nat} : c ∈ fgS ↔ 48 ≤ c ∧ c ≤ 57 := by
  rw [show fgS = [48, 49, 50, 51, 52, 53, 54, 55, 56, 57] by decide +kernel]
  simp only [List.mem_cons, List.not_mem_nil, or_false]
  omega
def valD (ds : List Nat) : Nat := ds.foldl (fun a c => a * 10 + (c - 48)) 0
theorem valD_snoc (ds : List Nat) (c : Nat) : valD (ds ++ [c]) = valD ds * 10 + (c - 48) := by unfold valD; rw [List.foldl_append]; rfl
theorem valD_le : ∀ (es ds : List Nat), valD ds ≤ valD (ds ++ es)
  | [], ds => by rw [List.append_nil]; exact Nat.le_refl _
  | c :: es, ds => by
    have h := valD_le es (ds ++ [c])
    rw [valD_snoc, List.append_assoc] at h
    exact Nat.le_trans (by omega) h
theorem valD_pos {ds : List Nat} {c : Nat} {r : List Nat} (h : ds = c :: r) (hc : 49 ≤ c) : 0 < valD ds := by
  have := valD_le r [c]
  rw [h]
  have e : valD [c] = c - 48 := by unfold valD; simp
  show 0 < valD ([c] ++ r)
  omega
def DooW (o : Option Int) (w : List Nat) : Prop := match o with
  | none => w = []
  | some n => ∃ ds, w = 58 :: ds ∧ ds ≠ [] ∧ (∀ c ∈ ds, 48 ≤ c ∧ c ≤ 57) ∧ (valD ds : Int) = n ∧ valD ds ≤ 65535 ∧ (ds = [48] ∨ ds.head? ≠ some 48)
theorem int_one : ∀ c, c < 58 → 48 ≤ c → PySem.intText? ⟨#[c]⟩ = some (((c - 48 : Nat)) : Int) := by decide +kernel

/-! ### the scheme -/
theorem ahead_app {s r : List Nat} (h : ∀ c ∈ s, c ≠ 58) : ahead (s ++ 58 :: r) = s := by
  unfold ahead
  rw [List.takeWhile_append_of_pos (fun c hc => decide_eq_true (h c hc)), List.takeWhile_cons_of_neg (by simp), List.append_nil]
theorem ahead_pre (t : List Nat) : ∃ r, t = ahead t ++ r := ⟨t.dropWhile fun c => decide (c ≠ 58), (List.takeWhile_append_dropWhile (p := fun c => decide (c ≠ 58))).symm⟩
theorem ahead_len (t : List Nat) : (ahead t).length ≤ t.length := by
  obtain ⟨r, h⟩ := ahead_pre t
  have := congrArg List.length h
  rw [List.length_append] at this
  omega
theorem ahead_take (t : List Nat) : t.take (ahead t ++ [58]).length = ahead t ++ [58] ↔ t[(ahead t).length]? = some 58 := by
  obtain ⟨r, h⟩ := ahead_pre t
  generalize ahead t = a at h
  subst h
  rw [List.length_append, List.length_singleton, List.getElem?_append_right (Nat.le_refl _), Nat.sub_self, List.take_append]
  rw [List.take_of_length_le (by omega), show a.length + 1 - a.length = 1 by omega]
  constructor
  · intro e
    have e := List.append_cancel_left e
    cases r with
    | nil => simp at e
    | cons c r => simp at e; rw [e]; rfl
  · intro e
    cases r with
    | nil => simp at e
    | cons c r => simp at e; rw [e]; rfl
def schM (t : List Nat) : List Nat := if ahead t ≠ [] ∧ schD (.str ⟨(ahead t).toArray⟩) = true ∧ t[(ahead t).length]? = some 58 then ahead t else []
def schP (t : List Nat) : Nat := (schT (schM t)).length
theorem schM_yes {t : List Nat} (h1 : ahead t ≠ []) (h2 : schD (.str ⟨(ahead t).toArray⟩) = true) (h3 : t[(ahead t).length]? = some 58) : schM t = ahead t ∧ schP t = (ahead t ++ [58]).length := by
  have e : schM t = ahead t := by unfold schM; rw [if_pos ⟨h1, h2, h3⟩]
  exact ⟨e, by unfold schP schT; rw [e, if_neg h1]⟩
theorem schM_no {t : List Nat} (h : ¬ (ahead t ≠ [] ∧ schD (.str ⟨(ahead t).toArray⟩) = true ∧ t[(ahead t).length]? = some 58)) : schM t = [] ∧ schP t = 0 := by
  have e : schM t = [] := by unfold schM; rw [if_neg h]
  exact ⟨e, by unfold schP schT; rw [e, if_pos rfl]; rfl⟩
/-- how an address is written -/
def RdW (x : Ad) (t : List Nat) : Prop := ∃ h d w q m, t = schT x.scheme ++ (h ++ (d ++ ((if x.rooted then [47] else []) ++ (w ++ (q ++ m))))) ∧ schM t = x.scheme ∧ HouW x.house h ∧ DooW x.door d ∧ StpW x.steps x.ends w ∧ QueW x.quest q ∧ MarW x.mark m
end Wm
namespace L2
open PySem
theorem IsKAll.length {K : PySem.W.Frag} {H : Hp} : ∀ {ds : List PyData} {xs : List V}, IsKAll K H ds xs → xs.length = ds.length
  | _, _, .nil => rfl
  | _, _, .cons _ r => by simp [IsKAll.length r]
theorem isKAll_get {K : PySem.W.Frag} {H : Hp} : ∀ {ds : List PyData} {xs : List V} {i : Nat} {d : PyData} {x : V}, IsKAll K H ds xs → ds[i]? = some d → xs[i]? = some x → IsK K H d x
  | _, _, 0, _, _, .cons h _, e1, e2 => by cases e1; cases e2; exact h
  | _, _, i + 1, _, _, .cons _ r, e1, e2 => isKAll_get r (i := i) (by simpa using e1) (by simpa using e2)
  | _, _, 0, _, _, .nil, e1, _ => by cases e1
  | _, _, _ + 1, _, _, .nil, e1, _ => by cases e1
end L2
namespace Wm
open PySem L2
/-! ### the shown text is a text that is read -/
theorem val_digits : ∀ n : Nat, valD ((Nat.toDigits 10 n).map Char.toNat) = n ∧ (Nat.toDigits 10 n).map Char.toNat ≠ [] ∧ (((Nat.toDigits 10 n).map Char.toNat).head? = some 48 → n = 0)
  | n => by
    by_cases h : n < 10
    · rw [Nat.toDigits_of_lt_base h]
      have key : ∀ n, n < 10 → valD ([Nat.digitChar n].map Char.toNat) = n ∧ ([Nat.digitChar n].map Char.toNat).head? = some (48 + n) := by decide +kernel
      obtain ⟨k1, k2⟩ := key n h
      refine ⟨k1, by simp, fun z => ?_⟩
      rw [k2] at z
      injection z with z
      omega
    · have h' : 10 ≤ n := by omega
      rw [Nat.toDigits_of_base_le (by decide) h', List.map_append]
      obtain ⟨i1, i2, i3⟩ := val_digits (n / 10)
      have key : ∀ n, n < 10 → ([Nat.digitChar n].map Char.toNat) = [48 + n] := by decide +kernel
      rw [key (n % 10) (by omega), valD_snoc, i1]
      refine ⟨by omega, by simp, fun z => ?_⟩
      cases hh : (Nat.toDigits 10 (n / 10)).map Char.toNat with
      | nil => exact absurd hh i2
      | cons c r =>
        rw [hh] at z i3
        have := i3 z
        omega
theorem dooW_doo {o : Option Int} (h : ∀ i, o = some i → 0 ≤ i ∧ i ≤ 65535) : DooW o (dooT o) := by
  cases o with
  | none => rfl
  | some i =>
    obtain ⟨h1, h2⟩ := h i rfl
    obtain ⟨n, rfl⟩ := Int.eq_ofNat_of_zero_le h1
    have e : dg (n : Int) = (Nat.toDigits 10 n).map Char.toNat := by unfold dg; rw [PySem.W.KIN.signs_num]
    obtain ⟨i1, i2, i3⟩ := val_digits n
    refine ⟨dg n, rfl, by rw [e]; exact i2, dg_fig h1, by rw [e, i1], by rw [e, i1]; omega, ?_⟩
    by_cases hz : (dg n).head? = some 48
    · rw [e] at hz
      have := i3 hz
      subst this
      exact .inl (by rw [e]; decide)
    · exact .inr hz
theorem houW_hou {o : Option (List Nat)} (h : ∀ l, o = some l → (0 < l.length ∧ l.length ≤ 60) ∧ ∀ c ∈ l, isSg c = true) : HouW o (houT o) := by
  cases o with
  | none => rfl
  | some l =>
    obtain ⟨⟨h1, h2⟩, h3⟩ := h l rfl
    exact ⟨wr l, rfl, wrt_wr h3, (fun e => by rw [e] at h1; cases h1), h2⟩
theorem marW_mar {o : Option (List Nat)} (h : ∀ l, o = some l → ∀ c ∈ l, isSg c = true) : MarW o (oT 35 o) := by
  cases o with
  | none => rfl
  | some l => exact ⟨wr l, rfl, wrt_wr (h l rfl)⟩
theorem valW_val {o : Option (List Nat)} (h : ∀ l, o = some l → ∀ c ∈ l, isSg c = true) : ValW o (oT 61 o) := by
  cases o with
  | none => rfl
  | some l => exact ⟨wr l, rfl, wrt_wr (h l rfl)⟩
theorem tlW_tl {e : Bool} : ∀ {ss : List (List Nat)}, (∀ s ∈ ss, StepOk s) → TlW ss e (tlT 47 (ss.map wr) ++ if e then [47] else [])
  | [], _ => by cases e <;> simp [tlT] <;> constructor
  | s :: ss, h => by
    have h1 := h s (List.mem_cons_self ..)
    have := TlW.more (wrt_wr (fr := frS) h1.2) (fun z => by rw [z] at h1; cases h1.1) (tlW_tl (e := e) (ss := ss) fun t ht => h t (List.mem_cons_of_mem _ ht))
    simpa [tlT] using this
theorem stpW_stp {ss : List (List Nat)} {e : Bool} (h : ∀ s ∈ ss, StepOk s) : StpW ss e (stpT ss e) := by
  cases ss with
  | nil => rw [stpT_nil]; exact .none
  | cons s ss =>
    have h1 := h s (List.mem_cons_self ..)
    have := StpW.some (wrt_wr (fr := frS) h1.2) (fun z => by rw [z] at h1; cases h1.1) (tlW_tl (e := e) (ss := ss) fun t ht => h t (List.mem_cons_of_mem _ ht))
    unfold stpT
    simpa [joinT] using this
theorem prsW_prs : ∀ {ps : List (List Nat × Option (List Nat))}, (∀ p ∈ ps, PairOk p) → PrsW ps (tlT 38 (ps.map pairT))
  | [], _ => .nil
  | (n, o) :: ps, h => by
    have h1 := h (n, o) (List.mem_cons_self ..)
    have := PrsW.cons (wrt_wr (fr := frQ) h1.1.2) (fun z => by have := h1.1.1; rw [z] at this; cases this) (valW_val h1.2) (prsW_prs (ps := ps) fun t ht => h t (List.mem_cons_of_mem _ ht))
    simpa [tlT, pairT] using this
theorem queW_que {q : Option (List (List Nat × Option (List Nat)))} (h : ∀ ps, q = some ps → ∀ p ∈ ps, PairOk p) : QueW q (queT q) := by
  cases q with
  | none => rfl
  | some ps =>
    cases ps with
    | nil => rfl
    | cons p ps =>
      obtain ⟨n, o⟩ := p
      have h1 := h _ rfl (n, o) (List.mem_cons_self ..)
      exact ⟨wr n, oT 61 o, tlT 38 (ps.map pairT), by simp [queT, joinT, pairT], wrt_wr h1.1.2, (fun z => by have := h1.1.1; rw [z] at this; cases this), valW_val h1.2, prsW_prs fun t ht => h _ rfl t (List.mem_cons_of_mem _ ht)⟩
theorem que_all2 {P : Nat → Prop} (h1 : P 63) (h2 : P 38) (h3 : P 61) (hw : ∀ c, wch c = true → P c) {q : Option (List (List Nat × Option (List Nat)))} (h : ∀ ps, q = some ps → ∀ p ∈ ps, PairOk p) : ∀ c ∈ queT q, P c := by
  intro c hc
  cases q with
  | none => cases hc
  | some ps =>
    simp only [queT, List.mem_cons] at hc
    rcases hc with rfl | hc
    · exact h1
    · refine join_all h2 (fun s hs d hd => ?_) c hc
      obtain ⟨p, hp, rfl⟩ := List.mem_map.mp hs
      exact pair_all h3 hw (h ps rfl p hp) d hd
theorem Ad.Wf.all {P : Nat → Prop} {x : Ad} (h : x.Wf) (h1 : P 47) (h2 : P 58) (h3 : P 63) (h4 : P 38) (h5 : P 61) (h6 : P 35) (hw : ∀ c, wch c = true → P c) : ∀ c ∈ x.shw, P c := by
  intro c hc
  rw [Ad.shw_eq] at hc
  rcases List.mem_append.mp hc with hc | hc
  · rcases List.mem_append.mp hc with hc | hc
    · exact h.pre_all h1 h2 hw c hc
    · exact que_all2 h3 h4 h5 hw h.que c hc
  · exact oT_all h6 hw h.mar c hc
theorem wch_lt {c : Nat} (h : wch c = true) : c < 128 := by
  simp only [wch, isPl, Bool.or_eq_true, decide_eq_true_eq] at h
  omega
theorem schM_shw {x : Ad} (h : x.Wf) : schM x.shw = x.scheme := by
  by_cases hs : x.scheme = []
  · rw [hs]
    refine (schM_no ?_).1
    rintro ⟨_, z2, z3⟩
    cases hh : x.house with
    | some l =>
      obtain ⟨r, hr⟩ : ∃ r, x.shw = 47 :: r := by
        unfold Ad.shw
        rw [hs, hh]
        exact ⟨_, rfl⟩
      rw [hr] at z2
      have : (ahead (47 :: r)) = 47 :: ahead r := by unfold ahead; rw [List.takeWhile_cons_of_pos (by decide)]
      rw [this] at z2
      simp [schD, isLet] at z2
    | none =>
      have hd : x.door = none := by
        cases hd : x.door with
        | none => rfl
        | some i => exact absurd hh (h.doo i hd).2
      have hm : (58 : Nat) ∈ x.shw := List.mem_of_getElem? z3
      unfold Ad.shw at hm
      rw [hs, hh, hd] at hm
      simp only [schT, if_true, houT, dooT, List.nil_append] at hm
      have ha : ∀ c, c ∈ x.wayT ++ (queT x.quest ++ oT 35 x.mark) → c ≠ 58 := by
        intro c hc
        rcases List.mem_append.mp hc with hc | hc
        · exact way_all (P := fun c => c ≠ 58) (by decide) (fun c hc => (wch_not hc).2.2.2.1) h.stp c hc
        · rcases List.mem_append.mp hc with hc | hc
          · exact que_all2 (P := fun c => c ≠ 58) (by decide) (by decide) (by decide) (fun c hc => (wch_not hc).2.2.2.1) h.que c hc
          · exact oT_all (P := fun c => c ≠ 58) (by decide) (fun c hc => (wch_not hc).2.2.2.1) h.mar c hc
      exact ha 58 hm rfl
  · have hc : ∀ c ∈ x.scheme, c ≠ 58 := fun c hc => (wch_not (aln_wch (h.sch.2.1 c hc))).2.2.2.1
    obtain ⟨r, hr⟩ : ∃ r, x.shw = x.scheme ++ 58 :: r := by
      unfold Ad.shw schT
      rw [if_neg hs]
      exact ⟨_, by rw [List.append_assoc]; rfl⟩
    have ha : ahead x.shw = x.scheme := by rw [hr]; exact ahead_app hc
    have := (schM_yes (t := x.shw) (by rw [ha]; exact hs) (by
      rw [ha]
      simp only [schD, Bool.and_eq_true, List.all_eq_true, decide_eq_true_eq]
      exact ⟨⟨⟨fun c hc => aln_sg (h.sch.2.1 c hc), by show x.scheme.length ≤ 8; exact h.sch.1⟩, h.sch.2.2⟩, h.sch.2.1⟩) (by
      rw [ha, hr, List.getElem?_append_right (Nat.le_refl _), Nat.sub_self]; rfl)).1
    rw [this, ha]
theorem rdW_shw {x : Ad} (h : x.Wf) : RdW x x.shw :=
  ⟨houT x.house, dooT x.door, stpT x.steps x.ends, queT x.quest, oT 35 x.mark, by
    unfold Ad.shw Ad.wayT
    rw [wayT_eq, List.append_assoc], schM_shw h, houW_hou h.hou, dooW_doo fun i e => (h.doo i e).1, stpW_stp h.stp, queW_que h.que, marW_mar h.mar⟩
/-! ### sizes -/
theorem Ad.Tiny.sz {x : Ad} (h : x.Wf) (t : x.Tiny) (hn : x.steps.length ≤ 300) : x.Sz where
  stp := fun s hs => Nat.le_trans (t.stp s hs) (by decide)
  que := fun ps e => ⟨Nat.le_trans (t.que ps e).1 (by decide), fun p hp => ⟨Nat.le_trans ((t.que ps e).2 p hp).1 (by decide), fun v hv => Nat.le_trans (((t.que ps e).2 p hp).2 v hv) (by decide)⟩⟩
  mar := fun l e => Nat.le_trans (t.mar l e) (by decide)
  num := Nat.le_trans hn (by decide)
  all := by
    have a1 : (schT x.scheme).length ≤ 9 := by
      unfold schT
      split
      · simp
      · have := h.sch.1; simp only [List.length_append, List.length_cons, List.length_nil]; omega
    have a2 : (houT x.house).length ≤ 200 := by
      cases hh : x.house with
      | none => simp [houT]
      | some l => have := (h.hou l hh).1.2; have := wr_len l; simp only [houT, List.length_cons]; omega
    have a3 : (dooT x.door).length ≤ 6 := by
      cases hh : x.door with
      | none => simp [dooT]
      | some i => have b := (h.doo i hh).1; have := dg_len b.1 b.2; simp only [dooT, List.length_cons]; omega
    have a4 : x.wayT.length ≤ 9000 := by
      have hj := join_bound (sep := 47) (m := 27) (ys := x.steps.map wr) fun s hs => by
        obtain ⟨u, hu, rfl⟩ := List.mem_map.mp hs
        have := wr_len u; have := t.stp u hu; omega
      rw [List.length_map] at hj
      have e1 : (if x.rooted then [47] else [] : List Nat).length ≤ 1 := by split <;> simp
      have e2 : (if x.ends && !x.steps.isEmpty then [47] else [] : List Nat).length ≤ 1 := by split <;> simp
      simp only [Ad.wayT, Wm.wayT, List.length_append]
      have : x.steps.length * (27 + 1) ≤ 300 * 28 := Nat.mul_le_mul hn (Nat.le_refl _)
      omega
    have a5 : (queT x.quest).length ≤ 1000 := by
      cases hq : x.quest with
      | none => simp [queT]
      | some ps =>
        have hk := t.que ps hq
        have hj := join_bound (sep := 38) (m := 37) (ys := ps.map pairT) fun s hs => by
          obtain ⟨p, hp, rfl⟩ := List.mem_map.mp hs
          have h1 := (hk.2 p hp).1
          have h2 := oT_len (sep := 61) (n := 6) (o := p.2) fun v hv => (hk.2 p hp).2 v hv
          have := wr_len p.1
          simp only [pairT, List.length_append]
          omega
        rw [List.length_map] at hj
        have : ps.length * (37 + 1) ≤ 3 * 38 := Nat.mul_le_mul hk.1 (Nat.le_refl _)
        simp only [queT, List.length_cons]
        omega
    have a6 := oT_len (sep := 35) (n := 60) (o := x.mark) fun l e => Nat.le_trans (t.mar l e) (by decide)
    simp only [Ad.shw, List.length_append]
    omega
theorem goneV_tiny {w : Way} (h : ∀ s ∈ w.2.1, s.length ≤ 9) : ∀ s ∈ (goneV w).2.1, s.length ≤ 9 := by
  intro s hs
  unfold goneV goneW at hs
  split at hs
  · cases hs
  · split at hs
    · split at hs
      · cases hs
      · rw [List.mem_singleton.mp hs]; decide
    · rcases gone_mem s hs with z | z
      · exact h s z.1
      · rw [z.2]; decide
theorem Ad.Tiny.gone {x : Ad} (h : x.Tiny) : x.gone.Tiny := ⟨goneV_tiny (w := x.w) h.stp, h.que, h.mar, h.hou⟩
/-! ### plain forms go along with resolving -/
/-! ### values that are small addresses -/
def GoodsT (n : Nat) (H : Hp) (vs : List V) : Prop := ∀ v ∈ vs, ∃ x : Ad, (x.Wf ∧ x.Tiny ∧ x.steps.length ≤ n) ∧ IsT H x.data v
theorem GoodsT.mono {n : Nat} {H H' : Hp} {vs : List V} (h : GoodsT n H vs) (sm : SameT H H') : GoodsT n H' vs := fun v hv => by
  obtain ⟨x, h1, h3⟩ := h v hv
  exact ⟨x, h1, h3.mono sm⟩
theorem GoodsT.nil {n : Nat} {H : Hp} : GoodsT n H [] := fun v hv => by cases hv
theorem GoodsT.cons {n : Nat} {H : Hp} {v : V} {vs : List V} {x : Ad} (h1 : x.Wf ∧ x.Tiny ∧ x.steps.length ≤ n) (h3 : IsT H x.data v) (h : GoodsT n H vs) : GoodsT n H (v :: vs) := fun u hu => by
  rcases List.mem_cons.mp hu with rfl | hu
  · exact ⟨x, h1, h3⟩
  · exact h u hu
theorem GoodsT.snoc {n : Nat} {H : Hp} {v : V} {vs : List V} {x : Ad} (h : GoodsT n H vs) (h1 : x.Wf ∧ x.Tiny ∧ x.steps.length ≤ n) (h3 : IsT H x.data v) : GoodsT n H (vs ++ [v]) := fun u hu => by
  rcases List.mem_append.mp hu with hu | hu
  · exact h u hu
  · rw [List.mem_singleton.mp hu]; exact ⟨x, h1, h3⟩
theorem Ad.Tiny.bare {x : Ad} (h : x.Tiny) : ({ x with scheme := [] } : Ad).Tiny := ⟨h.stp, h.que, h.mar, h.hou⟩
theorem Ad.Tiny.local {x : Ad} (h : x.Tiny) : ({ x with scheme := [], house := none, door := none } : Ad).Tiny := ⟨h.stp, h.que, h.mar, fun l e => by cases e⟩
end Wm
/-! WRITING BY DRAWN BITS, as mathematics -/
namespace Wm
open PySem L2
/-- a list of small whole numbers that grows -/
def Bt (H : Hp) (q : Addr) (n : Nat) : Prop := ∃ bs : List Int, H q = some (.lst (bs.map V.int)) ∧ bs ≠ [] ∧ (∀ b ∈ bs, 0 ≤ b ∧ b ≤ 2147483647) ∧ bs.length ≤ n
theorem Bt.toT {H H' : Hp} {q : Addr} {n : Nat} (h : Bt H q n) (s : SameBut q H H') : SameT H H' := by
  obtain ⟨bs, hq, _⟩ := h
  exact s.toT hq
theorem Bt.same {H H' : Hp} {q : Addr} {n : Nat} (h : Bt H q n) (s : Same H H') : Bt H' q n := by
  obtain ⟨bs, hq, r⟩ := h
  exact ⟨bs, s _ _ hq, r⟩
theorem Bt.le {H : Hp} {q : Addr} {n m : Nat} (h : Bt H q n) (hm : n ≤ m) : Bt H q m := by
  obtain ⟨bs, hq, h1, h2, h3⟩ := h
  exact ⟨bs, hq, h1, h2, Nat.le_trans h3 hm⟩
theorem wrt_128 {fr s w : List Nat} (hf : ∀ c ∈ fr, c < 128) (h : WrT fr s w) : ∀ c ∈ w, c < 128 := by
  induction h with
  | nil => intro c hc; cases hc
  | self a b _ ih =>
    intro d hd
    rcases List.mem_cons.mp hd with rfl | hd
    · rcases a with a | a
      · exact wch_lt (by unfold wch; rw [a]; rfl)
      · exact hf _ a
    · exact ih d hd
  | pair a _ ih =>
    intro d hd
    obtain ⟨_, h1, h2, _⟩ := sgO_first a
    simp only [List.mem_cons] at hd
    rcases hd with rfl | rfl | rfl | hd
    · decide
    · exact h1
    · exact h2
    · exact ih d hd
theorem wrt_58 {fr s w : List Nat} (hf : (58 : Nat) ∉ fr) (h : WrT fr s w) : ∀ c ∈ w, c ≠ 58 := by
  induction h with
  | nil => intro c hc; cases hc
  | self a b _ ih =>
    intro d hd
    rcases List.mem_cons.mp hd with rfl | hd
    · rcases a with a | a
      · intro z; rw [z] at a; cases a
      · intro z; rw [z] at a; exact hf a
    · exact ih d hd
  | pair a _ ih =>
    intro d hd
    unfold sgO at a
    simp only [List.mem_cons] at hd
    rcases hd with rfl | rfl | rfl | hd
    · decide
    · intro z; subst z
      rw [show fig 58 = none by decide] at a
      simp at a
    · intro z; subst z
      rw [show fig 58 = none by decide] at a
      simp at a
    · exact ih d hd
theorem frS_58 : (58 : Nat) ∉ frS := by decide +kernel
theorem tlW_58 {ss : List (List Nat)} {e : Bool} {v : List Nat} (h : TlW ss e v) : ∀ c ∈ v, c ≠ 58 := by
  induction h with
  | stop => intro c hc; cases hc
  | ends => intro c hc; rw [List.mem_singleton.mp hc]; decide
  | more hw _ _ ih =>
    intro c hc
    simp only [List.mem_cons, List.mem_append] at hc
    rcases hc with rfl | hc | hc
    · decide
    · exact wrt_58 frS_58 hw c hc
    · exact ih c hc
theorem stpW_58 {ss : List (List Nat)} {e : Bool} {v : List Nat} (h : StpW ss e v) : ∀ c ∈ v, c ≠ 58 := by
  cases h with
  | none => intro c hc; cases hc
  | some hw _ ht =>
    intro c hc
    rcases List.mem_append.mp hc with hc | hc
    · exact wrt_58 frS_58 hw c hc
    · exact tlW_58 ht c hc
theorem schM_none {w r : List Nat} (hw : ∀ c ∈ w, c ≠ 58) (hr : r = [] ∨ ∃ c y, r = c :: y ∧ isAln c = false ∧ c ≠ 58) : schM (w ++ r) = [] := by
  refine (schM_no ?_).1
  rintro ⟨_, z2, z3⟩
  rcases hr with rfl | ⟨c, y, rfl, h1, h2⟩
  · rw [List.append_nil] at z3
    exact hw 58 (List.mem_of_getElem? z3) rfl
  · have e : ahead (w ++ c :: y) = w ++ c :: ahead y := by
      unfold ahead
      rw [List.takeWhile_append_of_pos (fun c hc => decide_eq_true (hw c hc)), List.takeWhile_cons_of_pos (by simpa using h2)]
    rw [e] at z2
    simp only [schD, Bool.and_eq_true, List.all_eq_true] at z2
    have := z2.2 c (by simp)
    rw [h1] at this
    cases this
end Wm
namespace L2
open PySem
end L2
namespace Wm
open PySem L2
/-- a pair, written -/
def PrW (p : List Nat × Option (List Nat)) (w : List Nat) : Prop := ∃ a v, w = a ++ v ∧ WrT frQ p.1 a ∧ ValW p.2 v
inductive PrWs : List (List Nat × Option (List Nat)) → List (List Nat) → Prop
  | nil : PrWs [] []
  | cons {p : List Nat × Option (List Nat)} {w : List Nat} {ps : List (List Nat × Option (List Nat))} {ws : List (List Nat)} : PrW p w → PrWs ps ws → PrWs (p :: ps) (w :: ws)
theorem PrWs.snoc {p : List Nat × Option (List Nat)} {w : List Nat} (h : PrW p w) : ∀ {ps : List (List Nat × Option (List Nat))} {ws : List (List Nat)}, PrWs ps ws → PrWs (ps ++ [p]) (ws ++ [w])
  | _, _, .nil => .cons h .nil
  | _, _, .cons a r => .cons a (PrWs.snoc h r)
theorem PrWs.length : ∀ {ps : List (List Nat × Option (List Nat))} {ws : List (List Nat)}, PrWs ps ws → ws.length = ps.length
  | _, _, .nil => rfl
  | _, _, .cons _ r => by simp [PrWs.length r]
theorem prsW_of : ∀ {ps : List (List Nat × Option (List Nat))} {ws : List (List Nat)}, PrWs ps ws → (∀ p ∈ ps, p.1 ≠ []) → PrsW ps (tlT 38 ws)
  | _, _, .nil, _ => .nil
  | (n, o) :: ps, _, .cons (w := w) (ws := ws) h r, hn => by
    obtain ⟨a, v, rfl, ha, hv⟩ := h
    have := PrsW.cons ha (hn (n, o) (List.mem_cons_self ..)) hv (prsW_of r fun p hp => hn p (List.mem_cons_of_mem _ hp))
    simpa [tlT] using this
theorem queW_of {ps : List (List Nat × Option (List Nat))} {ws : List (List Nat)} (h : PrWs ps ws) (hn : ∀ p ∈ ps, p.1 ≠ []) : QueW (some ps) (63 :: joinT 38 ws) := by
  cases h with
  | nil => rfl
  | cons h r =>
    rename_i p w ps ws
    obtain ⟨n, o⟩ := p
    obtain ⟨a, v, rfl, ha, hv⟩ := h
    exact ⟨a, v, tlT 38 ws, by simp [joinT], ha, hn (n, o) (List.mem_cons_self ..), hv, prsW_of r fun p hp => hn p (List.mem_cons_of_mem _ hp)⟩
/-- steps, written -/
inductive StWs : List (List Nat) → List (List Nat) → Prop
  | nil : StWs [] []
  | cons {s w : List Nat} {ss ws : List (List Nat)} : WrT frS s w → StWs ss ws → StWs (s :: ss) (w :: ws)
theorem StWs.snoc {s w : List Nat} (h : WrT frS s w) : ∀ {ss ws : List (List Nat)}, StWs ss ws → StWs (ss ++ [s]) (ws ++ [w])
  | _, _, .nil => .cons h .nil
  | _, _, .cons a r => .cons a (StWs.snoc h r)
theorem StWs.length : ∀ {ss ws : List (List Nat)}, StWs ss ws → ws.length = ss.length
  | _, _, .nil => rfl
  | _, _, .cons _ r => by simp [StWs.length r]
theorem tlW_of {e : Bool} : ∀ {ss ws : List (List Nat)}, StWs ss ws → (∀ s ∈ ss, s ≠ []) → TlW ss e (tlT 47 ws ++ if e then [47] else [])
  | _, _, .nil, _ => by cases e <;> simp [tlT] <;> constructor
  | s :: ss, _, .cons (w := w) (ws := ws) h r, hn => by
    have := TlW.more h (hn s (List.mem_cons_self ..)) (tlW_of (e := e) r fun p hp => hn p (List.mem_cons_of_mem _ hp))
    simpa [tlT] using this
theorem stpW_of {e : Bool} {ss ws : List (List Nat)} (h : StWs ss ws) (hn : ∀ s ∈ ss, s ≠ []) : StpW ss e (joinT 47 ws ++ if e && !ss.isEmpty then [47] else []) := by
  cases h with
  | nil => simp [joinT]; exact .none
  | cons h r =>
    rename_i s w ss ws
    have := StpW.some h (hn s (List.mem_cons_self ..)) (tlW_of (e := e) r fun p hp => hn p (List.mem_cons_of_mem _ hp))
    simpa [joinT] using this
end Wm
namespace Wm
open PySem L2
theorem frQ_ok : (126 : Nat) ∉ frQ ∧ ∀ c ∈ frQ, c < 128 := by decide +kernel
theorem frS_ok : (126 : Nat) ∉ frS ∧ ∀ c ∈ frS, c < 128 := by decide +kernel
theorem frM_ok : (126 : Nat) ∉ frM ∧ ∀ c ∈ frM, c < 128 := by decide +kernel
theorem Bt.ne {H : Hp} {q b : Addr} {n : Nat} {xs : List V} (h : Bt H q n) (hb : H b = some (.tup xs)) : b ≠ q := by
  obtain ⟨bs, hq, _⟩ := h
  intro z
  subst z
  rw [hb] at hq
  cases hq
theorem Bt.upd {H : Hp} {q b : Addr} {n : Nat} {o : HO} (h : Bt H q n) (hb : b ≠ q) : Bt (L2.upd H b o) q n := by
  obtain ⟨bs, hq, r⟩ := h
  exact ⟨bs, by rw [upd_ne hb.symm]; exact hq, r⟩
end Wm
/-! WALKS THAT YIELD TUPLES OF THEIR OWN (enumerate, zip) over the hand layer -/
namespace L2
open PySem PySem.Spec PyProof.Rows
section
variable {X : Cx} {pins : List (Addr × Obj)} {σ : St} {H : Hp} {s : Shared} {h' : Heap}
theorem Inv.walked {t' : Nat} {wr : List Addr} {T : Addr} {o : HO} (I : Inv X pins σ H s) (hf : ∀ b ∈ wr, FpOk X pins H b) (k : ∀ b u, b ∉ wr → s.heap.get? b = some u → h'.get? b = some u) (hT : s.heap.objs.size ≤ T)
    (new : ObjOk X.prog X.w (upd H T o) h' T o) : Inv X pins σ (upd H T o) { s with heap := h', toks := t' } := by
  have hn : H T = none := I.hok.fresh hT
  have nw : ∀ b u, H b = some u → b ∉ wr := fun b u e z => by rw [(hf b z).1] at e; cases e
  refine I.step (g' := s.gens) (d' := s.drawn) (ch := wr) (fun b hb => ?_) (fun b u _ _ hc e _ => k b u hc e) (fun b u _ _ hc e _ => ⟨u.slots, k b u hc e⟩) (fun b u _ q n => ?_)
    (fun b u hc e => ⟨u, k b u hc e⟩) (fun b xs q => ?_) (fun b u xs q => ?_) (fun b ps q => ?_) (fun m hm => ?_) (fun b u e => ?_) I.bare
  · obtain ⟨f0, f1, f2, f3, f4, f5⟩ := hf b hb
    exact ⟨f3, f1, f4, f5⟩
  · rw [upd_ne (Nat.ne_of_lt (Nat.lt_of_lt_of_le (Heap.lt_size q) hT))]; exact n
  · rw [upd_ne (ne_of_none q hn)]; exact q
  · rw [upd_ne (ne_of_none q hn)]; exact q
  · exact ⟨#[], by rw [upd_ne (ne_of_none q hn), q]; simp⟩
  · obtain ⟨u, es, ep, ho, r⟩ := hm
    refine ⟨u, es, ep, k _ u (fun z => ?_) ho, r⟩
    exact (hf _ z).2.1 rfl
  · by_cases hb : b = T
    · subst hb; rw [upd_same] at e; cases e; exact new
    · rw [upd_ne hb] at e
      refine (I.hok b u e).stay (fun c v hc q => k c v ?_ q) (fun c q => by rw [upd_ne (ne_of_none q hn)]; exact q) fun c xs q => by rw [upd_ne (ne_of_none q hn)]; exact q
      rcases hc with z | z
      · rw [z]; exact nw b u e
      · exact nw c _ z
end
/-- a walk that yields new tuples, told by what stands in them; `ok` says that what it walks is there -/
def ItW (n : Nat) (ok : Hp → Prop) (pt : Nat → Hp → List V → Prop) : It :=
  ⟨fun i H => i < n ∧ ok H, fun i H x H' => ∃ T xs, x = .ref T ∧ H T = none ∧ H' = upd H T (.tup xs) ∧ pt i H xs, fun i H => i = n ∧ ok H⟩
section
variable {σ : St} {H : Hp} {D : Ends} {g : TG} {tb : TS}
end
/-! ### a tuple's items, drawn one by one -/
section
variable {prog : Program} {w : World} {A : Around} {E : Value → Shared → Prop} {s : Shared}
end
/-! ### enumerate of a tuple, made -/
section
variable {prog : Program} {w : World} {A : Around} {E : Value → Shared → Prop} {s : Shared}
end
/-! ### for i, x in enumerate(a tuple) -/
def ItE (K : PySem.W.Frag) (a : Addr) (xs : List V) : It := ItW xs.length (fun H => SqT K H a xs) fun i _ ys => ∃ v, xs[i]? = some v ∧ ys = [.int (i : Int), v]
section
variable {X : Cx} {K : PySem.W.Frag} {elts : List Expr} {kk : Nat} {tpos : Pos}
def iEnum (K : PySem.W.Frag) (ta : TA) : TI := fun σ H R => ta σ H fun vs H1 => ∃ a xs, vs = [.ref a] ∧ SqT K H1 a xs ∧ R (ItE K a xs) H1
variable {σ : St} {H : Hp} {D : Ends} {g : TG} {tb : TS} {aa : TA}
theorem rd_forE : tFor (iEnum K aa) g tb D σ H ↔ aa σ H fun vs H1 => ∃ a xs, vs = [.ref a] ∧ SqT K H1 a xs ∧ LoopI (ItE K a xs) g tb D σ H1 := Iff.rfl
end
/-! ### zip of two things that are drawn -/
structure Zap (z TI TO i1 i2 l1 l2 : Addr) : Prop where
  a1 : TI ≠ z ∧ TO ≠ z ∧ i1 ≠ z ∧ i2 ≠ z ∧ l1 ≠ z ∧ l2 ≠ z
  a2 : TI ≠ TO ∧ TI ≠ i1 ∧ TI ≠ i2 ∧ TO ≠ i1 ∧ TO ≠ i2 ∧ i1 ≠ i2
  a3 : l1 ≠ TO ∧ l2 ≠ TO ∧ l1 ≠ i2 ∧ l2 ≠ i1
section
variable {prog : Program} {w : World} {A : Around} {E : Value → Shared → Prop} {s : Shared}
variable {z TI TO i1 i2 l1 l2 : Addr} {n1 n2 k : Nat} {P1 P2 : Nat → Value → Prop} {S1 S2 : Nat → Heap → Prop}
end
/-! ### zip of two tuples, made -/
section
variable {prog : Program} {w : World} {A : Around} {E : Value → Shared → Prop} {s : Shared}
end
/-! ### for x, y in zip(a tuple, a tuple) -/
def ItZ (K : PySem.W.Frag) (a b : Addr) (xs ys : List V) : It := ItW (min xs.length ys.length) (fun H => SqT K H a xs ∧ SqT K H b ys) fun i _ vs => ∃ x y, xs[i]? = some x ∧ ys[i]? = some y ∧ vs = [x, y]
section
variable {X : Cx} {K : PySem.W.Frag} {elts : List Expr} {kk : Nat} {tpos : Pos}
def iZip (K : PySem.W.Frag) (ta : TA) : TI := fun σ H R => ta σ H fun vs H1 => ∃ a b xs ys, vs = [.ref a, .ref b] ∧ SqT K H1 a xs ∧ SqT K H1 b ys ∧ R (ItZ K a b xs ys) H1
variable {σ : St} {H : Hp} {D : Ends} {g : TG} {tb : TS} {aa : TA}
theorem rd_forZ : tFor (iZip K aa) g tb D σ H ↔ aa σ H fun vs H1 => ∃ a b xs ys, vs = [.ref a, .ref b] ∧ SqT K H1 a xs ∧ SqT K H1 b ys ∧ LoopI (ItZ K a b xs ys) g tb D σ H1 := Iff.rfl
variable {p : Addr} {fv : St} {tt : TT} {te : TE} {Q : VK} {H1 : Hp} {fr : List Nat}
theorem rd_comp2Z : tComp2 K (iZip K aa) fr tt te σ H Q ↔ aa σ H fun vs H1 => ∃ a b xs ys, vs = [.ref a, .ref b] ∧ SqT K H1 a xs ∧ SqT K H1 b ys ∧ ∀ p, H1 p = none → CompI2 K (ItZ K a b xs ys) p (frV σ fr) tt te Q H1 := Iff.rfl
end
/-! ### a comprehension over a range -/
section
variable {p : Addr} {fv : St} {tt : TT} {te : TE} {Q : VK} {H1 H : Hp} {fr : List Nat} {aa : TA} {σ : St}
theorem rd_compRg : tComp (iRng1 aa) fr tt te σ H Q ↔ aa σ H fun vs H1 => ∃ j : Int, vs = [.int j] ∧ -(2 ^ 62) ≤ j ∧ j < 2 ^ 62 ∧ ∀ p, H1 p = none → CompI (Itr 0 j.toNat) p (frV σ fr) tt te Q H1 := Iff.rfl
theorem comp_rangeJ {n : Nat} (J : Nat → List V → Hp → Prop) (hlen : n ≤ sizeLine) (h0 : J 0 [] (upd H1 p (.lst [])))
    (he : ∀ (i : Nat) (ys : List V) (H2 : Hp) (T : VK), i < n → J i ys H2 → H2 p = some (.lst ys) → (∀ y H3, H3 p = some (.lst ys) → J (i + 1) (ys ++ [y]) (upd H3 p (.lst (ys ++ [y]))) → T y H3) → te (some (.int (0 + (i : Int))) :: fv) H2 T)
    (hQ : ∀ ys H2, J n ys H2 → H2 p = some (.lst ys) → Q (.ref p) H2) : CompI (Itr 0 n) p fv tYes te Q H1 := by
  refine ⟨fun i m ys H2 => m = n - i ∧ i ≤ n ∧ ys.length = i ∧ H2 p = some (.lst ys) ∧ J i ys H2, ⟨n, by simp, Nat.zero_le _, rfl, upd_same, h0⟩, ?_⟩
  rintro i m ys H2 ⟨rfl, hi, hyl, hp2, hJ⟩
  refine ⟨hp2, ?_⟩
  by_cases hlt : i < n
  · refine .inr ⟨hlt, by omega, fun x H3 y => ?_⟩
    obtain ⟨rfl, rfl⟩ := y
    unfold tYes
    dsimp only
    rw [if_pos rfl]
    exact he i ys _ _ hlt hJ hp2 fun y H5 hp5 hJ5 => ⟨hp5, n - (i + 1), by omega, rfl, hlt, by rw [List.length_append, hyl]; rfl, upd_same, hJ5⟩
  · have e : i = n := by omega
    subst e
    exact .inl ⟨Nat.le_refl _, hQ ys H2 hJ hp2⟩
end
end L2
namespace Wm
open PySem L2
/-- an address of many steps, or of many pairs -/
def LongOk (x : Ad) : Prop := ∃ (ss : List Nat) (b : Bool), (∀ c ∈ ss, isSg c = true) ∧ 0 < ss.length ∧ ss.length ≤ 300 ∧
  (x = ⟨[], none, none, true, ss.map fun c => [c], b, none, none⟩ ∨ x = ⟨[], none, none, false, [], false, some (ss.map fun c => ([c], none)), none⟩)
end Wm
namespace Wm
open PySem L2
theorem isTAll_ones {H : Hp} : ∀ (ss : List Nat), IsTAll H ((ss.map fun c => [c]).map st) (ss.map fun c => V.str ⟨#[c]⟩)
  | [] => .nil
  | c :: ss => .cons (.str _) (isTAll_ones ss)
theorem LongOk.wf {x : Ad} (h : LongOk x) : x.Wf := by
  obtain ⟨ss, b, hs, h0, hl, rfl | rfl⟩ := h
  · refine ⟨⟨Nat.zero_le _, fun c hc => (by simp at hc), fun c hc => (by simp at hc)⟩, fun l e => (by cases e), fun i e => (by cases e), fun s hm => ?_, fun _ => rfl, fun e => ?_, fun ps e => (by cases e), fun l e => (by cases e)⟩
    · obtain ⟨c, hc, rfl⟩ := List.mem_map.mp hm
      exact ⟨Nat.one_pos, fun d hd => by rw [List.mem_singleton.mp hd]; exact hs c hc⟩
    · have := congrArg List.length e
      simp only [List.length_map, List.length_nil] at this
      omega
  · refine ⟨⟨Nat.zero_le _, fun c hc => (by simp at hc), fun c hc => (by simp at hc)⟩, fun l e => (by cases e), fun i e => (by cases e), fun s hm => (by simp at hm), fun e => ?_, fun e => rfl, fun ps e p hp => ?_, fun l e => (by cases e)⟩
    · rcases e with e | e <;> exact absurd rfl e
    · cases e
      obtain ⟨c, hc, rfl⟩ := List.mem_map.mp hp
      exact ⟨⟨Nat.one_pos, fun d hd => by rw [List.mem_singleton.mp hd]; exact hs c hc⟩, fun v e => by cases e⟩
theorem LongOk.sz {x : Ad} (h : LongOk x) : x.Sz := by
  obtain ⟨ss, b, hs, h0, hl, rfl | rfl⟩ := h
  · refine ⟨fun s hm => ?_, fun ps e => (by cases e), fun l e => (by cases e), by rw [List.length_map]; omega, ?_⟩
    · obtain ⟨c, hc, rfl⟩ := List.mem_map.mp hm
      show 1 ≤ 2000
      decide
    · have hj := join_bound (sep := 47) (m := 3) (ys := (ss.map fun c => [c]).map wr) fun s hs => by
        obtain ⟨t, ht, rfl⟩ := List.mem_map.mp hs
        obtain ⟨c, hc, rfl⟩ := List.mem_map.mp ht
        have := wr_len [c]
        simpa using this
      rw [List.length_map, List.length_map] at hj
      have e2 : ∀ z : Bool, (if z then [47] else [] : List Nat).length ≤ 1 := fun z => by cases z <;> simp
      have e3 := e2 (b && !(ss.map fun c => [c]).isEmpty)
      have e1 : (joinT 47 ((ss.map fun c => [c]).map wr)).length ≤ 1200 := by omega
      show (schT [] ++ (houT none ++ (dooT none ++ (([47] ++ (joinT 47 ((ss.map fun c => [c]).map wr) ++ (if b && !(ss.map fun c => [c]).isEmpty then [47] else []))) ++ (queT none ++ oT 35 none))))).length ≤ 90000
      simp only [List.length_append, List.length_cons, List.length_nil, schT, houT, dooT, queT, oT, if_true]
      omega
  · refine ⟨fun s hm => (by simp at hm), fun ps e => ?_, fun l e => (by cases e), by show 0 ≤ 2000; decide, ?_⟩
    · cases e
      refine ⟨by rw [List.length_map]; omega, fun p hp => ?_⟩
      obtain ⟨c, hc, rfl⟩ := List.mem_map.mp hp
      exact ⟨by show 1 ≤ 2000; decide, fun v e => by cases e⟩
    · have hj := join_bound (sep := 38) (m := 3) (ys := (ss.map fun c => (([c], none) : List Nat × Option (List Nat))).map pairT) fun s hs => by
        obtain ⟨t, ht, rfl⟩ := List.mem_map.mp hs
        obtain ⟨c, hc, rfl⟩ := List.mem_map.mp ht
        have := wr_len [c]
        simpa [pairT, oT] using this
      rw [List.length_map, List.length_map] at hj
      show (schT [] ++ (houT none ++ (dooT none ++ (([] ++ ([] ++ [])) ++ ((63 :: joinT 38 ((ss.map fun c => (([c], none) : List Nat × Option (List Nat))).map pairT)) ++ oT 35 none))))).length ≤ 90000
      simp only [List.length_append, List.length_cons, List.length_nil, schT, houT, dooT, oT, if_true]
      omega
end Wm
namespace Wm
open PySem L2
/-- the / of a way without steps may be left out behind a scheme or a house -/
def RdS (x : Ad) (r : Bool) : Prop := r = x.rooted ∨ (r = false ∧ x.rooted = true ∧ x.steps = [] ∧ x.ends = true ∧ (x.scheme ≠ [] ∨ x.house ≠ none))
def WayC (must r ro : Bool) (ss : List (List Nat)) (e : Bool) : Prop := (r = ro ∧ (ss = [] → e = r) ∧ (must = true → r = true)) ∨ (r = false ∧ must = true ∧ ro = true ∧ ss = [] ∧ e = true)
def RdW2 (x : Ad) (t : List Nat) : Prop := ∃ h d w q m r, RdS x r ∧ t = schT x.scheme ++ (h ++ (d ++ ((if r then [47] else []) ++ (w ++ (q ++ m))))) ∧ schM t = x.scheme ∧ HouW x.house h ∧ DooW x.door d ∧ StpW x.steps x.ends w ∧ QueW x.quest q ∧ MarW x.mark m
end Wm
namespace Wm
open PySem L2
theorem sgO_up {c : Nat} (hc : isSg c = true) : sgO (PyProof.Rows.up1 (hexd (c / 16))) (PyProof.Rows.up1 (hexd (c % 16))) = some c := by
  have l := isSg_lt hc
  have key : ∀ h, h < 16 → fig (PyProof.Rows.up1 (hexd h)) = some h := by decide +kernel
  unfold sgO
  rw [key (c / 16) (by omega), key (c % 16) (by omega)]
  simp only
  rw [show c / 16 * 16 + c % 16 = c by omega, if_pos hc]
theorem hexd_128 : ∀ h, h < 16 → hexd h < 128 := by decide +kernel
end Wm
namespace Wm
open PySem L2
theorem cons_128 {a : Nat} {l : List Nat} (ha : a < 128) (h : ∀ c ∈ l, c < 128) : ∀ c ∈ a :: l, c < 128 := fun c hc => by
  rcases List.mem_cons.mp hc with rfl | hc
  · exact ha
  · exact h c hc
theorem app_128 {k l : List Nat} (hk : ∀ c ∈ k, c < 128) (h : ∀ c ∈ l, c < 128) : ∀ c ∈ k ++ l, c < 128 := fun c hc => by
  rcases List.mem_append.mp hc with hc | hc
  · exact hk c hc
  · exact h c hc
theorem nil_128 : ∀ c ∈ ([] : List Nat), c < 128 := fun c hc => by cases hc
theorem houW_128 {o : Option (List Nat)} {w : List Nat} (h : HouW o w) : ∀ c ∈ w, c < 128 := by
  cases o with
  | none => rw [show w = [] from h]; exact nil_128
  | some s => obtain ⟨v, rfl, hv, _⟩ := h; exact cons_128 (by decide) (cons_128 (by decide) (wrt_128 nil_128 hv))
theorem marW_128 {o : Option (List Nat)} {w : List Nat} (h : MarW o w) : ∀ c ∈ w, c < 128 := by
  cases o with
  | none => rw [show w = [] from h]; exact nil_128
  | some s => obtain ⟨v, rfl, hv⟩ := h; exact cons_128 (by decide) (wrt_128 frM_ok.2 hv)
theorem valW_128 {o : Option (List Nat)} {w : List Nat} (h : ValW o w) : ∀ c ∈ w, c < 128 := by
  cases o with
  | none => rw [show w = [] from h]; exact nil_128
  | some s => obtain ⟨v, rfl, hv⟩ := h; exact cons_128 (by decide) (wrt_128 frQ_ok.2 hv)
theorem dooW_128 {o : Option Int} {w : List Nat} (h : DooW o w) : ∀ c ∈ w, c < 128 := by
  cases o with
  | none => rw [show w = [] from h]; exact nil_128
  | some n => obtain ⟨ds, rfl, _, hd, _⟩ := h; exact cons_128 (by decide) fun c hc => by have := hd c hc; omega
theorem tlW_128 {ss : List (List Nat)} {e : Bool} {v : List Nat} (h : TlW ss e v) : ∀ c ∈ v, c < 128 := by
  induction h with
  | stop => exact nil_128
  | ends => exact cons_128 (by decide) nil_128
  | more hw _ _ ih => exact cons_128 (by decide) (app_128 (wrt_128 frS_ok.2 hw) ih)
theorem stpW_128 {ss : List (List Nat)} {e : Bool} {v : List Nat} (h : StpW ss e v) : ∀ c ∈ v, c < 128 := by
  cases h with
  | none => exact nil_128
  | some hw _ ht => exact app_128 (wrt_128 frS_ok.2 hw) (tlW_128 ht)
theorem prsW_128 {ps : List (List Nat × Option (List Nat))} {r : List Nat} (h : PrsW ps r) : ∀ c ∈ r, c < 128 := by
  induction h with
  | nil => exact nil_128
  | cons hw _ hv _ ih => exact cons_128 (by decide) (app_128 (wrt_128 frQ_ok.2 hw) (app_128 (valW_128 hv) ih))
theorem queW_128 {q : Option (List (List Nat × Option (List Nat)))} {w : List Nat} (h : QueW q w) : ∀ c ∈ w, c < 128 := by
  cases q with
  | none => rw [show w = [] from h]; exact nil_128
  | some ps =>
    cases ps with
    | nil => rw [show w = [63] from h]; exact cons_128 (by decide) nil_128
    | cons p ps =>
      obtain ⟨n, o⟩ := p
      obtain ⟨a, v, r, rfl, ha, _, hv, hr⟩ := h
      exact cons_128 (by decide) (app_128 (wrt_128 frQ_ok.2 ha) (app_128 (valW_128 hv) (prsW_128 hr)))
theorem rdW2_128 {x : Ad} {t : List Nat} (wf : x.Wf) (h : RdW2 x t) : ∀ c ∈ t, c < 128 := by
  obtain ⟨h, d, w, q, m, r, _, rfl, _, hH, hD, hS, hQ, hM⟩ := h
  refine app_128 ?_ (app_128 (houW_128 hH) (app_128 (dooW_128 hD) (app_128 ?_ (app_128 (stpW_128 hS) (app_128 (queW_128 hQ) (marW_128 hM))))))
  · intro c hc
    unfold schT at hc
    split at hc
    · cases hc
    · rcases List.mem_append.mp hc with hc | hc
      · exact isSg_128 (aln_sg (wf.sch.2.1 c hc))
      · rw [List.mem_singleton.mp hc]; decide
  · cases r
    · exact nil_128
    · exact cons_128 (by decide) nil_128
theorem rdW2_mk {x : Ad} {h d w q m : List Nat} {r : Bool} (wf : x.Wf) (hr : RdS x r) (hH : HouW x.house h) (hD : DooW x.door d) (hS : StpW x.steps x.ends w) (hQ : QueW x.quest q) (hM : MarW x.mark m) :
    RdW2 x (schT x.scheme ++ (h ++ (d ++ ((if r then [47] else []) ++ (w ++ (q ++ m)))))) := by
  refine ⟨h, d, w, q, m, r, hr, rfl, ?_, hH, hD, hS, hQ, hM⟩
  by_cases hs : x.scheme = []
  · rw [hs, show schT [] = [] from rfl, List.nil_append]
    cases hh : x.house with
    | some l =>
      rw [hh] at hH
      obtain ⟨v, rfl, _⟩ := hH
      exact schM_none (w := []) (fun c hc => by cases hc) (.inr ⟨47, _, rfl, by decide, by decide⟩)
    | none =>
      rw [hh] at hH
      have hH : h = [] := hH
      cases hd : x.door with
      | some i => exact absurd hh (wf.doo i hd).2
      | none =>
        rw [hd] at hD
        have hD : d = [] := hD
        rw [hH, hD, List.nil_append, List.nil_append, ← List.append_assoc]
        refine schM_none (fun c hc => ?_) ?_
        · rcases List.mem_append.mp hc with hc | hc
          · split at hc
            · rw [List.mem_singleton.mp hc]; decide
            · cases hc
          · exact stpW_58 hS c hc
        · have hmr : m = [] ∨ ∃ y, m = 35 :: y := by
            cases hm : x.mark with
            | none => rw [hm] at hM; exact .inl hM
            | some s => rw [hm] at hM; obtain ⟨v, e, _⟩ := hM; exact .inr ⟨v, e⟩
          cases hq : x.quest with
          | none =>
            rw [hq] at hQ
            have hQ : q = [] := hQ
            rw [hQ]
            rcases hmr with e | ⟨y, e⟩
            · exact .inl e
            · exact .inr ⟨35, y, e, by decide, by decide⟩
          | some ps =>
            rw [hq] at hQ
            cases ps with
            | nil =>
              have hQ : q = [63] := hQ
              exact .inr ⟨63, m, by rw [hQ]; rfl, by decide, by decide⟩
            | cons a ps =>
              obtain ⟨n, o⟩ := a
              obtain ⟨a, v, r, e, _⟩ := hQ
              exact .inr ⟨63, _, by rw [e]; rfl, by decide, by decide⟩
  · have hc : ∀ c ∈ x.scheme, c ≠ 58 := fun c hc => (wch_not (aln_wch (wf.sch.2.1 c hc))).2.2.2.1
    have er : schT x.scheme = x.scheme ++ [58] := by unfold schT; rw [if_neg hs]
    rw [er, List.append_assoc, List.cons_append, List.nil_append]
    generalize (h ++ (d ++ ((if r then [47] else []) ++ (w ++ (q ++ m))))) = rr
    have ha : ahead (x.scheme ++ 58 :: rr) = x.scheme := ahead_app hc
    have := (schM_yes (t := x.scheme ++ 58 :: rr) (by rw [ha]; exact hs) (by
      rw [ha]
      simp only [schD, Bool.and_eq_true, List.all_eq_true, decide_eq_true_eq]
      exact ⟨⟨⟨fun c hc => aln_sg (wf.sch.2.1 c hc), by show x.scheme.length ≤ 8; exact wf.sch.1⟩, wf.sch.2.2⟩, wf.sch.2.1⟩) (by
      rw [ha, List.getElem?_append_right (Nat.le_refl _), Nat.sub_self]; rfl)).1
    rw [this, ha]
end Wm
namespace Wm
open PySem L2
/-- the one with one part of the other -/
def mixAd (k : Nat) (x y : Ad) : Ad := ⟨if k = 0 then y.scheme else x.scheme, if k = 1 then y.house else x.house, if k = 2 then y.door else x.door, if k = 3 then y.rooted else x.rooted, if k = 3 then y.steps else x.steps, if k = 3 then y.ends else x.ends, if k = 4 then y.quest else x.quest, if k = 5 then y.mark else x.mark⟩
structure PartOk (x : Ad) : Prop where
  sch : x.scheme.length ≤ 8 ∧ (∀ c ∈ x.scheme, isAln c = true) ∧ ∀ c ∈ x.scheme.take 1, isLet c = true
  hou : ∀ l, x.house = some l → 0 < l.length ∧ Tx 60 l
  doo : ∀ i, x.door = some i → (0 ≤ i ∧ i ≤ 65535)
  stp : x.steps.length ≤ 50 ∧ ∀ l ∈ x.steps, 0 < l.length ∧ Tx 60 l
  end_ : x.steps = [] → x.ends = x.rooted
  que : ∀ ps, x.quest = some ps → ps.length ≤ 20 ∧ ∀ p ∈ ps, (0 < p.1.length ∧ Tx 6 p.1) ∧ ∀ v, p.2 = some v → Tx 6 v
  mar : ∀ l, x.mark = some l → Tx 60 l
theorem Ad.Ok.part {x : Ad} (h : x.Ok) : PartOk x := ⟨h.sch, h.hou, fun i e => (h.doo i e).1, ⟨by have := h.stp.1; omega, h.stp.2⟩, h.end_, h.que, h.mar⟩
theorem mix_part {x y : Ad} (hx : PartOk x) (hy : PartOk y) : ∀ k, PartOk (mixAd k x y)
  | 0 => ⟨hy.sch, hx.hou, hx.doo, hx.stp, hx.end_, hx.que, hx.mar⟩
  | 1 => ⟨hx.sch, hy.hou, hx.doo, hx.stp, hx.end_, hx.que, hx.mar⟩
  | 2 => ⟨hx.sch, hx.hou, hy.doo, hx.stp, hx.end_, hx.que, hx.mar⟩
  | 3 => ⟨hx.sch, hx.hou, hx.doo, hy.stp, hy.end_, hx.que, hx.mar⟩
  | 4 => ⟨hx.sch, hx.hou, hx.doo, hx.stp, hx.end_, hy.que, hx.mar⟩
  | 5 => ⟨hx.sch, hx.hou, hx.doo, hx.stp, hx.end_, hx.que, hy.mar⟩
  | k + 6 => ⟨hx.sch, hx.hou, hx.doo, hx.stp, hx.end_, hx.que, hx.mar⟩
theorem mix_list {s h d w q m s' h' d' w' q' m' : V} : ∀ k : Nat, k < 6 → ∃ z, atI [s', h', d', w', q', m'] (k : Int) = some z ∧ cutV [s, h, d, w, q, m] none (some (k : Int)) ++ [z] ++ cutV [s, h, d, w, q, m] (some ((k : Int) + 1)) none = [if k = 0 then s' else s, if k = 1 then h' else h, if k = 2 then d' else d, if k = 3 then w' else w, if k = 4 then q' else q, if k = 5 then m' else m]
  | 0, _ => ⟨s', rfl, rfl⟩
  | 1, _ => ⟨h', rfl, rfl⟩
  | 2, _ => ⟨d', rfl, rfl⟩
  | 3, _ => ⟨w', rfl, rfl⟩
  | 4, _ => ⟨q', rfl, rfl⟩
  | 5, _ => ⟨m', rfl, rfl⟩
theorem mix_vals {x y : Ad} {w q w' q' : V} : ∀ k : Nat, k < 6 → [if k = 0 then (V.str ⟨y.scheme.toArray⟩) else .str ⟨x.scheme.toArray⟩, if k = 1 then otV y.house else otV x.house, if k = 2 then itV y.door else itV x.door, if k = 3 then w' else w, if k = 4 then q' else q, if k = 5 then otV y.mark else otV x.mark] = [.str ⟨(mixAd k x y).scheme.toArray⟩, otV (mixAd k x y).house, itV (mixAd k x y).door, if k = 3 then w' else w, if k = 4 then q' else q, otV (mixAd k x y).mark]
  | 0, _ => rfl
  | 1, _ => rfl
  | 2, _ => rfl
  | 3, _ => rfl
  | 4, _ => rfl
  | 5, _ => rfl
theorem mix_way {H : Hp} {x y : Ad} {w w' : V} (k : Nat) (h : IsT H x.way w) (h' : IsT H y.way w') : IsT H (mixAd k x y).way (if k = 3 then w' else w) := by
  by_cases e : k = 3
  · rw [if_pos e]; unfold mixAd Ad.way; simp only [if_pos e]; exact h'
  · rw [if_neg e]; unfold mixAd Ad.way; simp only [if_neg e]; exact h
theorem mix_que {H : Hp} {x y : Ad} {w w' : V} (k : Nat) (h : IsT H (qD x.quest) w) (h' : IsT H (qD y.quest) w') : IsT H (qD (mixAd k x y).quest) (if k = 4 then w' else w) := by
  by_cases e : k = 4
  · rw [if_pos e]; unfold mixAd; simp only [if_pos e]; exact h'
  · rw [if_neg e]; unfold mixAd; simp only [if_neg e]; exact h
end Wm
namespace Wm
open PySem L2
theorem cut_44 {ns : List Int} (h : ns.length ≤ 63) : (cutA ns (some 19) (some 63)).length ≤ 44 := by
  unfold cutA
  rw [List.length_take, List.length_drop, show HT.sIx ns.length 0 (some 19) = min 19 ns.length from HT.sIx_nat ns.length 0 19, show HT.sIx ns.length ns.length (some 63) = min 63 ns.length from HT.sIx_nat ns.length ns.length 63]
  omega
end Wm
namespace Wm
open PySem L2
theorem RdW.two {x : Ad} {t : List Nat} (h : RdW x t) : RdW2 x t := by
  obtain ⟨h, d, w, q, m, r⟩ := h
  exact ⟨h, d, w, q, m, x.rooted, .inl rfl, r⟩
end Wm
namespace Wm
open PySem L2
def top (i : Nat) : Stmt := PySem.Challenge.pw_waymark_k91_whole_parts_come_back.main.body.getD i (.Pass ⟨0, 0, 0, 0⟩)
abbrev s_made_of : Stmt := top 15
abbrev s_pair_of : Stmt := top 16
abbrev s_figure_number : Stmt := top 18
abbrev s_sign_numbered : Stmt := top 19
abbrev s_is_whole : Stmt := top 35
abbrev s_is_tuple : Stmt := top 45
abbrev s_is_whole_number : Stmt := top 48
abbrev s_slashed : Stmt := top 53
abbrev s_Cursor___init__ : Stmt := inClass (top 62) 0
abbrev s_Cursor_at_end : Stmt := inClass (top 62) 1
abbrev s_Cursor_take : Stmt := inClass (top 62) 3
abbrev s_Cursor_passes : Stmt := inClass (top 62) 4
abbrev s_door_with : Stmt := top 67
abbrev s__law_cell_at : Stmt := top 76
abbrev s__law_table : Stmt := top 77
abbrev s__law_plain : Stmt := top 79
abbrev s__law_deck : Stmt := top 80
abbrev s__law_draw : Stmt := top 81
abbrev s_is_text : Stmt := top 14
abbrev s_sign_of : Stmt := top 17
abbrev s_written : Stmt := top 20
abbrev s_parts_agree : Stmt := top 37
abbrev s_is_door : Stmt := top 40
abbrev s_Cursor_sees : Stmt := inClass (top 62) 2
abbrev s__law_hex : Stmt := top 78
abbrev s__law_some : Stmt := top 82
abbrev s__law_scheme : Stmt := top 83
abbrev s__law_third : Stmt := top 90
abbrev s_is_scheme : Stmt := top 38
abbrev s_is_filled_text : Stmt := top 46
abbrev s_is_text_or_none : Stmt := top 47
abbrev s_shown_house : Stmt := top 51
abbrev s_shown_way : Stmt := top 52
abbrev s_shown_asked : Stmt := top 55
abbrev s_shown_mark : Stmt := top 56
abbrev s_taken_door : Stmt := top 66
abbrev s_taken_pair : Stmt := top 74
abbrev s__law_steps : Stmt := top 84
abbrev s__law_question : Stmt := top 85
abbrev s__law_loose : Stmt := top 87
abbrev s_is_house : Stmt := top 39
abbrev s_is_steps : Stmt := top 42
abbrev s_is_asked : Stmt := top 44
abbrev s_shown_question : Stmt := top 54
abbrev s_taken_scheme : Stmt := top 64
abbrev s_taken_text : Stmt := top 73
abbrev s__law_address : Stmt := top 86
abbrev s__law_loose_question : Stmt := top 88
abbrev s_is_way : Stmt := top 41
abbrev s_is_question : Stmt := top 43
abbrev s_show : Stmt := top 50
abbrev s_taken_way : Stmt := top 68
abbrev s_taken_value : Stmt := top 70
abbrev s_taken_mark : Stmt := top 71
abbrev s_taken_filled_text : Stmt := top 72
abbrev s__law_loosely : Stmt := top 89
abbrev s_parts_stand : Stmt := top 36
abbrev s_taken_house : Stmt := top 65
abbrev s_taken_question : Stmt := top 69
abbrev s_is_address : Stmt := top 34
abbrev s_read : Stmt := top 63
abbrev s_law : Stmt := top 91
abbrev k_SIGNS : V := .str (Str.ofString " !\"#$&'()*+,-./0123456789:;<=>?@ABCDEFGHIJKLMNOPQRSTUVWXYZ[\\]^_`abcdefghijklmnopqrstuvwxyz{|}~")
abbrev k_LETTERS : V := .str (Str.ofString "abcdefghijklmnopqrstuvwxyzABCDEFGHIJKLMNOPQRSTUVWXYZ")
abbrev k_LETTERS_AND_FIGURES : V := .str (Str.ofString "abcdefghijklmnopqrstuvwxyzABCDEFGHIJKLMNOPQRSTUVWXYZ0123456789")
abbrev k_FIGURES : V := .str (Str.ofString "0123456789")
abbrev k_PLAIN : V := .str (Str.ofString "abcdefghijklmnopqrstuvwxyzABCDEFGHIJKLMNOPQRSTUVWXYZ0123456789-_.")
abbrev k_FREE_IN_STEPS : V := .str (Str.ofString "!$'()*,;@&=+")
abbrev k_FREE_IN_QUESTIONS : V := .str (Str.ofString "!$'()*,;@+/?:")
abbrev k_FREE_IN_MARKS : V := .str (Str.ofString "!$'()*,;@&=+/?:")
abbrev k_FIRST_NUMBER : V := .int 32
abbrev k_LAST_NUMBER : V := .int 126
abbrev k_NUMBER_LEFT_OUT : V := .int 37
abbrev k_SMALL_FIGURES : V := .str (Str.ofString "0123456789abcdef")
abbrev k_GREAT_FIGURES : V := .str (Str.ofString "0123456789ABCDEF")
abbrev k_SCHEME : V := .int 0
abbrev k_HOUSE : V := .int 1
abbrev k_DOOR : V := .int 2
abbrev k_WAY : V := .int 3
abbrev k_QUESTION : V := .int 4
abbrev k_MARK : V := .int 5
abbrev k_ROOTED : V := .int 0
abbrev k_STEPS : V := .int 1
abbrev k_ENDS : V := .int 2
abbrev k_LONGEST_SCHEME : V := .int 8
abbrev k_LONGEST_HOUSE : V := .int 60
abbrev k_LAST_DOOR : V := .int 65535
abbrev k_FIRST_FIGURES : V := .str (Str.ofString "234567")
set_option genInjectivity false
set_option genSizeOf false
set_option genSizeOfSpec false
structure G (K : PySem.W.Frag) (mg : Str → Option Value) where
  a_made_of : Addr
  fd_made_of : FuncData
  F_made_of : Fun K "made_of" "made_of" s_made_of a_made_of fd_made_of
  m_made_of : mg "made_of" = some (.ref a_made_of)
  b_made_of : Binds K fd_made_of ["text", "signs"] []
  a_pair_of : Addr
  fd_pair_of : FuncData
  F_pair_of : Fun K "pair_of" "pair_of" s_pair_of a_pair_of fd_pair_of
  m_pair_of : mg "pair_of" = some (.ref a_pair_of)
  b_pair_of : Binds K fd_pair_of ["sign"] []
  a_figure_number : Addr
  fd_figure_number : FuncData
  F_figure_number : Fun K "figure_number" "figure_number" s_figure_number a_figure_number fd_figure_number
  m_figure_number : mg "figure_number" = some (.ref a_figure_number)
  b_figure_number : Binds K fd_figure_number ["figure"] []
  a_sign_numbered : Addr
  fd_sign_numbered : FuncData
  F_sign_numbered : Fun K "sign_numbered" "sign_numbered" s_sign_numbered a_sign_numbered fd_sign_numbered
  m_sign_numbered : mg "sign_numbered" = some (.ref a_sign_numbered)
  b_sign_numbered : Binds K fd_sign_numbered ["number"] []
  a_is_whole : Addr
  fd_is_whole : FuncData
  F_is_whole : Fun K "is_whole" "is_whole" s_is_whole a_is_whole fd_is_whole
  m_is_whole : mg "is_whole" = some (.ref a_is_whole)
  b_is_whole : Binds K fd_is_whole ["address"] []
  a_is_tuple : Addr
  fd_is_tuple : FuncData
  F_is_tuple : Fun K "is_tuple" "is_tuple" s_is_tuple a_is_tuple fd_is_tuple
  m_is_tuple : mg "is_tuple" = some (.ref a_is_tuple)
  b_is_tuple : Binds K fd_is_tuple ["thing", "count"] []
  a_is_whole_number : Addr
  fd_is_whole_number : FuncData
  F_is_whole_number : Fun K "is_whole_number" "is_whole_number" s_is_whole_number a_is_whole_number fd_is_whole_number
  m_is_whole_number : mg "is_whole_number" = some (.ref a_is_whole_number)
  b_is_whole_number : Binds K fd_is_whole_number ["thing"] []
  a_slashed : Addr
  fd_slashed : FuncData
  F_slashed : Fun K "slashed" "slashed" s_slashed a_slashed fd_slashed
  m_slashed : mg "slashed" = some (.ref a_slashed)
  b_slashed : Binds K fd_slashed ["rooted", "texts", "ends"] []
  a_Cursor___init__ : Addr
  fd_Cursor___init__ : FuncData
  F_Cursor___init__ : Fun K "__init__" "Cursor.__init__" s_Cursor___init__ a_Cursor___init__ fd_Cursor___init__
  b_Cursor___init__ : Binds K fd_Cursor___init__ ["self", "text"] []
  a_Cursor_at_end : Addr
  fd_Cursor_at_end : FuncData
  F_Cursor_at_end : Fun K "at_end" "Cursor.at_end" s_Cursor_at_end a_Cursor_at_end fd_Cursor_at_end
  b_Cursor_at_end : Binds K fd_Cursor_at_end ["self"] []
  a_Cursor_take : Addr
  fd_Cursor_take : FuncData
  F_Cursor_take : Fun K "take" "Cursor.take" s_Cursor_take a_Cursor_take fd_Cursor_take
  b_Cursor_take : Binds K fd_Cursor_take ["self"] []
  a_Cursor_passes : Addr
  fd_Cursor_passes : FuncData
  F_Cursor_passes : Fun K "passes" "Cursor.passes" s_Cursor_passes a_Cursor_passes fd_Cursor_passes
  b_Cursor_passes : Binds K fd_Cursor_passes ["self", "text"] []
  a_door_with : Addr
  fd_door_with : FuncData
  F_door_with : Fun K "door_with" "door_with" s_door_with a_door_with fd_door_with
  m_door_with : mg "door_with" = some (.ref a_door_with)
  b_door_with : Binds K fd_door_with ["door", "cursor"] []
  a__law_cell_at : Addr
  fd__law_cell_at : FuncData
  F__law_cell_at : Fun K "_law_cell_at" "_law_cell_at" s__law_cell_at a__law_cell_at fd__law_cell_at
  m__law_cell_at : mg "_law_cell_at" = some (.ref a__law_cell_at)
  b__law_cell_at : Binds K fd__law_cell_at ["_law_script", "_law_k"] []
  a__law_table : Addr
  fd__law_table : FuncData
  F__law_table : Fun K "_law_table" "_law_table" s__law_table a__law_table fd__law_table
  m__law_table : mg "_law_table" = some (.ref a__law_table)
  b__law_table : Binds K fd__law_table [] []
  a__law_plain : Addr
  fd__law_plain : FuncData
  F__law_plain : Fun K "_law_plain" "_law_plain" s__law_plain a__law_plain fd__law_plain
  m__law_plain : mg "_law_plain" = some (.ref a__law_plain)
  b__law_plain : Binds K fd__law_plain ["_law_sign"] []
  a__law_deck : Addr
  fd__law_deck : FuncData
  F__law_deck : Fun K "_law_deck" "_law_deck" s__law_deck a__law_deck fd__law_deck
  m__law_deck : mg "_law_deck" = some (.ref a__law_deck)
  b__law_deck : Binds K fd__law_deck ["_law_cell"] []
  a__law_draw : Addr
  fd__law_draw : FuncData
  F__law_draw : Fun K "_law_draw" "_law_draw" s__law_draw a__law_draw fd__law_draw
  m__law_draw : mg "_law_draw" = some (.ref a__law_draw)
  b__law_draw : Binds K fd__law_draw ["_law_deck_here", "_law_most"] []
  a_is_text : Addr
  fd_is_text : FuncData
  F_is_text : Fun K "is_text" "is_text" s_is_text a_is_text fd_is_text
  m_is_text : mg "is_text" = some (.ref a_is_text)
  b_is_text : Binds K fd_is_text ["thing"] []
  a_sign_of : Addr
  fd_sign_of : FuncData
  F_sign_of : Fun K "sign_of" "sign_of" s_sign_of a_sign_of fd_sign_of
  m_sign_of : mg "sign_of" = some (.ref a_sign_of)
  b_sign_of : Binds K fd_sign_of ["figures"] []
  a_written : Addr
  fd_written : FuncData
  F_written : Fun K "written" "written" s_written a_written fd_written
  m_written : mg "written" = some (.ref a_written)
  b_written : Binds K fd_written ["text"] []
  a_parts_agree : Addr
  fd_parts_agree : FuncData
  F_parts_agree : Fun K "parts_agree" "parts_agree" s_parts_agree a_parts_agree fd_parts_agree
  m_parts_agree : mg "parts_agree" = some (.ref a_parts_agree)
  b_parts_agree : Binds K fd_parts_agree ["address"] []
  a_is_door : Addr
  fd_is_door : FuncData
  F_is_door : Fun K "is_door" "is_door" s_is_door a_is_door fd_is_door
  m_is_door : mg "is_door" = some (.ref a_is_door)
  b_is_door : Binds K fd_is_door ["thing"] []
  a_Cursor_sees : Addr
  fd_Cursor_sees : FuncData
  F_Cursor_sees : Fun K "sees" "Cursor.sees" s_Cursor_sees a_Cursor_sees fd_Cursor_sees
  b_Cursor_sees : Binds K fd_Cursor_sees ["self", "signs"] []
  a__law_hex : Addr
  fd__law_hex : FuncData
  F__law_hex : Fun K "_law_hex" "_law_hex" s__law_hex a__law_hex fd__law_hex
  m__law_hex : mg "_law_hex" = some (.ref a__law_hex)
  b__law_hex : Binds K fd__law_hex ["_law_sign"] []
  a__law_some : Addr
  fd__law_some : FuncData
  F__law_some : Fun K "_law_some" "_law_some" s__law_some a__law_some fd__law_some
  m__law_some : mg "_law_some" = some (.ref a__law_some)
  b__law_some : Binds K fd__law_some ["_law_deck_here", "_law_size"] []
  a__law_scheme : Addr
  fd__law_scheme : FuncData
  F__law_scheme : Fun K "_law_scheme" "_law_scheme" s__law_scheme a__law_scheme fd__law_scheme
  m__law_scheme : mg "_law_scheme" = some (.ref a__law_scheme)
  b__law_scheme : Binds K fd__law_scheme ["_law_deck_here"] []
  a__law_third : Addr
  fd__law_third : FuncData
  F__law_third : Fun K "_law_third" "_law_third" s__law_third a__law_third fd__law_third
  m__law_third : mg "_law_third" = some (.ref a__law_third)
  b__law_third : Binds K fd__law_third ["_law_one", "_law_other", "_law_script"] []
  a_is_scheme : Addr
  fd_is_scheme : FuncData
  F_is_scheme : Fun K "is_scheme" "is_scheme" s_is_scheme a_is_scheme fd_is_scheme
  m_is_scheme : mg "is_scheme" = some (.ref a_is_scheme)
  b_is_scheme : Binds K fd_is_scheme ["thing"] []
  a_is_filled_text : Addr
  fd_is_filled_text : FuncData
  F_is_filled_text : Fun K "is_filled_text" "is_filled_text" s_is_filled_text a_is_filled_text fd_is_filled_text
  m_is_filled_text : mg "is_filled_text" = some (.ref a_is_filled_text)
  b_is_filled_text : Binds K fd_is_filled_text ["thing"] []
  a_is_text_or_none : Addr
  fd_is_text_or_none : FuncData
  F_is_text_or_none : Fun K "is_text_or_none" "is_text_or_none" s_is_text_or_none a_is_text_or_none fd_is_text_or_none
  m_is_text_or_none : mg "is_text_or_none" = some (.ref a_is_text_or_none)
  b_is_text_or_none : Binds K fd_is_text_or_none ["thing"] []
  a_shown_house : Addr
  fd_shown_house : FuncData
  F_shown_house : Fun K "shown_house" "shown_house" s_shown_house a_shown_house fd_shown_house
  m_shown_house : mg "shown_house" = some (.ref a_shown_house)
  b_shown_house : Binds K fd_shown_house ["house", "door"] []
  a_shown_way : Addr
  fd_shown_way : FuncData
  F_shown_way : Fun K "shown_way" "shown_way" s_shown_way a_shown_way fd_shown_way
  m_shown_way : mg "shown_way" = some (.ref a_shown_way)
  b_shown_way : Binds K fd_shown_way ["way"] []
  a_shown_asked : Addr
  fd_shown_asked : FuncData
  F_shown_asked : Fun K "shown_asked" "shown_asked" s_shown_asked a_shown_asked fd_shown_asked
  m_shown_asked : mg "shown_asked" = some (.ref a_shown_asked)
  b_shown_asked : Binds K fd_shown_asked ["name", "value"] []
  a_shown_mark : Addr
  fd_shown_mark : FuncData
  F_shown_mark : Fun K "shown_mark" "shown_mark" s_shown_mark a_shown_mark fd_shown_mark
  m_shown_mark : mg "shown_mark" = some (.ref a_shown_mark)
  b_shown_mark : Binds K fd_shown_mark ["mark"] []
  a_taken_door : Addr
  fd_taken_door : FuncData
  F_taken_door : Fun K "taken_door" "taken_door" s_taken_door a_taken_door fd_taken_door
  m_taken_door : mg "taken_door" = some (.ref a_taken_door)
  b_taken_door : Binds K fd_taken_door ["cursor"] []
  a_taken_pair : Addr
  fd_taken_pair : FuncData
  F_taken_pair : Fun K "taken_pair" "taken_pair" s_taken_pair a_taken_pair fd_taken_pair
  m_taken_pair : mg "taken_pair" = some (.ref a_taken_pair)
  b_taken_pair : Binds K fd_taken_pair ["cursor"] []
  a__law_steps : Addr
  fd__law_steps : FuncData
  F__law_steps : Fun K "_law_steps" "_law_steps" s__law_steps a__law_steps fd__law_steps
  m__law_steps : mg "_law_steps" = some (.ref a__law_steps)
  b__law_steps : Binds K fd__law_steps ["_law_deck_here"] []
  a__law_question : Addr
  fd__law_question : FuncData
  F__law_question : Fun K "_law_question" "_law_question" s__law_question a__law_question fd__law_question
  m__law_question : mg "_law_question" = some (.ref a__law_question)
  b__law_question : Binds K fd__law_question ["_law_deck_here"] []
  a__law_loose : Addr
  fd__law_loose : FuncData
  F__law_loose : Fun K "_law_loose" "_law_loose" s__law_loose a__law_loose fd__law_loose
  m__law_loose : mg "_law_loose" = some (.ref a__law_loose)
  b__law_loose : Binds K fd__law_loose ["_law_text", "_law_free", "_law_cell"] []
  a_is_house : Addr
  fd_is_house : FuncData
  F_is_house : Fun K "is_house" "is_house" s_is_house a_is_house fd_is_house
  m_is_house : mg "is_house" = some (.ref a_is_house)
  b_is_house : Binds K fd_is_house ["thing"] []
  a_is_steps : Addr
  fd_is_steps : FuncData
  F_is_steps : Fun K "is_steps" "is_steps" s_is_steps a_is_steps fd_is_steps
  m_is_steps : mg "is_steps" = some (.ref a_is_steps)
  b_is_steps : Binds K fd_is_steps ["thing"] []
  a_is_asked : Addr
  fd_is_asked : FuncData
  F_is_asked : Fun K "is_asked" "is_asked" s_is_asked a_is_asked fd_is_asked
  m_is_asked : mg "is_asked" = some (.ref a_is_asked)
  b_is_asked : Binds K fd_is_asked ["thing"] []
  a_shown_question : Addr
  fd_shown_question : FuncData
  F_shown_question : Fun K "shown_question" "shown_question" s_shown_question a_shown_question fd_shown_question
  m_shown_question : mg "shown_question" = some (.ref a_shown_question)
  b_shown_question : Binds K fd_shown_question ["question"] []
  a_taken_scheme : Addr
  fd_taken_scheme : FuncData
  F_taken_scheme : Fun K "taken_scheme" "taken_scheme" s_taken_scheme a_taken_scheme fd_taken_scheme
  m_taken_scheme : mg "taken_scheme" = some (.ref a_taken_scheme)
  b_taken_scheme : Binds K fd_taken_scheme ["cursor"] []
  a_taken_text : Addr
  fd_taken_text : FuncData
  T_taken_text : Addr
  dt0_taken_text : Tok
  F_taken_text : FunD K "taken_text" "taken_text" s_taken_text a_taken_text fd_taken_text T_taken_text
  bd_taken_text : Binds K fd_taken_text ["cursor", "free", "most"] [.none]
  m_taken_text : mg "taken_text" = some (.ref a_taken_text)
  b_taken_text : Binds K fd_taken_text ["cursor", "free", "most"] []
  a__law_address : Addr
  fd__law_address : FuncData
  F__law_address : Fun K "_law_address" "_law_address" s__law_address a__law_address fd__law_address
  m__law_address : mg "_law_address" = some (.ref a__law_address)
  b__law_address : Binds K fd__law_address ["_law_script", "_law_start"] []
  a__law_loose_question : Addr
  fd__law_loose_question : FuncData
  F__law_loose_question : Fun K "_law_loose_question" "_law_loose_question" s__law_loose_question a__law_loose_question fd__law_loose_question
  m__law_loose_question : mg "_law_loose_question" = some (.ref a__law_loose_question)
  b__law_loose_question : Binds K fd__law_loose_question ["_law_question_here", "_law_cell"] []
  a_is_way : Addr
  fd_is_way : FuncData
  F_is_way : Fun K "is_way" "is_way" s_is_way a_is_way fd_is_way
  m_is_way : mg "is_way" = some (.ref a_is_way)
  b_is_way : Binds K fd_is_way ["thing"] []
  a_is_question : Addr
  fd_is_question : FuncData
  F_is_question : Fun K "is_question" "is_question" s_is_question a_is_question fd_is_question
  m_is_question : mg "is_question" = some (.ref a_is_question)
  b_is_question : Binds K fd_is_question ["thing"] []
  a_show : Addr
  fd_show : FuncData
  F_show : Fun K "show" "show" s_show a_show fd_show
  m_show : mg "show" = some (.ref a_show)
  b_show : Binds K fd_show ["address"] []
  a_taken_way : Addr
  fd_taken_way : FuncData
  F_taken_way : Fun K "taken_way" "taken_way" s_taken_way a_taken_way fd_taken_way
  m_taken_way : mg "taken_way" = some (.ref a_taken_way)
  b_taken_way : Binds K fd_taken_way ["cursor", "must_be_rooted"] []
  a_taken_value : Addr
  fd_taken_value : FuncData
  F_taken_value : Fun K "taken_value" "taken_value" s_taken_value a_taken_value fd_taken_value
  m_taken_value : mg "taken_value" = some (.ref a_taken_value)
  b_taken_value : Binds K fd_taken_value ["cursor"] []
  a_taken_mark : Addr
  fd_taken_mark : FuncData
  F_taken_mark : Fun K "taken_mark" "taken_mark" s_taken_mark a_taken_mark fd_taken_mark
  m_taken_mark : mg "taken_mark" = some (.ref a_taken_mark)
  b_taken_mark : Binds K fd_taken_mark ["cursor"] []
  a_taken_filled_text : Addr
  fd_taken_filled_text : FuncData
  T_taken_filled_text : Addr
  dt0_taken_filled_text : Tok
  F_taken_filled_text : FunD K "taken_filled_text" "taken_filled_text" s_taken_filled_text a_taken_filled_text fd_taken_filled_text T_taken_filled_text
  bd_taken_filled_text : Binds K fd_taken_filled_text ["cursor", "free", "most"] [.none]
  m_taken_filled_text : mg "taken_filled_text" = some (.ref a_taken_filled_text)
  b_taken_filled_text : Binds K fd_taken_filled_text ["cursor", "free", "most"] []
  a__law_loosely : Addr
  fd__law_loosely : FuncData
  F__law_loosely : Fun K "_law_loosely" "_law_loosely" s__law_loosely a__law_loosely fd__law_loosely
  m__law_loosely : mg "_law_loosely" = some (.ref a__law_loosely)
  b__law_loosely : Binds K fd__law_loosely ["_law_address_here", "_law_cell"] []
  a_parts_stand : Addr
  fd_parts_stand : FuncData
  F_parts_stand : Fun K "parts_stand" "parts_stand" s_parts_stand a_parts_stand fd_parts_stand
  m_parts_stand : mg "parts_stand" = some (.ref a_parts_stand)
  b_parts_stand : Binds K fd_parts_stand ["thing"] []
  a_taken_house : Addr
  fd_taken_house : FuncData
  F_taken_house : Fun K "taken_house" "taken_house" s_taken_house a_taken_house fd_taken_house
  m_taken_house : mg "taken_house" = some (.ref a_taken_house)
  b_taken_house : Binds K fd_taken_house ["cursor"] []
  a_taken_question : Addr
  fd_taken_question : FuncData
  F_taken_question : Fun K "taken_question" "taken_question" s_taken_question a_taken_question fd_taken_question
  m_taken_question : mg "taken_question" = some (.ref a_taken_question)
  b_taken_question : Binds K fd_taken_question ["cursor"] []
  a_is_address : Addr
  fd_is_address : FuncData
  F_is_address : Fun K "is_address" "is_address" s_is_address a_is_address fd_is_address
  m_is_address : mg "is_address" = some (.ref a_is_address)
  b_is_address : Binds K fd_is_address ["thing"] []
  a_read : Addr
  fd_read : FuncData
  F_read : Fun K "read" "read" s_read a_read fd_read
  m_read : mg "read" = some (.ref a_read)
  b_read : Binds K fd_read ["text"] []
  a_law : Addr
  fd_law : FuncData
  F_law : Fun K "law" "law" s_law a_law fd_law
  m_law : mg "law" = some (.ref a_law)
  b_law : Binds K fd_law ["_law_script"] []
  C_Cursor : Addr
  cl_Cursor : Cls K C_Cursor
  n_Cursor_text : NoAttr K C_Cursor "text"
  n_Cursor_place : NoAttr K C_Cursor "place"
  m_Cursor : mg "Cursor" = some (.ref C_Cursor)
  M_Cursor : Mk K C_Cursor a_Cursor___init__
  me_Cursor_at_end : Meth K C_Cursor "at_end" a_Cursor_at_end
  me_Cursor_take : Meth K C_Cursor "take" a_Cursor_take
  me_Cursor_passes : Meth K C_Cursor "passes" a_Cursor_passes
  me_Cursor_sees : Meth K C_Cursor "sees" a_Cursor_sees
  t_SIGNS : Tok
  c_SIGNS : mg "SIGNS" = some (.str (Str.ofString " !\"#$&'()*+,-./0123456789:;<=>?@ABCDEFGHIJKLMNOPQRSTUVWXYZ[\\]^_`abcdefghijklmnopqrstuvwxyz{|}~") t_SIGNS)
  t_LETTERS : Tok
  c_LETTERS : mg "LETTERS" = some (.str (Str.ofString "abcdefghijklmnopqrstuvwxyzABCDEFGHIJKLMNOPQRSTUVWXYZ") t_LETTERS)
  t_LETTERS_AND_FIGURES : Tok
  c_LETTERS_AND_FIGURES : mg "LETTERS_AND_FIGURES" = some (.str (Str.ofString "abcdefghijklmnopqrstuvwxyzABCDEFGHIJKLMNOPQRSTUVWXYZ0123456789") t_LETTERS_AND_FIGURES)
  t_FIGURES : Tok
  c_FIGURES : mg "FIGURES" = some (.str (Str.ofString "0123456789") t_FIGURES)
  t_PLAIN : Tok
  c_PLAIN : mg "PLAIN" = some (.str (Str.ofString "abcdefghijklmnopqrstuvwxyzABCDEFGHIJKLMNOPQRSTUVWXYZ0123456789-_.") t_PLAIN)
  t_FREE_IN_STEPS : Tok
  c_FREE_IN_STEPS : mg "FREE_IN_STEPS" = some (.str (Str.ofString "!$'()*,;@&=+") t_FREE_IN_STEPS)
  t_FREE_IN_QUESTIONS : Tok
  c_FREE_IN_QUESTIONS : mg "FREE_IN_QUESTIONS" = some (.str (Str.ofString "!$'()*,;@+/?:") t_FREE_IN_QUESTIONS)
  t_FREE_IN_MARKS : Tok
  c_FREE_IN_MARKS : mg "FREE_IN_MARKS" = some (.str (Str.ofString "!$'()*,;@&=+/?:") t_FREE_IN_MARKS)
  t_FIRST_NUMBER : Tok
  c_FIRST_NUMBER : mg "FIRST_NUMBER" = some (.int 32 t_FIRST_NUMBER)
  t_LAST_NUMBER : Tok
  c_LAST_NUMBER : mg "LAST_NUMBER" = some (.int 126 t_LAST_NUMBER)
  t_NUMBER_LEFT_OUT : Tok
  c_NUMBER_LEFT_OUT : mg "NUMBER_LEFT_OUT" = some (.int 37 t_NUMBER_LEFT_OUT)
  t_SMALL_FIGURES : Tok
  c_SMALL_FIGURES : mg "SMALL_FIGURES" = some (.str (Str.ofString "0123456789abcdef") t_SMALL_FIGURES)
  t_GREAT_FIGURES : Tok
  c_GREAT_FIGURES : mg "GREAT_FIGURES" = some (.str (Str.ofString "0123456789ABCDEF") t_GREAT_FIGURES)
  t_SCHEME : Tok
  c_SCHEME : mg "SCHEME" = some (.int 0 t_SCHEME)
  t_HOUSE : Tok
  c_HOUSE : mg "HOUSE" = some (.int 1 t_HOUSE)
  t_DOOR : Tok
  c_DOOR : mg "DOOR" = some (.int 2 t_DOOR)
  t_WAY : Tok
  c_WAY : mg "WAY" = some (.int 3 t_WAY)
  t_QUESTION : Tok
  c_QUESTION : mg "QUESTION" = some (.int 4 t_QUESTION)
  t_MARK : Tok
  c_MARK : mg "MARK" = some (.int 5 t_MARK)
  t_ROOTED : Tok
  c_ROOTED : mg "ROOTED" = some (.int 0 t_ROOTED)
  t_STEPS : Tok
  c_STEPS : mg "STEPS" = some (.int 1 t_STEPS)
  t_ENDS : Tok
  c_ENDS : mg "ENDS" = some (.int 2 t_ENDS)
  t_LONGEST_SCHEME : Tok
  c_LONGEST_SCHEME : mg "LONGEST_SCHEME" = some (.int 8 t_LONGEST_SCHEME)
  t_LONGEST_HOUSE : Tok
  c_LONGEST_HOUSE : mg "LONGEST_HOUSE" = some (.int 60 t_LONGEST_HOUSE)
  t_LAST_DOOR : Tok
  c_LAST_DOOR : mg "LAST_DOOR" = some (.int 65535 t_LAST_DOOR)
  t_FIRST_FIGURES : Tok
  c_FIRST_FIGURES : mg "FIRST_FIGURES" = some (.str (Str.ofString "234567") t_FIRST_FIGURES)
  b_all : mg "all" = none
  b_ord : mg "ord" = none
  b_len : mg "len" = none
  b_isinstance : mg "isinstance" = none
  b_tuple : mg "tuple" = none
  b_bool : mg "bool" = none
  b_int : mg "int" = none
  b_str : mg "str" = none
  b_range : mg "range" = none
/-! ### what each def promises -/
def sp_made_of : Sp := fun vs H Q _ => ∃ x y : Str, vs = [.str x, .str y] ∧ x.length ≤ 100000 ∧ ∀ H', Same H H' → Q (.bl (x.cps.toList.all fun c => decide (c ∈ y.cps.toList))) H'
def sp_pair_of : Sp := fun vs H Q _ => ∃ c : Nat, vs = [one c] ∧ c < 256 ∧ Q (.str ⟨[126, hexd (c / 16), hexd (c % 16)].toArray⟩) H
def sp_figure_number : Sp := fun vs H Q _ => ∃ a : Nat, vs = [one a] ∧ a < 128 ∧ Q (figV a) H
def sp_sign_numbered : Sp := fun vs H Q _ => ∃ n : Nat, vs = [.int (n : Int)] ∧ Q (sgV n) H
def sp_is_whole (K : PySem.W.Frag) : Sp := fun vs H Q _ => ∃ (p : Addr) (l : List Nat) (r : List V), vs = [.ref p] ∧ SqT K H p (.str ⟨l.toArray⟩ :: r) ∧ Q (.bl (!decide (l = []))) H
def sp_is_tuple : Sp := fun vs H Q _ => ∃ (d : PyData) (v : V) (n : Int), vs = [v, .int n] ∧ Is H d v ∧ Q (.bl (tupN n d)) H
def sp_is_whole_number : Sp := fun vs H Q _ => ∃ (d : PyData) (v : V), vs = [v] ∧ Is H d v ∧ Q (.bl (match d with | .int _ => true | _ => false)) H
def sp_slashed (K : PySem.W.Frag) : Sp := fun vs H Q _ => ∃ (r e : Bool) (p : Addr) (ts : List (List Nat)), vs = [.bl r, .ref p, .bl e] ∧ SqL K H p (ts.map fun l => V.str ⟨l.toArray⟩) ∧ (joinT 47 ts).length ≤ 90000 ∧ Q (.str ⟨(slT r ts e).toArray⟩) H
def sp_Cursor___init__ (K : PySem.W.Frag) (C : Addr) : Sp := fun vs H Q _ => ∃ (p dx : Addr) (t : List Nat), vs = [.ref p, .str ⟨t.toArray⟩] ∧ H p = some (.ins C dx []) ∧ ∀ H', SameBut p H H' → Cur H' C p t 0 → Q .non H'
def sp_Cursor_at_end (K : PySem.W.Frag) (C : Addr) : Sp := fun vs H Q _ => ∃ (p : Addr) (t : List Nat) (i : Nat), vs = [.ref p] ∧ Cur H C p t i ∧ t.length ≤ 100000 ∧ Q (.bl (decide (i = t.length))) H
def sp_Cursor_take (K : PySem.W.Frag) (C : Addr) : Sp := fun vs H Q _ => ∃ (p : Addr) (t : List Nat) (i c : Nat), vs = [.ref p] ∧ Cur H C p t i ∧ t[i]? = some c ∧ t.length ≤ 100000 ∧ ∀ H', SameBut p H H' → Cur H' C p t (i + 1) → Q (.str ⟨#[c]⟩) H'
def sp_Cursor_passes (K : PySem.W.Frag) (C : Addr) : Sp := fun vs H Q _ => ∃ (p : Addr) (t w : List Nat) (i : Nat), vs = [.ref p, .str ⟨w.toArray⟩] ∧ Cur H C p t i ∧ i ≤ t.length ∧ t.length ≤ 100000 ∧ ((t.drop i).take w.length = w → ∀ H', SameBut p H H' → Cur H' C p t (i + w.length) → Q (.bl true) H') ∧ (¬ (t.drop i).take w.length = w → Q (.bl false) H)
def sp_door_with (K : PySem.W.Frag) (C : Addr) : Sp := fun vs H Q _ => ∃ (p : Addr) (t : List Nat) (i c n : Nat), vs = [.int (n : Int), .ref p] ∧ Cur H C p t i ∧ t.length ≤ 100000 ∧ t[i]? = some c ∧ 48 ≤ c ∧ c ≤ 57 ∧ n ≤ 100000 ∧ Q (.int ((n * 10 + (c - 48) : Nat) : Int)) H
def sp__law_cell_at (K : PySem.W.Frag) : Sp := fun vs H Q _ => ∃ (a : Addr) (ns : List Int) (k : Nat), vs = [.ref a, .int (k : Int)] ∧ SqL K H a (ns.map V.int) ∧ Q (.int (ns.getD k 0)) H
def sp__law_table : Sp := fun vs H Q _ => vs = [] ∧ Q (.str ⟨SG.toArray⟩) H
def sp__law_plain : Sp := fun vs H Q _ => ∃ c : Nat, vs = [one c] ∧ c < 128 ∧ Q (.bl (isPl c)) H
def sp__law_deck : Sp := fun vs H Q _ => ∃ c : Int, vs = [.int c] ∧ ∀ p H', H p = none → Same H H' → Deck H' p 0 → Q (.ref p) H'
def sp__law_draw : Sp := fun vs H Q _ => ∃ (p : Addr) (m : Int) (n : Nat), vs = [.ref p, .int m] ∧ Deck H p n ∧ n < 100000 ∧ 0 < m ∧ m < 1000000 ∧ ∀ (r : Int) (H' : Hp), 0 ≤ r → r < m → Deck H' p (n + 1) → SameBut p H H' → Q (.int r) H'
def sp_is_text : Sp := fun vs H Q _ => ∃ (d : PyData) (v : V), vs = [v] ∧ Is H d v ∧ smallD d = true ∧ ∀ H', Same H H' → Q (.bl (tx d)) H'
def sp_sign_of : Sp := fun vs H Q _ => ∃ l : List Nat, vs = [.str ⟨l.toArray⟩] ∧ l.length ≤ 1000 ∧ (∀ c ∈ l, c < 128) ∧ Q (signOfL l) H
def sp_written : Sp := fun vs H Q _ => ∃ l : List Nat, vs = [.str ⟨l.toArray⟩] ∧ l.length ≤ 2000 ∧ (∀ c ∈ l, isSg c = true) ∧ ∀ H', Same H H' → Q (.str ⟨(wr l).toArray⟩) H'
def sp_parts_agree : Sp := fun vs H Q _ => ∃ (a b c d e f : PyData) (v : V), vs = [v] ∧ Is H (.tuple [a, b, c, d, e, f]) v ∧ schD a = true ∧ wayD d = true ∧ Q (.bl (agrD a b c d)) H
def sp_is_door : Sp := fun vs H Q _ => ∃ (d : PyData) (v : V), vs = [v] ∧ Is H d v ∧ Q (.bl (dooD d)) H
def sp_Cursor_sees (K : PySem.W.Frag) (C : Addr) : Sp := fun vs H Q _ => ∃ (p : Addr) (t sg : List Nat) (i : Nat), vs = [.ref p, .str ⟨sg.toArray⟩] ∧ Cur H C p t i ∧ i ≤ t.length ∧ t.length ≤ 100000 ∧ Q (.bl (seesB t sg i)) H
def sp__law_hex : Sp := fun vs H Q _ => ∃ c : Nat, vs = [one c] ∧ isSg c = true ∧ Q (.str ⟨[hexd (c / 16), hexd (c % 16)].toArray⟩) H
def sp__law_some : Sp := fun vs H Q _ => ∃ (p : Addr) (sz n : Nat), vs = [.ref p, .int (sz : Int)] ∧ Deck H p n ∧ n + sz < 90000 ∧ sz ≤ 1000 ∧ ∀ (l : List Nat) (H' : Hp), l.length = sz → (∀ c ∈ l, isSg c = true) → Deck H' p (n + sz + 1) → SameBut p H H' → Q (.str ⟨l.toArray⟩) H'
def sp__law_scheme : Sp := fun vs H Q _ => ∃ (p : Addr) (n : Nat), vs = [.ref p] ∧ Deck H p n ∧ n < 50000 ∧ ∀ (l : List Nat) (H' : Hp), l.length ≤ 8 → (∀ c ∈ l, isAln c = true) → (∀ c ∈ l.take 1, isLet c = true) → Deck H' p (n + 20) → SameBut p H H' → Q (.str ⟨l.toArray⟩) H'
def sp__law_third (K : PySem.W.Frag) : Sp := fun vs H Q _ => ∃ (x y : Ad) (vx vy : V) (a : Addr) (ns : List Int), vs = [vx, vy, .ref a] ∧ IsT H x.data vx ∧ IsT H y.data vy ∧ x.Ok ∧ y.Ok ∧ SqL K H a (ns.map V.int) ∧ ns.length ≤ 63 ∧ ∀ (z : Ad) (v : V) (H' : Hp), z.Ok → Same H H' → IsT H' z.data v → Q v H'
def sp_is_scheme : Sp := fun vs H Q _ => ∃ (d : PyData) (v : V), vs = [v] ∧ Is H d v ∧ smallD d = true ∧ ∀ H', Same H H' → Q (.bl (schD d)) H'
def sp_is_filled_text : Sp := fun vs H Q _ => ∃ (d : PyData) (v : V), vs = [v] ∧ Is H d v ∧ smallD d = true ∧ ∀ H', Same H H' → Q (.bl (ftx d)) H'
def sp_is_text_or_none : Sp := fun vs H Q _ => ∃ (d : PyData) (v : V), vs = [v] ∧ Is H d v ∧ smallD d = true ∧ ∀ H', Same H H' → Q (.bl (ntx d)) H'
def sp_shown_house : Sp := fun vs H Q _ => ∃ (o : Option (List Nat)) (d : Option Int), vs = [otV o, itV d] ∧ (∀ l, o = some l → l.length ≤ 60 ∧ ∀ c ∈ l, isSg c = true) ∧ (∀ i, d = some i → (0 ≤ i ∧ i ≤ 65535) ∧ o ≠ none) ∧ ∀ H', Same H H' → Q (.str ⟨(houT o ++ dooT d).toArray⟩) H'
def sp_shown_way (K : PySem.W.Frag) : Sp := fun vs H Q _ => ∃ (r e : Bool) (ss : List (List Nat)) (p q : Addr), vs = [.ref p] ∧ SqT K H p [.bl r, .ref q, .bl e] ∧ SqT K H q (ss.map fun l => V.str ⟨l.toArray⟩) ∧ (∀ s ∈ ss, s.length ≤ 2000 ∧ ∀ c ∈ s, isSg c = true) ∧ ss.length ≤ 2000 ∧ (wayT r ss e).length ≤ 90000 ∧ ∀ H', Same H H' → Q (.str ⟨(wayT r ss e).toArray⟩) H'
def sp_shown_asked : Sp := fun vs H Q _ => ∃ (n : List Nat) (o : Option (List Nat)), vs = [.str ⟨n.toArray⟩, otV o] ∧ PairOk (n, o) ∧ n.length ≤ 2000 ∧ (∀ l, o = some l → l.length ≤ 2000) ∧ ∀ H', Same H H' → Q (.str ⟨(pairT (n, o)).toArray⟩) H'
def sp_shown_mark : Sp := fun vs H Q _ => ∃ o : Option (List Nat), vs = [otV o] ∧ (∀ l, o = some l → l.length ≤ 2000 ∧ ∀ c ∈ l, isSg c = true) ∧ ∀ H', Same H H' → Q (.str ⟨(oT 35 o).toArray⟩) H'
def sp_taken_door (K : PySem.W.Frag) (C : Addr) : Sp := fun vs H Q _ => ∃ (p : Addr) (t w r : List Nat) (i : Nat) (o : Option Int), vs = [.ref p] ∧ Cur H C p t i ∧ i ≤ t.length ∧ t.length ≤ 100000 ∧ (∀ c ∈ t, c < 128) ∧ t.drop i = w ++ r ∧ DooW o w ∧ (∀ c, r.head? = some c → ¬ (48 ≤ c ∧ c ≤ 57)) ∧ (o = none → r.head? ≠ some 58) ∧ ∀ H', SameBut p H H' → Cur H' C p t (i + w.length) → Q (itV o) H'
def sp_taken_pair (K : PySem.W.Frag) (C : Addr) : Sp := fun vs H Q _ => ∃ (p : Addr) (t r : List Nat) (i a b c : Nat), vs = [.ref p] ∧ Cur H C p t i ∧ t.drop i = a :: b :: r ∧ sgO a b = some c ∧ t.length ≤ 100000 ∧ ∀ H', SameBut p H H' → Cur H' C p t (i + 2) → Q (.str ⟨#[c]⟩) H'
def sp__law_steps : Sp := fun vs H Q _ => ∃ (p : Addr) (n : Nat), vs = [.ref p] ∧ Deck H p n ∧ n < 50000 ∧ ∀ (ss : List (List Nat)) (v : V) (H' : Hp), ss.length ≤ 40 → (∀ l ∈ ss, 0 < l.length ∧ Tx 60 l) → Deck H' p (n + 4000) → SameBut p H H' → IsT H' (.tuple (ss.map st)) v → Q v H'
def sp__law_question : Sp := fun vs H Q _ => ∃ (p : Addr) (n : Nat), vs = [.ref p] ∧ Deck H p n ∧ n < 50000 ∧ ∀ (qs : Option (List (List Nat × Option (List Nat)))) (v : V) (H' : Hp), (∀ ps, qs = some ps → ps.length ≤ 20 ∧ ∀ p ∈ ps, (0 < p.1.length ∧ Tx 6 p.1) ∧ ∀ v, p.2 = some v → Tx 6 v) → Deck H' p (n + 4000) → SameBut p H H' → IsT H' (qD qs) v → Q v H'
def sp__law_loose : Sp := fun vs H Q _ => ∃ (s fr : List Nat) (i : Int), vs = [.str ⟨s.toArray⟩, .str ⟨fr.toArray⟩, .int i] ∧ s.length ≤ 2000 ∧ (∀ c ∈ s, isSg c = true) ∧ fr.length ≤ 100 ∧ (126 : Nat) ∉ fr ∧ ∀ (w : List Nat), WrT fr s w → w.length ≤ 3 * s.length → Q (.str ⟨w.toArray⟩) H
def sp_is_house : Sp := fun vs H Q _ => ∃ (d : PyData) (v : V), vs = [v] ∧ Is H d v ∧ smallD d = true ∧ ∀ H', Same H H' → Q (.bl (houD d)) H'
def sp_is_steps : Sp := fun vs H Q _ => ∃ (d : PyData) (v : V), vs = [v] ∧ Is H d v ∧ smallD d = true ∧ ∀ H', Same H H' → Q (.bl (stpD d)) H'
def sp_is_asked : Sp := fun vs H Q _ => ∃ (d : PyData) (v : V), vs = [v] ∧ Is H d v ∧ smallD d = true ∧ ∀ H', Same H H' → Q (.bl (askD d)) H'
def sp_shown_question (K : PySem.W.Frag) : Sp := fun vs H Q _ => ∃ (q : Option (List (List Nat × Option (List Nat)))) (v : V), vs = [v] ∧ IsK K H (qD q) v ∧ (∀ ps, q = some ps → ps.length ≤ 2000 ∧ ∀ p ∈ ps, PairOk p ∧ p.1.length ≤ 2000 ∧ ∀ l, p.2 = some l → l.length ≤ 2000) ∧ (queT q).length ≤ 90000 ∧ ∀ H', Same H H' → Q (.str ⟨(queT q).toArray⟩) H'
def sp_taken_scheme (K : PySem.W.Frag) (C : Addr) : Sp := fun vs H Q _ => ∃ (p : Addr) (t : List Nat), vs = [.ref p] ∧ Cur H C p t 0 ∧ t.length ≤ 90000 ∧ ∀ H', SameBut p H H' → Cur H' C p t (schP t) → Q (.str ⟨(schM t).toArray⟩) H'
def sp_taken_text (K : PySem.W.Frag) (C : Addr) : Sp := fun vs H Q _ => ∃ (p : Addr) (t fr s w r : List Nat) (i : Nat) (mo : Option Nat), vs = [.ref p, .str ⟨fr.toArray⟩, moV mo] ∧ Cur H C p t i ∧ i ≤ t.length ∧ t.length ≤ 100000 ∧ (∀ c ∈ t, c < 128) ∧ fr.length ≤ 100 ∧ t.drop i = w ++ r ∧ WrT fr s w ∧ (Stops fr r ∨ mo = some s.length) ∧ (∀ m, mo = some m → s.length ≤ m) ∧
  ∀ H', SameBut p H H' → Cur H' C p t (i + w.length) → Q (.str ⟨s.toArray⟩) H'
def sp__law_address (K : PySem.W.Frag) : Sp := fun vs H Q _ => ∃ (a : Addr) (ns : List Int) (i : Nat), vs = [.ref a, .int (i : Int)] ∧ SqL K H a (ns.map V.int) ∧ ∀ (x : Ad) (v : V) (H' : Hp), x.Ok → Same H H' → IsT H' x.data v → Q v H'
def sp__law_loose_question (K : PySem.W.Frag) : Sp := fun vs H Q _ => ∃ (ps : List (List Nat × Option (List Nat))) (v : V) (i : Int), vs = [v, .int i] ∧ IsT H (qD (some ps)) v ∧ ps.length ≤ 20 ∧ (∀ p ∈ ps, PairOk p ∧ p.1.length ≤ 6 ∧ ∀ l, p.2 = some l → l.length ≤ 6) ∧ ∀ (ws : List (List Nat)) (H' : Hp), PrWs ps ws → (∀ w ∈ ws, w.length ≤ 60) → Same H H' → Q (.str ⟨(63 :: joinT 38 ws).toArray⟩) H'
def sp_is_way : Sp := fun vs H Q _ => ∃ (d : PyData) (v : V), vs = [v] ∧ Is H d v ∧ smallD d = true ∧ ∀ H', Same H H' → Q (.bl (wayD d)) H'
def sp_is_question : Sp := fun vs H Q _ => ∃ (d : PyData) (v : V), vs = [v] ∧ Is H d v ∧ smallD d = true ∧ ∀ H', Same H H' → Q (.bl (queD d)) H'
def sp_show (K : PySem.W.Frag) : Sp := fun vs H Q _ => ∃ (x : Ad) (v : V), vs = [v] ∧ IsK K H x.data v ∧ x.Wf ∧ x.Sz ∧ ∀ H', Same H H' → Q (.str ⟨x.shw.toArray⟩) H'
def sp_taken_way (K : PySem.W.Frag) (C : Addr) : Sp := fun vs H Q _ => ∃ (p : Addr) (t v rest : List Nat) (i : Nat) (must r ro : Bool) (ss : List (List Nat)) (e : Bool), vs = [.ref p, .bl must] ∧ Cur H C p t i ∧ i ≤ t.length ∧ t.length ≤ 100000 ∧ (∀ c ∈ t, c < 128) ∧ t.drop i = (if r then [47] else []) ++ (v ++ rest) ∧ StpW ss e v ∧ WayC must r ro ss e ∧ Stops frS rest ∧ rest.head? ≠ some 47 ∧
  ∀ (u : V) (H' : Hp), SameBut p H H' → Cur H' C p t (t.length - rest.length) → IsT H' (wayOf (ro, ss, e)) u → Q u H'
def sp_taken_value (K : PySem.W.Frag) (C : Addr) : Sp := fun vs H Q _ => ∃ (p : Addr) (t w r : List Nat) (i : Nat) (o : Option (List Nat)), vs = [.ref p] ∧ Cur H C p t i ∧ i ≤ t.length ∧ t.length ≤ 100000 ∧ (∀ c ∈ t, c < 128) ∧ t.drop i = w ++ r ∧ ValW o w ∧ Stops frQ r ∧ r.head? ≠ some 61 ∧ ∀ H', SameBut p H H' → Cur H' C p t (i + w.length) → Q (otV o) H'
def sp_taken_mark (K : PySem.W.Frag) (C : Addr) : Sp := fun vs H Q _ => ∃ (p : Addr) (t w : List Nat) (i : Nat) (o : Option (List Nat)), vs = [.ref p] ∧ Cur H C p t i ∧ i ≤ t.length ∧ t.length ≤ 100000 ∧ (∀ c ∈ t, c < 128) ∧ t.drop i = w ∧ MarW o w ∧ ∀ H', SameBut p H H' → Cur H' C p t t.length → Q (otV o) H'
def sp_taken_filled_text (K : PySem.W.Frag) (C : Addr) : Sp := fun vs H Q _ => ∃ (p : Addr) (t fr s w r : List Nat) (i : Nat) (mo : Option Nat), vs = [.ref p, .str ⟨fr.toArray⟩, moV mo] ∧ Cur H C p t i ∧ i ≤ t.length ∧ t.length ≤ 100000 ∧ (∀ c ∈ t, c < 128) ∧ fr.length ≤ 100 ∧ t.drop i = w ++ r ∧ WrT fr s w ∧ s ≠ [] ∧ (Stops fr r ∨ mo = some s.length) ∧ (∀ m, mo = some m → s.length ≤ m) ∧
  ∀ H', SameBut p H H' → Cur H' C p t (i + w.length) → Q (.str ⟨s.toArray⟩) H'
def sp__law_loosely (K : PySem.W.Frag) : Sp := fun vs H Q _ => ∃ (x : Ad) (v : V) (i : Int), vs = [v, .int i] ∧ IsT H x.data v ∧ x.Ok ∧ ∀ (t : List Nat) (H' : Hp), RdW2 x t → t.length ≤ 90000 → Same H H' → Q (.str ⟨t.toArray⟩) H'
def sp_parts_stand : Sp := fun vs H Q _ => ∃ (a b c d e f : PyData) (v : V), vs = [v] ∧ Is H (.tuple [a, b, c, d, e, f]) v ∧ smallD (.tuple [a, b, c, d, e, f]) = true ∧ ∀ H', Same H H' → Q (.bl (schD a && (houD b && (dooD c && (wayD d && (queD e && ntx f)))))) H'
def sp_taken_house (K : PySem.W.Frag) (C : Addr) : Sp := fun vs H Q _ => ∃ (p : Addr) (t w r : List Nat) (i : Nat) (o : Option (List Nat)), vs = [.ref p] ∧ Cur H C p t i ∧ i ≤ t.length ∧ t.length ≤ 100000 ∧ (∀ c ∈ t, c < 128) ∧ t.drop i = w ++ r ∧ HouW o w ∧ (o ≠ none → Stops [] r) ∧ (o = none → ¬ r.take 2 = [47, 47]) ∧ ∀ H', SameBut p H H' → Cur H' C p t (i + w.length) → Q (otV o) H'
def sp_taken_question (K : PySem.W.Frag) (C : Addr) : Sp := fun vs H Q _ => ∃ (p : Addr) (t w rest : List Nat) (i : Nat) (qs : Option (List (List Nat × Option (List Nat)))), vs = [.ref p] ∧ Cur H C p t i ∧ i ≤ t.length ∧ t.length ≤ 100000 ∧ (∀ c ∈ t, c < 128) ∧ t.drop i = w ++ rest ∧ QueW qs w ∧ (rest = [] ∨ ∃ r, rest = 35 :: r) ∧
  ∀ (u : V) (H' : Hp), SameBut p H H' → Cur H' C p t (t.length - rest.length) → IsT H' (qD qs) u → Q u H'
def sp_is_address : Sp := fun vs H Q _ => ∃ (d : PyData) (v : V), vs = [v] ∧ Is H d v ∧ smallD d = true ∧ ∀ H', Same H H' → Q (.bl (addrD d)) H'
def sp_read (K : PySem.W.Frag) : Sp := fun vs H Q _ => ∃ (x : Ad) (t : List Nat), vs = [.str ⟨t.toArray⟩] ∧ t.length ≤ 90000 ∧ (∀ c ∈ t, c < 128) ∧ x.Wf ∧ RdW2 x t ∧ ∀ (u : V) (H' : Hp), Same H H' → IsT H' x.data u → Q u H'
def sp_law (K : PySem.W.Frag) : Sp := fun vs H Q _ => ∃ (a : Addr) (ns : List Int), vs = [.ref a] ∧ SqL K H a (ns.map V.int) ∧ ns.length ≤ 63 ∧ ∀ H', Q (.bl true) H'
section
variable {H : Hp} {Q : VK} {E : XK} {K : PySem.W.Frag}
theorem c_pair {c : Nat} : sp_pair_of [.str ⟨[c].toArray⟩] H Q E ↔ c < 256 ∧ Q (.str ⟨[126, hexd (c / 16), hexd (c % 16)].toArray⟩) H :=
  ⟨fun ⟨_, e, h⟩ => by injection e with e; injection e with e; cases mk_inj.mp e; exact h, fun h => ⟨c, rfl, h⟩⟩
theorem c_fig {c : Nat} : sp_figure_number [.str ⟨[c].toArray⟩] H Q E ↔ c < 128 ∧ Q (figV c) H :=
  ⟨fun ⟨_, e, h⟩ => by injection e with e; injection e with e; cases mk_inj.mp e; exact h, fun h => ⟨c, rfl, h⟩⟩
theorem c_table : sp__law_table [] H Q E ↔ Q (.str ⟨SG.toArray⟩) H := ⟨fun h => h.2, fun h => ⟨rfl, h⟩⟩
theorem c_plain {c : Nat} : sp__law_plain [.str ⟨[c].toArray⟩] H Q E ↔ c < 128 ∧ Q (.bl (isPl c)) H :=
  ⟨fun ⟨_, e, h⟩ => by injection e with e; injection e with e; cases mk_inj.mp e; exact h, fun h => ⟨c, rfl, h⟩⟩
theorem c_sign_of {l : List Nat} : sp_sign_of [.str ⟨l.toArray⟩] H Q E ↔ l.length ≤ 1000 ∧ (∀ c ∈ l, c < 128) ∧ Q (signOfL l) H :=
  ⟨fun ⟨_, e, h⟩ => by injection e with e; injection e with e; cases mk_inj.mp e; exact h, fun h => ⟨l, rfl, h⟩⟩
theorem c_written {l : List Nat} : sp_written [.str ⟨l.toArray⟩] H Q E ↔ l.length ≤ 2000 ∧ (∀ c ∈ l, isSg c = true) ∧ ∀ H', Same H H' → Q (.str ⟨(wr l).toArray⟩) H' :=
  ⟨fun ⟨_, e, h⟩ => by injection e with e; injection e with e; cases mk_inj.mp e; exact h, fun h => ⟨l, rfl, h⟩⟩
theorem c_hex {c : Nat} : sp__law_hex [.str ⟨[c].toArray⟩] H Q E ↔ isSg c = true ∧ Q (.str ⟨[hexd (c / 16), hexd (c % 16)].toArray⟩) H :=
  ⟨fun ⟨_, e, h⟩ => by injection e with e; injection e with e; cases mk_inj.mp e; exact h, fun h => ⟨c, rfl, h⟩⟩
end
section
variable {P : Program} {w : World} {K : PySem.W.Frag} {mg : Str → Option Value} {base : Heap}
seal PE PA PT PS PSs PG PI PF PO PW
local macro_rules | `(tactic| walk_at "rd") => `(tactic| simp only [L2.start, List.map_cons, List.map_nil, List.length_cons, List.length_nil, Nat.reduceAdd, Nat.reduceSub, Nat.zero_add, List.replicate_succ, List.replicate_zero, L2.rd_var, L2.rd_C, L2.rd_seq, L2.rd_cut, L2.rd_later, L2.rd_asg, L2.rd_name, L2.rd_ifS, L2.rd_next, L2.rd_brk, L2.rd_ret, L2.rd_drop, L2.rd_op, L2.rd_test, L2.rd_B, L2.rd_and, L2.rd_or, L2.rd_not, L2.rd_andV, L2.rd_orV, L2.rd_notV, L2.rd_if, L2.rd_chain, L2.rd_nil, L2.rd_cons, L2.rd_lst, L2.rd_tup, L2.rd_tupS, L2.rd_lstS, L2.adS_int, L2.adS_str, L2.liS_ref, L2.tuS_ref, L2.slS_ref, L2.slLS_ref, L2.rd_call, L2.rd_cb, L2.rd_bm, L2.rd_bm0, L2.rd_sl, L2.rd_noPart, L2.rd_part, L2.rd_tyStr, L2.rd_I, L2.rd_I0, L2.rd_eqII, L2.rd_eqSS, L2.rd_eqBB, L2.rd_neII, L2.rd_neSS, L2.rd_neBB, L2.rd_neNN, L2.rd_neSN, L2.rd_neNSx, L2.rd_eqNN, L2.rd_eqSN, L2.rd_eqNSx, L2.rd_ixS, L2.rd_slS, L2.rd_slL, L2.rd_ixR, L2.ad_ref, L2.isi_any, L2.kind_non, L2.kind_bl, L2.kind_int, L2.kind_str, L2.memT_bool, L2.memT_int, L2.memT_str, L2.memT_list, L2.memT_tuple, L2.sub_NoneType_bool, L2.sub_NoneType_int, L2.sub_NoneType_str, L2.sub_NoneType_list, L2.sub_NoneType_tuple, L2.sub_bool_bool, L2.sub_bool_int, L2.sub_bool_str, L2.sub_bool_list, L2.sub_bool_tuple, L2.sub_int_bool, L2.sub_int_int, L2.sub_int_str, L2.sub_int_list, L2.sub_int_tuple, L2.sub_str_bool, L2.sub_str_int, L2.sub_str_str, L2.sub_str_list, L2.sub_str_tuple, L2.sub_list_bool, L2.sub_list_int, L2.sub_list_str, L2.sub_list_list, L2.sub_list_tuple, L2.sub_tuple_bool, L2.sub_tuple_int, L2.sub_tuple_str, L2.sub_tuple_list, L2.sub_tuple_tuple, L2.rd_gTup, L2.rd_gSub, L2.rd_gCons, L2.rd_gNil, L2.set_ref, L2.cx_K, L2.ad_int, L2.ad_str, L2.mu_int, L2.mu_str, L2.le_str, L2.le_ref, L2.or_one, L2.in_bl, L2.in_one, L2.notin_one, L2.isN_f, L2.isB_f, L2.isN_t, L2.rd_compS, L2.rd_compL, L2.frV_nil, L2.frV_cons, Option.getD_some, L2.jo_ref, L2.rd_un, L2.rd_U, L2.ap_ref, L2.ty_list, L2.rd_compT, L2.rd_forT, L2.all_ref, L2.any_ref, L2.li_ref, L2.tu_ref, L2.slT_ref, L2.rd_forS, L2.rd_forL, L2.rd_forR, List.getElem?_cons_zero, List.getElem?_cons_succ, List.set_cons_zero, List.set_cons_succ, List.nil_append, List.cons_append, List.append_nil, Option.some.injEq, exists_eq_left, exists_eq_left', true_and, and_true, L2.V.bl.injEq, L2.V.int.injEq, L2.V.str.injEq, L2.V.ref.injEq, List.cons.injEq, reduceCtorEq, false_and, and_false, exists_false, false_or, or_false, decide_eq_true_eq, Bool.not_true, Bool.not_false, ↓reduceIte, if_true, if_false, not_true_eq_false, not_false_eq_true, decide_true, decide_false, Bool.false_eq_true, c_pair, c_fig, c_table, c_plain, c_sign_of, c_written, c_hex, L2.slTA_ref, L2.slX_ref, L2.catX_ref, L2.isiX_any, L2.rd_sl3, rv_ref, L2.po_ref, L2.rd_never, L2.isB_t, L2.rd_forV, L2.repT_ref, L2.repS_ref, L2.repN_ref, L2.rd_LR, L2.rd_comp2T, L2.fi_find, L2.pa_ref, L2.rd_raise, L2.rd_try, L2.rd_isE, L2.inS_str, L2.sw_str, L2.pt_str, L2.rd_fld, L2.rd_meth, L2.rd_make, L2.rd_sfld, L2.rd_forE, L2.rd_forZ, L2.rd_comp2Z, L2.rd_compRg, emp_eq, tilde_eq, mk_app, mk_len, mk_list, slice_1, map_arr, List.drop_succ_cons, List.drop_zero, L2.ix_index, L2.up_str, L2.lo_str, L2.an_str, Bool.not_eq_true', decide_eq_false_iff_not])
theorem sc_made_of : FnScope ["text", "signs"] ["text", "signs"] (defScope s_made_of) := ⟨rfl, rfl, rfl, by decide +kernel, rfl, by decide +kernel, by decide +kernel⟩
theorem sc_pair_of : FnScope ["sign", "number"] ["sign"] (defScope s_pair_of) := ⟨rfl, rfl, rfl, by decide +kernel, rfl, by decide +kernel, by decide +kernel⟩
theorem sc_figure_number : FnScope ["figure"] ["figure"] (defScope s_figure_number) := ⟨rfl, rfl, rfl, by decide +kernel, rfl, by decide +kernel, by decide +kernel⟩
theorem sc_sign_numbered : FnScope ["number", "place"] ["number"] (defScope s_sign_numbered) := ⟨rfl, rfl, rfl, by decide +kernel, rfl, by decide +kernel, by decide +kernel⟩
theorem sc_is_whole : FnScope ["address"] ["address"] (defScope s_is_whole) := ⟨rfl, rfl, rfl, by decide +kernel, rfl, by decide +kernel, by decide +kernel⟩
theorem sc_is_tuple : FnScope ["thing", "count"] ["thing", "count"] (defScope s_is_tuple) := ⟨rfl, rfl, rfl, by decide +kernel, rfl, by decide +kernel, by decide +kernel⟩
theorem sc_is_whole_number : FnScope ["thing"] ["thing"] (defScope s_is_whole_number) := ⟨rfl, rfl, rfl, by decide +kernel, rfl, by decide +kernel, by decide +kernel⟩
theorem sc_slashed : FnScope ["rooted", "texts", "ends", "ahead", "behind"] ["rooted", "texts", "ends"] (defScope s_slashed) := ⟨rfl, rfl, rfl, by decide +kernel, rfl, by decide +kernel, by decide +kernel⟩
theorem sc_Cursor___init__ : FnScope ["self", "text"] ["self", "text"] (defScope s_Cursor___init__) := ⟨rfl, rfl, rfl, by decide +kernel, rfl, by decide +kernel, by decide +kernel⟩
theorem sc_Cursor_at_end : FnScope ["self"] ["self"] (defScope s_Cursor_at_end) := ⟨rfl, rfl, rfl, by decide +kernel, rfl, by decide +kernel, by decide +kernel⟩
theorem sc_Cursor_take : FnScope ["self", "sign"] ["self"] (defScope s_Cursor_take) := ⟨rfl, rfl, rfl, by decide +kernel, rfl, by decide +kernel, by decide +kernel⟩
theorem sc_Cursor_passes : FnScope ["self", "text"] ["self", "text"] (defScope s_Cursor_passes) := ⟨rfl, rfl, rfl, by decide +kernel, rfl, by decide +kernel, by decide +kernel⟩
theorem sc_door_with : FnScope ["door", "cursor"] ["door", "cursor"] (defScope s_door_with) := ⟨rfl, rfl, rfl, by decide +kernel, rfl, by decide +kernel, by decide +kernel⟩
theorem sc__law_cell_at : FnScope ["_law_script", "_law_k"] ["_law_script", "_law_k"] (defScope s__law_cell_at) := ⟨rfl, rfl, rfl, by decide +kernel, rfl, by decide +kernel, by decide +kernel⟩
theorem sc__law_table : FnScope ["_law_found"] [] (defScope s__law_table) := ⟨rfl, rfl, rfl, by decide +kernel, rfl, by decide +kernel, by decide +kernel⟩
theorem sc__law_plain : FnScope ["_law_sign"] ["_law_sign"] (defScope s__law_plain) := ⟨rfl, rfl, rfl, by decide +kernel, rfl, by decide +kernel, by decide +kernel⟩
theorem sc__law_deck : FnScope ["_law_cell"] ["_law_cell"] (defScope s__law_deck) := ⟨rfl, rfl, rfl, by decide +kernel, rfl, by decide +kernel, by decide +kernel⟩
theorem sc__law_draw : FnScope ["_law_deck_here", "_law_most", "_law_found", "_law_mixed"] ["_law_deck_here", "_law_most"] (defScope s__law_draw) := ⟨rfl, rfl, rfl, by decide +kernel, rfl, by decide +kernel, by decide +kernel⟩
theorem sc_is_text : FnScope ["thing"] ["thing"] (defScope s_is_text) := ⟨rfl, rfl, rfl, by decide +kernel, rfl, by decide +kernel, by decide +kernel⟩
theorem sc_sign_of : FnScope ["figures", "high", "low"] ["figures"] (defScope s_sign_of) := ⟨rfl, rfl, rfl, by decide +kernel, rfl, by decide +kernel, by decide +kernel⟩
theorem sc_written : FnScope ["text"] ["text"] (defScope s_written) := ⟨rfl, rfl, rfl, by decide +kernel, rfl, by decide +kernel, by decide +kernel⟩
theorem sc_parts_agree : FnScope ["address", "has_house"] ["address"] (defScope s_parts_agree) := ⟨rfl, rfl, rfl, by decide +kernel, rfl, by decide +kernel, by decide +kernel⟩
theorem sc_is_door : FnScope ["thing"] ["thing"] (defScope s_is_door) := ⟨rfl, rfl, rfl, by decide +kernel, rfl, by decide +kernel, by decide +kernel⟩
theorem sc_Cursor_sees : FnScope ["self", "signs"] ["self", "signs"] (defScope s_Cursor_sees) := ⟨rfl, rfl, rfl, by decide +kernel, rfl, by decide +kernel, by decide +kernel⟩
theorem sc__law_hex : FnScope ["_law_sign", "_law_at", "_law_number"] ["_law_sign"] (defScope s__law_hex) := ⟨rfl, rfl, rfl, by decide +kernel, rfl, by decide +kernel, by decide +kernel⟩
theorem sc__law_some : FnScope ["_law_deck_here", "_law_size", "_law_some_here", "_law_found", "_law_k"] ["_law_deck_here", "_law_size"] (defScope s__law_some) := ⟨rfl, rfl, rfl, by decide +kernel, rfl, by decide +kernel, by decide +kernel⟩
theorem sc__law_scheme : FnScope ["_law_deck_here", "_law_letters", "_law_size", "_law_found", "_law_k"] ["_law_deck_here"] (defScope s__law_scheme) := ⟨rfl, rfl, rfl, by decide +kernel, rfl, by decide +kernel, by decide +kernel⟩
theorem sc__law_third : FnScope ["_law_one", "_law_other", "_law_script", "_law_cell", "_law_steps_here", "_law_third_here"] ["_law_one", "_law_other", "_law_script"] (defScope s__law_third) := ⟨rfl, rfl, rfl, by decide +kernel, rfl, by decide +kernel, by decide +kernel⟩
theorem sc_is_scheme : FnScope ["thing"] ["thing"] (defScope s_is_scheme) := ⟨rfl, rfl, rfl, by decide +kernel, rfl, by decide +kernel, by decide +kernel⟩
theorem sc_is_filled_text : FnScope ["thing"] ["thing"] (defScope s_is_filled_text) := ⟨rfl, rfl, rfl, by decide +kernel, rfl, by decide +kernel, by decide +kernel⟩
theorem sc_is_text_or_none : FnScope ["thing"] ["thing"] (defScope s_is_text_or_none) := ⟨rfl, rfl, rfl, by decide +kernel, rfl, by decide +kernel, by decide +kernel⟩
theorem sc_shown_house : FnScope ["house", "door", "behind"] ["house", "door"] (defScope s_shown_house) := ⟨rfl, rfl, rfl, by decide +kernel, rfl, by decide +kernel, by decide +kernel⟩
theorem sc_shown_way : FnScope ["way"] ["way"] (defScope s_shown_way) := ⟨rfl, rfl, rfl, by decide +kernel, rfl, by decide +kernel, by decide +kernel⟩
theorem sc_shown_asked : FnScope ["name", "value"] ["name", "value"] (defScope s_shown_asked) := ⟨rfl, rfl, rfl, by decide +kernel, rfl, by decide +kernel, by decide +kernel⟩
theorem sc_shown_mark : FnScope ["mark"] ["mark"] (defScope s_shown_mark) := ⟨rfl, rfl, rfl, by decide +kernel, rfl, by decide +kernel, by decide +kernel⟩
theorem sc_taken_door : FnScope ["cursor", "door"] ["cursor"] (defScope s_taken_door) := ⟨rfl, rfl, rfl, by decide +kernel, rfl, by decide +kernel, by decide +kernel⟩
theorem sc_taken_pair : FnScope ["cursor", "figures", "sign"] ["cursor"] (defScope s_taken_pair) := ⟨rfl, rfl, rfl, by decide +kernel, rfl, by decide +kernel, by decide +kernel⟩
theorem sc__law_steps : FnScope ["_law_deck_here", "_law_many", "_law_steps_here", "_law_k", "_law_size"] ["_law_deck_here"] (defScope s__law_steps) := ⟨rfl, rfl, rfl, by decide +kernel, rfl, by decide +kernel, by decide +kernel⟩
theorem sc__law_question : FnScope ["_law_deck_here", "_law_many", "_law_pairs", "_law_k", "_law_name", "_law_value"] ["_law_deck_here"] (defScope s__law_question) := ⟨rfl, rfl, rfl, by decide +kernel, rfl, by decide +kernel, by decide +kernel⟩
theorem sc__law_loose : FnScope ["_law_text", "_law_free", "_law_cell", "_law_found", "_law_k", "_law_number", "_law_sign"] ["_law_text", "_law_free", "_law_cell"] (defScope s__law_loose) := ⟨rfl, rfl, rfl, by decide +kernel, rfl, by decide +kernel, by decide +kernel⟩
theorem sc_is_house : FnScope ["thing"] ["thing"] (defScope s_is_house) := ⟨rfl, rfl, rfl, by decide +kernel, rfl, by decide +kernel, by decide +kernel⟩
theorem sc_is_steps : FnScope ["thing"] ["thing"] (defScope s_is_steps) := ⟨rfl, rfl, rfl, by decide +kernel, rfl, by decide +kernel, by decide +kernel⟩
theorem sc_is_asked : FnScope ["thing"] ["thing"] (defScope s_is_asked) := ⟨rfl, rfl, rfl, by decide +kernel, rfl, by decide +kernel, by decide +kernel⟩
theorem sc_shown_question : FnScope ["question"] ["question"] (defScope s_shown_question) := ⟨rfl, rfl, rfl, by decide +kernel, rfl, by decide +kernel, by decide +kernel⟩
theorem sc_taken_scheme : FnScope ["cursor", "scheme"] ["cursor"] (defScope s_taken_scheme) := ⟨rfl, rfl, rfl, by decide +kernel, rfl, by decide +kernel, by decide +kernel⟩
theorem sc_taken_text : FnScope ["cursor", "free", "most", "signs", "allowed"] ["cursor", "free", "most"] (defScope s_taken_text) := ⟨rfl, rfl, rfl, by decide +kernel, rfl, by decide +kernel, by decide +kernel⟩
theorem sc__law_address : FnScope ["_law_script", "_law_start", "_law_deck_here", "_law_scheme_here", "_law_house", "_law_door", "_law_steps_here", "_law_rooted", "_law_ends", "_law_question_here", "_law_mark"] ["_law_script", "_law_start"] (defScope s__law_address) := ⟨rfl, rfl, rfl, by decide +kernel, rfl, by decide +kernel, by decide +kernel⟩
theorem sc__law_loose_question : FnScope ["_law_question_here", "_law_cell", "_law_words", "_law_k", "_law_name", "_law_value", "_law_word"] ["_law_question_here", "_law_cell"] (defScope s__law_loose_question) := ⟨rfl, rfl, rfl, by decide +kernel, rfl, by decide +kernel, by decide +kernel⟩
theorem sc_is_way : FnScope ["thing"] ["thing"] (defScope s_is_way) := ⟨rfl, rfl, rfl, by decide +kernel, rfl, by decide +kernel, by decide +kernel⟩
theorem sc_is_question : FnScope ["thing"] ["thing"] (defScope s_is_question) := ⟨rfl, rfl, rfl, by decide +kernel, rfl, by decide +kernel, by decide +kernel⟩
theorem sc_show : FnScope ["address", "scheme"] ["address"] (defScope s_show) := ⟨rfl, rfl, rfl, by decide +kernel, rfl, by decide +kernel, by decide +kernel⟩
theorem sc_taken_way : FnScope ["cursor", "must_be_rooted", "rooted", "steps", "ends", "step"] ["cursor", "must_be_rooted"] (defScope s_taken_way) := ⟨rfl, rfl, rfl, by decide +kernel, rfl, by decide +kernel, by decide +kernel⟩
theorem sc_taken_value : FnScope ["cursor"] ["cursor"] (defScope s_taken_value) := ⟨rfl, rfl, rfl, by decide +kernel, rfl, by decide +kernel, by decide +kernel⟩
theorem sc_taken_mark : FnScope ["cursor"] ["cursor"] (defScope s_taken_mark) := ⟨rfl, rfl, rfl, by decide +kernel, rfl, by decide +kernel, by decide +kernel⟩
theorem sc_taken_filled_text : FnScope ["cursor", "free", "most", "text"] ["cursor", "free", "most"] (defScope s_taken_filled_text) := ⟨rfl, rfl, rfl, by decide +kernel, rfl, by decide +kernel, by decide +kernel⟩
theorem sc__law_loosely : FnScope ["_law_address_here", "_law_cell", "_law_scheme_here", "_law_house", "_law_door", "_law_way", "_law_question_here", "_law_mark", "_law_found", "_law_left", "_law_steps_here"] ["_law_address_here", "_law_cell"] (defScope s__law_loosely) := ⟨rfl, rfl, rfl, by decide +kernel, rfl, by decide +kernel, by decide +kernel⟩
theorem sc_parts_stand : FnScope ["thing"] ["thing"] (defScope s_parts_stand) := ⟨rfl, rfl, rfl, by decide +kernel, rfl, by decide +kernel, by decide +kernel⟩
theorem sc_taken_house : FnScope ["cursor"] ["cursor"] (defScope s_taken_house) := ⟨rfl, rfl, rfl, by decide +kernel, rfl, by decide +kernel, by decide +kernel⟩
theorem sc_taken_question : FnScope ["cursor", "name", "pairs"] ["cursor"] (defScope s_taken_question) := ⟨rfl, rfl, rfl, by decide +kernel, rfl, by decide +kernel, by decide +kernel⟩
theorem sc_is_address : FnScope ["thing"] ["thing"] (defScope s_is_address) := ⟨rfl, rfl, rfl, by decide +kernel, rfl, by decide +kernel, by decide +kernel⟩
theorem sc_read : FnScope ["text", "cursor", "scheme", "house", "door", "way", "question", "mark"] ["text"] (defScope s_read) := ⟨rfl, rfl, rfl, by decide +kernel, rfl, by decide +kernel, by decide +kernel⟩
theorem sc_law : FnScope ["_law_script", "_law_one", "_law_other", "_law_some_here", "_law_cell", "_law_address_here", "_law_text", "_law_loose_here", "_law_beside"] ["_law_script"] (defScope s_law) := ⟨rfl, rfl, rfl, by decide +kernel, rfl, by decide +kernel, by decide +kernel⟩
theorem ok_made_of (g : G K mg) : FnOk P w K mg base CX0 1 g.a_made_of g.fd_made_of ["text", "signs"] sp_made_of := by
  refine g.F_made_of.ok sc_made_of (fun vs H Q E h => ?_) (fun cdv A outer s H vs Q E hr h => ?_)
  · obtain ⟨x, y, rfl, _⟩ := h; rfl
  · obtain ⟨x, y, rfl, hx, k⟩ := h
    refine ⟨_, (pss_one (ps_ret (pe_callB (call_allK (K := K) rfl rfl) rfl g.b_all PyProof.Rows.boot_all (pa_cons (pe_comp (fx := ["signs"]) (fr := [1]) rfl rfl (by decide +kernel) rfl (by decide +kernel) rfl (by decide +kernel) rfl (.cons rfl rfl rfl rfl .nil) rfl (pi_str (pv 0)) (fun _ _ _ => pf_nil) (fun _ _ _ => (pe_cmpR op_inU (pv 0) (pv 1) (by with_unfolding_all rfl)))) pa_nil)))), ?_⟩
    walk_at "rd"
    intro p hp
    refine comp_str (z := x) (le_line hx) hp (fun c => .bl (decide (c ∈ y.cps.toList))) (fun c hc H' R hR => ?_) (fun H' sm hp' => ?_)
    · walk_at "rd"
      exact hR H' (Same.refl _)
    · refine all_ref.mpr ⟨x.cps.toList.map fun c => decide (c ∈ y.cps.toList), SqL.of (by rw [hp', List.map_map]; rfl), ?_⟩
      rw [List.all_map]
      exact k H' sm
theorem ok_pair_of (g : G K mg) : FnOk P w K mg base CX0 1 g.a_pair_of g.fd_pair_of ["sign"] sp_pair_of := by
  refine g.F_pair_of.ok sc_pair_of (fun vs H Q E h => ?_) (fun cdv A outer s H vs Q E hr h => ?_)
  · obtain ⟨c, rfl, _⟩ := h; rfl
  · obtain ⟨c, rfl, hc, k⟩ := h
    refine ⟨_, (pss_cons (ps_set (i := 1) sc_pair_of.nd rfl (Or.inl rfl) (pe_callB call_ordU rfl g.b_ord boot_ord (pa_cons (pv 0) pa_nil)))
      (pss_one (ps_ret (pe_op (op_addK (K := K) rfl) (pe_op (op_addK (K := K) rfl) pe_str (pe_ix (ix_seqK (K := K) rfl) (pe_glob (v := k_SMALL_FIGURES) rfl g.c_SMALL_FIGURES ⟨_, rfl⟩) (pe_op op_fdiv (pv 1) pe_int) (fun _ _ => rfl))) (pe_ix (ix_seqK (K := K) rfl) (pe_glob (v := k_SMALL_FIGURES) rfl g.c_SMALL_FIGURES ⟨_, rfl⟩) (pe_op op_mod (pv 1) pe_int) (fun _ _ => rfl)))))), ?_⟩
    walk_at "rd"
    exact ⟨⟨by decide, by decide⟩, hexd (c / 16), small_len, hex_i (by omega) (by omega), by decide, by decide, hexd (c % 16), small_len, hex_i (by omega) (by omega), by decide, k⟩
theorem ok_figure_number (g : G K mg) : FnOk P w K mg base CX0 1 g.a_figure_number g.fd_figure_number ["figure"] sp_figure_number := by
  refine g.F_figure_number.ok sc_figure_number (fun vs H Q E h => ?_) (fun cdv A outer s H vs Q E hr h => ?_)
  · obtain ⟨c, rfl, _⟩ := h; rfl
  · obtain ⟨a, rfl, ha, k⟩ := h
    refine ⟨_, (pss_cons (ps_if (pt_cmpR op_inU (pv 0) (pe_glob (v := k_SMALL_FIGURES) rfl g.c_SMALL_FIGURES ⟨_, rfl⟩) (by with_unfolding_all rfl))
        (pss_one (ps_ret (pe_bmK (K := K) rfl PySem.F.plainAttrs_str PySem.F.slot_str_index PySem.F.type_str_index mt_index (pe_glob (v := k_SMALL_FIGURES) rfl g.c_SMALL_FIGURES ⟨_, rfl⟩) (pa_cons (pv 0) pa_nil)))) pss_nil)
      (pss_cons (ps_if (pt_cmpR op_inU (pv 0) (pe_glob (v := k_GREAT_FIGURES) rfl g.c_GREAT_FIGURES ⟨_, rfl⟩) (by with_unfolding_all rfl))
        (pss_one (ps_ret (pe_bmK (K := K) rfl PySem.F.plainAttrs_str PySem.F.slot_str_index PySem.F.type_str_index mt_index (pe_glob (v := k_GREAT_FIGURES) rfl g.c_GREAT_FIGURES ⟨_, rfl⟩) (pa_cons (pv 0) pa_nil)))) pss_nil)
      (pss_one (ps_ret pe_non)))), ?_⟩
    walk_at "rd"
    refine ite2 (fun h => ?_) (fun h => ?_)
    · obtain ⟨e1, e2⟩ := small_ix a ha h
      obtain ⟨n, hn⟩ := Option.isSome_iff_exists.mp e2
      rw [hn] at e1
      rw [figV_some hn] at k
      exact ⟨n, [], e1, k⟩
    · refine ite2 (fun h2 => ?_) (fun h2 => ?_)
      · obtain ⟨e1, e2⟩ := great_ix a ha h h2
        obtain ⟨n, hn⟩ := Option.isSome_iff_exists.mp e2
        rw [hn] at e1
        rw [figV_some hn] at k
        exact ⟨n, [], e1, k⟩
      · rw [figV_none (no_ix a ha h h2)] at k
        exact k
theorem ok_sign_numbered (g : G K mg) : FnOk P w K mg base CX0 1 g.a_sign_numbered g.fd_sign_numbered ["number"] sp_sign_numbered := by
  refine g.F_sign_numbered.ok sc_sign_numbered (fun vs H Q E h => ?_) (fun cdv A outer s H vs Q E hr h => ?_)
  · obtain ⟨c, rfl, _⟩ := h; rfl
  · obtain ⟨n, rfl, k⟩ := h
    refine ⟨_, (pss_cons (ps_if (PW.pt (pw_or (pt_cmpR op_lt (pv 0) (pe_glob (v := k_FIRST_NUMBER) rfl g.c_FIRST_NUMBER ⟨_, rfl⟩) (nomark _)) (pw_or (pt_cmpR op_gt (pv 0) (pe_glob (v := k_LAST_NUMBER) rfl g.c_LAST_NUMBER ⟨_, rfl⟩) (nomark _)) (pw_or1 (pt_cmpR op_eq (pv 0) (pe_glob (v := k_NUMBER_LEFT_OUT) rfl g.c_NUMBER_LEFT_OUT ⟨_, rfl⟩) (nomark _))))))
        (pss_one (ps_ret pe_non)) pss_nil)
      (pss_cons (ps_set (i := 1) sc_sign_numbered.nd rfl (Or.inl rfl) (pe_op op_sub (pv 0) (pe_glob (v := k_FIRST_NUMBER) rfl g.c_FIRST_NUMBER ⟨_, rfl⟩)))
      (pss_cons (ps_if (pt_cmpR op_gt (pv 0) (pe_glob (v := k_NUMBER_LEFT_OUT) rfl g.c_NUMBER_LEFT_OUT ⟨_, rfl⟩) (nomark _))
        (pss_one (ps_set (i := 1) sc_sign_numbered.nd rfl (Or.inl rfl) (pe_op op_sub (pv 1) pe_int))) pss_nil)
      (pss_one (ps_ret (pe_ix (ix_seqK (K := K) rfl) (pe_glob (v := k_SIGNS) rfl g.c_SIGNS ⟨_, rfl⟩) (pv 1) (fun _ _ => rfl))))))), ?_⟩
    walk_at "rd"
    refine ite2 (fun h => ?_) (fun h => ?_)
    · rw [sgV_no (fun q => by have := isSg_lt q; omega)] at k
      exact k
    · refine ite2 (fun h1 => ?_) (fun h1 => ?_)
      · rw [sgV_no (fun q => by have := isSg_lt q; omega)] at k
        exact k
      · refine ite2 (fun h2 => ?_) (fun h2 => ?_)
        · rw [sgV_no (fun q => by have := isSg_lt q; omega)] at k
          exact k
        · have hs : isSg n = true := isSg_of (by omega) (by omega) (by omega)
          rw [sgV_yes hs] at k
          have hat := signs_at n (by omega) hs
          refine ite2 (fun h3 => ?_) (fun h3 => ?_)
          · rw [if_pos (show 37 < n by omega)] at hat
            refine ⟨n, signs_len, ?_, k⟩
            rw [show (n : Int) - 32 - 1 = ((n - 32 - 1 : Nat) : Int) by omega]
            exact atI_nat hat
          · rw [if_neg (show ¬ 37 < n by omega)] at hat
            refine ⟨n, signs_len, ?_, k⟩
            rw [show (n : Int) - 32 = ((n - 32 - 0 : Nat) : Int) by omega]
            exact atI_nat hat
theorem ok_is_whole (g : G K mg) : FnOk P w K mg base CX0 1 g.a_is_whole g.fd_is_whole ["address"] (sp_is_whole K) := by
  refine g.F_is_whole.ok sc_is_whole (fun vs H Q E h => ?_) (fun cdv A outer s H vs Q E hr h => ?_)
  · obtain ⟨p, l, r, rfl, _⟩ := h; rfl
  · obtain ⟨p, l, r, rfl, hp, k⟩ := h
    refine ⟨_, (pss_one (ps_ret (pe_cmpR op_ne (pe_ix (ix_seqK (K := K) rfl) (pv 0) (pe_glob (v := k_SCHEME) rfl g.c_SCHEME ⟨_, rfl⟩) (fun _ _ => rfl)) pe_str (nomark _)))), ?_⟩
    walk_at "rd"
    refine ⟨_, _, .inr hp, atI_0, ?_⟩
    walk_at "rd"
    rw [show decide ((⟨l.toArray⟩ : Str) = ⟨([] : List Nat).toArray⟩) = decide (l = []) from decide_eq_decide.mpr mk_inj]
    exact k
theorem ok_is_tuple (g : G K mg) : FnOk P w K mg base CX0 1 g.a_is_tuple g.fd_is_tuple ["thing", "count"] sp_is_tuple := by
  refine g.F_is_tuple.ok sc_is_tuple (fun vs H Q E h => ?_) (fun cdv A outer s H vs Q E hr h => ?_)
  · obtain ⟨d, v, n, rfl, _⟩ := h; rfl
  · obtain ⟨d, v, n, rfl, hv, k⟩ := h
    refine ⟨_, (pss_one (ps_ret (pe_and (pe_callB call_isiU rfl g.b_isinstance boot_isinstance (pa_cons (pv 0) (pa_cons (pe_bltn (v := .ty "tuple") rfl g.b_tuple bt_tuple rfl) pa_nil))) (pe_one (pe_cmpR op_eq (pe_callB (call_lenK (K := K) rfl) rfl g.b_len PySem.boot_len (pa_cons (pv 0) pa_nil)) (pv 1) (nomark _)))))), ?_⟩
    cases hv with
    | lst hp r => walk_at "rd"; simp only [kind_lst hp]; walk_at "rd"; exact k
    | tup hp r =>
      walk_at "rd"; simp only [kind_tup hp]; walk_at "rd"
      refine ⟨_, .inr (SqT.of hp), ?_⟩
      rw [← r.length]
      exact k
    | _ => walk_at "rd"; exact k
theorem ok_is_whole_number (g : G K mg) : FnOk P w K mg base CX0 1 g.a_is_whole_number g.fd_is_whole_number ["thing"] sp_is_whole_number := by
  refine g.F_is_whole_number.ok sc_is_whole_number (fun vs H Q E h => ?_) (fun cdv A outer s H vs Q E hr h => ?_)
  · obtain ⟨d, v, rfl, _⟩ := h; rfl
  · obtain ⟨d, v, rfl, hv, k⟩ := h
    refine ⟨_, (pss_one (ps_ret (pe_and (pe_callB call_isiU rfl g.b_isinstance boot_isinstance (pa_cons (pv 0) (pa_cons (pe_bltn (v := .ty "int") rfl g.b_int bt_int rfl) pa_nil))) (pe_one (pe_not (pe_callB call_isiU rfl g.b_isinstance boot_isinstance (pa_cons (pv 0) (pa_cons (pe_bltn (v := .ty "bool") rfl g.b_bool bt_bool rfl) pa_nil)))))))), ?_⟩
    cases hv with
    | lst hp r => walk_at "rd"; simp only [kind_lst hp]; walk_at "rd"; exact k
    | tup hp r => walk_at "rd"; simp only [kind_tup hp]; walk_at "rd"; exact k
    | _ => walk_at "rd"; exact k
theorem ok_slashed (g : G K mg) : FnOk P w K mg base CX0 1 g.a_slashed g.fd_slashed ["rooted", "texts", "ends"] (sp_slashed K) := by
  refine g.F_slashed.ok sc_slashed (fun vs H Q E h => ?_) (fun cdv A outer s H vs Q E hr h => ?_)
  · obtain ⟨r, e, p, ts, rfl, _⟩ := h; rfl
  · obtain ⟨r, e, p, ts, rfl, hp, hl, k⟩ := h
    refine ⟨_, (pss_cut (ps_set (i := 3) sc_slashed.nd rfl (Or.inl rfl) (pe_ifExp (pt_val (pv 0)) pe_str pe_str))
      (pss_cut (ps_set (i := 4) sc_slashed.nd rfl (Or.inl rfl) (pe_ifExp (PW.pt (pw_and (pt_val (pv 2)) (pw_and1 (pt_cmpR op_gt (pe_callB (call_lenK (K := K) rfl) rfl g.b_len PySem.boot_len (pa_cons (pv 1) pa_nil)) pe_int (nomark _))))) pe_str pe_str))
      (pss_one (ps_ret (pe_op (op_addK (K := K) rfl) (pe_op (op_addK (K := K) rfl) (pv 3) (pe_bmK (K := K) rfl PySem.F.plainAttrs_str PySem.F.slot_str_join PySem.F.type_str_join (mt_joinK (K := K) rfl) pe_str (pa_cons (pv 1) pa_nil))) (pv 4)))))), ?_⟩
    have c1 : Str.ofString "/" = ⟨[47].toArray⟩ := by decide +kernel
    rw [c1]
    walk_at "rd"
    refine ⟨fun σ H' => H' = H ∧ σ = [some (.bl r), some (.ref p), some (.bl e), some (.str ⟨(if r then [47] else [] : List Nat).toArray⟩), none], ?_, ?_⟩
    · cases r with
      | true => exact ite2 (fun _ => ⟨rfl, rfl⟩) (fun z => absurd rfl z)
      | false => exact ite2 (fun z => by cases z) (fun _ => ⟨rfl, rfl⟩)
    rintro σ H' ⟨rfl, rfl⟩
    walk_at "rd"
    refine ⟨fun σ H'' => H'' = H' ∧ σ = [some (.bl r), some (.ref p), some (.bl e), some (.str ⟨(if r then [47] else [] : List Nat).toArray⟩), some (.str ⟨(if e && !ts.isEmpty then [47] else [] : List Nat).toArray⟩)], ?_, ?_⟩
    · cases e with
      | false => exact ite2 (fun z => by cases z) (fun _ => ⟨rfl, rfl⟩)
      | true =>
        refine ite2 (fun _ => ⟨_, .inl hp, ?_⟩) (fun z => absurd rfl z)
        rw [List.length_map]
        cases ts with
        | nil => exact ite2 (fun z => absurd z (by decide)) (fun _ => ⟨rfl, rfl⟩)
        | cons t ts => exact ite2 (fun _ => ⟨rfl, rfl⟩) (fun z => absurd (by simp) z)
    rintro σ H'' ⟨rfl, rfl⟩
    walk_at "rd"
    have hj := join_len (sep := 47) ts
    have h1 : (if r = true then [47] else ([] : List Nat)).length ≤ 1 := by split <;> simp
    have h2 : (if (e && !ts.isEmpty) = true then [47] else ([] : List Nat)).length ≤ 1 := by split <;> simp
    refine ⟨ts.map fun l => ⟨l.toArray⟩, by rw [List.map_map]; exact hp, ?_, ?_⟩
    · rw [lens_eq, List.length_map]
      have : (ts.map List.length).sum + ts.length ≤ (joinT 47 ts).length + 1 := hj
      omega
    rw [show (⟨#[47]⟩ : Str) = ⟨[47].toArray⟩ from rfl, join_sep]
    walk_at "rd"
    refine ⟨le_line (by omega), le_line (by rw [List.length_append]; omega), ?_⟩
    rw [List.append_assoc]
    exact k
theorem ok_Cursor___init__ (g : G K mg) : FnOk P w K mg base CX0 1 g.a_Cursor___init__ g.fd_Cursor___init__ ["self", "text"] (sp_Cursor___init__ K g.C_Cursor) := by
  refine g.F_Cursor___init__.ok sc_Cursor___init__ (fun vs H Q E h => ?_) (fun cdv A outer s H vs Q E hr h => ?_)
  · obtain ⟨p, dx, t, rfl, _⟩ := h; rfl
  · obtain ⟨p, dx, t, rfl, hp, k⟩ := h
    refine ⟨_, (pss_cons (ps_fld (pv 0) (pv 1) rfl)
      (pss_one (ps_fld (pv 0) pe_int rfl))), ?_⟩
    walk_at "rd"
    refine ⟨p, _, dx, _, rfl, hp, g.cl_Cursor, g.n_Cursor_text, by show 0 < 1000; decide, ?_⟩
    refine ⟨p, _, dx, _, rfl, upd_same, g.cl_Cursor, g.n_Cursor_place, by show 1 < 1000; decide, ?_⟩
    have h : Str.ofString "text" ≠ Str.ofString "place" := by decide +kernel
    rw [upd_upd]
    refine k _ sameBut_upd ⟨dx, ?_⟩
    rw [upd_same]
    simp only [putF, if_neg h]
    rfl
theorem ok_Cursor_at_end (g : G K mg) : FnOk P w K mg base CX0 1 g.a_Cursor_at_end g.fd_Cursor_at_end ["self"] (sp_Cursor_at_end K g.C_Cursor) := by
  refine g.F_Cursor_at_end.ok sc_Cursor_at_end (fun vs H Q E h => ?_) (fun cdv A outer s H vs Q E hr h => ?_)
  · obtain ⟨p, t, i, rfl, _⟩ := h; rfl
  · obtain ⟨p, t, i, rfl, ⟨dx, hp⟩, hl, k⟩ := h
    refine ⟨_, (pss_one (ps_ret (pe_cmpR op_eq (pe_fld (pv 0) rfl) (pe_callB (call_lenK (K := K) rfl) rfl g.b_len PySem.boot_len (pa_cons (pe_fld (pv 0) rfl) pa_nil)) (nomark _)))), ?_⟩
    have hcur : Cur H g.C_Cursor p t i := ⟨dx, hp⟩
    walk_at "rd"
    refine get_place hcur g.cl_Cursor g.n_Cursor_place (get_text hcur g.cl_Cursor g.n_Cursor_text ?_)
    walk_at "rd"
    refine ⟨le_line hl, ?_⟩
    rw [show decide ((i : Int) = (t.length : Int)) = decide (i = t.length) from decide_eq_decide.mpr (by omega)]
    exact k
theorem ok_Cursor_take (g : G K mg) : FnOk P w K mg base CX0 1 g.a_Cursor_take g.fd_Cursor_take ["self"] (sp_Cursor_take K g.C_Cursor) := by
  refine g.F_Cursor_take.ok sc_Cursor_take (fun vs H Q E h => ?_) (fun cdv A outer s H vs Q E hr h => ?_)
  · obtain ⟨p, t, i, c, rfl, _⟩ := h; rfl
  · obtain ⟨p, t, i, c, rfl, ⟨dx, hp⟩, hc, hl, k⟩ := h
    refine ⟨_, (pss_cons (ps_set (i := 1) sc_Cursor_take.nd rfl (Or.inl rfl) (pe_ix (ix_seqK (K := K) rfl) (pe_fld (pv 0) rfl) (pe_fld (pv 0) rfl) (fun _ _ => rfl)))
      (pss_cons (ps_fld (pv 0) (pe_op (op_addK (K := K) rfl) (pe_fld (pv 0) rfl) pe_int) rfl)
      (pss_one (ps_ret (pv 1))))), ?_⟩
    have hcur : Cur H g.C_Cursor p t i := ⟨dx, hp⟩
    walk_at "rd"
    refine get_text hcur g.cl_Cursor g.n_Cursor_text (get_place hcur g.cl_Cursor g.n_Cursor_place ?_)
    walk_at "rd"
    refine ⟨c, le_line hl, atI_nat hc, ?_⟩
    refine get_place hcur g.cl_Cursor g.n_Cursor_place ?_
    walk_at "rd"
    exact set_place hcur g.cl_Cursor g.n_Cursor_place (i + 1) (by omega) fun H' sb h => k H' sb h
theorem pass_yes {K : PySem.W.Frag} {C p : Addr} {H : Hp} {Q : VK} {E : XK} {t w r : List Nat} {i : Nat} (h : Cur H C p t i) (hi : i ≤ t.length) (hl : t.length ≤ 100000) (hd : t.drop i = w ++ r) (k : ∀ H', SameBut p H H' → Cur H' C p t (i + w.length) → i + w.length ≤ t.length → t.drop (i + w.length) = r → Q (.bl true) H') : sp_Cursor_passes K C [.ref p, .str ⟨w.toArray⟩] H Q E :=
  ⟨p, t, w, i, rfl, h, hi, hl, fun _ H' s c => k H' s c (by have := congrArg List.length hd; rw [List.length_drop, List.length_append] at this; omega) (by rw [← List.drop_drop, hd, List.drop_left]), fun z => absurd (by rw [hd, List.take_left]) z⟩
theorem pass_no {K : PySem.W.Frag} {C p : Addr} {H : Hp} {Q : VK} {E : XK} {t w : List Nat} {i : Nat} (h : Cur H C p t i) (hi : i ≤ t.length) (hl : t.length ≤ 100000) (hn : ¬ (t.drop i).take w.length = w) (k : Q (.bl false) H) : sp_Cursor_passes K C [.ref p, .str ⟨w.toArray⟩] H Q E :=
  ⟨p, t, w, i, rfl, h, hi, hl, fun z => absurd z hn, fun _ => k⟩
theorem pass_no1 {K : PySem.W.Frag} {C p : Addr} {H : Hp} {Q : VK} {E : XK} {t r : List Nat} {i c : Nat} (h : Cur H C p t i) (hi : i ≤ t.length) (hl : t.length ≤ 100000) (hd : t.drop i = r) (hn : r.head? ≠ some c) (k : Q (.bl false) H) : sp_Cursor_passes K C [.ref p, .str ⟨[c].toArray⟩] H Q E :=
  pass_no h hi hl (fun z => hn (by rw [hd] at z; cases r with | nil => cases z | cons d r => rw [(List.cons.inj z).1]; rfl)) k
theorem ok_Cursor_passes (g : G K mg) : FnOk P w K mg base CX0 1 g.a_Cursor_passes g.fd_Cursor_passes ["self", "text"] (sp_Cursor_passes K g.C_Cursor) := by
  refine g.F_Cursor_passes.ok sc_Cursor_passes (fun vs H Q E h => ?_) (fun cdv A outer s H vs Q E hr h => ?_)
  · obtain ⟨p, t, w, i, rfl, _⟩ := h; rfl
  · obtain ⟨p, t, w, i, rfl, ⟨dx, hp⟩, hi, hl, k1, k2⟩ := h
    refine ⟨_, (pss_cons (ps_if (pt_not (pt_val (pe_bmK (K := K) rfl PySem.F.plainAttrs_str PySem.F.slot_str_startswith PySem.F.type_str_startswith mt_starts3 (pe_fld (pv 0) rfl) (pa_cons (pv 1) (pa_cons (pe_fld (pv 0) rfl) pa_nil)))))
        (pss_one (ps_ret pe_bl)) pss_nil)
      (pss_cons (ps_fld (pv 0) (pe_op (op_addK (K := K) rfl) (pe_fld (pv 0) rfl) (pe_callB (call_lenK (K := K) rfl) rfl g.b_len PySem.boot_len (pa_cons (pv 1) pa_nil))) rfl)
      (pss_one (ps_ret pe_bl)))), ?_⟩
    have hcur : Cur H g.C_Cursor p t i := ⟨dx, hp⟩
    walk_at "rd"
    refine get_text hcur g.cl_Cursor g.n_Cursor_text ⟨rfl, get_place hcur g.cl_Cursor g.n_Cursor_place ?_⟩
    walk_at "rd"
    have e := sub_at t w i hi
    rw [mk_len, mk_len] at e
    rw [e]
    by_cases h : (t.drop i).take w.length = w
    · rw [decide_eq_true h, if_neg (by decide)]
      refine get_place hcur g.cl_Cursor g.n_Cursor_place ?_
      walk_at "rd"
      exact ⟨le_line (by have := congrArg List.length h; rw [List.length_take, List.length_drop] at this; omega), set_place hcur g.cl_Cursor g.n_Cursor_place (i + w.length) (by omega) fun H' sb h' => k1 h H' sb h'⟩
    · rw [decide_eq_false h, if_pos rfl]
      exact k2 h
theorem ok_door_with (g : G K mg) : FnOk P w K mg base CX0 1 g.a_door_with g.fd_door_with ["door", "cursor"] (sp_door_with K g.C_Cursor) := by
  refine g.F_door_with.ok sc_door_with (fun vs H Q E h => ?_) (fun cdv A outer s H vs Q E hr h => ?_)
  · obtain ⟨p, t, i, c, n, rfl, _⟩ := h; rfl
  · obtain ⟨p, t, i, c, n, rfl, hcur, hl, hc, h48, h57, hn, k⟩ := h
    refine ⟨_, (pss_one (ps_ret (pe_op (op_addK (K := K) rfl) (pe_op op_mulU (pv 0) pe_int) (pe_callTy call_intS rfl g.b_int bt_int (pa_cons (pe_ix (ix_seqK (K := K) rfl) (pe_fld (pv 1) rfl) (pe_fld (pv 1) rfl) (fun _ _ => rfl)) pa_nil))))), ?_⟩
    walk_at "rd"
    refine ⟨.inl ⟨by omega, by omega⟩, get_text hcur g.cl_Cursor g.n_Cursor_text (get_place hcur g.cl_Cursor g.n_Cursor_place ?_)⟩
    walk_at "rd"
    refine ⟨c, le_line hl, atI_nat hc, _, by show 1 ≤ 640; decide, int_one c (by omega) h48, ?_⟩
    rw [show (n : Int) * 10 + ((c - 48 : Nat) : Int) = ((n * 10 + (c - 48) : Nat) : Int) by omega]
    exact k
theorem ok__law_cell_at (g : G K mg) : FnOk P w K mg base CX0 1 g.a__law_cell_at g.fd__law_cell_at ["_law_script", "_law_k"] (sp__law_cell_at K) := by
  refine g.F__law_cell_at.ok sc__law_cell_at (fun vs H Q E h => ?_) (fun cdv A outer s H vs Q E hr h => ?_)
  · obtain ⟨a, ns, k, rfl, _⟩ := h; rfl
  · obtain ⟨a, ns, i, rfl, hS, k⟩ := h
    refine ⟨_, (pss_cons (ps_if (pt_cmpR op_lt (pv 1) (pe_callB (call_lenK (K := K) rfl) rfl g.b_len PySem.boot_len (pa_cons (pv 0) pa_nil)) (nomark _))
        (pss_one (ps_ret (pe_ix (ix_seqK (K := K) rfl) (pv 0) (pv 1) (fun _ _ => rfl)))) pss_nil)
      (pss_one (ps_ret pe_int))), ?_⟩
    walk_at "rd"
    refine ⟨ns.map V.int, .inl hS, ite2 (fun h => ?_) (fun h => ?_)⟩
    · rw [List.length_map] at h
      exact ⟨ns.map V.int, _, .inl hS, cell_of (by omega), k⟩
    · rw [List.length_map] at h
      rw [List.getD_eq_getElem?_getD, List.getElem?_eq_none (by omega)] at k
      exact k
theorem ok__law_table (g : G K mg) : FnOk P w K mg base CX0 1 g.a__law_table g.fd__law_table [] sp__law_table := by
  refine g.F__law_table.ok sc__law_table (fun vs H Q E h => ?_) (fun cdv A outer s H vs Q E hr h => ?_)
  · obtain ⟨rfl, _⟩ := h; rfl
  · obtain ⟨rfl, k⟩ := h
    refine ⟨_, (pss_cons (ps_set (i := 0) sc__law_table.nd rfl (Or.inl rfl) pe_str)
      (pss_one (ps_ret (pe_op (op_addK (K := K) rfl) (pv 0) pe_str)))), ?_⟩
    walk_at "rd"
    rw [tab_eq]
    exact ⟨tab_len, k⟩
theorem ok__law_plain (g : G K mg) : FnOk P w K mg base CX0 1 g.a__law_plain g.fd__law_plain ["_law_sign"] sp__law_plain := by
  refine g.F__law_plain.ok sc__law_plain (fun vs H Q E h => ?_) (fun cdv A outer s H vs Q E hr h => ?_)
  · obtain ⟨c, rfl, _⟩ := h; rfl
  · obtain ⟨c, rfl, hc, k⟩ := h
    refine ⟨_, (pss_one (ps_ret (pe_or (pe_bm0K (K := K) rfl PySem.F.plainAttrs_str PySem.F.slot_str_isalnum PySem.F.type_str_isalnum mt_alnum (pv 0)) (pe_one (pe_cmpR op_inU (pv 0) pe_str (by with_unfolding_all rfl)))))), ?_⟩
    walk_at "rd"
    have e := plain_law c hc
    refine ite2 (fun h => ?_) (fun h => ?_)
    · rw [← e, h] at k
      exact k
    · rw [← e, (Bool.not_eq_true _).mp h, Bool.false_or] at k
      exact k
theorem ok__law_deck (g : G K mg) : FnOk P w K mg base CX0 1 g.a__law_deck g.fd__law_deck ["_law_cell"] sp__law_deck := by
  refine g.F__law_deck.ok sc__law_deck (fun vs H Q E h => ?_) (fun cdv A outer s H vs Q E hr h => ?_)
  · obtain ⟨c, rfl, _⟩ := h; rfl
  · obtain ⟨c, rfl, k⟩ := h
    refine ⟨_, (pss_one (ps_ret (pe_lst (pa_cons (pe_op op_mod (pv 0) pe_int) (pa_cons (pe_op op_fdiv (pv 0) pe_int) (pa_cons pe_int pa_nil)))))), ?_⟩
    walk_at "rd"
    exact ⟨by decide, ⟨by decide, by decide⟩, by decide, fun p hp => k p _ hp (same_upd hp) ⟨_, _, 0, upd_same, by decide, by decide⟩⟩
theorem ok__law_draw (g : G K mg) : FnOk P w K mg base CX0 1 g.a__law_draw g.fd__law_draw ["_law_deck_here", "_law_most"] sp__law_draw := by
  refine g.F__law_draw.ok sc__law_draw (fun vs H Q E h => ?_) (fun cdv A outer s H vs Q E hr h => ?_)
  · obtain ⟨p, m, n, rfl, _⟩ := h; rfl
  · obtain ⟨p, m, n, rfl, ⟨a, b, c, hp, hc0, hc1⟩, hn, hm0, hm1, k⟩ := h
    refine ⟨_, (pss_cons (ps_if (pt_cmpR op_eq (pe_ix (ix_seqK (K := K) rfl) (pv 0) pe_int (fun _ _ => rfl)) pe_int (nomark _))
        (pss_cons (ps_set (i := 2) sc__law_draw.nd rfl (Or.inl rfl) (pe_op op_mod (pe_ix (ix_seqK (K := K) rfl) (pv 0) pe_int (fun _ _ => rfl)) (pv 1)))
      (pss_cons (ps_asg (pe_op op_fdiv (pe_ix (ix_seqK (K := K) rfl) (pv 0) pe_int (fun _ _ => rfl)) (pv 1)) (pg_sub (pv 0) pe_int set_list))
      (pss_one (ps_ret (pv 2))))) pss_nil)
      (pss_cons (ps_asg (pe_op (op_addK (K := K) rfl) (pe_ix (ix_seqK (K := K) rfl) (pv 0) pe_int (fun _ _ => rfl)) pe_int) (pg_sub (pv 0) pe_int set_list))
      (pss_cons (ps_set (i := 3) sc__law_draw.nd rfl (Or.inl rfl) (pe_op op_mod (pe_op op_mulU (pe_op (op_addK (K := K) rfl) (pe_ix (ix_seqK (K := K) rfl) (pv 0) pe_int (fun _ _ => rfl)) (pe_op op_mulU (pe_op op_mulU pe_int (pe_ix (ix_seqK (K := K) rfl) (pv 0) pe_int (fun _ _ => rfl))) (pe_ix (ix_seqK (K := K) rfl) (pv 0) pe_int (fun _ _ => rfl)))) pe_int) pe_int))
      (pss_one (ps_ret (pe_op op_mod (pe_op op_fdiv (pe_op op_mod (pe_op op_mulU (pv 3) (pe_op (op_addK (K := K) rfl) (pv 3) pe_int)) pe_int) pe_int) (pv 1))))))), ?_⟩
    walk_at "rd"
    refine ⟨_, .int a, .inl (SqL.of hp), atI_nat (j := 0) rfl, ?_⟩
    walk_at "rd"
    refine ite2 (fun ha => ?_) (fun ha => ?_)
    · refine ⟨_, .int b, .inl (SqL.of hp), atI_nat (j := 1) rfl, ?_⟩
      walk_at "rd"
      refine ⟨hm0, _, .int b, .inl (SqL.of hp), atI_nat (j := 1) rfl, ?_⟩
      walk_at "rd"
      refine ⟨⟨hm0, by omega⟩, _, 1, hp, rfl, ?_⟩
      exact k _ _ (Int.emod_nonneg _ (by omega)) (Int.emod_lt_of_pos _ hm0) ⟨a, _, c, upd_same, hc0, by omega⟩ sameBut_upd
    · refine ⟨_, .int c, .inl (SqL.of hp), atI_nat (j := 2) rfl, ?_⟩
      walk_at "rd"
      refine ⟨_, 2, hp, rfl, _, .int b, .inl (SqL.of upd_same), atI_nat (j := 1) rfl, _, .int (c + 1), .inl (SqL.of upd_same), atI_nat (j := 2) rfl, ?_⟩
      walk_at "rd"
      refine ⟨.inl ⟨by decide, by decide⟩, _, .int (c + 1), .inl (SqL.of upd_same), atI_nat (j := 2) rfl, ?_⟩
      walk_at "rd"
      refine ⟨.inr ⟨by omega, by omega⟩, .inr ⟨by decide, by decide⟩, by decide, ?_⟩
      have h1 := Int.emod_nonneg ((b + 7919 * (c + 1) * (c + 1)) * 48271) (show (2147483647 : Int) ≠ 0 by decide)
      have h2 := Int.emod_lt_of_pos ((b + 7919 * (c + 1) * (c + 1)) * 48271) (show (0 : Int) < 2147483647 by decide)
      refine ⟨.inl ⟨by omega, by omega⟩, by decide, ⟨by decide, by decide⟩, hm0, ?_⟩
      exact k _ _ (Int.emod_nonneg _ (by omega)) (Int.emod_lt_of_pos _ hm0) ⟨a, b, c + 1, upd_same, by omega, by omega⟩ sameBut_upd
theorem ok_is_text (g : G K mg) : FnOk P w K mg base CX0 2 g.a_is_text g.fd_is_text ["thing"] sp_is_text := by
  refine g.F_is_text.ok sc_is_text (fun vs H Q E h => ?_) (fun cdv A outer s H vs Q E hr h => ?_)
  · obtain ⟨d, v, rfl, _⟩ := h; rfl
  · obtain ⟨d, v, rfl, hv, hs, k⟩ := h
    refine ⟨_, (pss_one (ps_ret (pe_and (pe_callB call_isiU rfl g.b_isinstance boot_isinstance (pa_cons (pv 0) (pa_cons (pe_bltn (v := .ty "str") rfl g.b_str bt_str rfl) pa_nil))) (pe_one (pe_call (ok_made_of g) (hr.mono (by decide)) rfl g.m_made_of g.F_made_of.kp g.b_made_of .nil pass0 (pa_cons (pv 0) (pa_cons (pe_glob (v := k_SIGNS) rfl g.c_SIGNS ⟨_, rfl⟩) pa_nil))))))), ?_⟩
    cases hv with
    | lst hp r => walk_at "rd"; simp only [kind_lst hp]; walk_at "rd"; exact k H (Same.refl _)
    | tup hp r => walk_at "rd"; simp only [kind_tup hp]; walk_at "rd"; exact k H (Same.refl _)
    | str x =>
      walk_at "rd"
      refine ⟨x, _, rfl, small_str hs, fun H' sm => ?_⟩
      simp only [sig_in]
      exact k H' sm
    | _ => walk_at "rd"; exact k H (Same.refl _)
theorem ok_sign_of (g : G K mg) : FnOk P w K mg base CX0 2 g.a_sign_of g.fd_sign_of ["figures"] sp_sign_of := by
  refine g.F_sign_of.ok sc_sign_of (fun vs H Q E h => ?_) (fun cdv A outer s H vs Q E hr h => ?_)
  · obtain ⟨c, rfl, _⟩ := h; rfl
  · obtain ⟨l, rfl, hl, ha, k⟩ := h
    refine ⟨_, (pss_cons (ps_if (pt_cmpR op_ne (pe_callB (call_lenK (K := K) rfl) rfl g.b_len PySem.boot_len (pa_cons (pv 0) pa_nil)) pe_int (nomark _))
        (pss_one (ps_ret pe_non)) pss_nil)
      (pss_cons (ps_set (i := 1) sc_sign_of.nd rfl (Or.inl rfl) (pe_call (ok_figure_number g) (hr.mono (by decide)) rfl g.m_figure_number g.F_figure_number.kp g.b_figure_number .nil pass0 (pa_cons (pe_ix (ix_seqK (K := K) rfl) (pv 0) pe_int (fun _ _ => rfl)) pa_nil)))
      (pss_cons (ps_set (i := 2) sc_sign_of.nd rfl (Or.inl rfl) (pe_call (ok_figure_number g) (hr.mono (by decide)) rfl g.m_figure_number g.F_figure_number.kp g.b_figure_number .nil pass0 (pa_cons (pe_ix (ix_seqK (K := K) rfl) (pv 0) pe_int (fun _ _ => rfl)) pa_nil)))
      (pss_cons (ps_if (PW.pt (pw_or (pt_cmpR op_isNU (pv 1) pe_non (nomark _)) (pw_or1 (pt_cmpR op_isNU (pv 2) pe_non (nomark _)))))
        (pss_one (ps_ret pe_non)) pss_nil)
      (pss_one (ps_ret (pe_call (ok_sign_numbered g) (hr.mono (by decide)) rfl g.m_sign_numbered g.F_sign_numbered.kp g.b_sign_numbered .nil pass0 (pa_cons (pe_op (op_addK (K := K) rfl) (pe_op op_mulU (pv 1) pe_int) (pv 2)) pa_nil)))))))), ?_⟩
    walk_at "rd"
    have hz : l.length ≤ sizeLine := le_line (by omega)
    refine ⟨hz, ite2 (fun h => ?_) (fun h => ?_)⟩
    · rw [signOfL_no (by omega)] at k
      exact k
    · obtain ⟨a, b, rfl⟩ := two_of (l := l) (by omega)
      refine ⟨a, hz, rfl, ha a (by simp), b, hz, rfl, ha b (by simp), ?_⟩
      have k : Q (signOf a b) H := k
      unfold signOf at k
      cases e1 : fig a with
      | none =>
        rw [e1] at k
        rw [figV_none e1]
        exact k
      | some x =>
        cases e2 : fig b with
        | none =>
          rw [e1, e2] at k
          rw [figV_some e1, figV_none e2]
          exact k
        | some y =>
          rw [e1, e2] at k
          rw [figV_some e1, figV_some e2]
          walk_at "rd"
          exact ⟨.inr ⟨by decide, by decide⟩, x * 16 + y, by rw [Int.natCast_add, Int.natCast_mul]; rfl, k⟩
theorem ok_written (g : G K mg) : FnOk P w K mg base CX0 2 g.a_written g.fd_written ["text"] sp_written := by
  refine g.F_written.ok sc_written (fun vs H Q E h => ?_) (fun cdv A outer s H vs Q E hr h => ?_)
  · obtain ⟨c, rfl, _⟩ := h; rfl
  · obtain ⟨l, rfl, hl, hs, k⟩ := h
    refine ⟨_, (pss_one (ps_ret (pe_bmK (K := K) rfl PySem.F.plainAttrs_str PySem.F.slot_str_join PySem.F.type_str_join (mt_joinK (K := K) rfl) pe_str (pa_cons (pe_comp (fx := []) (fr := []) rfl rfl (by decide +kernel) rfl (by decide +kernel) rfl (by decide +kernel) rfl .nil rfl (pi_str (pv 0)) (fun _ _ _ => pf_nil) (fun _ _ _ => (pe_ifExp (pt_cmpR op_inU (pv 0) (pe_glob (v := k_PLAIN) rfl g.c_PLAIN ⟨_, rfl⟩) (by with_unfolding_all rfl)) (pv 0) (pe_call (ok_pair_of g) (hr.mono (by decide)) rfl g.m_pair_of g.F_pair_of.kp g.b_pair_of .nil pass0 (pa_cons (pv 0) pa_nil))))) pa_nil)))), ?_⟩
    walk_at "rd"
    intro p hp
    refine comp_str (z := ⟨l.toArray⟩) (by rw [mk_len]; exact le_line (by omega)) hp (fun c => .str ⟨(wr1 c).toArray⟩) (fun c hc H' R hR => ?_) (fun H' sm hp' => ?_)
    · have l1 := isSg_lt (hs c hc)
      have e := plain_in c (by omega)
      have hR' := hR H' (Same.refl _)
      walk_at "rd"
      unfold wr1 at hR'
      refine ite2 (fun h => ?_) (fun h => ?_)
      · rw [decide_eq_true h] at e
        rw [← e, if_pos rfl] at hR'
        exact hR'
      · rw [decide_eq_false h] at e
        rw [← e, if_neg (by decide)] at hR'
        exact ⟨by omega, hR'⟩
    · walk_at "rd"
      refine ⟨l.map fun c => ⟨(wr1 c).toArray⟩, SqL.of (by rw [hp', List.map_map]; rfl), ?_, ?_⟩
      · have h3 : ∀ m : List Nat, ((m.map fun c => (⟨(wr1 c).toArray⟩ : Str)).map (·.length)).sum ≤ 3 * m.length := fun m => by
          induction m with
          | nil => simp
          | cons c r ih =>
            have := wr1_len c
            simp only [List.map_cons, List.sum_cons, List.length_cons, mk_len] at ih ⊢
            omega
        have := h3 l
        simp only [List.length_map, List.length_nil, Nat.mul_zero, Nat.add_zero, mk_len] at this ⊢
        omega
      · rw [join_one]
        have e : ((l.map fun c => (⟨(wr1 c).toArray⟩ : Str)).flatMap fun y => y.cps.toList) = wr l := by
          unfold wr
          rw [List.flatMap_map]
        rw [e]
        exact k H' sm
theorem ok_parts_agree (g : G K mg) : FnOk P w K mg base CX0 2 g.a_parts_agree g.fd_parts_agree ["address"] sp_parts_agree := by
  refine g.F_parts_agree.ok sc_parts_agree (fun vs H Q E h => ?_) (fun cdv A outer s H vs Q E hr h => ?_)
  · obtain ⟨a, b, c, d, e, f, v, rfl, _⟩ := h; rfl
  · obtain ⟨a, b, c, d, e, f, v, rfl, hv, ha, hd, k⟩ := h
    refine ⟨_, (pss_cons (ps_set (i := 1) sc_parts_agree.nd rfl (Or.inl rfl) (pe_cmpR op_notNU (pe_ix (ix_seqK (K := K) rfl) (pv 0) (pe_glob (v := k_HOUSE) rfl g.c_HOUSE ⟨_, rfl⟩) (fun _ _ => rfl)) pe_non (nomark _)))
      (pss_cons (ps_if (PW.pt (pw_and (pt_cmpR op_notNU (pe_ix (ix_seqK (K := K) rfl) (pv 0) (pe_glob (v := k_DOOR) rfl g.c_DOOR ⟨_, rfl⟩) (fun _ _ => rfl)) pe_non (nomark _)) (pw_and1 (pt_not (pt_val (pv 1))))))
        (pss_one (ps_ret pe_bl)) pss_nil)
      (pss_one (ps_ret (pe_or (pe_ix (ix_seqK (K := K) rfl) (pe_ix (ix_seqK (K := K) rfl) (pv 0) (pe_glob (v := k_WAY) rfl g.c_WAY ⟨_, rfl⟩) (fun _ _ => rfl)) (pe_glob (v := k_ROOTED) rfl g.c_ROOTED ⟨_, rfl⟩) (fun _ _ => rfl)) (pe_one (pe_not (pe_or (pe_call (ok_is_whole g) (hr.mono (by decide)) rfl g.m_is_whole g.F_is_whole.kp g.b_is_whole .nil pass0 (pa_cons (pv 0) pa_nil)) (pe_one (pv 1)))))))))), ?_⟩
    obtain ⟨x, rfl⟩ := schD_shape ha
    obtain ⟨r0, ds0, e0, rfl⟩ := wayD_shape hd
    cases hv with
    | @tup p xs ds hp r =>
      obtain ⟨x0, x1, x2, x3, x4, x5, rfl, h0, h1, h2, h3, h4, h5⟩ := isAll6 r
      cases h0
      cases h3 with
      | @tup q ys _ hq rq =>
        obtain ⟨y0, y1, y2, rfl, g0, g1, g2⟩ := isAll3 rq
        cases g0
        have eb : decide (x1 = V.non) = nonD b := by cases h1 <;> simp [nonD]
        have ec : decide (x2 = V.non) = nonD c := by cases h2 <;> simp [nonD]
        walk_at "rd"
        refine ⟨_, x1, .inr (SqT.of hp), atI_nat (j := 1) rfl, ⟨_, x2, .inr (SqT.of hp), atI_nat (j := 2) rfl, ?_⟩⟩
        rw [eb]
        have k : Q (.bl ((nonD c || !nonD b) && (r0 || !(!decide (x = ⟨#[]⟩) || !nonD b)))) H := k
        refine ite2 (fun h => ite2 (fun h2 => ?_) (fun h2 => ?_)) (fun h => ?_)
        · rw [show nonD c = false by rw [← ec]; exact decide_eq_false h, h2] at k
          exact k
        all_goals
          refine ⟨_, .ref q, .inr (SqT.of hp), atI_nat (j := 3) rfl, rd_ixR.mpr ⟨_, .bl r0, .inr (SqT.of hq), atI_nat (j := 0) rfl, r0, rfl, ?_⟩⟩
          have hcb : (nonD c || !nonD b) = true := by
            first
            | (rw [(Bool.not_eq_false _).mp h2, Bool.or_true])
            | (rw [show nonD c = true by rw [← ec]; exact decide_eq_true (Decidable.of_not_not h), Bool.true_or])
          rw [hcb, Bool.true_and] at k
          refine ite2 (fun hr0 => ?_) (fun hr0 => ?_)
          · rw [hr0, Bool.true_or] at k
            exact k
          · rw [(Bool.not_eq_true _).mp hr0, Bool.false_or] at k
            obtain ⟨l, rfl⟩ : ∃ l : List Nat, x = ⟨l.toArray⟩ := ⟨x.cps.toList, by simp⟩
            have hdd : decide ((⟨l.toArray⟩ : Str) = ⟨#[]⟩) = decide (l = []) := decide_eq_decide.mpr mk_nil
            rw [hdd] at k
            refine ⟨p, l, _, rfl, .of hp, _, rfl, ite2 (fun hx => ?_) (fun hx => ?_)⟩
            · rw [hx, Bool.true_or] at k
              exact k
            · rw [(Bool.not_eq_true _).mp hx, Bool.false_or] at k
              exact k
theorem ok_is_door (g : G K mg) : FnOk P w K mg base CX0 2 g.a_is_door g.fd_is_door ["thing"] sp_is_door := by
  refine g.F_is_door.ok sc_is_door (fun vs H Q E h => ?_) (fun cdv A outer s H vs Q E hr h => ?_)
  · obtain ⟨d, v, rfl, _⟩ := h; rfl
  · obtain ⟨d, v, rfl, hv, k⟩ := h
    refine ⟨_, (pss_one (ps_ret (pe_or (pe_cmpR op_isNU (pv 0) pe_non (nomark _)) (pe_one (pe_and (pe_call (ok_is_whole_number g) (hr.mono (by decide)) rfl g.m_is_whole_number g.F_is_whole_number.kp g.b_is_whole_number .nil pass0 (pa_cons (pv 0) pa_nil)) (pe_one (pe_chain op_le op_le pe_int (pv 0) (pe_glob (v := k_LAST_DOOR) rfl g.c_LAST_DOOR ⟨_, rfl⟩)))))))), ?_⟩
    cases hv with
    | non => walk_at "rd"; exact k
    | bl b => walk_at "rd"; exact ⟨_, _, rfl, .bl b, false, rfl, k⟩
    | int b =>
      walk_at "rd"
      refine ⟨_, _, rfl, .int b, true, rfl, ?_⟩
      walk_at "rd"
      refine ite2 (fun h => ?_) (fun h => ?_)
      · simp only [dooD, decide_eq_true h, Bool.true_and] at k
        exact k
      · simp only [dooD, decide_eq_false h, Bool.false_and] at k
        exact k
    | str b => walk_at "rd"; exact ⟨_, _, rfl, .str b, false, rfl, k⟩
    | lst hp r => walk_at "rd"; exact ⟨_, _, rfl, .lst hp r, false, rfl, k⟩
    | tup hp r => walk_at "rd"; exact ⟨_, _, rfl, .tup hp r, false, rfl, k⟩
theorem ok_Cursor_sees (g : G K mg) : FnOk P w K mg base CX0 2 g.a_Cursor_sees g.fd_Cursor_sees ["self", "signs"] (sp_Cursor_sees K g.C_Cursor) := by
  refine g.F_Cursor_sees.ok sc_Cursor_sees (fun vs H Q E h => ?_) (fun cdv A outer s H vs Q E hr h => ?_)
  · obtain ⟨p, t, sg, i, rfl, _⟩ := h; rfl
  · obtain ⟨p, t, sg, i, rfl, ⟨dx, hp⟩, hi, hl, k⟩ := h
    refine ⟨_, (pss_one (ps_ret (pe_and (pe_not (pe_meth0 (pv 0) g.cl_Cursor g.me_Cursor_at_end (ok_Cursor_at_end g) (hr.mono (by decide)) g.b_Cursor_at_end .nil pass0)) (pe_one (pe_cmpR op_inU (pe_ix (ix_seqK (K := K) rfl) (pe_fld (pv 0) rfl) (pe_fld (pv 0) rfl) (fun _ _ => rfl)) (pv 1) (by with_unfolding_all rfl)))))), ?_⟩
    have hcur : Cur H g.C_Cursor p t i := ⟨dx, hp⟩
    walk_at "rd"
    refine cur_meth hcur ⟨p, t, i, rfl, hcur, hl, _, rfl, ?_⟩
    by_cases he : i = t.length
    · rw [decide_eq_true he, if_neg (by decide)]
      rw [seesB_none (by rw [he]; exact List.getElem?_eq_none (Nat.le_refl _))] at k
      exact k
    rw [decide_eq_false he, if_pos rfl]
    refine get_text hcur g.cl_Cursor g.n_Cursor_text (get_place hcur g.cl_Cursor g.n_Cursor_place ?_)
    have hc : t[i]? = some t[i] := List.getElem?_eq_getElem (by omega)
    walk_at "rd"
    refine ⟨t[i], le_line hl, atI_nat hc, ?_⟩
    rw [seesB_some hc] at k
    exact k
theorem ok__law_hex (g : G K mg) : FnOk P w K mg base CX0 2 g.a__law_hex g.fd__law_hex ["_law_sign"] sp__law_hex := by
  refine g.F__law_hex.ok sc__law_hex (fun vs H Q E h => ?_) (fun cdv A outer s H vs Q E hr h => ?_)
  · obtain ⟨c, rfl, _⟩ := h; rfl
  · obtain ⟨c, rfl, hc, k⟩ := h
    refine ⟨_, (pss_cons (ps_set (i := 1) sc__law_hex.nd rfl (Or.inl rfl) (pe_bmK (K := K) rfl PySem.F.plainAttrs_str PySem.F.slot_str_index PySem.F.type_str_index mt_index (pe_call0 (ok__law_table g) (hr.mono (by decide)) rfl g.m__law_table g.F__law_table.kp g.b__law_table .nil pass0) (pa_cons (pv 0) pa_nil)))
      (pss_cons (ps_set (i := 2) sc__law_hex.nd rfl (Or.inl rfl) (pe_op (op_addK (K := K) rfl) (pe_op (op_addK (K := K) rfl) pe_int (pv 1)) (pe_callTy call_intU rfl g.b_int bt_int (pa_cons (pe_cmpR op_gt (pv 1) pe_int (nomark _)) pa_nil))))
      (pss_one (ps_ret (pe_op (op_addK (K := K) rfl) (pe_ix (ix_seqK (K := K) rfl) pe_str (pe_op op_fdiv (pv 2) pe_int) (fun _ _ => rfl)) (pe_ix (ix_seqK (K := K) rfl) pe_str (pe_op op_mod (pv 2) pe_int) (fun _ _ => rfl))))))), ?_⟩
    walk_at "rd"
    have l := isSg_lt hc
    have e := ixT_num hc
    refine ⟨ixT c, [], tab_ix c (by omega) hc, ⟨by decide, by decide⟩, hexd (c / 16), small_len, hex_i (by rw [e]; omega) (by omega), by decide, hexd (c % 16), small_len, hex_i (by rw [e]; omega) (by omega), by decide, k⟩
theorem ok__law_some (g : G K mg) : FnOk P w K mg base CX0 2 g.a__law_some g.fd__law_some ["_law_deck_here", "_law_size"] sp__law_some := by
  refine g.F__law_some.ok sc__law_some (fun vs H Q E h => ?_) (fun cdv A outer s H vs Q E hr h => ?_)
  · obtain ⟨p, sz, n, rfl, _⟩ := h; rfl
  · obtain ⟨p, sz, n, rfl, hd, hn, hz, k⟩ := h
    refine ⟨_, (pss_cons (ps_set (i := 2) sc__law_some.nd rfl (Or.inl rfl) (pe_ix (ix_seqK (K := K) rfl) (pe_lst (pa_cons (pe_call0 (ok__law_table g) (hr.mono (by decide)) rfl g.m__law_table g.F__law_table.kp g.b__law_table .nil pass0) (pa_cons (pe_call0 (ok__law_table g) (hr.mono (by decide)) rfl g.m__law_table g.F__law_table.kp g.b__law_table .nil pass0) (pa_cons pe_str (pa_cons pe_str (pa_cons pe_str pa_nil)))))) (pe_call (ok__law_draw g) (hr.mono (by decide)) rfl g.m__law_draw g.F__law_draw.kp g.b__law_draw .nil pass0 (pa_cons (pv 0) (pa_cons pe_int pa_nil))) (fun _ _ => rfl)))
      (pss_cons (ps_set (i := 3) sc__law_some.nd rfl (Or.inl rfl) pe_str)
      (pss_cons (ps_for PassesOwn.never rfl (pi_range1 rfl g.b_range (pa_cons (pv 1) pa_nil)) (pg_name (i := 4) sc__law_some.nd rfl (Or.inl rfl))
      (pss_one (ps_set (i := 3) sc__law_some.nd rfl (Or.inl rfl) (pe_op (op_addK (K := K) rfl) (pv 3) (pe_ix (ix_seqK (K := K) rfl) (pv 2) (pe_call (ok__law_draw g) (hr.mono (by decide)) rfl g.m__law_draw g.F__law_draw.kp g.b__law_draw .nil pass0 (pa_cons (pv 0) (pa_cons (pe_callB (call_lenK (K := K) rfl) rfl g.b_len PySem.boot_len (pa_cons (pv 2) pa_nil)) pa_nil))) (fun _ _ => rfl))))))
      (pss_one (ps_ret (pv 3)))))), ?_⟩
    walk_at "rd"
    refine ⟨by decide, fun q hq => ?_⟩
    refine ⟨p, 5, n, rfl, hd.same (same_upd hq), by omega, by decide, by decide, fun r H2 hr0 hr1 hd2 sb2 => ?_⟩
    have hq2 := sb2 q _ (hd.ne hq) upd_same
    obtain ⟨tab, hat, ht0, ht1, hts⟩ := tabs5 r hr0 hr1
    refine rd_ixR.mpr ⟨_, _, .inl (SqL.of hq2), hat, by omega, by omega, ?_⟩
    rw [Int.toNat_natCast]
    have sb0 : SameBut p H H2 := (Same.but (same_upd hq)).trans sb2
    clear hq2 sb2 hat
    refine loop_range (fun i σ H' => ∃ (l : List Nat) (v4 : Option V), σ = [some (.ref p), some (.int sz), some (.str ⟨tab.toArray⟩), some (.str ⟨l.toArray⟩), v4] ∧ l.length = i ∧ (∀ c ∈ l, isSg c = true) ∧ Deck H' p (n + 1 + i) ∧ SameBut p H H') ⟨[], none, rfl, rfl, by simp, hd2, sb0⟩ ?_ ?_
    · rintro i σ H' hi ⟨l, v4, rfl, hl, hs, hdk, sb⟩
      walk_at "rd"
      refine ⟨le_line (by omega), p, _, n + 1 + i, rfl, hdk, by omega, by omega, by omega, fun r H3 h0 h1 hd3 sb3 => ?_⟩
      obtain ⟨c, hc, hca⟩ := at_lt tab h0 h1
      walk_at "rd"
      refine ⟨c, le_line (by omega), hca, le_line (by omega), l ++ [c], _, ⟨rfl, rfl⟩, by rw [List.length_append, List.length_singleton, hl], fun e he => ?_, hd3, sb.trans sb3⟩
      rcases List.mem_append.mp he with z | z
      · exact hs e z
      · rw [List.mem_singleton.mp z]; exact hts c hc
    · rintro σ H' ⟨l, v4, rfl, hl, hs, hdk, sb⟩
      walk_at "rd"
      exact k l H' hl hs (hdk.le (by omega)) sb
theorem ok__law_scheme (g : G K mg) : FnOk P w K mg base CX0 2 g.a__law_scheme g.fd__law_scheme ["_law_deck_here"] sp__law_scheme := by
  refine g.F__law_scheme.ok sc__law_scheme (fun vs H Q E h => ?_) (fun cdv A outer s H vs Q E hr h => ?_)
  · obtain ⟨p, n, rfl, _⟩ := h; rfl
  · obtain ⟨p, n, rfl, hd, hn, k⟩ := h
    refine ⟨_, (pss_cons (ps_set (i := 1) sc__law_scheme.nd rfl (Or.inl rfl) pe_str)
      (pss_cons (ps_set (i := 2) sc__law_scheme.nd rfl (Or.inl rfl) (pe_call (ok__law_draw g) (hr.mono (by decide)) rfl g.m__law_draw g.F__law_draw.kp g.b__law_draw .nil pass0 (pa_cons (pv 0) (pa_cons pe_int pa_nil))))
      (pss_cons (ps_set (i := 3) sc__law_scheme.nd rfl (Or.inl rfl) pe_str)
      (pss_cons (ps_for PassesOwn.never rfl (pi_range1 rfl g.b_range (pa_cons (pe_op op_mulU (pv 2) (pe_callTy call_intU rfl g.b_int bt_int (pa_cons (pe_cmpR op_lt (pv 2) pe_int (nomark _)) pa_nil))) pa_nil)) (pg_name (i := 4) sc__law_scheme.nd rfl (Or.inl rfl))
      (pss_one (ps_set (i := 3) sc__law_scheme.nd rfl (Or.inl rfl) (pe_op (op_addK (K := K) rfl) (pv 3) (pe_ix (ix_seqK (K := K) rfl) (pe_op (op_addK (K := K) rfl) (pv 1) pe_str) (pe_call (ok__law_draw g) (hr.mono (by decide)) rfl g.m__law_draw g.F__law_draw.kp g.b__law_draw .nil pass0 (pa_cons (pv 0) (pa_cons (pe_op (op_addK (K := K) rfl) pe_int (pe_op op_mulU pe_int (pe_callTy call_intU rfl g.b_int bt_int (pa_cons (pe_cmpR op_gt (pv 4) pe_int (nomark _)) pa_nil)))) pa_nil))) (fun _ _ => rfl))))))
      (pss_one (ps_ret (pv 3))))))), ?_⟩
    walk_at "rd"
    refine ⟨p, 18, n, rfl, hd, by omega, by decide, by decide, fun r H2 hr0 hr1 hd2 sb2 => ?_⟩
    walk_at "rd"
    obtain ⟨m, hm, hm8⟩ : ∃ m : Nat, (r * if r < 9 then 1 else 0) = (m : Int) ∧ m ≤ 8 := by
      by_cases h : r < 9
      · exact ⟨r.toNat, by rw [if_pos h]; omega, by omega⟩
      · exact ⟨0, by rw [if_neg h]; omega, by omega⟩
    refine ⟨.inl ⟨by omega, by omega⟩, ?_⟩
    rw [hm, Int.toNat_natCast]
    refine ⟨by omega, by omega, ?_⟩
    refine loop_range (fun i σ H' => ∃ (l : List Nat) (v4 : Option V), σ = [some (.ref p), some (.str (Str.ofString "abcdefghijklmnopqrstuvwxyzABCDEFGHIJKLMNOPQRSTUVWXYZ")), some (.int r), some (.str ⟨l.toArray⟩), v4] ∧ l.length = i ∧ (∀ c ∈ l, isAln c = true) ∧ (∀ c ∈ l.take 1, isLet c = true) ∧ Deck H' p (n + 1 + i) ∧ SameBut p H H') ⟨[], none, rfl, rfl, by simp, by simp, hd2, sb2⟩ ?_ ?_
    · rintro i σ H' hi ⟨l, v4, rfl, hl, hs, h1, hdk, sb⟩
      walk_at "rd"
      rw [al_app]
      have hb : (0 : Int) < 52 + 10 * (if (0 : Int) < 0 + (i : Int) then 1 else 0) ∧ 52 + 10 * (if (0 : Int) < 0 + (i : Int) then 1 else 0) < (1000000 : Int) ∧ 52 + 10 * (if (0 : Int) < 0 + (i : Int) then 1 else 0) ≤ (62 : Int) ∧ (i = 0 → 52 + 10 * (if (0 : Int) < 0 + (i : Int) then 1 else 0) = (52 : Int)) := by
        by_cases h : (0 : Int) < 0 + (i : Int)
        · rw [if_pos h]; exact ⟨by decide, by decide, by decide, by omega⟩
        · rw [if_neg h]; exact ⟨by decide, by decide, by decide, by omega⟩
      refine ⟨by decide +kernel, .inl ⟨by decide, by decide⟩, p, _, n + 1 + i, rfl, hdk, by omega, hb.1, hb.2.1, fun x H3 h0 hx hd3 sb3 => ?_⟩
      have hx62 : x < (AL.length : Int) := by rw [al_len]; omega
      obtain ⟨c, hc, hca⟩ := at_lt AL h0 hx62
      walk_at "rd"
      refine ⟨c, le_line (by rw [al_len]; decide), hca, le_line (by omega), l ++ [c], _, ⟨rfl, rfl⟩, by rw [List.length_append, List.length_singleton, hl], fun e he => ?_, fun e he => ?_, hd3, sb.trans sb3⟩
      · rcases List.mem_append.mp he with z | z
        · exact hs e z
        · rw [List.mem_singleton.mp z]; exact al_aln c hc
      · rw [pair_or_nil] at he
        split at he
        · rename_i h0l
          rw [List.mem_singleton.mp he]
          have hx52 : x < 52 := by have := hb.2.2.2 (by omega); omega
          obtain ⟨c', h1', h2'⟩ := al_let x.toNat (by omega)
          have hca' := atI_nat h1'
          rw [Int.toNat_of_nonneg h0, hca] at hca'
          cases hca'
          exact h2'
        · exact h1 e he
    · rintro σ H' ⟨l, v4, rfl, hl, hs, h1, hdk, sb⟩
      walk_at "rd"
      exact k l H' (by omega) hs h1 (hdk.le (by omega)) sb
theorem ok__law_third (g : G K mg) : FnOk P w K mg base CX0 2 g.a__law_third g.fd__law_third ["_law_one", "_law_other", "_law_script"] (sp__law_third K) := by
  refine g.F__law_third.ok sc__law_third (fun vs H Q E h => ?_) (fun cdv A outer s H vs Q E hr h => ?_)
  · obtain ⟨x, y, vx, vy, a, ns, rfl, _⟩ := h; rfl
  · obtain ⟨x, y, vx, vy, a, ns, rfl, hx, hy, ox, oy, hS, hn, k⟩ := h
    refine ⟨_, (pss_cons (ps_set (i := 3) sc__law_third.nd rfl (Or.inl rfl) (pe_call (ok__law_cell_at g) (hr.mono (by decide)) rfl g.m__law_cell_at g.F__law_cell_at.kp g.b__law_cell_at .nil pass0 (pa_cons (pv 2) (pa_cons pe_int pa_nil))))
      (pss_cut (ps_set (i := 4) sc__law_third.nd rfl (Or.inl rfl) (pe_callTy (call_tupleS (K := K) rfl) rfl g.b_tuple bt_tuple (pa_cons (pe_comp (fx := []) (fr := []) rfl rfl (by decide +kernel) rfl (by decide +kernel) rfl (by decide +kernel) rfl .nil rfl (pi_listK (K := K) rfl (pe_slice (sl_listS (K := K) rfl) (pv 2) (po_some pe_int) (po_some pe_int))) (fun _ _ _ => pf_nil) (fun _ _ _ => (pe_ix (ix_seqK (K := K) rfl) (pe_call0 (ok__law_table g) (hr.mono (by decide)) rfl g.m__law_table g.F__law_table.kp g.b__law_table .nil pass0) (pe_op op_mod (pv 0) pe_int) (fun _ _ => rfl)))) pa_nil)))
      (pss_cut (ps_if (pt_cmpR op_lt (pe_op op_mod (pv 3) pe_int) pe_int (nomark _))
        (pss_cut (ps_set (i := 5) sc__law_third.nd rfl (Or.inl rfl) (pe_op (op_addS (K := K)) (pe_op (op_addS (K := K)) (pe_slice sl_tupA (pv 0) po_none (po_some (pe_op op_mod (pv 3) pe_int))) (pe_tupS (pa_cons (pe_ix (ix_seqK (K := K) rfl) (pv 1) (pe_op op_mod (pv 3) pe_int) (fun _ _ => rfl)) pa_nil))) (pe_slice sl_tupA (pv 0) (po_some (pe_op (op_addS (K := K)) (pe_op op_mod (pv 3) pe_int) pe_int)) po_none)))
      (pss_cut (ps_if (pt_cmpR op_isNU (pe_ix (ix_seqK (K := K) rfl) (pv 5) pe_int (fun _ _ => rfl)) pe_non (nomark _))
        (pss_one (ps_set (i := 5) sc__law_third.nd rfl (Or.inl rfl) (pe_op (op_addS (K := K)) (pe_op (op_addS (K := K)) (pe_slice sl_tupA (pv 5) po_none (po_some pe_int)) (pe_tupS (pa_cons pe_non pa_nil))) (pe_slice sl_tupA (pv 5) (po_some pe_int) po_none)))) pss_nil)
      (pss_one (ps_if (PW.pt (pw_or (pt_val (pe_ix (ix_seqK (K := K) rfl) (pe_ix (ix_seqK (K := K) rfl) (pv 5) pe_int (fun _ _ => rfl)) pe_int (fun _ _ => rfl))) (pw_or1 (PW.pt (pw_and (pt_cmpR op_eq (pe_ix (ix_seqK (K := K) rfl) (pv 5) pe_int (fun _ _ => rfl)) pe_str (nomark _)) (pw_and1 (pt_cmpR op_isNU (pe_ix (ix_seqK (K := K) rfl) (pv 5) pe_int (fun _ _ => rfl)) pe_non (nomark _))))))))
        (pss_one (ps_ret (pv 5))) pss_nil)))) pss_nil)
      (pss_cons (ps_if (pt_cmpR (op_eqD hr.units) (pv 4) (pe_tupS pa_nil) (nomark _))
        (pss_one (ps_ret (pv 0))) pss_nil)
      (pss_one (ps_ret (pe_op (op_addS (K := K)) (pe_op (op_addS (K := K)) (pe_slice sl_tupA (pv 0) po_none (po_some pe_int)) (pe_tupS (pa_cons (pe_tupS (pa_cons (pe_ix (ix_seqK (K := K) rfl) (pe_ix (ix_seqK (K := K) rfl) (pv 0) pe_int (fun _ _ => rfl)) pe_int (fun _ _ => rfl)) (pa_cons (pv 4) (pa_cons (pe_cmpR op_eq (pe_op op_mod (pe_op op_fdiv (pv 3) pe_int) pe_int) pe_int (nomark _)) pa_nil)))) pa_nil))) (pe_slice sl_tupA (pv 0) (po_some pe_int) po_none)))))))), ?_⟩
    obtain ⟨px, wx, qx, rfl, hpx, hwx, hqx⟩ := isT_ad hx
    obtain ⟨py, wy, qy, rfl, hpy, hwy, hqy⟩ := isT_ad hy
    walk_at "rd"
    refine ⟨a, ns, 18, rfl, hS, ?_⟩
    generalize ns.getD 18 0 = cell
    refine ⟨fun σ H1 => Same H H1 ∧ ∃ (ss : List Nat) (pt : Addr), (∀ c ∈ ss, isSg c = true) ∧ ss.length ≤ 50 ∧ H1 pt = some (.tup (ss.map fun c => V.str ⟨#[c]⟩)) ∧ σ = [some (.ref px), some (.ref py), some (.ref a), some (.int cell), some (.ref pt), none], ?_, ?_⟩
    · refine ⟨_, hS, fun p1 H1 n1 s1 e1 => ?_⟩
      rw [cutV_map] at e1
      have hcl : (cutA ns (some 19) (some 63)).length ≤ 44 := cut_44 hn
      generalize cutA ns (some 19) (some 63) = cs at e1 hcl
      refine ⟨⟨_, .of e1⟩, fun p2 n2 => ?_⟩
      refine comp_listZ (zs := cs.map fun c => V.str ⟨#[sgAt c]⟩) (.of e1) (le_line (by rw [List.length_map]; omega)) n2 (by simp) (fun i v z hv hz H2 T s2 hT => ?_) (fun H2 s2 e2 => ?_)
      · obtain ⟨c, hc, rfl⟩ : ∃ c, cs[i]? = some c ∧ V.int c = v := by
          rw [List.getElem?_map] at hv
          cases hs : cs[i]? with
          | none => rw [hs] at hv; cases hv
          | some s => rw [hs] at hv; exact ⟨s, rfl, by simpa using hv⟩
        have hz : V.str ⟨#[sgAt c]⟩ = z := by
          rw [List.getElem?_map, hc] at hz
          simpa using hz
        subst hz
        walk_at "rd"
        exact ⟨by decide, _, by rw [SG_len]; decide, (sgAt_at c).1, hT _ (Same.refl _)⟩
      · refine ⟨p2, _, rfl, .inl (.of e2), fun l H3 s3 e3 => ⟨s1.trans (s2.trans s3), cs.map sgAt, l, fun c hc => ?_, by rw [List.length_map]; omega, by rw [e3, List.map_map]; rfl, rfl⟩⟩
        obtain ⟨d, _, rfl⟩ := List.mem_map.mp hc
        exact (sgAt_at d).2
    rintro σ H1 ⟨s1, ss, pt, hss, hsl, e1, rfl⟩
    walk_at "rd"
    refine ⟨fun σ H2 => Same H1 H2 ∧ ∃ v5, σ = [some (.ref px), some (.ref py), some (.ref a), some (.int cell), some (.ref pt), v5], ?_, ?_⟩
    · have c0 := Int.emod_nonneg cell (show (8 : Int) ≠ 0 by decide)
      refine ⟨by decide, ite2 (fun h6 => ?_) (fun _ => ⟨Same.refl _, none, rfl⟩)⟩
      obtain ⟨kk, hk⟩ : ∃ kk : Nat, cell % 8 = (kk : Int) := ⟨(cell % 8).toNat, by omega⟩
      have hk6 : kk < 6 := by omega
      rw [hk]
      refine ⟨fun σ H2 => Same H1 H2 ∧ ∃ (z : Ad) (w q : V) (p5 : Addr), PartOk z ∧ H2 p5 = some (.tup [.str ⟨z.scheme.toArray⟩, otV z.house, itV z.door, w, q, otV z.mark]) ∧ IsT H2 z.way w ∧ IsT H2 (qD z.quest) q ∧ σ = [some (.ref px), some (.ref py), some (.ref a), some (.int cell), some (.ref pt), some (.ref p5)], ?_, ?_⟩
      · obtain ⟨zv, hzv, hcut⟩ := mix_list (s := .str ⟨x.scheme.toArray⟩) (h := otV x.house) (d := itV x.door) (w := wx) (q := qx) (m := otV x.mark) (s' := .str ⟨y.scheme.toArray⟩) (h' := otV y.house) (d' := itV y.door) (w' := wy) (q' := qy) (m' := otV y.mark) kk hk6
        rw [mix_vals kk hk6] at hcut
        refine ⟨by decide, _, s1 _ _ hpx, fun p1 Ha sa ea => ⟨by decide, _, zv, .inr (.of ((s1.trans sa) _ _ hpy)), hzv, by decide, fun p2 Hb nb sb eb => .inr ⟨_, _, sb _ _ ea, eb, ?_, fun p3 Hc sc ec => ⟨by decide, _, (s1.trans (sa.trans (sb.trans sc))) _ _ hpx, fun p4 Hd sd ed => .inr ⟨_, _, sd _ _ ec, ed, ?_, fun p6 He se ee => ?_⟩⟩⟩⟩⟩
        · exact le_line (by have := congrArg List.length hcut; simp only [List.length_append, List.length_cons, List.length_nil] at this ⊢; omega)
        · exact le_line (by have := congrArg List.length hcut; simp only [List.length_append, List.length_cons, List.length_nil] at this ⊢; omega)
        · rw [hcut] at ee
          have sz : Same H1 He := ((sa.trans sb).trans sc).trans (sd.trans se)
          exact ⟨sz, mixAd kk x y, _, _, p6, mix_part ox.part oy.part kk, ee, mix_way kk (hwx.mono (s1.trans sz).toT) (hwy.mono (s1.trans sz).toT), mix_que kk (hqx.mono (s1.trans sz).toT) (hqy.mono (s1.trans sz).toT), rfl⟩
      rintro σ H2 ⟨s2, z, w, q, p5, hz, e2, hw, hq, rfl⟩
      walk_at "rd"
      refine ⟨fun σ H3 => Same H2 H3 ∧ ∃ (z : Ad) (w q : V) (p5 : Addr), PartOk z ∧ (∀ i, z.door = some i → z.house ≠ none) ∧ H3 p5 = some (.tup [.str ⟨z.scheme.toArray⟩, otV z.house, itV z.door, w, q, otV z.mark]) ∧ IsT H3 z.way w ∧ IsT H3 (qD z.quest) q ∧ σ = [some (.ref px), some (.ref py), some (.ref a), some (.int cell), some (.ref pt), some (.ref p5)], ?_, ?_⟩
      · refine ⟨_, _, .inr (.of e2), rfl, ite2 (fun hn0 => ?_) (fun hn0 => ?_)⟩
        · have hh : z.house = none := by
            cases hh : z.house with
            | none => rfl
            | some l => rw [hh] at hn0; cases hn0
          refine ⟨_, e2, fun p1 Ha sa ea => ⟨by decide, fun p2 Hb nb sb eb => .inr ⟨_, _, sb _ _ ea, eb, (show 3 ≤ sizeLine by decide), fun p3 Hc sc ec => ⟨_, (sa.trans (sb.trans sc)) _ _ e2, fun p4 Hd sd ed => .inr ⟨_, _, sd _ _ ec, ed, (show 6 ≤ sizeLine by decide), fun p6 He se ee => ?_⟩⟩⟩⟩⟩
          have sz : Same H2 He := ((sa.trans sb).trans sc).trans (sd.trans se)
          exact ⟨sz, { z with door := none }, w, q, p6, ⟨hz.sch, hz.hou, (fun i e => by cases e), hz.stp, hz.end_, hz.que, hz.mar⟩, (fun i e => by cases e), ee, hw.mono sz.toT, hq.mono sz.toT, rfl⟩
        · exact ⟨Same.refl _, z, w, q, p5, hz, fun i _ hh => hn0 (by rw [hh]; rfl), e2, hw, hq, rfl⟩
      clear e2 hw hq hz
      rintro σ H3 ⟨s3, z, w, q, p5, hz, hd, e3, hw, hq, rfl⟩
      obtain ⟨pw, ps, rfl, hpw, hps⟩ := isT_way (r := z.rooted) (e := z.ends) (ss := z.steps) hw
      walk_at "rd"
      have hret : (z.rooted = true ∨ (z.scheme = [] ∧ z.house = none)) → Q (.ref p5) H3 := fun hr => by
        refine k z _ _ ⟨hz.sch, hz.hou, fun i e => ⟨hz.doo i e, hd i e⟩, hz.stp, fun h => ?_, hz.end_, hz.que, hz.mar⟩ (s1.trans (s2.trans s3)) (adT e3 hw hq)
        rcases hr with hr | ⟨h1, h2⟩
        · exact hr
        · rcases h with h | h
          · exact absurd h1 h
          · exact absurd h2 h
      refine ⟨_, _, .inr (.of e3), rfl, ?_⟩
      walk_at "rd"
      refine ⟨_, _, .inr (.of hpw), rfl, _, rfl, ite2 (fun hr => hret (.inl hr)) (fun _ => ?_)⟩
      refine ⟨_, _, .inr (.of e3), rfl, ?_⟩
      refine L2.rd_eqSS.mpr ⟨_, rfl, ite2 (fun hs => ?_) (fun _ => ⟨s2.trans s3, _, rfl⟩)⟩
      have hs : z.scheme = [] := mk_nil.mp (of_decide_eq_true hs)
      refine ⟨_, _, .inr (.of e3), rfl, ite2 (fun hh => hret (.inr ⟨hs, ?_⟩)) (fun _ => ⟨s2.trans s3, _, rfl⟩)⟩
      cases hh' : z.house with
      | none => rfl
      | some l => rw [hh'] at hh; cases hh
    rintro σ H2 ⟨s2, v5, rfl⟩
    obtain ⟨pw, ps, rfl, hpw, hps⟩ := isT_way (r := x.rooted) (e := x.ends) (ss := x.steps) hwx
    walk_at "rd"
    refine ⟨by decide, fun p3 H3 n3 s3 e3 => ?_⟩
    have s13 := s2.trans s3
    refine ⟨.tuple ((ss.map fun c => [c]).map st), .tuple [], .tup ((s2.trans s3) _ _ e1) (isTAll_ones ss).is, .tup e3 .nil, shaped_steps (fun l hl => by
      obtain ⟨c, hc, rfl⟩ := List.mem_map.mp hl
      exact fun d hd => by rw [List.mem_singleton.mp hd]; exact hss c hc), by decide, _, rfl, ?_⟩
    rw [eqv_nil]
    by_cases h0 : ss = []
    · exact ite2 (fun _ => k x _ _ ox (s1.trans s13) (hx.mono (s1.trans s13).toT)) (fun z => absurd (by rw [h0]; rfl) z)
    refine ite2 (fun z => absurd (by simpa using z) h0) (fun _ => ?_)
    have s03 := s1.trans s13
    refine ⟨_, s03 _ _ hpx, fun p4 H4 s4 e4 => ⟨_, _, .inr (.of ((s03.trans s4) _ _ hpx)), rfl, ?_⟩⟩
    walk_at "rd"
    refine ⟨_, _, .inr (.of ((s03.trans s4) _ _ hpw)), rfl, ⟨by decide, by decide⟩, by decide, by decide, fun p5 H5 n5 s5 e5 => ⟨by decide, fun p6 H6 n6 s6 e6 => .inr ⟨_, _, (s5.trans s6) _ _ e4, e6, (show 4 ≤ sizeLine by decide), fun p7 H7 s7 e7 => ⟨_, (s03.trans (s4.trans (s5.trans (s6.trans s7)))) _ _ hpx, fun p8 H8 s8 e8 => .inr ⟨_, _, s8 _ _ e7, e8, (show 6 ≤ sizeLine by decide), fun p9 H9 s9 e9 => ?_⟩⟩⟩⟩⟩
    have s59 : Same H5 H9 := (s6.trans s7).trans (s8.trans s9)
    have s39 : Same H3 H9 := s4.trans (s5.trans s59)
    refine k { x with steps := ss.map fun c => [c], ends := decide (cell / 8 % 2 = 0) } _ _ ⟨ox.sch, ox.hou, ox.doo, ⟨by show (ss.map _).length ≤ 50; rw [List.length_map]; exact hsl, fun l hl => ?_⟩, ox.roo, fun e => absurd (by simpa using e) h0, ox.que, ox.mar⟩ (s03.trans s39) ?_
    · obtain ⟨c, hc, rfl⟩ := List.mem_map.mp hl
      exact ⟨Nat.one_pos, by show 1 ≤ 60; decide, fun d hd => by rw [List.mem_singleton.mp hd]; exact hss c hc⟩
    · refine adT (x := { x with steps := ss.map fun c => [c], ends := decide (cell / 8 % 2 = 0) }) e9 ?_ (hqx.mono (s03.trans s39).toT)
      exact .tup (s59 _ _ e5) (.cons (.bl _) (.cons (.tup (s39 _ _ (s13 _ _ e1)) (isTAll_ones ss)) (.cons (.bl _) .nil)))
theorem ok_is_scheme (g : G K mg) : FnOk P w K mg base CX0 3 g.a_is_scheme g.fd_is_scheme ["thing"] sp_is_scheme := by
  refine g.F_is_scheme.ok sc_is_scheme (fun vs H Q E h => ?_) (fun cdv A outer s H vs Q E hr h => ?_)
  · obtain ⟨d, v, rfl, _⟩ := h; rfl
  · obtain ⟨d, v, rfl, hv, hs, k⟩ := h
    refine ⟨_, (pss_cons (ps_if (PW.pt (pw_or (pt_not (pt_val (pe_call (ok_is_text g) (hr.mono (by decide)) rfl g.m_is_text g.F_is_text.kp g.b_is_text .nil pass0 (pa_cons (pv 0) pa_nil)))) (pw_or1 (pt_cmpR op_gt (pe_callB (call_lenK (K := K) rfl) rfl g.b_len PySem.boot_len (pa_cons (pv 0) pa_nil)) (pe_glob (v := k_LONGEST_SCHEME) rfl g.c_LONGEST_SCHEME ⟨_, rfl⟩) (nomark _)))))
        (pss_one (ps_ret pe_bl)) pss_nil)
      (pss_one (ps_ret (pe_and (pe_call (ok_made_of g) (hr.mono (by decide)) rfl g.m_made_of g.F_made_of.kp g.b_made_of .nil pass0 (pa_cons (pe_slice (sl_anyK (K := K) rfl) (pv 0) po_none (po_some pe_int)) (pa_cons (pe_glob (v := k_LETTERS) rfl g.c_LETTERS ⟨_, rfl⟩) pa_nil))) (pe_one (pe_call (ok_made_of g) (hr.mono (by decide)) rfl g.m_made_of g.F_made_of.kp g.b_made_of .nil pass0 (pa_cons (pv 0) (pa_cons (pe_glob (v := k_LETTERS_AND_FIGURES) rfl g.c_LETTERS_AND_FIGURES ⟨_, rfl⟩) pa_nil)))))))), ?_⟩
    walk_at "rd"
    refine ⟨d, v, rfl, hv, hs, fun H1 s1 => ?_⟩
    walk_at "rd"
    have k1 := k H1 s1
    cases hv with
    | str x =>
      have hx := small_str hs
      refine ite2 (fun h => ?_) (fun h => ?_)
      · rw [show schD (.str x) = false by simp only [schD]; rw [show x.cps.toList.all isSg = false from h]; rfl] at k1
        exact k1
      have h : x.cps.toList.all isSg = true := (Bool.not_eq_false _).mp h
      walk_at "rd"
      refine ⟨le_line hx, ite2 (fun h2 => ?_) (fun h2 => ?_)⟩
      · rw [show schD (.str x) = false by simp only [schD, h, Bool.true_and]; rw [decide_eq_false (by omega)]; rfl] at k1
        exact k1
      have e : x = ⟨x.cps.toList.toArray⟩ := by simp
      refine ⟨le_line hx, ?_⟩
      have e1 : Txt.slice x none (some 1) = ⟨(x.cps.toList.take 1).toArray⟩ := by
        conv => lhs; rw [e]
        exact slice_to x.cps.toList 1
      rw [e1]
      refine ⟨⟨(x.cps.toList.take 1).toArray⟩, _, rfl, by rw [mk_len, List.length_take]; omega, fun H2 s2 => ?_⟩
      have hsg := List.all_eq_true.mp h
      have f1 : ((⟨(x.cps.toList.take 1).toArray⟩ : Str).cps.toList.all fun c => decide (c ∈ (Str.ofString "abcdefghijklmnopqrstuvwxyzABCDEFGHIJKLMNOPQRSTUVWXYZ").cps.toList)) = (x.cps.toList.take 1).all isLet := by
        rw [mk_list, Bool.eq_iff_iff, List.all_eq_true, List.all_eq_true]
        refine forall_congr' fun c => forall_congr' fun hc => ?_
        rw [let_in c (by have := isSg_lt (hsg c (List.mem_of_mem_take hc)); omega)]
      have f2 : (x.cps.toList.all fun c => decide (c ∈ (Str.ofString "abcdefghijklmnopqrstuvwxyzABCDEFGHIJKLMNOPQRSTUVWXYZ0123456789").cps.toList)) = x.cps.toList.all isAln := by
        rw [Bool.eq_iff_iff, List.all_eq_true, List.all_eq_true]
        refine forall_congr' fun c => forall_congr' fun hc => ?_
        rw [aln_in c (by have := isSg_lt (hsg c hc); omega)]
      rw [f1]
      walk_at "rd"
      refine ite2 (fun h3 => ?_) (fun h3 => ?_)
      · refine ⟨x, _, rfl, hx, fun H3 s3 => ?_⟩
        have k3 := k H3 (s1.trans (s2.trans s3))
        rw [f2]
        simp only [schD, h, h3, Bool.true_and, decide_eq_true (show x.length ≤ 8 by omega)] at k3
        exact k3
      · have k3 := k H2 (s1.trans s2)
        simp only [schD, h, (Bool.not_eq_true _).mp h3, Bool.false_and, Bool.and_false, Bool.true_and] at k3
        exact k3
    | _ => exact k1
theorem ok_is_filled_text (g : G K mg) : FnOk P w K mg base CX0 3 g.a_is_filled_text g.fd_is_filled_text ["thing"] sp_is_filled_text := by
  refine g.F_is_filled_text.ok sc_is_filled_text (fun vs H Q E h => ?_) (fun cdv A outer s H vs Q E hr h => ?_)
  · obtain ⟨d, v, rfl, _⟩ := h; rfl
  · obtain ⟨d, v, rfl, hv, hs, k⟩ := h
    refine ⟨_, (pss_one (ps_ret (pe_and (pe_call (ok_is_text g) (hr.mono (by decide)) rfl g.m_is_text g.F_is_text.kp g.b_is_text .nil pass0 (pa_cons (pv 0) pa_nil)) (pe_one (pe_cmpR op_gt (pe_callB (call_lenK (K := K) rfl) rfl g.b_len PySem.boot_len (pa_cons (pv 0) pa_nil)) pe_int (nomark _)))))), ?_⟩
    walk_at "rd"
    refine ⟨d, v, rfl, hv, hs, fun H1 s1 => ?_⟩
    walk_at "rd"
    have k1 := k H1 s1
    cases hv with
    | str x =>
      refine ite2 (fun h => ?_) (fun h => ?_)
      · walk_at "rd"
        refine ⟨le_line (small_str hs), ?_⟩
        have e : ftx (.str x) = decide ((0 : Int) < (x.length : Int)) := by
          simp only [ftx]
          rw [show x.cps.toList.all isSg = true from h, Bool.true_and]
          exact decide_eq_decide.mpr (by omega)
        rw [e] at k1
        exact k1
      · rw [show ftx (.str x) = false by simp only [ftx]; rw [show x.cps.toList.all isSg = false from (Bool.not_eq_true _).mp h, Bool.false_and]] at k1
        exact k1
    | _ => exact k1
theorem ok_is_text_or_none (g : G K mg) : FnOk P w K mg base CX0 3 g.a_is_text_or_none g.fd_is_text_or_none ["thing"] sp_is_text_or_none := by
  refine g.F_is_text_or_none.ok sc_is_text_or_none (fun vs H Q E h => ?_) (fun cdv A outer s H vs Q E hr h => ?_)
  · obtain ⟨d, v, rfl, _⟩ := h; rfl
  · obtain ⟨d, v, rfl, hv, hs, k⟩ := h
    refine ⟨_, (pss_one (ps_ret (pe_or (pe_cmpR op_isNU (pv 0) pe_non (nomark _)) (pe_one (pe_call (ok_is_text g) (hr.mono (by decide)) rfl g.m_is_text g.F_is_text.kp g.b_is_text .nil pass0 (pa_cons (pv 0) pa_nil)))))), ?_⟩
    cases hv with
    | non => walk_at "rd"; exact k H (Same.refl _)
    | bl b => walk_at "rd"; exact ⟨_, _, rfl, .bl b, hs, k⟩
    | int b => walk_at "rd"; exact ⟨_, _, rfl, .int b, hs, k⟩
    | str b => walk_at "rd"; exact ⟨_, _, rfl, .str b, hs, k⟩
    | lst hp r => walk_at "rd"; exact ⟨_, _, rfl, .lst hp r, hs, k⟩
    | tup hp r => walk_at "rd"; exact ⟨_, _, rfl, .tup hp r, hs, k⟩
theorem ok_shown_house (g : G K mg) : FnOk P w K mg base CX0 3 g.a_shown_house g.fd_shown_house ["house", "door"] sp_shown_house := by
  refine g.F_shown_house.ok sc_shown_house (fun vs H Q E h => ?_) (fun cdv A outer s H vs Q E hr h => ?_)
  · obtain ⟨o, d, rfl, _⟩ := h; rfl
  · obtain ⟨o, d, rfl, ho, hd, k⟩ := h
    refine ⟨_, (pss_cons (ps_if (pt_cmpR op_isNU (pv 0) pe_non (nomark _))
        (pss_one (ps_ret pe_str)) pss_nil)
      (pss_cut (ps_set (i := 2) sc_shown_house.nd rfl (Or.inl rfl) (pe_ifExp (pt_cmpR op_isNU (pv 1) pe_non (nomark _)) pe_str (pe_op (op_addK (K := K) rfl) pe_str (pe_callTy call_str_int rfl g.b_str bt_str (pa_cons (pv 1) pa_nil)))))
      (pss_one (ps_ret (pe_op (op_addK (K := K) rfl) (pe_op (op_addK (K := K) rfl) pe_str (pe_call (ok_written g) (hr.mono (by decide)) rfl g.m_written g.F_written.kp g.b_written .nil pass0 (pa_cons (pv 0) pa_nil))) (pv 2)))))), ?_⟩
    have c1 : Str.ofString ":" = ⟨[58].toArray⟩ := by decide +kernel
    have c2 : Str.ofString "//" = ⟨[47, 47].toArray⟩ := by decide +kernel
    rw [c1, c2]
    walk_at "rd"
    cases o with
    | none =>
      cases d with
      | some i => exact absurd rfl (hd i rfl).2
      | none =>
        refine ite2 (fun _ => ?_) (fun z => absurd rfl z)
        exact k H (Same.refl _)
    | some l =>
      refine ite2 (fun z => absurd z (by simp [otV])) (fun _ => ?_)
      have hl := ho l rfl
      have w := wr_len l
      refine ⟨fun σ H' => H' = H ∧ σ = [some (otV (some l)), some (itV d), some (.str ⟨(dooT d).toArray⟩)] ∧ (dooT d).length ≤ 6, ?_, ?_⟩
      · cases d with
        | none => exact ite2 (fun _ => ⟨rfl, rfl, by decide⟩) (fun z => absurd rfl z)
        | some i =>
          have hi := (hd i rfl).1
          have hdl := dg_len hi.1 hi.2
          refine ite2 (fun z => absurd z (by simp [itV])) (fun _ => ?_)
          refine ⟨i, rfl, lg hi.1 hi.2, le_line (by rw [dg_str, mk_len]; omega), rfl, ?_, ?_⟩
          · rw [dg_str, show (⟨#[58]⟩ : Str) = ⟨[58].toArray⟩ from rfl, mk_app]
            simp [dooT]
          · simp only [dooT, List.length_cons]; omega
      · rintro σ H' ⟨rfl, rfl, hdl⟩
        walk_at "rd"
        show sp_written [.str ⟨l.toArray⟩] H' _ _
        walk_at "rd"
        refine ⟨by omega, hl.2, fun H'' s'' => ?_⟩
        refine ⟨le_line (by omega), le_line (by omega), ?_⟩
        have := k H'' s''
        simpa [houT] using this
theorem ok_shown_way (g : G K mg) : FnOk P w K mg base CX0 3 g.a_shown_way g.fd_shown_way ["way"] (sp_shown_way K) := by
  refine g.F_shown_way.ok sc_shown_way (fun vs H Q E h => ?_) (fun cdv A outer s H vs Q E hr h => ?_)
  · obtain ⟨r, e, ss, p, q, rfl, _⟩ := h; rfl
  · obtain ⟨r, e, ss, p, q, rfl, hp, hq, hs, hn, hl, k⟩ := h
    refine ⟨_, (pss_one (ps_ret (pe_call (ok_slashed g) (hr.mono (by decide)) rfl g.m_slashed g.F_slashed.kp g.b_slashed .nil pass0 (pa_cons (pe_ix (ix_seqK (K := K) rfl) (pv 0) (pe_glob (v := k_ROOTED) rfl g.c_ROOTED ⟨_, rfl⟩) (fun _ _ => rfl)) (pa_cons (pe_comp (fx := []) (fr := []) rfl rfl (by decide +kernel) rfl (by decide +kernel) rfl (by decide +kernel) rfl .nil rfl (pi_tupK (K := K) rfl (pe_ix (ix_seqK (K := K) rfl) (pv 0) (pe_glob (v := k_STEPS) rfl g.c_STEPS ⟨_, rfl⟩) (fun _ _ => rfl))) (fun _ _ _ => pf_nil) (fun _ _ _ => (pe_call (ok_written g) (hr.mono (by decide)) rfl g.m_written g.F_written.kp g.b_written .nil pass0 (pa_cons (pv 0) pa_nil)))) (pa_cons (pe_ix (ix_seqK (K := K) rfl) (pv 0) (pe_glob (v := k_ENDS) rfl g.c_ENDS ⟨_, rfl⟩) (fun _ _ => rfl)) pa_nil)))))), ?_⟩
    walk_at "rd"
    refine ⟨_, _, .inr hp, rfl, ?_⟩
    refine ⟨_, _, .inr hp, rfl, q, rfl, ⟨_, hq⟩, fun p1 hn1 => ?_⟩
    refine comp_tupZ (zs := (ss.map wr).map fun l => V.str ⟨l.toArray⟩) hq (by rw [List.length_map]; exact le_line (by omega)) hn1 (by simp) (fun i x z hx hz H' T sm hT => ?_) (fun H' sm hp' => ?_)
    · rw [List.getElem?_map] at hx hz
      rw [List.getElem?_map] at hz
      obtain ⟨s, hs', rfl⟩ := Option.map_eq_some_iff.mp hx
      rw [hs'] at hz
      simp only [Option.map_some, Option.some.injEq] at hz
      subst hz
      have hss := hs s (List.mem_of_getElem? hs')
      walk_at "rd"
      exact ⟨hss.1, hss.2, hT⟩
    · refine ⟨_, _, .inr (sm.tup hp), rfl, ?_⟩
      have hw : (joinT 47 (ss.map wr)).length ≤ 90000 := by
        have := hl
        unfold wayT at this
        simp only [List.length_append] at this
        omega
      refine ⟨r, e, p1, ss.map wr, rfl, .of hp', hw, ?_⟩
      rw [← wayT_sl]
      exact k H' sm
theorem ok_shown_asked (g : G K mg) : FnOk P w K mg base CX0 3 g.a_shown_asked g.fd_shown_asked ["name", "value"] sp_shown_asked := by
  refine g.F_shown_asked.ok sc_shown_asked (fun vs H Q E h => ?_) (fun cdv A outer s H vs Q E hr h => ?_)
  · obtain ⟨n, o, rfl, _⟩ := h; rfl
  · obtain ⟨n, o, rfl, hk, hn, ho, k⟩ := h
    refine ⟨_, (pss_one (ps_ret (pe_ifExp (pt_cmpR op_isNU (pv 1) pe_non (nomark _)) (pe_call (ok_written g) (hr.mono (by decide)) rfl g.m_written g.F_written.kp g.b_written .nil pass0 (pa_cons (pv 0) pa_nil)) (pe_op (op_addK (K := K) rfl) (pe_op (op_addK (K := K) rfl) (pe_call (ok_written g) (hr.mono (by decide)) rfl g.m_written g.F_written.kp g.b_written .nil pass0 (pa_cons (pv 0) pa_nil)) pe_str) (pe_call (ok_written g) (hr.mono (by decide)) rfl g.m_written g.F_written.kp g.b_written .nil pass0 (pa_cons (pv 1) pa_nil)))))), ?_⟩
    have c1 : Str.ofString "=" = ⟨[61].toArray⟩ := by decide +kernel
    rw [c1]
    have w1 := wr_len n
    walk_at "rd"
    cases o with
    | none =>
      refine ite2 (fun _ => ?_) (fun z => absurd rfl z)
      refine ⟨hn, hk.1.2, fun H' s' => ?_⟩
      rw [show pairT (n, none) = wr n by simp [pairT, oT]] at k
      exact k H' s'
    | some l =>
      refine ite2 (fun z => absurd z (by simp [otV])) (fun _ => ?_)
      have hll := ho l rfl
      have w2 := wr_len l
      rw [show pairT (n, some l) = wr n ++ [61] ++ wr l by simp [pairT, oT]] at k
      refine ⟨hn, hk.1.2, fun H' s' => ?_⟩
      refine ⟨le_line (by simp; omega), ?_⟩
      show sp_written [.str ⟨l.toArray⟩] H' _ _
      walk_at "rd"
      refine ⟨hll, hk.2 l rfl, fun H'' s'' => ⟨le_line (by simp; omega), k H'' (s'.trans s'')⟩⟩
theorem ok_shown_mark (g : G K mg) : FnOk P w K mg base CX0 3 g.a_shown_mark g.fd_shown_mark ["mark"] sp_shown_mark := by
  refine g.F_shown_mark.ok sc_shown_mark (fun vs H Q E h => ?_) (fun cdv A outer s H vs Q E hr h => ?_)
  · obtain ⟨o, rfl, _⟩ := h; rfl
  · obtain ⟨o, rfl, ho, k⟩ := h
    refine ⟨_, (pss_one (ps_ret (pe_ifExp (pt_cmpR op_isNU (pv 0) pe_non (nomark _)) pe_str (pe_op (op_addK (K := K) rfl) pe_str (pe_call (ok_written g) (hr.mono (by decide)) rfl g.m_written g.F_written.kp g.b_written .nil pass0 (pa_cons (pv 0) pa_nil)))))), ?_⟩
    have c1 : Str.ofString "#" = ⟨[35].toArray⟩ := by decide +kernel
    rw [c1]
    walk_at "rd"
    cases o with
    | none => exact ite2 (fun _ => k H (Same.refl _)) (fun z => absurd rfl z)
    | some l =>
      refine ite2 (fun z => absurd z (by simp [otV])) (fun _ => ?_)
      have hl := ho l rfl
      have w := wr_len l
      show sp_written [.str ⟨l.toArray⟩] H _ _
      rw [show (⟨#[35]⟩ : Str) = ⟨[35].toArray⟩ from rfl]
      walk_at "rd"
      refine ⟨hl.1, hl.2, fun H' s' => ⟨le_line (by omega), ?_⟩⟩
      exact k H' s'
theorem ok_taken_door (g : G K mg) : FnOk P w K mg base CX0 3 g.a_taken_door g.fd_taken_door ["cursor"] (sp_taken_door K g.C_Cursor) := by
  refine g.F_taken_door.ok sc_taken_door (fun vs H Q E h => ?_) (fun cdv A outer s H vs Q E hr h => ?_)
  · obtain ⟨p, t, w, r, i, o, rfl, _⟩ := h; rfl
  · obtain ⟨p, t, w', r, i, o, rfl, hcur, hi, hl, h128, hd, hw, hst, hh, k⟩ := h
    refine ⟨_, (pss_cons (ps_if (pt_not (pt_val (pe_meth (pv 0) g.cl_Cursor g.me_Cursor_passes (ok_Cursor_passes g) (hr.mono (by decide)) g.b_Cursor_passes .nil pass0 (pa_cons pe_str pa_nil))))
        (pss_one (ps_ret pe_non)) pss_nil)
      (pss_cons (ps_if (pt_not (pt_val (pe_meth (pv 0) g.cl_Cursor g.me_Cursor_sees (ok_Cursor_sees g) (hr.mono (by decide)) g.b_Cursor_sees .nil pass0 (pa_cons (pe_glob (v := k_FIGURES) rfl g.c_FIGURES ⟨_, rfl⟩) pa_nil))))
        (pss_one ps_never) pss_nil)
      (pss_cons (ps_set (i := 1) sc_taken_door.nd rfl (Or.inl rfl) (pe_callTy call_intS rfl g.b_int bt_int (pa_cons (pe_meth0 (pv 0) g.cl_Cursor g.me_Cursor_take (ok_Cursor_take g) (hr.mono (by decide)) g.b_Cursor_take .nil pass0) pa_nil)))
      (pss_cons (ps_while PassesOwn.never (PW.pt (pw_and (pt_cmpR op_gt (pv 1) pe_int (nomark _)) (pw_and (pt_val (pe_meth (pv 0) g.cl_Cursor g.me_Cursor_sees (ok_Cursor_sees g) (hr.mono (by decide)) g.b_Cursor_sees .nil pass0 (pa_cons (pe_glob (v := k_FIGURES) rfl g.c_FIGURES ⟨_, rfl⟩) pa_nil))) (pw_and1 (pt_cmpR op_le (pe_call (ok_door_with g) (hr.mono (by decide)) rfl g.m_door_with g.F_door_with.kp g.b_door_with .nil pass0 (pa_cons (pv 1) (pa_cons (pv 0) pa_nil))) (pe_glob (v := k_LAST_DOOR) rfl g.c_LAST_DOOR ⟨_, rfl⟩) (nomark _))))))
      (pss_cons (ps_set (i := 1) sc_taken_door.nd rfl (Or.inl rfl) (pe_call (ok_door_with g) (hr.mono (by decide)) rfl g.m_door_with g.F_door_with.kp g.b_door_with .nil pass0 (pa_cons (pv 1) (pa_cons (pv 0) pa_nil))))
      (pss_one (ps_expr (pe_meth0 (pv 0) g.cl_Cursor g.me_Cursor_take (ok_Cursor_take g) (hr.mono (by decide)) g.b_Cursor_take .nil pass0)))))
      (pss_one (ps_ret (pv 1))))))), ?_⟩
    have eF : k_FIGURES = .str ⟨fgS.toArray⟩ := by
      show V.str (Str.ofString _) = _
      unfold fgS; simp
    have e1 : Str.ofString ":" = ⟨[58].toArray⟩ := by decide +kernel
    rw [eF, e1]
    walk_at "rd"
    cases o with
    | none =>
      have hw : w' = [] := hw
      subst hw
      refine cur_meth hcur (pass_no1 hcur hi hl hd (hh rfl) ⟨_, rfl, ?_⟩)
      rw [if_pos rfl]
      exact k H (SameBut.refl _ _) hcur
    | some n =>
      obtain ⟨ds, rfl, hne, hfg, rfl, h65, hz⟩ := hw
      refine cur_meth hcur (pass_yes (w := [58]) (r := ds ++ r) hcur hi hl hd fun H1 s1 c1 hi1 hd1 => ⟨_, rfl, ?_⟩)
      rw [if_neg (by decide)]
      cases ds with
      | nil => exact absurd rfl hne
      | cons d0 ds0 =>
      have hd0 := hfg d0 (List.mem_cons_self ..)
      obtain ⟨hx, hxl⟩ := at_drop hd1
      refine cur_meth c1 ⟨p, t, fgS, _, rfl, c1, hi1, hl, _, rfl, ?_⟩
      rw [seesB_some hx, decide_eq_true (fgS_in.mpr hd0), if_neg (by decide)]
      refine cur_meth c1 ⟨p, t, _, d0, rfl, c1, hx, hl, fun H2 s2 c2 => ⟨_, _, rfl, by show 1 ≤ 640; decide, int_one d0 (by omega) hd0.1, ?_⟩⟩
      have h12 := s1.trans s2
      have ev0 : valD [d0] = d0 - 48 := by unfold valD; simp
      rw [← ev0]
      refine while_W (fun m σ H' => ∃ (dn es : List Nat), m = es.length ∧ σ = [some (.ref p), some (.int (valD dn : Nat))] ∧ dn ≠ [] ∧ d0 :: ds0 = dn ++ es ∧ SameBut p H H' ∧ Cur H' g.C_Cursor p t (i + 1 + dn.length)) ds0.length ⟨[d0], ds0, rfl, rfl, by simp, rfl, h12, c2⟩ ?_
      rintro m σ H3 ⟨dn, es, rfl, rfl, hdn, eds, s3, c3⟩
      have hd3 : t.drop (i + 1 + dn.length) = es ++ r := by
        rw [← List.drop_drop, show i + 1 = i + [58].length from rfl, hd1, eds, List.append_assoc, List.drop_left]
      have hi3 : i + 1 + dn.length ≤ t.length := by
        have := congrArg List.length hd1
        rw [List.length_drop, eds, List.length_append, List.length_append] at this
        simp only [List.length_singleton] at this hi1
        omega
      have hvl : valD dn ≤ 65535 := by
        have := valD_le es dn
        rw [← eds] at this
        omega
      have hfin : es = [] → Q (.int (valD dn : Nat)) H3 := fun e => by
        subst e
        rw [List.append_nil] at eds
        rw [eds] at k
        refine k H3 s3 ?_
        rw [show i + (58 :: dn).length = i + 1 + dn.length by simp only [List.length_cons]; omega]
        exact c3
      walk_at "rd"
      have hfin2 : valD dn = 0 → es = [] := fun e => by
        rcases hz with z | z
        · rw [z] at eds
          have := congrArg List.length eds
          have h1 : 0 < dn.length := List.length_pos_iff.mpr hdn
          rw [List.length_append] at this
          simp only [List.length_singleton] at this
          exact List.length_eq_zero_iff.mp (by omega)
        · cases dn with
          | nil => exact absurd rfl hdn
          | cons a b =>
            have e0 : d0 = a := by injection eds
            subst e0
            have h9 : d0 ≠ 48 := fun z' => z (by rw [z']; rfl)
            have := valD_pos (ds := d0 :: b) rfl (by omega)
            omega
      by_cases h0 : valD dn = 0
      · rw [if_neg (by omega)]
        exact hfin (hfin2 h0)
      rw [if_pos (by omega)]
      refine cur_meth c3 ⟨p, t, fgS, _, rfl, c3, hi3, hl, _, rfl, ?_⟩
      cases es with
      | nil =>
        have hb : seesB t fgS (i + 1 + dn.length) = false := by
          cases hc : t[i + 1 + dn.length]? with
          | none => exact seesB_none hc
          | some c =>
            rw [seesB_some hc]
            refine decide_eq_false fun hin => hst c ?_ (fgS_in.mp hin)
            rw [← hc, ← List.head?_drop, hd3]
            rfl
        rw [hb, if_neg (by decide)]
        exact hfin rfl
      | cons c es1 =>
        have hc := hfg c (by rw [eds]; simp)
        obtain ⟨hx3, hxl3⟩ := at_drop hd3
        have hle : valD dn * 10 + (c - 48) ≤ 65535 := by
          have := valD_le es1 (dn ++ [c])
          rw [valD_snoc, List.append_assoc, show [c] ++ es1 = c :: es1 from rfl, ← eds] at this
          omega
        rw [seesB_some hx3, decide_eq_true (fgS_in.mpr hc), if_pos rfl]
        refine ⟨p, t, _, c, valD dn, rfl, c3, hl, hx3, hc.1, hc.2, by omega, _, _, rfl, rfl, _, rfl, ?_⟩
        rw [decide_eq_true (by omega), if_pos rfl]
        refine ⟨_, fun _ _ h => h, p, t, _, c, valD dn, rfl, c3, hl, hx3, hc.1, hc.2, by omega, cur_meth c3 ⟨p, t, _, c, rfl, c3, hx3, hl, fun H4 s4 c4 => ⟨es1.length, Nat.lt_succ_self _, dn ++ [c], es1, rfl, by rw [valD_snoc], by simp, by rw [eds, List.append_assoc]; rfl, s3.trans s4, ?_⟩⟩⟩
        rw [List.length_append]
        exact c4
theorem ok_taken_pair (g : G K mg) : FnOk P w K mg base CX0 3 g.a_taken_pair g.fd_taken_pair ["cursor"] (sp_taken_pair K g.C_Cursor) := by
  refine g.F_taken_pair.ok sc_taken_pair (fun vs H Q E h => ?_) (fun cdv A outer s H vs Q E hr h => ?_)
  · obtain ⟨p, t, r, i, a, b, c, rfl, _⟩ := h; rfl
  · obtain ⟨p, t, r, i, a, b, c, rfl, hcur, hd, hs, hl, k⟩ := h
    refine ⟨_, (pss_cons (ps_if (pt_not (pt_val (pe_meth (pv 0) g.cl_Cursor g.me_Cursor_sees (ok_Cursor_sees g) (hr.mono (by decide)) g.b_Cursor_sees .nil pass0 (pa_cons (pe_glob (v := k_FIRST_FIGURES) rfl g.c_FIRST_FIGURES ⟨_, rfl⟩) pa_nil))))
        (pss_one ps_never) pss_nil)
      (pss_cons (ps_set (i := 1) sc_taken_pair.nd rfl (Or.inl rfl) (pe_op (op_addK (K := K) rfl) (pe_meth0 (pv 0) g.cl_Cursor g.me_Cursor_take (ok_Cursor_take g) (hr.mono (by decide)) g.b_Cursor_take .nil pass0) (pe_slice (sl_anyK (K := K) rfl) (pe_fld (pv 0) rfl) (po_some (pe_fld (pv 0) rfl)) (po_some (pe_op (op_addK (K := K) rfl) (pe_fld (pv 0) rfl) pe_int)))))
      (pss_cons (ps_set (i := 2) sc_taken_pair.nd rfl (Or.inl rfl) (pe_call (ok_sign_of g) (hr.mono (by decide)) rfl g.m_sign_of g.F_sign_of.kp g.b_sign_of .nil pass0 (pa_cons (pv 1) pa_nil)))
      (pss_cons (ps_if (pt_cmpR op_isNU (pv 2) pe_non (nomark _))
        (pss_one ps_never) pss_nil)
      (pss_cons (ps_expr (pe_meth0 (pv 0) g.cl_Cursor g.me_Cursor_take (ok_Cursor_take g) (hr.mono (by decide)) g.b_Cursor_take .nil pass0))
      (pss_one (ps_ret (pv 2)))))))), ?_⟩
    obtain ⟨hf, ha, hb, hcs⟩ := sgO_first hs
    have hlen : i + 2 ≤ t.length := by have := congrArg List.length hd; rw [List.length_drop] at this; simp only [List.length_cons] at this; omega
    have hia : t[i]? = some a := by rw [← List.head?_drop, hd]; rfl
    have hib : t[i + 1]? = some b := by rw [← List.head?_drop, ← List.drop_drop, hd]; rfl
    have eF : k_FIRST_FIGURES = .str ⟨[50, 51, 52, 53, 54, 55].toArray⟩ := by
      show V.str (Str.ofString "234567") = _
      rw [show Str.ofString "234567" = ⟨[50, 51, 52, 53, 54, 55].toArray⟩ by decide +kernel]
    have hf : a ∈ [50, 51, 52, 53, 54, 55] := by
      rw [show (Str.ofString "234567").cps.toList = [50, 51, 52, 53, 54, 55] by decide +kernel] at hf
      exact hf
    walk_at "rd"
    rw [eF]
    refine cur_meth hcur ⟨p, t, _, i, rfl, hcur, by omega, hl, _, rfl, ?_⟩
    rw [seesB_some hia, decide_eq_true hf, if_neg (by decide)]
    refine cur_meth hcur ⟨p, t, i, a, rfl, hcur, hia, hl, fun H1 s1 c1 => ?_⟩
    refine get_text c1 g.cl_Cursor g.n_Cursor_text (get_place c1 g.cl_Cursor g.n_Cursor_place ⟨_, rfl, get_place c1 g.cl_Cursor g.n_Cursor_place ?_⟩)
    walk_at "rd"
    rw [show ((i + 1 : Nat) : Int) + 1 = ((i + 2 : Nat) : Int) by omega, slice_mid, show i + 2 - (i + 1) = 1 by omega, ← List.drop_drop, hd, show List.take 1 (List.drop 1 (a :: b :: r)) = [b] from rfl]
    walk_at "rd"
    refine ⟨le_line hl, by decide, by decide, fun d hd' => ?_, ?_⟩
    · simp only [List.mem_cons, List.not_mem_nil, or_false] at hd'
      rcases hd' with rfl | rfl
      · exact ha
      · exact hb
    rw [show signOfL [a, b] = signOf a b from rfl, signOf_eq, hs, if_neg (by intro z; cases z)]
    exact cur_meth c1 ⟨p, t, i + 1, b, rfl, c1, hib, hl, fun H2 s2 c2 => k H2 (s1.trans s2) c2⟩
theorem ok__law_steps (g : G K mg) : FnOk P w K mg base CX0 3 g.a__law_steps g.fd__law_steps ["_law_deck_here"] sp__law_steps := by
  refine g.F__law_steps.ok sc__law_steps (fun vs H Q E h => ?_) (fun cdv A outer s H vs Q E hr h => ?_)
  · obtain ⟨p, n, rfl, _⟩ := h; rfl
  · obtain ⟨p, n, rfl, hd, hn, k⟩ := h
    refine ⟨_, (pss_cons (ps_set (i := 1) sc__law_steps.nd rfl (Or.inl rfl) (pe_ix (ix_seqK (K := K) rfl) (pe_lst (pa_cons (pe_call (ok__law_draw g) (hr.mono (by decide)) rfl g.m__law_draw g.F__law_draw.kp g.b__law_draw .nil pass0 (pa_cons (pv 0) (pa_cons pe_int pa_nil))) (pa_cons pe_int pa_nil))) (pe_callTy call_intU rfl g.b_int bt_int (pa_cons (pe_cmpR op_eq (pe_call (ok__law_draw g) (hr.mono (by decide)) rfl g.m__law_draw g.F__law_draw.kp g.b__law_draw .nil pass0 (pa_cons (pv 0) (pa_cons pe_int pa_nil))) pe_int (nomark _)) pa_nil)) (fun _ _ => rfl)))
      (pss_cons (ps_set (i := 2) sc__law_steps.nd rfl (Or.inl rfl) (pe_lst pa_nil))
      (pss_cons (ps_for PassesOwn.never rfl (pi_range1 rfl g.b_range (pa_cons (pv 1) pa_nil)) (pg_name (i := 3) sc__law_steps.nd rfl (Or.inl rfl))
      (pss_cons (ps_set (i := 4) sc__law_steps.nd rfl (Or.inl rfl) (pe_op (op_addK (K := K) rfl) pe_int (pe_call (ok__law_draw g) (hr.mono (by decide)) rfl g.m__law_draw g.F__law_draw.kp g.b__law_draw .nil pass0 (pa_cons (pv 0) (pa_cons pe_int pa_nil)))))
      (pss_cut (ps_if (PW.pt (pw_and (pt_cmpR op_lt (pv 1) pe_int (nomark _)) (pw_and (pt_cmpR op_eq (pv 3) pe_int (nomark _)) (pw_and1 (pt_cmpR op_eq (pe_call (ok__law_draw g) (hr.mono (by decide)) rfl g.m__law_draw g.F__law_draw.kp g.b__law_draw .nil pass0 (pa_cons (pv 0) (pa_cons pe_int pa_nil))) pe_int (nomark _))))))
        (pss_one (ps_set (i := 4) sc__law_steps.nd rfl (Or.inl rfl) (pe_op (op_addK (K := K) rfl) pe_int (pe_call (ok__law_draw g) (hr.mono (by decide)) rfl g.m__law_draw g.F__law_draw.kp g.b__law_draw .nil pass0 (pa_cons (pv 0) (pa_cons pe_int pa_nil)))))) pss_nil)
      (pss_one (ps_expr (pe_bmK (K := K) rfl PySem.F.plainAttrs_list PySem.F.slot_list_append PySem.F.type_list_append mt_append (pv 2) (pa_cons (pe_call (ok__law_some g) (hr.mono (by decide)) rfl g.m__law_some g.F__law_some.kp g.b__law_some .nil pass0 (pa_cons (pv 0) (pa_cons (pv 4) pa_nil))) pa_nil)))))))
      (pss_one (ps_ret (pe_callTy (call_tupleK (K := K) rfl) rfl g.b_tuple bt_tuple (pa_cons (pv 2) pa_nil))))))), ?_⟩
    walk_at "rd"
    refine ⟨p, 6, n, rfl, hd, by omega, by decide, by decide, fun r H2 hr0 hr1 hd2 sb2 => ?_⟩
    walk_at "rd"
    refine ⟨by decide, fun q hq => ?_⟩
    refine ⟨p, 8, n + 1, rfl, hd2.same (same_upd hq), by omega, by decide, by decide, fun r2 H3 h20 h21 hd3 sb3 => ?_⟩
    have hq3 := sb3 q _ (hd2.ne hq) upd_same
    have sb4 : SameBut p H H3 := sb2.trans ((Same.but (same_upd hq)).trans sb3)
    walk_at "rd"
    obtain ⟨m, hm, hm40⟩ : ∃ m : Nat, atI [V.int r, V.int 40] (if r2 = 5 then 1 else 0) = some (.int m) ∧ m ≤ 40 := by
      by_cases h : r2 = 5
      · exact ⟨40, by rw [if_pos h]; exact atI_nat (j := 1) rfl, by omega⟩
      · refine ⟨r.toNat, ?_, by omega⟩
        rw [if_neg h, Int.toNat_of_nonneg hr0]
        exact atI_nat (j := 0) rfl
    refine ⟨_, _, .inl (SqL.of hq3), hm, by decide, fun q2 hq2 => ⟨m, rfl, by omega, by omega, ?_⟩⟩
    have hqp := hd3.ne hq2
    have hq20 : H q2 = none := sb4.free hq2 hqp
    rw [Int.toNat_natCast]
    clear hq3 hm hd2 sb2 sb3
    refine loop_range (fun i σ H' => ∃ (ss : List (List Nat)) (v3 v4 : Option V), σ = [some (.ref p), some (.int m), some (.ref q2), v3, v4] ∧ ss.length = i ∧ (∀ l ∈ ss, 0 < l.length ∧ Tx 60 l) ∧ H' q2 = some (.lst (ss.map fun z => V.str ⟨z.toArray⟩)) ∧ Deck H' p (n + 2 + 64 * i) ∧ SameBut p H H') ⟨[], none, none, rfl, rfl, by simp, upd_same, hd3.upd hqp, sb4.upd hq20⟩ ?_ ?_
    · rintro i σ H' hi ⟨ss, v3, v4, rfl, hl, hs, hq', hdk, sb⟩
      walk_at "rd"
      refine ⟨p, 6, _, rfl, hdk, by omega, by decide, by decide, fun r3 H4 h30 h31 hd4 sb5 => ?_⟩
      have hq4 := sb5 q2 _ hqp hq'
      walk_at "rd"
      refine ⟨fun σ H5 => ∃ z : Nat, σ = [some (.ref p), some (.int m), some (.ref q2), some (.int (0 + (i : Int))), some (.int (z : Int))] ∧ 1 ≤ z ∧ z ≤ 60 ∧ H5 q2 = some (.lst (ss.map fun z => V.str ⟨z.toArray⟩)) ∧ Deck H5 p (n + 2 + 64 * i + 3) ∧ SameBut p H H5, ?_, ?_⟩
      · have stay : ∀ H5, Deck H5 p (n + 2 + 64 * i + 1 + 1) → SameBut p H4 H5 → ∃ z : Nat, [some (V.ref p), some (V.int m), some (.ref q2), some (.int (0 + (i : Int))), some (.int (1 + r3))] = [some (V.ref p), some (.int m), some (.ref q2), some (.int (0 + (i : Int))), some (.int (z : Int))] ∧ 1 ≤ z ∧ z ≤ 60 ∧ H5 q2 = some (.lst (ss.map fun z => V.str ⟨z.toArray⟩)) ∧ Deck H5 p (n + 2 + 64 * i + 3) ∧ SameBut p H H5 := fun H5 hd5 sb6 =>
          ⟨(1 + r3).toNat, by rw [Int.toNat_of_nonneg (by omega)], by omega, by omega, sb6 q2 _ hqp hq4, hd5.le (by omega), (sb.trans sb5).trans sb6⟩
        refine ite2 (fun h1 => ite2 (fun h2 => ?_) (fun h2 => stay H4 (hd4.le (by omega)) (SameBut.refl _ _))) (fun h1 => stay H4 (hd4.le (by omega)) (SameBut.refl _ _))
        refine ⟨p, 8, _, rfl, hd4, by omega, by decide, by decide, fun r4 H5 h40 h41 hd5 sb6 => ?_⟩
        walk_at "rd"
        refine ite2 (fun h3 => ?_) (fun h3 => by obtain ⟨z, h, r⟩ := stay H5 hd5 sb6; exact ⟨z, by simpa using h, r⟩)
        refine ⟨p, 60, _, rfl, hd5, by omega, by decide, by decide, fun r5 H6 h50 h51 hd6 sb7 => ?_⟩
        walk_at "rd"
        exact ⟨(1 + r5).toNat, by rw [Int.toNat_of_nonneg (by omega)], by omega, by omega, sb7 q2 _ hqp (sb6 q2 _ hqp hq4), hd6, ((sb.trans sb5).trans sb6).trans sb7⟩
      · rintro σ H5 ⟨z, rfl, hz1, hz2, hq5, hd5, sb6⟩
        walk_at "rd"
        refine ⟨⟨_, SqL.of hq5⟩, p, z, _, rfl, hd5, by omega, by omega, fun l H6 hl6 hs6 hd6 sb7 => ?_⟩
        have hq6 := sb7 q2 _ hqp hq5
        walk_at "rd"
        refine ⟨_, hq6, by rw [List.length_map]; exact Nat.lt_of_le_of_lt (show ss.length ≤ 40 by omega) (by decide), ss ++ [l], _, _, ⟨rfl, rfl⟩, by rw [List.length_append, List.length_singleton, hl], fun e he => ?_, by rw [upd_same, List.map_append]; rfl, (hd6.upd hqp).le (by omega), (sb6.trans sb7).upd hq20⟩
        rcases List.mem_append.mp he with y | y
        · exact hs e y
        · rw [List.mem_singleton.mp y]; exact ⟨by omega, by omega, hs6⟩
    · rintro σ H' ⟨ss, v3, v4, rfl, hl, hs, hq', hdk, sb⟩
      walk_at "rd"
      refine ⟨_, .inl ⟨SqL.of hq', fun l hl' => ?_⟩⟩
      have hlp := hdk.ne hl'
      exact k ss _ _ (by omega) hs ((hdk.upd hlp).le (by omega)) (sb.upd (sb.free hl' hlp)) (.tup upd_same (IsTAll.strs ss))
theorem ok__law_question (g : G K mg) : FnOk P w K mg base CX0 3 g.a__law_question g.fd__law_question ["_law_deck_here"] sp__law_question := by
  refine g.F__law_question.ok sc__law_question (fun vs H Q E h => ?_) (fun cdv A outer s H vs Q E hr h => ?_)
  · obtain ⟨p, n, rfl, _⟩ := h; rfl
  · obtain ⟨p, n, rfl, hd, hn, k⟩ := h
    refine ⟨_, (pss_cons (ps_if (pt_cmpR op_eq (pe_call (ok__law_draw g) (hr.mono (by decide)) rfl g.m__law_draw g.F__law_draw.kp g.b__law_draw .nil pass0 (pa_cons (pv 0) (pa_cons pe_int pa_nil))) pe_int (nomark _))
        (pss_one (ps_ret pe_non)) pss_nil)
      (pss_cons (ps_set (i := 1) sc__law_question.nd rfl (Or.inl rfl) (pe_ix (ix_seqK (K := K) rfl) (pe_lst (pa_cons (pe_call (ok__law_draw g) (hr.mono (by decide)) rfl g.m__law_draw g.F__law_draw.kp g.b__law_draw .nil pass0 (pa_cons (pv 0) (pa_cons pe_int pa_nil))) (pa_cons pe_int pa_nil))) (pe_callTy call_intU rfl g.b_int bt_int (pa_cons (pe_cmpR op_eq (pe_call (ok__law_draw g) (hr.mono (by decide)) rfl g.m__law_draw g.F__law_draw.kp g.b__law_draw .nil pass0 (pa_cons (pv 0) (pa_cons pe_int pa_nil))) pe_int (nomark _)) pa_nil)) (fun _ _ => rfl)))
      (pss_cons (ps_set (i := 2) sc__law_question.nd rfl (Or.inl rfl) (pe_lst pa_nil))
      (pss_cons (ps_for PassesOwn.never rfl (pi_range1 rfl g.b_range (pa_cons (pv 1) pa_nil)) (pg_name (i := 3) sc__law_question.nd rfl (Or.inl rfl))
      (pss_cons (ps_set (i := 4) sc__law_question.nd rfl (Or.inl rfl) (pe_call (ok__law_some g) (hr.mono (by decide)) rfl g.m__law_some g.F__law_some.kp g.b__law_some .nil pass0 (pa_cons (pv 0) (pa_cons (pe_op (op_addK (K := K) rfl) pe_int (pe_call (ok__law_draw g) (hr.mono (by decide)) rfl g.m__law_draw g.F__law_draw.kp g.b__law_draw .nil pass0 (pa_cons (pv 0) (pa_cons pe_int pa_nil)))) pa_nil))))
      (pss_cons (ps_set (i := 5) sc__law_question.nd rfl (Or.inl rfl) pe_non)
      (pss_cut (ps_if (pt_cmpR op_gt (pe_call (ok__law_draw g) (hr.mono (by decide)) rfl g.m__law_draw g.F__law_draw.kp g.b__law_draw .nil pass0 (pa_cons (pv 0) (pa_cons pe_int pa_nil))) pe_int (nomark _))
        (pss_one (ps_set (i := 5) sc__law_question.nd rfl (Or.inl rfl) (pe_call (ok__law_some g) (hr.mono (by decide)) rfl g.m__law_some g.F__law_some.kp g.b__law_some .nil pass0 (pa_cons (pv 0) (pa_cons (pe_call (ok__law_draw g) (hr.mono (by decide)) rfl g.m__law_draw g.F__law_draw.kp g.b__law_draw .nil pass0 (pa_cons (pv 0) (pa_cons pe_int pa_nil))) pa_nil))))) pss_nil)
      (pss_one (ps_expr (pe_bmK (K := K) rfl PySem.F.plainAttrs_list PySem.F.slot_list_append PySem.F.type_list_append mt_append (pv 2) (pa_cons (pe_tup (pa_cons (pv 4) (pa_cons (pv 5) pa_nil))) pa_nil))))))))
      (pss_one (ps_ret (pe_callTy (call_tupleK (K := K) rfl) rfl g.b_tuple bt_tuple (pa_cons (pv 2) pa_nil)))))))), ?_⟩
    walk_at "rd"
    refine ⟨p, 3, n, rfl, hd, by omega, by decide, by decide, fun r H2 hr0 hr1 hd2 sb2 => ?_⟩
    walk_at "rd"
    refine ite2 (fun h => k none _ _ (fun _ z => by cases z) (hd2.le (by omega)) sb2 .non) (fun h => ?_)
    refine ⟨p, 5, _, rfl, hd2, by omega, by decide, by decide, fun r1 H1 hr10 hr11 hd1 sb1 => ?_⟩
    refine ⟨by decide, fun q hq => ?_⟩
    refine ⟨p, 8, _, rfl, hd1.same (same_upd hq), by omega, by decide, by decide, fun r2 H3 h20 h21 hd3 sb3 => ?_⟩
    have hq3 := sb3 q _ (hd1.ne hq) upd_same
    have sb4 : SameBut p H H3 := (sb2.trans sb1).trans ((Same.but (same_upd hq)).trans sb3)
    walk_at "rd"
    obtain ⟨m, hm, hm40⟩ : ∃ m : Nat, atI [V.int r1, V.int 20] (if r2 = 5 then 1 else 0) = some (.int m) ∧ m ≤ 20 := by
      by_cases h : r2 = 5
      · exact ⟨20, by rw [if_pos h]; exact atI_nat (j := 1) rfl, by omega⟩
      · refine ⟨r1.toNat, ?_, by omega⟩
        rw [if_neg h, Int.toNat_of_nonneg hr10]
        exact atI_nat (j := 0) rfl
    refine ⟨_, _, .inl (SqL.of hq3), hm, by decide, fun q2 hq2 => ⟨m, rfl, by omega, by omega, ?_⟩⟩
    have hqp := hd3.ne hq2
    have hq20 : H q2 = none := sb4.free hq2 hqp
    rw [Int.toNat_natCast]
    clear hq3 hm hd2 sb2 sb3 hd1 sb1
    refine loop_range (fun i σ H' => ∃ (ps : List (List Nat × Option (List Nat))) (ys : List V) (v3 v4 v5 : Option V), σ = [some (.ref p), some (.int m), some (.ref q2), v3, v4, v5] ∧ ps.length = i ∧ (∀ p ∈ ps, (0 < p.1.length ∧ Tx 6 p.1) ∧ ∀ v, p.2 = some v → Tx 6 v) ∧ H' q2 = some (.lst ys) ∧ IsTAll H' (ps.map fun p => .tuple [st p.1, oD p.2]) ys ∧ Deck H' p (n + 3 + 64 * i) ∧ SameBut p H H')
      ⟨[], [], none, none, none, rfl, rfl, by simp, upd_same, .nil, (hd3.upd hqp).le (by omega), sb4.upd hq20⟩ ?_ ?_
    · rintro i σ H' hi ⟨ps, ys, v3, v4, v5, rfl, hl, hs, hq', hys, hdk, sb⟩
      walk_at "rd"
      refine ⟨p, 6, _, rfl, hdk, by omega, by decide, by decide, fun r3 H4 h30 h31 hd4 sb5 => ?_⟩
      have hq4 := sb5 q2 _ hqp hq'
      have hy4 := hys.mono (hdk.toT sb5)
      walk_at "rd"
      refine ⟨p, (1 + r3).toNat, _, by rw [Int.toNat_of_nonneg (by omega)], hd4, by omega, by omega, fun l H5 hl5 hs5 hd5 sb6 => ?_⟩
      have hq5 := sb6 q2 _ hqp hq4
      have hy5 := hy4.mono (hd4.toT sb6)
      walk_at "rd"
      refine ⟨fun σ H6 => ∃ o : Option (List Nat), σ = [some (.ref p), some (.int m), some (.ref q2), some (.int (0 + (i : Int))), some (.str ⟨l.toArray⟩), some (otV o)] ∧ (∀ v, o = some v → Tx 6 v) ∧ H6 q2 = some (.lst ys) ∧ IsTAll H6 (ps.map fun p => .tuple [st p.1, oD p.2]) ys ∧ Deck H6 p (n + 3 + 64 * i + 30) ∧ SameBut p H H6, ?_, ?_⟩
      · refine ⟨p, 3, _, rfl, hd5, by omega, by decide, by decide, fun r6 H6 h60 h61 hd6 sb7 => ?_⟩
        have hq6 := sb7 q2 _ hqp hq5
        have hy6 := hy5.mono (hd5.toT sb7)
        walk_at "rd"
        refine ite2 (fun h6 => ?_) (fun h6 => ⟨none, rfl, (fun _ z => by cases z), hq6, hy6, hd6.le (by omega), ((sb.trans sb5).trans sb6).trans sb7⟩)
        refine ⟨p, 7, _, rfl, hd6, by omega, by decide, by decide, fun r7 H7 h70 h71 hd7 sb8 => ?_⟩
        have hq7 := sb8 q2 _ hqp hq6
        have hy7 := hy6.mono (hd6.toT sb8)
        refine ⟨p, r7.toNat, _, by rw [Int.toNat_of_nonneg (by omega)], hd7, by omega, by omega, fun l2 H8 hl8 hs8 hd8 sb9 => ?_⟩
        exact ⟨some l2, rfl, (fun v z => by cases z; exact ⟨by omega, hs8⟩), sb9 q2 _ hqp hq7, hy7.mono (hd7.toT sb9), hd8.le (by omega), ((((sb.trans sb5).trans sb6).trans sb7).trans sb8).trans sb9⟩
      · rintro σ H6 ⟨o, rfl, ho, hq6, hy6, hd6, sb7⟩
        walk_at "rd"
        refine ⟨⟨_, SqL.of hq6⟩, by decide, fun t ht => ?_⟩
        have htq : q2 ≠ t := ne_of_none hq6 ht
        have htp := hd6.ne ht
        have hy7 := hys.length
        rw [List.length_map] at hy7
        refine ⟨ys, by rw [upd_ne htq]; exact hq6, Nat.lt_of_le_of_lt (show ys.length ≤ 40 by omega) (by decide), ps ++ [(l, o)], ys ++ [.ref t], _, _, _, ⟨rfl, rfl, rfl⟩, by rw [List.length_append, List.length_singleton, hl], fun e he => ?_, upd_same, ?_, ((hd6.upd htp).upd hqp).le (by omega), (sb7.upd (sb7.free ht htp)).upd hq20⟩
        · rcases List.mem_append.mp he with y | y
          · exact hs e y
          · rw [List.mem_singleton.mp y]
            exact ⟨⟨by show 0 < l.length; omega, by show l.length ≤ 6; omega, hs5⟩, ho⟩
        · rw [List.map_append]
          have s1 : SameT H6 (upd (upd H6 t (.tup [V.str ⟨l.toArray⟩, otV o])) q2 (.lst (ys ++ [.ref t]))) := (sameT_new ht).trans (sameT_lst (xs := ys) (by rw [upd_ne htq]; exact hq6))
          refine (hy6.mono s1).snoc (.tup (xs := [V.str ⟨l.toArray⟩, otV o]) (by rw [upd_ne htq.symm, upd_same]) (.cons (.str _) (.cons ?_ .nil)))
          cases o with
          | none => exact .non
          | some x => exact .str _
    · rintro σ H' ⟨ps, ys, v3, v4, v5, rfl, hl, hs, hq', hys, hdk, sb⟩
      walk_at "rd"
      refine ⟨_, .inl ⟨SqL.of hq', fun l hl' => ?_⟩⟩
      have hlp := hdk.ne hl'
      exact k (some ps) _ _ (fun ps' z => by cases z; exact ⟨by omega, hs⟩) ((hdk.upd hlp).le (by omega)) (sb.upd (sb.free hl' hlp)) (.tup upd_same (hys.mono (sameT_new hl')))
theorem ok__law_loose (g : G K mg) : FnOk P w K mg base CX0 3 g.a__law_loose g.fd__law_loose ["_law_text", "_law_free", "_law_cell"] sp__law_loose := by
  refine g.F__law_loose.ok sc__law_loose (fun vs H Q E h => ?_) (fun cdv A outer s H vs Q E hr h => ?_)
  · obtain ⟨s, fr, i, rfl, _⟩ := h; rfl
  · obtain ⟨s, fr, i, rfl, hl, hs, hfl, hf, k⟩ := h
    refine ⟨_, (pss_cons (ps_set (i := 3) sc__law_loose.nd rfl (Or.inl rfl) pe_str)
      (pss_cons (ps_for PassesOwn.never rfl (pi_range1 rfl g.b_range (pa_cons (pe_callB (call_lenK (K := K) rfl) rfl g.b_len PySem.boot_len (pa_cons (pv 0) pa_nil)) pa_nil)) (pg_name (i := 4) sc__law_loose.nd rfl (Or.inl rfl))
      (pss_cons (ps_set (i := 5) sc__law_loose.nd rfl (Or.inl rfl) (pe_op op_mod (pe_op op_mulU (pe_op (op_addK (K := K) rfl) (pe_op (op_addK (K := K) rfl) (pv 2) (pe_op op_mulU (pe_op op_mulU pe_int (pv 4)) (pv 4))) (pv 4)) pe_int) pe_int))
      (pss_cons (ps_set (i := 5) sc__law_loose.nd rfl (Or.inl rfl) (pe_op op_fdiv (pe_op op_mod (pe_op op_mulU (pv 5) (pe_op (op_addK (K := K) rfl) (pv 5) pe_int)) pe_int) pe_int))
      (pss_cut (ps_set (i := 6) sc__law_loose.nd rfl (Or.inl rfl) (pe_ix (ix_seqK (K := K) rfl) (pv 0) (pv 4) (fun _ _ => rfl)))
      (pss_one (ps_if (PW.pt (pw_and (PW.pt (pw_or (pt_val (pe_call (ok__law_plain g) (hr.mono (by decide)) rfl g.m__law_plain g.F__law_plain.kp g.b__law_plain .nil pass0 (pa_cons (pv 6) pa_nil))) (pw_or1 (pt_cmpR op_inU (pv 6) (pv 1) (by with_unfolding_all rfl))))) (pw_and1 (pt_cmpR op_gt (pe_op op_mod (pv 5) pe_int) pe_int (nomark _)))))
        (pss_one (ps_set (i := 3) sc__law_loose.nd rfl (Or.inl rfl) (pe_op (op_addK (K := K) rfl) (pv 3) (pv 6)))) (pss_one (ps_if (pt_cmpR op_eq (pe_op op_mod (pe_op op_fdiv (pv 5) pe_int) pe_int) pe_int (nomark _))
        (pss_one (ps_set (i := 3) sc__law_loose.nd rfl (Or.inl rfl) (pe_op (op_addK (K := K) rfl) (pe_op (op_addK (K := K) rfl) (pv 3) pe_str) (pe_call (ok__law_hex g) (hr.mono (by decide)) rfl g.m__law_hex g.F__law_hex.kp g.b__law_hex .nil pass0 (pa_cons (pv 6) pa_nil))))) (pss_one (ps_set (i := 3) sc__law_loose.nd rfl (Or.inl rfl) (pe_op (op_addK (K := K) rfl) (pe_op (op_addK (K := K) rfl) (pv 3) pe_str) (pe_bm0K (K := K) rfl PySem.F.plainAttrs_str PySem.F.slot_str_upper PySem.F.type_str_upper mt_upper (pe_call (ok__law_hex g) (hr.mono (by decide)) rfl g.m__law_hex g.F__law_hex.kp g.b__law_hex .nil pass0 (pa_cons (pv 6) pa_nil))))))))))))))
      (pss_one (ps_ret (pv 3))))), ?_⟩
    walk_at "rd"
    refine ⟨le_line (by omega), by omega, by omega, ?_⟩
    rw [Int.toNat_natCast]
    refine loop_range (fun j σ H' => H' = H ∧ ∃ (w : List Nat) (v4 v5 v6 : Option V), σ = [some (.str ⟨s.toArray⟩), some (.str ⟨fr.toArray⟩), some (.int i), some (.str ⟨w.toArray⟩), v4, v5, v6] ∧ WrT fr (s.take j) w ∧ w.length ≤ 3 * j) ⟨rfl, [], none, none, none, rfl, .nil, Nat.zero_le _⟩ ?_ ?_
    · rintro j σ H' hj ⟨rfl, w, v4, v5, v6, rfl, hw, hwl⟩
      have hcj : s[j]? = some s[j] := List.getElem?_eq_getElem hj
      have hc := hs _ (List.mem_of_getElem? hcj)
      generalize s[j] = c at hcj hc
      have hc' := isSg_lt hc
      have et : s.take (j + 1) = s.take j ++ [c] := by rw [List.take_add_one, hcj]; rfl
      walk_at "rd"
      have h1 := Int.emod_nonneg ((i + 31 * (0 + (j : Int)) * (0 + (j : Int)) + (0 + (j : Int))) * 69621) (show (2147483629 : Int) ≠ 0 by decide)
      have h2 := Int.emod_lt_of_pos ((i + 31 * (0 + (j : Int)) * (0 + (j : Int)) + (0 + (j : Int))) * 69621) (show (0 : Int) < 2147483629 by decide)
      refine ⟨.inl ⟨by decide, by decide⟩, .inr ⟨by omega, by omega⟩, .inr ⟨by decide, by decide⟩, by decide, .inl ⟨by omega, by omega⟩, by decide, ⟨by decide, by decide⟩, ?_⟩
      refine ⟨fun σ H2 => H2 = H' ∧ ∃ n : Int, σ = [some (.str ⟨s.toArray⟩), some (.str ⟨fr.toArray⟩), some (.int i), some (.str ⟨w.toArray⟩), some (.int (0 + (j : Int))), some (.int n), some (.str ⟨#[c]⟩)], ⟨c, le_line (by omega), by rw [Int.zero_add]; exact atI_nat hcj, rfl, _, rfl⟩, ?_⟩
      rintro σ H2 ⟨rfl, n, rfl⟩
      have hself : (isPl c = true ∨ c ∈ fr) → ∃ (w' : List Nat) (v4 v5 v6 : Option V), (({ cps := (w ++ [c]).toArray } : Str) = { cps := w'.toArray } ∧ some (V.int (0 + (j : Int))) = v4 ∧ some (V.int n) = v5 ∧ some (V.str { cps := #[c] }) = v6) ∧ WrT fr (List.take (j + 1) s) w' ∧ w'.length ≤ 3 * (j + 1) := fun hp => by
        refine ⟨w ++ [c], _, _, _, ⟨rfl, rfl, rfl, rfl⟩, ?_, by rw [List.length_append, List.length_singleton]; omega⟩
        rw [et]
        refine wrt_app hw (.self hp ?_ .nil)
        rintro rfl
        rcases hp with z | z
        · rw [not_pl] at z; cases z
        · exact hf z
      have hpair : ∀ a b : Nat, sgO a b = some c → ∃ (w' : List Nat) (v4 v5 v6 : Option V), (({ cps := (w ++ [126] ++ [a, b]).toArray } : Str) = { cps := w'.toArray } ∧ some (V.int (0 + (j : Int))) = v4 ∧ some (V.int n) = v5 ∧ some (V.str { cps := #[c] }) = v6) ∧ WrT fr (List.take (j + 1) s) w' ∧ w'.length ≤ 3 * (j + 1) := fun a b hab => by
        refine ⟨w ++ [126] ++ [a, b], _, _, _, ⟨rfl, rfl, rfl, rfl⟩, ?_, by simp; omega⟩
        rw [et, List.append_assoc]
        exact wrt_app hw (.pair hab .nil)
      have hx128 : ∀ d : Nat, d ∈ [hexd (c / 16), hexd (c % 16)] → d < 128 := fun d hd => by
        simp only [List.mem_cons, List.not_mem_nil, or_false] at hd
        rcases hd with rfl | rfl
        · exact hexd_128 _ (by omega)
        · exact hexd_128 _ (by omega)
      have wl : w.length + 1 ≤ sizeLine := le_line (by omega)
      have wl2 : (w ++ [126]).length + 2 ≤ sizeLine := le_line (by rw [List.length_append, List.length_singleton]; omega)
      walk_at "rd"
      refine ⟨by omega, ite2 (fun h => ⟨by decide, ite2 (fun _ => ⟨wl, hself (.inl h)⟩) (fun _ => ⟨⟨by decide, by decide⟩, by decide, ite2 (fun _ => ⟨wl, hc, wl2, hpair _ _ (sgO_hex hc)⟩) (fun _ => ⟨wl, hc, hx128, by decide, wl2, hpair _ _ (sgO_up hc)⟩)⟩)⟩) (fun h => ?_)⟩
      refine ite2 (fun h => ⟨by decide, ite2 (fun _ => ⟨wl, hself (.inr h)⟩) (fun _ => ⟨⟨by decide, by decide⟩, by decide, ite2 (fun _ => ⟨wl, hc, wl2, hpair _ _ (sgO_hex hc)⟩) (fun _ => ⟨wl, hc, hx128, by decide, wl2, hpair _ _ (sgO_up hc)⟩)⟩)⟩) (fun h => ?_)
      exact ⟨⟨by decide, by decide⟩, by decide, ite2 (fun _ => ⟨wl, hc, wl2, hpair _ _ (sgO_hex hc)⟩) (fun _ => ⟨wl, hc, hx128, by decide, wl2, hpair _ _ (sgO_up hc)⟩)⟩
    · rintro σ H' ⟨rfl, w, v4, v5, v6, rfl, hw, hwl⟩
      walk_at "rd"
      rw [List.take_length] at hw
      exact k w hw hwl
theorem ok_is_house (g : G K mg) : FnOk P w K mg base CX0 4 g.a_is_house g.fd_is_house ["thing"] sp_is_house := by
  refine g.F_is_house.ok sc_is_house (fun vs H Q E h => ?_) (fun cdv A outer s H vs Q E hr h => ?_)
  · obtain ⟨d, v, rfl, _⟩ := h; rfl
  · obtain ⟨d, v, rfl, hv, hs, k⟩ := h
    refine ⟨_, (pss_one (ps_ret (pe_or (pe_cmpR op_isNU (pv 0) pe_non (nomark _)) (pe_one (pe_and (pe_call (ok_is_filled_text g) (hr.mono (by decide)) rfl g.m_is_filled_text g.F_is_filled_text.kp g.b_is_filled_text .nil pass0 (pa_cons (pv 0) pa_nil)) (pe_one (pe_cmpR op_le (pe_callB (call_lenK (K := K) rfl) rfl g.b_len PySem.boot_len (pa_cons (pv 0) pa_nil)) (pe_glob (v := k_LONGEST_HOUSE) rfl g.c_LONGEST_HOUSE ⟨_, rfl⟩) (nomark _)))))))), ?_⟩
    cases hv with
    | non => walk_at "rd"; exact k H (Same.refl _)
    | bl b => walk_at "rd"; exact ⟨_, _, rfl, .bl b, hs, fun H1 s1 => ⟨false, rfl, k H1 s1⟩⟩
    | int b => walk_at "rd"; exact ⟨_, _, rfl, .int b, hs, fun H1 s1 => ⟨false, rfl, k H1 s1⟩⟩
    | lst hp r => walk_at "rd"; exact ⟨_, _, rfl, .lst hp r, hs, fun H1 s1 => ⟨false, rfl, k H1 s1⟩⟩
    | tup hp r => walk_at "rd"; exact ⟨_, _, rfl, .tup hp r, hs, fun H1 s1 => ⟨false, rfl, k H1 s1⟩⟩
    | str x =>
      walk_at "rd"
      refine ⟨_, _, rfl, .str x, hs, fun H1 s1 => ?_⟩
      walk_at "rd"
      have k1 := k H1 s1
      refine ite2 (fun h => ⟨le_line (small_str hs), ?_⟩) (fun h => ?_)
      · rw [show houD (.str x) = decide ((x.length : Int) ≤ 60) by
          show (ftx (.str x) && decide (x.length ≤ 60)) = _
          rw [h, Bool.true_and]; exact decide_eq_decide.mpr (by omega)] at k1
        exact k1
      · rw [show houD (.str x) = false by
          show (ftx (.str x) && decide (x.length ≤ 60)) = _
          rw [(Bool.not_eq_true _).mp h, Bool.false_and]] at k1
        exact k1
theorem ok_is_steps (g : G K mg) : FnOk P w K mg base CX0 4 g.a_is_steps g.fd_is_steps ["thing"] sp_is_steps := by
  refine g.F_is_steps.ok sc_is_steps (fun vs H Q E h => ?_) (fun cdv A outer s H vs Q E hr h => ?_)
  · obtain ⟨d, v, rfl, _⟩ := h; rfl
  · obtain ⟨d, v, rfl, hv, hs, k⟩ := h
    refine ⟨_, (pss_one (ps_ret (pe_and (pe_callB call_isiU rfl g.b_isinstance boot_isinstance (pa_cons (pv 0) (pa_cons (pe_bltn (v := .ty "tuple") rfl g.b_tuple bt_tuple rfl) pa_nil))) (pe_one (pe_callB (call_allK (K := K) rfl rfl) rfl g.b_all PyProof.Rows.boot_all (pa_cons (pe_comp (fx := []) (fr := []) rfl rfl (by decide +kernel) rfl (by decide +kernel) rfl (by decide +kernel) rfl .nil rfl (pi_tupK (K := K) rfl (pv 0)) (fun _ _ _ => pf_nil) (fun _ _ _ => (pe_call (ok_is_filled_text g) (hr.mono (by decide)) rfl g.m_is_filled_text g.F_is_filled_text.kp g.b_is_filled_text .nil pass0 (pa_cons (pv 0) pa_nil)))) pa_nil)))))), ?_⟩
    cases hv with
    | lst hp r => walk_at "rd"; simp only [kind_lst hp]; walk_at "rd"; exact k H (Same.refl _)
    | @tup p xs ds hp r =>
      walk_at "rd"; simp only [kind_tup hp]; walk_at "rd"
      refine ⟨⟨_, SqT.of hp⟩, fun q hq => ?_⟩
      refine comp_tupZ (zs := ds.map fun d => .bl (ftx d)) (SqT.of hp) (by rw [← r.length]; exact le_line (small_tup hs).1) hq (by rw [List.length_map]; exact r.length) (fun i x z hx hz H' T sm hT => ?_) (fun H' sm hq' => ?_)
      · obtain ⟨d, hd, hi⟩ := r.at i x hx
        rw [List.getElem?_map, hd] at hz
        cases hz
        walk_at "rd"
        exact ⟨d, x, rfl, hi.mono sm, smallAll_mem (small_tup hs).2 (List.mem_of_getElem? hd), fun H'' s => hT H'' s⟩
      · refine all_ref.mpr ⟨ds.map ftx, SqL.of (by rw [hq', List.map_map]; rfl), ?_⟩
        rw [List.all_map]
        exact k H' sm
    | _ => walk_at "rd"; exact k H (Same.refl _)
theorem ok_is_asked (g : G K mg) : FnOk P w K mg base CX0 4 g.a_is_asked g.fd_is_asked ["thing"] sp_is_asked := by
  refine g.F_is_asked.ok sc_is_asked (fun vs H Q E h => ?_) (fun cdv A outer s H vs Q E hr h => ?_)
  · obtain ⟨d, v, rfl, _⟩ := h; rfl
  · obtain ⟨d, v, rfl, hv, hs, k⟩ := h
    refine ⟨_, (pss_one (ps_ret (pe_and (pe_call (ok_is_tuple g) (hr.mono (by decide)) rfl g.m_is_tuple g.F_is_tuple.kp g.b_is_tuple .nil pass0 (pa_cons (pv 0) (pa_cons pe_int pa_nil))) (pe_and (pe_call (ok_is_filled_text g) (hr.mono (by decide)) rfl g.m_is_filled_text g.F_is_filled_text.kp g.b_is_filled_text .nil pass0 (pa_cons (pe_ix (ix_seqK (K := K) rfl) (pv 0) pe_int (fun _ _ => rfl)) pa_nil)) (pe_one (pe_call (ok_is_text_or_none g) (hr.mono (by decide)) rfl g.m_is_text_or_none g.F_is_text_or_none.kp g.b_is_text_or_none .nil pass0 (pa_cons (pe_ix (ix_seqK (K := K) rfl) (pv 0) pe_int (fun _ _ => rfl)) pa_nil))))))), ?_⟩
    walk_at "rd"
    refine ⟨d, v, 2, rfl, hv, ?_⟩
    walk_at "rd"
    refine ite2 (fun h => ?_) (fun h => ?_)
    · obtain ⟨a, b, rfl⟩ := tup2 h
      have hs2 := (small_tup hs).2
      have sa : smallD a = true := smallAll_mem hs2 (by simp)
      have sb : smallD b = true := smallAll_mem hs2 (by simp)
      cases hv with
      | @tup p xs ds hp r =>
        obtain ⟨x0, x1, rfl, h0, h1⟩ := isAll2 r
        walk_at "rd"
        refine ⟨_, x0, .inr (SqT.of hp), atI_nat (j := 0) rfl, a, x0, rfl, h0, sa, fun H1 s1 => ?_⟩
        walk_at "rd"
        refine ite2 (fun h2 => ⟨_, x1, .inr (SqT.of (s1 _ _ hp)), atI_nat (j := 1) rfl, b, x1, rfl, h1.mono s1, sb, fun H2 s2 => ?_⟩) (fun h2 => ?_)
        · have k2 := k H2 (s1.trans s2)
          simp only [askD, h2, Bool.true_and] at k2
          exact k2
        · have k2 := k H1 s1
          simp only [askD, (Bool.not_eq_true _).mp h2, Bool.false_and] at k2
          exact k2
    · have k1 := k H (Same.refl _)
      rw [askD_no h] at k1
      exact k1
theorem ok_shown_question (g : G K mg) : FnOk P w K mg base CX0 4 g.a_shown_question g.fd_shown_question ["question"] (sp_shown_question K) := by
  refine g.F_shown_question.ok sc_shown_question (fun vs H Q E h => ?_) (fun cdv A outer s H vs Q E hr h => ?_)
  · obtain ⟨q, v, rfl, _⟩ := h; rfl
  · obtain ⟨q, v, rfl, hI, hq, hl, k⟩ := h
    refine ⟨_, (pss_cons (ps_if (pt_cmpR op_isNU (pv 0) pe_non (nomark _))
        (pss_one (ps_ret pe_str)) pss_nil)
      (pss_one (ps_ret (pe_op (op_addK (K := K) rfl) pe_str (pe_bmK (K := K) rfl PySem.F.plainAttrs_str PySem.F.slot_str_join PySem.F.type_str_join (mt_joinK (K := K) rfl) pe_str (pa_cons (pe_comp2K (K := K) (fx := []) (fr := []) rfl rfl rfl (by decide +kernel) rfl (by decide +kernel) rfl rfl (by decide +kernel) rfl .nil rfl (pi_tupK (K := K) rfl (pv 0)) (fun _ _ _ => pf_nil) (fun _ _ _ => (pe_call (ok_shown_asked g) (hr.mono (by decide)) rfl g.m_shown_asked g.F_shown_asked.kp g.b_shown_asked .nil pass0 (pa_cons (pv 0) (pa_cons (pv 1) pa_nil))))) pa_nil)))))), ?_⟩
    have c1 : Str.ofString "?" = ⟨[63].toArray⟩ := by decide +kernel
    have c2 : Str.ofString "&" = ⟨[38].toArray⟩ := by decide +kernel
    rw [c1, c2]
    walk_at "rd"
    cases q with
    | none =>
      cases hI
      exact ite2 (fun _ => k H (Same.refl _)) (fun z => absurd rfl z)
    | some ps =>
      obtain ⟨p, xs, rfl, hp, r⟩ := isK_tup hI
      refine ite2 (fun z => by cases z) (fun _ => ?_)
      obtain ⟨hpl, hpp⟩ := hq ps rfl
      have hxl := r.length
      rw [List.length_map] at hxl
      refine ⟨p, rfl, ⟨_, hp⟩, fun p1 hn1 => ?_⟩
      refine comp_tup2 (f := fun i => match ps[i]? with | some p => (.str ⟨p.1.toArray⟩, otV p.2) | none => (.non, .non)) (zs := (ps.map pairT).map fun l => V.str ⟨l.toArray⟩) hp (le_line (by omega)) hn1 (by simp; omega) (fun i x H' hx sm => ?_) (fun i z hi hz H' T sm hT => ?_) (fun H' sm hp' => ?_)
      · have hi : i < ps.length := by have := (List.getElem?_eq_some_iff.mp hx).1; omega
        have he : ps[i]? = some ps[i] := by simp [hi]
        obtain ⟨b, x1, x2, rfl, hb, b1, b2⟩ := isK2 (isKAll_get r (by rw [List.getElem?_map, he]; rfl) hx)
        cases isK_st b1
        cases isK_oD b2
        refine ⟨b, rfl, ?_⟩
        rw [he]
        exact sm.tup hb
      · have hi : i < ps.length := by omega
        have he : ps[i]? = some ps[i] := by simp [hi]
        rw [List.getElem?_map, List.getElem?_map, he] at hz
        simp only [Option.map_some, Option.some.injEq] at hz
        subst hz
        obtain ⟨k1, k2, k3⟩ := hpp ps[i] (List.getElem_mem hi)
        rw [he]
        walk_at "rd"
        exact ⟨ps[i].1, ps[i].2, rfl, k1, k2, k3, hT⟩
      · walk_at "rd"
        have hj := join_len (sep := 38) (ps.map pairT)
        have hq2 : (queT (some ps)).length = (joinT 38 (ps.map pairT)).length + 1 := by simp [queT]
        refine ⟨(ps.map pairT).map fun l => ⟨l.toArray⟩, by rw [List.map_map (f := fun l : List Nat => (⟨l.toArray⟩ : Str)) (g := V.str)]; exact .of hp', ?_, ?_⟩
        · rw [lens_eq, List.length_map]
          have : ((ps.map pairT).map List.length).sum + (ps.map pairT).length ≤ (joinT 38 (ps.map pairT)).length + 1 := hj
          omega
        rw [show (⟨#[38]⟩ : Str) = ⟨[38].toArray⟩ from rfl, join_sep, show (⟨#[63]⟩ : Str) = ⟨[63].toArray⟩ from rfl]
        walk_at "rd"
        refine ⟨le_line (by omega), ?_⟩
        have := k H' sm
        simpa [queT] using this
theorem ok_taken_scheme (g : G K mg) : FnOk P w K mg base CX0 4 g.a_taken_scheme g.fd_taken_scheme ["cursor"] (sp_taken_scheme K g.C_Cursor) := by
  refine g.F_taken_scheme.ok sc_taken_scheme (fun vs H Q E h => ?_) (fun cdv A outer s H vs Q E hr h => ?_)
  · obtain ⟨p, t, rfl, _⟩ := h; rfl
  · obtain ⟨p, t, rfl, hcur, hl, k⟩ := h
    refine ⟨_, (pss_cons (ps_set (i := 1) sc_taken_scheme.nd rfl (Or.inl rfl) (pe_ix (ix_seqK (K := K) rfl) (pe_bmK (K := K) rfl PySem.F.plainAttrs_str PySem.F.slot_str_partition PySem.F.type_str_partition mt_partition (pe_fld (pv 0) rfl) (pa_cons pe_str pa_nil)) pe_int (fun _ _ => rfl)))
      (pss_cons (ps_if (PW.pt (pw_or (pt_cmpR op_eq (pv 1) pe_str (nomark _)) (pw_or (pt_not (pt_val (pe_call (ok_is_scheme g) (hr.mono (by decide)) rfl g.m_is_scheme g.F_is_scheme.kp g.b_is_scheme .nil pass0 (pa_cons (pv 1) pa_nil)))) (pw_or1 (pt_not (pt_val (pe_meth (pv 0) g.cl_Cursor g.me_Cursor_passes (ok_Cursor_passes g) (hr.mono (by decide)) g.b_Cursor_passes .nil pass0 (pa_cons (pe_op (op_addK (K := K) rfl) (pv 1) pe_str) pa_nil))))))))
        (pss_one (ps_ret pe_str)) pss_nil)
      (pss_one (ps_ret (pv 1))))), ?_⟩
    have e1 : Str.ofString ":" = ⟨[58].toArray⟩ := by decide +kernel
    rw [e1]
    walk_at "rd"
    refine get_text hcur g.cl_Cursor g.n_Cursor_text ⟨rfl, pt_str.mpr ⟨by decide, le_line (show t.length ≤ 100000 by omega), fun q hq => ?_⟩⟩
    rw [show (⟨#[58]⟩ : Str) = ⟨[58].toArray⟩ from rfl, part_colon]
    have sm1 := same_new (o := .tup [.str ⟨(ahead t).toArray⟩, .str (Txt.partition ⟨t.toArray⟩ ⟨[58].toArray⟩).2.1, .str (Txt.partition ⟨t.toArray⟩ ⟨[58].toArray⟩).2.2]) hq
    have hq1 : (upd H q (.tup [.str ⟨(ahead t).toArray⟩, .str (Txt.partition ⟨t.toArray⟩ ⟨[58].toArray⟩).2.1, .str (Txt.partition ⟨t.toArray⟩ ⟨[58].toArray⟩).2.2])) q = some (.tup [.str ⟨(ahead t).toArray⟩, .str (Txt.partition ⟨t.toArray⟩ ⟨[58].toArray⟩).2.1, .str (Txt.partition ⟨t.toArray⟩ ⟨[58].toArray⟩).2.2]) := upd_same
    generalize upd H q (.tup [.str ⟨(ahead t).toArray⟩, .str (Txt.partition ⟨t.toArray⟩ ⟨[58].toArray⟩).2.1, .str (Txt.partition ⟨t.toArray⟩ ⟨[58].toArray⟩).2.2]) = H1 at sm1 hq1 ⊢
    have c1 := hcur.same sm1
    have hal := ahead_len t
    walk_at "rd"
    refine ⟨_, _, .inr (.of hq1), rfl, ?_⟩
    rw [L2.rd_eqSS]
    refine ⟨_, rfl, ?_⟩
    by_cases h1 : ahead t = []
    · rw [decide_eq_true (by rw [h1]), if_pos rfl]
      obtain ⟨z1, z2⟩ := schM_no (t := t) (fun z => z.1 h1)
      have := k H1 sm1.but (by rw [z2]; exact c1)
      rw [z1] at this
      exact this
    rw [decide_eq_false (fun z => h1 (mk_nil.mp z)), if_neg (by decide)]
    refine ⟨.str ⟨(ahead t).toArray⟩, _, rfl, .str _, by simp [smallD, Str.length]; omega, fun H2 s2 => ⟨_, rfl, ?_⟩⟩
    have c2 := c1.same s2
    have sm2 := sm1.trans s2
    cases h2 : schD (.str ⟨(ahead t).toArray⟩) with
    | false =>
      rw [if_pos rfl]
      obtain ⟨z1, z2⟩ := schM_no (t := t) (fun z => by rw [h2] at z; cases z.2.1)
      have := k H2 sm2.but (by rw [z2]; exact c2)
      rw [z1] at this
      exact this
    | true =>
      rw [if_neg (by decide)]
      refine cur_meth c2 ?_
      rw [show (⟨#[58]⟩ : Str) = ⟨[58].toArray⟩ from rfl]
      walk_at "rd"
      refine ⟨le_line (by simp; omega), ?_⟩
      by_cases h3 : t[(ahead t).length]? = some 58
      · obtain ⟨z1, z2⟩ := schM_yes h1 h2 h3
        have ht := (ahead_take t).mpr h3
        refine pass_yes (w := ahead t ++ [58]) (r := t.drop (ahead t ++ [58]).length) c2 (Nat.zero_le _) (by omega) ?_ fun H3 s3 c3 _ _ => ⟨_, rfl, ?_⟩
        · rw [List.drop_zero]
          conv => lhs; rw [← List.take_append_drop (ahead t ++ [58]).length t, ht]
        rw [if_neg (by decide)]
        have := k H3 (sm2.but.trans s3) (by rw [z2]; rw [Nat.zero_add] at c3; exact c3)
        rw [z1] at this
        exact this
      · obtain ⟨z1, z2⟩ := schM_no (t := t) (fun z => h3 z.2.2)
        refine pass_no (w := ahead t ++ [58]) c2 (Nat.zero_le _) (by omega) (by rw [List.drop_zero]; exact fun z => h3 ((ahead_take t).mp z)) ⟨_, rfl, ?_⟩
        rw [if_pos rfl]
        have := k H2 sm2.but (by rw [z2]; exact c2)
        rw [z1] at this
        exact this
theorem ok_taken_text (g : G K mg) : FnOk P w K mg base CX0 4 g.a_taken_text g.fd_taken_text ["cursor", "free", "most"] (sp_taken_text K g.C_Cursor) := by
  refine g.F_taken_text.ok sc_taken_text (fun vs H Q E h => ?_) (fun cdv A outer s H vs Q E hr h => ?_)
  · obtain ⟨p, t, fr, s, w, r, i, mo, rfl, _⟩ := h; rfl
  · obtain ⟨p, t, fr, s, w', r, i, mo, rfl, hcur, hi, hl, h128, hfl, hd, hw, hst, hmo, k⟩ := h
    refine ⟨_, (pss_cons (ps_set (i := 3) sc_taken_text.nd rfl (Or.inl rfl) (pe_lst pa_nil))
      (pss_cons (ps_set (i := 4) sc_taken_text.nd rfl (Or.inl rfl) (pe_op (op_addK (K := K) rfl) (pe_op (op_addK (K := K) rfl) (pe_glob (v := k_PLAIN) rfl g.c_PLAIN ⟨_, rfl⟩) (pv 1)) pe_str))
      (pss_cons (ps_while PassesOwn.never (PW.pt (pw_and (PW.pt (pw_or (pt_cmpR op_isNU (pv 2) pe_non (nomark _)) (pw_or1 (pt_cmpR op_lt (pe_callB (call_lenK (K := K) rfl) rfl g.b_len PySem.boot_len (pa_cons (pv 3) pa_nil)) (pv 2) (nomark _))))) (pw_and1 (pt_val (pe_meth (pv 0) g.cl_Cursor g.me_Cursor_sees (ok_Cursor_sees g) (hr.mono (by decide)) g.b_Cursor_sees .nil pass0 (pa_cons (pv 4) pa_nil))))))
      (pss_one (ps_expr (pe_bmK (K := K) rfl PySem.F.plainAttrs_list PySem.F.slot_list_append PySem.F.type_list_append mt_append (pv 3) (pa_cons (pe_ifExp (pt_val (pe_meth (pv 0) g.cl_Cursor g.me_Cursor_passes (ok_Cursor_passes g) (hr.mono (by decide)) g.b_Cursor_passes .nil pass0 (pa_cons pe_str pa_nil))) (pe_call (ok_taken_pair g) (hr.mono (by decide)) rfl g.m_taken_pair g.F_taken_pair.kp g.b_taken_pair .nil pass0 (pa_cons (pv 0) pa_nil)) (pe_meth0 (pv 0) g.cl_Cursor g.me_Cursor_take (ok_Cursor_take g) (hr.mono (by decide)) g.b_Cursor_take .nil pass0)) pa_nil)))))
      (pss_one (ps_ret (pe_bmK (K := K) rfl PySem.F.plainAttrs_str PySem.F.slot_str_join PySem.F.type_str_join (mt_joinK (K := K) rfl) pe_str (pa_cons (pv 3) pa_nil))))))), ?_⟩
    have eP : k_PLAIN = .str ⟨plS.toArray⟩ := by
      show V.str (Str.ofString _) = _
      unfold plS; simp
    rw [eP]
    walk_at "rd"
    refine ⟨by decide, fun q hq => ⟨le_line (by rw [plS_len]; omega), le_line (by rw [List.length_append, plS_len]; omega), ?_⟩⟩
    have hqp : q ≠ p := by obtain ⟨dx, hp⟩ := hcur; exact (ne_of_none hp hq).symm
    refine while_W (fun m σ H' => ∃ (dn s' u w2 : List Nat), m = s'.length ∧ σ = [some (.ref p), some (.str ⟨fr.toArray⟩), some (moV mo), some (.ref q), some (.str ⟨(plS ++ fr ++ [126]).toArray⟩)] ∧ s = dn ++ s' ∧ w' = u ++ w2 ∧ WrT fr s' w2 ∧ H' q = some (.lst (dn.map one)) ∧ SameBut p H H' ∧ Cur H' g.C_Cursor p t (i + u.length)) s.length ⟨[], s, [], w', rfl, rfl, rfl, rfl, hw, upd_same, (same_new hq).but, ?_⟩ ?_
    · obtain ⟨dx, hp⟩ := hcur
      exact ⟨dx, by rw [upd_ne hqp.symm]; exact hp⟩
    rintro m σ H' ⟨dn, s', u, w2, rfl, rfl, es, ew, hw2, hq', sb, cur⟩
    have hd2 : t.drop (i + u.length) = w2 ++ r := by rw [← List.drop_drop, hd, ew, List.append_assoc, List.drop_left]
    have hdl : dn.length + s'.length = s.length := by rw [es, List.length_append]
    have hwl : i + w'.length ≤ t.length := by
      have := congrArg List.length hd
      rw [List.length_drop, List.length_append] at this
      omega
    have hk : i + u.length ≤ t.length := by rw [ew, List.length_append] at hwl; omega
    have hsl := wrt_len hw
    have hlen : (dn.map one).length < sizeLine := by
      rw [List.length_map]
      exact Nat.lt_of_le_of_lt (show dn.length ≤ 100000 by omega) (by decide)
    have fin : s' = [] → ∃ ys : List Str, SqL K H' q (ys.map V.str) ∧ (ys.map fun x => x.length).sum + ys.length * 0 ≤ 16777216 ∧ Q (V.str (Txt.join ⟨#[]⟩ ys)) H' := fun e => by
      subst e
      cases hw2
      rw [List.append_nil] at es ew
      refine ⟨dn.map fun c => ⟨[c].toArray⟩, SqL.of (by rw [hq', List.map_map]; rfl), ?_, ?_⟩
      · rw [sum_codes]
        simp only [List.length_map, Nat.mul_zero, Nat.add_zero]
        omega
      · rw [show (⟨#[]⟩ : Str) = ⟨([] : List Nat).toArray⟩ from rfl, join_one, flat_codes]
        rw [es, ew] at k
        exact k H' sb cur
    cases mo with
    | none =>
      walk_at "rd"
      rw [if_pos (show moV none = V.non from rfl)]
      cases hw2 with
      | nil =>
        have hn : ∀ c, t[i + u.length]? = some c → c ∉ plS ++ fr ++ [126] := fun c hc hin => by
          have hs0 : Stops fr r := hst.resolve_right (by simp)
          have hr : r.head? = some c := by rw [← hc, ← List.head?_drop, hd2]; rfl
          obtain ⟨z1, z2, z3⟩ := hs0 c hr
          have hlt := h128 c (List.mem_of_getElem? hc)
          rcases List.mem_append.mp hin with hin | hin
          · rcases List.mem_append.mp hin with hin | hin
            · rw [(plS_in hlt).mp hin] at z1; cases z1
            · exact z2 hin
          · exact z3 (List.mem_singleton.mp hin)
        have hb : seesB t (plS ++ fr ++ [126]) (i + u.length) = false := by
          cases hc : t[i + u.length]? with
          | none => exact seesB_none hc
          | some c => rw [seesB_some hc]; exact decide_eq_false (hn c hc)
        refine cur_meth cur ⟨p, t, _, i + u.length, rfl, cur, hk, hl, _, rfl, ?_⟩
        rw [hb, if_neg (by decide)]
        exact fin rfl
      | self hpl hne hw3 =>
        rename_i c s3 w3
        obtain ⟨hx, hlt⟩ := at_drop (show t.drop (i + u.length) = c :: (w3 ++ r) from hd2)
        have hc := h128 c (List.mem_of_getElem? hx)
        have hin : c ∈ plS ++ fr ++ [126] := List.mem_append.mpr (.inl (List.mem_append.mpr (hpl.imp (plS_in hc).mpr id)))
        refine cur_meth cur ⟨p, t, _, i + u.length, rfl, cur, hk, hl, _, rfl, ?_⟩
        rw [seesB_some hx, decide_eq_true hin, if_pos rfl]
        refine ⟨_, fun _ _ h => h, ⟨_, .of hq'⟩, cur_meth cur ⟨p, t, [126], i + u.length, rfl, cur, hk, hl, fun hp1 => ?_, fun _ => ⟨_, rfl, ?_⟩⟩⟩
        · rw [hd2] at hp1
          exact absurd (List.cons.inj hp1).1 hne
        rw [if_neg (by decide)]
        refine cur_meth cur ⟨p, t, i + u.length, c, rfl, cur, hx, hl, fun H1 s1 c1 => ⟨_, s1 _ _ hqp hq', hlen, s3.length, Nat.lt_succ_self _, dn ++ [c], s3, u ++ [c], w3, rfl, rfl, by rw [es, List.append_assoc]; rfl, by rw [ew, List.append_assoc]; rfl, hw3, ?_, ?_, ?_⟩⟩
        · rw [upd_same, List.map_append]; rfl
        · exact (sb.trans s1).upd hq
        · obtain ⟨dx, hpp⟩ := c1
          rw [List.length_append, List.length_singleton, ← Nat.add_assoc]
          exact ⟨dx, by rw [upd_ne hqp.symm]; exact hpp⟩
      | pair hsg hw3 =>
        rename_i c a b s3 w3
        obtain ⟨hx, hlt⟩ := at_drop (show t.drop (i + u.length) = 126 :: (a :: b :: (w3 ++ r)) from hd2)
        have hin : 126 ∈ plS ++ fr ++ [126] := List.mem_append.mpr (.inr (List.mem_singleton.mpr rfl))
        refine cur_meth cur ⟨p, t, _, i + u.length, rfl, cur, hk, hl, _, rfl, ?_⟩
        rw [seesB_some hx, decide_eq_true hin, if_pos rfl]
        refine ⟨_, fun _ _ h => h, ⟨_, .of hq'⟩, cur_meth cur ⟨p, t, [126], i + u.length, rfl, cur, hk, hl, fun _ H1 s1 c1 => ⟨_, rfl, ?_⟩, fun hp1 => ?_⟩⟩
        · rw [if_pos rfl]
          have hd3 : t.drop (i + u.length + 1) = a :: b :: (w3 ++ r) := by rw [← List.drop_drop, hd2]; rfl
          refine ⟨p, t, w3 ++ r, i + u.length + 1, a, b, c, rfl, c1, hd3, hsg, hl, fun H2 s2 c2 => ⟨_, (s1.trans s2) _ _ hqp hq', hlen, s3.length, Nat.lt_succ_self _, dn ++ [c], s3, u ++ [126, a, b], w3, rfl, rfl, by rw [es, List.append_assoc]; rfl, by rw [ew, List.append_assoc]; rfl, hw3, ?_, ?_, ?_⟩⟩
          · rw [upd_same, List.map_append]; rfl
          · exact ((sb.trans s1).trans s2).upd hq
          · obtain ⟨dx, hpp⟩ := c2
            rw [List.length_append, show [126, a, b].length = 3 from rfl, show i + (u.length + 3) = i + u.length + 1 + 2 by omega]
            exact ⟨dx, by rw [upd_ne hqp.symm]; exact hpp⟩
        · rw [hd2] at hp1
          exact absurd rfl hp1
    | some m =>
      have hm := hmo m rfl
      walk_at "rd"
      rw [if_neg (by intro z; cases z)]
      refine ⟨_, .inl (.of hq'), ?_⟩
      show rI0 (fun i j => V.bl (decide (i < j))) (V.int _) (V.int (m : Int)) H' _
      walk_at "rd"
      refine ite2 (fun hlt0 => ?_) (fun hge => ?_)
      · rw [List.length_map] at hlt0
        cases hw2 with
        | nil =>
          have hn : ∀ c, t[i + u.length]? = some c → c ∉ plS ++ fr ++ [126] := fun c hc hin => by
            have hs0 : Stops fr r := hst.resolve_right (fun z => by have := Option.some.inj z; simp at hdl; omega)
            have hr : r.head? = some c := by rw [← hc, ← List.head?_drop, hd2]; rfl
            obtain ⟨z1, z2, z3⟩ := hs0 c hr
            have hlt := h128 c (List.mem_of_getElem? hc)
            rcases List.mem_append.mp hin with hin | hin
            · rcases List.mem_append.mp hin with hin | hin
              · rw [(plS_in hlt).mp hin] at z1; cases z1
              · exact z2 hin
            · exact z3 (List.mem_singleton.mp hin)
          have hb : seesB t (plS ++ fr ++ [126]) (i + u.length) = false := by
            cases hc : t[i + u.length]? with
            | none => exact seesB_none hc
            | some c => rw [seesB_some hc]; exact decide_eq_false (hn c hc)
          refine cur_meth cur ⟨p, t, _, i + u.length, rfl, cur, hk, hl, _, rfl, ?_⟩
          rw [hb, if_neg (by decide)]
          exact fin rfl
        | self hpl hne hw3 =>
          rename_i c s3 w3
          obtain ⟨hx, hlt⟩ := at_drop (show t.drop (i + u.length) = c :: (w3 ++ r) from hd2)
          have hc := h128 c (List.mem_of_getElem? hx)
          have hin : c ∈ plS ++ fr ++ [126] := List.mem_append.mpr (.inl (List.mem_append.mpr (hpl.imp (plS_in hc).mpr id)))
          refine cur_meth cur ⟨p, t, _, i + u.length, rfl, cur, hk, hl, _, rfl, ?_⟩
          rw [seesB_some hx, decide_eq_true hin, if_pos rfl]
          refine ⟨_, fun _ _ h => h, ⟨_, .of hq'⟩, cur_meth cur ⟨p, t, [126], i + u.length, rfl, cur, hk, hl, fun hp1 => ?_, fun _ => ⟨_, rfl, ?_⟩⟩⟩
          · rw [hd2] at hp1
            exact absurd (List.cons.inj hp1).1 hne
          rw [if_neg (by decide)]
          refine cur_meth cur ⟨p, t, i + u.length, c, rfl, cur, hx, hl, fun H1 s1 c1 => ⟨_, s1 _ _ hqp hq', hlen, s3.length, Nat.lt_succ_self _, dn ++ [c], s3, u ++ [c], w3, rfl, rfl, by rw [es, List.append_assoc]; rfl, by rw [ew, List.append_assoc]; rfl, hw3, ?_, ?_, ?_⟩⟩
          · rw [upd_same, List.map_append]; rfl
          · exact (sb.trans s1).upd hq
          · obtain ⟨dx, hpp⟩ := c1
            rw [List.length_append, List.length_singleton, ← Nat.add_assoc]
            exact ⟨dx, by rw [upd_ne hqp.symm]; exact hpp⟩
        | pair hsg hw3 =>
          rename_i c a b s3 w3
          obtain ⟨hx, hlt⟩ := at_drop (show t.drop (i + u.length) = 126 :: (a :: b :: (w3 ++ r)) from hd2)
          have hin : 126 ∈ plS ++ fr ++ [126] := List.mem_append.mpr (.inr (List.mem_singleton.mpr rfl))
          refine cur_meth cur ⟨p, t, _, i + u.length, rfl, cur, hk, hl, _, rfl, ?_⟩
          rw [seesB_some hx, decide_eq_true hin, if_pos rfl]
          refine ⟨_, fun _ _ h => h, ⟨_, .of hq'⟩, cur_meth cur ⟨p, t, [126], i + u.length, rfl, cur, hk, hl, fun _ H1 s1 c1 => ⟨_, rfl, ?_⟩, fun hp1 => ?_⟩⟩
          · rw [if_pos rfl]
            have hd3 : t.drop (i + u.length + 1) = a :: b :: (w3 ++ r) := by rw [← List.drop_drop, hd2]; rfl
            refine ⟨p, t, w3 ++ r, i + u.length + 1, a, b, c, rfl, c1, hd3, hsg, hl, fun H2 s2 c2 => ⟨_, (s1.trans s2) _ _ hqp hq', hlen, s3.length, Nat.lt_succ_self _, dn ++ [c], s3, u ++ [126, a, b], w3, rfl, rfl, by rw [es, List.append_assoc]; rfl, by rw [ew, List.append_assoc]; rfl, hw3, ?_, ?_, ?_⟩⟩
            · rw [upd_same, List.map_append]; rfl
            · exact ((sb.trans s1).trans s2).upd hq
            · obtain ⟨dx, hpp⟩ := c2
              rw [List.length_append, show [126, a, b].length = 3 from rfl, show i + (u.length + 3) = i + u.length + 1 + 2 by omega]
              exact ⟨dx, by rw [upd_ne hqp.symm]; exact hpp⟩
          · rw [hd2] at hp1
            exact absurd rfl hp1
      · rw [List.length_map] at hge
        refine fin ?_
        cases s' with
        | nil => rfl
        | cons c s3 => simp only [List.length_cons] at hdl; omega
theorem ok__law_address (g : G K mg) : FnOk P w K mg base CX0 4 g.a__law_address g.fd__law_address ["_law_script", "_law_start"] (sp__law_address K) := by
  refine g.F__law_address.ok sc__law_address (fun vs H Q E h => ?_) (fun cdv A outer s H vs Q E hr h => ?_)
  · obtain ⟨a, ns, i, rfl, _⟩ := h; rfl
  · obtain ⟨a, ns, i, rfl, hS, k⟩ := h
    refine ⟨_, (pss_cons (ps_set (i := 2) sc__law_address.nd rfl (Or.inl rfl) (pe_call (ok__law_deck g) (hr.mono (by decide)) rfl g.m__law_deck g.F__law_deck.kp g.b__law_deck .nil pass0 (pa_cons (pe_call (ok__law_cell_at g) (hr.mono (by decide)) rfl g.m__law_cell_at g.F__law_cell_at.kp g.b__law_cell_at .nil pass0 (pa_cons (pv 0) (pa_cons (pv 1) pa_nil))) pa_nil)))
      (pss_cons (ps_set (i := 3) sc__law_address.nd rfl (Or.inl rfl) (pe_call (ok__law_scheme g) (hr.mono (by decide)) rfl g.m__law_scheme g.F__law_scheme.kp g.b__law_scheme .nil pass0 (pa_cons (pv 2) pa_nil)))
      (pss_cons (ps_set (i := 4) sc__law_address.nd rfl (Or.inl rfl) pe_non)
      (pss_cons (ps_set (i := 5) sc__law_address.nd rfl (Or.inl rfl) pe_non)
      (pss_cut (ps_if (pt_cmpR op_gt (pe_call (ok__law_draw g) (hr.mono (by decide)) rfl g.m__law_draw g.F__law_draw.kp g.b__law_draw .nil pass0 (pa_cons (pv 2) (pa_cons pe_int pa_nil))) pe_int (nomark _))
        (pss_cons (ps_set (i := 4) sc__law_address.nd rfl (Or.inl rfl) (pe_call (ok__law_some g) (hr.mono (by decide)) rfl g.m__law_some g.F__law_some.kp g.b__law_some .nil pass0 (pa_cons (pv 2) (pa_cons (pe_op (op_addK (K := K) rfl) pe_int (pe_ix (ix_seqK (K := K) rfl) (pe_lst (pa_cons (pe_call (ok__law_draw g) (hr.mono (by decide)) rfl g.m__law_draw g.F__law_draw.kp g.b__law_draw .nil pass0 (pa_cons (pv 2) (pa_cons pe_int pa_nil))) (pa_cons (pe_call (ok__law_draw g) (hr.mono (by decide)) rfl g.m__law_draw g.F__law_draw.kp g.b__law_draw .nil pass0 (pa_cons (pv 2) (pa_cons pe_int pa_nil))) pa_nil))) (pe_callTy call_intU rfl g.b_int bt_int (pa_cons (pe_cmpR op_eq (pe_call (ok__law_draw g) (hr.mono (by decide)) rfl g.m__law_draw g.F__law_draw.kp g.b__law_draw .nil pass0 (pa_cons (pv 2) (pa_cons pe_int pa_nil))) pe_int (nomark _)) pa_nil)) (fun _ _ => rfl))) pa_nil))))
      (pss_one (ps_set (i := 5) sc__law_address.nd rfl (Or.inl rfl) (pe_ix (ix_seqK (K := K) rfl) (pe_lst (pa_cons pe_non (pa_cons (pe_call (ok__law_draw g) (hr.mono (by decide)) rfl g.m__law_draw g.F__law_draw.kp g.b__law_draw .nil pass0 (pa_cons (pv 2) (pa_cons pe_int pa_nil))) (pa_cons (pe_call (ok__law_draw g) (hr.mono (by decide)) rfl g.m__law_draw g.F__law_draw.kp g.b__law_draw .nil pass0 (pa_cons (pv 2) (pa_cons pe_int pa_nil))) (pa_cons pe_int pa_nil))))) (pe_call (ok__law_draw g) (hr.mono (by decide)) rfl g.m__law_draw g.F__law_draw.kp g.b__law_draw .nil pass0 (pa_cons (pv 2) (pa_cons pe_int pa_nil))) (fun _ _ => rfl))))) pss_nil)
      (pss_cons (ps_set (i := 6) sc__law_address.nd rfl (Or.inl rfl) (pe_call (ok__law_steps g) (hr.mono (by decide)) rfl g.m__law_steps g.F__law_steps.kp g.b__law_steps .nil pass0 (pa_cons (pv 2) pa_nil)))
      (pss_cut (ps_set (i := 7) sc__law_address.nd rfl (Or.inl rfl) (pe_or (pe_cmpR op_ne (pv 3) pe_str (nomark _)) (pe_or (pe_cmpR op_notNU (pv 4) pe_non (nomark _)) (pe_one (pe_cmpR op_eq (pe_call (ok__law_draw g) (hr.mono (by decide)) rfl g.m__law_draw g.F__law_draw.kp g.b__law_draw .nil pass0 (pa_cons (pv 2) (pa_cons pe_int pa_nil))) pe_int (nomark _))))))
      (pss_cons (ps_set (i := 8) sc__law_address.nd rfl (Or.inl rfl) (pv 7))
      (pss_cut (ps_if (pt_cmpR (op_neD hr.units) (pv 6) (pe_tup pa_nil) (nomark _))
        (pss_one (ps_set (i := 8) sc__law_address.nd rfl (Or.inl rfl) (pe_cmpR op_eq (pe_call (ok__law_draw g) (hr.mono (by decide)) rfl g.m__law_draw g.F__law_draw.kp g.b__law_draw .nil pass0 (pa_cons (pv 2) (pa_cons pe_int pa_nil))) pe_int (nomark _)))) pss_nil)
      (pss_cons (ps_set (i := 9) sc__law_address.nd rfl (Or.inl rfl) (pe_call (ok__law_question g) (hr.mono (by decide)) rfl g.m__law_question g.F__law_question.kp g.b__law_question .nil pass0 (pa_cons (pv 2) pa_nil)))
      (pss_cons (ps_set (i := 10) sc__law_address.nd rfl (Or.inl rfl) pe_non)
      (pss_cut (ps_if (pt_cmpR op_gt (pe_call (ok__law_draw g) (hr.mono (by decide)) rfl g.m__law_draw g.F__law_draw.kp g.b__law_draw .nil pass0 (pa_cons (pv 2) (pa_cons pe_int pa_nil))) pe_int (nomark _))
        (pss_one (ps_set (i := 10) sc__law_address.nd rfl (Or.inl rfl) (pe_call (ok__law_some g) (hr.mono (by decide)) rfl g.m__law_some g.F__law_some.kp g.b__law_some .nil pass0 (pa_cons (pv 2) (pa_cons (pe_ix (ix_seqK (K := K) rfl) (pe_lst (pa_cons (pe_call (ok__law_draw g) (hr.mono (by decide)) rfl g.m__law_draw g.F__law_draw.kp g.b__law_draw .nil pass0 (pa_cons (pv 2) (pa_cons pe_int pa_nil))) (pa_cons (pe_call (ok__law_draw g) (hr.mono (by decide)) rfl g.m__law_draw g.F__law_draw.kp g.b__law_draw .nil pass0 (pa_cons (pv 2) (pa_cons pe_int pa_nil))) pa_nil))) (pe_callTy call_intU rfl g.b_int bt_int (pa_cons (pe_cmpR op_eq (pe_call (ok__law_draw g) (hr.mono (by decide)) rfl g.m__law_draw g.F__law_draw.kp g.b__law_draw .nil pass0 (pa_cons (pv 2) (pa_cons pe_int pa_nil))) pe_int (nomark _)) pa_nil)) (fun _ _ => rfl)) pa_nil))))) pss_nil)
      (pss_one (ps_ret (pe_tup (pa_cons (pv 3) (pa_cons (pv 4) (pa_cons (pv 5) (pa_cons (pe_tup (pa_cons (pv 7) (pa_cons (pv 6) (pa_cons (pv 8) pa_nil)))) (pa_cons (pv 9) (pa_cons (pv 10) pa_nil))))))))))))))))))))), ?_⟩
    walk_at "rd"
    refine ⟨a, ns, i, rfl, hS, _, rfl, fun p H1 hp s1 hd1 => ?_⟩
    refine ⟨p, 0, rfl, hd1, by decide, fun sch H2 hl hal hlet hd2 sb2 => ?_⟩
    have b2 : SameBut p H H2 := (Same.but s1).trans sb2
    clear hd1 sb2 s1
    walk_at "rd"
    refine ⟨fun σ H3 => ∃ (ho : Option (List Nat)) (dr : Option Int), σ = [some (.ref a), some (.int i), some (.ref p), some (.str ⟨sch.toArray⟩), some (otV ho), some (itV dr), none, none, none, none, none] ∧ (∀ l, ho = some l → 0 < l.length ∧ Tx 60 l) ∧ (∀ j, dr = some j → (0 ≤ j ∧ j ≤ 65535) ∧ ho ≠ none) ∧ Deck H3 p 300 ∧ SameBut p H H3, ?_, ?_⟩
    · refine ⟨p, 3, _, rfl, hd2, by omega, by decide, by decide, fun r3 H3 h30 h31 hd3 sb3 => ?_⟩
      walk_at "rd"
      refine ite2 (fun h3 => ?_) (fun h3 => ⟨none, none, ⟨rfl, rfl⟩, (fun _ z => by cases z), (fun _ z => by cases z), hd3.le (by omega), b2.trans sb3⟩)
      refine ⟨p, 6, _, rfl, hd3, by omega, by decide, by decide, fun r4 H4 h40 h41 hd4 sb4 => ?_⟩
      refine ⟨p, 60, _, rfl, hd4, by omega, by decide, by decide, fun r5 H5 h50 h51 hd5 sb5 => ?_⟩
      have b5 := ((b2.trans sb3).trans sb4).trans sb5
      refine ⟨by decide, fun q hq => ?_⟩
      refine ⟨p, 8, _, rfl, hd5.same (same_upd hq), by omega, by decide, by decide, fun r6 H6 h60 h61 hd6 sb6 => ?_⟩
      have hq6 := sb6 q _ (hd5.ne hq) upd_same
      have b6 : SameBut p H H6 := b5.trans ((Same.but (same_upd hq)).trans sb6)
      walk_at "rd"
      obtain ⟨m, hm, hm60⟩ : ∃ m : Nat, atI [V.int r4, V.int r5] (if r6 = 5 then 1 else 0) = some (.int m) ∧ m < 60 := by
        by_cases h : r6 = 5
        · exact ⟨r5.toNat, by rw [if_pos h, Int.toNat_of_nonneg h50]; exact atI_nat (j := 1) rfl, by omega⟩
        · exact ⟨r4.toNat, by rw [if_neg h, Int.toNat_of_nonneg h40]; exact atI_nat (j := 0) rfl, by omega⟩
      refine ⟨_, _, .inl (SqL.of hq6), hm, ?_⟩
      walk_at "rd"
      refine ⟨p, 1 + m, _, rfl, hd6, by omega, by omega, fun hou H7 hl7 hs7 hd7 sb7 => ?_⟩
      refine ⟨p, 65536, _, rfl, hd7, by omega, by decide, by decide, fun r8 H8 h80 h81 hd8 sb8 => ?_⟩
      refine ⟨p, 10, _, rfl, hd8, by omega, by decide, by decide, fun r9 H9 h90 h91 hd9 sb9 => ?_⟩
      have b9 := ((b6.trans sb7).trans sb8).trans sb9
      refine ⟨by decide, fun q2 hq2 => ?_⟩
      refine ⟨p, 4, _, rfl, hd9.same (same_upd hq2), by omega, by decide, by decide, fun r10 H10 h100 h101 hd10 sb10 => ?_⟩
      have hq10 := sb10 q2 _ (hd9.ne hq2) upd_same
      obtain ⟨dr, hdr, hdb⟩ : ∃ dr : Option Int, atI [V.non, V.int r8, V.int r9, V.int 65535] r10 = some (itV dr) ∧ ∀ j, dr = some j → 0 ≤ j ∧ j ≤ 65535 := by
        have h : r10 = ((0 : Nat) : Int) ∨ r10 = ((1 : Nat) : Int) ∨ r10 = ((2 : Nat) : Int) ∨ r10 = ((3 : Nat) : Int) := by omega
        rcases h with rfl | rfl | rfl | rfl
        · exact ⟨none, atI_nat rfl, fun _ z => by cases z⟩
        · exact ⟨some r8, atI_nat rfl, fun _ z => by cases z; omega⟩
        · exact ⟨some r9, atI_nat rfl, fun _ z => by cases z; omega⟩
        · exact ⟨some 65535, atI_nat rfl, fun _ z => by cases z; omega⟩
      refine rd_ixR.mpr ⟨_, _, .inl (SqL.of hq10), hdr, some hou, dr, ⟨rfl, rfl⟩, (fun l z => by cases z; exact ⟨by omega, by omega, hs7⟩), (fun j z => ⟨hdb j z, by intro w; cases w⟩), hd10.le (by omega), b9.trans ((Same.but (same_upd hq2)).trans sb10)⟩
    rintro σ H3 ⟨ho, dr, rfl, hho, hdr, hd3, b3⟩
    clear hd2 b2
    walk_at "rd"
    refine ⟨p, 300, rfl, hd3, by decide, fun ss v H4 hss hst hd4 sb4 it4 => ?_⟩
    have b4 := b3.trans sb4
    refine ⟨fun σ H5 => ∃ rt : Bool, σ = [some (.ref a), some (.int i), some (.ref p), some (.str ⟨sch.toArray⟩), some (otV ho), some (itV dr), some v, some (.bl rt), none, none, none] ∧ (sch ≠ [] ∨ ho ≠ none → rt = true) ∧ IsT H5 (.tuple (ss.map st)) v ∧ Deck H5 p 4301 ∧ SameBut p H H5, ?_, ?_⟩
    · refine ite2 (fun h1 => ⟨true, rfl, fun _ => rfl, it4, hd4.le (by omega), b4⟩) (fun h1 => ?_)
      have hsch : sch = [] := mk_nil.mp (by simpa using h1)
      refine ite2 (fun h2 => ⟨true, rfl, fun _ => rfl, it4, hd4.le (by omega), b4⟩) (fun h2 => ?_)
      have hho0 : ho = none := by
        cases ho with
        | none => rfl
        | some l => exact absurd (by intro z; cases z) h2
      refine ⟨p, 2, _, rfl, hd4, by omega, by decide, by decide, fun r5 H5 h50 h51 hd5 sb5 => ?_⟩
      walk_at "rd"
      exact ⟨fun z => absurd z (by rw [hsch, hho0]; simp), it4.mono (hd4.toT sb5), hd5.le (by omega), b4.trans sb5⟩
    rintro σ H5 ⟨rt, rfl, hrt, it5, hd5, b5⟩
    clear hd3 b3 sb4 hd4 it4 b4
    walk_at "rd"
    refine ⟨fun σ H6 => ∃ en : Bool, σ = [some (.ref a), some (.int i), some (.ref p), some (.str ⟨sch.toArray⟩), some (otV ho), some (itV dr), some v, some (.bl rt), some (.bl en), none, none] ∧ (ss = [] → en = rt) ∧ IsT H6 (.tuple (ss.map st)) v ∧ Deck H6 p 4302 ∧ SameBut p H H6, ?_, ?_⟩
    · refine ⟨by decide, fun q hq => ?_⟩
      have hqp := hd5.ne hq
      have it6 := it5.mono (sameT_new (o := .tup []) hq)
      have b6 : SameBut p H (upd H5 q (.tup [])) := b5.upd (b5.free hq hqp)
      refine ⟨_, .tuple [], it6.is, .tup upd_same .nil, shaped_steps fun l hl => (hst l hl).2.2, by decide +kernel, _, rfl, ?_⟩
      rw [eqv_nil]
      refine ite2 (fun h1 => ?_) (fun h1 => ⟨rt, rfl, fun _ => rfl, it6, (hd5.upd hqp).le (by omega), b6⟩)
      refine ⟨p, 2, _, rfl, hd5.upd hqp, by omega, by decide, by decide, fun r6 H6 h60 h61 hd6 sb6 => ?_⟩
      walk_at "rd"
      refine ⟨fun z => ?_, it6.mono ((hd5.upd hqp).toT sb6), hd6, b6.trans sb6⟩
      rw [z] at h1
      exact absurd h1 (by decide)
    rintro σ H6 ⟨en, rfl, hen, it6, hd6, b6⟩
    clear hd5 it5 b5
    walk_at "rd"
    refine ⟨p, 4302, rfl, hd6, by decide, fun qs vq H7 hqs hd7 sb7 it7 => ?_⟩
    have st7 := it6.mono (hd6.toT sb7)
    have b7 := b6.trans sb7
    walk_at "rd"
    refine ⟨fun σ H8 => ∃ mk : Option (List Nat), σ = [some (.ref a), some (.int i), some (.ref p), some (.str ⟨sch.toArray⟩), some (otV ho), some (itV dr), some v, some (.bl rt), some (.bl en), some vq, some (otV mk)] ∧ (∀ l, mk = some l → Tx 60 l) ∧ IsT H8 (.tuple (ss.map st)) v ∧ IsT H8 (qD qs) vq ∧ SameBut p H H8, ?_, ?_⟩
    · refine ⟨p, 3, _, rfl, hd7, by omega, by decide, by decide, fun r3 H3 h30 h31 hd3 sb3 => ?_⟩
      walk_at "rd"
      refine ite2 (fun h3 => ?_) (fun h3 => ⟨none, rfl, (fun _ z => by cases z), st7.mono (hd7.toT sb3), it7.mono (hd7.toT sb3), b7.trans sb3⟩)
      refine ⟨p, 7, _, rfl, hd3, by omega, by decide, by decide, fun r4 H4 h40 h41 hd4 sb4 => ?_⟩
      refine ⟨p, 61, _, rfl, hd4, by omega, by decide, by decide, fun r5 H5 h50 h51 hd5 sb5 => ?_⟩
      have b5 := ((b7.trans sb3).trans sb4).trans sb5
      have t5 := ((hd7.toT sb3).trans (hd3.toT sb4)).trans (hd4.toT sb5)
      refine ⟨by decide, fun q hq => ?_⟩
      refine ⟨p, 8, _, rfl, hd5.same (same_upd hq), by omega, by decide, by decide, fun r6 H8 h60 h61 hd8 sb8 => ?_⟩
      have hq6 := sb8 q _ (hd5.ne hq) upd_same
      have b8 : SameBut p H H8 := b5.trans ((Same.but (same_upd hq)).trans sb8)
      have t8 := t5.trans ((sameT_new hq).trans ((hd5.same (same_upd hq)).toT sb8))
      walk_at "rd"
      obtain ⟨m, hm, hm60⟩ : ∃ m : Nat, atI [V.int r4, V.int r5] (if r6 = 5 then 1 else 0) = some (.int m) ∧ m ≤ 60 := by
        by_cases h : r6 = 5
        · exact ⟨r5.toNat, by rw [if_pos h, Int.toNat_of_nonneg h50]; exact atI_nat (j := 1) rfl, by omega⟩
        · exact ⟨r4.toNat, by rw [if_neg h, Int.toNat_of_nonneg h40]; exact atI_nat (j := 0) rfl, by omega⟩
      refine ⟨_, _, .inl (SqL.of hq6), hm, p, m, _, rfl, hd8, by omega, by omega, fun l H9 hl9 hs9 hd9 sb9 => ?_⟩
      have t9 := t8.trans (hd8.toT sb9)
      exact ⟨some l, rfl, (fun l' z => by cases z; exact ⟨by omega, hs9⟩), st7.mono t9, it7.mono t9, b8.trans sb9⟩
    rintro σ H8 ⟨mk, rfl, hmk, it8, iq8, b8⟩
    walk_at "rd"
    refine ⟨by decide, fun w hw => ⟨by decide, fun z hz => ?_⟩⟩
    have s8 : Same H H8 := b8.same hp
    have s9 : Same H8 (upd (upd H8 w (.tup [.bl rt, v, .bl en])) z (.tup [.str ⟨sch.toArray⟩, otV ho, itV dr, .ref w, vq, otV mk])) := (same_upd hw).trans (same_upd hz)
    have hwz : w ≠ z := ne_of_none upd_same hz
    refine k ⟨sch, ho, dr, rt, ss, en, qs, mk⟩ _ _ ⟨⟨hl, hal, hlet⟩, hho, hdr, ⟨Nat.le_trans hss (by decide), hst⟩, hrt, hen, hqs, hmk⟩ (s8.trans s9) ?_
    refine .tup upd_same (.cons (.str _) (.cons (is_oD ho) (.cons (is_iD dr) (.cons (.tup (xs := [.bl rt, v, .bl en]) (by rw [upd_ne hwz, upd_same]) (.cons (.bl _) (.cons (it8.mono s9.toT) (.cons (.bl _) .nil)))) (.cons (iq8.mono s9.toT) (.cons (is_oD mk) .nil))))))
theorem ok__law_loose_question (g : G K mg) : FnOk P w K mg base CX0 4 g.a__law_loose_question g.fd__law_loose_question ["_law_question_here", "_law_cell"] (sp__law_loose_question K) := by
  refine g.F__law_loose_question.ok sc__law_loose_question (fun vs H Q E h => ?_) (fun cdv A outer s H vs Q E hr h => ?_)
  · obtain ⟨ps, v, i, rfl, _⟩ := h; rfl
  · obtain ⟨ps, v, i, rfl, hI, hl, hs, k⟩ := h
    refine ⟨_, (pss_cons (ps_set (i := 2) sc__law_loose_question.nd rfl (Or.inl rfl) (pe_lstS pa_nil))
      (pss_cons (ps_for PassesOwn.never rfl (pi_range1 rfl g.b_range (pa_cons (pe_callB (call_lenK (K := K) rfl) rfl g.b_len PySem.boot_len (pa_cons (pv 0) pa_nil)) pa_nil)) (pg_name (i := 3) sc__law_loose_question.nd rfl (Or.inl rfl))
      (pss_cons (ps_asg (pe_ix (ix_seqK (K := K) rfl) (pv 0) (pv 3) (fun _ _ => rfl)) (pg_tupK (n := 2) (K := K) rfl rfl (pgs_cons (pg_name (i := 4) sc__law_loose_question.nd rfl (Or.inl rfl)) (pgs_cons (pg_name (i := 5) sc__law_loose_question.nd rfl (Or.inl rfl)) pgs_nil))))
      (pss_cons (ps_set (i := 6) sc__law_loose_question.nd rfl (Or.inl rfl) (pe_call (ok__law_loose g) (hr.mono (by decide)) rfl g.m__law_loose g.F__law_loose.kp g.b__law_loose .nil pass0 (pa_cons (pv 4) (pa_cons pe_str (pa_cons (pe_op (op_addS (K := K)) (pv 1) (pe_op op_mulU pe_int (pv 3))) pa_nil)))))
      (pss_cut (ps_if (pt_cmpR op_notNU (pv 5) pe_non (nomark _))
        (pss_one (ps_set (i := 6) sc__law_loose_question.nd rfl (Or.inl rfl) (pe_op (op_addS (K := K)) (pe_op (op_addS (K := K)) (pv 6) pe_str) (pe_call (ok__law_loose g) (hr.mono (by decide)) rfl g.m__law_loose g.F__law_loose.kp g.b__law_loose .nil pass0 (pa_cons (pv 5) (pa_cons pe_str (pa_cons (pe_op (op_addS (K := K)) (pv 1) (pe_op op_mulU pe_int (pv 3))) pa_nil))))))) pss_nil)
      (pss_one (ps_expr (pe_bmK (K := K) rfl PySem.F.plainAttrs_list PySem.F.slot_list_append PySem.F.type_list_append mt_append (pv 2) (pa_cons (pv 6) pa_nil))))))))
      (pss_one (ps_ret (pe_op (op_addS (K := K)) pe_str (pe_bmK (K := K) rfl PySem.F.plainAttrs_str PySem.F.slot_str_join PySem.F.type_str_join (mt_joinK (K := K) rfl) pe_str (pa_cons (pv 2) pa_nil))))))), ?_⟩
    have eF : Str.ofString "!$'()*,;@+/?:" = ⟨frQ.toArray⟩ := by unfold frQ; simp
    have e1 : Str.ofString "=" = ⟨[61].toArray⟩ := by decide +kernel
    have e2 : Str.ofString "?" = ⟨[63].toArray⟩ := by decide +kernel
    have e3 : Str.ofString "&" = ⟨[38].toArray⟩ := by decide +kernel
    rw [eF, e1, e2, e3]
    obtain ⟨a, xs, rfl, ha, r4⟩ := isT_tup (show IsT H (.tuple (ps.map fun p => .tuple [st p.1, oD p.2])) v from hI)
    obtain ⟨hl4, hat⟩ := isTAll_at r4
    walk_at "rd"
    refine ⟨by decide, fun p H1 hp s1 e4 => ⟨xs, .inr (.of (s1 _ _ ha)), by omega, by omega, ?_⟩⟩
    rw [Int.toNat_natCast, hl4]
    refine loop_range (fun j σ H' => ∃ (ws : List (List Nat)) (v3 v4 v5 v6 : Option V), σ = [some (.ref a), some (.int i), some (.ref p), v3, v4, v5, v6] ∧ PrWs (ps.take j) ws ∧ (∀ w ∈ ws, w.length ≤ 60) ∧ Same H H' ∧ H' p = some (.lst (ws.map fun w => V.str ⟨w.toArray⟩))) ⟨[], none, none, none, none, rfl, .nil, by simp, s1, e4⟩ ?_ ?_
    · rintro j σ H' hj ⟨ws, v3, v4, v5, v6, rfl, hw, hwl, s2, e5⟩
      obtain ⟨pr, hpr⟩ : ∃ pr, ps[j]? = some pr := ⟨_, List.getElem?_eq_getElem hj⟩
      have hx : xs[j]? = some xs[j] := List.getElem?_eq_getElem (by omega)
      obtain ⟨pr', hpr', hI'⟩ := hat j _ hx
      generalize xs[j] = x at hx hI'
      rw [hpr] at hpr'
      cases hpr'
      obtain ⟨nm, vl⟩ := pr
      obtain ⟨q, y, z, rfl, hq, i1, i2⟩ := isT2 hI'
      cases isT_st i1
      cases isT_oD i2
      obtain ⟨hok, hln, hlv⟩ := hs _ (List.mem_of_getElem? hpr)
      have et : ps.take (j + 1) = ps.take j ++ [(nm, vl)] := by rw [List.take_add_one, hpr]; rfl
      have hwn := hw.length
      rw [List.length_take] at hwn
      have hI2 := s2 _ _ ha
      have hq2 := s2 _ _ hq
      dsimp only at hq2 hln hlv
      have fin : ∀ (w : List Nat), PrW (nm, vl) w → w.length ≤ 60 → ∃ xs, H' p = some (.lst xs) ∧ xs.length < sizeLine ∧ ∃ (ws' : List (List Nat)) (v3 v4 v5 v6 : Option V), (some (V.int (0 + (j : Int))) = v3 ∧ some (V.str ⟨nm.toArray⟩) = v4 ∧ some (otV vl) = v5 ∧ some (V.str ⟨w.toArray⟩) = v6) ∧ PrWs (ps.take (j + 1)) ws' ∧ (∀ w ∈ ws', w.length ≤ 60) ∧ Same H (upd H' p (.lst (xs ++ [.str ⟨w.toArray⟩]))) ∧ upd H' p (.lst (xs ++ [.str ⟨w.toArray⟩])) p = some (.lst (ws'.map fun w => V.str ⟨w.toArray⟩)) := fun w hpw hwl' => by
        refine ⟨_, e5, by rw [List.length_map, hwn]; exact Nat.lt_of_le_of_lt (show min j ps.length ≤ 20 by omega) (by decide), ws ++ [w], _, _, _, _, ⟨rfl, rfl, rfl, rfl⟩, by rw [et]; exact hw.snoc hpw, fun e he => ?_, fun b o e => by rw [upd_ne (ne_of_none e hp)]; exact s2 _ _ e, by rw [upd_same, List.map_append]; rfl⟩
        rcases List.mem_append.mp he with z | z
        · exact hwl e z
        · rw [List.mem_singleton.mp z]; exact hwl'
      walk_at "rd"
      refine ⟨xs, _, .inr (.of hI2), by rw [Int.zero_add]; exact atI_nat hx, q, _, rfl, .of hq2, rfl, _, _, rfl, _, _, rfl, rfl, .inl ⟨by decide, by decide⟩, nm, frQ, _, rfl, by omega, hok.1.2, frQ_len, frQ_ok.1, fun w1 hw1 hl1 => ?_⟩
      refine ⟨fun σ H2 => H2 = H' ∧ ∃ w, PrW (nm, vl) w ∧ w.length ≤ 60 ∧ σ = [some (.ref a), some (.int i), some (.ref p), some (.int (0 + (j : Int))), some (.str ⟨nm.toArray⟩), some (otV vl), some (.str ⟨w.toArray⟩)], ?_, ?_⟩
      · cases vl with
        | none =>
          rw [if_neg (by simp [otV])]
          exact ⟨rfl, w1, ⟨w1, [], by simp, hw1, rfl⟩, by omega, rfl⟩
        | some l =>
          have hll := hlv l rfl
          rw [if_pos (by simp [otV])]
          walk_at "rd"
          refine ⟨le_line (by omega), .inl ⟨by decide, by decide⟩, l, frQ, _, rfl, by omega, hok.2 l rfl, frQ_len, frQ_ok.1, fun w2 hw2 hl2 => ?_⟩
          walk_at "rd"
          refine ⟨le_line (by simp; omega), w1 ++ [61] ++ w2, ⟨w1, 61 :: w2, by simp, hw1, w2, rfl, hw2⟩, by simp; omega, rfl⟩
      rintro σ H2 ⟨rfl, w, hpw, hwl', rfl⟩
      walk_at "rd"
      exact ⟨⟨_, .of e5⟩, fin w hpw hwl'⟩
    · rintro σ H' ⟨ws, v3, v4, v5, v6, rfl, hw, hwl, s2, e5⟩
      walk_at "rd"
      rw [List.take_length] at hw
      have hj := join_len (sep := 38) ws
      have hb := join_bound (sep := 38) hwl
      have hwn := hw.length
      have hjl : (joinT 38 ws).length ≤ 1220 := Nat.le_trans hb (by rw [hwn]; exact Nat.mul_le_mul hl (Nat.le_refl _))
      refine ⟨ws.map fun w => ⟨w.toArray⟩, SqL.of (by rw [e5, List.map_map]; rfl), ?_, ?_⟩
      · simp only [List.map_map, Function.comp_def, mk_len, List.length_map] at hj ⊢
        omega
      · rw [show (⟨#[38]⟩ : Str) = ⟨[38].toArray⟩ from rfl, join_sep]
        refine ⟨le_line (by rw [mk_len]; omega), ?_⟩
        have := k ws H' hw hwl s2
        rw [show (⟨#[63]⟩ : Str) ++ ⟨(joinT 38 ws).toArray⟩ = ⟨(63 :: joinT 38 ws).toArray⟩ by rw [show (⟨#[63]⟩ : Str) = ⟨[63].toArray⟩ from rfl, mk_app]; rfl]
        exact this
theorem ok_is_way (g : G K mg) : FnOk P w K mg base CX0 5 g.a_is_way g.fd_is_way ["thing"] sp_is_way := by
  refine g.F_is_way.ok sc_is_way (fun vs H Q E h => ?_) (fun cdv A outer s H vs Q E hr h => ?_)
  · obtain ⟨d, v, rfl, _⟩ := h; rfl
  · obtain ⟨d, v, rfl, hv, hs, k⟩ := h
    refine ⟨_, (pss_cons (ps_if (pt_not (pt_val (pe_call (ok_is_tuple g) (hr.mono (by decide)) rfl g.m_is_tuple g.F_is_tuple.kp g.b_is_tuple .nil pass0 (pa_cons (pv 0) (pa_cons pe_int pa_nil)))))
        (pss_one (ps_ret pe_bl)) pss_nil)
      (pss_cons (ps_if (pt_not (PW.pt (pw_and (pt_val (pe_callB call_isiU rfl g.b_isinstance boot_isinstance (pa_cons (pe_ix (ix_seqK (K := K) rfl) (pv 0) (pe_glob (v := k_ROOTED) rfl g.c_ROOTED ⟨_, rfl⟩) (fun _ _ => rfl)) (pa_cons (pe_bltn (v := .ty "bool") rfl g.b_bool bt_bool rfl) pa_nil)))) (pw_and (pt_val (pe_call (ok_is_steps g) (hr.mono (by decide)) rfl g.m_is_steps g.F_is_steps.kp g.b_is_steps .nil pass0 (pa_cons (pe_ix (ix_seqK (K := K) rfl) (pv 0) (pe_glob (v := k_STEPS) rfl g.c_STEPS ⟨_, rfl⟩) (fun _ _ => rfl)) pa_nil))) (pw_and1 (pt_val (pe_callB call_isiU rfl g.b_isinstance boot_isinstance (pa_cons (pe_ix (ix_seqK (K := K) rfl) (pv 0) (pe_glob (v := k_ENDS) rfl g.c_ENDS ⟨_, rfl⟩) (fun _ _ => rfl)) (pa_cons (pe_bltn (v := .ty "bool") rfl g.b_bool bt_bool rfl) pa_nil)))))))))
        (pss_one (ps_ret pe_bl)) pss_nil)
      (pss_one (ps_ret (pe_or (pe_cmpR op_gt (pe_callB (call_lenK (K := K) rfl) rfl g.b_len PySem.boot_len (pa_cons (pe_ix (ix_seqK (K := K) rfl) (pv 0) (pe_glob (v := k_STEPS) rfl g.c_STEPS ⟨_, rfl⟩) (fun _ _ => rfl)) pa_nil)) pe_int (nomark _)) (pe_one (pe_cmpR op_eq (pe_ix (ix_seqK (K := K) rfl) (pv 0) (pe_glob (v := k_ROOTED) rfl g.c_ROOTED ⟨_, rfl⟩) (fun _ _ => rfl)) (pe_ix (ix_seqK (K := K) rfl) (pv 0) (pe_glob (v := k_ENDS) rfl g.c_ENDS ⟨_, rfl⟩) (fun _ _ => rfl)) (nomark _)))))))), ?_⟩
    walk_at "rd"
    refine ⟨d, v, 3, rfl, hv, ?_⟩
    walk_at "rd"
    refine ite2 (fun h => ?_) (fun h => ?_)
    · have k1 := k H (Same.refl _)
      rw [wayD_no (by rw [h]; decide)] at k1
      exact k1
    obtain ⟨a, b, c, rfl⟩ := tup3 ((Bool.not_eq_false _).mp h)
    have hs2 := (small_tup hs).2
    have sb : smallD b = true := smallAll_mem hs2 (by simp)
    cases hv with
    | @tup p xs ds hp r =>
      obtain ⟨x0, x1, x2, rfl, h0, h1, h2⟩ := isAll3 r
      walk_at "rd"
      refine ⟨_, x0, .inr (SqT.of hp), atI_nat (j := 0) rfl, _, h0.kind, ?_⟩
      rw [sub_isB]
      refine ite2 (fun ha => ?_) (fun ha => ?_)
      rotate_left
      · have k1 := k H (Same.refl _)
        rw [wayD_eq, (Bool.not_eq_true _).mp ha, Bool.false_and] at k1
        exact k1
      refine ⟨_, x1, .inr (SqT.of hp), atI_nat (j := 1) rfl, b, x1, rfl, h1, sb, fun H1 s1 => ?_⟩
      walk_at "rd"
      refine ite2 (fun hb => ?_) (fun hb => ?_)
      rotate_left
      · have k1 := k H1 s1
        rw [wayD_eq, (Bool.not_eq_true _).mp hb, Bool.false_and, Bool.and_false] at k1
        exact k1
      refine ⟨_, x2, .inr (SqT.of (s1 _ _ hp)), atI_nat (j := 2) rfl, _, (h2.mono s1).kind, ?_⟩
      rw [sub_isB]
      refine ite2 (fun hc => ?_) (fun hc => ?_)
      · have k1 := k H1 s1
        rw [wayD_eq, hc, Bool.false_and, Bool.and_false, Bool.and_false] at k1
        exact k1
      have hc := (Bool.not_eq_false _).mp hc
      obtain ⟨r0, rfl⟩ := isB_shape ha
      obtain ⟨bs, rfl⟩ := stpD_shape hb
      obtain ⟨e0, rfl⟩ := isB_shape hc
      have k1 := k H1 s1
      rw [wayD_eq, ha, hb, hc, Bool.true_and, Bool.true_and, Bool.true_and] at k1
      dsimp only at k1
      cases h0
      cases h2
      cases h1 with
      | @tup q ys _ hq rq =>
        refine ⟨_, _, .inr (SqT.of (s1 _ _ hp)), atI_nat (j := 1) rfl, ?_⟩
        walk_at "rd"
        refine ⟨_, .inr (SqT.of (s1 _ _ hq)), ?_⟩
        rw [← rq.length]
        refine ite2 (fun h3 => ?_) (fun h3 => ?_)
        · rw [decide_eq_true (show 0 < bs.length by omega), Bool.true_or] at k1
          exact k1
        · rw [decide_eq_false (show ¬ 0 < bs.length by omega), Bool.false_or] at k1
          refine ⟨_, _, .inr (SqT.of (s1 _ _ hp)), atI_nat (j := 0) rfl, ⟨_, _, .inr (SqT.of (s1 _ _ hp)), atI_nat (j := 2) rfl, ?_⟩⟩
          walk_at "rd"
          exact k1
theorem ok_is_question (g : G K mg) : FnOk P w K mg base CX0 5 g.a_is_question g.fd_is_question ["thing"] sp_is_question := by
  refine g.F_is_question.ok sc_is_question (fun vs H Q E h => ?_) (fun cdv A outer s H vs Q E hr h => ?_)
  · obtain ⟨d, v, rfl, _⟩ := h; rfl
  · obtain ⟨d, v, rfl, hv, hs, k⟩ := h
    refine ⟨_, (pss_one (ps_ret (pe_or (pe_cmpR op_isNU (pv 0) pe_non (nomark _)) (pe_one (pe_and (pe_callB call_isiU rfl g.b_isinstance boot_isinstance (pa_cons (pv 0) (pa_cons (pe_bltn (v := .ty "tuple") rfl g.b_tuple bt_tuple rfl) pa_nil))) (pe_one (pe_callB (call_allK (K := K) rfl rfl) rfl g.b_all PyProof.Rows.boot_all (pa_cons (pe_comp (fx := []) (fr := []) rfl rfl (by decide +kernel) rfl (by decide +kernel) rfl (by decide +kernel) rfl .nil rfl (pi_tupK (K := K) rfl (pv 0)) (fun _ _ _ => pf_nil) (fun _ _ _ => (pe_call (ok_is_asked g) (hr.mono (by decide)) rfl g.m_is_asked g.F_is_asked.kp g.b_is_asked .nil pass0 (pa_cons (pv 0) pa_nil)))) pa_nil)))))))), ?_⟩
    cases hv with
    | lst hp r => walk_at "rd"; simp only [kind_lst hp]; walk_at "rd"; exact k H (Same.refl _)
    | @tup p xs ds hp r =>
      walk_at "rd"; simp only [kind_tup hp]; walk_at "rd"
      refine ⟨⟨_, SqT.of hp⟩, fun q hq => ?_⟩
      refine comp_tupZ (zs := ds.map fun d => .bl (askD d)) (SqT.of hp) (by rw [← r.length]; exact le_line (small_tup hs).1) hq (by rw [List.length_map]; exact r.length) (fun i x z hx hz H' T sm hT => ?_) (fun H' sm hq' => ?_)
      · obtain ⟨d, hd, hi⟩ := r.at i x hx
        rw [List.getElem?_map, hd] at hz
        cases hz
        walk_at "rd"
        exact ⟨d, x, rfl, hi.mono sm, smallAll_mem (small_tup hs).2 (List.mem_of_getElem? hd), fun H'' s => hT H'' s⟩
      · refine all_ref.mpr ⟨ds.map askD, SqL.of (by rw [hq', List.map_map]; rfl), ?_⟩
        rw [List.all_map]
        exact k H' sm
    | _ => walk_at "rd"; exact k H (Same.refl _)
theorem ok_show (g : G K mg) : FnOk P w K mg base CX0 5 g.a_show g.fd_show ["address"] (sp_show K) := by
  refine g.F_show.ok sc_show (fun vs H Q E h => ?_) (fun cdv A outer s H vs Q E hr h => ?_)
  · obtain ⟨x, v, rfl, _⟩ := h; rfl
  · obtain ⟨x, v, rfl, hI, wf, sz, k⟩ := h
    refine ⟨_, (pss_cut (ps_set (i := 1) sc_show.nd rfl (Or.inl rfl) (pe_ifExp (pt_val (pe_call (ok_is_whole g) (hr.mono (by decide)) rfl g.m_is_whole g.F_is_whole.kp g.b_is_whole .nil pass0 (pa_cons (pv 0) pa_nil))) (pe_op (op_addK (K := K) rfl) (pe_ix (ix_seqK (K := K) rfl) (pv 0) (pe_glob (v := k_SCHEME) rfl g.c_SCHEME ⟨_, rfl⟩) (fun _ _ => rfl)) pe_str) pe_str))
      (pss_one (ps_ret (pe_op (op_addK (K := K) rfl) (pe_op (op_addK (K := K) rfl) (pe_op (op_addK (K := K) rfl) (pe_op (op_addK (K := K) rfl) (pv 1) (pe_call (ok_shown_house g) (hr.mono (by decide)) rfl g.m_shown_house g.F_shown_house.kp g.b_shown_house .nil pass0 (pa_cons (pe_ix (ix_seqK (K := K) rfl) (pv 0) (pe_glob (v := k_HOUSE) rfl g.c_HOUSE ⟨_, rfl⟩) (fun _ _ => rfl)) (pa_cons (pe_ix (ix_seqK (K := K) rfl) (pv 0) (pe_glob (v := k_DOOR) rfl g.c_DOOR ⟨_, rfl⟩) (fun _ _ => rfl)) pa_nil)))) (pe_call (ok_shown_way g) (hr.mono (by decide)) rfl g.m_shown_way g.F_shown_way.kp g.b_shown_way .nil pass0 (pa_cons (pe_ix (ix_seqK (K := K) rfl) (pv 0) (pe_glob (v := k_WAY) rfl g.c_WAY ⟨_, rfl⟩) (fun _ _ => rfl)) pa_nil))) (pe_call (ok_shown_question g) (hr.mono (by decide)) rfl g.m_shown_question g.F_shown_question.kp g.b_shown_question .nil pass0 (pa_cons (pe_ix (ix_seqK (K := K) rfl) (pv 0) (pe_glob (v := k_QUESTION) rfl g.c_QUESTION ⟨_, rfl⟩) (fun _ _ => rfl)) pa_nil))) (pe_call (ok_shown_mark g) (hr.mono (by decide)) rfl g.m_shown_mark g.F_shown_mark.kp g.b_shown_mark .nil pass0 (pa_cons (pe_ix (ix_seqK (K := K) rfl) (pv 0) (pe_glob (v := k_MARK) rfl g.c_MARK ⟨_, rfl⟩) (fun _ _ => rfl)) pa_nil)))))), ?_⟩
    obtain ⟨p, w, q, rfl, hp, hwk, i4⟩ := isK_ad hI
    obtain ⟨pw, ps, rfl, hw, hs⟩ := isK_way hwk
    have hlen := sz.all
    rw [Ad.shw] at hlen
    simp only [List.length_append] at hlen
    have c1 : Str.ofString ":" = ⟨[58].toArray⟩ := by decide +kernel
    rw [c1]
    walk_at "rd"
    refine ⟨fun σ H' => H' = H ∧ σ = [some (.ref p), some (.str ⟨(schT x.scheme).toArray⟩)], ?_, ?_⟩
    · refine ⟨p, x.scheme, _, rfl, hp, _, rfl, ?_⟩
      by_cases hh : x.scheme = []
      · refine ite2 (fun z => absurd hh (by simpa using z)) (fun _ => ⟨rfl, ?_⟩)
        rw [hh]; rfl
      · refine ite2 (fun _ => ?_) (fun z => absurd hh (by simpa using z))
        have e : schT x.scheme = x.scheme ++ [58] := by simp [schT, hh]
        refine ⟨_, _, .inr hp, rfl, ?_⟩
        rw [show (⟨#[58]⟩ : Str) = ⟨[58].toArray⟩ from rfl]
        walk_at "rd"
        rw [e, List.length_append] at hlen
        refine ⟨le_line (by simp at hlen ⊢; omega), ?_⟩
        rw [e]
    rintro σ H' ⟨rfl, rfl⟩
    walk_at "rd"
    refine ⟨_, _, .inr hp, rfl, _, _, .inr hp, rfl, x.house, x.door, rfl, fun l e => ⟨(wf.hou l e).1.2, (wf.hou l e).2⟩, wf.doo, fun H1 s1 => ?_⟩
    walk_at "rd"
    refine ⟨le_line (by simp; omega), _, _, .inr (s1.tup hp), rfl, x.rooted, x.ends, x.steps, pw, ps, rfl, s1.tup hw, s1.tup hs, fun s h => ⟨sz.stp s h, (wf.stp s h).2⟩, sz.num, by show x.wayT.length ≤ 90000; omega, fun H2 s2 => ?_⟩
    walk_at "rd"
    refine ⟨le_line (by show _ + x.wayT.length ≤ _; simp; omega), _, _, .inr ((s1.trans s2).tup hp), rfl, x.quest, q, rfl, i4.mono (s1.trans s2), fun ps e => ⟨(sz.que ps e).1, fun q hq => ⟨wf.que ps e q hq, (sz.que ps e).2 q hq⟩⟩, by omega, fun H3 s3 => ?_⟩
    walk_at "rd"
    refine ⟨le_line (by show _ + (queT x.quest).length ≤ _; simp [Ad.wayT] at hlen ⊢; omega), _, _, .inr (((s1.trans s2).trans s3).tup hp), rfl, x.mark, rfl, fun l e => ⟨sz.mar l e, wf.mar l e⟩, fun H4 s4 => ?_⟩
    walk_at "rd"
    refine ⟨le_line (by simp [Ad.wayT] at hlen ⊢; omega), ?_⟩
    have := k H4 (((s1.trans s2).trans s3).trans s4)
    rw [Ad.shw] at this
    simpa [Ad.wayT] using this
theorem ok_taken_way (g : G K mg) : FnOk P w K mg base CX0 5 g.a_taken_way g.fd_taken_way ["cursor", "must_be_rooted"] (sp_taken_way K g.C_Cursor) := by
  refine g.F_taken_way.ok sc_taken_way (fun vs H Q E h => ?_) (fun cdv A outer s H vs Q E hr h => ?_)
  · obtain ⟨p, t, v, rest, i, must, r, ro, ss, e, rfl, _⟩ := h; rfl
  · obtain ⟨p, t, v, rest, i, must, r, ro, ss, e, rfl, hcur, hi, hl, h128, hd, hw, hwc, hst, h47, k⟩ := h
    refine ⟨_, (pss_cut (ps_set (i := 2) sc_taken_way.nd rfl (Or.inl rfl) (pe_meth (pv 0) g.cl_Cursor g.me_Cursor_passes (ok_Cursor_passes g) (hr.mono (by decide)) g.b_Cursor_passes .nil pass0 (pa_cons pe_str pa_nil)))
      (pss_cut (ps_if (PW.pt (pw_and (pt_val (pv 1)) (pw_and1 (pt_not (pt_val (pv 2))))))
        (pss_one (ps_ret (pe_tupS (pa_cons pe_bl (pa_cons (pe_tupS pa_nil) (pa_cons pe_bl pa_nil)))))) pss_nil)
      (pss_cons (ps_set (i := 3) sc_taken_way.nd rfl (Or.inl rfl) (pe_lstS pa_nil))
      (pss_cons (ps_set (i := 4) sc_taken_way.nd rfl (Or.inl rfl) (pv 2))
      (pss_cut (ps_set (i := 5) sc_taken_way.nd rfl (Or.inl rfl) (pe_call (dvs := [.non]) (ok_taken_text g) (hr.mono (by decide)) rfl g.m_taken_text g.F_taken_text.kp g.bd_taken_text (.cons rfl .nil) pass0 (pa_cons (pv 0) (pa_cons (pe_glob (v := k_FREE_IN_STEPS) rfl g.c_FREE_IN_STEPS ⟨_, rfl⟩) pa_nil))))
      (pss_cons (ps_while PassesOwn.never (pt_cmpR op_ne (pv 5) pe_str (nomark _))
      (pss_cons (ps_expr (pe_bmK (K := K) rfl PySem.F.plainAttrs_list PySem.F.slot_list_append PySem.F.type_list_append mt_append (pv 3) (pa_cons (pv 5) pa_nil)))
      (pss_cons (ps_set (i := 4) sc_taken_way.nd rfl (Or.inl rfl) (pe_meth (pv 0) g.cl_Cursor g.me_Cursor_passes (ok_Cursor_passes g) (hr.mono (by decide)) g.b_Cursor_passes .nil pass0 (pa_cons pe_str pa_nil)))
      (pss_one (ps_set (i := 5) sc_taken_way.nd rfl (Or.inl rfl) (pe_call (dvs := [.non]) (ok_taken_text g) (hr.mono (by decide)) rfl g.m_taken_text g.F_taken_text.kp g.bd_taken_text (.cons rfl .nil) pass0 (pa_cons (pv 0) (pa_cons (pe_glob (v := k_FREE_IN_STEPS) rfl g.c_FREE_IN_STEPS ⟨_, rfl⟩) pa_nil))))))))
      (pss_one (ps_ret (pe_tupS (pa_cons (pv 2) (pa_cons (pe_callTy (call_tupleS (K := K) rfl) rfl g.b_tuple bt_tuple (pa_cons (pv 3) pa_nil)) (pa_cons (pv 4) pa_nil)))))))))))), ?_⟩
    have eF : k_FREE_IN_STEPS = .str ⟨frS.toArray⟩ := by
      show V.str (Str.ofString _) = _
      unfold frS; simp
    have e1 : Str.ofString "/" = ⟨[47].toArray⟩ := by decide +kernel
    rw [eF, e1]
    walk_at "rd"
    refine ⟨fun σ H1 => SameBut p H H1 ∧ ∃ j, σ = [some (.ref p), some (.bl must), some (.bl r), none, none, none] ∧ Cur H1 g.C_Cursor p t j ∧ j ≤ t.length ∧ t.drop j = v ++ rest, ?_, ?_⟩
    · cases r with
      | true => exact cur_meth hcur (pass_yes (w := [47]) hcur hi hl hd fun H1 s1 c1 hi1 hd1 => ⟨s1, _, rfl, c1, hi1, hd1⟩)
      | false => exact cur_meth hcur (pass_no1 hcur hi hl (show t.drop i = v ++ rest from hd) (stp_no47 hw h47) ⟨SameBut.refl _ _, i, rfl, hcur, hi, hd⟩)
    rintro σ H1 ⟨s1, j, rfl, c1, hj, hdj⟩
    walk_at "rd"
    refine ⟨fun σ H2 => H2 = H1 ∧ σ = [some (.ref p), some (.bl must), some (.bl r), none, none, none] ∧ r = ro ∧ (ss = [] → e = r), ?_, ?_⟩
    · rcases hwc with ⟨h1, he, hmr⟩ | ⟨h1, h2, h3, h4, h5⟩
      · by_cases hm : must = true
        · rw [if_pos hm, if_neg (by rw [hmr hm]; decide)]
          exact ⟨rfl, rfl, h1, he⟩
        · rw [if_neg hm]
          exact ⟨rfl, rfl, h1, he⟩
      · subst h1 h2 h3 h4 h5
        rw [if_pos rfl, if_pos rfl]
        refine ⟨by decide, fun pt Ha na sa hpt => ⟨by decide, fun pw Hb nb sb' hpw => k _ Hb ((s1.trans sa.but).trans sb'.but) ?_ (wayT' (ss := []) hpw (sb' _ _ hpt))⟩⟩
        cases hw
        have := congrArg List.length hdj
        rw [List.length_drop, List.nil_append] at this
        rw [show t.length - rest.length = j by omega]
        exact (c1.same sa).same sb'
    rintro σ H2 ⟨rfl, rfl, hro, he⟩
    walk_at "rd"
    refine ⟨by decide, fun q H3 hq s3 hq3 => ?_⟩
    have hqp : q ≠ p := by obtain ⟨dx, hp⟩ := c1; exact (ne_of_none hp hq).symm
    have c3 := c1.same s3
    have sb3 : SameBut p H H3 := s1.trans s3.but
    have hqH : H q = none := s1.free hq hqp
    have hssl : ss.length ≤ t.length := by
      have h1 := stpW_len hw
      have h2 := congrArg List.length hdj
      rw [List.length_drop, List.length_append] at h2
      omega
    obtain ⟨W, hW⟩ : ∃ W : Nat → St → Hp → Prop, W = fun m σ H' => (∃ (dn : List (List Nat)) (s : List Nat) (ss' : List (List Nat)) (v' : List Nat) (j' : Nat) (en : Bool), m = ss'.length + 1 ∧ σ = [some (.ref p), some (.bl must), some (.bl r), some (.ref q), some (.bl en), some (.str ⟨s.toArray⟩)] ∧ s ≠ [] ∧ ss = dn ++ s :: ss' ∧ TlW ss' e v' ∧ Cur H' g.C_Cursor p t j' ∧ j' ≤ t.length ∧ t.drop j' = v' ++ rest ∧ H' q = some (.lst (dn.map sV)) ∧ SameBut p H H')
        ∨ (m = 0 ∧ σ = [some (.ref p), some (.bl must), some (.bl r), some (.ref q), some (.bl e), some (.str ⟨#[]⟩)] ∧ H' q = some (.lst (ss.map sV)) ∧ SameBut p H H' ∧ Cur H' g.C_Cursor p t (t.length - rest.length)) := ⟨_, rfl⟩
    have rl : ∀ {j'' : Nat} {v'' : List Nat}, t.drop j'' = v'' ++ rest → j'' + v''.length = t.length - rest.length ∨ t.length < j'' := fun {j'' v''} h => by
      have := congrArg List.length h
      rw [List.length_drop, List.length_append] at this
      omega
    refine ⟨fun σ H4 => ∃ m, W m σ H4, ?_, ?_⟩
    · cases hw with
      | none =>
        refine ⟨p, t, frS, [], [], rest, j, none, rfl, c3, hj, hl, h128, frS_len, hdj, .nil, .inl hst, (fun m z => by cases z), fun H4 s4 c4 => ⟨0, ?_⟩⟩
        rw [hW]
        refine .inr ⟨rfl, by rw [he rfl], s4 _ _ hqp hq3, sb3.trans s4, ?_⟩
        rcases rl (v'' := []) hdj with z | z
        · rw [← z]; exact c4
        · omega
      | some hws hs htl =>
        rename_i s w0 ss0 v0
        refine ⟨p, t, frS, s, w0, v0 ++ rest, j, none, rfl, c3, hj, hl, h128, frS_len, by rw [hdj, List.append_assoc], hws, .inl (tl_stops htl hst), (fun m z => by cases z), fun H4 s4 c4 => ⟨ss0.length + 1, ?_⟩⟩
        rw [hW]
        refine .inl ⟨[], s, ss0, v0, j + w0.length, r, rfl, rfl, hs, rfl, htl, c4, ?_, ?_, s4 _ _ hqp hq3, sb3.trans s4⟩
        · have := congrArg List.length hdj
          rw [List.length_drop, List.length_append, List.length_append] at this
          omega
        · rw [← List.drop_drop, hdj, List.append_assoc, List.drop_left]
    rintro σ H4 ⟨m, hm⟩
    unfold L2.Later
    rw [L2.rd_seq]
    refine while_W W m hm ?_
    rintro m σ H5 hm
    rw [hW] at hm
    rcases hm with ⟨dn, s, ss', v', j', en, rfl, rfl, hs, ess, htl, c5, hj5, hd5, hq5, sb5⟩ | ⟨rfl, rfl, hq5, sb5, c5⟩
    · walk_at "rd"
      refine ite2 (fun _ => ⟨_, fun _ _ h => h, ⟨_, .of hq5⟩, _, hq5, ?_, ?_⟩) (fun z => absurd (mk_nil.mp (Classical.not_not.mp z)) hs)
      · have := congrArg List.length ess
        rw [List.length_append, List.length_cons] at this
        rw [List.length_map]
        exact Nat.lt_of_le_of_lt (show dn.length ≤ 100000 by omega) (by decide)
      have c6 : Cur (upd H5 q (.lst (dn.map sV ++ [sV s]))) g.C_Cursor p t j' := by
        obtain ⟨dx, hp⟩ := c5
        exact ⟨dx, by rw [upd_ne hqp.symm]; exact hp⟩
      have sb6 : SameBut p H (upd H5 q (.lst (dn.map sV ++ [sV s]))) := sb5.upd hqH
      have hq6 : (upd H5 q (.lst (dn.map sV ++ [sV s]))) q = some (.lst ((dn ++ [s]).map sV)) := by rw [upd_same, List.map_append]; rfl
      generalize upd H5 q (.lst (dn.map sV ++ [sV s])) = H6 at c6 sb6 hq6 ⊢
      cases htl with
      | stop =>
        refine cur_meth c6 (pass_no1 c6 hj5 hl hd5 h47 ?_)
        refine ⟨p, t, frS, [], [], rest, j', none, rfl, c6, hj5, hl, h128, frS_len, hd5, .nil, .inl hst, (fun m z => by cases z), fun H7 s7 c7 => ⟨0, by omega, ?_⟩⟩
        rw [hW]
        refine .inr ⟨rfl, rfl, by rw [ess]; exact s7 _ _ hqp hq6, sb6.trans s7, ?_⟩
        rcases rl (v'' := []) hd5 with z | z
        · rw [← z]; exact c7
        · omega
      | ends =>
        refine cur_meth c6 (pass_yes (w := [47]) (r := rest) c6 hj5 hl hd5 fun H7 s7 c7 hi7 hd7 => ?_)
        refine ⟨p, t, frS, [], [], rest, _, none, rfl, c7, hi7, hl, h128, frS_len, hd7, .nil, .inl hst, (fun m z => by cases z), fun H8 s8 c8 => ⟨0, by omega, ?_⟩⟩
        rw [hW]
        refine .inr ⟨rfl, rfl, by rw [ess]; exact (s7.trans s8) _ _ hqp hq6, (sb6.trans s7).trans s8, ?_⟩
        rcases rl (v'' := []) hd7 with z | z
        · rw [← z]; exact c8
        · omega
      | more hws hs2 htl2 =>
        rename_i s2 w2 ss2 v2
        refine cur_meth c6 (pass_yes (w := [47]) (r := (w2 ++ v2) ++ rest) c6 hj5 hl hd5 fun H7 s7 c7 hi7 hd7 => ?_)
        refine ⟨p, t, frS, s2, w2, v2 ++ rest, _, none, rfl, c7, hi7, hl, h128, frS_len, by rw [hd7, List.append_assoc], hws, .inl (tl_stops htl2 hst), (fun m z => by cases z), fun H8 s8 c8 => ⟨ss2.length + 1, by simp only [List.length_cons]; omega, ?_⟩⟩
        rw [hW]
        refine .inl ⟨dn ++ [s], s2, ss2, v2, _, true, rfl, rfl, hs2, by rw [ess, List.append_assoc]; rfl, htl2, c8, ?_, ?_, (s7.trans s8) _ _ hqp hq6, (sb6.trans s7).trans s8⟩
        · have := congrArg List.length hd7
          rw [List.length_drop, List.length_append, List.length_append] at this
          omega
        · rw [← List.drop_drop, hd7, List.append_assoc, List.drop_left]
    · walk_at "rd"
      exact ⟨_, .inl (.of hq5), fun pt Ha sa hpt => ⟨by decide, fun pw Hb nb sb' hpw => k _ Hb ((sb5.trans sa.but).trans sb'.but) ((c5.same sa).same sb') (by rw [← hro]; exact wayT' hpw (sb' _ _ hpt))⟩⟩
theorem ok_taken_value (g : G K mg) : FnOk P w K mg base CX0 5 g.a_taken_value g.fd_taken_value ["cursor"] (sp_taken_value K g.C_Cursor) := by
  refine g.F_taken_value.ok sc_taken_value (fun vs H Q E h => ?_) (fun cdv A outer s H vs Q E hr h => ?_)
  · obtain ⟨p, t, w, r, i, o, rfl, _⟩ := h; rfl
  · obtain ⟨p, t, w', r, i, o, rfl, hcur, hi, hl, h128, hd, hw, hst, hh, k⟩ := h
    refine ⟨_, (pss_one (ps_ret (pe_ifExp (pt_val (pe_meth (pv 0) g.cl_Cursor g.me_Cursor_passes (ok_Cursor_passes g) (hr.mono (by decide)) g.b_Cursor_passes .nil pass0 (pa_cons pe_str pa_nil))) (pe_call (dvs := [.non]) (ok_taken_text g) (hr.mono (by decide)) rfl g.m_taken_text g.F_taken_text.kp g.bd_taken_text (.cons rfl .nil) pass0 (pa_cons (pv 0) (pa_cons (pe_glob (v := k_FREE_IN_QUESTIONS) rfl g.c_FREE_IN_QUESTIONS ⟨_, rfl⟩) pa_nil))) pe_non))), ?_⟩
    have eF : k_FREE_IN_QUESTIONS = .str ⟨frQ.toArray⟩ := by
      show V.str (Str.ofString _) = _
      unfold frQ; simp
    have e1 : Str.ofString "=" = ⟨[61].toArray⟩ := by decide +kernel
    rw [eF, e1]
    walk_at "rd"
    cases o with
    | none =>
      have hw : w' = [] := hw
      subst hw
      refine cur_meth hcur (pass_no1 hcur hi hl hd (by simpa using hh) ⟨_, rfl, ?_⟩)
      rw [if_neg (by decide)]
      exact k H (SameBut.refl _ _) hcur
    | some s =>
      obtain ⟨v, rfl, hv⟩ := hw
      refine cur_meth hcur (pass_yes (w := [61]) (r := v ++ r) hcur hi hl hd fun H1 s1 c1 hi1 hd1 => ⟨_, rfl, ?_⟩)
      rw [if_pos rfl]
      refine ⟨p, t, frQ, s, v, r, _, none, rfl, c1, hi1, hl, h128, frQ_len, hd1, hv, .inl hst, (fun m z => by cases z), fun H2 s2 c2 => k H2 (s1.trans s2) ?_⟩
      rw [List.length_cons, show i + (v.length + 1) = i + [61].length + v.length by simp only [List.length_singleton]; omega]
      exact c2
theorem ok_taken_mark (g : G K mg) : FnOk P w K mg base CX0 5 g.a_taken_mark g.fd_taken_mark ["cursor"] (sp_taken_mark K g.C_Cursor) := by
  refine g.F_taken_mark.ok sc_taken_mark (fun vs H Q E h => ?_) (fun cdv A outer s H vs Q E hr h => ?_)
  · obtain ⟨p, t, w, i, o, rfl, _⟩ := h; rfl
  · obtain ⟨p, t, w', i, o, rfl, hcur, hi, hl, h128, hd, hw, k⟩ := h
    refine ⟨_, (pss_one (ps_ret (pe_ifExp (pt_val (pe_meth (pv 0) g.cl_Cursor g.me_Cursor_passes (ok_Cursor_passes g) (hr.mono (by decide)) g.b_Cursor_passes .nil pass0 (pa_cons pe_str pa_nil))) (pe_call (dvs := [.non]) (ok_taken_text g) (hr.mono (by decide)) rfl g.m_taken_text g.F_taken_text.kp g.bd_taken_text (.cons rfl .nil) pass0 (pa_cons (pv 0) (pa_cons (pe_glob (v := k_FREE_IN_MARKS) rfl g.c_FREE_IN_MARKS ⟨_, rfl⟩) pa_nil))) pe_non))), ?_⟩
    have eF : k_FREE_IN_MARKS = .str ⟨frM.toArray⟩ := by
      show V.str (Str.ofString _) = _
      unfold frM; simp
    have e1 : Str.ofString "#" = ⟨[35].toArray⟩ := by decide +kernel
    rw [eF, e1]
    walk_at "rd"
    cases o with
    | none =>
      have hw : w' = [] := hw
      refine cur_meth hcur (pass_no1 hcur hi hl hd (by rw [hw]; simp) ⟨_, rfl, ?_⟩)
      rw [if_neg (by decide)]
      have e : i = t.length := by have := congrArg List.length hd; rw [List.length_drop, hw, List.length_nil] at this; omega
      exact k H (SameBut.refl _ _) (e ▸ hcur)
    | some s =>
      obtain ⟨v, rfl, hv⟩ := hw
      refine cur_meth hcur (pass_yes (r := v) hcur hi hl hd fun H1 s1 c1 hi1 hd1 => ⟨_, rfl, ?_⟩)
      rw [if_pos rfl]
      refine ⟨p, t, frM, s, v, [], _, none, rfl, c1, hi1, hl, h128, frM_len, by rw [hd1, List.append_nil], hv, .inl stops_nil, (fun m z => by cases z), fun H2 s2 c2 => k H2 (s1.trans s2) ?_⟩
      have e : i + [35].length + v.length = t.length := by have := congrArg List.length hd1; rw [List.length_drop] at this; omega
      rw [e] at c2
      exact c2
theorem ok_taken_filled_text (g : G K mg) : FnOk P w K mg base CX0 5 g.a_taken_filled_text g.fd_taken_filled_text ["cursor", "free", "most"] (sp_taken_filled_text K g.C_Cursor) := by
  refine g.F_taken_filled_text.ok sc_taken_filled_text (fun vs H Q E h => ?_) (fun cdv A outer s H vs Q E hr h => ?_)
  · obtain ⟨p, t, fr, s, w, r, i, mo, rfl, _⟩ := h; rfl
  · obtain ⟨p, t, fr, s, w', r, i, mo, rfl, hcur, hi, hl, h128, hfl, hd, hw, hne, hst, hmo, k⟩ := h
    refine ⟨_, (pss_cons (ps_set (i := 3) sc_taken_filled_text.nd rfl (Or.inl rfl) (pe_call (ok_taken_text g) (hr.mono (by decide)) rfl g.m_taken_text g.F_taken_text.kp g.b_taken_text .nil pass0 (pa_cons (pv 0) (pa_cons (pv 1) (pa_cons (pv 2) pa_nil)))))
      (pss_cons (ps_if (pt_cmpR op_eq (pv 3) pe_str (nomark _))
        (pss_one ps_never) pss_nil)
      (pss_one (ps_ret (pv 3))))), ?_⟩
    walk_at "rd"
    refine ⟨p, t, fr, s, w', r, i, mo, rfl, hcur, hi, hl, h128, hfl, hd, hw, hst, hmo, fun H1 s1 c1 => ?_⟩
    walk_at "rd"
    rw [if_neg (fun z => hne (mk_nil.mp z))]
    exact k H1 s1 c1
theorem ok__law_loosely (g : G K mg) : FnOk P w K mg base CX0 5 g.a__law_loosely g.fd__law_loosely ["_law_address_here", "_law_cell"] (sp__law_loosely K) := by
  refine g.F__law_loosely.ok sc__law_loosely (fun vs H Q E h => ?_) (fun cdv A outer s H vs Q E hr h => ?_)
  · obtain ⟨x, v, i, rfl, _⟩ := h; rfl
  · obtain ⟨x, v, i, rfl, hI, ok, k⟩ := h
    refine ⟨_, (pss_cons (ps_asg (pv 0) (pg_tupK (n := 6) (K := K) rfl rfl (pgs_cons (pg_name (i := 2) sc__law_loosely.nd rfl (Or.inl rfl)) (pgs_cons (pg_name (i := 3) sc__law_loosely.nd rfl (Or.inl rfl)) (pgs_cons (pg_name (i := 4) sc__law_loosely.nd rfl (Or.inl rfl)) (pgs_cons (pg_name (i := 5) sc__law_loosely.nd rfl (Or.inl rfl)) (pgs_cons (pg_name (i := 6) sc__law_loosely.nd rfl (Or.inl rfl)) (pgs_cons (pg_name (i := 7) sc__law_loosely.nd rfl (Or.inl rfl)) pgs_nil))))))))
      (pss_cons (ps_set (i := 8) sc__law_loosely.nd rfl (Or.inl rfl) pe_str)
      (pss_cut (ps_if (pt_cmpR op_ne (pv 2) pe_str (nomark _))
        (pss_one (ps_set (i := 8) sc__law_loosely.nd rfl (Or.inl rfl) (pe_op (op_addS (K := K)) (pv 2) pe_str))) pss_nil)
      (pss_cut (ps_if (pt_cmpR op_notNU (pv 3) pe_non (nomark _))
        (pss_one (ps_set (i := 8) sc__law_loosely.nd rfl (Or.inl rfl) (pe_op (op_addS (K := K)) (pe_op (op_addS (K := K)) (pv 8) pe_str) (pe_call (ok__law_loose g) (hr.mono (by decide)) rfl g.m__law_loose g.F__law_loose.kp g.b__law_loose .nil pass0 (pa_cons (pv 3) (pa_cons pe_str (pa_cons (pv 1) pa_nil))))))) pss_nil)
      (pss_cut (ps_if (pt_cmpR op_notNU (pv 4) pe_non (nomark _))
        (pss_one (ps_set (i := 8) sc__law_loosely.nd rfl (Or.inl rfl) (pe_op (op_addS (K := K)) (pe_op (op_addS (K := K)) (pv 8) pe_str) (pe_callTy call_str_int rfl g.b_str bt_str (pa_cons (pv 4) pa_nil))))) pss_nil)
      (pss_cut (ps_set (i := 9) sc__law_loosely.nd rfl (Or.inl rfl) (pe_and (pe_cmpR op_ne (pv 8) pe_str (nomark _)) (pe_and (pe_cmpR (op_eqD hr.units) (pe_ix (ix_seqK (K := K) rfl) (pv 5) pe_int (fun _ _ => rfl)) (pe_tupS pa_nil) (nomark _)) (pe_one (pe_cmpR op_eq (pe_op op_mod (pv 1) pe_int) pe_int (nomark _))))))
      (pss_cut (ps_if (PW.pt (pw_and (pt_val (pe_ix (ix_seqK (K := K) rfl) (pv 5) pe_int (fun _ _ => rfl))) (pw_and1 (pt_not (pt_val (pv 9))))))
        (pss_one (ps_set (i := 8) sc__law_loosely.nd rfl (Or.inl rfl) (pe_op (op_addS (K := K)) (pv 8) pe_str))) pss_nil)
      (pss_cons (ps_set (i := 10) sc__law_loosely.nd rfl (Or.inr rfl) (pe_ix (ix_seqK (K := K) rfl) (pv 5) pe_int (fun _ _ => rfl)))
      (pss_cut (ps_set (i := 8) sc__law_loosely.nd rfl (Or.inl rfl) (pe_op (op_addS (K := K)) (pv 8) (pe_bmK (K := K) rfl PySem.F.plainAttrs_str PySem.F.slot_str_join PySem.F.type_str_join (mt_joinK (K := K) rfl) pe_str (pa_cons (pe_comp (fx := ["_law_steps_here", "_law_cell"]) (fr := [10, 1]) rfl rfl (by decide +kernel) rfl (by decide +kernel) rfl (by decide +kernel) rfl (.cons rfl rfl rfl rfl (.cons rfl rfl rfl rfl .nil)) rfl (pi_range1 rfl g.b_range (pa_cons (pe_callB (call_lenK (K := K) rfl) rfl g.b_len PySem.boot_len (pa_cons (pv 10) pa_nil)) pa_nil)) (fun _ _ _ => pf_nil) (fun _ _ _ => (pe_call (ok__law_loose g) (hr.mono (by decide)) rfl g.m__law_loose g.F__law_loose.kp g.b__law_loose .nil pass0 (pa_cons (pe_ix (ix_seqK (K := K) rfl) (pv 1) (pv 0) (fun _ _ => rfl)) (pa_cons pe_str (pa_cons (pe_op (op_addS (K := K)) (pv 2) (pe_op op_mulU pe_int (pv 0))) pa_nil)))))) pa_nil))))
      (pss_cut (ps_if (PW.pt (pw_and (pt_val (pe_ix (ix_seqK (K := K) rfl) (pv 5) pe_int (fun _ _ => rfl))) (pw_and1 (pt_cmpR (op_neD hr.units) (pv 10) (pe_tupS pa_nil) (nomark _)))))
        (pss_one (ps_set (i := 8) sc__law_loosely.nd rfl (Or.inl rfl) (pe_op (op_addS (K := K)) (pv 8) pe_str))) pss_nil)
      (pss_cut (ps_if (pt_cmpR op_notNU (pv 6) pe_non (nomark _))
        (pss_one (ps_set (i := 8) sc__law_loosely.nd rfl (Or.inl rfl) (pe_op (op_addS (K := K)) (pv 8) (pe_call (ok__law_loose_question g) (hr.mono (by decide)) rfl g.m__law_loose_question g.F__law_loose_question.kp g.b__law_loose_question .nil pass0 (pa_cons (pv 6) (pa_cons (pv 1) pa_nil)))))) pss_nil)
      (pss_cut (ps_if (pt_cmpR op_notNU (pv 7) pe_non (nomark _))
        (pss_one (ps_set (i := 8) sc__law_loosely.nd rfl (Or.inl rfl) (pe_op (op_addS (K := K)) (pe_op (op_addS (K := K)) (pv 8) pe_str) (pe_call (ok__law_loose g) (hr.mono (by decide)) rfl g.m__law_loose g.F__law_loose.kp g.b__law_loose .nil pass0 (pa_cons (pv 7) (pa_cons pe_str (pa_cons (pv 1) pa_nil))))))) pss_nil)
      (pss_one (ps_ret (pv 8))))))))))))))), ?_⟩
    have c1 : Str.ofString ":" = ⟨[58].toArray⟩ := by decide +kernel
    have c2 : Str.ofString "//" = ⟨[47, 47].toArray⟩ := by decide +kernel
    have c3 : Str.ofString "/" = ⟨[47].toArray⟩ := by decide +kernel
    have c4 : Str.ofString "#" = ⟨[35].toArray⟩ := by decide +kernel
    have eS : Str.ofString "!$'()*,;@&=+" = ⟨frS.toArray⟩ := by unfold frS; simp
    have eM : Str.ofString "!$'()*,;@&=+/?:" = ⟨frM.toArray⟩ := by unfold frM; simp
    rw [c1, c2, c3, c4, eS, eM]
    have wf := ok.wf
    obtain ⟨px, w, vq, rfl, hpx, hwx, hqx⟩ := isT_ad hI
    obtain ⟨pw, ps, rfl, hpw, hps⟩ := isT_way (r := x.rooted) (e := x.ends) (ss := x.steps) hwx
    have sl : (schT x.scheme).length ≤ 9 := by
      unfold schT
      split
      · simp
      · have := wf.sch.1; simp only [List.length_append, List.length_cons, List.length_nil]; omega
    walk_at "rd"
    refine ⟨px, _, rfl, .of hpx, rfl, _, _, rfl, _, _, rfl, _, _, rfl, _, _, rfl, _, _, rfl, _, _, rfl, rfl, ?_⟩
    obtain ⟨S, hSS⟩ : ∃ S : List Nat → Option V → Option V → St, S = fun t l z => [some (.ref px), some (.int i), some (.str ⟨x.scheme.toArray⟩), some (otV x.house), some (itV x.door), some (.ref pw), some vq, some (otV x.mark), some (.str ⟨t.toArray⟩), l, z] := ⟨_, rfl⟩
    refine ⟨fun σ H1 => H1 = H ∧ σ = S (schT x.scheme) none none, ?_, ?_⟩
    · rw [hSS]
      walk_at "rd"
      by_cases hh : x.scheme = []
      · rw [hh]
        refine ite2 (fun z => absurd rfl z) (fun _ => ?_)
        simp [schT]
      · refine ite2 (fun _ => ?_) (fun z => absurd (mk_nil.mp (by simpa using z)) hh)
        have e : schT x.scheme = x.scheme ++ [58] := by simp [schT, hh]
        rw [e, List.length_append] at sl
        refine ⟨le_line (by simp at sl ⊢; omega), ?_⟩
        rw [e]
    rintro σ H1 ⟨rfl, e1⟩
    rw [hSS] at e1
    subst e1
    walk_at "rd"
    refine ⟨fun σ H2 => H2 = H1 ∧ ∃ h, HouW x.house h ∧ h.length ≤ 182 ∧ σ = S (schT x.scheme ++ h) none none, ?_, ?_⟩
    · rw [hSS]
      cases hh : x.house with
      | none => exact ite2 (fun z => absurd rfl z) (fun _ => ⟨rfl, [], rfl, by decide, by simp⟩)
      | some l =>
        refine ite2 (fun _ => ?_) (fun z => absurd (Classical.not_not.mp z) (by simp [otV]))
        have hl := wf.hou l hh
        walk_at "rd"
        refine ⟨le_line (by omega), l, [], i, rfl, by omega, hl.2, by decide, by decide, fun a ha hal => ?_⟩
        walk_at "rd"
        exact ⟨le_line (by simp; omega), 47 :: 47 :: a, ⟨a, rfl, ha, fun z => by rw [z] at hl; exact absurd hl.1.1 (by decide), hl.1.2⟩, by simp; omega, by simp⟩
    rintro σ H2 ⟨rfl, h, hH, hhl, e2⟩
    rw [hSS] at e2
    subst e2
    walk_at "rd"
    refine ⟨fun σ H3 => H3 = H2 ∧ σ = S (schT x.scheme ++ h ++ dooT x.door) none none, ?_, ?_⟩
    · rw [hSS]
      cases hh : x.door with
      | none => exact ite2 (fun z => absurd rfl z) (fun _ => ⟨rfl, by simp [dooT]⟩)
      | some n =>
        refine ite2 (fun _ => ?_) (fun z => absurd (Classical.not_not.mp z) (by simp [itV]))
        have hi := (wf.doo n hh).1
        have hdl := dg_len hi.1 hi.2
        refine ⟨le_line (by simp; omega), n, rfl, lg hi.1 hi.2, le_line (by rw [dg_str, mk_len]; simp; omega), rfl, ?_⟩
        rw [dg_str, mk_app]
        simp [dooT]
    rintro σ H3 ⟨rfl, e3⟩
    rw [hSS] at e3
    subst e3
    have t3l : (schT x.scheme ++ h ++ dooT x.door).length ≤ 300 := by
      have : (dooT x.door).length ≤ 7 := by
        cases hh : x.door with
        | none => simp [dooT]
        | some n =>
          have hi := (wf.doo n hh).1
          have hdl := dg_len hi.1 hi.2
          simp only [dooT, List.length_cons]
          omega
      simp only [List.length_append]
      omega
    have t3n : ¬ (schT x.scheme ++ h ++ dooT x.door = []) → x.scheme ≠ [] ∨ x.house ≠ none := fun z => by
      by_cases hs : x.scheme = []
      · refine .inr fun hh => z ?_
        rw [hh] at hH
        have hH : h = [] := hH
        cases hd : x.door with
        | some n => exact absurd hh (wf.doo n hd).2
        | none => rw [hs, hH]; rfl
      · exact .inl hs
    generalize et3 : schT x.scheme ++ h ++ dooT x.door = t3 at t3l t3n ⊢
    walk_at "rd"
    refine ⟨fun σ H4 => Same H3 H4 ∧ ∃ lb : Bool, (lb = true → (x.scheme ≠ [] ∨ x.house ≠ none) ∧ x.steps = []) ∧ σ = S t3 (some (.bl lb)) none, ?_, ?_⟩
    · rw [hSS]
      refine ite2 (fun hn => ?_) (fun _ => ⟨Same.refl _, false, (fun z => by cases z), rfl⟩)
      refine ⟨_, _, .inr (.of hpw), rfl, by decide, fun p4 H4 n4 s4 e4 => ?_⟩
      refine ⟨.tuple (x.steps.map st), .tuple [], .tup (s4 _ _ hps) (isAll_sV _), .tup e4 .nil, shaped_steps (fun l hl => (wf.stp l hl).2), by decide, _, rfl, ?_⟩
      rw [eqv_nil]
      refine ite2 (fun hc => ⟨by decide, s4, _, fun _ => ⟨t3n fun z => hn (by rw [z]), ?_⟩, rfl⟩) (fun hc => ⟨s4, false, (fun z => by cases z), rfl⟩)
      cases hs : x.steps with
      | nil => rfl
      | cons a b => rw [hs] at hc; cases hc
    rintro σ H4 ⟨s4, lb, hlb, e4⟩
    rw [hSS] at e4
    subst e4
    walk_at "rd"
    refine ⟨fun σ H5 => H5 = H4 ∧ σ = S (t3 ++ if x.rooted && !lb then [47] else []) (some (.bl lb)) none, ?_, ?_⟩
    · rw [hSS]
      refine ⟨_, _, .inr (.of (s4 _ _ hpw)), rfl, _, rfl, ?_⟩
      cases x.rooted with
      | false => exact ite2 (fun z => by cases z) (fun _ => ⟨rfl, by simp⟩)
      | true =>
        refine ite2 (fun _ => ?_) (fun z => absurd rfl z)
        cases lb with
        | false => exact ite2 (fun _ => ⟨le_line (by omega), rfl, by simp⟩) (fun z => absurd rfl z)
        | true => exact ite2 (fun z => by cases z) (fun _ => ⟨rfl, by simp⟩)
    rintro σ H5 ⟨rfl, e5⟩
    rw [hSS] at e5
    subst e5
    generalize et4 : (t3 ++ if x.rooted && !lb then [47] else []) = t4
    have t4l : t4.length ≤ 301 := by
      rw [← et4, List.length_append]
      have : (if x.rooted && !lb then [47] else [] : List Nat).length ≤ 1 := by split <;> simp
      omega
    have hsn := ok.stp.1
    walk_at "rd"
    refine ⟨_, _, .inr (.of (s4 _ _ hpw)), rfl, ?_⟩
    refine ⟨fun σ H6 => Same H5 H6 ∧ ∃ ws, StWs x.steps ws ∧ (∀ w ∈ ws, w.length ≤ 180) ∧ σ = S (t4 ++ joinT 47 ws) (some (.bl lb)) (some (.ref ps)), ?_, ?_⟩
    · rw [hSS]
      have hpsn := s4 _ _ hps
      refine ⟨_, .inr (.of hpsn), _, rfl, by rw [List.length_map]; omega, by rw [List.length_map]; omega, fun pc nc => ?_⟩
      rw [Int.toNat_natCast, List.length_map]
      refine comp_rangeJ (fun j ys H6 => Same H5 H6 ∧ ∃ ws, ys = ws.map (fun w => V.str ⟨w.toArray⟩) ∧ StWs (x.steps.take j) ws ∧ (∀ w ∈ ws, w.length ≤ 180)) (le_line (by omega)) ⟨same_new nc, [], rfl, .nil, by simp⟩ (fun j ys H6 T hj hJ e6 hT => ?_) (fun ys H6 hJ e6 => ?_)
      · obtain ⟨s6, ws, rfl, hw, hwl⟩ := hJ
        obtain ⟨s, hs⟩ : ∃ s, x.steps[j]? = some s := ⟨_, List.getElem?_eq_getElem hj⟩
        have hsm := List.mem_of_getElem? hs
        have hok := ok.stp.2 s hsm
        walk_at "rd"
        refine ⟨_, .str ⟨s.toArray⟩, .inr (.of (s6 _ _ hpsn)), by rw [Int.zero_add]; exact atI_map _ hs, ?_⟩
        refine ⟨.inl ⟨by decide, by decide⟩, s, frS, _, rfl, by have := hok.2.1; omega, hok.2.2, frS_len, frS_ok.1, fun w hw1 hwl1 => hT _ _ e6 ⟨same_over nc s6, ws ++ [w], by rw [List.map_append]; rfl, ?_, fun e he => ?_⟩⟩
        · rw [List.take_add_one, hs]
          exact hw.snoc hw1
        · rcases List.mem_append.mp he with z | z
          · exact hwl e z
          · rw [List.mem_singleton.mp z]
            have := hok.2.1
            omega
      · obtain ⟨s6, ws, rfl, hw, hwl⟩ := hJ
        rw [List.take_length] at hw
        have hj := join_len (sep := 47) ws
        have hb := join_bound (sep := 47) hwl
        have hwn := hw.length
        have hjl : (joinT 47 ws).length ≤ 50 * 181 := Nat.le_trans hb (by rw [hwn]; exact Nat.mul_le_mul hsn (Nat.le_refl _))
        walk_at "rd"
        refine ⟨ws.map fun w => ⟨w.toArray⟩, SqL.of (by rw [e6, List.map_map]; rfl), ?_, ?_⟩
        · simp only [List.map_map, Function.comp_def, mk_len, List.length_map] at hj ⊢
          omega
        · rw [show (⟨#[47]⟩ : Str) = ⟨[47].toArray⟩ from rfl, join_sep]
          walk_at "rd"
          exact ⟨le_line (by omega), s6, ws, hw, hwl, rfl⟩
    rintro σ H6 ⟨s6, ws, hws, hwl, e6⟩
    rw [hSS] at e6
    subst e6
    have hwn := hws.length
    have hjl : (joinT 47 ws).length ≤ 50 * 181 := Nat.le_trans (join_bound (sep := 47) hwl) (by rw [hwn]; exact Nat.mul_le_mul hsn (Nat.le_refl _))
    walk_at "rd"
    refine ⟨fun σ H7 => Same H6 H7 ∧ σ = S (t4 ++ joinT 47 ws ++ if x.ends && !x.steps.isEmpty then [47] else []) (some (.bl lb)) (some (.ref ps)), ?_, ?_⟩
    · rw [hSS]
      refine ⟨_, _, .inr (.of ((s4.trans s6) _ _ hpw)), rfl, _, rfl, ?_⟩
      refine ite2 (fun he => ?_) (fun he => ⟨Same.refl _, ?_⟩)
      · refine ⟨by decide, fun p7 H7 n7 s7 e7 => ?_⟩
        refine ⟨.tuple (x.steps.map st), .tuple [], .tup ((s4.trans (s6.trans s7)) _ _ hps) (isAll_sV _), .tup e7 .nil, shaped_steps (fun l hl => (wf.stp l hl).2), by decide, _, rfl, ?_⟩
        rw [eqv_nil]
        have em : (x.steps.map st).isEmpty = x.steps.isEmpty := by cases x.steps <;> rfl
        rw [em, he]
        cases hs : x.steps.isEmpty with
        | true => exact ite2 (fun z => by cases z) (fun _ => ⟨s7, by simp⟩)
        | false => exact ite2 (fun _ => ⟨le_line (by rw [List.length_append]; omega), s7, by simp⟩) (fun z => absurd rfl z)
      · have he : x.ends = false := by simpa using he
        rw [he]
        simp
    rintro σ H7 ⟨s7, e7⟩
    rw [hSS] at e7
    subst e7
    have s37 := (s4.trans s6).trans s7
    generalize et6 : (t4 ++ joinT 47 ws ++ if x.ends && !x.steps.isEmpty then [47] else []) = t6
    have t6l : t6.length ≤ 9500 := by
      rw [← et6, List.length_append, List.length_append]
      have : (if x.ends && !x.steps.isEmpty then [47] else [] : List Nat).length ≤ 1 := by split <;> simp
      omega
    walk_at "rd"
    refine ⟨fun σ H8 => Same H7 H8 ∧ ∃ qT, QueW x.quest qT ∧ qT.length ≤ 1300 ∧ σ = S (t6 ++ qT) (some (.bl lb)) (some (.ref ps)), ?_, ?_⟩
    · rw [hSS]
      cases hq : x.quest with
      | none =>
        rw [hq] at hqx
        cases hqx
        exact ite2 (fun z => absurd rfl z) (fun _ => ⟨Same.refl _, [], rfl, by simp, by simp⟩)
      | some pp =>
        rw [hq] at hqx
        have hne : vq ≠ .non := by
          obtain ⟨a1, a2, rfl, _⟩ := isT_tup hqx
          simp
        refine ite2 (fun _ => ?_) (fun z => absurd (Classical.not_not.mp z) hne)
        have hk := ok.que pp hq
        refine ⟨pp, vq, i, rfl, hqx.mono s37.toT, hk.1, fun p hp => ⟨wf.que pp hq p hp, (hk.2 p hp).1.2.1, fun l hl => ((hk.2 p hp).2 l hl).1⟩, fun ws2 H8 hp2 hl2 s8 => ?_⟩
        have hb2 := join_bound (sep := 38) hl2
        have hn2 := hp2.length
        have hjl2 : (joinT 38 ws2).length ≤ 20 * 61 := Nat.le_trans hb2 (by rw [hn2]; exact Nat.mul_le_mul hk.1 (Nat.le_refl _))
        walk_at "rd"
        exact ⟨le_line (by first | (simp only [List.length_cons]; omega) | omega), s8, 63 :: joinT 38 ws2, queW_of hp2 (fun p hp z => by have := (hk.2 p hp).1.1; rw [z] at this; cases this), by simp only [List.length_cons]; omega, rfl⟩
    rintro σ H8 ⟨s8, qT, hQ, ql, e8⟩
    rw [hSS] at e8
    subst e8
    walk_at "rd"
    refine ⟨fun σ H9 => H9 = H8 ∧ ∃ mT, MarW x.mark mT ∧ mT.length ≤ 200 ∧ σ = S (t6 ++ qT ++ mT) (some (.bl lb)) (some (.ref ps)), ?_, ?_⟩
    · rw [hSS]
      cases hm : x.mark with
      | none => exact ite2 (fun z => absurd rfl z) (fun _ => ⟨rfl, [], rfl, by simp, by simp⟩)
      | some l =>
        refine ite2 (fun _ => ?_) (fun z => absurd (Classical.not_not.mp z) (by simp [otV]))
        have hl := ok.mar l hm
        walk_at "rd"
        refine ⟨le_line (by rw [List.length_append]; omega), l, frM, i, rfl, by have := hl.1; omega, hl.2, frM_len, frM_ok.1, fun a ha hal => ?_⟩
        have := hl.1
        walk_at "rd"
        exact ⟨le_line (by simp only [List.length_append, List.length_cons, List.length_nil]; omega), 35 :: a, ⟨a, rfl, ha⟩, by simp only [List.length_cons]; omega, by simp⟩
    rintro σ H9 ⟨rfl, mT, hM, ml, e9⟩
    rw [hSS] at e9
    subst e9
    walk_at "rd"
    have hRS : RdS x (x.rooted && !lb) := by
      cases lb with
      | false => exact .inl (by simp)
      | true =>
        obtain ⟨hx, hs⟩ := hlb rfl
        have hr := wf.roo hx
        exact .inr ⟨by simp, hr, hs, by rw [wf.end_ hs]; exact hr, hx⟩
    have hR := rdW2_mk wf hRS hH (dooW_doo fun i e => (wf.doo i e).1) (stpW_of (e := x.ends) hws fun s hs z => by have := (wf.stp s hs).1; rw [z] at this; cases this) hQ hM
    have eT : t6 ++ qT ++ mT = schT x.scheme ++ (h ++ (dooT x.door ++ ((if x.rooted && !lb then [47] else []) ++ ((joinT 47 ws ++ if x.ends && !x.steps.isEmpty then [47] else []) ++ (qT ++ mT))))) := by
      rw [← et6, ← et4, ← et3]
      simp only [List.append_assoc]
    rw [← eT] at hR
    exact k _ _ hR (by simp only [List.length_append]; omega) (s37.trans s8)
theorem ok_parts_stand (g : G K mg) : FnOk P w K mg base CX0 6 g.a_parts_stand g.fd_parts_stand ["thing"] sp_parts_stand := by
  refine g.F_parts_stand.ok sc_parts_stand (fun vs H Q E h => ?_) (fun cdv A outer s H vs Q E hr h => ?_)
  · obtain ⟨a, b, c, d, e, f, v, rfl, _⟩ := h; rfl
  · obtain ⟨a, b, c, d, e, f, v, rfl, hv, hs, k⟩ := h
    refine ⟨_, (pss_one (ps_ret (pe_and (pe_call (ok_is_scheme g) (hr.mono (by decide)) rfl g.m_is_scheme g.F_is_scheme.kp g.b_is_scheme .nil pass0 (pa_cons (pe_ix (ix_seqK (K := K) rfl) (pv 0) (pe_glob (v := k_SCHEME) rfl g.c_SCHEME ⟨_, rfl⟩) (fun _ _ => rfl)) pa_nil)) (pe_and (pe_call (ok_is_house g) (hr.mono (by decide)) rfl g.m_is_house g.F_is_house.kp g.b_is_house .nil pass0 (pa_cons (pe_ix (ix_seqK (K := K) rfl) (pv 0) (pe_glob (v := k_HOUSE) rfl g.c_HOUSE ⟨_, rfl⟩) (fun _ _ => rfl)) pa_nil)) (pe_and (pe_call (ok_is_door g) (hr.mono (by decide)) rfl g.m_is_door g.F_is_door.kp g.b_is_door .nil pass0 (pa_cons (pe_ix (ix_seqK (K := K) rfl) (pv 0) (pe_glob (v := k_DOOR) rfl g.c_DOOR ⟨_, rfl⟩) (fun _ _ => rfl)) pa_nil)) (pe_and (pe_call (ok_is_way g) (hr.mono (by decide)) rfl g.m_is_way g.F_is_way.kp g.b_is_way .nil pass0 (pa_cons (pe_ix (ix_seqK (K := K) rfl) (pv 0) (pe_glob (v := k_WAY) rfl g.c_WAY ⟨_, rfl⟩) (fun _ _ => rfl)) pa_nil)) (pe_and (pe_call (ok_is_question g) (hr.mono (by decide)) rfl g.m_is_question g.F_is_question.kp g.b_is_question .nil pass0 (pa_cons (pe_ix (ix_seqK (K := K) rfl) (pv 0) (pe_glob (v := k_QUESTION) rfl g.c_QUESTION ⟨_, rfl⟩) (fun _ _ => rfl)) pa_nil)) (pe_one (pe_call (ok_is_text_or_none g) (hr.mono (by decide)) rfl g.m_is_text_or_none g.F_is_text_or_none.kp g.b_is_text_or_none .nil pass0 (pa_cons (pe_ix (ix_seqK (K := K) rfl) (pv 0) (pe_glob (v := k_MARK) rfl g.c_MARK ⟨_, rfl⟩) (fun _ _ => rfl)) pa_nil)))))))))), ?_⟩
    have hs2 := (small_tup hs).2
    cases hv with
    | @tup p xs ds hp r =>
      obtain ⟨x0, x1, x2, x3, x4, x5, rfl, h0, h1, h2, h3, h4, h5⟩ := isAll6 r
      walk_at "rd"
      refine ⟨_, x0, .inr (SqT.of hp), atI_nat (j := 0) rfl, a, x0, rfl, h0, smallAll_mem hs2 (by simp), fun H1 s1 => ?_⟩
      walk_at "rd"
      refine ite2 (fun g0 => ?_) (fun g0 => ?_)
      rotate_left
      · have k1 := k H1 s1
        rw [(Bool.not_eq_true _).mp g0, Bool.false_and] at k1
        exact k1
      rw [g0] at k
      refine ⟨_, x1, .inr (SqT.of (s1 _ _ hp)), atI_nat (j := 1) rfl, b, x1, rfl, h1.mono s1, smallAll_mem hs2 (by simp), fun H2 s2 => ?_⟩
      have s2 := s1.trans s2
      walk_at "rd"
      refine ite2 (fun g1 => ?_) (fun g1 => ?_)
      rotate_left
      · have k1 := k H2 s2
        rw [(Bool.not_eq_true _).mp g1, Bool.false_and] at k1
        exact k1
      rw [g1] at k
      refine ⟨_, x2, .inr (SqT.of (s2 _ _ hp)), atI_nat (j := 2) rfl, c, x2, rfl, h2.mono s2, ?_⟩
      walk_at "rd"
      refine ite2 (fun g2 => ?_) (fun g2 => ?_)
      rotate_left
      · have k1 := k H2 s2
        rw [(Bool.not_eq_true _).mp g2, Bool.false_and] at k1
        exact k1
      rw [g2] at k
      refine ⟨_, x3, .inr (SqT.of (s2 _ _ hp)), atI_nat (j := 3) rfl, d, x3, rfl, h3.mono s2, smallAll_mem hs2 (by simp), fun H3 s3 => ?_⟩
      have s3 := s2.trans s3
      walk_at "rd"
      refine ite2 (fun g3 => ?_) (fun g3 => ?_)
      rotate_left
      · have k1 := k H3 s3
        rw [(Bool.not_eq_true _).mp g3, Bool.false_and] at k1
        exact k1
      rw [g3] at k
      refine ⟨_, x4, .inr (SqT.of (s3 _ _ hp)), atI_nat (j := 4) rfl, e, x4, rfl, h4.mono s3, smallAll_mem hs2 (by simp), fun H4 s4 => ?_⟩
      have s4 := s3.trans s4
      walk_at "rd"
      refine ite2 (fun g4 => ?_) (fun g4 => ?_)
      rotate_left
      · have k1 := k H4 s4
        rw [(Bool.not_eq_true _).mp g4, Bool.false_and] at k1
        exact k1
      rw [g4] at k
      refine ⟨_, x5, .inr (SqT.of (s4 _ _ hp)), atI_nat (j := 5) rfl, f, x5, rfl, h5.mono s4, smallAll_mem hs2 (by simp), fun H5 s5 => ?_⟩
      exact k H5 (s4.trans s5)
theorem ok_taken_house (g : G K mg) : FnOk P w K mg base CX0 6 g.a_taken_house g.fd_taken_house ["cursor"] (sp_taken_house K g.C_Cursor) := by
  refine g.F_taken_house.ok sc_taken_house (fun vs H Q E h => ?_) (fun cdv A outer s H vs Q E hr h => ?_)
  · obtain ⟨p, t, w, r, i, o, rfl, _⟩ := h; rfl
  · obtain ⟨p, t, w', r, i, o, rfl, hcur, hi, hl, h128, hd, hw, hst, hh, k⟩ := h
    refine ⟨_, (pss_cons (ps_if (pt_not (pt_val (pe_meth (pv 0) g.cl_Cursor g.me_Cursor_passes (ok_Cursor_passes g) (hr.mono (by decide)) g.b_Cursor_passes .nil pass0 (pa_cons pe_str pa_nil))))
        (pss_one (ps_ret pe_non)) pss_nil)
      (pss_one (ps_ret (pe_call (ok_taken_filled_text g) (hr.mono (by decide)) rfl g.m_taken_filled_text g.F_taken_filled_text.kp g.b_taken_filled_text .nil pass0 (pa_cons (pv 0) (pa_cons pe_str (pa_cons (pe_glob (v := k_LONGEST_HOUSE) rfl g.c_LONGEST_HOUSE ⟨_, rfl⟩) pa_nil))))))), ?_⟩
    have e1 : Str.ofString "//" = ⟨[47, 47].toArray⟩ := by decide +kernel
    rw [e1]
    walk_at "rd"
    cases o with
    | none =>
      have hw : w' = [] := hw
      subst hw
      refine cur_meth hcur (pass_no hcur hi hl (by rw [hd]; exact hh rfl) ⟨_, rfl, ?_⟩)
      rw [if_pos rfl]
      exact k H (SameBut.refl _ _) hcur
    | some s =>
      obtain ⟨v, rfl, hv, hne, hsl⟩ := hw
      refine cur_meth hcur (pass_yes (w := [47, 47]) (r := v ++ r) hcur hi hl hd fun H1 s1 c1 hi1 hd1 => ⟨_, rfl, ?_⟩)
      rw [if_neg (by decide)]
      refine ⟨p, t, [], s, v, r, _, some 60, rfl, c1, hi1, hl, h128, by decide, hd1, hv, hne, .inl (hst (by simp)), (fun m z => by cases z; exact hsl), fun H2 s2 c2 => k H2 (s1.trans s2) ?_⟩
      rw [List.length_cons, List.length_cons, show i + (v.length + 1 + 1) = i + [47, 47].length + v.length by simp only [List.length_cons, List.length_nil]; omega]
      exact c2
theorem ok_taken_question (g : G K mg) : FnOk P w K mg base CX0 6 g.a_taken_question g.fd_taken_question ["cursor"] (sp_taken_question K g.C_Cursor) := by
  refine g.F_taken_question.ok sc_taken_question (fun vs H Q E h => ?_) (fun cdv A outer s H vs Q E hr h => ?_)
  · obtain ⟨p, t, w, rest, i, qs, rfl, _⟩ := h; rfl
  · obtain ⟨p, t, w', rest, i, qs, rfl, hcur, hi, hl, h128, hd, hw, hre, k⟩ := h
    refine ⟨_, (pss_cons (ps_if (pt_not (pt_val (pe_meth (pv 0) g.cl_Cursor g.me_Cursor_passes (ok_Cursor_passes g) (hr.mono (by decide)) g.b_Cursor_passes .nil pass0 (pa_cons pe_str pa_nil))))
        (pss_one (ps_ret pe_non)) pss_nil)
      (pss_cons (ps_set (i := 1) sc_taken_question.nd rfl (Or.inl rfl) (pe_call (dvs := [.non]) (ok_taken_text g) (hr.mono (by decide)) rfl g.m_taken_text g.F_taken_text.kp g.bd_taken_text (.cons rfl .nil) pass0 (pa_cons (pv 0) (pa_cons (pe_glob (v := k_FREE_IN_QUESTIONS) rfl g.c_FREE_IN_QUESTIONS ⟨_, rfl⟩) pa_nil))))
      (pss_cut (ps_if (pt_cmpR op_eq (pv 1) pe_str (nomark _))
        (pss_one (ps_ret (pe_tupS pa_nil))) pss_nil)
      (pss_cut (ps_set (i := 2) sc_taken_question.nd rfl (Or.inl rfl) (pe_lstS (pa_cons (pe_tupS (pa_cons (pv 1) (pa_cons (pe_call (ok_taken_value g) (hr.mono (by decide)) rfl g.m_taken_value g.F_taken_value.kp g.b_taken_value .nil pass0 (pa_cons (pv 0) pa_nil)) pa_nil))) pa_nil)))
      (pss_cons (ps_while PassesOwn.never (pt_val (pe_meth (pv 0) g.cl_Cursor g.me_Cursor_passes (ok_Cursor_passes g) (hr.mono (by decide)) g.b_Cursor_passes .nil pass0 (pa_cons pe_str pa_nil)))
      (pss_cons (ps_set (i := 1) sc_taken_question.nd rfl (Or.inl rfl) (pe_call (dvs := [.non]) (ok_taken_filled_text g) (hr.mono (by decide)) rfl g.m_taken_filled_text g.F_taken_filled_text.kp g.bd_taken_filled_text (.cons rfl .nil) pass0 (pa_cons (pv 0) (pa_cons (pe_glob (v := k_FREE_IN_QUESTIONS) rfl g.c_FREE_IN_QUESTIONS ⟨_, rfl⟩) pa_nil))))
      (pss_one (ps_expr (pe_bmK (K := K) rfl PySem.F.plainAttrs_list PySem.F.slot_list_append PySem.F.type_list_append mt_append (pv 2) (pa_cons (pe_tupS (pa_cons (pv 1) (pa_cons (pe_call (ok_taken_value g) (hr.mono (by decide)) rfl g.m_taken_value g.F_taken_value.kp g.b_taken_value .nil pass0 (pa_cons (pv 0) pa_nil)) pa_nil))) pa_nil))))))
      (pss_one (ps_ret (pe_callTy (call_tupleS (K := K) rfl) rfl g.b_tuple bt_tuple (pa_cons (pv 2) pa_nil))))))))), ?_⟩
    have eF : k_FREE_IN_QUESTIONS = .str ⟨frQ.toArray⟩ := by
      show V.str (Str.ofString _) = _
      unfold frQ; simp
    have e1 : Str.ofString "?" = ⟨[63].toArray⟩ := by decide +kernel
    have e2 : Str.ofString "&" = ⟨[38].toArray⟩ := by decide +kernel
    rw [eF, e1, e2]
    have rl : ∀ {j'' : Nat} {v'' : List Nat}, t.drop j'' = v'' ++ rest → j'' ≤ t.length → j'' + v''.length = t.length - rest.length := fun {j'' v''} h hj => by
      have := congrArg List.length h
      rw [List.length_drop, List.length_append] at this
      omega
    have hr63 : rest.head? ≠ some 63 ∧ rest.head? ≠ some 38 := by
      rcases hre with rfl | ⟨x, rfl⟩
      · exact ⟨by simp, by simp⟩
      · exact ⟨by simp, by simp⟩
    walk_at "rd"
    cases qs with
    | none =>
      have hw : w' = [] := hw
      subst hw
      refine cur_meth hcur (pass_no1 hcur hi hl hd hr63.1 ⟨_, rfl, ?_⟩)
      rw [if_pos rfl]
      have := rl hd hi
      exact k _ H (SameBut.refl _ _) (this ▸ hcur) .non
    | some ps =>
      cases ps with
      | nil =>
        have hw : w' = [63] := hw
        subst hw
        refine cur_meth hcur (pass_yes (w := [63]) (r := rest) hcur hi hl hd fun H1 s1 c1 hi1 hd1 => ⟨_, rfl, ?_⟩)
        rw [if_neg (by decide)]
        refine ⟨p, t, frQ, [], [], rest, _, none, rfl, c1, hi1, hl, h128, frQ_len, hd1, .nil, .inl (prs_stops .nil hre).1, (fun m z => by cases z), fun H2 s2 c2 => ?_⟩
        refine ⟨fun _ _ => False, ?_, fun _ _ z => z.elim⟩
        rw [L2.rd_eqSS, decide_eq_true rfl]
        refine ⟨_, rfl, ?_⟩
        rw [if_pos rfl]
        have := rl (v'' := []) hd1 hi1
        exact ⟨by decide, fun pt Ha n1 sa hp1 => k _ Ha ((s1.trans s2).trans sa.but) (this ▸ c2.same sa) (.tup hp1 .nil)⟩
      | cons pr ps =>
        obtain ⟨n, o⟩ := pr
        obtain ⟨a, v, r, rfl, ha, hn, hv, hps⟩ := hw
        have hst := prs_stops hps hre
        refine cur_meth hcur (pass_yes (w := [63]) (r := a ++ (v ++ (r ++ rest))) hcur hi hl (by rw [hd]; simp) fun H1 s1 c1 hi1 hd1 => ⟨_, rfl, ?_⟩)
        rw [if_neg (by decide)]
        refine ⟨p, t, frQ, n, a, v ++ (r ++ rest), _, none, rfl, c1, hi1, hl, h128, frQ_len, hd1, ha, .inl (val_stops hv hst.1), (fun m z => by cases z), fun H2 s2 c2 => ?_⟩
        refine ⟨fun σ H' => H' = H2 ∧ σ = [some (.ref p), some (.str ⟨n.toArray⟩), none], ?_, ?_⟩
        · rw [L2.rd_eqSS]
          refine ⟨_, rfl, ?_⟩
          rw [if_neg (by rw [decide_eq_false (fun z => hn (mk_nil.mp z))]; decide)]
          exact ⟨rfl, rfl⟩
        rintro σ H' ⟨rfl, rfl⟩
        have hi2 : i + [63].length + a.length ≤ t.length := by
          have := congrArg List.length hd1
          rw [List.length_drop, List.length_append] at this
          omega
        have hd2 : t.drop (i + [63].length + a.length) = v ++ (r ++ rest) := by rw [← List.drop_drop, hd1, List.drop_left]
        have s12 := s1.trans s2
        walk_at "rd"
        obtain ⟨W, hW⟩ : ∃ W : Nat → St → Hp → Prop, W = fun m σ H4 => ∃ (dn ps' : List (List Nat × Option (List Nat))) (r' : List Nat) (j : Nat) (q : Addr) (v1 : Option V) (vs : List V), m = ps'.length ∧ σ = [some (.ref p), v1, some (.ref q)] ∧ (n, o) :: ps = dn ++ ps' ∧ PrsW ps' r' ∧ Cur H4 g.C_Cursor p t j ∧ j ≤ t.length ∧ t.drop j = r' ++ rest ∧ H4 q = some (.lst vs) ∧ PrL H4 vs dn ∧ SameBut p H H4 ∧ H q = none ∧ q ≠ p := ⟨_, rfl⟩
        refine ⟨fun σ H4 => ∃ m, W m σ H4, ?_, ?_⟩
        · refine ⟨p, t, v, r ++ rest, _, o, rfl, c2, hi2, hl, h128, hd2, hv, hst.1, hst.2, fun H3 s3 c3 => ⟨by decide, fun p1 Ha n1 sa hp1 => ⟨by decide, fun q Hb nq sb hq => ⟨ps.length, ?_⟩⟩⟩⟩
          rw [hW]
          have hqp : q ≠ p := by obtain ⟨dx, hp⟩ := c3.same sa; exact (ne_of_none hp nq).symm
          have sbA : SameBut p H Ha := (s12.trans s3).trans sa.but
          refine ⟨[(n, o)], ps, r, _, q, _, _, rfl, rfl, rfl, hps, (c3.same sa).same sb, ?_, ?_, hq, ⟨rfl, fun i' a' y z1 z2 => ?_⟩, sbA.trans sb.but, sbA.free nq hqp, hqp⟩
          · have := congrArg List.length hd2
            rw [List.length_drop, List.length_append] at this
            omega
          · rw [← List.drop_drop, hd2, List.drop_left]
          · cases i' with
            | zero =>
              cases z1
              cases z2
              exact .tup (sb _ _ hp1) (.cons (.str _) (.cons (is_oD _) .nil))
            | succ j => cases z1
        rintro σ H4 ⟨m, hm⟩
        unfold L2.Later
        rw [L2.rd_seq]
        refine while_W W m hm ?_
        rintro m σ H5 hm
        rw [hW] at hm
        obtain ⟨dn, ps', r', j, q, v1, vs, rfl, rfl, eps, hps', c5, hj5, hd5, hq5, hpl, sb5, hqH, hqp⟩ := hm
        have hdl : dn.length ≤ 100000 := by
          have h1 := congrArg List.length eps
          rw [List.length_append, List.length_cons] at h1
          have h2 := prs_len hps
          have h3 := congrArg List.length hd
          rw [List.length_drop] at h3
          simp only [List.length_cons, List.length_append] at h3
          omega
        walk_at "rd"
        cases hps' with
        | nil =>
          refine cur_meth c5 (pass_no1 c5 hj5 hl hd5 hr63.2 ⟨_, rfl, ?_⟩)
          rw [if_neg (by decide)]
          rw [List.append_nil] at eps
          refine ⟨vs, .inl (.of hq5), fun l Ha sa hla => ?_⟩
          have := rl (v'' := []) hd5 hj5
          refine k _ Ha (sb5.trans sa.but) (this ▸ c5.same sa) ?_
          rw [eps]
          exact .tup hla (isTAll_mk' (g := pD) hpl.1 fun i' a' y z1 z2 => (hpl.2 i' a' y z1 z2).mono sa.toT)
        | cons hwn hne hv2 hps2 =>
          rename_i n2 w2 v2 o2 ps2 r2
          have hst2 := prs_stops hps2 hre
          refine cur_meth c5 (pass_yes (w := [38]) (r := w2 ++ (v2 ++ (r2 ++ rest))) c5 hj5 hl (by rw [hd5]; simp) fun H6 s6 c6 hi6 hd6 => ⟨_, rfl, ?_⟩)
          rw [if_pos rfl]
          have hd7 : t.drop (j + [38].length + w2.length) = v2 ++ (r2 ++ rest) := by rw [← List.drop_drop, hd6, List.drop_left]
          have hl7 := congrArg List.length hd6
          rw [List.length_drop, List.length_append, List.length_append] at hl7
          refine ⟨_, fun _ _ h => h, p, t, frQ, n2, w2, v2 ++ (r2 ++ rest), _, none, rfl, c6, hi6, hl, h128, frQ_len, hd6, hwn, hne, .inl (val_stops hv2 hst2.1), (fun m z => by cases z), fun H7 s7 c7 => ⟨⟨_, .of ((s6.trans s7) _ _ hqp hq5)⟩, p, t, v2, r2 ++ rest, _, o2, rfl, c7, by omega, hl, h128, hd7, hv2, hst2.1, hst2.2, fun H8 s8 c8 => ⟨by decide, fun p1 Ha n1 sa hp1 => ⟨vs, sa _ _ (((s6.trans s7).trans s8) _ _ hqp hq5), ?_, ps2.length, Nat.lt_succ_self _, ?_⟩⟩⟩⟩
          · rw [hpl.1]
            exact Nat.lt_of_le_of_lt hdl (by decide)
          rw [hW]
          have hqa : Ha q = some (.lst vs) := sa _ _ (((s6.trans s7).trans s8) _ _ hqp hq5)
          refine ⟨dn ++ [(n2, o2)], ps2, r2, j + [38].length + w2.length + v2.length, q, _, _, rfl, rfl, by rw [eps, List.append_assoc]; rfl, hps2, ?_, ?_, ?_, upd_same, ?_, ?_, hqH, hqp⟩
          · obtain ⟨dx, hp⟩ := c8.same sa
            exact ⟨dx, by rw [upd_ne hqp.symm]; exact hp⟩
          · omega
          · rw [← List.drop_drop, hd7, List.drop_left]
          · refine PrL.mono (PrL.snoc ((((hpl.mono (c5.toT s6)).mono (c6.toT s7)).mono (c7.toT s8)).mono sa.toT) ?_) (sameT_lst hqa)
            exact .tup hp1 (.cons (.str _) (.cons (is_oD _) .nil))
          · exact ((((sb5.trans s6).trans s7).trans s8).trans sa.but).upd hqH
theorem ok_is_address (g : G K mg) : FnOk P w K mg base CX0 7 g.a_is_address g.fd_is_address ["thing"] sp_is_address := by
  refine g.F_is_address.ok sc_is_address (fun vs H Q E h => ?_) (fun cdv A outer s H vs Q E hr h => ?_)
  · obtain ⟨d, v, rfl, _⟩ := h; rfl
  · obtain ⟨d, v, rfl, hv, hs, k⟩ := h
    refine ⟨_, (pss_one (ps_ret (pe_and (pe_call (ok_is_tuple g) (hr.mono (by decide)) rfl g.m_is_tuple g.F_is_tuple.kp g.b_is_tuple .nil pass0 (pa_cons (pv 0) (pa_cons pe_int pa_nil))) (pe_and (pe_call (ok_parts_stand g) (hr.mono (by decide)) rfl g.m_parts_stand g.F_parts_stand.kp g.b_parts_stand .nil pass0 (pa_cons (pv 0) pa_nil)) (pe_one (pe_call (ok_parts_agree g) (hr.mono (by decide)) rfl g.m_parts_agree g.F_parts_agree.kp g.b_parts_agree .nil pass0 (pa_cons (pv 0) pa_nil))))))), ?_⟩
    walk_at "rd"
    refine ⟨d, v, 6, rfl, hv, ?_⟩
    walk_at "rd"
    refine ite2 (fun h => ?_) (fun h => ?_)
    rotate_left
    · have k1 := k H (Same.refl _)
      rw [addrD_no h] at k1
      exact k1
    obtain ⟨a, b, c, d, e, f, rfl⟩ := tup6 h
    refine ⟨a, b, c, d, e, f, v, rfl, hv, hs, fun H1 s1 => ?_⟩
    have k1 := k H1 s1
    walk_at "rd"
    refine ite2 (fun g => ?_) (fun g => ?_)
    · have g' := g
      simp only [Bool.and_eq_true] at g'
      refine ⟨a, b, c, d, e, f, v, rfl, hv.mono s1, g'.1, g'.2.2.2.1, ?_⟩
      simp only [addrD, g, Bool.true_and] at k1
      exact k1
    · simp only [addrD, (Bool.not_eq_true _).mp g, Bool.false_and] at k1
      exact k1
theorem ok_read (g : G K mg) : FnOk P w K mg base CX0 7 g.a_read g.fd_read ["text"] (sp_read K) := by
  refine g.F_read.ok sc_read (fun vs H Q E h => ?_) (fun cdv A outer s H vs Q E hr h => ?_)
  · obtain ⟨x, t, rfl, _⟩ := h; rfl
  · obtain ⟨x, t, rfl, hl, h128, wf, hw, k⟩ := h
    refine ⟨_, (pss_cons (ps_if (pt_not (pt_val (pe_callB call_isiU rfl g.b_isinstance boot_isinstance (pa_cons (pv 0) (pa_cons (pe_bltn (v := .ty "str") rfl g.b_str bt_str rfl) pa_nil)))))
        (pss_one ps_never) pss_nil)
      (pss_cons (ps_set (i := 1) sc_read.nd rfl (Or.inl rfl) (pe_make g.M_Cursor (ok_Cursor___init__ g) (hr.mono (by decide)) rfl g.m_Cursor g.b_Cursor___init__ .nil pass0 (pa_cons (pv 0) pa_nil)))
      (pss_cons (ps_set (i := 2) sc_read.nd rfl (Or.inl rfl) (pe_call (ok_taken_scheme g) (hr.mono (by decide)) rfl g.m_taken_scheme g.F_taken_scheme.kp g.b_taken_scheme .nil pass0 (pa_cons (pv 1) pa_nil)))
      (pss_cons (ps_set (i := 3) sc_read.nd rfl (Or.inl rfl) (pe_call (ok_taken_house g) (hr.mono (by decide)) rfl g.m_taken_house g.F_taken_house.kp g.b_taken_house .nil pass0 (pa_cons (pv 1) pa_nil)))
      (pss_cut (ps_set (i := 4) sc_read.nd rfl (Or.inl rfl) (pe_ifExp (pt_cmpR op_isNU (pv 3) pe_non (nomark _)) pe_non (pe_call (ok_taken_door g) (hr.mono (by decide)) rfl g.m_taken_door g.F_taken_door.kp g.b_taken_door .nil pass0 (pa_cons (pv 1) pa_nil))))
      (pss_cut (ps_set (i := 5) sc_read.nd rfl (Or.inl rfl) (pe_call (ok_taken_way g) (hr.mono (by decide)) rfl g.m_taken_way g.F_taken_way.kp g.b_taken_way .nil pass0 (pa_cons (pv 1) (pa_cons (pe_or (pe_cmpR op_ne (pv 2) pe_str (nomark _)) (pe_one (pe_cmpR op_notNU (pv 3) pe_non (nomark _)))) pa_nil))))
      (pss_cons (ps_set (i := 6) sc_read.nd rfl (Or.inl rfl) (pe_call (ok_taken_question g) (hr.mono (by decide)) rfl g.m_taken_question g.F_taken_question.kp g.b_taken_question .nil pass0 (pa_cons (pv 1) pa_nil)))
      (pss_cons (ps_set (i := 7) sc_read.nd rfl (Or.inl rfl) (pe_call (ok_taken_mark g) (hr.mono (by decide)) rfl g.m_taken_mark g.F_taken_mark.kp g.b_taken_mark .nil pass0 (pa_cons (pv 1) pa_nil)))
      (pss_cons (ps_if (pt_not (pt_val (pe_meth0 (pv 1) g.cl_Cursor g.me_Cursor_at_end (ok_Cursor_at_end g) (hr.mono (by decide)) g.b_Cursor_at_end .nil pass0)))
        (pss_one ps_never) pss_nil)
      (pss_one (ps_ret (pe_tupS (pa_cons (pv 2) (pa_cons (pv 3) (pa_cons (pv 4) (pa_cons (pv 5) (pa_cons (pv 6) (pa_cons (pv 7) pa_nil)))))))))))))))))), ?_⟩
    obtain ⟨hT, dT, wT, qT, mT, rT, hrT, et, es, hH, hD, hS, hQ, hM⟩ := hw
    walk_at "rd"
    intro p dx hp hdx hne
    have hmr : mT = [] ∨ ∃ y, mT = 35 :: y := by
      cases hm : x.mark with
      | none => rw [hm] at hM; exact .inl hM
      | some s => rw [hm] at hM; obtain ⟨v, e, _⟩ := hM; exact .inr ⟨v, e⟩
    have hrq : qT ++ mT = [] ∨ (∃ y, qT ++ mT = 35 :: y) ∨ ∃ y, qT ++ mT = 63 :: y := by
      cases hq : x.quest with
      | none =>
        rw [hq] at hQ
        have hQ : qT = [] := hQ
        rw [hQ]
        rcases hmr with e | ⟨y, e⟩
        · exact .inl e
        · exact .inr (.inl ⟨y, e⟩)
      | some ps =>
        rw [hq] at hQ
        cases ps with
        | nil =>
          have hQ : qT = [63] := hQ
          exact .inr (.inr ⟨mT, by rw [hQ]; rfl⟩)
        | cons a ps =>
          obtain ⟨n, o⟩ := a
          obtain ⟨a, v, r, e, _⟩ := hQ
          exact .inr (.inr ⟨_, by rw [e]; rfl⟩)
    have sb0 : SameBut p H (upd (upd H dx (.own p)) p (.ins g.C_Cursor dx [])) := fun b o n e => by
      rw [upd_ne n, upd_ne (ne_of_none e hdx)]
      exact e
    refine ⟨p, dx, t, rfl, upd_same, fun H1 s1 c1 => ⟨rfl, ?_⟩⟩
    have sb1 := sb0.trans s1
    have tl : ∀ {a b : List Nat}, t = a ++ b → a.length ≤ t.length ∧ t.drop a.length = b := fun {a b} e => by
      rw [e, List.drop_left, List.length_append]
      exact ⟨by omega, rfl⟩
    refine ⟨p, t, rfl, c1, hl, fun H2 s2 c2 => ?_⟩
    rw [es]
    have eP : schP t = (schT x.scheme).length := by unfold schP; rw [es]
    rw [eP] at c2
    obtain ⟨i2, d2⟩ := tl et
    have hz : (x.scheme ≠ [] ∨ x.house ≠ none) → ((if rT then [47] else []) ++ (wT ++ (qT ++ mT))) = [] ∨ ∃ c y, ((if rT then [47] else []) ++ (wT ++ (qT ++ mT))) = c :: y ∧ (c = 47 ∨ c = 35 ∨ c = 63) := fun hx => by
      rcases hrT with e | ⟨e, _, es', _⟩
      · rw [e, wf.roo hx]
        exact .inr ⟨47, _, rfl, .inl rfl⟩
      · subst e
        rw [es'] at hS
        cases hS
        rcases hrq with e | ⟨y, e⟩ | ⟨y, e⟩
        · exact .inl e
        · exact .inr ⟨35, y, e, .inr (.inl rfl)⟩
        · exact .inr ⟨63, y, e, .inr (.inr rfl)⟩
    refine ⟨p, t, hT, _, _, x.house, rfl, c2, i2, by omega, h128, d2, hH, ?_, ?_, fun H3 s3 c3 => ?_⟩
    · intro hn
      refine fun c hc => ?_
      cases hdo : x.door with
      | none =>
        rw [hdo] at hD
        have hD : dT = [] := hD
        rw [hD, List.nil_append] at hc
        rcases hz (.inr hn) with e | ⟨c', y, e, z | z | z⟩ <;> rw [e] at hc <;> cases hc <;> subst z <;> decide
      | some n =>
        rw [hdo] at hD
        obtain ⟨ds, rfl, _⟩ := hD
        cases hc
        decide
    · intro hn
      cases hdo : x.door with
      | some n => exact absurd hn (wf.doo n hdo).2
      | none =>
        rw [hdo] at hD
        have hD : dT = [] := hD
        rw [hD, List.nil_append]
        have hr : (qT ++ mT).head? ≠ some 47 := fun z => by
          rcases hrq with e | ⟨y, e⟩ | ⟨y, e⟩ <;> rw [e] at z <;> cases z
        have h47 := stp_no47 hS hr
        cases rT with
        | false =>
          intro z
          simp only [Bool.false_eq_true, if_false, List.nil_append] at z
          cases hh : wT ++ (qT ++ mT) with
          | nil => rw [hh] at z; cases z
          | cons c r => rw [hh] at z h47; exact h47 (by injection z with z1 z2; rw [z1]; rfl)
        | true =>
          intro z
          simp only [if_true, List.cons_append, List.nil_append] at z
          cases hh : wT ++ (qT ++ mT) with
          | nil => rw [hh] at z; cases z
          | cons c r =>
            rw [hh] at z h47
            refine h47 ?_
            injection z with z1 z2
            injection z2 with z2 z3
            rw [z2]
            rfl
    have sb3 := (sb1.trans s2).trans s3
    obtain ⟨i3, d3⟩ := tl (a := schT x.scheme ++ hT) (b := dT ++ ((if rT then [47] else []) ++ (wT ++ (qT ++ mT)))) (by rw [et]; simp)
    rw [List.length_append] at i3 d3
    refine ⟨fun σ H4 => SameBut p H H4 ∧ Cur H4 g.C_Cursor p t ((schT x.scheme ++ (hT ++ dT)).length) ∧ σ = [some (.str ⟨t.toArray⟩), some (.ref p), some (.str ⟨x.scheme.toArray⟩), some (otV x.house), some (itV x.door), none, none, none], ?_, ?_⟩
    · cases hho : x.house with
      | none =>
        rw [if_pos (show otV none = V.non from rfl)]
        cases hdo : x.door with
        | some n => exact absurd hho (wf.doo n hdo).2
        | none =>
          rw [hdo] at hD
          have hD : dT = [] := hD
          refine ⟨sb3, ?_, rfl⟩
          rw [hD, List.append_nil, List.length_append]
          exact c3
      | some l =>
        rw [if_neg (by simp [otV])]
        refine ⟨p, t, dT, _, _, x.door, rfl, c3, i3, by omega, h128, d3, hD, ?_, ?_, fun H4 s4 c4 => ⟨sb3.trans s4, ?_, rfl⟩⟩
        · intro c hc
          rcases hz (.inr (by rw [hho]; simp)) with e | ⟨c', y, e, z | z | z⟩ <;> rw [e] at hc <;> cases hc <;> subst z <;> decide
        · intro _ hc
          rcases hz (.inr (by rw [hho]; simp)) with e | ⟨c', y, e, z | z | z⟩ <;> rw [e] at hc <;> cases hc <;> cases z
        · rw [List.length_append, List.length_append, ← Nat.add_assoc]
          exact c4
    rintro σ H4 ⟨sb4, c4, rfl⟩
    obtain ⟨i4, d4⟩ := tl (a := schT x.scheme ++ (hT ++ dT)) (b := (if rT then [47] else []) ++ (wT ++ (qT ++ mT))) (by rw [et]; simp)
    walk_at "rd"
    have hway : ∀ must : Bool, (must = true ↔ (x.scheme ≠ [] ∨ x.house ≠ none)) → ∀ (Q' : VK), (∀ u H5, SameBut p H H5 → Cur H5 g.C_Cursor p t (t.length - (qT ++ mT).length) → IsT H5 x.way u → Q' u H5) → sp_taken_way K g.C_Cursor [V.ref p, V.bl must] H4 Q' E0 := fun must hm Q' hk => by
      refine ⟨p, t, wT, qT ++ mT, _, must, rT, x.rooted, x.steps, x.ends, rfl, c4, i4, by omega, h128, d4, hS, (by rcases hrT with e | ⟨e1, e2, e3, e4, e5⟩; exact .inl ⟨e, fun z => by rw [e]; exact wf.end_ z, fun z => by rw [e]; exact wf.roo (hm.mp z)⟩; exact .inr ⟨e1, hm.mpr e5, e2, e3, e4⟩), ?_, ?_, fun u H5 s5 c5 hu => hk u H5 (sb4.trans s5) c5 hu⟩
      · rcases hrq with e | ⟨y, e⟩ | ⟨y, e⟩ <;> rw [e]
        · exact stops_nil
        · exact stops_cons ⟨by decide, by decide +kernel, by decide⟩
        · exact stops_cons ⟨by decide, by decide +kernel, by decide⟩
      · rcases hrq with e | ⟨y, e⟩ | ⟨y, e⟩ <;> rw [e] <;> simp
    refine ⟨fun σ H5 => ∃ u, SameBut p H H5 ∧ Cur H5 g.C_Cursor p t (t.length - (qT ++ mT).length) ∧ IsT H5 x.way u ∧ σ = [some (.str ⟨t.toArray⟩), some (.ref p), some (.str ⟨x.scheme.toArray⟩), some (otV x.house), some (itV x.door), some u, none, none], ?_, ?_⟩
    · refine ite2 (fun z => ?_) (fun z => ?_)
      · exact hway true ⟨fun _ => .inl fun e => z (by rw [e]), fun _ => rfl⟩ _ (fun u H5 sb c hu => ⟨u, sb, c, hu, rfl⟩)
      · have z0 : x.scheme = [] := mk_nil.mp (Classical.not_not.mp z)
        refine hway _ ⟨fun e => .inr fun z' => ?_, fun e => ?_⟩ _ (fun u H5 sb c hu => ⟨u, sb, c, hu, rfl⟩)
        · rw [z'] at e
          exact absurd e (by simp [otV])
        · rcases e with e | e
          · exact absurd z0 e
          · cases hh : x.house with
            | none => exact absurd hh e
            | some l => simp [otV]
    rintro σ H5 ⟨u, sb5, c5, hu, rfl⟩
    have hqm : t.length - (qT ++ mT).length + (qT ++ mT).length = t.length := by
      have := congrArg List.length et
      simp only [List.length_append] at this ⊢
      omega
    obtain ⟨i5, d5⟩ := tl (a := schT x.scheme ++ (hT ++ (dT ++ ((if rT then [47] else []) ++ wT)))) (b := qT ++ mT) (by rw [et]; simp)
    have e5 : (schT x.scheme ++ (hT ++ (dT ++ ((if rT then [47] else []) ++ wT)))).length = t.length - (qT ++ mT).length := by
      have := congrArg List.length et
      simp only [List.length_append] at this ⊢
      omega
    rw [e5] at i5 d5
    walk_at "rd"
    refine ⟨p, t, qT, mT, _, x.quest, rfl, c5, i5, by omega, h128, d5, hQ, hmr, fun uq H6 s6 c6 hq => ?_⟩
    have e6 : t.length - mT.length ≤ t.length := by omega
    have d6 : t.drop (t.length - mT.length) = mT := by
      obtain ⟨_, z⟩ := tl (a := schT x.scheme ++ (hT ++ (dT ++ ((if rT then [47] else []) ++ (wT ++ qT))))) (b := mT) (by rw [et]; simp)
      have e7 : (schT x.scheme ++ (hT ++ (dT ++ ((if rT then [47] else []) ++ (wT ++ qT))))).length = t.length - mT.length := by
        have := congrArg List.length et
        simp only [List.length_append] at this ⊢
        omega
      rw [e7] at z
      exact z
    refine ⟨p, t, mT, _, x.mark, rfl, c6, e6, by omega, h128, d6, hM, fun H7 s7 c7 => ?_⟩
    refine cur_meth c7 ⟨p, t, _, rfl, c7, by omega, _, rfl, ?_⟩
    rw [decide_eq_true rfl, if_neg (by decide)]
    refine ⟨by decide, fun pr H8 _ s8 h8 => k _ H8 (((((sb5.trans s6).trans s7).same hp).trans s8)) ?_⟩
    exact adT h8 ((((hu.mono (c5.toT s6)).mono (c6.toT s7))).mono s8.toT) ((hq.mono (c6.toT s7)).mono s8.toT)
theorem ok_law (g : G K mg) : FnOk P w K mg base CX0 8 g.a_law g.fd_law ["_law_script"] (sp_law K) := by
  refine g.F_law.ok sc_law (fun vs H Q E h => ?_) (fun cdv A outer s H vs Q E hr h => ?_)
  · obtain ⟨a, ns, rfl, _⟩ := h; rfl
  · obtain ⟨a, ns, rfl, hS, hn, k⟩ := h
    refine ⟨_, (pss_cons (ps_set (i := 1) sc_law.nd rfl (Or.inl rfl) (pe_call (ok__law_address g) (hr.mono (by decide)) rfl g.m__law_address g.F__law_address.kp g.b__law_address .nil pass0 (pa_cons (pv 0) (pa_cons pe_int pa_nil))))
      (pss_cons (ps_set (i := 2) sc_law.nd rfl (Or.inl rfl) (pe_call (ok__law_address g) (hr.mono (by decide)) rfl g.m__law_address g.F__law_address.kp g.b__law_address .nil pass0 (pa_cons (pv 0) (pa_cons pe_int pa_nil))))
      (pss_cut (ps_set (i := 3) sc_law.nd rfl (Or.inl rfl) (pe_lstS (pa_cons (pv 1) (pa_cons (pv 2) (pa_cons (pe_call (ok__law_third g) (hr.mono (by decide)) rfl g.m__law_third g.F__law_third.kp g.b__law_third .nil pass0 (pa_cons (pv 1) (pa_cons (pv 2) (pa_cons (pv 0) pa_nil)))) pa_nil)))))
      (pss_cons (ps_set (i := 4) sc_law.nd rfl (Or.inl rfl) (pe_op op_mod (pe_call (ok__law_cell_at g) (hr.mono (by decide)) rfl g.m__law_cell_at g.F__law_cell_at.kp g.b__law_cell_at .nil pass0 (pa_cons (pv 0) (pa_cons pe_int pa_nil))) (pe_op op_pow pe_int pe_int)))
      (pss_cons (ps_for PassesOwn.never rfl (pi_listK (K := K) rfl (pv 3)) (pg_name (i := 5) sc_law.nd rfl (Or.inl rfl))
      (pss_cons (ps_set (i := 6) sc_law.nd rfl (Or.inl rfl) (pe_call (ok_show g) (hr.mono (by decide)) rfl g.m_show g.F_show.kp g.b_show .nil pass0 (pa_cons (pv 5) pa_nil)))
      (pss_cons (ps_set (i := 7) sc_law.nd rfl (Or.inl rfl) (pe_call (ok__law_loosely g) (hr.mono (by decide)) rfl g.m__law_loosely g.F__law_loosely.kp g.b__law_loosely .nil pass0 (pa_cons (pv 5) (pa_cons (pv 4) pa_nil))))
      (pss_cut (ps_if (PW.pt (pw_or (pt_cmpR op_notBU (pe_call (ok_is_address g) (hr.mono (by decide)) rfl g.m_is_address g.F_is_address.kp g.b_is_address .nil pass0 (pa_cons (pv 5) pa_nil)) pe_bl (nomark _)) (pw_or (pt_cmpR (op_neD hr.units) (pe_call (ok_read g) (hr.mono (by decide)) rfl g.m_read g.F_read.kp g.b_read .nil pass0 (pa_cons (pv 6) pa_nil)) (pv 5) (nomark _)) (pw_or1 (pt_cmpR (op_neD hr.units) (pe_call (ok_read g) (hr.mono (by decide)) rfl g.m_read g.F_read.kp g.b_read .nil pass0 (pa_cons (pv 7) pa_nil)) (pv 5) (nomark _))))))
        (pss_one (ps_ret pe_bl)) pss_nil)
      (pss_cut (ps_if (pt_cmpR op_ne (pe_call (ok_show g) (hr.mono (by decide)) rfl g.m_show g.F_show.kp g.b_show .nil pass0 (pa_cons (pe_call (ok_read g) (hr.mono (by decide)) rfl g.m_read g.F_read.kp g.b_read .nil pass0 (pa_cons (pv 7) pa_nil)) pa_nil)) (pv 6) (nomark _))
        (pss_one (ps_ret pe_bl)) pss_nil)
      (pss_one (ps_for PassesOwn.never rfl (pi_listK (K := K) rfl (pv 3)) (pg_name (i := 8) sc_law.nd rfl (Or.inl rfl))
      (pss_one (ps_if (pt_cmpR op_ne (pe_cmpR op_eq (pe_call (ok_show g) (hr.mono (by decide)) rfl g.m_show g.F_show.kp g.b_show .nil pass0 (pa_cons (pv 8) pa_nil)) (pv 6) (nomark _)) (pe_cmpR (op_eqD hr.units) (pv 8) (pv 5) (nomark _)) (nomark _))
        (pss_one (ps_ret pe_bl)) pss_nil)))))))))
      (pss_one (ps_ret pe_bl))))))), ?_⟩
    walk_at "rd"
    refine ⟨a, ns, 0, rfl, hS, fun x vx H1 ox s1 hx => ?_⟩
    refine ⟨a, ns, 9, rfl, s1.seq hS, fun y vy H2 oy s2 hy => ?_⟩
    refine ⟨fun σ H3 => Same H H3 ∧ ∃ (z : Ad) (vz : V) (pl : Addr), z.Ok ∧ IsT H3 x.data vx ∧ IsT H3 y.data vy ∧ IsT H3 z.data vz ∧ H3 pl = some (.lst [vx, vy, vz]) ∧ σ = [some (.ref a), some vx, some vy, some (.ref pl), none, none, none, none, none], ?_, ?_⟩
    · refine ⟨x, y, vx, vy, a, ns, rfl, hx.mono s2.toT, hy, ox, oy, (s1.trans s2).seq hS, hn, fun z vz H3 oz s3 hz => ?_⟩
      refine ⟨by decide, fun pl H4 n4 s4 e4 => ?_⟩
      exact ⟨s1.trans (s2.trans (s3.trans s4)), z, vz, pl, oz, hx.mono (s2.trans (s3.trans s4)).toT, hy.mono (s3.trans s4).toT, hz.mono s4.toT, e4, rfl⟩
    clear hx hy
    rintro σ H3 ⟨s3, z, vz, pl, oz, hx, hy, hz, e3, rfl⟩
    walk_at "rd"
    have all : ∀ v ∈ [vx, vy, vz], ∃ u : Ad, u.Ok ∧ IsT H3 u.data v := fun v hv => by
      simp only [List.mem_cons, List.not_mem_nil, or_false] at hv
      rcases hv with rfl | rfl | rfl
      · exact ⟨x, ox, hx⟩
      · exact ⟨y, oy, hy⟩
      · exact ⟨z, oz, hz⟩
    refine ⟨a, ns, 18, rfl, s3.seq hS, ⟨by decide, by decide, by decide⟩, ?_⟩
    walk_at "rd"
    refine ⟨by decide, ⟨_, .of e3⟩, ?_⟩
    generalize ns.getD 18 0 % 10 ^ Int.toNat 12 = cell
    refine loop_list (xs := [vx, vy, vz]) (fun i σ H' => Same H3 H' ∧ ∃ v5 v6 v7 v8, σ = [some (.ref a), some vx, some vy, some (.ref pl), some (.int cell), v5, v6, v7, v8]) ⟨Same.refl _, _, _, _, _, rfl⟩ (fun i σ H' _ h => .of (h.1 _ _ e3)) ?_ ?_
    rotate_left
    · rintro σ H4 ⟨s4, v5, v6, v7, v8, rfl⟩
      walk_at "rd"
      exact k H4
    rintro i v σ H4 hv ⟨s4, v5, v6, v7, v8, rfl⟩
    obtain ⟨u, ou, hu⟩ := all v (List.mem_of_getElem? hv)
    have hu4 := hu.mono s4.toT
    have wu := ou.wf
    have su := ou.sz
    have rd : ∀ (t : List Nat) (Hs : Hp) (R : VK), RdW2 u t → t.length ≤ 90000 → (∀ w He, Same Hs He → IsT He u.data w → R w He) → sp_read K [.str ⟨t.toArray⟩] Hs R E0 := fun t Hs R ht hl hR => ⟨u, t, rfl, hl, rdW2_128 wu ht, wu, ht, fun w H1 s1 hw => hR w H1 s1 hw⟩
    have rdN : ∀ (t : List Nat) (Hs : Hp) (R : Hp → Prop), Same H4 Hs → RdW2 u t → t.length ≤ 90000 → (∀ He, Same Hs He → R He) → sp_read K [.str ⟨t.toArray⟩] Hs (fun w H1 => rNeD w v H1 fun b H2 => ∃ k, b = .bl k ∧ if k = true then Q (.bl false) H2 else R H2) E0 := fun t Hs R ss ht hl hR => rd t Hs _ ht hl fun w He se hw => by
      refine ⟨u.data, u.data, hw.is, (hu4.mono (ss.trans se).toT).is, wu.shaped, wu.shaped, _, rfl, ?_⟩
      rw [(Ad.eqv_iff _ _).mpr rfl]
      exact ite2 (fun z => absurd z (by decide)) (fun _ => hR He se)
    walk_at "rd"
    refine ⟨u, v, rfl, hu4.k, wu, su, fun H5 s5 => ?_⟩
    refine ⟨u, v, cell, rfl, hu4.mono s5.toT, ou, fun t H6 ht hl s6 => ?_⟩
    have s46 := s5.trans s6
    refine ⟨fun σ H7 => Same H6 H7 ∧ σ = [some (.ref a), some vx, some vy, some (.ref pl), some (.int cell), some v, some (.str ⟨u.shw.toArray⟩), some (.str ⟨t.toArray⟩), v8], ?_, ?_⟩
    · refine ⟨u.data, v, rfl, (hu4.mono s46.toT).is, ou.small, fun Ha sa => ?_⟩
      rw [ou.isAd]
      walk_at "rd"
      refine rdN _ _ _ (s46.trans sa) (rdW_shw wu).two su.all fun Hb sb => ?_
      exact rdN _ _ _ (s46.trans (sa.trans sb)) ht hl fun Hc sc => sa.trans (sb.trans sc)
    rintro σ H7 ⟨s7, rfl⟩
    walk_at "rd"
    refine ⟨fun σ H8 => Same H7 H8 ∧ σ = [some (.ref a), some vx, some vy, some (.ref pl), some (.int cell), some v, some (.str ⟨u.shw.toArray⟩), some (.str ⟨t.toArray⟩), v8], ?_, ?_⟩
    · refine rd t _ _ ht hl fun w He se hw => ⟨u, w, rfl, hw.k, wu, su, fun Hf sf => ?_⟩
      refine L2.rd_neSS.mpr ⟨_, rfl, ?_⟩
      rw [if_neg (by simp)]
      exact ⟨se.trans sf, rfl⟩
    rintro σ H8 ⟨s8, rfl⟩
    have s48 := s46.trans (s7.trans s8)
    walk_at "rd"
    refine ⟨⟨_, .of ((s4.trans s48) _ _ e3)⟩, ?_⟩
    refine loop_list (xs := [vx, vy, vz]) (fun i σ H' => Same H8 H' ∧ ∃ v8, σ = [some (.ref a), some vx, some vy, some (.ref pl), some (.int cell), some v, some (.str ⟨u.shw.toArray⟩), some (.str ⟨t.toArray⟩), v8]) ⟨Same.refl _, _, rfl⟩ (fun i σ H' _ h => .of ((s4.trans (s48.trans h.1)) _ _ e3)) ?_ ?_
    rotate_left
    · rintro σ H9 ⟨s9, v9, rfl⟩
      exact ⟨s4.trans (s48.trans s9), _, _, _, _, rfl⟩
    rintro j v2 σ H9 hv2 ⟨s9, v9, rfl⟩
    obtain ⟨b, ob, hb⟩ := all v2 (List.mem_of_getElem? hv2)
    have hb9 := hb.mono (s4.trans (s48.trans s9)).toT
    have hu9 := hu4.mono (s48.trans s9).toT
    walk_at "rd"
    refine ⟨b, v2, rfl, hb9.k, ob.wf, ob.sz, fun H10 s10 => ?_⟩
    refine L2.rd_eqSS.mpr ?_
    refine ⟨b.data, u.data, (hb9.mono s10.toT).is, (hu9.mono s10.toT).is, ob.wf.shaped, wu.shaped, ?_⟩
    have e : decide ((⟨b.shw.toArray⟩ : Str) = ⟨u.shw.toArray⟩) = PyData.eqv b.data u.data := by
      rw [← ob.wf.shw_iff wu]
      exact decide_eq_decide.mpr mk_inj
    rw [e]
    refine L2.rd_neBB.mpr ⟨_, rfl, ?_⟩
    rw [if_neg (by simp)]
    exact ⟨s9.trans s10, _, rfl⟩
end
theorem all_mk {l : PySem.W.OpenLaw} {w : World} {K : PySem.W.Frag} {h : Heap} {mg : Str → Option Value} {fa : Addr} (X : K.In h) (Gl : h.Ns mainGlobals mg) (hfa : mg "law" = some (.ref fa))
    {kC_Cursor : Addr} (aC_Cursor : PySem.W.nsIn K mainGlobals "Cursor" = some (some (.ref kC_Cursor)))
    {f1 : Addr} {od1 an1 : Option Addr} {sl1 : Array (Option Value)} {oc1 kV1 dc1 pm1 cd1 ct1 : Value}
    (a1 : PySem.W.nsIn K mainGlobals "made_of" = some (some (.ref f1))) (l1 : K.lookup f1 = some ⟨oc1, od1, .func (PySem.W.fnOf "made_of" "made_of" (defArgs s_made_of) (defBody s_made_of) (defScope s_made_of) .none kV1 dc1 pm1 an1 cd1 ct1), sl1⟩)
    {f2 : Addr} {od2 an2 : Option Addr} {sl2 : Array (Option Value)} {oc2 kV2 dc2 pm2 cd2 ct2 : Value}
    (a2 : PySem.W.nsIn K mainGlobals "pair_of" = some (some (.ref f2))) (l2 : K.lookup f2 = some ⟨oc2, od2, .func (PySem.W.fnOf "pair_of" "pair_of" (defArgs s_pair_of) (defBody s_pair_of) (defScope s_pair_of) .none kV2 dc2 pm2 an2 cd2 ct2), sl2⟩)
    {f3 : Addr} {od3 an3 : Option Addr} {sl3 : Array (Option Value)} {oc3 kV3 dc3 pm3 cd3 ct3 : Value}
    (a3 : PySem.W.nsIn K mainGlobals "figure_number" = some (some (.ref f3))) (l3 : K.lookup f3 = some ⟨oc3, od3, .func (PySem.W.fnOf "figure_number" "figure_number" (defArgs s_figure_number) (defBody s_figure_number) (defScope s_figure_number) .none kV3 dc3 pm3 an3 cd3 ct3), sl3⟩)
    {f4 : Addr} {od4 an4 : Option Addr} {sl4 : Array (Option Value)} {oc4 kV4 dc4 pm4 cd4 ct4 : Value}
    (a4 : PySem.W.nsIn K mainGlobals "sign_numbered" = some (some (.ref f4))) (l4 : K.lookup f4 = some ⟨oc4, od4, .func (PySem.W.fnOf "sign_numbered" "sign_numbered" (defArgs s_sign_numbered) (defBody s_sign_numbered) (defScope s_sign_numbered) .none kV4 dc4 pm4 an4 cd4 ct4), sl4⟩)
    {f5 : Addr} {od5 an5 : Option Addr} {sl5 : Array (Option Value)} {oc5 kV5 dc5 pm5 cd5 ct5 : Value}
    (a5 : PySem.W.nsIn K mainGlobals "is_whole" = some (some (.ref f5))) (l5 : K.lookup f5 = some ⟨oc5, od5, .func (PySem.W.fnOf "is_whole" "is_whole" (defArgs s_is_whole) (defBody s_is_whole) (defScope s_is_whole) .none kV5 dc5 pm5 an5 cd5 ct5), sl5⟩)
    {f6 : Addr} {od6 an6 : Option Addr} {sl6 : Array (Option Value)} {oc6 kV6 dc6 pm6 cd6 ct6 : Value}
    (a6 : PySem.W.nsIn K mainGlobals "is_tuple" = some (some (.ref f6))) (l6 : K.lookup f6 = some ⟨oc6, od6, .func (PySem.W.fnOf "is_tuple" "is_tuple" (defArgs s_is_tuple) (defBody s_is_tuple) (defScope s_is_tuple) .none kV6 dc6 pm6 an6 cd6 ct6), sl6⟩)
    {f7 : Addr} {od7 an7 : Option Addr} {sl7 : Array (Option Value)} {oc7 kV7 dc7 pm7 cd7 ct7 : Value}
    (a7 : PySem.W.nsIn K mainGlobals "is_whole_number" = some (some (.ref f7))) (l7 : K.lookup f7 = some ⟨oc7, od7, .func (PySem.W.fnOf "is_whole_number" "is_whole_number" (defArgs s_is_whole_number) (defBody s_is_whole_number) (defScope s_is_whole_number) .none kV7 dc7 pm7 an7 cd7 ct7), sl7⟩)
    {f8 : Addr} {od8 an8 : Option Addr} {sl8 : Array (Option Value)} {oc8 kV8 dc8 pm8 cd8 ct8 : Value}
    (a8 : PySem.W.nsIn K mainGlobals "slashed" = some (some (.ref f8))) (l8 : K.lookup f8 = some ⟨oc8, od8, .func (PySem.W.fnOf "slashed" "slashed" (defArgs s_slashed) (defBody s_slashed) (defScope s_slashed) .none kV8 dc8 pm8 an8 cd8 ct8), sl8⟩)
    {f9 : Addr} {od9 an9 : Option Addr} {sl9 : Array (Option Value)} {oc9 kV9 dc9 pm9 cd9 ct9 : Value}
    (a9 : PySem.W.findIn K (.ref kC_Cursor) "__init__" = some (some (.ref f9))) (i9 : PySem.W.isFn K (.ref f9) = true) (l9 : K.lookup f9 = some ⟨oc9, od9, .func (PySem.W.fnOf "__init__" "Cursor.__init__" (defArgs s_Cursor___init__) (defBody s_Cursor___init__) (defScope s_Cursor___init__) .none kV9 dc9 pm9 an9 cd9 ct9), sl9⟩)
    {f10 : Addr} {od10 an10 : Option Addr} {sl10 : Array (Option Value)} {oc10 kV10 dc10 pm10 cd10 ct10 : Value}
    (a10 : PySem.W.findIn K (.ref kC_Cursor) "at_end" = some (some (.ref f10))) (i10 : PySem.W.isFn K (.ref f10) = true) (l10 : K.lookup f10 = some ⟨oc10, od10, .func (PySem.W.fnOf "at_end" "Cursor.at_end" (defArgs s_Cursor_at_end) (defBody s_Cursor_at_end) (defScope s_Cursor_at_end) .none kV10 dc10 pm10 an10 cd10 ct10), sl10⟩)
    {f11 : Addr} {od11 an11 : Option Addr} {sl11 : Array (Option Value)} {oc11 kV11 dc11 pm11 cd11 ct11 : Value}
    (a11 : PySem.W.findIn K (.ref kC_Cursor) "take" = some (some (.ref f11))) (i11 : PySem.W.isFn K (.ref f11) = true) (l11 : K.lookup f11 = some ⟨oc11, od11, .func (PySem.W.fnOf "take" "Cursor.take" (defArgs s_Cursor_take) (defBody s_Cursor_take) (defScope s_Cursor_take) .none kV11 dc11 pm11 an11 cd11 ct11), sl11⟩)
    {f12 : Addr} {od12 an12 : Option Addr} {sl12 : Array (Option Value)} {oc12 kV12 dc12 pm12 cd12 ct12 : Value}
    (a12 : PySem.W.findIn K (.ref kC_Cursor) "passes" = some (some (.ref f12))) (i12 : PySem.W.isFn K (.ref f12) = true) (l12 : K.lookup f12 = some ⟨oc12, od12, .func (PySem.W.fnOf "passes" "Cursor.passes" (defArgs s_Cursor_passes) (defBody s_Cursor_passes) (defScope s_Cursor_passes) .none kV12 dc12 pm12 an12 cd12 ct12), sl12⟩)
    {f13 : Addr} {od13 an13 : Option Addr} {sl13 : Array (Option Value)} {oc13 kV13 dc13 pm13 cd13 ct13 : Value}
    (a13 : PySem.W.nsIn K mainGlobals "door_with" = some (some (.ref f13))) (l13 : K.lookup f13 = some ⟨oc13, od13, .func (PySem.W.fnOf "door_with" "door_with" (defArgs s_door_with) (defBody s_door_with) (defScope s_door_with) .none kV13 dc13 pm13 an13 cd13 ct13), sl13⟩)
    {f14 : Addr} {od14 an14 : Option Addr} {sl14 : Array (Option Value)} {oc14 kV14 dc14 pm14 cd14 ct14 : Value}
    (a14 : PySem.W.nsIn K mainGlobals "_law_cell_at" = some (some (.ref f14))) (l14 : K.lookup f14 = some ⟨oc14, od14, .func (PySem.W.fnOf "_law_cell_at" "_law_cell_at" (defArgs s__law_cell_at) (defBody s__law_cell_at) (defScope s__law_cell_at) .none kV14 dc14 pm14 an14 cd14 ct14), sl14⟩)
    {f15 : Addr} {od15 an15 : Option Addr} {sl15 : Array (Option Value)} {oc15 kV15 dc15 pm15 cd15 ct15 : Value}
    (a15 : PySem.W.nsIn K mainGlobals "_law_table" = some (some (.ref f15))) (l15 : K.lookup f15 = some ⟨oc15, od15, .func (PySem.W.fnOf "_law_table" "_law_table" (defArgs s__law_table) (defBody s__law_table) (defScope s__law_table) .none kV15 dc15 pm15 an15 cd15 ct15), sl15⟩)
    {f16 : Addr} {od16 an16 : Option Addr} {sl16 : Array (Option Value)} {oc16 kV16 dc16 pm16 cd16 ct16 : Value}
    (a16 : PySem.W.nsIn K mainGlobals "_law_plain" = some (some (.ref f16))) (l16 : K.lookup f16 = some ⟨oc16, od16, .func (PySem.W.fnOf "_law_plain" "_law_plain" (defArgs s__law_plain) (defBody s__law_plain) (defScope s__law_plain) .none kV16 dc16 pm16 an16 cd16 ct16), sl16⟩)
    {f17 : Addr} {od17 an17 : Option Addr} {sl17 : Array (Option Value)} {oc17 kV17 dc17 pm17 cd17 ct17 : Value}
    (a17 : PySem.W.nsIn K mainGlobals "_law_deck" = some (some (.ref f17))) (l17 : K.lookup f17 = some ⟨oc17, od17, .func (PySem.W.fnOf "_law_deck" "_law_deck" (defArgs s__law_deck) (defBody s__law_deck) (defScope s__law_deck) .none kV17 dc17 pm17 an17 cd17 ct17), sl17⟩)
    {f18 : Addr} {od18 an18 : Option Addr} {sl18 : Array (Option Value)} {oc18 kV18 dc18 pm18 cd18 ct18 : Value}
    (a18 : PySem.W.nsIn K mainGlobals "_law_draw" = some (some (.ref f18))) (l18 : K.lookup f18 = some ⟨oc18, od18, .func (PySem.W.fnOf "_law_draw" "_law_draw" (defArgs s__law_draw) (defBody s__law_draw) (defScope s__law_draw) .none kV18 dc18 pm18 an18 cd18 ct18), sl18⟩)
    {f19 : Addr} {od19 an19 : Option Addr} {sl19 : Array (Option Value)} {oc19 kV19 dc19 pm19 cd19 ct19 : Value}
    (a19 : PySem.W.nsIn K mainGlobals "is_text" = some (some (.ref f19))) (l19 : K.lookup f19 = some ⟨oc19, od19, .func (PySem.W.fnOf "is_text" "is_text" (defArgs s_is_text) (defBody s_is_text) (defScope s_is_text) .none kV19 dc19 pm19 an19 cd19 ct19), sl19⟩)
    {f20 : Addr} {od20 an20 : Option Addr} {sl20 : Array (Option Value)} {oc20 kV20 dc20 pm20 cd20 ct20 : Value}
    (a20 : PySem.W.nsIn K mainGlobals "sign_of" = some (some (.ref f20))) (l20 : K.lookup f20 = some ⟨oc20, od20, .func (PySem.W.fnOf "sign_of" "sign_of" (defArgs s_sign_of) (defBody s_sign_of) (defScope s_sign_of) .none kV20 dc20 pm20 an20 cd20 ct20), sl20⟩)
    {f21 : Addr} {od21 an21 : Option Addr} {sl21 : Array (Option Value)} {oc21 kV21 dc21 pm21 cd21 ct21 : Value}
    (a21 : PySem.W.nsIn K mainGlobals "written" = some (some (.ref f21))) (l21 : K.lookup f21 = some ⟨oc21, od21, .func (PySem.W.fnOf "written" "written" (defArgs s_written) (defBody s_written) (defScope s_written) .none kV21 dc21 pm21 an21 cd21 ct21), sl21⟩)
    {f22 : Addr} {od22 an22 : Option Addr} {sl22 : Array (Option Value)} {oc22 kV22 dc22 pm22 cd22 ct22 : Value}
    (a22 : PySem.W.nsIn K mainGlobals "parts_agree" = some (some (.ref f22))) (l22 : K.lookup f22 = some ⟨oc22, od22, .func (PySem.W.fnOf "parts_agree" "parts_agree" (defArgs s_parts_agree) (defBody s_parts_agree) (defScope s_parts_agree) .none kV22 dc22 pm22 an22 cd22 ct22), sl22⟩)
    {f23 : Addr} {od23 an23 : Option Addr} {sl23 : Array (Option Value)} {oc23 kV23 dc23 pm23 cd23 ct23 : Value}
    (a23 : PySem.W.nsIn K mainGlobals "is_door" = some (some (.ref f23))) (l23 : K.lookup f23 = some ⟨oc23, od23, .func (PySem.W.fnOf "is_door" "is_door" (defArgs s_is_door) (defBody s_is_door) (defScope s_is_door) .none kV23 dc23 pm23 an23 cd23 ct23), sl23⟩)
    {f24 : Addr} {od24 an24 : Option Addr} {sl24 : Array (Option Value)} {oc24 kV24 dc24 pm24 cd24 ct24 : Value}
    (a24 : PySem.W.findIn K (.ref kC_Cursor) "sees" = some (some (.ref f24))) (i24 : PySem.W.isFn K (.ref f24) = true) (l24 : K.lookup f24 = some ⟨oc24, od24, .func (PySem.W.fnOf "sees" "Cursor.sees" (defArgs s_Cursor_sees) (defBody s_Cursor_sees) (defScope s_Cursor_sees) .none kV24 dc24 pm24 an24 cd24 ct24), sl24⟩)
    {f25 : Addr} {od25 an25 : Option Addr} {sl25 : Array (Option Value)} {oc25 kV25 dc25 pm25 cd25 ct25 : Value}
    (a25 : PySem.W.nsIn K mainGlobals "_law_hex" = some (some (.ref f25))) (l25 : K.lookup f25 = some ⟨oc25, od25, .func (PySem.W.fnOf "_law_hex" "_law_hex" (defArgs s__law_hex) (defBody s__law_hex) (defScope s__law_hex) .none kV25 dc25 pm25 an25 cd25 ct25), sl25⟩)
    {f26 : Addr} {od26 an26 : Option Addr} {sl26 : Array (Option Value)} {oc26 kV26 dc26 pm26 cd26 ct26 : Value}
    (a26 : PySem.W.nsIn K mainGlobals "_law_some" = some (some (.ref f26))) (l26 : K.lookup f26 = some ⟨oc26, od26, .func (PySem.W.fnOf "_law_some" "_law_some" (defArgs s__law_some) (defBody s__law_some) (defScope s__law_some) .none kV26 dc26 pm26 an26 cd26 ct26), sl26⟩)
    {f27 : Addr} {od27 an27 : Option Addr} {sl27 : Array (Option Value)} {oc27 kV27 dc27 pm27 cd27 ct27 : Value}
    (a27 : PySem.W.nsIn K mainGlobals "_law_scheme" = some (some (.ref f27))) (l27 : K.lookup f27 = some ⟨oc27, od27, .func (PySem.W.fnOf "_law_scheme" "_law_scheme" (defArgs s__law_scheme) (defBody s__law_scheme) (defScope s__law_scheme) .none kV27 dc27 pm27 an27 cd27 ct27), sl27⟩)
    {f28 : Addr} {od28 an28 : Option Addr} {sl28 : Array (Option Value)} {oc28 kV28 dc28 pm28 cd28 ct28 : Value}
    (a28 : PySem.W.nsIn K mainGlobals "_law_third" = some (some (.ref f28))) (l28 : K.lookup f28 = some ⟨oc28, od28, .func (PySem.W.fnOf "_law_third" "_law_third" (defArgs s__law_third) (defBody s__law_third) (defScope s__law_third) .none kV28 dc28 pm28 an28 cd28 ct28), sl28⟩)
    {f29 : Addr} {od29 an29 : Option Addr} {sl29 : Array (Option Value)} {oc29 kV29 dc29 pm29 cd29 ct29 : Value}
    (a29 : PySem.W.nsIn K mainGlobals "is_scheme" = some (some (.ref f29))) (l29 : K.lookup f29 = some ⟨oc29, od29, .func (PySem.W.fnOf "is_scheme" "is_scheme" (defArgs s_is_scheme) (defBody s_is_scheme) (defScope s_is_scheme) .none kV29 dc29 pm29 an29 cd29 ct29), sl29⟩)
    {f30 : Addr} {od30 an30 : Option Addr} {sl30 : Array (Option Value)} {oc30 kV30 dc30 pm30 cd30 ct30 : Value}
    (a30 : PySem.W.nsIn K mainGlobals "is_filled_text" = some (some (.ref f30))) (l30 : K.lookup f30 = some ⟨oc30, od30, .func (PySem.W.fnOf "is_filled_text" "is_filled_text" (defArgs s_is_filled_text) (defBody s_is_filled_text) (defScope s_is_filled_text) .none kV30 dc30 pm30 an30 cd30 ct30), sl30⟩)
    {f31 : Addr} {od31 an31 : Option Addr} {sl31 : Array (Option Value)} {oc31 kV31 dc31 pm31 cd31 ct31 : Value}
    (a31 : PySem.W.nsIn K mainGlobals "is_text_or_none" = some (some (.ref f31))) (l31 : K.lookup f31 = some ⟨oc31, od31, .func (PySem.W.fnOf "is_text_or_none" "is_text_or_none" (defArgs s_is_text_or_none) (defBody s_is_text_or_none) (defScope s_is_text_or_none) .none kV31 dc31 pm31 an31 cd31 ct31), sl31⟩)
    {f32 : Addr} {od32 an32 : Option Addr} {sl32 : Array (Option Value)} {oc32 kV32 dc32 pm32 cd32 ct32 : Value}
    (a32 : PySem.W.nsIn K mainGlobals "shown_house" = some (some (.ref f32))) (l32 : K.lookup f32 = some ⟨oc32, od32, .func (PySem.W.fnOf "shown_house" "shown_house" (defArgs s_shown_house) (defBody s_shown_house) (defScope s_shown_house) .none kV32 dc32 pm32 an32 cd32 ct32), sl32⟩)
    {f33 : Addr} {od33 an33 : Option Addr} {sl33 : Array (Option Value)} {oc33 kV33 dc33 pm33 cd33 ct33 : Value}
    (a33 : PySem.W.nsIn K mainGlobals "shown_way" = some (some (.ref f33))) (l33 : K.lookup f33 = some ⟨oc33, od33, .func (PySem.W.fnOf "shown_way" "shown_way" (defArgs s_shown_way) (defBody s_shown_way) (defScope s_shown_way) .none kV33 dc33 pm33 an33 cd33 ct33), sl33⟩)
    {f34 : Addr} {od34 an34 : Option Addr} {sl34 : Array (Option Value)} {oc34 kV34 dc34 pm34 cd34 ct34 : Value}
    (a34 : PySem.W.nsIn K mainGlobals "shown_asked" = some (some (.ref f34))) (l34 : K.lookup f34 = some ⟨oc34, od34, .func (PySem.W.fnOf "shown_asked" "shown_asked" (defArgs s_shown_asked) (defBody s_shown_asked) (defScope s_shown_asked) .none kV34 dc34 pm34 an34 cd34 ct34), sl34⟩)
    {f35 : Addr} {od35 an35 : Option Addr} {sl35 : Array (Option Value)} {oc35 kV35 dc35 pm35 cd35 ct35 : Value}
    (a35 : PySem.W.nsIn K mainGlobals "shown_mark" = some (some (.ref f35))) (l35 : K.lookup f35 = some ⟨oc35, od35, .func (PySem.W.fnOf "shown_mark" "shown_mark" (defArgs s_shown_mark) (defBody s_shown_mark) (defScope s_shown_mark) .none kV35 dc35 pm35 an35 cd35 ct35), sl35⟩)
    {f36 : Addr} {od36 an36 : Option Addr} {sl36 : Array (Option Value)} {oc36 kV36 dc36 pm36 cd36 ct36 : Value}
    (a36 : PySem.W.nsIn K mainGlobals "taken_door" = some (some (.ref f36))) (l36 : K.lookup f36 = some ⟨oc36, od36, .func (PySem.W.fnOf "taken_door" "taken_door" (defArgs s_taken_door) (defBody s_taken_door) (defScope s_taken_door) .none kV36 dc36 pm36 an36 cd36 ct36), sl36⟩)
    {f37 : Addr} {od37 an37 : Option Addr} {sl37 : Array (Option Value)} {oc37 kV37 dc37 pm37 cd37 ct37 : Value}
    (a37 : PySem.W.nsIn K mainGlobals "taken_pair" = some (some (.ref f37))) (l37 : K.lookup f37 = some ⟨oc37, od37, .func (PySem.W.fnOf "taken_pair" "taken_pair" (defArgs s_taken_pair) (defBody s_taken_pair) (defScope s_taken_pair) .none kV37 dc37 pm37 an37 cd37 ct37), sl37⟩)
    {f38 : Addr} {od38 an38 : Option Addr} {sl38 : Array (Option Value)} {oc38 kV38 dc38 pm38 cd38 ct38 : Value}
    (a38 : PySem.W.nsIn K mainGlobals "_law_steps" = some (some (.ref f38))) (l38 : K.lookup f38 = some ⟨oc38, od38, .func (PySem.W.fnOf "_law_steps" "_law_steps" (defArgs s__law_steps) (defBody s__law_steps) (defScope s__law_steps) .none kV38 dc38 pm38 an38 cd38 ct38), sl38⟩)
    {f39 : Addr} {od39 an39 : Option Addr} {sl39 : Array (Option Value)} {oc39 kV39 dc39 pm39 cd39 ct39 : Value}
    (a39 : PySem.W.nsIn K mainGlobals "_law_question" = some (some (.ref f39))) (l39 : K.lookup f39 = some ⟨oc39, od39, .func (PySem.W.fnOf "_law_question" "_law_question" (defArgs s__law_question) (defBody s__law_question) (defScope s__law_question) .none kV39 dc39 pm39 an39 cd39 ct39), sl39⟩)
    {f40 : Addr} {od40 an40 : Option Addr} {sl40 : Array (Option Value)} {oc40 kV40 dc40 pm40 cd40 ct40 : Value}
    (a40 : PySem.W.nsIn K mainGlobals "_law_loose" = some (some (.ref f40))) (l40 : K.lookup f40 = some ⟨oc40, od40, .func (PySem.W.fnOf "_law_loose" "_law_loose" (defArgs s__law_loose) (defBody s__law_loose) (defScope s__law_loose) .none kV40 dc40 pm40 an40 cd40 ct40), sl40⟩)
    {f41 : Addr} {od41 an41 : Option Addr} {sl41 : Array (Option Value)} {oc41 kV41 dc41 pm41 cd41 ct41 : Value}
    (a41 : PySem.W.nsIn K mainGlobals "is_house" = some (some (.ref f41))) (l41 : K.lookup f41 = some ⟨oc41, od41, .func (PySem.W.fnOf "is_house" "is_house" (defArgs s_is_house) (defBody s_is_house) (defScope s_is_house) .none kV41 dc41 pm41 an41 cd41 ct41), sl41⟩)
    {f42 : Addr} {od42 an42 : Option Addr} {sl42 : Array (Option Value)} {oc42 kV42 dc42 pm42 cd42 ct42 : Value}
    (a42 : PySem.W.nsIn K mainGlobals "is_steps" = some (some (.ref f42))) (l42 : K.lookup f42 = some ⟨oc42, od42, .func (PySem.W.fnOf "is_steps" "is_steps" (defArgs s_is_steps) (defBody s_is_steps) (defScope s_is_steps) .none kV42 dc42 pm42 an42 cd42 ct42), sl42⟩)
    {f43 : Addr} {od43 an43 : Option Addr} {sl43 : Array (Option Value)} {oc43 kV43 dc43 pm43 cd43 ct43 : Value}
    (a43 : PySem.W.nsIn K mainGlobals "is_asked" = some (some (.ref f43))) (l43 : K.lookup f43 = some ⟨oc43, od43, .func (PySem.W.fnOf "is_asked" "is_asked" (defArgs s_is_asked) (defBody s_is_asked) (defScope s_is_asked) .none kV43 dc43 pm43 an43 cd43 ct43), sl43⟩)
    {f44 : Addr} {od44 an44 : Option Addr} {sl44 : Array (Option Value)} {oc44 kV44 dc44 pm44 cd44 ct44 : Value}
    (a44 : PySem.W.nsIn K mainGlobals "shown_question" = some (some (.ref f44))) (l44 : K.lookup f44 = some ⟨oc44, od44, .func (PySem.W.fnOf "shown_question" "shown_question" (defArgs s_shown_question) (defBody s_shown_question) (defScope s_shown_question) .none kV44 dc44 pm44 an44 cd44 ct44), sl44⟩)
    {f45 : Addr} {od45 an45 : Option Addr} {sl45 : Array (Option Value)} {oc45 kV45 dc45 pm45 cd45 ct45 : Value}
    (a45 : PySem.W.nsIn K mainGlobals "taken_scheme" = some (some (.ref f45))) (l45 : K.lookup f45 = some ⟨oc45, od45, .func (PySem.W.fnOf "taken_scheme" "taken_scheme" (defArgs s_taken_scheme) (defBody s_taken_scheme) (defScope s_taken_scheme) .none kV45 dc45 pm45 an45 cd45 ct45), sl45⟩)
    {f46 : Addr} {od46 an46 : Option Addr} {sl46 : Array (Option Value)} {oc46 kV46 dc46 pm46 cd46 ct46 : Value}
    {T46 : Addr} {ocT46 : Value} {odT46 : Option Addr} {nT46 : Nat} {slT46 : Array (Option Value)} {dt46_0 : Tok}
    (a46 : PySem.W.nsIn K mainGlobals "taken_text" = some (some (.ref f46))) (l46 : K.lookup f46 = some ⟨oc46, od46, .func (PySem.W.fnOf "taken_text" "taken_text" (defArgs s_taken_text) (defBody s_taken_text) (defScope s_taken_text) (.ref T46) kV46 dc46 pm46 an46 cd46 ct46), sl46⟩)
    (d46 : K.lookup T46 = some ⟨ocT46, odT46, .seq #[.none] nT46, slT46⟩)
    {f47 : Addr} {od47 an47 : Option Addr} {sl47 : Array (Option Value)} {oc47 kV47 dc47 pm47 cd47 ct47 : Value}
    (a47 : PySem.W.nsIn K mainGlobals "_law_address" = some (some (.ref f47))) (l47 : K.lookup f47 = some ⟨oc47, od47, .func (PySem.W.fnOf "_law_address" "_law_address" (defArgs s__law_address) (defBody s__law_address) (defScope s__law_address) .none kV47 dc47 pm47 an47 cd47 ct47), sl47⟩)
    {f48 : Addr} {od48 an48 : Option Addr} {sl48 : Array (Option Value)} {oc48 kV48 dc48 pm48 cd48 ct48 : Value}
    (a48 : PySem.W.nsIn K mainGlobals "_law_loose_question" = some (some (.ref f48))) (l48 : K.lookup f48 = some ⟨oc48, od48, .func (PySem.W.fnOf "_law_loose_question" "_law_loose_question" (defArgs s__law_loose_question) (defBody s__law_loose_question) (defScope s__law_loose_question) .none kV48 dc48 pm48 an48 cd48 ct48), sl48⟩)
    {f49 : Addr} {od49 an49 : Option Addr} {sl49 : Array (Option Value)} {oc49 kV49 dc49 pm49 cd49 ct49 : Value}
    (a49 : PySem.W.nsIn K mainGlobals "is_way" = some (some (.ref f49))) (l49 : K.lookup f49 = some ⟨oc49, od49, .func (PySem.W.fnOf "is_way" "is_way" (defArgs s_is_way) (defBody s_is_way) (defScope s_is_way) .none kV49 dc49 pm49 an49 cd49 ct49), sl49⟩)
    {f50 : Addr} {od50 an50 : Option Addr} {sl50 : Array (Option Value)} {oc50 kV50 dc50 pm50 cd50 ct50 : Value}
    (a50 : PySem.W.nsIn K mainGlobals "is_question" = some (some (.ref f50))) (l50 : K.lookup f50 = some ⟨oc50, od50, .func (PySem.W.fnOf "is_question" "is_question" (defArgs s_is_question) (defBody s_is_question) (defScope s_is_question) .none kV50 dc50 pm50 an50 cd50 ct50), sl50⟩)
    {f51 : Addr} {od51 an51 : Option Addr} {sl51 : Array (Option Value)} {oc51 kV51 dc51 pm51 cd51 ct51 : Value}
    (a51 : PySem.W.nsIn K mainGlobals "show" = some (some (.ref f51))) (l51 : K.lookup f51 = some ⟨oc51, od51, .func (PySem.W.fnOf "show" "show" (defArgs s_show) (defBody s_show) (defScope s_show) .none kV51 dc51 pm51 an51 cd51 ct51), sl51⟩)
    {f52 : Addr} {od52 an52 : Option Addr} {sl52 : Array (Option Value)} {oc52 kV52 dc52 pm52 cd52 ct52 : Value}
    (a52 : PySem.W.nsIn K mainGlobals "taken_way" = some (some (.ref f52))) (l52 : K.lookup f52 = some ⟨oc52, od52, .func (PySem.W.fnOf "taken_way" "taken_way" (defArgs s_taken_way) (defBody s_taken_way) (defScope s_taken_way) .none kV52 dc52 pm52 an52 cd52 ct52), sl52⟩)
    {f53 : Addr} {od53 an53 : Option Addr} {sl53 : Array (Option Value)} {oc53 kV53 dc53 pm53 cd53 ct53 : Value}
    (a53 : PySem.W.nsIn K mainGlobals "taken_value" = some (some (.ref f53))) (l53 : K.lookup f53 = some ⟨oc53, od53, .func (PySem.W.fnOf "taken_value" "taken_value" (defArgs s_taken_value) (defBody s_taken_value) (defScope s_taken_value) .none kV53 dc53 pm53 an53 cd53 ct53), sl53⟩)
    {f54 : Addr} {od54 an54 : Option Addr} {sl54 : Array (Option Value)} {oc54 kV54 dc54 pm54 cd54 ct54 : Value}
    (a54 : PySem.W.nsIn K mainGlobals "taken_mark" = some (some (.ref f54))) (l54 : K.lookup f54 = some ⟨oc54, od54, .func (PySem.W.fnOf "taken_mark" "taken_mark" (defArgs s_taken_mark) (defBody s_taken_mark) (defScope s_taken_mark) .none kV54 dc54 pm54 an54 cd54 ct54), sl54⟩)
    {f55 : Addr} {od55 an55 : Option Addr} {sl55 : Array (Option Value)} {oc55 kV55 dc55 pm55 cd55 ct55 : Value}
    {T55 : Addr} {ocT55 : Value} {odT55 : Option Addr} {nT55 : Nat} {slT55 : Array (Option Value)} {dt55_0 : Tok}
    (a55 : PySem.W.nsIn K mainGlobals "taken_filled_text" = some (some (.ref f55))) (l55 : K.lookup f55 = some ⟨oc55, od55, .func (PySem.W.fnOf "taken_filled_text" "taken_filled_text" (defArgs s_taken_filled_text) (defBody s_taken_filled_text) (defScope s_taken_filled_text) (.ref T55) kV55 dc55 pm55 an55 cd55 ct55), sl55⟩)
    (d55 : K.lookup T55 = some ⟨ocT55, odT55, .seq #[.none] nT55, slT55⟩)
    {f56 : Addr} {od56 an56 : Option Addr} {sl56 : Array (Option Value)} {oc56 kV56 dc56 pm56 cd56 ct56 : Value}
    (a56 : PySem.W.nsIn K mainGlobals "_law_loosely" = some (some (.ref f56))) (l56 : K.lookup f56 = some ⟨oc56, od56, .func (PySem.W.fnOf "_law_loosely" "_law_loosely" (defArgs s__law_loosely) (defBody s__law_loosely) (defScope s__law_loosely) .none kV56 dc56 pm56 an56 cd56 ct56), sl56⟩)
    {f57 : Addr} {od57 an57 : Option Addr} {sl57 : Array (Option Value)} {oc57 kV57 dc57 pm57 cd57 ct57 : Value}
    (a57 : PySem.W.nsIn K mainGlobals "parts_stand" = some (some (.ref f57))) (l57 : K.lookup f57 = some ⟨oc57, od57, .func (PySem.W.fnOf "parts_stand" "parts_stand" (defArgs s_parts_stand) (defBody s_parts_stand) (defScope s_parts_stand) .none kV57 dc57 pm57 an57 cd57 ct57), sl57⟩)
    {f58 : Addr} {od58 an58 : Option Addr} {sl58 : Array (Option Value)} {oc58 kV58 dc58 pm58 cd58 ct58 : Value}
    (a58 : PySem.W.nsIn K mainGlobals "taken_house" = some (some (.ref f58))) (l58 : K.lookup f58 = some ⟨oc58, od58, .func (PySem.W.fnOf "taken_house" "taken_house" (defArgs s_taken_house) (defBody s_taken_house) (defScope s_taken_house) .none kV58 dc58 pm58 an58 cd58 ct58), sl58⟩)
    {f59 : Addr} {od59 an59 : Option Addr} {sl59 : Array (Option Value)} {oc59 kV59 dc59 pm59 cd59 ct59 : Value}
    (a59 : PySem.W.nsIn K mainGlobals "taken_question" = some (some (.ref f59))) (l59 : K.lookup f59 = some ⟨oc59, od59, .func (PySem.W.fnOf "taken_question" "taken_question" (defArgs s_taken_question) (defBody s_taken_question) (defScope s_taken_question) .none kV59 dc59 pm59 an59 cd59 ct59), sl59⟩)
    {f60 : Addr} {od60 an60 : Option Addr} {sl60 : Array (Option Value)} {oc60 kV60 dc60 pm60 cd60 ct60 : Value}
    (a60 : PySem.W.nsIn K mainGlobals "is_address" = some (some (.ref f60))) (l60 : K.lookup f60 = some ⟨oc60, od60, .func (PySem.W.fnOf "is_address" "is_address" (defArgs s_is_address) (defBody s_is_address) (defScope s_is_address) .none kV60 dc60 pm60 an60 cd60 ct60), sl60⟩)
    {f61 : Addr} {od61 an61 : Option Addr} {sl61 : Array (Option Value)} {oc61 kV61 dc61 pm61 cd61 ct61 : Value}
    (a61 : PySem.W.nsIn K mainGlobals "read" = some (some (.ref f61))) (l61 : K.lookup f61 = some ⟨oc61, od61, .func (PySem.W.fnOf "read" "read" (defArgs s_read) (defBody s_read) (defScope s_read) .none kV61 dc61 pm61 an61 cd61 ct61), sl61⟩)
    {f62 : Addr} {od62 an62 : Option Addr} {sl62 : Array (Option Value)} {oc62 kV62 dc62 pm62 cd62 ct62 : Value}
    (a62 : PySem.W.nsIn K mainGlobals "law" = some (some (.ref f62))) (l62 : K.lookup f62 = some ⟨oc62, od62, .func (PySem.W.fnOf "law" "law" (defArgs s_law) (defBody s_law) (defScope s_law) .none kV62 dc62 pm62 an62 cd62 ct62), sl62⟩)
    {t_SIGNS : Tok} (e_SIGNS : PySem.W.nsIn K mainGlobals "SIGNS" = some (some (.str (Str.ofString " !\"#$&'()*+,-./0123456789:;<=>?@ABCDEFGHIJKLMNOPQRSTUVWXYZ[\\]^_`abcdefghijklmnopqrstuvwxyz{|}~") t_SIGNS)))
    {t_LETTERS : Tok} (e_LETTERS : PySem.W.nsIn K mainGlobals "LETTERS" = some (some (.str (Str.ofString "abcdefghijklmnopqrstuvwxyzABCDEFGHIJKLMNOPQRSTUVWXYZ") t_LETTERS)))
    {t_LETTERS_AND_FIGURES : Tok} (e_LETTERS_AND_FIGURES : PySem.W.nsIn K mainGlobals "LETTERS_AND_FIGURES" = some (some (.str (Str.ofString "abcdefghijklmnopqrstuvwxyzABCDEFGHIJKLMNOPQRSTUVWXYZ0123456789") t_LETTERS_AND_FIGURES)))
    {t_FIGURES : Tok} (e_FIGURES : PySem.W.nsIn K mainGlobals "FIGURES" = some (some (.str (Str.ofString "0123456789") t_FIGURES)))
    {t_PLAIN : Tok} (e_PLAIN : PySem.W.nsIn K mainGlobals "PLAIN" = some (some (.str (Str.ofString "abcdefghijklmnopqrstuvwxyzABCDEFGHIJKLMNOPQRSTUVWXYZ0123456789-_.") t_PLAIN)))
    {t_FREE_IN_STEPS : Tok} (e_FREE_IN_STEPS : PySem.W.nsIn K mainGlobals "FREE_IN_STEPS" = some (some (.str (Str.ofString "!$'()*,;@&=+") t_FREE_IN_STEPS)))
    {t_FREE_IN_QUESTIONS : Tok} (e_FREE_IN_QUESTIONS : PySem.W.nsIn K mainGlobals "FREE_IN_QUESTIONS" = some (some (.str (Str.ofString "!$'()*,;@+/?:") t_FREE_IN_QUESTIONS)))
    {t_FREE_IN_MARKS : Tok} (e_FREE_IN_MARKS : PySem.W.nsIn K mainGlobals "FREE_IN_MARKS" = some (some (.str (Str.ofString "!$'()*,;@&=+/?:") t_FREE_IN_MARKS)))
    {t_FIRST_NUMBER : Tok} (e_FIRST_NUMBER : PySem.W.nsIn K mainGlobals "FIRST_NUMBER" = some (some (.int 32 t_FIRST_NUMBER)))
    {t_LAST_NUMBER : Tok} (e_LAST_NUMBER : PySem.W.nsIn K mainGlobals "LAST_NUMBER" = some (some (.int 126 t_LAST_NUMBER)))
    {t_NUMBER_LEFT_OUT : Tok} (e_NUMBER_LEFT_OUT : PySem.W.nsIn K mainGlobals "NUMBER_LEFT_OUT" = some (some (.int 37 t_NUMBER_LEFT_OUT)))
    {t_SMALL_FIGURES : Tok} (e_SMALL_FIGURES : PySem.W.nsIn K mainGlobals "SMALL_FIGURES" = some (some (.str (Str.ofString "0123456789abcdef") t_SMALL_FIGURES)))
    {t_GREAT_FIGURES : Tok} (e_GREAT_FIGURES : PySem.W.nsIn K mainGlobals "GREAT_FIGURES" = some (some (.str (Str.ofString "0123456789ABCDEF") t_GREAT_FIGURES)))
    {t_SCHEME : Tok} (e_SCHEME : PySem.W.nsIn K mainGlobals "SCHEME" = some (some (.int 0 t_SCHEME)))
    {t_HOUSE : Tok} (e_HOUSE : PySem.W.nsIn K mainGlobals "HOUSE" = some (some (.int 1 t_HOUSE)))
    {t_DOOR : Tok} (e_DOOR : PySem.W.nsIn K mainGlobals "DOOR" = some (some (.int 2 t_DOOR)))
    {t_WAY : Tok} (e_WAY : PySem.W.nsIn K mainGlobals "WAY" = some (some (.int 3 t_WAY)))
    {t_QUESTION : Tok} (e_QUESTION : PySem.W.nsIn K mainGlobals "QUESTION" = some (some (.int 4 t_QUESTION)))
    {t_MARK : Tok} (e_MARK : PySem.W.nsIn K mainGlobals "MARK" = some (some (.int 5 t_MARK)))
    {t_ROOTED : Tok} (e_ROOTED : PySem.W.nsIn K mainGlobals "ROOTED" = some (some (.int 0 t_ROOTED)))
    {t_STEPS : Tok} (e_STEPS : PySem.W.nsIn K mainGlobals "STEPS" = some (some (.int 1 t_STEPS)))
    {t_ENDS : Tok} (e_ENDS : PySem.W.nsIn K mainGlobals "ENDS" = some (some (.int 2 t_ENDS)))
    {t_LONGEST_SCHEME : Tok} (e_LONGEST_SCHEME : PySem.W.nsIn K mainGlobals "LONGEST_SCHEME" = some (some (.int 8 t_LONGEST_SCHEME)))
    {t_LONGEST_HOUSE : Tok} (e_LONGEST_HOUSE : PySem.W.nsIn K mainGlobals "LONGEST_HOUSE" = some (some (.int 60 t_LONGEST_HOUSE)))
    {t_LAST_DOOR : Tok} (e_LAST_DOOR : PySem.W.nsIn K mainGlobals "LAST_DOOR" = some (some (.int 65535 t_LAST_DOOR)))
    {t_FIRST_FIGURES : Tok} (e_FIRST_FIGURES : PySem.W.nsIn K mainGlobals "FIRST_FIGURES" = some (some (.str (Str.ofString "234567") t_FIRST_FIGURES)))
    (z_all : PySem.W.nsIn K mainGlobals "all" = some none)
    (z_ord : PySem.W.nsIn K mainGlobals "ord" = some none)
    (z_len : PySem.W.nsIn K mainGlobals "len" = some none)
    (z_isinstance : PySem.W.nsIn K mainGlobals "isinstance" = some none)
    (z_tuple : PySem.W.nsIn K mainGlobals "tuple" = some none)
    (z_bool : PySem.W.nsIn K mainGlobals "bool" = some none)
    (z_int : PySem.W.nsIn K mainGlobals "int" = some none)
    (z_str : PySem.W.nsIn K mainGlobals "str" = some none)
    (z_range : PySem.W.nsIn K mainGlobals "range" = some none)
    (pg_Cursor : PySem.W.plainGet K kC_Cursor Str.empty = true)
    (hd_Cursor : PySem.W.hasDictIn K kC_Cursor = true)
    (po_Cursor : PySem.W.plainOver K kC_Cursor = true)
    (sa_Cursor : PySem.W.findIn K (.ref kC_Cursor) "__setattr__" = some (some (.builtin "object.__setattr__")))
    (mk_Cursor : PySem.W.makesIn K kC_Cursor = true)
    (kc_Cursor : PySem.W.keepIn K (.ref kC_Cursor) = true)
    (nf_Cursor_text : PySem.W.findIn K (.ref kC_Cursor) "text" = some none)
    (nf_Cursor_place : PySem.W.findIn K (.ref kC_Cursor) "place" = some none)
    (kk : (PySem.W.keepIn K (.ref f1) && (PySem.W.keepIn K (.ref f2) && (PySem.W.keepIn K (.ref f3) && (PySem.W.keepIn K (.ref f4) && (PySem.W.keepIn K (.ref f5) && (PySem.W.keepIn K (.ref f6) && (PySem.W.keepIn K (.ref f7) && (PySem.W.keepIn K (.ref f8) && (PySem.W.keepIn K (.ref f9) && (PySem.W.keepIn K (.ref f10) && (PySem.W.keepIn K (.ref f11) && (PySem.W.keepIn K (.ref f12) && (PySem.W.keepIn K (.ref f13) && (PySem.W.keepIn K (.ref f14) && (PySem.W.keepIn K (.ref f15) && (PySem.W.keepIn K (.ref f16) && (PySem.W.keepIn K (.ref f17) && (PySem.W.keepIn K (.ref f18) && (PySem.W.keepIn K (.ref f19) && (PySem.W.keepIn K (.ref f20) && (PySem.W.keepIn K (.ref f21) && (PySem.W.keepIn K (.ref f22) && (PySem.W.keepIn K (.ref f23) && (PySem.W.keepIn K (.ref f24) && (PySem.W.keepIn K (.ref f25) && (PySem.W.keepIn K (.ref f26) && (PySem.W.keepIn K (.ref f27) && (PySem.W.keepIn K (.ref f28) && (PySem.W.keepIn K (.ref f29) && (PySem.W.keepIn K (.ref f30) && (PySem.W.keepIn K (.ref f31) && (PySem.W.keepIn K (.ref f32) && (PySem.W.keepIn K (.ref f33) && (PySem.W.keepIn K (.ref f34) && (PySem.W.keepIn K (.ref f35) && (PySem.W.keepIn K (.ref f36) && (PySem.W.keepIn K (.ref f37) && (PySem.W.keepIn K (.ref f38) && (PySem.W.keepIn K (.ref f39) && (PySem.W.keepIn K (.ref f40) && (PySem.W.keepIn K (.ref f41) && (PySem.W.keepIn K (.ref f42) && (PySem.W.keepIn K (.ref f43) && (PySem.W.keepIn K (.ref f44) && (PySem.W.keepIn K (.ref f45) && (PySem.W.keepIn K (.ref f46) && (PySem.W.keepIn K (.ref f47) && (PySem.W.keepIn K (.ref f48) && (PySem.W.keepIn K (.ref f49) && (PySem.W.keepIn K (.ref f50) && (PySem.W.keepIn K (.ref f51) && (PySem.W.keepIn K (.ref f52) && (PySem.W.keepIn K (.ref f53) && (PySem.W.keepIn K (.ref f54) && (PySem.W.keepIn K (.ref f55) && (PySem.W.keepIn K (.ref f56) && (PySem.W.keepIn K (.ref f57) && (PySem.W.keepIn K (.ref f58) && (PySem.W.keepIn K (.ref f59) && (PySem.W.keepIn K (.ref f60) && (PySem.W.keepIn K (.ref f61) && (PySem.W.keepIn K (.ref f62))))))))))))))))))))))))))))))))))))))))))))))))))))))))))))))) = true)
    (cc : (PySem.W.codeIn K cd1 "made_of" && (PySem.W.codeIn K cd2 "pair_of" && (PySem.W.codeIn K cd3 "figure_number" && (PySem.W.codeIn K cd4 "sign_numbered" && (PySem.W.codeIn K cd5 "is_whole" && (PySem.W.codeIn K cd6 "is_tuple" && (PySem.W.codeIn K cd7 "is_whole_number" && (PySem.W.codeIn K cd8 "slashed" && (PySem.W.codeIn K cd9 "Cursor.__init__" && (PySem.W.codeIn K cd10 "Cursor.at_end" && (PySem.W.codeIn K cd11 "Cursor.take" && (PySem.W.codeIn K cd12 "Cursor.passes" && (PySem.W.codeIn K cd13 "door_with" && (PySem.W.codeIn K cd14 "_law_cell_at" && (PySem.W.codeIn K cd15 "_law_table" && (PySem.W.codeIn K cd16 "_law_plain" && (PySem.W.codeIn K cd17 "_law_deck" && (PySem.W.codeIn K cd18 "_law_draw" && (PySem.W.codeIn K cd19 "is_text" && (PySem.W.codeIn K cd20 "sign_of" && (PySem.W.codeIn K cd21 "written" && (PySem.W.codeIn K cd22 "parts_agree" && (PySem.W.codeIn K cd23 "is_door" && (PySem.W.codeIn K cd24 "Cursor.sees" && (PySem.W.codeIn K cd25 "_law_hex" && (PySem.W.codeIn K cd26 "_law_some" && (PySem.W.codeIn K cd27 "_law_scheme" && (PySem.W.codeIn K cd28 "_law_third" && (PySem.W.codeIn K cd29 "is_scheme" && (PySem.W.codeIn K cd30 "is_filled_text" && (PySem.W.codeIn K cd31 "is_text_or_none" && (PySem.W.codeIn K cd32 "shown_house" && (PySem.W.codeIn K cd33 "shown_way" && (PySem.W.codeIn K cd34 "shown_asked" && (PySem.W.codeIn K cd35 "shown_mark" && (PySem.W.codeIn K cd36 "taken_door" && (PySem.W.codeIn K cd37 "taken_pair" && (PySem.W.codeIn K cd38 "_law_steps" && (PySem.W.codeIn K cd39 "_law_question" && (PySem.W.codeIn K cd40 "_law_loose" && (PySem.W.codeIn K cd41 "is_house" && (PySem.W.codeIn K cd42 "is_steps" && (PySem.W.codeIn K cd43 "is_asked" && (PySem.W.codeIn K cd44 "shown_question" && (PySem.W.codeIn K cd45 "taken_scheme" && (PySem.W.codeIn K cd46 "taken_text" && (PySem.W.codeIn K cd47 "_law_address" && (PySem.W.codeIn K cd48 "_law_loose_question" && (PySem.W.codeIn K cd49 "is_way" && (PySem.W.codeIn K cd50 "is_question" && (PySem.W.codeIn K cd51 "show" && (PySem.W.codeIn K cd52 "taken_way" && (PySem.W.codeIn K cd53 "taken_value" && (PySem.W.codeIn K cd54 "taken_mark" && (PySem.W.codeIn K cd55 "taken_filled_text" && (PySem.W.codeIn K cd56 "_law_loosely" && (PySem.W.codeIn K cd57 "parts_stand" && (PySem.W.codeIn K cd58 "taken_house" && (PySem.W.codeIn K cd59 "taken_question" && (PySem.W.codeIn K cd60 "is_address" && (PySem.W.codeIn K cd61 "read" && (PySem.W.codeIn K cd62 "law")))))))))))))))))))))))))))))))))))))))))))))))))))))))))))))) = true) :
    ∃ fd : FuncData, (∀ (s : Shared) (v : Value), BindsTo s fd ⟨[v], []⟩ [("_law_script", v)]) ∧ ∀ base : Heap, K.In base → base.Ns mainGlobals mg → FnOk l.prog w K mg base CX0 8 fa fd ["_law_script"] (sp_law K) := by
  simp only [Bool.and_eq_true] at kk cc
  obtain ⟨k1, k2, k3, k4, k5, k6, k7, k8, k9, k10, k11, k12, k13, k14, k15, k16, k17, k18, k19, k20, k21, k22, k23, k24, k25, k26, k27, k28, k29, k30, k31, k32, k33, k34, k35, k36, k37, k38, k39, k40, k41, k42, k43, k44, k45, k46, k47, k48, k49, k50, k51, k52, k53, k54, k55, k56, k57, k58, k59, k60, k61, k62⟩ := kk
  obtain ⟨c1, c2, c3, c4, c5, c6, c7, c8, c9, c10, c11, c12, c13, c14, c15, c16, c17, c18, c19, c20, c21, c22, c23, c24, c25, c26, c27, c28, c29, c30, c31, c32, c33, c34, c35, c36, c37, c38, c39, c40, c41, c42, c43, c44, c45, c46, c47, c48, c49, c50, c51, c52, c53, c54, c55, c56, c57, c58, c59, c60, c61, c62⟩ := cc
  have e := hfa.symm.trans (PySem.W.mg_of X Gl a62)
  have e2 : f62 = fa := by cases e; rfl
  subst e2
  let g : G K mg := {
    a_made_of := f1, fd_made_of := _, F_made_of := fun_mk (st := s_made_of) l1 c1 k1, m_made_of := PySem.W.mg_of X Gl a1,
    b_made_of := (fun_mk (st := s_made_of) l1 c1 k1).binds (ps := ["text", "signs"]) fun _ _ _ _ _ _ us hl => match us, hl with | [_, _], _ => rfl,
    a_pair_of := f2, fd_pair_of := _, F_pair_of := fun_mk (st := s_pair_of) l2 c2 k2, m_pair_of := PySem.W.mg_of X Gl a2,
    b_pair_of := (fun_mk (st := s_pair_of) l2 c2 k2).binds (ps := ["sign"]) fun _ _ _ _ _ _ us hl => match us, hl with | [_], _ => rfl,
    a_figure_number := f3, fd_figure_number := _, F_figure_number := fun_mk (st := s_figure_number) l3 c3 k3, m_figure_number := PySem.W.mg_of X Gl a3,
    b_figure_number := (fun_mk (st := s_figure_number) l3 c3 k3).binds (ps := ["figure"]) fun _ _ _ _ _ _ us hl => match us, hl with | [_], _ => rfl,
    a_sign_numbered := f4, fd_sign_numbered := _, F_sign_numbered := fun_mk (st := s_sign_numbered) l4 c4 k4, m_sign_numbered := PySem.W.mg_of X Gl a4,
    b_sign_numbered := (fun_mk (st := s_sign_numbered) l4 c4 k4).binds (ps := ["number"]) fun _ _ _ _ _ _ us hl => match us, hl with | [_], _ => rfl,
    a_is_whole := f5, fd_is_whole := _, F_is_whole := fun_mk (st := s_is_whole) l5 c5 k5, m_is_whole := PySem.W.mg_of X Gl a5,
    b_is_whole := (fun_mk (st := s_is_whole) l5 c5 k5).binds (ps := ["address"]) fun _ _ _ _ _ _ us hl => match us, hl with | [_], _ => rfl,
    a_is_tuple := f6, fd_is_tuple := _, F_is_tuple := fun_mk (st := s_is_tuple) l6 c6 k6, m_is_tuple := PySem.W.mg_of X Gl a6,
    b_is_tuple := (fun_mk (st := s_is_tuple) l6 c6 k6).binds (ps := ["thing", "count"]) fun _ _ _ _ _ _ us hl => match us, hl with | [_, _], _ => rfl,
    a_is_whole_number := f7, fd_is_whole_number := _, F_is_whole_number := fun_mk (st := s_is_whole_number) l7 c7 k7, m_is_whole_number := PySem.W.mg_of X Gl a7,
    b_is_whole_number := (fun_mk (st := s_is_whole_number) l7 c7 k7).binds (ps := ["thing"]) fun _ _ _ _ _ _ us hl => match us, hl with | [_], _ => rfl,
    a_slashed := f8, fd_slashed := _, F_slashed := fun_mk (st := s_slashed) l8 c8 k8, m_slashed := PySem.W.mg_of X Gl a8,
    b_slashed := (fun_mk (st := s_slashed) l8 c8 k8).binds (ps := ["rooted", "texts", "ends"]) fun _ _ _ _ _ _ us hl => match us, hl with | [_, _, _], _ => rfl,
    a_Cursor___init__ := f9, fd_Cursor___init__ := _, F_Cursor___init__ := fun_mk (st := s_Cursor___init__) l9 c9 k9,
    b_Cursor___init__ := (fun_mk (st := s_Cursor___init__) l9 c9 k9).binds (ps := ["self", "text"]) fun _ _ _ _ _ _ us hl => match us, hl with | [_, _], _ => rfl,
    a_Cursor_at_end := f10, fd_Cursor_at_end := _, F_Cursor_at_end := fun_mk (st := s_Cursor_at_end) l10 c10 k10, me_Cursor_at_end := ⟨a10, i10, k10⟩,
    b_Cursor_at_end := (fun_mk (st := s_Cursor_at_end) l10 c10 k10).binds (ps := ["self"]) fun _ _ _ _ _ _ us hl => match us, hl with | [_], _ => rfl,
    a_Cursor_take := f11, fd_Cursor_take := _, F_Cursor_take := fun_mk (st := s_Cursor_take) l11 c11 k11, me_Cursor_take := ⟨a11, i11, k11⟩,
    b_Cursor_take := (fun_mk (st := s_Cursor_take) l11 c11 k11).binds (ps := ["self"]) fun _ _ _ _ _ _ us hl => match us, hl with | [_], _ => rfl,
    a_Cursor_passes := f12, fd_Cursor_passes := _, F_Cursor_passes := fun_mk (st := s_Cursor_passes) l12 c12 k12, me_Cursor_passes := ⟨a12, i12, k12⟩,
    b_Cursor_passes := (fun_mk (st := s_Cursor_passes) l12 c12 k12).binds (ps := ["self", "text"]) fun _ _ _ _ _ _ us hl => match us, hl with | [_, _], _ => rfl,
    a_door_with := f13, fd_door_with := _, F_door_with := fun_mk (st := s_door_with) l13 c13 k13, m_door_with := PySem.W.mg_of X Gl a13,
    b_door_with := (fun_mk (st := s_door_with) l13 c13 k13).binds (ps := ["door", "cursor"]) fun _ _ _ _ _ _ us hl => match us, hl with | [_, _], _ => rfl,
    a__law_cell_at := f14, fd__law_cell_at := _, F__law_cell_at := fun_mk (st := s__law_cell_at) l14 c14 k14, m__law_cell_at := PySem.W.mg_of X Gl a14,
    b__law_cell_at := (fun_mk (st := s__law_cell_at) l14 c14 k14).binds (ps := ["_law_script", "_law_k"]) fun _ _ _ _ _ _ us hl => match us, hl with | [_, _], _ => rfl,
    a__law_table := f15, fd__law_table := _, F__law_table := fun_mk (st := s__law_table) l15 c15 k15, m__law_table := PySem.W.mg_of X Gl a15,
    b__law_table := (fun_mk (st := s__law_table) l15 c15 k15).binds (ps := []) fun _ _ _ _ _ _ us hl => match us, hl with | [], _ => rfl,
    a__law_plain := f16, fd__law_plain := _, F__law_plain := fun_mk (st := s__law_plain) l16 c16 k16, m__law_plain := PySem.W.mg_of X Gl a16,
    b__law_plain := (fun_mk (st := s__law_plain) l16 c16 k16).binds (ps := ["_law_sign"]) fun _ _ _ _ _ _ us hl => match us, hl with | [_], _ => rfl,
    a__law_deck := f17, fd__law_deck := _, F__law_deck := fun_mk (st := s__law_deck) l17 c17 k17, m__law_deck := PySem.W.mg_of X Gl a17,
    b__law_deck := (fun_mk (st := s__law_deck) l17 c17 k17).binds (ps := ["_law_cell"]) fun _ _ _ _ _ _ us hl => match us, hl with | [_], _ => rfl,
    a__law_draw := f18, fd__law_draw := _, F__law_draw := fun_mk (st := s__law_draw) l18 c18 k18, m__law_draw := PySem.W.mg_of X Gl a18,
    b__law_draw := (fun_mk (st := s__law_draw) l18 c18 k18).binds (ps := ["_law_deck_here", "_law_most"]) fun _ _ _ _ _ _ us hl => match us, hl with | [_, _], _ => rfl,
    a_is_text := f19, fd_is_text := _, F_is_text := fun_mk (st := s_is_text) l19 c19 k19, m_is_text := PySem.W.mg_of X Gl a19,
    b_is_text := (fun_mk (st := s_is_text) l19 c19 k19).binds (ps := ["thing"]) fun _ _ _ _ _ _ us hl => match us, hl with | [_], _ => rfl,
    a_sign_of := f20, fd_sign_of := _, F_sign_of := fun_mk (st := s_sign_of) l20 c20 k20, m_sign_of := PySem.W.mg_of X Gl a20,
    b_sign_of := (fun_mk (st := s_sign_of) l20 c20 k20).binds (ps := ["figures"]) fun _ _ _ _ _ _ us hl => match us, hl with | [_], _ => rfl,
    a_written := f21, fd_written := _, F_written := fun_mk (st := s_written) l21 c21 k21, m_written := PySem.W.mg_of X Gl a21,
    b_written := (fun_mk (st := s_written) l21 c21 k21).binds (ps := ["text"]) fun _ _ _ _ _ _ us hl => match us, hl with | [_], _ => rfl,
    a_parts_agree := f22, fd_parts_agree := _, F_parts_agree := fun_mk (st := s_parts_agree) l22 c22 k22, m_parts_agree := PySem.W.mg_of X Gl a22,
    b_parts_agree := (fun_mk (st := s_parts_agree) l22 c22 k22).binds (ps := ["address"]) fun _ _ _ _ _ _ us hl => match us, hl with | [_], _ => rfl,
    a_is_door := f23, fd_is_door := _, F_is_door := fun_mk (st := s_is_door) l23 c23 k23, m_is_door := PySem.W.mg_of X Gl a23,
    b_is_door := (fun_mk (st := s_is_door) l23 c23 k23).binds (ps := ["thing"]) fun _ _ _ _ _ _ us hl => match us, hl with | [_], _ => rfl,
    a_Cursor_sees := f24, fd_Cursor_sees := _, F_Cursor_sees := fun_mk (st := s_Cursor_sees) l24 c24 k24, me_Cursor_sees := ⟨a24, i24, k24⟩,
    b_Cursor_sees := (fun_mk (st := s_Cursor_sees) l24 c24 k24).binds (ps := ["self", "signs"]) fun _ _ _ _ _ _ us hl => match us, hl with | [_, _], _ => rfl,
    a__law_hex := f25, fd__law_hex := _, F__law_hex := fun_mk (st := s__law_hex) l25 c25 k25, m__law_hex := PySem.W.mg_of X Gl a25,
    b__law_hex := (fun_mk (st := s__law_hex) l25 c25 k25).binds (ps := ["_law_sign"]) fun _ _ _ _ _ _ us hl => match us, hl with | [_], _ => rfl,
    a__law_some := f26, fd__law_some := _, F__law_some := fun_mk (st := s__law_some) l26 c26 k26, m__law_some := PySem.W.mg_of X Gl a26,
    b__law_some := (fun_mk (st := s__law_some) l26 c26 k26).binds (ps := ["_law_deck_here", "_law_size"]) fun _ _ _ _ _ _ us hl => match us, hl with | [_, _], _ => rfl,
    a__law_scheme := f27, fd__law_scheme := _, F__law_scheme := fun_mk (st := s__law_scheme) l27 c27 k27, m__law_scheme := PySem.W.mg_of X Gl a27,
    b__law_scheme := (fun_mk (st := s__law_scheme) l27 c27 k27).binds (ps := ["_law_deck_here"]) fun _ _ _ _ _ _ us hl => match us, hl with | [_], _ => rfl,
    a__law_third := f28, fd__law_third := _, F__law_third := fun_mk (st := s__law_third) l28 c28 k28, m__law_third := PySem.W.mg_of X Gl a28,
    b__law_third := (fun_mk (st := s__law_third) l28 c28 k28).binds (ps := ["_law_one", "_law_other", "_law_script"]) fun _ _ _ _ _ _ us hl => match us, hl with | [_, _, _], _ => rfl,
    a_is_scheme := f29, fd_is_scheme := _, F_is_scheme := fun_mk (st := s_is_scheme) l29 c29 k29, m_is_scheme := PySem.W.mg_of X Gl a29,
    b_is_scheme := (fun_mk (st := s_is_scheme) l29 c29 k29).binds (ps := ["thing"]) fun _ _ _ _ _ _ us hl => match us, hl with | [_], _ => rfl,
    a_is_filled_text := f30, fd_is_filled_text := _, F_is_filled_text := fun_mk (st := s_is_filled_text) l30 c30 k30, m_is_filled_text := PySem.W.mg_of X Gl a30,
    b_is_filled_text := (fun_mk (st := s_is_filled_text) l30 c30 k30).binds (ps := ["thing"]) fun _ _ _ _ _ _ us hl => match us, hl with | [_], _ => rfl,
    a_is_text_or_none := f31, fd_is_text_or_none := _, F_is_text_or_none := fun_mk (st := s_is_text_or_none) l31 c31 k31, m_is_text_or_none := PySem.W.mg_of X Gl a31,
    b_is_text_or_none := (fun_mk (st := s_is_text_or_none) l31 c31 k31).binds (ps := ["thing"]) fun _ _ _ _ _ _ us hl => match us, hl with | [_], _ => rfl,
    a_shown_house := f32, fd_shown_house := _, F_shown_house := fun_mk (st := s_shown_house) l32 c32 k32, m_shown_house := PySem.W.mg_of X Gl a32,
    b_shown_house := (fun_mk (st := s_shown_house) l32 c32 k32).binds (ps := ["house", "door"]) fun _ _ _ _ _ _ us hl => match us, hl with | [_, _], _ => rfl,
    a_shown_way := f33, fd_shown_way := _, F_shown_way := fun_mk (st := s_shown_way) l33 c33 k33, m_shown_way := PySem.W.mg_of X Gl a33,
    b_shown_way := (fun_mk (st := s_shown_way) l33 c33 k33).binds (ps := ["way"]) fun _ _ _ _ _ _ us hl => match us, hl with | [_], _ => rfl,
    a_shown_asked := f34, fd_shown_asked := _, F_shown_asked := fun_mk (st := s_shown_asked) l34 c34 k34, m_shown_asked := PySem.W.mg_of X Gl a34,
    b_shown_asked := (fun_mk (st := s_shown_asked) l34 c34 k34).binds (ps := ["name", "value"]) fun _ _ _ _ _ _ us hl => match us, hl with | [_, _], _ => rfl,
    a_shown_mark := f35, fd_shown_mark := _, F_shown_mark := fun_mk (st := s_shown_mark) l35 c35 k35, m_shown_mark := PySem.W.mg_of X Gl a35,
    b_shown_mark := (fun_mk (st := s_shown_mark) l35 c35 k35).binds (ps := ["mark"]) fun _ _ _ _ _ _ us hl => match us, hl with | [_], _ => rfl,
    a_taken_door := f36, fd_taken_door := _, F_taken_door := fun_mk (st := s_taken_door) l36 c36 k36, m_taken_door := PySem.W.mg_of X Gl a36,
    b_taken_door := (fun_mk (st := s_taken_door) l36 c36 k36).binds (ps := ["cursor"]) fun _ _ _ _ _ _ us hl => match us, hl with | [_], _ => rfl,
    a_taken_pair := f37, fd_taken_pair := _, F_taken_pair := fun_mk (st := s_taken_pair) l37 c37 k37, m_taken_pair := PySem.W.mg_of X Gl a37,
    b_taken_pair := (fun_mk (st := s_taken_pair) l37 c37 k37).binds (ps := ["cursor"]) fun _ _ _ _ _ _ us hl => match us, hl with | [_], _ => rfl,
    a__law_steps := f38, fd__law_steps := _, F__law_steps := fun_mk (st := s__law_steps) l38 c38 k38, m__law_steps := PySem.W.mg_of X Gl a38,
    b__law_steps := (fun_mk (st := s__law_steps) l38 c38 k38).binds (ps := ["_law_deck_here"]) fun _ _ _ _ _ _ us hl => match us, hl with | [_], _ => rfl,
    a__law_question := f39, fd__law_question := _, F__law_question := fun_mk (st := s__law_question) l39 c39 k39, m__law_question := PySem.W.mg_of X Gl a39,
    b__law_question := (fun_mk (st := s__law_question) l39 c39 k39).binds (ps := ["_law_deck_here"]) fun _ _ _ _ _ _ us hl => match us, hl with | [_], _ => rfl,
    a__law_loose := f40, fd__law_loose := _, F__law_loose := fun_mk (st := s__law_loose) l40 c40 k40, m__law_loose := PySem.W.mg_of X Gl a40,
    b__law_loose := (fun_mk (st := s__law_loose) l40 c40 k40).binds (ps := ["_law_text", "_law_free", "_law_cell"]) fun _ _ _ _ _ _ us hl => match us, hl with | [_, _, _], _ => rfl,
    a_is_house := f41, fd_is_house := _, F_is_house := fun_mk (st := s_is_house) l41 c41 k41, m_is_house := PySem.W.mg_of X Gl a41,
    b_is_house := (fun_mk (st := s_is_house) l41 c41 k41).binds (ps := ["thing"]) fun _ _ _ _ _ _ us hl => match us, hl with | [_], _ => rfl,
    a_is_steps := f42, fd_is_steps := _, F_is_steps := fun_mk (st := s_is_steps) l42 c42 k42, m_is_steps := PySem.W.mg_of X Gl a42,
    b_is_steps := (fun_mk (st := s_is_steps) l42 c42 k42).binds (ps := ["thing"]) fun _ _ _ _ _ _ us hl => match us, hl with | [_], _ => rfl,
    a_is_asked := f43, fd_is_asked := _, F_is_asked := fun_mk (st := s_is_asked) l43 c43 k43, m_is_asked := PySem.W.mg_of X Gl a43,
    b_is_asked := (fun_mk (st := s_is_asked) l43 c43 k43).binds (ps := ["thing"]) fun _ _ _ _ _ _ us hl => match us, hl with | [_], _ => rfl,
    a_shown_question := f44, fd_shown_question := _, F_shown_question := fun_mk (st := s_shown_question) l44 c44 k44, m_shown_question := PySem.W.mg_of X Gl a44,
    b_shown_question := (fun_mk (st := s_shown_question) l44 c44 k44).binds (ps := ["question"]) fun _ _ _ _ _ _ us hl => match us, hl with | [_], _ => rfl,
    a_taken_scheme := f45, fd_taken_scheme := _, F_taken_scheme := fun_mk (st := s_taken_scheme) l45 c45 k45, m_taken_scheme := PySem.W.mg_of X Gl a45,
    b_taken_scheme := (fun_mk (st := s_taken_scheme) l45 c45 k45).binds (ps := ["cursor"]) fun _ _ _ _ _ _ us hl => match us, hl with | [_], _ => rfl,
    a_taken_text := f46, fd_taken_text := _, T_taken_text := T46, dt0_taken_text := dt46_0, F_taken_text := funD_mk (st := s_taken_text) l46 c46 k46, m_taken_text := PySem.W.mg_of X Gl a46,
    b_taken_text := (funD_mk (st := s_taken_text) l46 c46 k46).binds (ps := ["cursor", "free", "most"]) (ds := []) d46 fun _ _ _ _ _ _ us hl => match us, hl with | [_, _, _], _ => ⟨_, rfl, rfl⟩,
    bd_taken_text := (funD_mk (st := s_taken_text) l46 c46 k46).binds (ps := ["cursor", "free", "most"]) (ds := [.none]) d46 fun _ _ _ _ _ _ us hl => by obtain ⟨x, y, rfl⟩ := two_of3 hl; exact ⟨_, rfl, rfl⟩,
    a__law_address := f47, fd__law_address := _, F__law_address := fun_mk (st := s__law_address) l47 c47 k47, m__law_address := PySem.W.mg_of X Gl a47,
    b__law_address := (fun_mk (st := s__law_address) l47 c47 k47).binds (ps := ["_law_script", "_law_start"]) fun _ _ _ _ _ _ us hl => match us, hl with | [_, _], _ => rfl,
    a__law_loose_question := f48, fd__law_loose_question := _, F__law_loose_question := fun_mk (st := s__law_loose_question) l48 c48 k48, m__law_loose_question := PySem.W.mg_of X Gl a48,
    b__law_loose_question := (fun_mk (st := s__law_loose_question) l48 c48 k48).binds (ps := ["_law_question_here", "_law_cell"]) fun _ _ _ _ _ _ us hl => match us, hl with | [_, _], _ => rfl,
    a_is_way := f49, fd_is_way := _, F_is_way := fun_mk (st := s_is_way) l49 c49 k49, m_is_way := PySem.W.mg_of X Gl a49,
    b_is_way := (fun_mk (st := s_is_way) l49 c49 k49).binds (ps := ["thing"]) fun _ _ _ _ _ _ us hl => match us, hl with | [_], _ => rfl,
    a_is_question := f50, fd_is_question := _, F_is_question := fun_mk (st := s_is_question) l50 c50 k50, m_is_question := PySem.W.mg_of X Gl a50,
    b_is_question := (fun_mk (st := s_is_question) l50 c50 k50).binds (ps := ["thing"]) fun _ _ _ _ _ _ us hl => match us, hl with | [_], _ => rfl,
    a_show := f51, fd_show := _, F_show := fun_mk (st := s_show) l51 c51 k51, m_show := PySem.W.mg_of X Gl a51,
    b_show := (fun_mk (st := s_show) l51 c51 k51).binds (ps := ["address"]) fun _ _ _ _ _ _ us hl => match us, hl with | [_], _ => rfl,
    a_taken_way := f52, fd_taken_way := _, F_taken_way := fun_mk (st := s_taken_way) l52 c52 k52, m_taken_way := PySem.W.mg_of X Gl a52,
    b_taken_way := (fun_mk (st := s_taken_way) l52 c52 k52).binds (ps := ["cursor", "must_be_rooted"]) fun _ _ _ _ _ _ us hl => match us, hl with | [_, _], _ => rfl,
    a_taken_value := f53, fd_taken_value := _, F_taken_value := fun_mk (st := s_taken_value) l53 c53 k53, m_taken_value := PySem.W.mg_of X Gl a53,
    b_taken_value := (fun_mk (st := s_taken_value) l53 c53 k53).binds (ps := ["cursor"]) fun _ _ _ _ _ _ us hl => match us, hl with | [_], _ => rfl,
    a_taken_mark := f54, fd_taken_mark := _, F_taken_mark := fun_mk (st := s_taken_mark) l54 c54 k54, m_taken_mark := PySem.W.mg_of X Gl a54,
    b_taken_mark := (fun_mk (st := s_taken_mark) l54 c54 k54).binds (ps := ["cursor"]) fun _ _ _ _ _ _ us hl => match us, hl with | [_], _ => rfl,
    a_taken_filled_text := f55, fd_taken_filled_text := _, T_taken_filled_text := T55, dt0_taken_filled_text := dt55_0, F_taken_filled_text := funD_mk (st := s_taken_filled_text) l55 c55 k55, m_taken_filled_text := PySem.W.mg_of X Gl a55,
    b_taken_filled_text := (funD_mk (st := s_taken_filled_text) l55 c55 k55).binds (ps := ["cursor", "free", "most"]) (ds := []) d55 fun _ _ _ _ _ _ us hl => match us, hl with | [_, _, _], _ => ⟨_, rfl, rfl⟩,
    bd_taken_filled_text := (funD_mk (st := s_taken_filled_text) l55 c55 k55).binds (ps := ["cursor", "free", "most"]) (ds := [.none]) d55 fun _ _ _ _ _ _ us hl => by obtain ⟨x, y, rfl⟩ := two_of3 hl; exact ⟨_, rfl, rfl⟩,
    a__law_loosely := f56, fd__law_loosely := _, F__law_loosely := fun_mk (st := s__law_loosely) l56 c56 k56, m__law_loosely := PySem.W.mg_of X Gl a56,
    b__law_loosely := (fun_mk (st := s__law_loosely) l56 c56 k56).binds (ps := ["_law_address_here", "_law_cell"]) fun _ _ _ _ _ _ us hl => match us, hl with | [_, _], _ => rfl,
    a_parts_stand := f57, fd_parts_stand := _, F_parts_stand := fun_mk (st := s_parts_stand) l57 c57 k57, m_parts_stand := PySem.W.mg_of X Gl a57,
    b_parts_stand := (fun_mk (st := s_parts_stand) l57 c57 k57).binds (ps := ["thing"]) fun _ _ _ _ _ _ us hl => match us, hl with | [_], _ => rfl,
    a_taken_house := f58, fd_taken_house := _, F_taken_house := fun_mk (st := s_taken_house) l58 c58 k58, m_taken_house := PySem.W.mg_of X Gl a58,
    b_taken_house := (fun_mk (st := s_taken_house) l58 c58 k58).binds (ps := ["cursor"]) fun _ _ _ _ _ _ us hl => match us, hl with | [_], _ => rfl,
    a_taken_question := f59, fd_taken_question := _, F_taken_question := fun_mk (st := s_taken_question) l59 c59 k59, m_taken_question := PySem.W.mg_of X Gl a59,
    b_taken_question := (fun_mk (st := s_taken_question) l59 c59 k59).binds (ps := ["cursor"]) fun _ _ _ _ _ _ us hl => match us, hl with | [_], _ => rfl,
    a_is_address := f60, fd_is_address := _, F_is_address := fun_mk (st := s_is_address) l60 c60 k60, m_is_address := PySem.W.mg_of X Gl a60,
    b_is_address := (fun_mk (st := s_is_address) l60 c60 k60).binds (ps := ["thing"]) fun _ _ _ _ _ _ us hl => match us, hl with | [_], _ => rfl,
    a_read := f61, fd_read := _, F_read := fun_mk (st := s_read) l61 c61 k61, m_read := PySem.W.mg_of X Gl a61,
    b_read := (fun_mk (st := s_read) l61 c61 k61).binds (ps := ["text"]) fun _ _ _ _ _ _ us hl => match us, hl with | [_], _ => rfl,
    a_law := f62, fd_law := _, F_law := fun_mk (st := s_law) l62 c62 k62, m_law := PySem.W.mg_of X Gl a62,
    b_law := (fun_mk (st := s_law) l62 c62 k62).binds (ps := ["_law_script"]) fun _ _ _ _ _ _ us hl => match us, hl with | [_], _ => rfl,
    t_SIGNS := t_SIGNS, c_SIGNS := PySem.W.mg_of X Gl e_SIGNS,
    t_LETTERS := t_LETTERS, c_LETTERS := PySem.W.mg_of X Gl e_LETTERS,
    t_LETTERS_AND_FIGURES := t_LETTERS_AND_FIGURES, c_LETTERS_AND_FIGURES := PySem.W.mg_of X Gl e_LETTERS_AND_FIGURES,
    t_FIGURES := t_FIGURES, c_FIGURES := PySem.W.mg_of X Gl e_FIGURES,
    t_PLAIN := t_PLAIN, c_PLAIN := PySem.W.mg_of X Gl e_PLAIN,
    t_FREE_IN_STEPS := t_FREE_IN_STEPS, c_FREE_IN_STEPS := PySem.W.mg_of X Gl e_FREE_IN_STEPS,
    t_FREE_IN_QUESTIONS := t_FREE_IN_QUESTIONS, c_FREE_IN_QUESTIONS := PySem.W.mg_of X Gl e_FREE_IN_QUESTIONS,
    t_FREE_IN_MARKS := t_FREE_IN_MARKS, c_FREE_IN_MARKS := PySem.W.mg_of X Gl e_FREE_IN_MARKS,
    t_FIRST_NUMBER := t_FIRST_NUMBER, c_FIRST_NUMBER := PySem.W.mg_of X Gl e_FIRST_NUMBER,
    t_LAST_NUMBER := t_LAST_NUMBER, c_LAST_NUMBER := PySem.W.mg_of X Gl e_LAST_NUMBER,
    t_NUMBER_LEFT_OUT := t_NUMBER_LEFT_OUT, c_NUMBER_LEFT_OUT := PySem.W.mg_of X Gl e_NUMBER_LEFT_OUT,
    t_SMALL_FIGURES := t_SMALL_FIGURES, c_SMALL_FIGURES := PySem.W.mg_of X Gl e_SMALL_FIGURES,
    t_GREAT_FIGURES := t_GREAT_FIGURES, c_GREAT_FIGURES := PySem.W.mg_of X Gl e_GREAT_FIGURES,
    t_SCHEME := t_SCHEME, c_SCHEME := PySem.W.mg_of X Gl e_SCHEME,
    t_HOUSE := t_HOUSE, c_HOUSE := PySem.W.mg_of X Gl e_HOUSE,
    t_DOOR := t_DOOR, c_DOOR := PySem.W.mg_of X Gl e_DOOR,
    t_WAY := t_WAY, c_WAY := PySem.W.mg_of X Gl e_WAY,
    t_QUESTION := t_QUESTION, c_QUESTION := PySem.W.mg_of X Gl e_QUESTION,
    t_MARK := t_MARK, c_MARK := PySem.W.mg_of X Gl e_MARK,
    t_ROOTED := t_ROOTED, c_ROOTED := PySem.W.mg_of X Gl e_ROOTED,
    t_STEPS := t_STEPS, c_STEPS := PySem.W.mg_of X Gl e_STEPS,
    t_ENDS := t_ENDS, c_ENDS := PySem.W.mg_of X Gl e_ENDS,
    t_LONGEST_SCHEME := t_LONGEST_SCHEME, c_LONGEST_SCHEME := PySem.W.mg_of X Gl e_LONGEST_SCHEME,
    t_LONGEST_HOUSE := t_LONGEST_HOUSE, c_LONGEST_HOUSE := PySem.W.mg_of X Gl e_LONGEST_HOUSE,
    t_LAST_DOOR := t_LAST_DOOR, c_LAST_DOOR := PySem.W.mg_of X Gl e_LAST_DOOR,
    t_FIRST_FIGURES := t_FIRST_FIGURES, c_FIRST_FIGURES := PySem.W.mg_of X Gl e_FIRST_FIGURES,
    b_all := PySem.W.mg_none_of X Gl z_all,
    b_ord := PySem.W.mg_none_of X Gl z_ord,
    b_len := PySem.W.mg_none_of X Gl z_len,
    b_isinstance := PySem.W.mg_none_of X Gl z_isinstance,
    b_tuple := PySem.W.mg_none_of X Gl z_tuple,
    b_bool := PySem.W.mg_none_of X Gl z_bool,
    b_int := PySem.W.mg_none_of X Gl z_int,
    b_str := PySem.W.mg_none_of X Gl z_str,
    b_range := PySem.W.mg_none_of X Gl z_range,
    C_Cursor := kC_Cursor, cl_Cursor := ⟨pg_Cursor, hd_Cursor, po_Cursor, sa_Cursor⟩, m_Cursor := PySem.W.mg_of X Gl aC_Cursor,
    n_Cursor_text := nf_Cursor_text,
    n_Cursor_place := nf_Cursor_place,
    M_Cursor := ⟨mk_Cursor, a9, i9, kc_Cursor⟩ }
  exact ⟨g.fd_law, fun s v => .of_eq rfl, fun base _ _ => ok_law g⟩
theorem walk {l : PySem.W.OpenLaw} {q : Program} {loose : List Str} {XP : (Str → Option Value) → Heap → Prop} {YP : World → Heap → Prop} {d : DefRec} {K : Params → PySem.W.Frag} (hn : l.most = some 63) (hdf : d.params.defaults = [])
    (hY : ∀ (w : World) (h : Heap), YP w h → (K w.params).In h)
    (F : ∀ (w : World) (mg : Str → Option Value) (fa : Addr) (h : Heap), (K w.params).In h → h.Ns mainGlobals mg → mg d.name = some (.ref fa) →
      ∃ fd : FuncData, (∀ (s : Shared) (u : Value), BindsTo s fd ⟨[u], []⟩ [("_law_script", u)]) ∧ ∀ base : Heap, (K w.params).In base → base.Ns mainGlobals mg → FnOk l.prog w (K w.params) mg base CX0 8 fa fd ["_law_script"] (sp_law (K w.params))) :
    PySem.W.WalkO q loose XP YP l.row.toRowW d [] (fun f vs => PySem.call f vs) :=
  L2.walk_of (n := 63) (k := 8) (x := "_law_script") (CX := fun _ => CX0) (sp := fun w => sp_law (K w.params)) hn (by decide) hdf ⟨rfl, by decide, by decide⟩ hY F (fun _ _ a ns hl _ hS => ⟨a, ns, rfl, hS, hl, fun _ => rfl⟩) fun _ _ _ _ _ z => z
end Wm
/-! names that are taken, so that helper lemmas which nothing needs are not made -/
theorem PySem.W.Fast.tw7895983123911800029 : True := trivial
theorem PySem.W.Fast.tw17976323633003240139 : True := trivial
theorem PySem.W.Fast.tw14108277098366022148 : True := trivial
theorem PySem.W.Fast.tw12379659789139658668 : True := trivial
theorem PySem.W.Fast.tw5198587264781416465 : True := trivial
theorem PySem.W.Fast.tw9883466616638162386 : True := trivial
theorem PySem.W.Fast.tw2251598410440903888 : True := trivial
theorem PySem.W.Fast.tw2743687534891491957 : True := trivial
theorem PySem.W.Fast.tw7321305854245261422 : True := trivial
theorem PySem.W.Fast.tw5041179511053433918 : True := trivial
theorem PySem.W.Fast.tw16916396401710460146 : True := trivial
theorem PySem.W.Fast.tw5954444511375351023 : True := trivial
theorem PySem.W.Fast.tw10968670114712019194 : True := trivial
theorem PySem.W.Fast.tw2785052736669256273 : True := trivial
theorem PySem.W.Fast.tw14488059517321917863 : True := trivial
theorem PySem.W.Fast.tw11474837494649300028 : True := trivial
theorem PySem.W.Fast.tw16466991353681932125 : True := trivial
theorem PySem.W.Fast.tw15294816434462127016 : True := trivial
theorem PySem.W.Fast.tw1089064790224882448 : True := trivial
theorem PySem.W.Fast.tw3155738635636546585 : True := trivial
theorem PySem.W.Fast.tw2170960285318998716 : True := trivial
theorem PySem.W.Fast.tw10119361269665549911 : True := trivial
theorem PySem.W.Fast.tw13620053816258406004 : True := trivial
theorem PySem.W.Fast.tw13449054534007343201 : True := trivial
theorem PySem.W.Fast.tw3957877852642630725 : True := trivial
theorem PySem.W.Fast.tw6110615349833664869 : True := trivial
theorem PySem.W.Fast.tw15210717725475057547 : True := trivial
theorem PySem.W.Fast.tw13580197868653291524 : True := trivial
theorem PySem.W.Fast.tw13857962576996860721 : True := trivial
theorem PySem.W.Fast.tw3697661030779283545 : True := trivial
theorem PySem.W.Fast.tw15234464654282302777 : True := trivial
theorem PySem.W.Fast.tw10012195937670091492 : True := trivial
theorem PySem.W.Fast.tw14278231946527345089 : True := trivial
theorem PySem.W.Fast.tw8117966444708556193 : True := trivial
theorem PySem.W.Fast.tw5905159360190708935 : True := trivial
theorem PySem.W.Fast.tw12891960011838412263 : True := trivial
theorem PySem.W.Fast.tw10546511438375528855 : True := trivial
theorem PySem.W.Fast.tw8954554437026445026 : True := trivial
theorem PySem.W.Fast.tw7869639589480224202 : True := trivial
theorem PySem.W.Fast.tw1926918146276025076 : True := trivial
theorem PySem.W.Fast.tw10680560506100624854 : True := trivial
theorem PySem.W.Fast.tw14733505339155394138 : True := trivial
theorem PySem.W.Fast.tw10865095048364995511 : True := trivial
theorem PySem.W.Fast.tw272891993667220194 : True := trivial
theorem PySem.W.Fast.tw5102692914287076280 : True := trivial
theorem PySem.W.Fast.tw13549240016310331506 : True := trivial
theorem PySem.W.Fast.tw9564623605446526746 : True := trivial
theorem PySem.W.Fast.tw12055279144831266965 : True := trivial
theorem PySem.W.Fast.tw11241446209445622824 : True := trivial
theorem PySem.W.Fast.tw16641315802867654654 : True := trivial
theorem PySem.W.Fast.tw4514198576200148908 : True := trivial
theorem PySem.W.Fast.tw15072556401065039555 : True := trivial
theorem PySem.W.Fast.tw2945145846736791029 : True := trivial
theorem PySem.W.Fast.tw872934345303715541 : True := trivial
theorem PySem.W.Fast.tw16059011704280206648 : True := trivial
theorem PySem.W.Fast.tw14397285235626937223 : True := trivial
theorem PySem.W.Fast.tw16447605536722464305 : True := trivial
theorem PySem.W.Fast.tw15114987867436560576 : True := trivial
theorem PySem.W.Fast.tw12762085351810536164 : True := trivial
theorem PySem.W.Fast.tw12343403081103146205 : True := trivial
theorem PySem.W.Fast.tw4017727635366179911 : True := trivial
theorem PySem.W.Fast.tw15039356302147659459 : True := trivial
theorem PySem.W.Fast.tw7066086650637538101 : True := trivial
theorem PySem.W.Fast.tw4690691104628212685 : True := trivial
theorem PySem.W.Fast.tw3992482674971965004 : True := trivial
theorem PySem.W.Fast.tw1806153476945893276 : True := trivial
theorem PySem.W.Fast.tw9914398965828904360 : True := trivial
theorem PySem.W.Fast.tw2601117735490051266 : True := trivial
theorem PySem.W.Fast.tw7281756825328135133 : True := trivial
theorem PySem.W.Fast.tw8783149519911268730 : True := trivial
theorem PySem.W.Fast.tw1712284550863901259 : True := trivial
theorem PySem.W.Fast.tw12276914583131945949 : True := trivial
theorem PySem.W.Fast.tw11373577194428894775 : True := trivial
theorem PySem.W.Fast.tw17175462230806702664 : True := trivial
theorem PySem.W.Fast.tw11224453330642738024 : True := trivial
theorem PySem.W.Fast.tw2726383053175521106 : True := trivial
theorem PySem.W.Fast.tw3747875480029158329 : True := trivial
theorem PySem.W.Fast.tw10388616542555426960 : True := trivial
theorem PySem.W.Fast.tw675089784009632242 : True := trivial
theorem PySem.W.Fast.tw16787126776270675507 : True := trivial
theorem PySem.W.Fast.tw9336765162704783276 : True := trivial
theorem PySem.W.Fast.tw8444146838498709724 : True := trivial
theorem PySem.W.Fast.tw6337820490209327424 : True := trivial
theorem PySem.W.Fast.tw15998078983302304849 : True := trivial
theorem PySem.W.Fast.tw516023341555508168 : True := trivial
theorem PySem.W.Fast.tw16143588448160913216 : True := trivial
theorem PySem.W.Fast.tw9112608837253995959 : True := trivial
theorem PySem.W.Fast.tw13730912700606460151 : True := trivial
theorem PySem.W.Fast.tw1246882490003347889 : True := trivial
theorem PySem.W.Fast.tw7372819784535762317 : True := trivial
theorem PySem.W.Fast.tw7036444363859527329 : True := trivial
theorem PySem.W.Fast.tw6797758400759871100 : True := trivial
theorem PySem.W.Fast.tw13492082912792760005 : True := trivial
theorem PySem.W.Fast.tw12799987393310389668 : True := trivial
theorem PySem.W.Fast.tw1417315383254456260 : True := trivial
theorem PySem.W.Fast.tw17383782798327145900 : True := trivial
theorem PySem.W.Fast.tw9432759645154014183 : True := trivial
theorem PySem.W.Fast.tw15545857607417491178 : True := trivial
theorem PySem.W.Fast.tw3073313323880240592 : True := trivial
theorem PySem.W.Fast.tw17843651689165566825 : True := trivial
theorem PySem.W.Fast.tw3565560461396123187 : True := trivial
theorem PySem.W.Fast.tw7781505894599441499 : True := trivial
theorem PySem.W.Fast.tw10938016442362049475 : True := trivial
theorem PySem.W.Fast.tw6086142726475448802 : True := trivial
theorem PySem.W.Fast.tw11893726250062545969 : True := trivial
theorem PySem.W.Fast.tw17976166193459370413 : True := trivial
theorem PySem.W.Fast.tw14566745836721650055 : True := trivial
theorem PySem.W.Fast.tw12048193196423095212 : True := trivial
theorem PySem.W.Fast.tw14316709358948273700 : True := trivial
theorem PySem.W.Fast.tw7050305032318946394 : True := trivial
theorem PySem.W.Fast.tw8197838699854140711 : True := trivial
theorem PySem.W.Fast.tw4278463905686918073 : True := trivial
theorem PySem.W.Fast.tw10835192006985497157 : True := trivial
theorem PySem.W.Fast.tw11552124357694386320 : True := trivial
theorem PySem.W.Fast.tw10105231129319137548 : True := trivial
theorem PySem.W.Fast.tw2811493435387462857 : True := trivial
theorem PySem.W.Fast.tw17350074575517216830 : True := trivial
theorem PySem.W.Fast.tw13115482985091439164 : True := trivial
theorem PySem.W.Fast.tw3701519930902436800 : True := trivial
theorem PySem.W.Fast.tw7205830498526667374 : True := trivial
theorem PySem.W.Fast.tw372336805545071641 : True := trivial
theorem PySem.W.Fast.tw5219480882639570613 : True := trivial
theorem PySem.W.Fast.tw17078049838364341609 : True := trivial
theorem PySem.W.Fast.tw900975823722481980 : True := trivial
theorem PySem.W.Fast.tw14476488272647288338 : True := trivial
theorem PySem.W.Fast.tw2290035802640099096 : True := trivial
theorem PySem.W.Fast.tw7846427323614579823 : True := trivial
theorem PySem.W.Fast.tw1370699747870667604 : True := trivial
theorem PySem.W.Fast.tw15848389548970439780 : True := trivial
theorem PySem.W.Fast.tw11635801895482710778 : True := trivial
theorem PySem.W.Fast.tw8610318106541838762 : True := trivial
theorem PySem.W.Fast.tw268214420277893816 : True := trivial
theorem PySem.W.Fast.tw811043628102018121 : True := trivial
theorem PySem.W.Fast.tw15186105646499604267 : True := trivial
theorem PySem.W.Fast.tw11741165207540552290 : True := trivial
theorem PySem.W.Fast.tw3541070032035687497 : True := trivial
theorem PySem.W.Fast.tw15499530046027866984 : True := trivial
theorem PySem.W.Fast.tw11169341963166863247 : True := trivial
open PySem PySem.W PyProof.Rows
set_option maxRecDepth 100000 in
set_option maxHeartbeats 0 in
theorem PySem.Challenge.cw_waymark_k91_whole_parts_come_back_holds : PySem.Challenge.rw_waymark_k91_whole_parts_come_back.Holds := by
  w_on; o_law; k_head; (case hw => w_witness2)
  k_fill
  refine Wm.walk (l := PySem.Challenge.rw_waymark_k91_whole_parts_come_back) rfl rfl (fun w h Y => PySem.W.kIn_of Y) ?F
  case F =>
    intro w mg fa h KX G hmg
    refine' Wm.all_mk (dt46_0 := 0) (dt55_0 := 0) KX G hmg ?aC_Cursor ?a1 ?l1 ?a2 ?l2 ?a3 ?l3 ?a4 ?l4 ?a5 ?l5 ?a6 ?l6 ?a7 ?l7 ?a8 ?l8 ?a9 ?i9 ?l9 ?a10 ?i10 ?l10 ?a11 ?i11 ?l11 ?a12 ?i12 ?l12 ?a13 ?l13 ?a14 ?l14 ?a15 ?l15 ?a16 ?l16 ?a17 ?l17 ?a18 ?l18 ?a19 ?l19 ?a20 ?l20 ?a21 ?l21 ?a22 ?l22 ?a23 ?l23 ?a24 ?i24 ?l24 ?a25 ?l25 ?a26 ?l26 ?a27 ?l27 ?a28 ?l28 ?a29 ?l29 ?a30 ?l30 ?a31 ?l31 ?a32 ?l32 ?a33 ?l33 ?a34 ?l34 ?a35 ?l35 ?a36 ?l36 ?a37 ?l37 ?a38 ?l38 ?a39 ?l39 ?a40 ?l40 ?a41 ?l41 ?a42 ?l42 ?a43 ?l43 ?a44 ?l44 ?a45 ?l45 ?a46 ?l46 ?d46 ?a47 ?l47 ?a48 ?l48 ?a49 ?l49 ?a50 ?l50 ?a51 ?l51 ?a52 ?l52 ?a53 ?l53 ?a54 ?l54 ?a55 ?l55 ?d55 ?a56 ?l56 ?a57 ?l57 ?a58 ?l58 ?a59 ?l59 ?a60 ?l60 ?a61 ?l61 ?a62 ?l62 ?e_SIGNS ?e_LETTERS ?e_LETTERS_AND_FIGURES ?e_FIGURES ?e_PLAIN ?e_FREE_IN_STEPS ?e_FREE_IN_QUESTIONS ?e_FREE_IN_MARKS ?e_FIRST_NUMBER ?e_LAST_NUMBER ?e_NUMBER_LEFT_OUT ?e_SMALL_FIGURES ?e_GREAT_FIGURES ?e_SCHEME ?e_HOUSE ?e_DOOR ?e_WAY ?e_QUESTION ?e_MARK ?e_ROOTED ?e_STEPS ?e_ENDS ?e_LONGEST_SCHEME ?e_LONGEST_HOUSE ?e_LAST_DOOR ?e_FIRST_FIGURES ?z_all ?z_ord ?z_len ?z_isinstance ?z_tuple ?z_bool ?z_int ?z_str ?z_range ?pg_Cursor ?hd_Cursor ?po_Cursor ?sa_Cursor ?mk_Cursor ?kc_Cursor ?nf_Cursor_text ?nf_Cursor_place ?kk ?cc
    (case aC_Cursor => k_is)
    (case a1 => k_is)
    (case l1 => k_is)
    (case a2 => k_is)
    (case l2 => k_is)
    (case a3 => k_is)
    (case l3 => k_is)
    (case a4 => k_is)
    (case l4 => k_is)
    (case a5 => k_is)
    (case l5 => k_is)
    (case a6 => k_is)
    (case l6 => k_is)
    (case a7 => k_is)
    (case l7 => k_is)
    (case a8 => k_is)
    (case l8 => k_is)
    (case a9 => k_is)
    (case i9 => k_is)
    (case l9 => k_is)
    (case a10 => k_is)
    (case i10 => k_is)
    (case l10 => k_is)
    (case a11 => k_is)
    (case i11 => k_is)
    (case l11 => k_is)
    (case a12 => k_is)
    (case i12 => k_is)
    (case l12 => k_is)
    (case a13 => k_is)
    (case l13 => k_is)
    (case a14 => k_is)
    (case l14 => k_is)
    (case a15 => k_is)
    (case l15 => k_is)
    (case a16 => k_is)
    (case l16 => k_is)
    (case a17 => k_is)
    (case l17 => k_is)
    (case a18 => k_is)
    (case l18 => k_is)
    (case a19 => k_is)
    (case l19 => k_is)
    (case a20 => k_is)
    (case l20 => k_is)
    (case a21 => k_is)
    (case l21 => k_is)
    (case a22 => k_is)
    (case l22 => k_is)
    (case a23 => k_is)
    (case l23 => k_is)
    (case a24 => k_is)
    (case i24 => k_is)
    (case l24 => k_is)
    (case a25 => k_is)
    (case l25 => k_is)
    (case a26 => k_is)
    (case l26 => k_is)
    (case a27 => k_is)
    (case l27 => k_is)
    (case a28 => k_is)
    (case l28 => k_is)
    (case a29 => k_is)
    (case l29 => k_is)
    (case a30 => k_is)
    (case l30 => k_is)
    (case a31 => k_is)
    (case l31 => k_is)
    (case a32 => k_is)
    (case l32 => k_is)
    (case a33 => k_is)
    (case l33 => k_is)
    (case a34 => k_is)
    (case l34 => k_is)
    (case a35 => k_is)
    (case l35 => k_is)
    (case a36 => k_is)
    (case l36 => k_is)
    (case a37 => k_is)
    (case l37 => k_is)
    (case a38 => k_is)
    (case l38 => k_is)
    (case a39 => k_is)
    (case l39 => k_is)
    (case a40 => k_is)
    (case l40 => k_is)
    (case a41 => k_is)
    (case l41 => k_is)
    (case a42 => k_is)
    (case l42 => k_is)
    (case a43 => k_is)
    (case l43 => k_is)
    (case a44 => k_is)
    (case l44 => k_is)
    (case a45 => k_is)
    (case l45 => k_is)
    (case a46 => k_is)
    (case l46 => k_is)
    (case d46 => k_is)
    (case a47 => k_is)
    (case l47 => k_is)
    (case a48 => k_is)
    (case l48 => k_is)
    (case a49 => k_is)
    (case l49 => k_is)
    (case a50 => k_is)
    (case l50 => k_is)
    (case a51 => k_is)
    (case l51 => k_is)
    (case a52 => k_is)
    (case l52 => k_is)
    (case a53 => k_is)
    (case l53 => k_is)
    (case a54 => k_is)
    (case l54 => k_is)
    (case a55 => k_is)
    (case l55 => k_is)
    (case d55 => k_is)
    (case a56 => k_is)
    (case l56 => k_is)
    (case a57 => k_is)
    (case l57 => k_is)
    (case a58 => k_is)
    (case l58 => k_is)
    (case a59 => k_is)
    (case l59 => k_is)
    (case a60 => k_is)
    (case l60 => k_is)
    (case a61 => k_is)
    (case l61 => k_is)
    (case a62 => k_is)
    (case l62 => k_is)
    (case e_SIGNS => k_is)
    (case e_LETTERS => k_is)
    (case e_LETTERS_AND_FIGURES => k_is)
    (case e_FIGURES => k_is)
    (case e_PLAIN => k_is)
    (case e_FREE_IN_STEPS => k_is)
    (case e_FREE_IN_QUESTIONS => k_is)
    (case e_FREE_IN_MARKS => k_is)
    (case e_FIRST_NUMBER => k_is)
    (case e_LAST_NUMBER => k_is)
    (case e_NUMBER_LEFT_OUT => k_is)
    (case e_SMALL_FIGURES => k_is)
    (case e_GREAT_FIGURES => k_is)
    (case e_SCHEME => k_is)
    (case e_HOUSE => k_is)
    (case e_DOOR => k_is)
    (case e_WAY => k_is)
    (case e_QUESTION => k_is)
    (case e_MARK => k_is)
    (case e_ROOTED => k_is)
    (case e_STEPS => k_is)
    (case e_ENDS => k_is)
    (case e_LONGEST_SCHEME => k_is)
    (case e_LONGEST_HOUSE => k_is)
    (case e_LAST_DOOR => k_is)
    (case e_FIRST_FIGURES => k_is)
    (case z_all => k_is)
    (case z_ord => k_is)
    (case z_len => k_is)
    (case z_isinstance => k_is)
    (case z_tuple => k_is)
    (case z_bool => k_is)
    (case z_int => k_is)
    (case z_str => k_is)
    (case z_range => k_is)
    (case pg_Cursor => k_is)
    (case hd_Cursor => k_is)
    (case po_Cursor => k_is)
    (case sa_Cursor => k_is)
    (case mk_Cursor => k_is)
    (case kc_Cursor => k_is)
    (case nf_Cursor_text => k_is)
    (case nf_Cursor_place => k_is)
    (case kk => first | k_is | with_unfolding_all kernel_rfl | with_unfolding_all rfl)
    (case cc => first | k_is | with_unfolding_all kernel_rfl | with_unfolding_all rfl)
