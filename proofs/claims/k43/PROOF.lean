import PyProof.Rows.All
import Wide.All
import OpenK.AllK
import Wide.FinOn
import Lean
import PyProof.EqAt
import PyProof.EqKinds
import PyProof.TupleCall
import PySem.Challenge.RW_waymark_k43_plain_texts_refused
set_option Elab.async false
set_option linter.all false
set_option maxRecDepth 100000
namespace L2
open PySem PySem.Spec PyProof.Rows
abbrev Key := Sum Int Str
def keyIs : Key → Value → Bool
  | .inl k, v => Value.isInt k v
  | .inr x, v => Value.isStrOf x v
def keyH (w : World) : Key → Int
  | .inl k => hashInt k
  | .inr x => hashStr w x
theorem bqA : ∀ {k : Key} {v : Value}, keyIs k v = true → (∃ i t, k = Sum.inl i ∧ v = Value.int i t) ∨ (∃ x t, k = Sum.inr x ∧ v = Value.str x t)
  | .inl i, v, h => by
    obtain ⟨t, e⟩ := Value.isInt_shape (k := i) (v := v) h
    exact .inl ⟨i, t, rfl, e⟩
  | .inr x, v, h => by
    obtain ⟨t, e⟩ := Value.isStrOf_shape (x := x) (v := v) h
    exact .inr ⟨x, t, rfl, e⟩
theorem wqf (a b : Int) : decide ((Sum.inl a : Key) = Sum.inl b) = (a == b) := by
  by_cases e : a = b
  · subst e; simp
  · have h : ¬ (Sum.inl a : Key) = Sum.inl b := fun q => e (Sum.inl.inj q)
    rw [decide_eq_false h]
    exact (beq_eq_false_iff_ne.mpr e).symm
theorem vqe (a b : Str) : decide ((Sum.inr a : Key) = Sum.inr b) = decide (a = b) := by
  by_cases e : a = b
  · subst e; simp
  · have h : ¬ (Sum.inr a : Key) = Sum.inr b := fun q => e (Sum.inr.inj q)
    rw [decide_eq_false h, decide_eq_false e]
theorem wqi (a : Int) (b : Str) : decide ((Sum.inl a : Key) = Sum.inr b) = false := decide_eq_false (fun q => nomatch q)
theorem vqZ (a : Str) (b : Int) : decide ((Sum.inr a : Key) = Sum.inl b) = false := decide_eq_false (fun q => nomatch q)
def mixKind (prog : Program) (w : World) : PySem.KeyKind prog w Key where
  is := keyIs
  hash := keyH w
  inj := fun v a b ha hb => by
    rcases bqA ha with ⟨i, t, rfl, rfl⟩ | ⟨x, t, rfl, rfl⟩
    · rcases bqA hb with ⟨j, u, rfl, e⟩ | ⟨y, u, rfl, e⟩
      · injection e with e1 _; rw [e1]
      · exact nomatch e
    · rcases bqA hb with ⟨j, u, rfl, e⟩ | ⟨y, u, rfl, e⟩
      · exact nomatch e
      · injection e with e1 _; rw [e1]
  byValue := fun k v h => by
    rcases bqA h with ⟨i, t, rfl, rfl⟩ | ⟨x, t, rfl, rfl⟩ <;> rfl
  pyHash := fun hv h => by
    rcases bqA hv with ⟨i, t, rfl, rfl⟩ | ⟨x, t, rfl, rfl⟩
    · exact wpAny_pyHash_int h
    · exact wpAny_pyHash_str h
  eqBool := fun hu hv h => by
    rcases bqA hu with ⟨i, t, rfl, rfl⟩ | ⟨x, t, rfl, rfl⟩
    · rcases bqA hv with ⟨j, u, rfl, rfl⟩ | ⟨y, u, rfl, rfl⟩
      · rw [wqf] at h; exact wpAny_eqBool_int h
      · rw [wqi] at h; exact SeqAt.EqAt.int_str i t y u _ _ _ _ h
    · rcases bqA hv with ⟨j, u, rfl, rfl⟩ | ⟨y, u, rfl, rfl⟩
      · rw [vqZ] at h; exact SeqAt.EqAt.str_int x t j u _ _ _ _ h
      · rw [vqe] at h; exact wpAny_eqBool_str h
  «strs» := fun k x t v h => by
    rcases bqA h with ⟨i, u, rfl, e⟩ | ⟨y, u, rfl, e⟩
    · exact nomatch e
    · injection e with e1 _
      subst e1
      cases v <;> rfl
end L2
namespace L2
open PySem PySem.Spec PyProof.Rows
inductive V where
  | non | bl (b : Bool) | int (i : Int) | str (x : Str) | byt (b : Array UInt8) | flt (b : UInt64) | ref (a : Addr) | ty (n : String)
  deriving DecidableEq
def RelV : V → Value → Prop
  | .non, u => u = Value.none
  | .bl b, u => u = Value.bool b
  | .int i, u => ∃ t, u = Value.int i t
  | .str x, u => ∃ t, u = Value.str x t
  | .byt b, u => ∃ t, u = Value.bytes b t
  | .flt b, u => ∃ t, u = Value.float b t
  | .ref a, u => u = Value.ref a
  | .ty n, u => u = Value.type n
abbrev Vals : List V → List Value → Prop := Paired RelV
theorem Vals.length {xs : List V} {us : List Value} (r : Vals xs us) : xs.length = us.length := Paired.length r
theorem Vals.get : ∀ {xs : List V} {us : List Value} {i : Nat} {x : V}, Vals xs us → xs[i]? = some x → ∃ u, us[i]? = some u ∧ RelV x u
  | _, _, _, _, .nil, e => by simp at e
  | _, _, 0, _, .cons r _, e => by simp at e; subst e; exact ⟨_, rfl, r⟩
  | _, _, i + 1, x, .cons _ t, e => by
    obtain ⟨u, h1, h2⟩ := Vals.get (i := i) (x := x) t (by simpa using e)
    exact ⟨u, by simpa using h1, h2⟩
theorem Vals.append : ∀ {xs ys : List V} {us ws : List Value}, Vals xs us → Vals ys ws → Vals (xs ++ ys) (us ++ ws)
  | _, _, _, _, .nil, s => s
  | _, _, _, _, .cons r t, s => .cons r (Vals.append t s)
theorem Vals.take : ∀ {xs : List V} {us : List Value} (n : Nat), Vals xs us → Vals (xs.take n) (us.take n)
  | _, _, 0, _ => .nil
  | _, _, _ + 1, .nil => .nil
  | _, _, n + 1, .cons r t => .cons r (Vals.take n t)
theorem Vals.drop : ∀ {xs : List V} {us : List Value} (n : Nat), Vals xs us → Vals (xs.drop n) (us.drop n)
  | _, _, 0, r => r
  | _, _, _ + 1, .nil => .nil
  | _, _, n + 1, .cons _ t => Vals.drop n t
def RelO : Option V → Option Value → Prop
  | some v, some u => RelV v u
  | none, none => True
  | _, _ => False
def KV {κ : Type} : List (κ × V) → List (κ × Value) → Prop := Paired fun (p : κ × V) (q : κ × Value) => p.1 = q.1 ∧ RelV p.2 q.2
def kV : Key → V
  | .inl i => .int i
  | .inr x => .str x
inductive HO where
  | lst (xs : List V)
  | tup (xs : List V)
  | dK (kvs : List (Key × V)) | dT (kvs : List (List Key × V))
  | set (S : Int → Bool) (n : Nat)
  | ins (C dx : Addr) (fs : List (Str × V))
  | own (x : Addr)
  | xd (fs : List (Str × V))
  | met (f x : Addr)
  | rng (lo hi : Int)
  | frz (o : Obj) (u : HO)
  | tbl (ps : Array Value)
  | ext (φ : Heap → Prop)
abbrev Hp := Addr → Option HO
def upd (H : Hp) (a : Addr) (o : HO) : Hp := fun b => if b = a then some o else H b
theorem aql {H : Hp} {a : Addr} {o : HO} : upd H a o a = some o := by unfold upd; rw [if_pos rfl]
theorem aqu {H : Hp} {a b : Addr} {o : HO} (h : b ≠ a) : upd H a o b = H b := by unfold upd; rw [if_neg h]
theorem pq0 {H : Hp} {a : Addr} {o u : HO} : upd (upd H a o) a u = upd H a u := by
  funext b; unfold upd; split <;> rfl
theorem tqx {H : Hp} {a b : Addr} {o u : HO} (h : H a = some o) (h' : H b = some u) (d : o ≠ u) : a ≠ b := by
  intro e; subst e; rw [h] at h'; exact d (Option.some.inj h')
theorem aqr {H : Hp} {a b : Addr} {o : HO} (h : H a = some o) (h' : H b = none) : a ≠ b := by
  intro e; subst e; rw [h] at h'; cases h'
section
variable (P : Program) (w : World)
def ObjOk (H : Hp) (h : Heap) (a : Addr) : HO → Prop
  | .lst xs => xs.length ≤ sizeLine ∧ ∃ (its : List Value) (n : Nat), Vals xs its ∧ h.get? a = some { cls := .type "list", data := .seq its.toArray n }
  | .tup xs => xs.length ≤ sizeLine ∧ ∃ its : List Value, Vals xs its ∧ IsTup h a its.toArray
  | .dK kvs => kvs.length ≤ sizeLine ∧ (a == sysModules) = false ∧ ∃ vs, KV kvs vs ∧ h.DictOf (mixKind P w) a vs
  | .dT kvs => kvs.length ≤ sizeLine ∧ (a == sysModules) = false ∧ ∃ xs : List (List Key × Addr × Value),
      Paired (fun (p : List Key × V) (q : List Key × Addr × Value) => p.1 = q.1 ∧ H q.2.1 = some (.tup (p.1.map kV)) ∧ RelV p.2 q.2.2) kvs xs ∧
      ∃ o es ep, h.get? a = some o ∧ o.ExactDict ∧ o.data = .dict es ep ∧ es.toList = xs.map (entryOfKey (tupleKind (mixKind P w))) ∧ (xs.map (·.1)).Nodup
  | .set S n => h.SetOf (intKind P w) a S n
  | .ins C dx fs => H dx = some (.own a) ∧ fs.length ≤ 1000 ∧ dx ≠ a ∧ h.get? a = some (PySem.W.instObj C dx) ∧
      ∃ mA, h.Ns1 dx mA ∧ (∀ f, RelO (fs.lookup f) (mA f)) ∧ PySem.Within mA (fs.map (·.1))
  | .own _ => ∃ o, h.get? a = some o
  | .xd fs => ∃ mA, h.Ns1 a mA ∧ ∀ f, RelO (fs.lookup f) (mA f)
  | .rng lo hi => ∃ t u v, h.get? a = some { cls := .type "range", data := .fields #[.int lo t, .int hi u, .int 1 v] }
  | .frz o u => h.get? a = some o ∧ ObjOk H h a u
  | .tbl ps => h.get? a = some { cls := .none, data := .fields ps }
  | .met f x => h.get? a = some (PySem.W.methodObj (.ref f) (.ref x))
  | .ext φ => φ h ∧ (∃ o, h.get? a = some o) ∧ ∀ h1 h2 : Heap, φ h1 → (∀ o, h1.get? a = some o → h2.get? a = some o) → φ h2
def HOk (H : Hp) (h : Heap) : Prop := ∀ a o, H a = some o → ObjOk P w H h a o
end
section
variable {P : Program} {w : World} {H H' : Hp} {h h' : Heap} {a : Addr} {o : HO}
theorem ObjOk.lt (x : ObjOk P w H h a o) : a < h.objs.size := by
  cases o with
  | lst xs => obtain ⟨_, _, _, _, e⟩ := x; exact Heap.lt_size e
  | tup xs => obtain ⟨_, _, _, p⟩ := x; exact p.lt
  | dK kvs => obtain ⟨_, _, _, _, o, _, _, e, _⟩ := x; exact Heap.lt_size e
  | dT kvs => obtain ⟨_, _, _, _, o, _, _, e, _⟩ := x; exact Heap.lt_size e
  | set S n => obtain ⟨o, _, _, _, e, _⟩ := x; exact Heap.lt_size e
  | ins C dx fs => obtain ⟨_, _, _, e, _⟩ := x; exact Heap.lt_size e
  | own y => obtain ⟨_, e⟩ := x; exact Heap.lt_size e
  | xd fs => obtain ⟨_, ⟨_, _, _, e, _⟩, _⟩ := x; exact Heap.lt_size e
  | rng lo hi => obtain ⟨_, _, _, e⟩ := x; exact Heap.lt_size e
  | frz ob u => obtain ⟨e, _⟩ := x; exact Heap.lt_size e
  | tbl ps => exact Heap.lt_size (show h.get? a = some _ from x)
  | met f y => exact Heap.lt_size (show h.get? a = some _ from x)
  | ext φ => obtain ⟨_, ⟨_, e⟩, _⟩ := x; exact Heap.lt_size e
theorem Paired.mapP {α β : Type} {F G : α → β → Prop} : ∀ {l₁ : List α} {l₂ : List β}, Paired F l₁ l₂ → (∀ a b, F a b → G a b) → Paired G l₁ l₂
  | _, _, .nil, _ => .nil
  | _, _, .cons r t, f => .cons (f _ _ r) (Paired.mapP t f)
theorem ObjOk.stay (x : ObjOk P w H h a o) (k : ∀ b u, (b = a ∨ H b = some (.own a)) → h.get? b = some u → h'.get? b = some u)
    (ho : ∀ b, H b = some (.own a) → H' b = some (.own a)) (ht : ∀ b xs, H b = some (.tup xs) → H' b = some (.tup xs)) : ObjOk P w H' h' a o := by
  induction o with
  | lst xs => obtain ⟨z, its, n, r, e⟩ := x; exact ⟨z, its, n, r, k _ _ (.inl rfl) e⟩
  | tup xs => obtain ⟨z, its, r, ob, e, c⟩ := x; exact ⟨z, its, r, ob, k _ _ (.inl rfl) e, c⟩
  | dK kvs => obtain ⟨z, y, vs, r, ob, es, ep, e, c⟩ := x; exact ⟨z, y, vs, r, ob, es, ep, k _ _ (.inl rfl) e, c⟩
  | dT kvs =>
    obtain ⟨z, y, xs, r, ob, es, ep, e, c⟩ := x
    exact ⟨z, y, xs, Paired.mapP r fun p q z => ⟨z.1, ht _ _ z.2.1, z.2.2⟩, ob, es, ep, k _ _ (.inl rfl) e, c⟩
  | set S n => obtain ⟨ob, es, ep, t, e, c⟩ := x; exact ⟨ob, es, ep, t, k _ _ (.inl rfl) e, c⟩
  | ins C dx fs =>
    obtain ⟨d, z, ne, e, mA, ⟨od, es, ep, e2, c⟩, r⟩ := x
    exact ⟨ho _ d, z, ne, k _ _ (.inl rfl) e, mA, ⟨od, es, ep, k _ _ (.inr d) e2, c⟩, r⟩
  | own y => obtain ⟨ob, e⟩ := x; exact ⟨ob, k _ _ (.inl rfl) e⟩
  | xd fs => obtain ⟨mA, ⟨od, es, ep, e, c⟩, r⟩ := x; exact ⟨mA, ⟨od, es, ep, k _ _ (.inl rfl) e, c⟩, r⟩
  | rng lo hi => obtain ⟨t, u, v, e⟩ := x; exact ⟨t, u, v, k _ _ (.inl rfl) e⟩
  | frz ob u ih => obtain ⟨e, q⟩ := x; exact ⟨k _ _ (.inl rfl) e, ih q⟩
  | tbl ps =>
    have e : h.get? a = some { cls := .none, data := .fields ps } := x
    show h'.get? a = some { cls := .none, data := .fields ps }
    exact k a _ (.inl rfl) e
  | met f y =>
    have e : h.get? a = some (PySem.W.methodObj (.ref f) (.ref y)) := x
    show h'.get? a = some (PySem.W.methodObj (.ref f) (.ref y))
    exact k a _ (.inl rfl) e
  | ext φ => obtain ⟨p, ⟨o, e⟩, st⟩ := x; exact ⟨st _ _ p fun o q => k _ _ (.inl rfl) q, ⟨o, k _ _ (.inl rfl) e⟩, st⟩
theorem HOk.lt (x : HOk P w H h) (e : H a = some o) : a < h.objs.size := (x a o e).lt
theorem HOk.fresh (x : HOk P w H h) (e : h.objs.size ≤ a) : H a = none := by
  cases q : H a with
  | none => rfl
  | some u => exact absurd (Nat.lt_of_lt_of_le (x.lt q) e) (Nat.lt_irrefl _)
theorem HOk.kept (x : HOk P w H h) (k : ∀ b u, h.get? b = some u → h'.get? b = some u) : HOk P w H h' := fun a o e =>
  (x a o e).stay (fun b u _ q => k b u q) (fun _ q => q) fun _ _ q => q
theorem HOk.laid (x : HOk P w H h) (k : ∀ b u, h.get? b = some u → h'.get? b = some u) (hp : h.objs.size ≤ a) (new : ObjOk P w (upd H a o) h' a o) : HOk P w (upd H a o) h' := fun b u e => by
  have hn := x.fresh hp
  by_cases hb : b = a
  · subst hb; rw [aql] at e; cases e; exact new
  · rw [aqu hb] at e
    exact (x b u e).stay (fun c v _ q => k c v q) (fun c q => by rw [aqu (aqr q hn)]; exact q) fun c xs q => by rw [aqu (aqr q hn)]; exact q
end
def Rd (H : Hp) (a : Addr) (u : HO) : Prop := H a = some u ∨ ∃ o, H a = some (.frz o u)
theorem Rd.ok {P : Program} {w : World} {H : Hp} {h : Heap} {a : Addr} {u : HO} (r : Rd H a u) (x : HOk P w H h) : ObjOk P w H h a u := by
  rcases r with r | ⟨o, r⟩
  · exact x a u r
  · obtain ⟨_, q⟩ := x a _ r
    exact q
def Mut : Option HO → Prop
  | some (.lst _) => True
  | some (.dK _) => True
  | some (.dT _) => True
  | some (.set _ _) => True
  | some (.ins _ _ _) => True
  | some (.ext _) => True
  | _ => False
section
variable {P : Program} {w : World} {H : Hp} {h h' : Heap} {x e : Addr} {o' : HO}
theorem HOk.write (ok : HOk P w H h) (mu : Mut (H x)) (he : e = x ∨ H e = some (.own x)) (k : ∀ b u, b ≠ e → h.get? b = some u → h'.get? b = some u) (heo : ∃ u, h'.get? e = some u)
    (new : ObjOk P w (upd H x o') h' x o') : HOk P w (upd H x o') h' := fun b u q => by
  have nown : ∀ c y, H c = some (.own y) → c ≠ x := fun c y r z => by subst z; rw [r] at mu; exact mu
  have ntup : ∀ c xs, H c = some (.tup xs) → c ≠ x := fun c xs r z => by subst z; rw [r] at mu; exact mu
  by_cases hb : b = x
  · subst hb; rw [aql] at q; cases q; exact new
  · rw [aqu hb] at q
    by_cases hbe : b = e
    · have q' : H b = some (.own x) := by
        rcases he with z | z
        · exact absurd (hbe.trans z) hb
        · rw [hbe]; exact z
      rw [q] at q'; cases q'
      obtain ⟨v, hv⟩ := heo
      exact ⟨v, by rw [hbe]; exact hv⟩
    · refine (ok b u q).stay (fun c v hc r => k c v ?_ r) (fun c r => by rw [aqu (nown c b r)]; exact r) fun c xs r => by rw [aqu (ntup c xs r)]; exact r
      rcases hc with rfl | hc
      · exact hbe
      · rintro rfl
        rcases he with z | z
        · exact nown c b hc z
        · rw [hc] at z; cases z; exact hb rfl
end
structure Un (fs ex : List Addr) (H H' : Hp) (h h' : Heap) : Prop where
  keep : ∀ b o, h.get? b = some o → H b = none → b ∉ fs → b ∉ ex → h'.get? b = some o
  slot : ∀ b o, h.get? b = some o → H b = none → b ∈ fs → b ∉ ex → ∃ sl, h'.get? b = some { o with slots := sl }
  free : ∀ b o, h.get? b = some o → H b = none → b ∉ ex → H' b = none
  there : ∀ b o, h.get? b = some o → b ∉ ex → ∃ o', h'.get? b = some o'
  tups : ∀ b xs, H b = some (.tup xs) → H' b = some (.tup xs)
  frzs : ∀ b o u, H b = some (.frz o u) → H' b = some (.frz o u)
  tbls : ∀ b ps, H b = some (.tbl ps) → ∃ more, H' b = some (.tbl (ps ++ more))
section
variable {fs fs' ex ex' : List Addr} {H H1 H2 : Hp} {h h1 h2 h' : Heap} {a x e : Addr} {o : HO}
theorem Un.any (u : Un fs ex H H1 h h1) {b : Addr} {ob : Obj} (q : h.get? b = some ob) (n : H b = none) (hx : b ∉ ex) : ∃ sl, h1.get? b = some { ob with slots := sl } := by
  by_cases hb : b ∈ fs
  · exact u.slot b ob q n hb hx
  · exact ⟨ob.slots, u.keep b ob q n hb hx⟩
theorem Un.kept (k : ∀ b u, h.get? b = some u → h'.get? b = some u) : Un fs ex H H h h' :=
  ⟨fun b ob q _ _ _ => k b ob q, fun b ob q _ _ _ => ⟨ob.slots, k b ob q⟩, fun _ _ _ n _ => n, fun b ob q _ => ⟨ob, k b ob q⟩, fun _ _ q => q, fun _ _ _ q => q, fun _ ps q => ⟨#[], by rw [q]; simp⟩⟩
theorem Un.refl : Un fs ex H H h h := Un.kept fun _ _ q => q
theorem Un.laid (k : ∀ b u, h.get? b = some u → h'.get? b = some u) (hp : h.objs.size ≤ a) (hn : H a = none) : Un fs ex H (upd H a o) h h' where
  keep := fun b u q _ _ _ => k b u q
  slot := fun b u q _ _ _ => ⟨u.slots, k b u q⟩
  free := fun b u q n _ => by rw [aqu (Nat.ne_of_lt (Nat.lt_of_lt_of_le (Heap.lt_size q) hp))]; exact n
  there := fun b u q _ => ⟨u, k b u q⟩
  tups := fun b xs q => by rw [aqu (aqr q hn)]; exact q
  frzs := fun b u xs q => by rw [aqu (aqr q hn)]; exact q
  tbls := fun b ps q => ⟨#[], by rw [aqu (aqr q hn), q]; simp⟩
theorem Un.write (mu : Mut (H x)) (he : e = x ∨ H e = some (.own x)) (k : ∀ b u, b ≠ e → h.get? b = some u → h'.get? b = some u) (heo : ∃ u, h'.get? e = some u) : Un fs ex H (upd H x o) h h' := by
  have hx : ∀ b, H b = none → b ≠ x := fun b n z => by subst z; rw [n] at mu; exact mu
  have hb : ∀ b, H b = none → b ≠ e := fun b n z => by
    subst z
    rcases he with r | r
    · exact hx b n r
    · rw [n] at r; cases r
  have hm : ∀ b u, H b = some u → ¬ Mut (some u) → b ≠ x := fun b u q nm z => by subst z; rw [q] at mu; exact nm mu
  refine ⟨fun b u q n _ _ => k b u (hb b n) q, fun b u q n _ _ => ⟨u.slots, k b u (hb b n) q⟩, fun b u q n _ => by rw [aqu (hx b n)]; exact n, fun b u q _ => ?_,
    fun b xs q => by rw [aqu (hm b _ q fun z => z)]; exact q, fun b u xs q => by rw [aqu (hm b _ q fun z => z)]; exact q, fun b ps q => ⟨#[], by rw [aqu (hm b _ q fun z => z), q]; simp⟩⟩
  by_cases hbe : b = e
  · subst hbe; exact heo
  · exact ⟨u, k b u hbe q⟩
end
def trk (h : Heap) (H : Hp) : List Addr := (List.range h.objs.size).filter fun a => (H a).isSome
def hidT (h : Heap) (H : Hp) : Heap := PySem.W.hideAll h (trk h H)
theorem pq7 (h : Heap) (H : Hp) : (hidT h H).objs.size = h.objs.size := PySem.W.hideAll_size _ _
theorem rqH {h : Heap} {H : Hp} {b : Addr} {o : Obj} (e : h.get? b = some o) (n : H b = none) : (hidT h H).get? b = some o :=
  PySem.W.hideAll_get _ e fun hm => by
    have q : (H b).isSome = true := (List.mem_filter.mp hm).2
    rw [n] at q; simp at q
theorem tqB {h : Heap} {H : Hp} {b : Addr} {o : Obj} (e : (hidT h H).get? b = some o) : h.get? b = some o ∧ H b = none := by
  have e' : h.get? b = some o := PySem.W.of_hideAll (trk h H) e
  refine ⟨e', ?_⟩
  cases q : H b with
  | none => rfl
  | some x =>
    have hm : b ∈ trk h H := List.mem_filter.mpr ⟨List.mem_range.mpr (Heap.lt_size e'), by simp [q]⟩
    have z : (hidT h H).get? b = none := PySem.W.hideAll_none (trk h H) hm
    rw [z] at e; cases e
def allNews (g h : Heap) (L : Addr) : List (Addr × Obj) := (List.range h.objs.size).filterMap fun a => if a = L ∨ (g.get? a).isSome = true then none else (h.get? a).map fun o => (a, o)
def rest (g h : Heap) (L d : Addr) : List (Addr × Obj) := (allNews g h L).filter fun p => decide (p.1 ≠ d)
end L2
namespace L2
open PySem PySem.Spec PyProof.Rows
structure Mod (K : PySem.W.Frag) (mg : Str → Option Value) (base : Heap) : Prop where
  kin : K.In base
  glob : base.Ns mainGlobals mg
  blt : ∃ mb, base.Ns builtinsNs mb ∧ ∀ x : Str, x ≠ "__name__" → mb x = bootBuiltins x
  nolimit : base.NoLimit
structure Cx where
  prog : Program
  w : World
  K : PySem.W.Frag
  mg : Str → Option Value
  base : Heap
  A : Around
  N : List Str
  s₀ : Shared
  H₀ : Hp
  env : Env
  outer : List Env
  stack : List Env
  ex : List Addr
  fn : Str → Bool
  calm : Bool
  pn : List (Addr × Obj)
  xe : Value → Shared → Prop
def frs (l : List Env) : List Addr := l.filterMap (·.frame)
abbrev Cx.fs (X : Cx) : List Addr := frs X.outer
def Vis (sc : Scope) (x : Str) : Prop := sc.names.lookup x = some .local ∨ sc.names.lookup x = some .cell ∨ sc.names.lookup x = some .free
def Loc (sc : Scope) (x : Str) : Prop := sc.names.lookup x = some .local ∨ sc.names.lookup x = some .cell
def Look (env : Env) (h : Heap) (m : Str → Option Value) (x : Str) (u : Value) : Prop :=
  (env.kindOf x = some .local ∧ m x = some u) ∨ ((env.kindOf x = some .cell ∨ env.kindOf x = some .free) ∧ ∃ c, env.cells.lookup x = some c ∧ h.IsCell c (some u))
structure Cx.Ok (X : Cx) : Prop where
  mod : Mod X.K X.mg X.base
  kind : X.env.scope.kind = .function
  glob : X.env.globals = mainGlobals
  blt : X.env.builtins = builtinsNs
  above : X.s₀.heap.objs.size ≤ X.env.locals
  inj : ∀ x y c, X.env.cells.lookup x = some c → X.env.cells.lookup y = some c → x = y
  has : ∀ x, (X.env.kindOf x = some .cell ∨ X.env.kindOf x = some .free) → ∃ c, X.env.cells.lookup x = some c
  cab : ∀ x c, X.fn x = true → X.env.cells.lookup x = some c → X.s₀.heap.objs.size ≤ c
  hd : X.calm = true → X.A.handled = none
  frames : X.A.frames = some X.stack
  stk : X.stack = X.outer ∨ (X.stack = X.env :: X.outer ∧ X.env.frame = some X.env.locals)
  exf : ∀ b ∈ X.ex, b ≠ X.env.locals ∧ ∀ x c, X.env.cells.lookup x = some c → c ≠ b
  bs : ∀ b o, X.base.get? b = some o → X.s₀.heap.get? b = some o ∧ X.H₀ b = none
  bsz : X.base.objs.size ≤ X.s₀.heap.objs.size
  noex : ∀ b o, X.base.get? b = some o → b ∉ X.ex
  exfs : ∀ b ∈ X.ex, b ∉ X.fs
  funs : X.s₀.heap.FunFrames X.base X.outer
  frf : ∀ b ∈ X.fs, X.H₀ b = none
structure Inv (X : Cx) (pins : List (Addr × Obj)) (σ : List (Option V)) (H : Hp) (s : Shared) : Prop where
  ok : X.Ok
  os : s.os = X.s₀.os
  bare : AllBare s.gens
  base : Un X.fs X.ex X.H₀ H X.s₀.heap s.heap
  loc : ∃ m, s.heap.Ns X.env.locals m ∧ ∀ (i : Nat) (x : Str) (v : V), X.N[i]? = some x → σ[i]? = some (some v) → Vis X.env.scope x → ∃ u, RelV v u ∧ Look X.env s.heap m x u
  cell : ∀ x c, X.env.cells.lookup x = some c → ∃ v, s.heap.IsCell c v
  free : H X.env.locals = none
  freeC : ∀ x c, X.env.cells.lookup x = some c → H c = none
  pin : ∀ p ∈ X.pn ++ pins, s.heap.get? p.1 = some p.2 ∧ H p.1 = none ∧ p.1 ≠ X.env.locals ∧ p.1 ∉ X.fs ∧ ∀ v, p.2.data ≠ .cell v
  hok : HOk X.prog X.w H s.heap
  len : σ.length = X.N.length
section
variable {X : Cx} {pins : List (Addr × Obj)} {σ : List (Option V)} {H H' : Hp} {s : Shared} {h' : Heap}
theorem Cx.Ok.nofr (ok : X.Ok) {b : Addr} {o : Obj} (e : X.base.get? b = some o) : b ∉ X.fs := fun hb => by
  have := (ok.funs.mem hb).1
  rw [e] at this; cases this
theorem Inv.bs (I : Inv X pins σ H s) : ∀ b o, X.base.get? b = some o → s.heap.get? b = some o ∧ H b = none := fun b o e =>
  ⟨I.base.keep b o (I.ok.bs b o e).1 (I.ok.bs b o e).2 (I.ok.nofr e) (I.ok.noex b o e), I.base.free b o (I.ok.bs b o e).1 (I.ok.bs b o e).2 (I.ok.noex b o e)⟩
theorem Inv.bk (I : Inv X pins σ H s) : ∀ b o, X.base.get? b = some o → s.heap.get? b = some o := fun b o e => (I.bs b o e).1
theorem Inv.mod (I : Inv X pins σ H s) : Mod X.K X.mg X.base := I.ok.mod
theorem Inv.kIn (I : Inv X pins σ H s) : X.K.In s.heap := I.ok.mod.kin.keeps I.bk
theorem Inv.lt (I : Inv X pins σ H s) : X.env.locals < s.heap.objs.size := let ⟨_, hn, _⟩ := I.loc; hn.lt
theorem Inv.sz (I : Inv X pins σ H s) : X.s₀.heap.objs.size ≤ s.heap.objs.size := Nat.le_trans I.ok.above (Nat.le_of_lt I.lt)
theorem Inv.nofs (I : Inv X pins σ H s) {a : Addr} (h : s.heap.objs.size ≤ a) : a ∉ X.fs := fun hb => by
  obtain ⟨_, o, ho, _⟩ := I.ok.funs.mem hb
  exact absurd (Nat.lt_of_lt_of_le (Heap.lt_size ho) (Nat.le_trans I.sz h)) (Nat.lt_irrefl _)
theorem Inv.cne (I : Inv X pins σ H s) : ∀ x c, X.env.cells.lookup x = some c → c ≠ X.env.locals := fun x c e z => by
  obtain ⟨v, o, ho, hd⟩ := I.cell x c e
  obtain ⟨m, ⟨o', es, ep, ho', hd', _⟩, _⟩ := I.loc
  rw [z, ho'] at ho; cases ho; rw [hd'] at hd; cases hd
theorem Inv.funs (I : Inv X pins σ H s) : s.heap.FunFrames X.base X.outer := by
  have all : ∀ (l : List Env), (∀ b ∈ frs l, b ∈ X.fs) → X.s₀.heap.FunFrames X.base l → s.heap.FunFrames X.base l := by
    intro l
    induction l with
    | nil => intro _ _; trivial
    | cons env r ih =>
      intro hs hl
      obtain ⟨hk, ⟨L, o, hf, hn, ho, hd⟩, hr⟩ := hl
      have hL : L ∈ X.fs := hs L (by unfold frs; rw [List.filterMap_cons, hf]; exact List.mem_cons_self)
      obtain ⟨sl, e⟩ := I.base.slot L o ho (I.ok.frf L hL) hL fun z => I.ok.exfs L z hL
      exact ⟨hk, ⟨L, _, hf, hn, e, hd⟩, ih (fun b hb => hs b (by unfold frs; rw [List.filterMap_cons, hf]; exact List.mem_cons_of_mem _ hb)) hr⟩
  exact all X.outer (fun _ hb => hb) I.ok.funs
theorem Inv.stack (I : Inv X pins σ H s) : s.heap.FunFrames X.base X.stack := by
  rcases I.ok.stk with e | ⟨e, hf⟩
  · rw [e]; exact I.funs
  · rw [e]
    obtain ⟨m, hn, _⟩ := I.loc
    refine .cons (by rw [I.ok.kind]; decide) hf hn ?_ I.funs
    exact Heap.get?_none_of_le (Nat.le_trans I.ok.bsz I.ok.above)
theorem Inv.stkSub (I : Inv X pins σ H s) : ∀ b ∈ frs X.stack, b ∈ X.env.locals :: X.fs := fun b hb => by
  rcases I.ok.stk with e | ⟨e, hf⟩
  · rw [e] at hb; exact List.mem_cons_of_mem _ hb
  · rw [e] at hb
    unfold frs at hb
    rw [List.filterMap_cons, hf] at hb
    exact hb
theorem Inv.stkFree (I : Inv X pins σ H s) : ∀ b ∈ frs X.stack, H b = none := fun b hb => by
  rcases List.mem_cons.mp (I.stkSub b hb) with e | hb
  · rw [e]; exact I.free
  · obtain ⟨_, o, ho, _⟩ := I.ok.funs.mem hb
    exact I.base.free b o ho (I.ok.frf b hb) fun z => I.ok.exfs b z hb
theorem Inv.step {g' : Array GenState} {t' : Nat} {d' : Drawn} {ch : List Addr} (I : Inv X pins σ H s)
    (hch : ∀ b ∈ ch, (b ∈ X.ex ∨ X.s₀.heap.objs.size ≤ b) ∧ b ≠ X.env.locals ∧ (∀ x c, X.env.cells.lookup x = some c → c ≠ b) ∧ ∀ p ∈ X.pn ++ pins, p.1 ≠ b)
    (keep : ∀ b o, b ≠ X.env.locals → b ∉ X.fs → b ∉ ch → s.heap.get? b = some o → H b = none → h'.get? b = some o)
    (slot : ∀ b o, b ≠ X.env.locals → b ∈ X.fs → b ∉ ch → s.heap.get? b = some o → H b = none → ∃ sl, h'.get? b = some { o with slots := sl }) (free : ∀ b o, b ∉ ch → s.heap.get? b = some o → H b = none → H' b = none)
    (there : ∀ b o, b ∉ ch → s.heap.get? b = some o → ∃ o', h'.get? b = some o')
    (tups : ∀ b xs, H b = some (.tup xs) → H' b = some (.tup xs)) (frzs : ∀ b o u, H b = some (.frz o u) → H' b = some (.frz o u)) (tbls : ∀ b ps, H b = some (.tbl ps) → ∃ more, H' b = some (.tbl (ps ++ more)))
    (ns : ∀ m, s.heap.Ns X.env.locals m → h'.Ns X.env.locals m) (hok : HOk X.prog X.w H' h') (hg : AllBare g') :
    Inv X pins σ H' { s with heap := h', gens := g', drawn := d', toks := t' } := by
  have neL : ∀ b o, X.s₀.heap.get? b = some o → b ≠ X.env.locals := fun b o e => Nat.ne_of_lt (Nat.lt_of_lt_of_le (Heap.lt_size e) I.ok.above)
  have neC : ∀ b o, X.s₀.heap.get? b = some o → b ∉ X.ex → b ∉ ch := fun b o e hx hb => by
    rcases (hch b hb).1 with z | z
    · exact hx z
    · exact absurd (Nat.lt_of_lt_of_le (Heap.lt_size e) z) (Nat.lt_irrefl _)
  have cellK : ∀ x c, X.env.cells.lookup x = some c → ∀ v, s.heap.IsCell c v → h'.IsCell c v := fun x c e v ⟨o, ho, hd⟩ => by
    have nch : c ∉ ch := fun z => (hch c z).2.2.1 x c e rfl
    by_cases hc : c ∈ X.fs
    · obtain ⟨sl, q⟩ := slot c o (I.cne x c e) hc nch ho (I.freeC x c e)
      exact ⟨_, q, hd⟩
    · exact ⟨o, keep c o (I.cne x c e) hc nch ho (I.freeC x c e), hd⟩
  refine ⟨I.ok, I.os, hg, ⟨fun b o e n hb hx => ?_, fun b o e n hb hx => ?_, fun b o e n hx => ?_, fun b o e hx => ?_, fun b xs e => tups b xs (I.base.tups b xs e), fun b o xs e => frzs b o xs (I.base.frzs b o xs e), fun b ps e => ?_⟩, ?_, fun x c e => ?_, ?_, fun x c e => ?_, fun p hp => ?_, hok, I.len⟩
  · exact keep b o (neL b o e) hb (neC b o e hx) (I.base.keep b o e n hb hx) (I.base.free b o e n hx)
  · obtain ⟨sl, e1⟩ := I.base.slot b o e n hb hx
    obtain ⟨sl', e2⟩ := slot b _ (neL b o e) hb (neC b o e hx) e1 (I.base.free b o e n hx)
    exact ⟨sl', e2⟩
  · obtain ⟨o', e1⟩ := I.base.there b o e hx
    exact free b o' (neC b o e hx) e1 (I.base.free b o e n hx)
  · obtain ⟨o', e1⟩ := I.base.there b o e hx
    exact there b o' (neC b o e hx) e1
  · obtain ⟨m1, e1⟩ := I.base.tbls b ps e
    obtain ⟨m2, e2⟩ := tbls b _ e1
    exact ⟨m1 ++ m2, by rw [e2, Array.append_assoc]⟩
  · obtain ⟨m, hn, hl⟩ := I.loc
    refine ⟨m, ns m hn, fun i x v e1 e2 e3 => ?_⟩
    obtain ⟨u, r, l⟩ := hl i x v e1 e2 e3
    refine ⟨u, r, ?_⟩
    rcases l with l | ⟨k, c, e, z⟩
    · exact .inl l
    · exact .inr ⟨k, c, e, cellK x c e _ z⟩
  · obtain ⟨v, z⟩ := I.cell x c e
    exact ⟨v, cellK x c e v z⟩
  · obtain ⟨m, ⟨o, _, _, ho, _⟩, _⟩ := I.loc
    exact free _ o (fun z => (hch _ z).2.1 rfl) ho I.free
  · obtain ⟨v, o, ho, hd⟩ := I.cell x c e
    exact free c o (fun z => (hch c z).2.2.1 x c e rfl) ho (I.freeC x c e)
  · obtain ⟨e, n, ne, nf, d⟩ := I.pin p hp
    have nch : p.1 ∉ ch := fun z => (hch p.1 z).2.2.2 p hp rfl
    exact ⟨keep p.1 p.2 ne nf nch e n, free p.1 p.2 nch e n, ne, nf, d⟩
theorem Inv.un {t' : Nat} (I : Inv X pins σ H s) (u : Un X.fs [] H H' s.heap h') (hok : HOk X.prog X.w H' h') : Inv X pins σ H' { s with heap := h', toks := t' } := by
  obtain ⟨m, ⟨o, es, ep, ho, r⟩, _⟩ := id I.loc
  obtain ⟨sl, hL⟩ := u.any ho I.free (by simp)
  exact I.step (g' := s.gens) (d' := s.drawn) (ch := []) (fun _ z => nomatch z) (fun b o _ hb _ e n => u.keep b o e n hb (by simp)) (fun b o _ hb _ e n => u.slot b o e n hb (by simp)) (fun b o _ e n => u.free b o e n (by simp)) (fun b o _ e => u.there b o e (by simp)) u.tups u.frzs u.tbls (fun m' hm => by
    obtain ⟨o', es', ep', ho', r'⟩ := hm
    rw [ho] at ho'; cases ho'
    exact ⟨_, es', ep', hL, r'⟩) hok I.bare
theorem Inv.call {g' : Array GenState} {t' : Nat} {d' : Drawn} {ch : List Addr} (I : Inv X pins σ H s) (u : Un (frs X.stack) ch H H' s.heap h') (hok : HOk X.prog X.w H' h') (hg : AllBare g')
    (hch : ∀ b ∈ ch, (b ∈ X.ex ∨ X.s₀.heap.objs.size ≤ b) ∧ b ≠ X.env.locals ∧ (∀ x c, X.env.cells.lookup x = some c → c ≠ b) ∧ ∀ p ∈ X.pn ++ pins, p.1 ≠ b) :
    Inv X pins σ H' { s with heap := h', gens := g', drawn := d', toks := t' } := by
  obtain ⟨m, ⟨o, es, ep, ho, r⟩, _⟩ := id I.loc
  obtain ⟨sl, hL⟩ := u.any ho I.free fun z => (hch _ z).2.1 rfl
  exact I.step (ch := ch) hch (fun b o hL hb hc e n => u.keep b o e n (fun z => (List.mem_cons.mp (I.stkSub b z)).elim hL hb) hc) (fun b o _ _ hc e n => u.any e n hc) (fun b o hc e n => u.free b o e n hc) (fun b o hc e => u.there b o e hc) u.tups u.frzs u.tbls (fun m' hm => by
    obtain ⟨o', es', ep', ho', r'⟩ := hm
    rw [ho] at ho'; cases ho'
    exact ⟨_, es', ep', hL, r'⟩) hok hg
theorem Inv.turned {t' : Nat} {it : Addr} (I : Inv X pins σ H s) (k : ∀ b o, b ≠ it → s.heap.get? b = some o → h'.get? b = some o) (hn : H it = none) (hL : it ≠ X.env.locals)
    (h1 : it ∈ X.ex ∨ X.s₀.heap.objs.size ≤ it) (h2 : ∀ x c, X.env.cells.lookup x = some c → c ≠ it) (h3 : ∀ p ∈ X.pn ++ pins, p.1 ≠ it) : Inv X pins σ H { s with heap := h', toks := t' } := by
  have nit : ∀ b u, H b = some u → b ≠ it := fun b u e z => by rw [z, hn] at e; cases e
  refine I.step (g' := s.gens) (d' := s.drawn) (ch := [it]) (fun b hb => ?_) (fun b o _ _ hc e _ => k b o (fun z => hc (by simp [z])) e) (fun b o _ _ hc e _ => ⟨o.slots, k b o (fun z => hc (by simp [z])) e⟩) (fun _ _ _ _ n => n)
    (fun b o hc e => ⟨o, k b o (fun z => hc (by simp [z])) e⟩) (fun _ _ e => e) (fun _ _ _ e => e) (fun b ps e => ⟨#[], by rw [e]; simp⟩) (fun m hm => ?_) (fun b u e => ?_) I.bare
  · have e : b = it := by simpa using hb
    subst e
    exact ⟨h1, hL, h2, h3⟩
  · obtain ⟨o, es, ep, ho, r⟩ := hm
    exact ⟨o, es, ep, k _ o (Ne.symm hL) ho, r⟩
  · refine (I.hok b u e).stay (fun c v hc q => k c v ?_ q) (fun _ q => q) fun _ _ q => q
    rcases hc with z | z
    · rw [z]; exact nit b u e
    · exact nit c _ z
theorem Inv.tok (I : Inv X pins σ H s) (t : Nat) : Inv X pins σ H { s with toks := t } := I.un (h' := s.heap) (t' := t) Un.refl I.hok
theorem Inv.kept {t' : Nat} (I : Inv X pins σ H s) (k : ∀ b u, s.heap.get? b = some u → h'.get? b = some u) : Inv X pins σ H { s with heap := h', toks := t' } := I.un (Un.kept k) (I.hok.kept k)
theorem Inv.laid {a : Addr} {o : HO} {t' : Nat} (I : Inv X pins σ H s) (k : ∀ b u, s.heap.get? b = some u → h'.get? b = some u) (hp : s.heap.objs.size ≤ a) (new : ObjOk X.prog X.w (upd H a o) h' a o) :
    Inv X pins σ (upd H a o) { s with heap := h', toks := t' } := I.un (Un.laid k hp (I.hok.fresh hp)) (I.hok.laid k hp new)
theorem Inv.write {x e : Addr} {o : HO} {t' : Nat} (I : Inv X pins σ H s) (mu : Mut (H x)) (he : e = x ∨ H e = some (.own x)) (k : ∀ b u, b ≠ e → s.heap.get? b = some u → h'.get? b = some u) (heo : ∃ u, h'.get? e = some u)
    (new : ObjOk X.prog X.w (upd H x o) h' x o) : Inv X pins σ (upd H x o) { s with heap := h', toks := t' } := I.un (Un.write mu he k heo) (I.hok.write mu he k heo new)
theorem Inv.pins_of {pins' : List (Addr × Obj)} (I : Inv X pins σ H s) (h : ∀ p ∈ pins', s.heap.get? p.1 = some p.2 ∧ H p.1 = none ∧ p.1 ≠ X.env.locals ∧ p.1 ∉ X.fs ∧ ∀ v, p.2.data ≠ .cell v) : Inv X pins' σ H s :=
  ⟨I.ok, I.os, I.bare, I.base, I.loc, I.cell, I.free, I.freeC, fun p hp => (List.mem_append.mp hp).elim (fun z => I.pin p (List.mem_append_left _ z)) (h p), I.hok, I.len⟩
theorem lqB {N : List Str} (hN : N.Nodup) {i j : Nat} {x : Str} (a : N[i]? = some x) (b : N[j]? = some x) : i = j := by
  obtain ⟨h1, e1⟩ := List.getElem?_eq_some_iff.mp a
  obtain ⟨h2, e2⟩ := List.getElem?_eq_some_iff.mp b
  exact (List.getElem_inj hN).mp (e1.trans e2.symm)
theorem qqJ {M : Model} {A : Around} {E : Value → Shared → Prop} {i : Nat} {x : Str} {v : V} {u : Value} {Q : Unit → Shared → Prop} (I : Inv X pins σ H s) (hN : X.N.Nodup) (hi : X.N[i]? = some x) (hx : Loc X.env.scope x) (r : RelV v u)
    (h : ∀ s', Inv X pins (σ.set i (some v)) H s' → (∃ a, Heap.SameBut a s.heap s'.heap ∧ (a = X.env.locals ∨ X.env.cells.lookup x = some a)) → Q () s') (hf : X.fn x = true ∨ X.env.scope.names.lookup x = some .local := by first | exact .inl rfl | exact .inr rfl | assumption) : wpAny M A (storeName X.env x u) Q E s := by
  obtain ⟨m, hn, hl⟩ := id I.loc
  have hcls : (X.env.scope.kind == .class || (X.env.scope.kind == .module && X.env.locals != X.env.globals)) = false := by rw [I.ok.kind]; rfl
  have hiσ : i < σ.length := by rw [I.len]; exact (List.getElem?_eq_some_iff.mp hi).1
  have cne := I.cne
  have tracked : ∀ {a : Addr} {h' : Heap}, (∃ o, s.heap.get? a = some o ∧ H a = none) → Heap.SameBut a s.heap h' → HOk X.prog X.w H h' := fun {a h'} ha hs b ob e => by
    obtain ⟨_, _, hfree⟩ := ha
    refine (I.hok b ob e).stay (fun c w' hc q => (hs.2 c ?_).trans q) (fun _ q => q) fun _ _ q => q
    rintro rfl
    rcases hc with rfl | hc
    · rw [hfree] at e; cases e
    · rw [hfree] at hc; cases hc
  rcases hx with hk | hk
  · refine wpAny_storeName_local hk hn (fun h' hn' hs => ?_) hcls
    obtain ⟨oL, _, _, hoL, _⟩ := id hn
    refine h _ ⟨I.ok, I.os, I.bare, ⟨fun b o e n hb hx => ?_, fun b o e n hb hx => ?_, I.base.free, fun b o e hx => ?_, I.base.tups, I.base.frzs, I.base.tbls⟩, ⟨_, hn', fun j y v' e1 e2 e3 => ?_⟩, fun y c e => ?_, I.free, I.freeC, fun p hp => ?_, tracked ⟨oL, hoL, I.free⟩ hs, by simpa using I.len⟩ ⟨_, hs, .inl rfl⟩
    · exact (hs.2 b (Nat.ne_of_lt (Nat.lt_of_lt_of_le (Heap.lt_size e) I.ok.above))).trans (I.base.keep b o e n hb hx)
    · obtain ⟨sl, e1⟩ := I.base.slot b o e n hb hx
      exact ⟨sl, (hs.2 b (Nat.ne_of_lt (Nat.lt_of_lt_of_le (Heap.lt_size e) I.ok.above))).trans e1⟩
    · obtain ⟨o', e1⟩ := I.base.there b o e hx
      exact ⟨o', (hs.2 b (Nat.ne_of_lt (Nat.lt_of_lt_of_le (Heap.lt_size e) I.ok.above))).trans e1⟩
    · by_cases hj : j = i
      · subst hj
        rw [hi] at e1; cases e1
        rw [List.getElem?_set_self hiσ] at e2
        cases e2
        exact ⟨u, r, .inl ⟨hk, by simp⟩⟩
      · rw [List.getElem?_set_ne (Ne.symm hj)] at e2
        obtain ⟨u', r', q⟩ := hl j y v' e1 e2 e3
        refine ⟨u', r', ?_⟩
        rcases q with ⟨k, e⟩ | ⟨k, c, e, z⟩
        · refine .inl ⟨k, ?_⟩
          have : y ≠ x := fun e => hj (lqB hN e1 (e ▸ hi))
          simp [this, e]
        · exact .inr ⟨k, c, e, z.sameBut hs (cne y c e)⟩
    · obtain ⟨w', z⟩ := I.cell y c e
      exact ⟨w', z.sameBut hs (cne y c e)⟩
    · obtain ⟨e, n, ne, nf, d⟩ := I.pin p hp
      exact ⟨(hs.2 p.1 ne).trans e, n, ne, nf, d⟩
  · have hfn : X.fn x = true := by
      rcases hf with z | z
      · exact z
      · rw [z] at hk; cases hk
    obtain ⟨c, hc⟩ := I.ok.has x (.inl hk)
    obtain ⟨w', z⟩ := I.cell x c hc
    refine wpAny_storeName_cell I.ok.kind hk hc z (fun h' hc' hs => ?_)
    obtain ⟨oc, hoc, hocd⟩ := id z
    refine h { s with heap := h' } ⟨I.ok, I.os, I.bare, ⟨fun b o e n hb hx => ?_, fun b o e n hb hx => ?_, I.base.free, fun b o e hx => ?_, I.base.tups, I.base.frzs, I.base.tbls⟩, ⟨m, hn.sameBut hs (Ne.symm (cne x c hc)), fun j y v' e1 e2 e3 => ?_⟩, fun y c' e => ?_, I.free, I.freeC, fun p hp => ?_, tracked ⟨oc, hoc, I.freeC x c hc⟩ hs, by simpa using I.len⟩ ⟨c, hs, .inr hc⟩
    · exact (hs.2 b (Nat.ne_of_lt (Nat.lt_of_lt_of_le (Heap.lt_size e) (I.ok.cab x c hfn hc)))).trans (I.base.keep b o e n hb hx)
    · obtain ⟨sl, e1⟩ := I.base.slot b o e n hb hx
      exact ⟨sl, (hs.2 b (Nat.ne_of_lt (Nat.lt_of_lt_of_le (Heap.lt_size e) (I.ok.cab x c hfn hc)))).trans e1⟩
    · obtain ⟨o', e1⟩ := I.base.there b o e hx
      exact ⟨o', (hs.2 b (Nat.ne_of_lt (Nat.lt_of_lt_of_le (Heap.lt_size e) (I.ok.cab x c hfn hc)))).trans e1⟩
    · by_cases hj : j = i
      · subst hj
        rw [hi] at e1; cases e1
        rw [List.getElem?_set_self hiσ] at e2
        cases e2
        exact ⟨u, r, .inr ⟨.inl hk, c, hc, hc'⟩⟩
      · rw [List.getElem?_set_ne (Ne.symm hj)] at e2
        obtain ⟨u', r', q⟩ := hl j y v' e1 e2 e3
        refine ⟨u', r', ?_⟩
        rcases q with q | ⟨k, c', e, z'⟩
        · exact .inl q
        · refine .inr ⟨k, c', e, z'.sameBut hs ?_⟩
          rintro rfl
          exact hj (lqB hN e1 (I.ok.inj _ _ _ e hc ▸ hi))
    · by_cases hcc : c' = c
      · subst hcc; exact ⟨_, hc'⟩
      · obtain ⟨w2, z2⟩ := I.cell y c' e
        exact ⟨w2, z2.sameBut hs hcc⟩
    · obtain ⟨e, n, ne, nf, d⟩ := I.pin p hp
      refine ⟨(hs.2 p.1 ?_).trans e, n, ne, nf, d⟩
      intro q
      rw [q, hoc] at e
      have q' : oc = p.2 := Option.some.inj e
      exact d w' (by rw [← q']; exact hocd)
theorem lqv {M : Model} {A : Around} {E : Value → Shared → Prop} {i : Nat} {x : Str} {v : V} {u : Value} {Q : Unit → Shared → Prop} (I : Inv X pins σ H s) (hN : X.N.Nodup) (hi : X.N[i]? = some x) (hx : Loc X.env.scope x) (r : RelV v u)
    (h : ∀ s', Inv X pins (σ.set i (some v)) H s' → Q () s') (hf : X.fn x = true ∨ X.env.scope.names.lookup x = some .local := by first | exact .inl rfl | exact .inr rfl | assumption) : wpAny M A (storeName X.env x u) Q E s :=
  qqJ I hN hi hx r (fun s' I' _ => h s' I') hf
theorem Inv.call' {s' : Shared} {ch : List Addr} (I : Inv X pins σ H s) (ho : s'.os = s.os) (u : Un (frs X.stack) ch H H' s.heap s'.heap) (hok : HOk X.prog X.w H' s'.heap) (hg : AllBare s'.gens)
    (hch : ∀ b ∈ ch, (b ∈ X.ex ∨ X.s₀.heap.objs.size ≤ b) ∧ b ≠ X.env.locals ∧ (∀ x c, X.env.cells.lookup x = some c → c ≠ b) ∧ ∀ p ∈ X.pn ++ pins, p.1 ≠ b) : Inv X pins σ H' s' := by
  obtain ⟨h', g', d', t', o'⟩ := s'
  have e : o' = s.os := ho
  subst e
  exact I.call (g' := g') (t' := t') (d' := d') u hok hg hch
end
abbrev XK := Value → Option Addr → Hp → Prop
abbrev St := List (Option V)
abbrev VK := V → Hp → Prop
abbrev TE := St → Hp → VK → Prop
abbrev TT := St → Hp → (Bool → Hp → Prop) → Prop
abbrev TA := St → Hp → (List V → Hp → Prop) → Prop
structure Ends where
  nx : St → Hp → Prop
  rt : VK
  bk : St → Hp → Prop := fun _ _ => False
  ct : St → Hp → Prop := fun _ _ => False
abbrev TS := Ends → St → Hp → Prop
def EP (X : Cx) (pins : List (Addr × Obj)) (σ : St) (Q : VK) (u : Value) (s' : Shared) : Prop := ∃ v H', Inv X pins σ H' s' ∧ RelV v u ∧ Q v H'
def TP (X : Cx) (pins : List (Addr × Obj)) (σ : St) (Q : Bool → Hp → Prop) (b : Bool) (s' : Shared) : Prop := ∃ H', Inv X pins σ H' s' ∧ Q b H'
def AP (X : Cx) (pins : List (Addr × Obj)) (σ : St) (Q : List V → Hp → Prop) (us : List Value) (s' : Shared) : Prop := ∃ vs H', Inv X pins σ H' s' ∧ Vals vs us ∧ Q vs H'
def SP (X : Cx) (pins : List (Addr × Obj)) (D : Ends) (f : Flow) (s' : Shared) : Prop :=
  match f with
  | .next => ∃ σ' H', Inv X pins σ' H' s' ∧ D.nx σ' H'
  | .brk => ∃ σ' H', Inv X pins σ' H' s' ∧ D.bk σ' H'
  | .cont => ∃ σ' H', Inv X pins σ' H' s' ∧ D.ct σ' H'
  | .ret u => ∃ v σ' H', Inv X pins σ' H' s' ∧ RelV v u ∧ D.rt v H'
def PE (X : Cx) (e : Expr) (t : TE) : Prop :=
  ∀ (pins : List (Addr × Obj)) (s : Shared) (σ : St) (H : Hp) (Q : VK), Inv X pins σ H s → t σ H Q → wpAny (model X.prog X.w) X.A (eval e X.env) (EP X pins σ Q) X.xe s
def PT (X : Cx) (e : Expr) (t : TT) : Prop :=
  ∀ (pins : List (Addr × Obj)) (s : Shared) (σ : St) (H : Hp) (Q : Bool → Hp → Prop), Inv X pins σ H s → t σ H Q → wpAny (model X.prog X.w) X.A (isTrue e X.env (eval e X.env)) (TP X pins σ Q) X.xe s
def PW (X : Cx) (e : Expr) (t : TT) : Prop :=
  ∀ (whole : Sem Value) (pins : List (Addr × Obj)) (s : Shared) (σ : St) (H : Hp) (Q : Bool → Hp → Prop), Inv X pins σ H s → t σ H Q → wpAny (model X.prog X.w) X.A (isTrue e X.env whole) (TP X pins σ Q) X.xe s
theorem PW.pt {X : Cx} {e : Expr} {t : TT} (h : PW X e t) : PT X e t := h _
def PA (X : Cx) (es : List Expr) (t : TA) : Prop :=
  ∀ (pos : Pos) (pins : List (Addr × Obj)) (s : Shared) (σ : St) (H : Hp) (Q : List V → Hp → Prop), Inv X pins σ H s → t σ H Q → wpAny (model X.prog X.w) X.A (spliced (backTo pos (starEach es X.env))) (AP X pins σ Q) X.xe s
def PS (X : Cx) (st : Stmt) (t : TS) : Prop :=
  ∀ (pins : List (Addr × Obj)) (s : Shared) (σ : St) (H : Hp) (D : Ends), Inv X pins σ H s → t D σ H → wpAny (model X.prog X.w) X.A (exec st X.env) (SP X pins D) X.xe s
def PSs (X : Cx) (st : List Stmt) (t : TS) : Prop :=
  ∀ (pins : List (Addr × Obj)) (s : Shared) (σ : St) (H : Hp) (D : Ends), Inv X pins σ H s → t D σ H → wpAny (model X.prog X.w) X.A (execs st X.env) (SP X pins D) X.xe s
theorem thn {α : Type} {t : Sem α} {Q Q' : α → Shared → Prop} {M : Model} {A : Around} {E : Value → Shared → Prop} {s : Shared} (h : wpAny M A t Q E s) (hQ : ∀ a s, Q a s → Q' a s) : wpAny M A t Q' E s := wpAny_mono h hQ fun _ _ x => x
end L2
namespace L2
open PySem PySem.Spec PyProof.Rows
section
variable {X : Cx}
theorem bin {a b : Expr} {ta tb : TE} (ha : PE X a ta) (hb : PE X b tb) {pins : List (Addr × Obj)} {s : Shared} {σ : St} {H : Hp} {R : V → V → Hp → Prop} (I : Inv X pins σ H s) (h : ta σ H fun x H1 => tb σ H1 fun y H2 => R x y H2)
    {α : Type} {Q : α → Shared → Prop} {f : Value → Value → Sem α}
    (hf : ∀ v u s2 x y H2, Inv X pins σ H2 s2 → RelV x v → RelV y u → R x y H2 → wpAny (model X.prog X.w) X.A (f v u) Q X.xe s2) :
    wpAny (model X.prog X.w) X.A (eval a X.env) (fun v s₁ => wpAny (model X.prog X.w) X.A (eval b X.env) (fun u s₂ => wpAny (model X.prog X.w) X.A (f v u) Q X.xe s₂) X.xe s₁) X.xe s := by
  refine thn (ha pins s σ H _ I h) fun v s1 ⟨x, H1, I1, r1, q1⟩ => ?_
  refine thn (hb pins s1 σ H1 _ I1 q1) fun u s2 ⟨y, H2, I2, r2, q2⟩ => ?_
  exact hf v u s2 x y H2 I2 r1 r2 q2
def tVar (i : Nat) : TE := fun σ H Q => ∃ v, σ[i]? = some (some v) ∧ Q v H
def tC (v : V) : TE := fun _ H Q => Q v H
theorem uq4 {i : Nat} {x : Str} {pos : Pos} (hN : X.N[i]? = some x) (hv : Vis X.env.scope x) (hd : (x == ("__debug__" : Str)) = false := by decide) (hcd : (x == ("__classdict__" : Str)) = false := by decide) : PE X (.Name x pos) (tVar i) := by
  intro pins s σ H Q I h
  obtain ⟨v, e, h⟩ := h
  obtain ⟨m, hn, hl⟩ := I.loc
  obtain ⟨u, r, l⟩ := hl i x v hN e hv
  have fin : EP X pins σ Q u s := ⟨v, H, I, r, h⟩
  rcases l with ⟨hk, hm⟩ | ⟨hk, c, hc, hcell⟩
  · exact wpAny_Name (wpAny_loadName_local I.ok.kind hk hn hm fin) hd
  · rcases hk with hk | hk
    · exact wpAny_Name (wpAny_loadName_cell I.ok.kind hk hc hcell fin) hd
    · exact wpAny_Name (wpAny_loadName_free I.ok.kind hk hc hcell fin hcd) hd
theorem aqe {i j pos} : PE X (.Constant (.int i) j pos) (tC (.int i)) := fun _ _ _ H _ I h => wpAny_Constant_int ⟨.int i, H, I.tok _, ⟨_, rfl⟩, h⟩
theorem gqK {b j pos} : PE X (.Constant (.bool b) j pos) (tC (.bl b)) := fun _ _ _ H _ I h => Constant_bool ⟨.bl b, H, I, rfl, h⟩
theorem aqN {j pos} : PE X (.Constant .none j pos) (tC .non) := fun _ _ _ H _ I h => Constant_none ⟨.non, H, I, rfl, h⟩
theorem aqm {x j pos} : PE X (.Constant (.str x) j pos) (tC (.str x)) := fun _ _ _ H _ I h => Calls.Constant_str ⟨.str x, H, I.tok _, ⟨_, rfl⟩, h⟩
def Gl (X : Cx) (x : Str) : Prop := X.env.kindOf x = some .globalImplicit
theorem iqs {E : Value → Shared → Prop} {pins : List (Addr × Obj)} {s : Shared} {σ : St} {H : Hp} {x : Str} {u : Value} {pos : Pos} {Q : Value → Shared → Prop} (I : Inv X pins σ H s) (hg : Gl X x) (hm : X.mg x = some u) (h : Q u s)
    (hd : (x == ("__debug__" : Str)) = false := by decide) : wpAny (model X.prog X.w) X.A (eval (.Name x pos) X.env) Q E s :=
  Calls.Name_function_global I.ok.kind hg (Calls.loadGlobal_global (by rw [I.ok.glob]; exact I.mod.glob.keeps I.bk) hm h) hd
theorem nqQ {E : Value → Shared → Prop} {pins : List (Addr × Obj)} {s : Shared} {σ : St} {H : Hp} {x : Str} {u : Value} {pos : Pos} {Q : Value → Shared → Prop} (I : Inv X pins σ H s) (hg : Gl X x) (hm : X.mg x = none) (hv : bootBuiltins x = some u) (h : Q u s)
    (hn : x ≠ "__name__" := by decide) (hd : (x == ("__debug__" : Str)) = false := by decide) : wpAny (model X.prog X.w) X.A (eval (.Name x pos) X.env) Q E s := by
  obtain ⟨mb, h1, h2⟩ := I.mod.blt
  exact Calls.Name_function_global I.ok.kind hg (Calls.loadGlobal_builtin (by rw [I.ok.glob]; exact I.mod.glob.keeps I.bk) hm (by rw [I.ok.blt]; exact h1.keeps I.bk) ((h2 x hn).trans hv) h) hd
theorem aqn {x : Str} {v : V} {u : Value} {pos : Pos} (hg : Gl X x) (hm : X.mg x = some u) (r : RelV v u) (hd : (x == ("__debug__" : Str)) = false := by decide) : PE X (.Name x pos) (tC v) :=
  fun _ _ _ H _ I h => iqs I hg hm ⟨v, H, I, r, h⟩ hd
theorem nqq {x : Str} {v : V} {u : Value} {pos : Pos} (hg : Gl X x) (hm : X.mg x = none) (hv : bootBuiltins x = some u) (r : RelV v u) (hn : x ≠ "__name__" := by decide) (hd : (x == ("__debug__" : Str)) = false := by decide) : PE X (.Name x pos) (tC v) :=
  fun _ _ _ H _ I h => nqQ I hg hm hv ⟨v, H, I, r, h⟩ hn hd
variable {a b : Expr} {ta tb : TE} {pos : Pos}
def PC (X : Cx) (op : CmpOp) (a b : Expr) (t : TE) : Prop :=
  ∀ (pins : List (Addr × Obj)) (s : Shared) (σ : St) (H : Hp) (Q : VK), Inv X pins σ H s → t σ H Q →
    wpAny (model X.prog X.w) X.A (eval a X.env) (fun v s₁ => wpAny (model X.prog X.w) X.A (eval b X.env) (fun u s₂ => wpAny (model X.prog X.w) X.A (compareOp op v u) (EP X pins σ Q) X.xe s₂) X.xe s₁) X.xe s
def tB (t : TE) : TT := fun σ H Q => t σ H fun x H1 => ∃ c, x = .bl c ∧ Q c H1
theorem wq9 {op : CmpOp} {t : TE} (h : PC X op a b t) (h1 : behindInMarks op b = false := by first | exact nobehind _ (by decide) (by decide) | rfl) : PT X (.Compare a [op] [b] pos) (tB t) := by
  intro pins s σ H Q I hw
  refine wpAny_isTrue_Compare1 (thn (h pins s σ H _ I hw) fun v s1 h1 => thn h1 fun u s2 h2 => thn h2 fun c s3 ⟨x, H1, I1, r1, q1⟩ => ?_) h1
  obtain ⟨d, rfl, q⟩ := q1
  cases r1
  exact wpAny_truthy_bool ⟨H1, I1, q⟩
theorem bqg {e : Expr} {t : TE} (h : PE X e t) (he : ∀ whole, isTrue e X.env whole = (do let v ← whole; standAt e.pos; holding [v] (truthy v)) := by intro _; rfl) : PT X e (tB t) := by
  intro pins s σ H Q I hw
  refine isTrue_plain (thn (h pins s σ H _ I hw) fun v s1 ⟨x, H1, I1, r1, q1⟩ => ?_) (he _)
  obtain ⟨d, rfl, q⟩ := q1
  cases r1
  exact wpAny_truthy_bool ⟨H1, I1, q⟩
variable {tA tB' : TT} {rest : List Expr}
def tAnd (t u : TT) : TT := fun σ H Q => t σ H fun c H1 => if c = true then u σ H1 Q else Q false H1
def tOr (t u : TT) : TT := fun σ H Q => t σ H fun c H1 => if c = true then Q true H1 else u σ H1 Q
def tNot (t : TT) : TT := fun σ H Q => t σ H fun c H1 => Q (!c) H1
theorem gqk (ha : PT X a tA) : PW X (.BoolOp .And [a] pos) tA := by
  intro wh pins s σ H Q I h
  refine isTrue_and (thn (ha pins s σ H Q I h) fun c s1 e => ?_)
  cases c with
  | true => exact isTrue_and_nil e
  | false => exact e
theorem jqX (ha : PT X a tA) : PW X (.BoolOp .Or [a] pos) tA := by
  intro wh pins s σ H Q I h
  refine isTrue_or (thn (ha pins s σ H Q I h) fun c s1 e => ?_)
  cases c with
  | false => exact isTrue_or_nil e
  | true => exact e
theorem hqt (ha : PT X a tA) (hb : PW X (.BoolOp .And (b :: rest) pos) tB') : PW X (.BoolOp .And (a :: b :: rest) pos) (tAnd tA tB') := by
  intro wh pins s σ H Q I h
  refine isTrue_and (thn (ha pins s σ H _ I h) fun c s1 ⟨H1, I1, q1⟩ => ?_)
  cases c with
  | true => exact hb wh pins s1 σ H1 Q I1 q1
  | false => exact ⟨H1, I1, q1⟩
theorem lqY (ha : PT X a tA) (hb : PW X (.BoolOp .Or (b :: rest) pos) tB') : PW X (.BoolOp .Or (a :: b :: rest) pos) (tOr tA tB') := by
  intro wh pins s σ H Q I h
  refine isTrue_or (thn (ha pins s σ H _ I h) fun c s1 ⟨H1, I1, q1⟩ => ?_)
  cases c with
  | true => exact ⟨H1, I1, q1⟩
  | false => exact hb wh pins s1 σ H1 Q I1 q1
theorem eq6 (ha : PT X a tA) : PT X (.UnaryOp .Not a pos) (tNot tA) := by
  intro pins s σ H Q I h
  exact isTrue_not (ha pins s σ H (fun c H1 => Q (!c) H1) I h)
def tAndV (ta tb : TE) : TE := fun σ H Q => ta σ H fun x H1 => ∃ c, x = .bl c ∧ if c = true then tb σ H1 Q else Q (.bl false) H1
def tOrV (ta tb : TE) : TE := fun σ H Q => ta σ H fun x H1 => ∃ c, x = .bl c ∧ if c = true then Q (.bl true) H1 else tb σ H1 Q
def tNotV (ta : TE) : TE := fun σ H Q => ta σ H fun x H1 => ∃ c, x = .bl c ∧ Q (.bl (!c)) H1
theorem hqZ {op} {t : TE} (h : PE X a t) : PE X (.BoolOp op [a] pos) t := fun pins s σ H Q I hw => BoolOp_one (h pins s σ H Q I hw)
theorem mqH (ha : PE X a ta) (hb : PE X (.BoolOp .And (b :: rest) pos) tb) : PE X (.BoolOp .And (a :: b :: rest) pos) (tAndV ta tb) := by
  intro pins s σ H Q I h
  refine BoolOp_and (thn (ha pins s σ H _ I h) fun v s1 ⟨x, H1, I1, r1, q1⟩ => ?_)
  obtain ⟨c, rfl, q1⟩ := q1
  cases r1
  refine wpAny_truthy_bool ?_
  cases c with
  | true => exact hb pins s1 σ H1 Q I1 q1
  | false => exact ⟨.bl false, H1, I1, rfl, q1⟩
theorem rqb (ha : PE X a ta) (hb : PE X (.BoolOp .Or (b :: rest) pos) tb) : PE X (.BoolOp .Or (a :: b :: rest) pos) (tOrV ta tb) := by
  intro pins s σ H Q I h
  refine BoolOp_or (thn (ha pins s σ H _ I h) fun v s1 ⟨x, H1, I1, r1, q1⟩ => ?_)
  obtain ⟨c, rfl, q1⟩ := q1
  cases r1
  refine wpAny_truthy_bool ?_
  cases c with
  | false => exact hb pins s1 σ H1 Q I1 q1
  | true => exact ⟨.bl true, H1, I1, rfl, q1⟩
theorem vqd (ha : PE X a ta) : PE X (.UnaryOp .Not a pos) (tNotV ta) := by
  intro pins s σ H Q I h
  refine UnaryOp_ (thn (ha pins s σ H _ I h) fun v s1 ⟨x, H1, I1, r1, q1⟩ => ?_)
  obtain ⟨c, rfl, q1⟩ := q1
  cases r1
  exact not_of (wpAny_truthy_bool ⟨.bl (!c), H1, I1, rfl, q1⟩)
def tIf (t : TT) (ta tb : TE) : TE := fun σ H Q => t σ H fun c H1 => if c = true then ta σ H1 Q else tb σ H1 Q
theorem cqm {c : Expr} (hc : PT X c tA) (ha : PE X a ta) (hb : PE X b tb) : PE X (.IfExp c a b pos) (tIf tA ta tb) := by
  intro pins s σ H Q I h
  refine wpAny_IfExp (thn (hc pins s σ H _ I h) fun d s1 ⟨H1, I1, q1⟩ => ?_)
  cases d with
  | true => exact ha pins s1 σ H1 Q I1 q1
  | false => exact hb pins s1 σ H1 Q I1 q1
end
end L2
namespace L2
open PySem PySem.Spec PyProof.Rows
def SqL (K : PySem.W.Frag) (H : Hp) (a : Addr) (xs : List V) : Prop :=
  Rd H a (.lst xs) ∨
    ∃ (o : Obj) (its : Array Value) (n : Nat), K.lookup a = some o ∧ o.cls = .type "list" ∧ o.dict = none ∧ o.data = .seq its n ∧ its.size ≤ sizeLine ∧ Vals xs its.toList
def SqT (K : PySem.W.Frag) (H : Hp) (a : Addr) (xs : List V) : Prop :=
  Rd H a (.tup xs) ∨
    ∃ (o : Obj) (its : Array Value) (n : Nat), K.lookup a = some o ∧ o.cls = .type "tuple" ∧ o.data = .seq its n ∧ its.size ≤ sizeLine ∧ Vals xs its.toList
def absV : Value → Option V
  | .none => some .non
  | .bool b => some (.bl b)
  | .int i _ => some (.int i)
  | .str x _ => some (.str x)
  | .bytes b _ => some (.byt b)
  | .float b _ => some (.flt b)
  | .ref a => some (.ref a)
  | .type n => some (.ty n)
  | _ => none
theorem RelV.abs {x : V} {u : Value} (r : RelV x u) : absV u = some x := by
  cases x with
  | non => cases r; rfl
  | bl _ => cases r; rfl
  | int _ => obtain ⟨t, rfl⟩ := r; rfl
  | str _ => obtain ⟨t, rfl⟩ := r; rfl
  | byt _ => obtain ⟨t, rfl⟩ := r; rfl
  | flt _ => obtain ⟨t, rfl⟩ := r; rfl
  | ref _ => cases r; rfl
  | ty _ => cases r; rfl
theorem RelV.inj {x y : V} {u : Value} (r : RelV x u) (q : RelV y u) : x = y := Option.some.inj (r.abs.symm.trans q.abs)
theorem Vals.inj : ∀ {xs ys : List V} {us : List Value}, Vals xs us → Vals ys us → xs = ys
  | _, _, _, .nil, .nil => rfl
  | _, _, _, .cons r t, .cons r' t' => by rw [r.inj r', Vals.inj t t']
section
variable {X : Cx} {pins : List (Addr × Obj)} {σ : St} {H : Hp} {s : Shared} {a : Addr} {xs ys : List V}
theorem SqL.of {K : PySem.W.Frag} (h : H a = some (.lst xs)) : SqL K H a xs := .inl (.inl h)
theorem SqT.of {K : PySem.W.Frag} (h : H a = some (.tup xs)) : SqT K H a xs := .inl (.inl h)
theorem Inv.list (I : Inv X pins σ H s) (h : SqL X.K H a xs) : ∃ its : List Value, Vals xs its ∧ PlainL s.heap a its.toArray ∧ xs.length ≤ sizeLine := by
  rcases h with h | ⟨o, its, n, hk, hc, hd, hs, hz, r⟩
  · obtain ⟨z, its, n, r, e⟩ := h.ok I.hok
    exact ⟨its, r, ⟨_, n, e, rfl, rfl, rfl⟩, z⟩
  · refine ⟨its.toList, r, ⟨o, n, I.kIn a o hk, hc, hd, by simpa using hs⟩, ?_⟩
    have e := r.length
    simp only [Array.length_toList] at e
    omega
theorem Inv.tuple (I : Inv X pins σ H s) (h : SqT X.K H a xs) : ∃ its : List Value, Vals xs its ∧ IsTup s.heap a its.toArray ∧ xs.length ≤ sizeLine := by
  rcases h with h | ⟨o, its, n, hk, hc, hs, hz, r⟩
  · obtain ⟨z, its, r, p⟩ := h.ok I.hok
    exact ⟨its, r, p, z⟩
  · refine ⟨its.toList, r, ⟨o, I.kIn a o hk, hc, n, by simpa using hs⟩, ?_⟩
    have e := r.length
    simp only [Array.length_toList] at e
    omega
theorem Inv.list_inj (I : Inv X pins σ H s) (h : SqL X.K H a xs) (h' : SqL X.K H a ys) : xs = ys := by
  obtain ⟨its, r, ⟨o, n, e, _, _, d⟩, _⟩ := I.list h
  obtain ⟨its', r', ⟨o', n', e', _, _, d'⟩, _⟩ := I.list h'
  rw [e] at e'; cases e'
  rw [d] at d'
  injection d' with d1 _
  have : its = its' := by simpa using congrArg Array.toList d1
  subst this
  exact r.inj r'
theorem Inv.tuple_inj (I : Inv X pins σ H s) (h : SqT X.K H a xs) (h' : SqT X.K H a ys) : xs = ys := by
  obtain ⟨its, r, ⟨o, e, _, n, d⟩, _⟩ := I.tuple h
  obtain ⟨its', r', ⟨o', e', _, n', d'⟩, _⟩ := I.tuple h'
  rw [e] at e'; cases e'
  rw [d] at d'
  injection d' with d1 _
  have : its = its' := by simpa using congrArg Array.toList d1
  subst this
  exact r.inj r'
end
abbrev Cx.wish (X : Cx) (E : Value → Shared → Prop) : Cx := { X with xe := E }
abbrev Cx.nox (X : Cx) : Cx := X.wish fun _ _ => False
theorem Cx.Ok.wish {X : Cx} (ok : X.Ok) (E : Value → Shared → Prop) : (X.wish E).Ok :=
  ⟨ok.mod, ok.kind, ok.glob, ok.blt, ok.above, ok.inj, ok.has, ok.cab, ok.hd, ok.frames, ok.stk, ok.exf, ok.bs, ok.bsz, ok.noex, ok.exfs, ok.funs, ok.frf⟩
theorem Cx.Ok.unwish {X : Cx} {E : Value → Shared → Prop} (ok : (X.wish E).Ok) : X.Ok :=
  ⟨ok.mod, ok.kind, ok.glob, ok.blt, ok.above, ok.inj, ok.has, ok.cab, ok.hd, ok.frames, ok.stk, ok.exf, ok.bs, ok.bsz, ok.noex, ok.exfs, ok.funs, ok.frf⟩
section
variable {X : Cx} {pins : List (Addr × Obj)} {σ : St} {H : Hp} {s : Shared} {E : Value → Shared → Prop}
theorem Inv.wish (I : Inv X pins σ H s) (E : Value → Shared → Prop) : Inv (X.wish E) pins σ H s := ⟨I.ok.wish E, I.os, I.bare, I.base, I.loc, I.cell, I.free, I.freeC, I.pin, I.hok, I.len⟩
theorem Inv.unwish (I : Inv (X.wish E) pins σ H s) : Inv X pins σ H s := ⟨I.ok.unwish, I.os, I.bare, I.base, I.loc, I.cell, I.free, I.freeC, I.pin, I.hok, I.len⟩
theorem SP.unwish {D : Ends} {f : Flow} {s' : Shared} (h : SP (X.wish E) pins D f s') : SP X pins D f s' := by
  cases f with
  | next => obtain ⟨σ', H', I, q⟩ := h; exact ⟨σ', H', I.unwish, q⟩
  | brk => obtain ⟨σ', H', I, q⟩ := h; exact ⟨σ', H', I.unwish, q⟩
  | cont => obtain ⟨σ', H', I, q⟩ := h; exact ⟨σ', H', I.unwish, q⟩
  | ret u => obtain ⟨v, σ', H', I, r, q⟩ := h; exact ⟨v, σ', H', I.unwish, r, q⟩
theorem PSs.nox {st : List Stmt} {t : TS} (h : PSs X.nox st t) : PSs X st t := fun pins s σ H D I hw =>
  wpAny_mono (h pins s σ H D (I.wish _) hw) (fun _ _ q => q.unwish) fun _ _ z => False.elim z
end
section
variable {X : Cx} {st : Stmt} {rest : List Stmt} {t u : TS} {e : Expr} {te : TE} {pos : Pos}
def tNext : TS := fun D σ H => D.nx σ H
def tSeq (t u : TS) : TS := fun D σ H => t { D with nx := u D } σ H
theorem aqv : PSs X [] tNext := fun _ _ σ H _ I h => wpAny_execs_nil ⟨σ, H, I, h⟩
theorem aqc (h1 : PS X st t) (h2 : PSs X rest u) : PSs X (st :: rest) (tSeq t u) := by
  intro pins s σ H D I h
  refine wpAny_execs_cons (thn (h1 pins s σ H { D with nx := u D } I h) fun f s1 q => ?_)
  cases f with
  | next =>
    obtain ⟨σ', H', I', q⟩ := q
    exact h2 pins s1 σ' H' D I' q
  | ret v => exact q
  | brk => exact q
  | cont => exact q
theorem aqd (h1 : PS X st t) : PSs X [st] t := by
  intro pins s σ H D I h
  refine wpAny_execs_cons (thn (h1 pins s σ H D I h) fun f s1 q => ?_)
  cases f with
  | next => exact wpAny_execs_nil q
  | ret v => exact q
  | brk => exact q
  | cont => exact q
def tBreak : TS := fun D σ H => D.bk σ H
theorem Inv.quiet {pins : List (Addr × Obj)} {σ : St} {H : Hp} {s : Shared} (I : Inv X pins σ H s) : interactive X.env = false := by simp [interactive, I.ok.kind]
def tDrop (te : TE) : TS := fun D σ H => te σ H fun _ H1 => D.nx σ H1
theorem dqP (he : PE X e te) (hs : swapsWith e none pos.line X.env = pure false := by rfl) : PS X (.Expr e pos) (tDrop te) := by
  intro pins s σ H D I h
  exact wpAny_Expr_any (thn (he pins s σ H _ I h) fun v s1 ⟨x, H1, I1, r1, q1⟩ => ⟨σ, H1, I1, q1⟩) I.quiet hs
def tRet (te : TE) : TS := fun D σ H => te σ H D.rt
theorem aqo (he : PE X e te) : PS X (.Return (some e) pos) (tRet te) := by
  intro pins s σ H D I h
  exact wpAny_Return_some (thn (he pins s σ H _ I h) fun v s1 ⟨x, H1, I1, r1, q1⟩ => ⟨x, σ, H1, I1, r1, q1⟩)
def tIfS (c : TT) (t u : TS) : TS := fun D σ H => c σ H fun b H1 => if b = true then t D σ H1 else u D σ H1
theorem aqW {c : Expr} {a b : List Stmt} {tc : TT} (hc : PT X c tc) (ha : PSs X a t) (hb : PSs X b u) : PS X (.If c a b pos) (tIfS tc t u) := by
  intro pins s σ H D I h
  refine wpAny_If (thn (hc pins s σ H _ I h) fun d s1 ⟨H1, I1, q1⟩ => ?_)
  cases d with
  | true => exact ha pins s1 σ H1 D I1 q1
  | false => exact hb pins s1 σ H1 D I1 q1
def tNever : TS := fun _ _ _ => False
end
abbrev TG := V → St → Hp → (St → Hp → Prop) → Prop
abbrev TGs := List V → St → Hp → (St → Hp → Prop) → Prop
def PG (X : Cx) (target : Expr) (t : TG) : Prop :=
  ∀ (pins : List (Addr × Obj)) (s : Shared) (σ : St) (H : Hp) (v : V) (u : Value) (Q : St → Hp → Prop), Inv X pins σ H s → RelV v u → t v σ H Q →
    wpAny (model X.prog X.w) X.A (assign target X.env u) (fun _ s' => ∃ σ' H', Inv X pins σ' H' s' ∧ Q σ' H') X.xe s
def PGs (X : Cx) (ts : List Expr) (t : TGs) : Prop :=
  ∀ (pins : List (Addr × Obj)) (s : Shared) (σ : St) (H : Hp) (vs : List V) (us : List Value) (Q : St → Hp → Prop), Inv X pins σ H s → Vals vs us → t vs σ H Q →
    wpAny (model X.prog X.w) X.A (assignInOrder ((assignEach ts X.env).map (·.2)) us) (fun _ s' => ∃ σ' H', Inv X pins σ' H' s' ∧ Q σ' H') X.xe s
abbrev TSet := V → V → V → Hp → (Hp → Prop) → Prop
section
variable {X : Cx} {pos : Pos}
def gName (i : Nat) : TG := fun v σ H Q => Q (σ.set i (some v)) H
theorem cqi {i : Nat} {x : Str} (hN : X.N.Nodup) (hi : X.N[i]? = some x) (hx : Loc X.env.scope x) (hf : X.fn x = true ∨ X.env.scope.names.lookup x = some .local := by first | exact .inl rfl | exact .inr rfl | assumption) : PG X (.Name x pos) (gName i) := by
  intro pins s σ H v u Q I r h
  exact wpAny_assign_Name (lqv I hN hi hx r (fun s' I' => ⟨_, H, I', h⟩) hf)
def gNil : TGs := fun vs σ H Q => vs = [] ∧ Q σ H
def gCons (t : TG) (u : TGs) : TGs := fun vs σ H Q => ∃ v r, vs = v :: r ∧ t v σ H fun σ' H' => u r σ' H' Q
theorem nqo : PGs X [] gNil := by
  intro pins s σ H vs us Q I r h
  obtain ⟨e, h⟩ := h
  subst e
  cases r
  exact assignInOrder_nil ⟨σ, H, I, h⟩
theorem dqt {e : Expr} {es : List Expr} {t : TG} {u : TGs} (h1 : PG X e t) (h2 : PGs X es u)
    (hs : (assignEach (e :: es) X.env).map (·.2) = assign e X.env :: (assignEach es X.env).map (·.2) := by rfl) : PGs X (e :: es) (gCons t u) := by
  intro pins s σ H vs us Q I r h
  obtain ⟨v, vr, e1, h⟩ := h
  subst e1
  cases r with
  | cons r rr =>
    rw [hs]
    refine assignInOrder_cons (thn (h1 pins s σ H _ _ _ I r h) fun _ s1 ⟨σ1, H1, I1, q1⟩ => ?_)
    exact h2 pins s1 σ1 H1 _ _ Q I1 rr q1
def gTup (K : PySem.W.Frag) (n : Nat) (t : TGs) : TG := fun v σ H Q => ∃ a xs, v = .ref a ∧ SqT K H a xs ∧ xs.length = n ∧ t xs σ H Q
theorem sqS {es : List Expr} {k : Nat} {t : TGs} {n : Nat} (hc : X.calm = true) (h : PGs X es t)
    (hn : (assignEach es X.env).length = n := by rfl) (hst : (assignEach es X.env).findIdx? (·.1) = none := by rfl) : PG X (.Tuple es k pos) (gTup X.K n t) := by
  intro pins s σ H v u Q I r hw
  obtain ⟨a, xs, e1, hq, hl, hw⟩ := hw
  subst e1
  cases r
  obtain ⟨its, rv, ht, hz⟩ := I.tuple hq
  refine assign_Tuple_tuple (I.ok.hd hc) ht (by simp [hn, ← hl, rv.length]) hst fun h' hx => ?_
  have I1 : Inv X pins σ H { s with heap := h' } := I.kept (t' := s.toks) fun b o e => hx b o (Nat.ne_of_lt (Heap.lt_size e)) e
  exact h pins _ σ H xs _ Q I1 (by simpa using rv) hw
def gSub (to ti : TE) (t : TSet) : TG := fun v σ H Q => to σ H fun o H1 => ti σ H1 fun i H2 => t o i v H2 fun H3 => Q σ H3
def tAsg (te : TE) (g : TG) : TS := fun D σ H => te σ H fun x H1 => g x σ H1 D.nx
theorem uq9 {tg e : Expr} {te : TE} {g : TG} (he : PE X e te) (hg : PG X tg g) (hs : swapsWithSole [tg] e pos.line X.env = pure false := by rfl) (hw : swappedStores [tg] e X.env = pure none := by rfl)
    (h1 : (assignEach [tg] X.env).map (·.2) = [assign tg X.env] := by rfl) : PS X (.Assign [tg] e pos) (tAsg te g) := by
  intro pins s σ H D I h
  refine wpAny_Assign_stores (thn (he pins s σ H _ I h) fun v s1 ⟨x, H1, I1, r1, q1⟩ => ?_) hs hw
  rw [h1]
  exact thn (hg pins s1 σ H1 x v _ I1 r1 q1) fun _ s2 q => q
theorem aqk {i : Nat} {x : Str} {e : Expr} {te : TE} {pos' : Pos} (hN : X.N.Nodup) (hi : X.N[i]? = some x) (hx : Loc X.env.scope x) (he : PE X e te) (hs : swapsWith e (some (.Name x pos')) pos.line X.env = pure false := by rfl) (hf : X.fn x = true ∨ X.env.scope.names.lookup x = some .local := by first | exact .inl rfl | exact .inr rfl | assumption) :
    PS X (.Assign [.Name x pos'] e pos) (tAsg te (gName i)) := by
  intro pins s σ H D I h
  refine wpAny_Assign_Name (thn (he pins s σ H _ I h) fun v s1 ⟨y, H1, I1, r1, q1⟩ => ?_) hs
  exact lqv I1 hN hi hx r1 (fun s2 I2 => ⟨_, H1, I2, q1⟩) hf
end
section
variable {X : Cx} {pos : Pos}
def tWhile (c : TT) (tb : TS) : TS := fun D σ H => ∃ W : Nat → St → Hp → Prop, (∃ m, W m σ H) ∧ ∀ m σ H, W m σ H →
  c σ H fun b H1 => if b = true then ∃ N : St → Hp → Prop, (∀ σ' H', N σ' H' → ∃ m', m' < m ∧ W m' σ' H') ∧ tb { D with nx := N, ct := N, bk := D.nx } σ H1 else D.nx σ H1
theorem jqb {c : Expr} {body : List Stmt} {tc : TT} {tb : TS} (hp : PassesOwn (model X.prog X.w) X.A X.env X.xe) (hc : PT X c tc) (hb : PSs X body tb) : PS X (.While c body [] pos) (tWhile tc tb) := by
  intro pins s σ H D I h
  obtain ⟨W, ⟨m0, w0⟩, turn⟩ := h
  refine wpAny_While (codeAny_whileLoop (fun n s' => ∃ σ' H', Inv X pins σ' H' s' ∧ W n σ' H') ?_ m0 ⟨σ, H, I, w0⟩)
  rintro n s1 ⟨σ1, H1, I1, w1⟩
  refine wpAny_passesOwn hp (thn (hc pins s1 σ1 H1 _ I1 (turn n σ1 H1 w1)) fun b s2 ⟨H2, I2, q2⟩ => ?_)
  cases b with
  | true =>
    obtain ⟨N, hN, q2⟩ := q2
    rw [if_pos rfl]
    refine wpAny_passesOwn hp (thn (hb pins s2 σ1 H2 _ I2 q2) fun f s3 q3 => ?_)
    cases f with
    | next =>
      obtain ⟨σ3, H3, I3, n3⟩ := q3
      obtain ⟨m', hm, w3⟩ := hN σ3 H3 n3
      exact ⟨m', hm, σ3, H3, I3, w3⟩
    | cont =>
      obtain ⟨σ3, H3, I3, n3⟩ := q3
      obtain ⟨m', hm, w3⟩ := hN σ3 H3 n3
      exact ⟨m', hm, σ3, H3, I3, w3⟩
    | brk => exact q3
    | ret v => exact q3
  | false =>
    rw [if_neg Bool.false_ne_true]
    exact wpAny_execs_nil ⟨σ1, H2, I2, q2⟩
end
structure It where
  go : Nat → Hp → Prop
  yld : Nat → Hp → V → Hp → Prop
  stop : Nat → Hp → Prop
def FpOk (X : Cx) (pins : List (Addr × Obj)) (H : Hp) (b : Addr) : Prop :=
  H b = none ∧ b ≠ X.env.locals ∧ b ∉ X.fs ∧ (b ∈ X.ex ∨ X.s₀.heap.objs.size ≤ b) ∧ (∀ x c, X.env.cells.lookup x = some c → c ≠ b) ∧ ∀ p ∈ X.pn ++ pins, p.1 ≠ b
theorem Inv.fpOk {X : Cx} {pins : List (Addr × Obj)} {σ : St} {H H' : Hp} {s : Shared} {b : Addr} (I : Inv X pins σ H s) (hb : s.heap.objs.size ≤ b) (hn : H' b = none) : FpOk X pins H' b := by
  refine ⟨hn, Nat.ne_of_gt (Nat.lt_of_lt_of_le I.lt hb), I.nofs hb, .inr (Nat.le_trans I.sz hb), fun x c e z => ?_, fun p hp z => ?_⟩
  · obtain ⟨v, q⟩ := I.cell x c e
    exact absurd (Nat.lt_of_lt_of_le q.lt (by rw [z]; exact hb)) (Nat.lt_irrefl _)
  · exact absurd (Nat.lt_of_lt_of_le (Heap.lt_size (I.pin p hp).1) (by rw [z]; exact hb)) (Nat.lt_irrefl _)
structure Turn (P : Program) (w : World) (K : PySem.W.Frag) (tg : Expr) (J : It) (fp : List Addr) (it : Addr) (tn : Nat → Heap → Prop) : Prop where
  mem : it ∈ fp
  obj : ∀ i h, tn i h → ∀ b ∈ fp, ∃ o, h.get? b = some o ∧ ∀ v, o.data ≠ .cell v
  keep : ∀ i h h', tn i h → (∀ b ∈ fp, ∀ o, h.get? b = some o → h'.get? b = some o) → tn i h'
  item : ∀ (X : Cx), X.prog = P → X.w = w → X.K = K → X.calm = true → ∀ (i : Nat) (pins : List (Addr × Obj)) (s : Shared) (σ : St) (H : Hp) (E : Value → Shared → Prop), Inv X pins σ H s → (∀ b ∈ fp, FpOk X pins H b) → tn i s.heap → J.go i H →
    wpAny (model P w) X.A (pyNext (.ref it)) (fun r s1 => ∃ u, r = some u ∧
      wpAny (model P w) X.A (letOwnedTupleGo tg (.ref it) u) (fun _ s2 => ∃ x H', Inv X pins σ H' s2 ∧ RelV x u ∧ J.yld i H x H' ∧ tn (i + 1) s2.heap ∧ ∀ b ∈ fp, H' b = none) E s1) E s
  done : ∀ (X : Cx), X.prog = P → X.w = w → X.K = K → X.calm = true → ∀ (i : Nat) (pins : List (Addr × Obj)) (s : Shared) (σ : St) (H : Hp) (E : Value → Shared → Prop), Inv X pins σ H s → (∀ b ∈ fp, FpOk X pins H b) → tn i s.heap → J.stop i H →
    wpAny (model P w) X.A (pyNext (.ref it)) (fun r s1 => r = none ∧ Inv X pins σ H s1) E s
  self : ∀ (A : Around) (i : Nat) (s : Shared) (Q : Value → Shared → Prop) (E : Value → Shared → Prop), tn i s.heap → Q (.ref it) s → wpAny (model P w) A (pyIter (.ref it)) Q E s
abbrev TI := St → Hp → (It → Hp → Prop) → Prop
def PIE (X : Cx) (pins : List (Addr × Obj)) (σ : St) (tg : Expr) (R : It → Hp → Prop) (itv : Value) (s2 : Shared) : Prop :=
  ∃ (it : Addr) (fp : List Addr) (tn : Nat → Heap → Prop) (J : It) (H' : Hp), itv = .ref it ∧ Inv X pins σ H' s2 ∧ Turn X.prog X.w X.K tg J fp it tn ∧ tn 0 s2.heap ∧ (∀ b ∈ fp, FpOk X pins H' b) ∧ R J H'
def PI (X : Cx) (tg iter : Expr) (wi : TI) : Prop :=
  ∀ (pins : List (Addr × Obj)) (s : Shared) (σ : St) (H : Hp) (R : It → Hp → Prop), Inv X pins σ H s → wi σ H R →
    wpAny (model X.prog X.w) X.A (eval iter X.env) (fun v s1 => wpAny (model X.prog X.w) X.A (pyIter v) (PIE X pins σ tg R) X.xe s1) X.xe s
theorem qqV {M : Model} {A : Around} {E : Value → Shared → Prop} {s : Shared} {tg : Expr} {it : Addr} {u : Value} {o : Obj} {n : String} {vs : Array Value} {Q : Unit → Shared → Prop} (ho : s.heap.get? it = some o) (hc : o.cls = .type n) (hd : o.data = .fields vs)
    (hn : ["enumerate", "zip", "dict_itemiterator", "dict_reverseitemiterator", "odict_iterator", "itertools.zip_longest", "itertools.pairwise"].contains n = false) (hQ : Q () s) : wpAny M A (letOwnedTupleGo tg (.ref it) u) Q E s := by
  unfold letOwnedTupleGo
  cases tg <;> first
    | exact wpAny_pure hQ
    | (cases u <;> first
        | exact wpAny_pure hQ
        | (refine wpAny_bind (wpAny_load ho ?_)
           rw [hc, hd]
           show wpAny M A (if (["enumerate", "zip", "dict_itemiterator", "dict_reverseitemiterator", "odict_iterator", "itertools.zip_longest", "itertools.pairwise"].contains n && vs[0]? == some (rawInt _)) = true then _ else _) Q E s
           rw [if_neg (by intro h; rw [hn, Bool.false_and] at h; cases h)]
           exact wpAny_pure hQ))
def Itl (K : PySem.W.Frag) (a : Addr) : It :=
  ⟨fun i H => ∃ xs x, SqL K H a xs ∧ xs[i]? = some x, fun i H x H' => H' = H ∧ ∀ xs, SqL K H a xs → xs[i]? = some x, fun i H => ∃ xs, SqL K H a xs ∧ xs.length ≤ i⟩
def Itt (K : PySem.W.Frag) (a : Addr) : It :=
  ⟨fun i H => ∃ xs x, SqT K H a xs ∧ xs[i]? = some x, fun i H x H' => H' = H ∧ ∀ xs, SqT K H a xs → xs[i]? = some x, fun i H => ∃ xs, SqT K H a xs ∧ xs.length ≤ i⟩
def Itr (lo : Int) (n : Nat) : It := ⟨fun i _ => i < n, fun i H x H' => H' = H ∧ x = .int (lo + i), fun i _ => n ≤ i⟩
theorem qqt {P : Program} {w : World} {K : PySem.W.Frag} {tg : Expr} (a it : Addr) : Turn P w K tg (Itl K a) [it] it (fun i h => h.IsListIter it a i) where
  mem := by simp
  obj := fun i h st b hb => by
    have e : b = it := by simpa using hb
    subst e
    obtain ⟨o, e, c, d⟩ := st
    exact ⟨o, e, fun v z => by rw [d] at z; cases z⟩
  keep := fun i h h' st k => st.at fun o e => k it (by simp) o e
  item := by
    intro X hP hw hK hc i pins s σ H E I hf st hg
    subst hP hw hK
    obtain ⟨xs, x, hq, hx⟩ := hg
    obtain ⟨its, rv, p, hz⟩ := I.list hq
    obtain ⟨u, hu, ru⟩ := rv.get hx
    obtain ⟨f0, f1, f2, f3, f4, f5⟩ := hf it (by simp)
    refine wpAny_pyNext_list_item st p.isList (x := u) (by simpa using hu) fun h' st' sb => ?_
    have I1 : Inv X pins σ H { s with heap := h' } := I.turned (t' := s.toks) (fun b o hb e => (sb.2 b hb).trans e) f0 f1 f3 f4 f5
    obtain ⟨o, e, c, d⟩ := id st'
    exact ⟨u, rfl, qqV (s := { s with heap := h' }) e c d (by decide) ⟨x, H, I1, ru, ⟨rfl, fun ys hy => by rw [I.list_inj hy hq]; exact hx⟩, st', fun b hb => (hf b hb).1⟩⟩
  done := by
    intro X hP hw hK hc i pins s σ H E I hf st hg
    subst hP hw hK
    obtain ⟨xs, hq, hx⟩ := hg
    obtain ⟨its, rv, p, hz⟩ := I.list hq
    obtain ⟨f0, f1, f2, f3, f4, f5⟩ := hf it (by simp)
    have hl := rv.length
    exact wpAny_pyNext_list_end (I.ok.hd hc) st p.isList (by simp; omega) fun h' eb => ⟨rfl, I.turned (t' := s.toks) (fun b o hb e => eb b o hb e) f0 f1 f3 f4 f5⟩
  self := fun _ _ _ _ _ st h => wpAny_pyIter_listiter st h
theorem pqd {P : Program} {w : World} {K : PySem.W.Frag} {tg : Expr} (a it : Addr) : Turn P w K tg (Itt K a) [it] it (fun i h => h.IsTupleIter it a i) where
  mem := by simp
  obj := fun i h st b hb => by
    have e : b = it := by simpa using hb
    subst e
    obtain ⟨o, e, c, d⟩ := st
    exact ⟨o, e, fun v z => by rw [d] at z; cases z⟩
  keep := fun i h h' st k => st.at fun o e => k it (by simp) o e
  item := by
    intro X hP hw hK hc i pins s σ H E I hf st hg
    subst hP hw hK
    obtain ⟨xs, x, hq, hx⟩ := hg
    obtain ⟨its, rv, p, hz⟩ := I.tuple hq
    obtain ⟨u, hu, ru⟩ := rv.get hx
    obtain ⟨f0, f1, f2, f3, f4, f5⟩ := hf it (by simp)
    refine wpAny_pyNext_tuple_item st (show s.heap.IsTuple a its.toArray from p) (x := u) (by simpa using hu) fun h' st' sb => ?_
    have I1 : Inv X pins σ H { s with heap := h' } := I.turned (t' := s.toks) (fun b o hb e => (sb.2 b hb).trans e) f0 f1 f3 f4 f5
    obtain ⟨o, e, c, d⟩ := id st'
    exact ⟨u, rfl, qqV (s := { s with heap := h' }) e c d (by decide) ⟨x, H, I1, ru, ⟨rfl, fun ys hy => by rw [I.tuple_inj hy hq]; exact hx⟩, st', fun b hb => (hf b hb).1⟩⟩
  done := by
    intro X hP hw hK hc i pins s σ H E I hf st hg
    subst hP hw hK
    obtain ⟨xs, hq, hx⟩ := hg
    obtain ⟨its, rv, p, hz⟩ := I.tuple hq
    obtain ⟨f0, f1, f2, f3, f4, f5⟩ := hf it (by simp)
    have hl := rv.length
    exact wpAny_pyNext_tuple_end (I.ok.hd hc) st (show s.heap.IsTuple a its.toArray from p) (by simp; omega) fun h' eb => ⟨rfl, I.turned (t' := s.toks) (fun b o hb e => eb b o hb e) f0 f1 f3 f4 f5⟩
  self := fun _ _ _ _ _ st h => wpAny_pyIter_tupleiter st h
theorem oq2 {P : Program} {w : World} {K : PySem.W.Frag} {tg : Expr} (it : Addr) (lo : Int) (n : Nat) : Turn P w K tg (Itr lo n) [it] it (fun i h => IsRangeIter h it (lo + (i : Nat) * 1) ((n : Int) - (i : Nat)) 1) where
  mem := by simp
  obj := fun i h st b hb => by
    have e : b = it := by simpa using hb
    subst e
    exact ⟨_, st, fun v z => by
      have z' : Data.fields _ = Data.cell v := z
      cases z'⟩
  keep := fun i h h' st k => k it (by simp) _ st
  item := by
    intro X hP hw hK hc i pins s σ H E I hf st hg
    subst hP hw hK
    obtain ⟨f0, f1, f2, f3, f4, f5⟩ := hf it (by simp)
    have W := Walks.range (prog := X.prog) (w := X.w) (I.ok.hd hc) it lo 1 n
    refine W.item i s _ _ hg st fun v h' tk hv st' kk => ?_
    obtain ⟨t, rfl⟩ := hv
    have I1 : Inv X pins σ H { s with heap := h', toks := tk } := I.turned (fun b o hb e => kk b o (by simpa using hb) e) f0 f1 f3 f4 f5
    refine ⟨_, rfl, qqV (s := { s with heap := h', toks := tk }) (n := "range_iterator") st' rfl rfl (by decide) ⟨.int (lo + i), H, I1, ⟨t, ?_⟩, ⟨rfl, rfl⟩, st', fun b hb => (hf b hb).1⟩⟩
    rw [Int.mul_one]
  done := by
    intro X hP hw hK hc i pins s σ H E I hf st hg
    subst hP hw hK
    obtain ⟨f0, f1, f2, f3, f4, f5⟩ := hf it (by simp)
    exact wpAny_pyNext_range_end (I.ok.hd hc) st (by have : n ≤ i := hg; omega) fun h' eb => ⟨rfl, I.turned (t' := s.toks) (fun b o hb e => eb b o hb e) f0 f1 f3 f4 f5⟩
  self := fun _ _ _ _ _ st h => wpAny_pyIter_rangeiter st h
end L2
namespace L2
open PySem PySem.Spec PyProof.Rows
section
variable {X : Cx} {tg : Expr}
def iList (K : PySem.W.Frag) (tl : TE) : TI := fun σ H R => tl σ H fun x H1 => ∃ a, x = .ref a ∧ (∃ xs, SqL K H1 a xs) ∧ R (Itl K a) H1
def iTup (K : PySem.W.Frag) (tl : TE) : TI := fun σ H R => tl σ H fun x H1 => ∃ a, x = .ref a ∧ (∃ xs, SqT K H1 a xs) ∧ R (Itt K a) H1
theorem sq6 {l : Expr} {tl : TE} (hl : PE X l tl) : PI X tg l (iList X.K tl) := by
  intro pins s σ H R I h
  refine thn (hl pins s σ H _ I h) fun v s1 ⟨x, H1, I1, r1, q1⟩ => ?_
  obtain ⟨a, e, ⟨xs, hq⟩, q⟩ := q1
  subst e
  cases r1
  obtain ⟨its, rv, p, hz⟩ := I1.list hq
  refine wpAny_pyIter_list p.isList ?_
  refine ⟨s1.heap.objs.size, [s1.heap.objs.size], _, _, H1, rfl, I1.kept (t' := s1.toks) fun b o e => Heap.get?_push_of_some _ e, qqt a _, ⟨_, Heap.get?_push_size _ rfl, rfl, rfl⟩, fun b hb => ?_, q⟩
  have e : b = s1.heap.objs.size := by simpa using hb
  subst e
  exact I1.fpOk (Nat.le_refl _) (I1.hok.fresh (Nat.le_refl _))
theorem vqs {l : Expr} {tl : TE} (hl : PE X l tl) : PI X tg l (iTup X.K tl) := by
  intro pins s σ H R I h
  refine thn (hl pins s σ H _ I h) fun v s1 ⟨x, H1, I1, r1, q1⟩ => ?_
  obtain ⟨a, e, ⟨xs, hq⟩, q⟩ := q1
  subst e
  cases r1
  obtain ⟨its, rv, p, hz⟩ := I1.tuple hq
  refine wpAny_pyIter_tuple (show s1.heap.IsTuple a its.toArray from p) ?_
  refine ⟨s1.heap.objs.size, [s1.heap.objs.size], _, _, H1, rfl, I1.kept (t' := s1.toks) fun b o e => Heap.get?_push_of_some _ e, pqd a _, ⟨_, Heap.get?_push_size _ rfl, rfl, rfl⟩, fun b hb => ?_, q⟩
  have e : b = s1.heap.objs.size := by simpa using hb
  subst e
  exact I1.fpOk (Nat.le_refl _) (I1.hok.fresh (Nat.le_refl _))
theorem rqh {pins : List (Addr × Obj)} {σ : St} {H : Hp} {s : Shared} {R : It → Hp → Prop} {E : Value → Shared → Prop} {lo hi : Int} {t u v : Tok} {tk : Nat} (I : Inv X pins σ H s) (h1 : -(2 ^ 62) ≤ lo) (h2 : lo < 2 ^ 62) (h3 : -(2 ^ 62) ≤ hi) (h4 : hi < 2 ^ 62)
    (q : R (Itr lo (hi - lo).toNat) H) : wpAny (model X.prog X.w) X.A (pyIter (.ref s.heap.objs.size)) (PIE X pins σ tg R) E { s with heap := s.heap.push { cls := .type "range", data := .fields #[.int lo t, .int hi u, .int 1 v] }, toks := tk } := by
  refine wpAny_pyIter_range (IsRange.new ..) (small_one h1 h2 h3 h4) ?_
  have I1 : Inv X pins σ H { s with heap := s.heap.push { cls := .type "range", data := .fields #[.int lo t, .int hi u, .int 1 v] }, toks := tk } := I.kept fun b o e => Heap.get?_push_of_some _ e
  refine ⟨(s.heap.push { cls := .type "range", data := .fields #[.int lo t, .int hi u, .int 1 v] }).objs.size, [(s.heap.push { cls := .type "range", data := .fields #[.int lo t, .int hi u, .int 1 v] }).objs.size], _, _, H, rfl,
    I1.kept (t' := tk) fun b o e => Heap.get?_push_of_some _ e, oq2 _ lo (hi - lo).toNat, ?_, fun b hb => ?_, q⟩
  · have e1 : lo + ((0 : Nat) : Int) * 1 = lo := by simp
    have e2 : (((hi - lo).toNat : Nat) : Int) - ((0 : Nat) : Int) = Builtin.Range.rangeSize lo hi 1 := by rw [rangeSize_one]; split <;> omega
    show IsRangeIter _ _ (lo + ((0 : Nat) : Int) * 1) ((((hi - lo).toNat : Nat) : Int) - ((0 : Nat) : Int)) 1
    rw [e1, e2]
    exact Heap.get?_push_size _ rfl
  · have e : b = (s.heap.push { cls := .type "range", data := .fields #[.int lo t, .int hi u, .int 1 v] }).objs.size := by simpa using hb
    subst e
    exact I1.fpOk (Nat.le_refl _) (I1.hok.fresh (Nat.le_refl _))
def iRng1 (ta : TA) : TI := fun σ H R => ta σ H fun vs H1 => ∃ j : Int, vs = [.int j] ∧ -(2 ^ 62) ≤ j ∧ j < 2 ^ 62 ∧ R (Itr 0 j.toNat) H1
theorem jq5 {a : Expr} {ta : TA} {p pos : Pos} (hg : Gl X "range") (hm : X.mg "range" = none) (ha : PA X [a] ta) (hs : starEach [a] X.env = [(false, eval a X.env)] := by rfl) : PI X tg (.Call (.Name "range" p) [a] [] pos) (iRng1 ta) := by
  intro pins s σ H R I h
  refine Call_ (nqQ I hg hm boot_range (PyProof.Rows.callWith_type1 (thn (ha pos pins s σ H _ I h) fun us s1 ⟨vs, H1, I1, r1, q1⟩ => ?_) hs rfl))
  obtain ⟨j, e, q1, q2, q⟩ := q1
  subst e
  cases r1 with
  | cons r rr =>
    cases rr
    obtain ⟨t, rfl⟩ := r
    exact call_range_1 (rqh I1 (by omega) (by omega) q1 q2 (by simpa using q))
def tFor (wi : TI) (g : TG) (tb : TS) : TS := fun D σ H => wi σ H fun J H1 => ∃ W : Nat → Nat → St → Hp → Prop, (∃ m, W 0 m σ H1) ∧ ∀ i m σ H, W i m σ H →
  (J.stop i H ∧ D.nx σ H) ∨ (J.go i H ∧ ∃ N : St → Hp → Prop, (∀ σ' H', N σ' H' → ∃ m', m' < m ∧ W (i + 1) m' σ' H') ∧ ∀ x H', J.yld i H x H' → g x σ H' fun σ2 H2 => tb { D with nx := N, ct := N, bk := D.nx } σ2 H2)
def pinsAt (fp : List Addr) (h : Heap) : List (Addr × Obj) := fp.filterMap fun b => (h.get? b).map fun o => (b, o)
theorem eqi {fp : List Addr} {h : Heap} {b : Addr} {o : Obj} (hb : b ∈ fp) (e : h.get? b = some o) : (b, o) ∈ pinsAt fp h := List.mem_filterMap.mpr ⟨b, hb, by rw [e]; rfl⟩
theorem pql {fp : List Addr} {h : Heap} {p : Addr × Obj} (hp : p ∈ pinsAt fp h) : p.1 ∈ fp ∧ h.get? p.1 = some p.2 := by
  obtain ⟨b, hb, e⟩ := List.mem_filterMap.mp hp
  cases q : h.get? b with
  | none => rw [q] at e; cases e
  | some o =>
    rw [q] at e
    have e' : (b, o) = p := Option.some.inj e
    subst e'
    exact ⟨hb, q⟩
theorem Inv.pinned {pins : List (Addr × Obj)} {σ : St} {H : Hp} {s : Shared} {fp : List Addr} (I : Inv X pins σ H s) (hf : ∀ b ∈ fp, FpOk X pins H b) (ho : ∀ b ∈ fp, ∃ o, s.heap.get? b = some o ∧ ∀ v, o.data ≠ .cell v) : Inv X (pins ++ pinsAt fp s.heap) σ H s :=
  I.pins_of fun p hp => (List.mem_append.mp hp).elim (fun z => I.pin p (List.mem_append_right _ z)) fun z => by
    obtain ⟨hb, e⟩ := pql z
    obtain ⟨f0, f1, f2, _⟩ := hf p.1 hb
    obtain ⟨o, e', d⟩ := ho p.1 hb
    rw [e] at e'; cases e'
    exact ⟨e, f0, f1, f2, d⟩
theorem Inv.unpinned {pins pl : List (Addr × Obj)} {σ : St} {H : Hp} {s : Shared} (I : Inv X (pins ++ pl) σ H s) : Inv X pins σ H s := I.pins_of fun p hp => I.pin p (List.mem_append_right _ (List.mem_append_left _ hp))
theorem kqi {iter : Expr} {body : List Stmt} {wi : TI} {g : TG} {tb : TS} {pos : Pos} (hp : PassesOwn (model X.prog X.w) X.A X.env X.xe) (hc : X.calm = true) (hi : PI X tg iter wi) (hg : PG X tg g) (hb : PSs X body tb)
    (hs : ∀ x, foldedSetIterable iter X.env x = pure x := by intro _; rfl) : PS X (.For tg iter body [] pos) (tFor wi g tb) := by
  intro pins s σ H D I h
  refine wpAny_For (thn (hi pins s σ H _ I h) fun v s1 h1 => thn h1 fun itv s2 h2 => ?_) hs
  obtain ⟨it, fp, tn, J, H2, e, I2, T, st2, f2, W, ⟨m0, w0⟩, turn⟩ := h2
  subst e
  have stat : ∀ {H' : Hp}, (∀ b ∈ fp, H' b = none) → ∀ b ∈ fp, FpOk X pins H' b := fun hn b hb => ⟨hn b hb, (f2 b hb).2⟩
  refine codeAny_forLoop_any (fun n s' => ∃ i σ' H', Inv X pins σ' H' s' ∧ tn i s'.heap ∧ (∀ b ∈ fp, H' b = none) ∧ W i n σ' H') ?_ m0 ⟨0, σ, H2, I2, st2, fun b hb => (f2 b hb).1, w0⟩
  rintro n s3 ⟨i, σ3, H3, I3, st3, fr3, w3⟩
  rcases turn i n σ3 H3 w3 with ⟨stop, qn⟩ | ⟨go, N, hN, step⟩
  · refine wpAny_passesOwn hp (thn (T.done X rfl rfl rfl hc i pins s3 σ3 H3 X.xe I3 (stat fr3) st3 stop) fun r s4 ⟨hr, I4⟩ => ?_)
    subst hr
    exact wpAny_execs_nil ⟨σ3, H3, I4, qn⟩
  · refine wpAny_passesOwn hp (thn (T.item X rfl rfl rfl hc i pins s3 σ3 H3 X.xe I3 (stat fr3) st3 go) fun r s4 ⟨u, hr, h4⟩ => ?_)
    subst hr
    refine wpAny_passesOwn hp (thn h4 fun _ s5 ⟨x, H5, I5, r5, y5, st5, fr5⟩ => ?_)
    have I5' := I5.pinned (stat fr5) (T.obj _ _ st5)
    refine wpAny_passesOwn hp (thn (hg _ s5 σ3 H5 x u _ I5' r5 (step x H5 y5)) fun _ s6 ⟨σ6, H6, I6, q6⟩ => ?_)
    refine wpAny_passesOwn hp (thn (hb _ s6 σ6 H6 _ I6 q6) fun f s7 q7 => ?_)
    have again : ∀ {σ7 : St} {H7 : Hp}, Inv X (pins ++ pinsAt fp s5.heap) σ7 H7 s7 → N σ7 H7 → ∃ m, m < n ∧ ∃ i σ' H', Inv X pins σ' H' s7 ∧ tn i s7.heap ∧ (∀ b ∈ fp, H' b = none) ∧ W i m σ' H' := fun {σ7 H7} I7 n7 => by
      obtain ⟨m', hm, w7⟩ := hN σ7 H7 n7
      refine ⟨m', hm, i + 1, σ7, H7, I7.unpinned, T.keep _ _ _ st5 fun b hb o e => (I7.pin (b, o) (List.mem_append_right _ (List.mem_append_right _ (eqi hb e)))).1, fun b hb => ?_, w7⟩
      obtain ⟨o, e, d⟩ := T.obj _ _ st5 b hb
      exact (I7.pin (b, o) (List.mem_append_right _ (List.mem_append_right _ (eqi hb e)))).2.1
    cases f with
    | next => obtain ⟨σ7, H7, I7, n7⟩ := q7; exact again I7 n7
    | cont => obtain ⟨σ7, H7, I7, n7⟩ := q7; exact again I7 n7
    | brk => obtain ⟨σ7, H7, I7, q7⟩ := q7; exact ⟨σ7, H7, I7.unpinned, q7⟩
    | ret v => obtain ⟨x7, σ7, H7, I7, r7, q7⟩ := q7; exact ⟨x7, σ7, H7, I7.unpinned, r7, q7⟩
end
theorem rqI {K : PySem.W.Frag} {a : Addr} {xs : List V} {g : TG} {tb : TS} {D : Ends} {σ : St} {H : Hp} (Pv : Nat → St → Hp → Prop) (h0 : Pv 0 σ H) (hl : ∀ i σ H, i ≤ xs.length → Pv i σ H → SqL K H a xs)
    (hs : ∀ i x σ H, xs[i]? = some x → Pv i σ H → g x σ H fun σ2 H2 => tb { D with nx := Pv (i + 1), ct := Pv (i + 1), bk := D.nx } σ2 H2) (hd : ∀ σ H, Pv xs.length σ H → D.nx σ H) :
    ∃ W : Nat → Nat → St → Hp → Prop, (∃ m, W 0 m σ H) ∧ ∀ i m σ H, W i m σ H →
      ((Itl K a).stop i H ∧ D.nx σ H) ∨ ((Itl K a).go i H ∧ ∃ N : St → Hp → Prop, (∀ σ' H', N σ' H' → ∃ m', m' < m ∧ W (i + 1) m' σ' H') ∧ ∀ x H', (Itl K a).yld i H x H' → g x σ H' fun σ2 H2 => tb { D with nx := N, ct := N, bk := D.nx } σ2 H2) := by
  refine ⟨fun i m σ H => m = xs.length - i ∧ i ≤ xs.length ∧ Pv i σ H, ⟨xs.length, by simp, Nat.zero_le _, h0⟩, ?_⟩
  rintro i m σ H ⟨rfl, hi, p⟩
  have q := hl i σ H hi p
  by_cases hlt : i < xs.length
  · refine .inr ⟨⟨xs, xs[i], q, by simp [hlt]⟩, Pv (i + 1), fun σ' H' p' => ⟨xs.length - (i + 1), by omega, rfl, hlt, p'⟩, fun x H' y => ?_⟩
    obtain ⟨e, y⟩ := y
    subst e
    exact hs i x σ _ (y xs q) p
  · have e : i = xs.length := by omega
    subst e
    exact .inl ⟨⟨xs, q, Nat.le_refl _⟩, hd σ H p⟩
theorem uqA {K : PySem.W.Frag} {a : Addr} {xs : List V} {g : TG} {tb : TS} {D : Ends} {σ : St} {H : Hp} (Pv : Nat → St → Hp → Prop) (h0 : Pv 0 σ H) (hl : ∀ i σ H, i ≤ xs.length → Pv i σ H → SqT K H a xs)
    (hs : ∀ i x σ H, xs[i]? = some x → Pv i σ H → g x σ H fun σ2 H2 => tb { D with nx := Pv (i + 1), ct := Pv (i + 1), bk := D.nx } σ2 H2) (hd : ∀ σ H, Pv xs.length σ H → D.nx σ H) :
    ∃ W : Nat → Nat → St → Hp → Prop, (∃ m, W 0 m σ H) ∧ ∀ i m σ H, W i m σ H →
      ((Itt K a).stop i H ∧ D.nx σ H) ∨ ((Itt K a).go i H ∧ ∃ N : St → Hp → Prop, (∀ σ' H', N σ' H' → ∃ m', m' < m ∧ W (i + 1) m' σ' H') ∧ ∀ x H', (Itt K a).yld i H x H' → g x σ H' fun σ2 H2 => tb { D with nx := N, ct := N, bk := D.nx } σ2 H2) := by
  refine ⟨fun i m σ H => m = xs.length - i ∧ i ≤ xs.length ∧ Pv i σ H, ⟨xs.length, by simp, Nat.zero_le _, h0⟩, ?_⟩
  rintro i m σ H ⟨rfl, hi, p⟩
  have q := hl i σ H hi p
  by_cases hlt : i < xs.length
  · refine .inr ⟨⟨xs, xs[i], q, by simp [hlt]⟩, Pv (i + 1), fun σ' H' p' => ⟨xs.length - (i + 1), by omega, rfl, hlt, p'⟩, fun x H' y => ?_⟩
    obtain ⟨e, y⟩ := y
    subst e
    exact hs i x σ _ (y xs q) p
  · have e : i = xs.length := by omega
    subst e
    exact .inl ⟨⟨xs, q, Nat.le_refl _⟩, hd σ H p⟩
theorem pqR {lo : Int} {n : Nat} {g : TG} {tb : TS} {D : Ends} {σ : St} {H : Hp} (Pv : Nat → St → Hp → Prop) (h0 : Pv 0 σ H)
    (hs : ∀ i σ H, i < n → Pv i σ H → g (.int (lo + i)) σ H fun σ2 H2 => tb { D with nx := Pv (i + 1), ct := Pv (i + 1), bk := D.nx } σ2 H2) (hd : ∀ σ H, Pv n σ H → D.nx σ H) :
    ∃ W : Nat → Nat → St → Hp → Prop, (∃ m, W 0 m σ H) ∧ ∀ i m σ H, W i m σ H →
      ((Itr lo n).stop i H ∧ D.nx σ H) ∨ ((Itr lo n).go i H ∧ ∃ N : St → Hp → Prop, (∀ σ' H', N σ' H' → ∃ m', m' < m ∧ W (i + 1) m' σ' H') ∧ ∀ x H', (Itr lo n).yld i H x H' → g x σ H' fun σ2 H2 => tb { D with nx := N, ct := N, bk := D.nx } σ2 H2) := by
  refine ⟨fun i m σ H => m = n - i ∧ i ≤ n ∧ Pv i σ H, ⟨n, by simp, Nat.zero_le _, h0⟩, ?_⟩
  rintro i m σ H ⟨rfl, hi, p⟩
  by_cases hlt : i < n
  · refine .inr ⟨hlt, Pv (i + 1), fun σ' H' p' => ⟨n - (i + 1), by omega, rfl, hlt, p'⟩, fun x H' y => ?_⟩
    obtain ⟨e, y⟩ := y
    subst e y
    exact hs i σ _ hlt p
  · have e : i = n := by omega
    subst e
    exact .inl ⟨Nat.le_refl _, hd σ H p⟩
end L2
namespace L2
open PySem PySem.Spec PyProof.Rows
abbrev R2 := V → V → Hp → VK → Prop
def OpR (X : Cx) (f : Value → Value → Sem Value) (r : R2) : Prop :=
  ∀ (pins : List (Addr × Obj)) (s : Shared) (σ : St) (H : Hp) (x y : V) (v u : Value) (Q : VK), Inv X pins σ H s → RelV x v → RelV y u → r x y H Q →
    wpAny (model X.prog X.w) X.A (f v u) (EP X pins σ Q) X.xe s
def UnR (X : Cx) (f : Value → Sem Value) (r : V → Hp → VK → Prop) : Prop :=
  ∀ (pins : List (Addr × Obj)) (s : Shared) (σ : St) (H : Hp) (x : V) (v : Value) (Q : VK), Inv X pins σ H s → RelV x v → r x H Q →
    wpAny (model X.prog X.w) X.A (f v) (EP X pins σ Q) X.xe s
def CallR (X : Cx) (f : Value) (r : List V → Hp → VK → Prop) : Prop :=
  ∀ (pins : List (Addr × Obj)) (s : Shared) (σ : St) (H : Hp) (xs : List V) (us : List Value) (Q : VK), Inv X pins σ H s → Vals xs us → r xs H Q →
    wpAny (model X.prog X.w) X.A (call f us) (EP X pins σ Q) X.xe s
def tOp (r : R2) (ta tb : TE) : TE := fun σ H Q => ta σ H fun x H1 => tb σ H1 fun y H2 => r x y H2 Q
def tUn (r : V → Hp → VK → Prop) (ta : TE) : TE := fun σ H Q => ta σ H fun x H1 => r x H1 Q
def rI (C : Int → Int → Prop) (g : Int → Int → V) : R2 := fun x y H Q => ∃ i j, x = .int i ∧ y = .int j ∧ C i j ∧ Q (g i j) H
def rI0 (g : Int → Int → V) : R2 := fun x y H Q => ∃ i j, x = .int i ∧ y = .int j ∧ Q (g i j) H
def rU (g : Int → V) : V → Hp → VK → Prop := fun x H Q => ∃ i, x = .int i ∧ Q (g i) H
section
variable {X : Cx} {a b c : Expr} {ta tb tc : TE} {pos : Pos}
theorem binT (ha : PE X a ta) (hb : PE X b tb) {pins : List (Addr × Obj)} {s : Shared} {σ : St} {H : Hp} {R : V → V → Hp → Prop} (I : Inv X pins σ H s)
    (h : ta σ H fun x H1 => tb σ H1 fun y H2 => R x y H2) {Q : Value → Shared → Prop} {f : Value → Value → Sem Value}
    (hf : ∀ v u s2 x y H2, Inv X pins σ H2 s2 → RelV x v → RelV y u → R x y H2 → wpAny (model X.prog X.w) X.A (f v u) Q X.xe s2) :
    wpAny (model X.prog X.w) X.A (eval a X.env) (fun v s₁ => wpAny (model X.prog X.w) X.A (eval b X.env) (fun u s₂ => wpAny (model X.prog X.w) X.A (f v u) Q X.xe s₂) X.xe s₁) X.xe s := by
  refine thn (ha pins s σ H _ I h) fun v s1 ⟨x, H1, I1, r1, q1⟩ => ?_
  refine thn (hb pins s1 σ H1 _ I1 q1) fun u s2 ⟨y, H2, I2, r2, q2⟩ => ?_
  exact hf v u s2 x y H2 I2 r1 r2 q2
theorem aqj {op : Operator} {r : R2} (ho : OpR X (binaryOp op) r) (ha : PE X a ta) (hb : PE X b tb) : PE X (.BinOp a op b pos) (tOp r ta tb) := by
  intro pins s σ H Q I h
  exact wpAny_BinOp (binT ha hb I h fun v u s2 x y H2 I2 rx ry q => ho pins s2 σ H2 x y v u Q I2 rx ry q)
theorem qqc {op : UnaryOp} {r : V → Hp → VK → Prop} (ho : UnR X (unaryOp op) r) (ha : PE X a ta) : PE X (.UnaryOp op a pos) (tUn r ta) := by
  intro pins s σ H Q I h
  exact UnaryOp_ (thn (ha pins s σ H _ I h) fun v s1 ⟨x, H1, I1, r1, q1⟩ => ho pins s1 σ H1 x v Q I1 r1 q1)
theorem opI {f : Value → Value → Sem Value} {C : Int → Int → Prop} {g : Int → Int → Int}
    (rule : ∀ (i j : Int) (t u : Tok) (s : Shared) (Q : Value → Shared → Prop) (E : Value → Shared → Prop), C i j → Q (.int (g i j) s.toks) { s with toks := s.toks + 1 } → wpAny (model X.prog X.w) X.A (f (.int i t) (.int j u)) Q E s) :
    OpR X f (rI C fun i j => .int (g i j)) := by
  intro pins s σ H x y v u Q I rx ry h
  obtain ⟨i, j, rfl, rfl, hc, q⟩ := h
  obtain ⟨t, rfl⟩ := rx
  obtain ⟨t', rfl⟩ := ry
  exact rule i j t t' s _ _ hc ⟨.int (g i j), H, I.tok _, ⟨_, rfl⟩, q⟩
theorem opI0 {f : Value → Value → Sem Value} {g : Int → Int → Int}
    (rule : ∀ (i j : Int) (t u : Tok) (s : Shared) (Q : Value → Shared → Prop) (E : Value → Shared → Prop), Q (.int (g i j) s.toks) { s with toks := s.toks + 1 } → wpAny (model X.prog X.w) X.A (f (.int i t) (.int j u)) Q E s) :
    OpR X f (rI0 fun i j => .int (g i j)) := by
  intro pins s σ H x y v u Q I rx ry h
  obtain ⟨i, j, rfl, rfl, q⟩ := h
  obtain ⟨t, rfl⟩ := rx
  obtain ⟨t', rfl⟩ := ry
  exact rule i j t t' s _ _ ⟨.int (g i j), H, I.tok _, ⟨_, rfl⟩, q⟩
theorem opB0 {f : Value → Value → Sem Value} {g : Int → Int → Bool}
    (rule : ∀ (i j : Int) (t u : Tok) (s : Shared) (Q : Value → Shared → Prop) (E : Value → Shared → Prop), Q (.bool (g i j)) s → wpAny (model X.prog X.w) X.A (f (.int i t) (.int j u)) Q E s) :
    OpR X f (rI0 fun i j => .bl (g i j)) := by
  intro pins s σ H x y v u Q I rx ry h
  obtain ⟨i, j, rfl, rfl, q⟩ := h
  obtain ⟨t, rfl⟩ := rx
  obtain ⟨t', rfl⟩ := ry
  exact rule i j t t' s _ _ ⟨.bl (g i j), H, I, rfl, q⟩
def CDiv (i j : Int) : Prop := 0 < j ∧ j < 1073741824
def CPow (i j : Int) : Prop := 0 ≤ j ∧ j ≤ 1000000 ∧ i.natAbs < 2 ^ 64
def CMul (i j : Int) : Prop := (-(2 ^ 64) < i ∧ i < 2 ^ 64) ∨ (-(2 ^ 64) < j ∧ j < 2 ^ 64)
theorem CMul.ok {i j : Int} (h : CMul i j) : IntMulOk i j := by
  rcases h with ⟨h1, h2⟩ | ⟨h1, h2⟩
  · exact .of_left (intBits_le_64 h1 h2)
  · exact .of_right (intBits_le_64 h1 h2)
theorem vq2 : OpR X (binaryOp .Add) (rI0 fun i j => .int (i + j)) := opI0 fun _ _ _ _ _ _ _ q => add_int q
theorem oqE : OpR X (binaryOp .Sub) (rI0 fun i j => .int (i - j)) := opI0 fun _ _ _ _ _ _ _ q => sub_int q
theorem wqq : OpR X (binaryOp .Mult) (rI CMul fun i j => .int (i * j)) := opI fun _ _ _ _ _ _ _ hc q => mul_int q hc.ok
theorem aq5 : OpR X (binaryOp .FloorDiv) (rI CDiv fun i j => .int (i / j)) := opI fun i j _ _ _ _ _ hc q => by
  have h1 : (0 : Int) < j := hc.1
  have h2 : j < 1073741824 := hc.2
  exact floordiv_int (by omega) (by rw [Int.fdiv_eq_ediv_of_nonneg i (by omega)]; exact q) (.inl (PyProof.noPylong_small (by omega)))
theorem aqQ : OpR X (binaryOp .Mod) (rI (fun _ j => 0 < j) fun i j => .int (i % j)) := opI fun i j _ _ _ _ _ hc q => by
  have h1 : (0 : Int) < j := hc
  exact mod_int' (by omega) (by rw [Int.fmod_eq_emod_of_nonneg i (by omega)]; exact q)
theorem uq3 : OpR X (binaryOp .Pow) (rI CPow fun i j => .int (i ^ j.toNat)) := opI fun _ _ _ _ _ _ _ hc q => pow_int_small hc.1 hc.2.1 hc.2.2 q
theorem unI {f : Value → Sem Value} {g : Int → Int}
    (rule : ∀ (i : Int) (t : Tok) (s : Shared) (Q : Value → Shared → Prop) (E : Value → Shared → Prop), Q (.int (g i) s.toks) { s with toks := s.toks + 1 } → wpAny (model X.prog X.w) X.A (f (.int i t)) Q E s) :
    UnR X f (rU fun i => .int (g i)) := by
  intro pins s σ H x v Q I rx h
  obtain ⟨i, rfl, q⟩ := h
  obtain ⟨t, rfl⟩ := rx
  exact rule i t s _ _ ⟨.int (g i), H, I.tok _, ⟨_, rfl⟩, q⟩
theorem mqB : UnR X (unaryOp .USub) (rU fun i => .int (-i)) := unI fun _ _ _ _ _ q => neg_int q
end
def scal : V → V → Bool
  | .non, .non => true | .non, .int _ => true | .int _, .non => true | .non, .bl _ => true | .bl _, .non => true | .non, .str _ => true | .str _, .non => true
  | .int _, .int _ => true | .bl _, .bl _ => true | .str _, .str _ => true | .byt _, .byt _ => true
  | .int _, .str _ => true | .str _, .int _ => true | .bl _, .str _ => true | .str _, .bl _ => true
  | _, _ => false
def rEq : R2 := fun x y H Q => scal x y = true ∧ Q (.bl (decide (x = y))) H
def rNe : R2 := fun x y H Q => scal x y = true ∧ Q (.bl (!decide (x = y))) H
theorem qqb {i j : Int} : decide (V.int i = V.int j) = (i == j) := by
  rw [Bool.eq_iff_iff]
  simp
theorem sqH {i j : Bool} : decide (V.bl i = V.bl j) = (i == j) := by
  rw [Bool.eq_iff_iff]
  simp
theorem pqQ {i j : Str} : decide (V.str i = V.str j) = (i == j) := by
  rw [Bool.eq_iff_iff]
  simp
theorem qqk {i j : Array UInt8} : decide (V.byt i = V.byt j) = (i.toList == j.toList) := by
  rw [Bool.eq_iff_iff]
  cases i
  cases j
  simp
section
variable {X : Cx} {a b c : Expr} {ta tb tc : TE} {pos : Pos}
theorem aq1 {pins : List (Addr × Obj)} {σ : St} {H : Hp} {s : Shared} {Q : VK} {k k' : Bool} (I : Inv X pins σ H s) (q : Q (.bl k) H) (e : k = k') : EP X pins σ Q (.bool k') s := by
  subst e
  exact ⟨.bl k, H, I, rfl, q⟩
theorem eqE : OpR X (compareOp .Eq) rEq := by
  intro pins s σ H x y v u Q I rx ry h
  obtain ⟨hs, q⟩ := h
  cases x with
  | non =>
    cases rx
    cases y with
    | non => cases ry; exact PySem.EqNone.eq_none_none (aq1 I q (by simp))
    | bl j => cases ry; exact PySem.EqNone.eq_none_bool (aq1 I q (by simp))
    | int j => obtain ⟨t', rfl⟩ := ry; exact PySem.EqNone.eq_none_int (aq1 I q (by simp))
    | str j => obtain ⟨t', rfl⟩ := ry; exact PySem.EqNone.eq_none_str (aq1 I q (by simp))
    | _ => exact absurd (show false = true from hs) Bool.false_ne_true
  | bl i =>
    cases rx
    cases y with
    | non => cases ry; exact PySem.EqNone.eq_bool_none (aq1 I q (by simp))
    | bl j => cases ry; exact eq_bool (aq1 I q sqH)
    | str j => obtain ⟨t', rfl⟩ := ry; exact PySem.EqMixed.eq_bool_str (aq1 I q (by simp))
    | _ => exact absurd (show false = true from hs) Bool.false_ne_true
  | int i =>
    obtain ⟨t, rfl⟩ := rx
    cases y with
    | non => cases ry; exact PySem.EqNone.eq_int_none (aq1 I q (by simp))
    | int j => obtain ⟨t', rfl⟩ := ry; exact eq_int (aq1 I q qqb)
    | str j => obtain ⟨t', rfl⟩ := ry; exact PySem.EqMixed.eq_int_str (aq1 I q (by simp))
    | _ => exact absurd (show false = true from hs) Bool.false_ne_true
  | str i =>
    obtain ⟨t, rfl⟩ := rx
    cases y with
    | non => cases ry; exact PySem.EqNone.eq_str_none (aq1 I q (by simp))
    | bl j => cases ry; exact PySem.EqMixed.eq_str_bool (aq1 I q (by simp))
    | int j => obtain ⟨t', rfl⟩ := ry; exact PySem.EqMixed.eq_str_int (aq1 I q (by simp))
    | str j => obtain ⟨t', rfl⟩ := ry; exact eq_str (aq1 I q pqQ)
    | _ => exact absurd (show false = true from hs) Bool.false_ne_true
  | byt i =>
    obtain ⟨t, rfl⟩ := rx
    cases y with
    | byt j => obtain ⟨t', rfl⟩ := ry; exact PySem.W.eq_bytes (aq1 I q qqk)
    | _ => exact absurd (show false = true from hs) Bool.false_ne_true
  | _ => cases y <;> exact absurd (show false = true from hs) Bool.false_ne_true
theorem lqz : OpR X (compareOp .NotEq) rNe := by
  intro pins s σ H x y v u Q I rx ry h
  obtain ⟨hs, q⟩ := h
  cases x with
  | non =>
    cases rx
    cases y with
    | non => cases ry; exact PySem.EqNone.ne_none_none (aq1 I q (by simp))
    | bl j => cases ry; exact PySem.EqNone.ne_none_bool (aq1 I q (by simp))
    | int j => obtain ⟨t', rfl⟩ := ry; exact PySem.EqNone.ne_none_int (aq1 I q (by simp))
    | str j => obtain ⟨t', rfl⟩ := ry; exact PySem.EqNone.ne_none_str (aq1 I q (by simp))
    | _ => exact absurd (show false = true from hs) Bool.false_ne_true
  | bl i =>
    cases rx
    cases y with
    | non => cases ry; exact PySem.EqNone.ne_bool_none (aq1 I q (by simp))
    | bl j => cases ry; exact ne_bool (aq1 I q (congrArg not sqH))
    | str j => obtain ⟨t', rfl⟩ := ry; exact PySem.EqMixed.ne_bool_str (aq1 I q (by simp))
    | _ => exact absurd (show false = true from hs) Bool.false_ne_true
  | int i =>
    obtain ⟨t, rfl⟩ := rx
    cases y with
    | non => cases ry; exact PySem.EqNone.ne_int_none (aq1 I q (by simp))
    | int j => obtain ⟨t', rfl⟩ := ry; exact ne_int (aq1 I q (congrArg not qqb))
    | str j => obtain ⟨t', rfl⟩ := ry; exact PySem.EqMixed.ne_int_str (aq1 I q (by simp))
    | _ => exact absurd (show false = true from hs) Bool.false_ne_true
  | str i =>
    obtain ⟨t, rfl⟩ := rx
    cases y with
    | non => cases ry; exact PySem.EqNone.ne_str_none (aq1 I q (by simp))
    | bl j => cases ry; exact PySem.EqMixed.ne_str_bool (aq1 I q (by simp))
    | int j => obtain ⟨t', rfl⟩ := ry; exact PySem.EqMixed.ne_str_int (aq1 I q (by simp))
    | str j => obtain ⟨t', rfl⟩ := ry; exact ne_str (aq1 I q (congrArg not pqQ))
    | _ => exact absurd (show false = true from hs) Bool.false_ne_true
  | byt i =>
    obtain ⟨t, rfl⟩ := rx
    cases y with
    | byt j => obtain ⟨t', rfl⟩ := ry; exact PySem.W.ne_bytes (aq1 I q (congrArg not qqk))
    | _ => exact absurd (show false = true from hs) Bool.false_ne_true
  | _ => cases y <;> exact absurd (show false = true from hs) Bool.false_ne_true
theorem qqM : OpR X (compareOp .Lt) (rI0 fun i j => .bl (decide (i < j))) := opB0 fun _ _ _ _ _ _ _ q => lt_int q
theorem wqZ : OpR X (compareOp .LtE) (rI0 fun i j => .bl (decide (i ≤ j))) := opB0 fun _ _ _ _ _ _ _ q => le_int q
theorem lqu : OpR X (compareOp .Gt) (rI0 fun i j => .bl (decide (j < i))) := opB0 fun _ _ _ _ _ _ _ q => gt_int q
theorem pqH : OpR X (compareOp .In) (fun x y H Q => ∃ i j, x = .str i ∧ y = .str j ∧ Q (.bl (!(Builtin.Str.occurrences j i 0 j.length 1).isEmpty)) H) := by
  intro pins s σ H x y v u Q I rx ry h
  obtain ⟨i, j, rfl, rfl, q⟩ := h
  obtain ⟨t, rfl⟩ := rx
  obtain ⟨t', rfl⟩ := ry
  exact in_str (aq1 I q rfl)
theorem vqb : OpR X (compareOp .Is) (fun x y H Q => y = .non ∧ Q (.bl (decide (x = .non))) H) := by
  intro pins s σ H x y v u Q I rx ry h
  obtain ⟨rfl, q⟩ := h
  cases ry
  refine is_none_gen (aq1 I q ?_)
  cases x <;> first
    | (cases rx; rfl)
    | (obtain ⟨t, rfl⟩ := rx; rfl)
theorem tqH : OpR X (compareOp .IsNot) (fun x y H Q => y = .non ∧ Q (.bl (!decide (x = .non))) H) := by
  intro pins s σ H x y v u Q I rx ry h
  obtain ⟨rfl, q⟩ := h
  cases ry
  refine isnot_none_gen (aq1 I q ?_)
  cases x <;> first
    | (cases rx; rfl)
    | (obtain ⟨t, rfl⟩ := rx; rfl)
theorem nomark (b : Expr) {op : CmpOp} (h : op ≠ .In := by decide) (h2 : op ≠ .NotIn := by decide) : behindInMarks op b = false := by
  have e1 : (op == CmpOp.In) = false := by cases op <;> first | rfl | exact absurd rfl h
  have e2 : (op == CmpOp.NotIn) = false := by cases op <;> first | rfl | exact absurd rfl h2
  cases b <;> simp [behindInMarks, e1, e2]
theorem bq3 {op : CmpOp} {r : R2} (ho : OpR X (compareOp op) r) (ha : PE X a ta) (hb : PE X b tb) (hm : behindInMarks op b = false) : PE X (.Compare a [op] [b] pos) (tOp r ta tb) := by
  intro pins s σ H Q I h
  exact wpAny_Compare1 (binT ha hb I h fun v u s2 x y H2 I2 rx ry q => ho pins s2 σ H2 x y v u Q I2 rx ry q) hm
def tTest (t : TE) : TT := fun σ H Q => t σ H fun x H' => ∃ k, x = .bl k ∧ Q k H'
theorem aqq {op : CmpOp} {r : R2} (ho : OpR X (compareOp op) r) (ha : PE X a ta) (hb : PE X b tb) (hm : behindInMarks op b = false) : PT X (.Compare a [op] [b] pos) (tTest (tOp r ta tb)) := by
  intro pins s σ H Q I h
  refine wpAny_isTrue_Compare1 (thn (ha pins s σ H _ I h) fun v s1 ⟨x, H1, I1, r1, q1⟩ => thn (hb pins s1 σ H1 _ I1 q1) fun u s2 ⟨y, H2, I2, r2, q2⟩ =>
    thn (ho pins s2 σ H2 x y v u _ I2 r1 r2 q2) fun c s3 ⟨z, H3, I3, r3, k, e, q3⟩ => ?_) hm
  subst e
  cases r3
  exact wpAny_truthy_bool ⟨H3, I3, q3⟩
def tChain (r r' : R2) (ta tb tc : TE) : TE := fun σ H Q => ta σ H fun x H1 => tb σ H1 fun y H2 => r x y H2 fun z H3 => ∃ k, z = .bl k ∧
  (if k = true then tc σ H3 fun w' H4 => r' y w' H4 Q else Q (.bl false) H3)
theorem line63 : (sizeLine : Nat) < 2 ^ 63 := by rw [sizeLine_eq]; decide
theorem oq0 : OpR X (binaryOp .Add) (fun x y H Q => ∃ i j, x = .str i ∧ y = .str j ∧ i.length + j.length ≤ sizeLine ∧ Q (.str (i ++ j)) H) := by
  intro pins s σ H x y v u Q I rx ry h
  obtain ⟨i, j, rfl, rfl, hz, q⟩ := h
  obtain ⟨t, rfl⟩ := rx
  obtain ⟨t', rfl⟩ := ry
  exact add_str (fun t' tk => ⟨.str (i ++ j), H, I.tok _, ⟨_, rfl⟩, q⟩) hz
theorem vals1 {x : V} {us : List Value} (r : Vals [x] us) : ∃ u, us = [u] ∧ RelV x u := by
  cases r with
  | cons r1 r2 => cases r2; exact ⟨_, rfl, r1⟩
theorem vals2 {x y : V} {us : List Value} (r : Vals [x, y] us) : ∃ u w', us = [u, w'] ∧ RelV x u ∧ RelV y w' := by
  cases r with
  | cons r1 r2 =>
    cases r2 with
    | cons r3 r4 => cases r4; exact ⟨_, _, rfl, r1, r3⟩
theorem mq7 : CallR X (.type "int") (fun xs H Q => (∃ i, xs = [.int i] ∧ Q (.int i) H) ∨ ∃ k, xs = [.bl k] ∧ Q (.int (if k then 1 else 0)) H) := by
  intro pins s σ H xs us Q I r h
  rcases h with ⟨i, rfl, q⟩ | ⟨k, rfl, q⟩
  · obtain ⟨u, rfl, t, rfl⟩ := vals1 r
    exact call_int_int ⟨.int i, H, I, ⟨_, rfl⟩, q⟩
  · obtain ⟨u, rfl, r1⟩ := vals1 r
    cases r1
    exact call_int_bool ⟨.int (if k then 1 else 0), H, I.tok _, ⟨_, rfl⟩, q⟩
theorem iqB : CallR X (.type "str") (fun xs H Q => ∃ i, xs = [.int i] ∧ i.natAbs.log2 < 1920 ∧ Q (.str (toString i)) H) := by
  intro pins s σ H xs us Q I r h
  obtain ⟨i, rfl, hz, q⟩ := h
  obtain ⟨u, rfl, t, rfl⟩ := vals1 r
  exact PySem.P.str_of_int hz ⟨.str _, H, I.tok _, ⟨_, rfl⟩, q⟩
theorem rqi : CallR X (.builtin "ord") (fun xs H Q => ∃ x, xs = [.str x] ∧ x.length = 1 ∧ Q (.int (x.cps.getD 0 0 : Nat)) H) := by
  intro pins s σ H xs us Q I r h
  obtain ⟨x, rfl, hz, q⟩ := h
  obtain ⟨u, rfl, t, rfl⟩ := vals1 r
  exact ord_of_one hz ⟨.int _, H, I.tok _, ⟨_, rfl⟩, q⟩
end
end L2
namespace L2
open PySem PySem.Spec PyProof.Rows
structure ObjM (h : Heap) (x dx C : Addr) (mA : Str → Option Value) : Prop where
  obj : h.get? x = some (PySem.W.instObj C dx)
  ns : h.Ns1 dx mA
  ne : dx ≠ x
theorem nqd {h : Heap} {dx : Addr} {mA : Str → Option Value} (n : h.Ns1 dx mA) : ∃ od, h.get? dx = some od ∧ ∀ name, PySem.W.lookIn name od = some (mA name) := by
  obtain ⟨o, es, ep, ho, hd, hk, _, hm⟩ := n
  refine ⟨o, ho, fun name => ?_⟩
  have e := hm name
  unfold nsFind findBy at e
  rw [← Array.find?_toList] at e
  unfold PySem.W.lookIn
  rw [hd]
  dsimp only
  split
  · rename_i y q
    rw [q] at e
    exact congrArg some e
  · rename_i q
    rw [q] at e
    have a : es.toList.any (·.refKey) = false := by
      rw [List.any_eq_false]
      intro y hy
      obtain ⟨z, t, hkey⟩ := hk y (Array.mem_toList_iff.mp hy)
      simp [DictEntry.refKey, hkey]
    have a' : ¬ es.toList.any (·.refKey) = true := by rw [a]; exact Bool.false_ne_true
    rw [if_neg a']
    exact congrArg some e
theorem ObjM.look {h : Heap} {x dx C : Addr} {mA : Str → Option Value} (I : ObjM h x dx C mA) : ∃ od, PySem.W.InstAt h x (PySem.W.instObj C dx) C (some od) ∧ ∀ name, PySem.W.lookIn name od = some (mA name) :=
  let ⟨od, ho, hl⟩ := nqd I.ns
  ⟨od, ⟨I.obj, rfl, rfl, ho⟩, hl⟩
section
variable {prog : Program} {w : World} {A : Around} {E : Value → Shared → Prop} {s : Shared} {K : PySem.W.Frag} {x dx C f : Addr} {mA : Str → Option Value} {name : Str} {v : Value}
theorem tqC {expr : Bool} {Q : Value → Shared → Prop} (X : K.In s.heap) (I : ObjM s.heap x dx C mA) (hg : PySem.W.plainGet K C name = true) (hh : PySem.W.hasDictIn K C = true)
    (ha : PySem.W.findIn K (.ref C) name = some none) (hv : mA name = some v) (hv' : PySem.W.handedIn v = true) (h : Q v { s with toks := s.toks + 1 }) :
    wpAny (model prog w) A (getAttr (.ref x) name expr) Q E s := by
  obtain ⟨od, J, hl⟩ := I.look
  exact PySem.W.get_value X J (PySem.W.plainGet_of hg).1 (PySem.W.findObj_own hh ha rfl (by rw [hl, hv])) hv' h
theorem rqB {pl : Sem Bool} {Q : Value × List Value → Shared → Prop} (X : K.In s.heap) (I : ObjM s.heap x dx C mA) (hg : PySem.W.plainGet K C name = true)
    (hf : PySem.W.findIn K (.ref C) name = some (some (.ref f))) (ht : PySem.W.isFn K (.ref f) = true) (hv : mA name = none) (h : Q (.ref f, [.ref x]) s) :
    wpAny (model prog w) A (getMethod (.ref x) name pl) Q E s := by
  obtain ⟨od, J, hl⟩ := I.look
  exact PySem.W.method_fn X J (PySem.W.plainGet_of hg).1 (PySem.W.plainGet_of hg).2 hf (beq_iff_eq.mp ht) (by show (PySem.W.lookIn name od).map (·.isSome) = some false; rw [hl, hv]; rfl) h
theorem uqr {ns : List Str} {Q : Unit → Shared → Prop} (X : K.In s.heap) (I : ObjM s.heap x dx C mA)
    (hs : PySem.W.findIn K (.ref C) "__setattr__" = some (some (.builtin "object.__setattr__"))) (hp : PySem.W.plainOver K C = true) (ht : PySem.W.takerIn K C name = some none) (hh : PySem.W.hasDictIn K C = true)
    (hw : PySem.Within mA ns) (hsz : ns.length ≤ sizeLine)
    (h : ∀ h', ObjM h' x dx C (fun y => if y = name then some v else mA y) → Heap.SameBut dx s.heap h' → Q () { s with heap := h', toks := s.toks + 2 }) :
    wpAny (model prog w) A (setAttr (.ref x) name v) Q E s := by
  obtain ⟨od, J, hl⟩ := I.look
  refine PySem.W.set_plain X J hs (PySem.W.osa_open (s := { s with toks := s.toks + 1 }) (r := none) X J hp ht fun b => ?_)
  obtain ⟨cd, hc, hd'⟩ := PySem.W.any_some hh
  have hx : s.heap.get? x = some ⟨.ref C, some dx, .plain, #[]⟩ := I.obj
  refine wpAny_bind (wpAny_pure (wpAny_bind (wpAny_bind (wpAny_loadPart hx (wpAny_bind (PySem.W.Looks.here (s := { s with toks := s.toks + 1 }) (PySem.W.looks_clsIn X hc) ?_))))))
  rw [hd']
  refine wpAny_pure (a := some dx) (wpAny_bind (wpAny_pure (wpAny_bind ?_)))
  refine wpAny_nsSet1 (s := { s with toks := s.toks + 1 }) I.ns fun h' hn2 hs2 => ?_
  obtain ⟨oD, esD, epD, hoD, hdD, hcD⟩ := hn2.count (PySem.Within.cons name v hw)
  refine wpAny_bind (wpAny_lookBehind hoD (by rw [hdD]; exact pastItsLine_dict (Nat.le_trans hcD (by rw [List.length_cons]; omega))) ?_)
  exact wpAny_pure (h _ ⟨(hs2.2 _ (Ne.symm I.ne)).trans I.obj, hn2, I.ne⟩ hs2)
theorem rq2 {R : Result → Shared → Prop} {vs : List Value} {kw : List (Str × Value)} (X : K.In s.heap) (hm : PySem.W.makesIn K C = true)
    (hi : PySem.W.findIn K (.ref C) "__init__" = some (some (.ref f))) (hf : PySem.W.typeIn K (.ref f) = some (.type "function"))
    (h : codeAny (model prog w) (A.under (.builtin "type.__call__" ⟨.ref C :: vs, kw⟩)) (.call (.ref f) ⟨.ref (s.heap.objs.size + 1) :: vs, kw⟩) (PySem.W.InitBack (s.heap.objs.size + 1) R)
      { s with heap := (s.heap.push PySem.W.emptyDict).push (PySem.W.instObj C s.heap.objs.size) }) :
    codeAny (model prog w) A (.call (.ref C) ⟨vs, kw⟩) R s := by
  obtain ⟨hh, g, d, t, os⟩ := s
  exact PySem.W.make_core (PySem.W.makes_of X hm) (PySem.W.looks_findIn X hi) (fun self => PySem.W.bind_fn X self hf) (.inl rfl) h
end
def putF (f : Str) (v : V) : List (Str × V) → List (Str × V)
  | [] => [(f, v)]
  | (g, x) :: r => if g = f then (g, v) :: r else (g, x) :: putF f v r
theorem kqn (f g : Str) (v : V) : ∀ fs : List (Str × V), (putF f v fs).lookup g = if g = f then some v else fs.lookup g
  | [] => by
    show List.lookup g [(f, v)] = _
    by_cases h : g = f
    · have hb : (g == f) = true := beq_iff_eq.mpr h
      simp only [List.lookup, hb, if_pos h]
    · have hb : (g == f) = false := beq_eq_false_iff_ne.mpr h
      simp only [List.lookup, hb, if_neg h]
  | (k, x) :: r => by
    have ih := kqn f g v r
    rw [show putF f v ((k, x) :: r) = (if k = f then (k, v) :: r else (k, x) :: putF f v r) from rfl]
    by_cases hk : k = f
    · rw [if_pos hk]
      by_cases h : g = k
      · have hb : (g == k) = true := beq_iff_eq.mpr h
        simp only [List.lookup, hb, if_pos (h.trans hk)]
      · have hb : (g == k) = false := beq_eq_false_iff_ne.mpr h
        simp only [List.lookup, hb, if_neg (fun e : g = f => h (e.trans hk.symm))]
    · rw [if_neg hk]
      by_cases h : g = k
      · have hb : (g == k) = true := beq_iff_eq.mpr h
        simp only [List.lookup, hb, if_neg (fun e : g = f => hk (h.symm.trans e))]
      · have hb : (g == k) = false := beq_eq_false_iff_ne.mpr h
        simp only [List.lookup, hb]
        exact ih
theorem jqH (f : Str) (v : V) : ∀ fs : List (Str × V), f ∈ (putF f v fs).map (·.1) ∧ ∀ g, g ∈ fs.map (·.1) → g ∈ (putF f v fs).map (·.1)
  | [] => ⟨by simp [putF], fun g h => by simp at h⟩
  | (k, x) :: r => by
    obtain ⟨i1, i2⟩ := jqH f v r
    rw [show putF f v ((k, x) :: r) = (if k = f then (k, v) :: r else (k, x) :: putF f v r) from rfl]
    by_cases hk : k = f
    · rw [if_pos hk]
      subst hk
      exact ⟨by simp, fun g h => by simpa using h⟩
    · rw [if_neg hk]
      refine ⟨?_, fun g h => ?_⟩
      · rw [List.map_cons]
        exact List.mem_cons_of_mem _ i1
      · rw [List.map_cons] at h ⊢
        rcases List.mem_cons.mp h with e | e
        · exact List.mem_cons.mpr (.inl e)
        · exact List.mem_cons_of_mem _ (i2 g e)
theorem jq6 (f : Str) (v : V) : ∀ fs : List (Str × V), (putF f v fs).length ≤ fs.length + 1
  | [] => by simp [putF]
  | (k, x) :: r => by
    have ih := jq6 f v r
    rw [show putF f v ((k, x) :: r) = (if k = f then (k, v) :: r else (k, x) :: putF f v r) from rfl]
    by_cases hk : k = f
    · rw [if_pos hk, List.length_cons, List.length_cons]; omega
    · rw [if_neg hk, List.length_cons, List.length_cons]; omega
theorem RelO.some_of {v : V} {o : Option Value} (r : RelO (some v) o) : ∃ u, o = some u ∧ RelV v u := by
  cases o with
  | none => exact (show False from r).elim
  | some u => exact ⟨u, rfl, r⟩
theorem RelO.none_of {o : Option Value} (r : RelO none o) : o = none := by
  cases o with
  | none => rfl
  | some u => exact (show False from r).elim
theorem mqM {v : V} {u : Value} (r : RelV v u) : PySem.W.handedIn u = true := by
  cases v with
  | non => cases (show u = Value.none from r); rfl
  | bl b => cases (show u = Value.bool b from r); rfl
  | int i => obtain ⟨t, e⟩ := (show ∃ t, u = Value.int i t from r); cases e; rfl
  | str x => obtain ⟨t, e⟩ := (show ∃ t, u = Value.str x t from r); cases e; rfl
  | byt b => obtain ⟨t, e⟩ := (show ∃ t, u = Value.bytes b t from r); cases e; rfl
  | flt b => obtain ⟨t, e⟩ := (show ∃ t, u = Value.float b t from r); cases e; rfl
  | ref a => cases (show u = Value.ref a from r); rfl
  | ty n => cases (show u = Value.type n from r); rfl
section
variable {P : Program} {w : World} {H H' : Hp} {h h' : Heap} {a C dx : Addr} {fs fs' : List (Str × V)}
theorem lq0 (hok : HOk P w H h) (e : H a = some (.ins C dx fs)) : ∃ mA, ObjM h a dx C mA ∧ (∀ f, RelO (fs.lookup f) (mA f)) ∧ PySem.Within mA (fs.map (·.1)) ∧ fs.length ≤ 1000 ∧ H dx = some (.own a) := by
  obtain ⟨d, z, ne, ob, mA, n, r, q⟩ := (show ObjOk P w H h a (.ins C dx fs) from hok a _ e)
  exact ⟨mA, ⟨ob, n, ne⟩, r, q, z, d⟩
end
structure Cls (K : PySem.W.Frag) (C : Addr) : Prop where
  pg : PySem.W.plainGet K C Str.empty = true
  hd : PySem.W.hasDictIn K C = true
  po : PySem.W.plainOver K C = true
  sa : PySem.W.findIn K (.ref C) "__setattr__" = some (some (.builtin "object.__setattr__"))
theorem Cls.get {K : PySem.W.Frag} {C : Addr} (c : Cls K C) (f : Str) : PySem.W.plainGet K C f = true := c.pg
def NoAttr (K : PySem.W.Frag) (C : Addr) (f : Str) : Prop := PySem.W.findIn K (.ref C) f = some none
theorem NoAttr.taker {K : PySem.W.Frag} {C : Addr} {f : Str} (n : NoAttr K C f) : PySem.W.takerIn K C f = some none := by
  unfold PySem.W.takerIn
  rw [show PySem.W.findIn K (.ref C) f = some none from n]
  rfl
structure Con (K : PySem.W.Frag) (C : Addr) (f : Str) (v : V) (u : Value) : Prop where
  at_ : PySem.W.findIn K (.ref C) f = some (some u)
  rel : RelV v u
  get : PySem.W.specialIn K u "__get__" = some none
  cp : PySem.W.copiedNames.contains f = false
structure Meth (K : PySem.W.Frag) (C : Addr) (m : Str) (f : Addr) : Prop where
  at_ : PySem.W.findIn K (.ref C) m = some (some (.ref f))
  fn : PySem.W.isFn K (.ref f) = true
  kp : PySem.W.keepIn K (.ref f) = true
section
variable {X : Cx} {pins : List (Addr × Obj)} {σ : St} {H : Hp} {s : Shared} {a C dx : Addr} {fs : List (Str × V)} {f : Str} {v : V} {A : Around} {E : Value → Shared → Prop}
theorem oqR {b : Bool} {Q : Value → Shared → Prop} (I : Inv X pins σ H s) (e : H a = some (.ins C dx fs)) (c : Cls X.K C) (n : NoAttr X.K C f) (l : fs.lookup f = some v)
    (h : ∀ u s', Inv X pins σ H s' → RelV v u → Q u s') : wpAny (model X.prog X.w) A (getAttr (.ref a) f b) Q E s := by
  obtain ⟨mA, O, r, _, _, _⟩ := lq0 I.hok e
  obtain ⟨u, hu, ru⟩ := RelO.some_of (v := v) (o := mA f) (by rw [← l]; exact r f)
  exact tqC I.kIn O (c.get f) c.hd n hu (mqM ru) (h u _ (I.tok _) ru)
theorem hq9 {m : Str} {g : Addr} {pl : Sem Bool} {Q : Value × List Value → Shared → Prop} (I : Inv X pins σ H s) (e : H a = some (.ins C dx fs)) (c : Cls X.K C) (k : Meth X.K C m g) (l : fs.lookup m = none)
    (h : Q (.ref g, [.ref a]) s) : wpAny (model X.prog X.w) A (getMethod (.ref a) m pl) Q E s := by
  obtain ⟨mA, O, r, _, _, _⟩ := lq0 I.hok e
  have hn : mA m = none := RelO.none_of (by rw [← l]; exact r m)
  exact rqB I.kIn O (c.get m) k.at_ k.fn hn h
theorem oqP {y : V} {u : Value} {Q : Unit → Shared → Prop} (I : Inv X pins σ H s) (e : H a = some (.ins C dx fs)) (c : Cls X.K C) (n : NoAttr X.K C f) (hl : fs.length < 1000) (ry : RelV y u)
    (h : ∀ s', Inv X pins σ (upd H a (.ins C dx (putF f y fs))) s' → Q () s') : wpAny (model X.prog X.w) A (setAttr (.ref a) f u) Q E s := by
  obtain ⟨mA, O, r, wi, _, ho⟩ := lq0 I.hok e
  have hz : (fs.map (·.1)).length ≤ sizeLine := by rw [List.length_map, sizeLine_eq]; omega
  refine uqr I.kIn O c.sa c.po n.taker c.hd wi hz fun h' O' sb => h _ ?_
  have hd : ∃ o, h'.get? dx = some o := let ⟨o, _, _, e', _⟩ := O'.ns; ⟨o, e'⟩
  refine I.write (x := a) (e := dx) (by rw [e]; exact True.intro) (.inr ho) (fun b q hb z => (sb.2 b hb).trans z) hd ?_
  refine ⟨by rw [aqu O.ne]; exact ho, ?_, O.ne, O'.obj, _, O'.ns, fun g => ?_, fun g hg => ?_⟩
  · have := jq6 f y fs; omega
  · show RelO ((putF f y fs).lookup g) (if g = f then some u else mA g)
    rw [kqn]
    by_cases q : g = f
    · rw [if_pos q, if_pos q]; exact ry
    · rw [if_neg q, if_neg q]; exact r g
  · by_cases q : g = f
    · rw [q]; exact (jqH f y fs).1
    · refine (jqH f y fs).2 g (wi g fun z => hg ?_)
      show (if g = f then some u else mA g) = none
      rw [if_neg q]; exact z
theorem Inv.made (I : Inv X pins σ H s) : Inv X pins σ (upd (upd H s.heap.objs.size (.own (s.heap.objs.size + 1))) (s.heap.objs.size + 1) (.ins C s.heap.objs.size []))
    { s with heap := (s.heap.push PySem.W.emptyDict).push (PySem.W.instObj C s.heap.objs.size) } := by
  have e1 : (s.heap.push PySem.W.emptyDict).get? s.heap.objs.size = some PySem.W.emptyDict := Heap.get?_push_size s.heap rfl
  have e2 : ((s.heap.push PySem.W.emptyDict).push (PySem.W.instObj C s.heap.objs.size)).get? (s.heap.objs.size + 1) = some (PySem.W.instObj C s.heap.objs.size) := by
    have := Heap.get?_push_size (s.heap.push PySem.W.emptyDict) (o := PySem.W.instObj C s.heap.objs.size) rfl
    rwa [Heap.size_push] at this
  have e3 : (s.heap.push PySem.W.emptyDict).Ns s.heap.objs.size (fun _ => none) := ⟨PySem.W.emptyDict, #[], _, e1, rfl, (fun e he => absurd he (by simp)), fun _ => rfl⟩
  have I1 := I.laid (a := s.heap.objs.size) (o := .own (s.heap.objs.size + 1)) (h' := s.heap.push PySem.W.emptyDict) (t' := s.toks) (fun b u q => Heap.get?_push_of_some _ q) (Nat.le_refl _) ⟨_, e1⟩
  refine I1.laid (a := s.heap.objs.size + 1) (o := .ins C s.heap.objs.size []) (t' := s.toks) (fun b u q => Heap.get?_push_of_some _ q) (Nat.le_of_eq (Heap.size_push _ _)) ?_
  have ne : s.heap.objs.size ≠ s.heap.objs.size + 1 := Nat.ne_of_lt (Nat.lt_succ_self _)
  refine ⟨by rw [aqu ne, aql], Nat.zero_le _, ne, e2, fun _ => none, (Heap.Ns1.of_empty e3).at fun o q => Heap.get?_push_of_some _ q, fun _ => True.intro, fun y hy => absurd rfl hy⟩
theorem qqo {prog : Program} {w : World} {env : Env} {e : Expr} {f : Str} {pos : Pos} {s : Shared} {Q : Value → Shared → Prop} (hb : attributeBase e f env (eval e env) = eval e env)
    (h : wpAny (model prog w) A (eval e env) (fun o s₁ => wpAny (model prog w) A (getAttr o f true) Q E s₁) E s) : wpAny (model prog w) A (eval (.Attribute e f pos) env) Q E s :=
  Attribute_any_ h (by rw [arm_eval_Attribute, hb])
end
def tFld (K : PySem.W.Frag) (ta : TE) (f : Str) : TE := fun σ H Q => ta σ H fun x H1 => ∃ a C dx fs v, x = .ref a ∧ H1 a = some (.ins C dx fs) ∧ Cls K C ∧ NoAttr K C f ∧ fs.lookup f = some v ∧ Q v H1
def sFld (K : PySem.W.Frag) (ta tv : TE) (f : Str) : TS := fun D σ H => tv σ H fun y H1 => ta σ H1 fun x H2 => ∃ a C dx fs, x = .ref a ∧ H2 a = some (.ins C dx fs) ∧ Cls K C ∧ NoAttr K C f ∧ fs.length < 1000 ∧
  D.nx σ (upd H2 a (.ins C dx (putF f y fs)))
section
variable {X : Cx} {o e value : Expr} {f : Str} {pos pos' tpos : Pos} {ta tv : TE}
theorem cqw (he : PE X e ta) (hb : attributeBase e f X.env (eval e X.env) = eval e X.env) : PE X (.Attribute e f pos) (tFld X.K ta f) := by
  intro pins s σ H Q I h
  refine qqo hb (thn (he pins s σ H _ I h) fun u s1 ⟨x, H1, I1, rx, a, C, dx, fs, v, ex, ea, c, n, l, q⟩ => ?_)
  subst ex
  obtain rfl : u = Value.ref a := rx
  exact oqR I1 ea c n l fun u' s2 I2 ru => ⟨v, H1, I2, ru, q⟩
theorem nq8 (ha : PE X o ta) (hv : PE X value tv) (hs : swapsWith value (some (.Attribute o f pos')) pos.line X.env = pure false) : PS X (.Assign [.Attribute o f pos'] value pos) (sFld X.K ta tv f) := by
  intro pins s σ H D I h
  refine plainObj_wpAny_Assign_Attribute (thn (hv pins s σ H _ I h) fun u s1 ⟨y, H1, I1, ry, q⟩ => thn (ha pins s1 σ H1 _ I1 q) fun ov s2 ⟨x, H2, I2, rx, a, C, dx, fs, ex, ea, c, n, l, q2⟩ => ?_) hs
  subst ex
  obtain rfl : ov = Value.ref a := rx
  exact oqP I2 ea c n l ry fun s3 I3 => ⟨σ, _, I3, q2⟩
theorem tqX {pl : Sem Bool} {m : Str} {apos : Pos} {args : List Expr} {pins : List (Addr × Obj)} {s : Shared} {σ : St} {H : Hp} {Q : Value → Shared → Prop} {te : TE} (he : PE X e te) (I : Inv X pins σ H s)
    (h : te σ H fun x H1 => ∃ a C dx fs g, x = .ref a ∧ H1 a = some (.ins C dx fs) ∧ Cls X.K C ∧ Meth X.K C m g ∧ fs.lookup m = none ∧
      ∀ s1, Inv X pins σ H1 s1 → wpAny (model X.prog X.w) X.A (callWith pos (.ref g) [.ref a] (backTo pos (starEach args X.env)) (backToKw pos (keywordEach [] X.env))) Q X.xe s1)
    (ht : eval (.Call (.Attribute e m apos) args [] pos) X.env = (do
      let ov ← eval e X.env
      standAt apos.atName
      let (f, first) ← holding [ov] (getMethod ov m pl)
      callWith pos f first (backTo pos (starEach args X.env)) (backToKw pos (keywordEach [] X.env)))) :
    wpAny (model X.prog X.w) X.A (eval (.Call (.Attribute e m apos) args [] pos) X.env) Q X.xe s := by
  refine PySem.W.methodCall_KW (pl := pl) (thn (he pins s σ H _ I h) fun u s1 ⟨x, H1, I1, rx, a, C, dx, fs, g, ex, ea, c, k, l, q⟩ => ?_) ht
  subst ex
  obtain rfl : u = Value.ref a := rx
  exact hq9 I1 ea c k l (q s1 I1)
end
section
variable {X : Cx} {pins : List (Addr × Obj)} {σ : St} {H : Hp} {s : Shared} {A : Around} {E : Value → Shared → Prop} {Q : Value → Shared → Prop} {c : Value} {b : Bool}
inductive TyOf (K : PySem.W.Frag) (H : Hp) : V → Value → Prop where
  | non : TyOf K H .non (.type "NoneType")
  | bl (x : Bool) : TyOf K H (.bl x) (.type "bool")
  | int (i : Int) : TyOf K H (.int i) (.type "int")
  | str (x : Str) : TyOf K H (.str x) (.type "str")
  | flt (x : UInt64) : TyOf K H (.flt x) (.type "float")
  | lst {a : Addr} {xs : List V} (e : H a = some (.lst xs)) : TyOf K H (.ref a) (.type "list")
  | frz {a : Addr} {o : Obj} {xs : List V} (e : H a = some (.frz o (.lst xs))) : TyOf K H (.ref a) (.type "list")
  | tup {a : Addr} {xs : List V} (e : H a = some (.tup xs)) : TyOf K H (.ref a) (.type "tuple")
  | dK {a : Addr} {kvs : List (Key × V)} (e : H a = some (.dK kvs)) : TyOf K H (.ref a) (.type "dict")
  | dT {a : Addr} {kvs : List (List Key × V)} (e : H a = some (.dT kvs)) : TyOf K H (.ref a) (.type "dict")
  | ins {a C dx : Addr} {fs : List (Str × V)} (e : H a = some (.ins C dx fs)) (cl : Cls K C) (ha : PySem.W.findIn K (.ref C) "__class__" = some (some (.builtin "object.__class__")))
      (hn : PySem.W.specialIn K (.builtin "object.__class__") "__get__" = some (some (.builtin "getset_descriptor.__get__"))) (htk : PySem.W.takesIn K (.builtin "object.__class__") = some true)
      (hm : PySem.W.mroIn K C (.type "object") = some true) : TyOf K H (.ref a) (.ref C)
theorem pqu {x : V} {u t : Value} (I : Inv X pins σ H s) (rx : RelV x u) (ty : TyOf X.K H x t) (e : PySem.W.kitOne X.K t c = some b) (h : ∀ tk, Q (.bool b) { s with toks := tk }) :
    wpAny (model X.prog X.w) A (call (.builtin "isinstance") [u, c]) Q E s := by
  cases ty with
  | non => cases (show u = Value.none from rx); exact PySem.W.kia_one PySem.W.kitx_none I.kIn True.intro e (fun z => nomatch z) h
  | bl y => cases (show u = Value.bool y from rx); exact PySem.W.kia_one PySem.W.kitx_bool I.kIn True.intro e (fun z => nomatch z) h
  | int i => obtain ⟨t, q⟩ := (show ∃ t, u = Value.int i t from rx); cases q; exact PySem.W.kia_one PySem.W.kitx_int I.kIn True.intro e (fun z => nomatch z) h
  | str y => obtain ⟨t, q⟩ := (show ∃ t, u = Value.str y t from rx); cases q; exact PySem.W.kia_one PySem.W.kitx_str I.kIn True.intro e (fun z => nomatch z) h
  | flt y => obtain ⟨t, q⟩ := (show ∃ t, u = Value.float y t from rx); cases q; exact PySem.W.kia_one PySem.W.kitx_float I.kIn True.intro e (fun z => nomatch z) h
  | @lst a xs ea =>
    cases (show u = Value.ref a from rx)
    obtain ⟨_, _, n, _, h1⟩ := (show ObjOk X.prog X.w H s.heap a (.lst xs) from I.hok a _ ea)
    exact PySem.W.kia_one PySem.W.kitx_list I.kIn ⟨_, h1, rfl⟩ e (fun z => nomatch z) h
  | @frz a ob xs ea =>
    cases (show u = Value.ref a from rx)
    obtain ⟨_, _, _, n, _, h1⟩ := (show ObjOk X.prog X.w H s.heap a (.frz ob (.lst xs)) from I.hok a _ ea)
    exact PySem.W.kia_one PySem.W.kitx_list I.kIn ⟨_, h1, rfl⟩ e (fun z => nomatch z) h
  | @tup a xs ea =>
    cases (show u = Value.ref a from rx)
    obtain ⟨_, _, _, p⟩ := (show ObjOk X.prog X.w H s.heap a (.tup xs) from I.hok a _ ea)
    obtain ⟨o, h1, h2, _⟩ := p
    exact PySem.W.kia_one PySem.W.kitx_tuple I.kIn ⟨o, h1, h2⟩ e (fun z => nomatch z) h
  | @dK a kvs ea =>
    cases (show u = Value.ref a from rx)
    obtain ⟨_, _, vs, _, p⟩ := (show ObjOk X.prog X.w H s.heap a (.dK kvs) from I.hok a _ ea)
    obtain ⟨o, es, ep, h1, h2, _⟩ := p
    exact PySem.W.kia_one PySem.W.kitx_dict I.kIn ⟨o, h1, h2.1⟩ e (fun z => nomatch z) h
  | @dT a kvs ea =>
    cases (show u = Value.ref a from rx)
    obtain ⟨_, _, xs, _, o, es, ep, h1, h2, _⟩ := (show ObjOk X.prog X.w H s.heap a (.dT kvs) from I.hok a _ ea)
    exact PySem.W.kia_one PySem.W.kitx_dict I.kIn ⟨o, h1, h2.1⟩ e (fun z => nomatch z) h
  | @ins a C dx fs ea cl ha hn htk hm =>
    cases (show u = Value.ref a from rx)
    obtain ⟨mA, O, _⟩ := lq0 I.hok ea
    obtain ⟨od, J, _⟩ := O.look
    exact PySem.W.kia_one (PySem.W.kitx_own (cl.get _) cl.hd ha hn htk hm) I.kIn J e (fun z => nomatch z) h
end
end L2
namespace L2
open PySem PySem.Spec PyProof.Rows
structure Room (k : Nat) (A : Around) : Prop where
  hd : A.handled = none
  dp : A.depth + 3 * k + 5 < recursionLimit
  un : A.units + 16 * k + 200 < cLine
theorem Room.mono {j k : Nat} {A : Around} (r : Room k A) (h : j ≤ k) : Room j A := ⟨r.hd, by have := r.dp; omega, by have := r.un; omega⟩
theorem Room.deeper {k : Nat} {A : Around} (r : Room (k + 1) A) (env : Env) : Room k (A.deeper env) :=
  ⟨r.hd, by have := r.dp; show A.depth + 1 + 3 * k + 5 < _; omega, by have := r.un; show A.units + 3 + 16 * k + 200 < _; omega⟩
theorem oq4 {A : Around} {C : Addr} {us : List Value} {kw : List (Str × Value)} : (A.under (.builtin "type.__call__" ⟨.ref C :: us, kw⟩)).depth = A.depth + 1 := by
  first | rfl | simp [Around.under, Code.weight, Code.isCreation, Code.isGuard, Code.isCaller, Code.frames, Code.isFrame, guardIds]
theorem oqV {A : Around} {C : Addr} {us : List Value} {kw : List (Str × Value)} : (A.under (.builtin "type.__call__" ⟨.ref C :: us, kw⟩)).units = A.units + 1 := by
  first | rfl | simp [Around.under, Code.cUnits, Code.frames, Code.isFrame]
theorem Room.make {k : Nat} {A : Around} (r : Room (k + 1) A) (C : Addr) (us : List Value) (kw : List (Str × Value)) : Room k (A.under (.builtin "type.__call__" ⟨.ref C :: us, kw⟩)) :=
  ⟨r.hd, by have := r.dp; rw [oq4]; omega, by have := r.un; rw [oqV]; omega⟩
theorem Room.depth {k : Nat} {A : Around} (r : Room k A) : A.depth < recursionLimit := by have := r.dp; omega
theorem Room.units {k : Nat} {A : Around} (r : Room k A) : A.units + 64 < cLine := by have := r.un; omega
def tNil : TA := fun _ H Q => Q [] H
def tCons (ta : TE) (tr : TA) : TA := fun σ H Q => ta σ H fun x H1 => tr σ H1 fun xs H2 => Q (x :: xs) H2
section
variable {X : Cx} {e : Expr} {es : List Expr} {te : TE} {t : TA} {pos : Pos}
theorem aqb : PA X [] tNil := fun _ _ _ _ H Q I h => Calls.spliced_nil ⟨[], H, I, .nil, h⟩
theorem aqa (ha : PE X e te) (hr : PA X es t) (hs : starEach (e :: es) X.env = (false, eval e X.env) :: starEach es X.env := by rfl) : PA X (e :: es) (tCons te t) := by
  intro pos pins s σ H Q I h
  rw [hs]
  show wpAny _ _ (spliced ((false, eval e X.env) :: backTo pos (starEach es X.env))) _ _ s
  refine Calls.spliced_cons (thn (ha pins s σ H _ I h) fun u s1 ⟨x, H1, I1, r1, q1⟩ => ?_)
  exact thn (hr pos pins s1 σ H1 _ I1 q1) fun us s2 ⟨xs, H2, I2, r2, q2⟩ => ⟨x :: xs, H2, I2, .cons r1 r2, q2⟩
def tTup (t : TA) : TE := fun σ H Q => t σ H fun xs H1 => xs.length ≤ sizeLine ∧ ∀ p, H1 p = none → Q (.ref p) (upd H1 p (.tup xs))
def tLst (t : TA) : TE := fun σ H Q => t σ H fun xs H1 => xs.length ≤ sizeLine ∧ ∀ p, H1 p = none → Q (.ref p) (upd H1 p (.lst xs))
theorem sqC (h : PA X es t) : PE X (.List es pos) (tLst t) := by
  intro pins s σ H Q I hq
  refine wpAny_List_spliced (thn (h pos pins s σ H _ I hq) fun us s1 ⟨xs, H1, I1, r, z, q⟩ => ⟨by rw [← r.length]; exact z, ?_⟩)
  have hf : H1 s1.heap.objs.size = none := I1.hok.fresh (Nat.le_refl _)
  refine ⟨.ref s1.heap.objs.size, upd H1 s1.heap.objs.size (.lst xs), I1.laid (t' := s1.toks) (fun b u e => Heap.get?_push_of_some _ e) (Nat.le_refl _) ?_, rfl, q _ hf⟩
  exact ⟨z, us, 0, r, Heap.get?_push_size _ rfl⟩
end
abbrev Sp := List V → Hp → VK → XK → Prop
abbrev CXT := List Env → Hp → Shared → XK → Value → Shared → Prop
structure Env0 (P : Program) (w : World) (K : PySem.W.Frag) (mg : Str → Option Value) (base : Heap) (A : Around) (outer : List Env) (s : Shared) (H : Hp) : Prop where
  frames : A.frames = some outer
  mod : Mod K mg base
  bs : ∀ b o, base.get? b = some o → s.heap.get? b = some o ∧ H b = none
  bsz : base.objs.size ≤ s.heap.objs.size
  funs : s.heap.FunFrames base outer
  frf : ∀ b ∈ frs outer, H b = none
  hok : HOk P w H s.heap
  bare : AllBare s.gens
def CE (outer : List Env) (P : Program) (w : World) (H : Hp) (s : Shared) (Q : VK) (u : Value) (s' : Shared) : Prop :=
  ∃ v H', s'.os = s.os ∧ AllBare s'.gens ∧ Un (frs outer) [] H H' s.heap s'.heap ∧ HOk P w H' s'.heap ∧ RelV v u ∧ Q v H'
def CR (CX : CXT) (outer : List Env) (P : Program) (w : World) (H : Hp) (s : Shared) (Q : VK) (E : XK) (r : Result) (s' : Shared) : Prop :=
  match r with
  | .ok (.ret u) => CE outer P w H s Q u s'
  | .ok _ => False
  | .error e => CX outer H s E e s'
structure FnOk (P : Program) (w : World) (K : PySem.W.Frag) (mg : Str → Option Value) (base : Heap) (CX : CXT) (k : Nat) (f : Addr) (fd : FuncData) (ps : List Str) (sp : Sp) : Prop where
  len : ∀ vs H Q E, sp vs H Q E → vs.length = ps.length
  run : ∀ (A : Around) (outer : List Env) (s : Shared) (H : Hp) (args : Args) (us : List Value) (vs : List V) (Q : VK) (E : XK), Room k A → Env0 P w K mg base A outer s H → BindsTo s fd args (ps.zip us) → Vals vs us → sp vs H Q E →
    codeAny (model P w) A (.call (.ref f) args) (CR CX outer P w H s Q E) s
theorem Env0.make {P : Program} {w : World} {K : PySem.W.Frag} {mg : Str → Option Value} {base : Heap} {A : Around} {outer : List Env} {s : Shared} {H : Hp} (e : Env0 P w K mg base A outer s H) (C : Addr) (us : List Value) (kw : List (Str × Value)) :
    Env0 P w K mg base (A.under (.builtin "type.__call__" ⟨.ref C :: us, kw⟩)) outer s H := ⟨by first | exact e.frames | (simpa [Around.under, Code.envs, Code.isFrame, pushEnvs] using e.frames), e.mod, e.bs, e.bsz, e.funs, e.frf, e.hok, e.bare⟩
section
variable {X : Cx} {pins : List (Addr × Obj)} {σ : St} {H : Hp} {s s' : Shared}
theorem Inv.env0 (I : Inv X pins σ H s) : Env0 X.prog X.w X.K X.mg X.base X.A X.stack s H :=
  ⟨I.ok.frames, I.ok.mod, I.bs, Nat.le_trans I.ok.bsz I.sz, I.stack, I.stkFree, I.hok, I.bare⟩
theorem Inv.after {Q : VK} {u : Value} (I : Inv X pins σ H s) (h : CE X.stack X.prog X.w H s Q u s') : EP X pins σ Q u s' := by
  obtain ⟨v, H', os, bare, un, hok, r, q⟩ := h
  obtain ⟨hh, g, d, t, os'⟩ := s'
  obtain rfl : os' = s.os := os
  exact ⟨v, H', I.call (h' := hh) (g' := g) (d' := d) (t' := t) (ch := []) un hok bare (fun b z => absurd z (by simp)), r, q⟩
end
def tCall (sp : Sp) (dvs : List V) (E : XK) (t : TA) : TE := fun σ H Q => t σ H fun vs H1 => sp (vs ++ dvs) H1 Q E
def tMeth (C : Addr) (m : Str) (sp : Sp) (dvs : List V) (E : XK) (ta : TE) (t : TA) : TE := fun σ H Q => ta σ H fun x H1 => ∃ a dx fs, x = .ref a ∧ H1 a = some (.ins C dx fs) ∧ fs.lookup m = none ∧
  t σ H1 fun vs H2 => sp (x :: (vs ++ dvs)) H2 Q E
def tMake (C : Addr) (sp : Sp) (dvs : List V) (E : XK) (t : TA) : TE := fun σ H Q => t σ H fun vs H1 => ∀ x dx, H1 x = none → H1 dx = none → dx ≠ x →
  sp (.ref x :: (vs ++ dvs)) (upd (upd H1 dx (.own x)) x (.ins C dx [])) (fun v H2 => v = .non ∧ Q (.ref x) H2) E
def Binds (K : PySem.W.Frag) (fd : FuncData) (ps : List Str) (ds : List Value) : Prop :=
  ∀ (s : Shared) (us : List Value), K.In s.heap → (us ++ ds).length = ps.length → BindsTo s fd ⟨us, []⟩ (ps.zip (us ++ ds))
theorem Binds.all {K : PySem.W.Frag} {fd : FuncData} {ps : List Str} (h : ∀ us : List Value, us.length = ps.length → bindArgs fd ⟨us, []⟩ = pure (ps.zip us)) : Binds K fd ps [] := fun s us _ hl => by
  rw [List.append_nil] at hl ⊢
  exact .of_eq (h us hl)
def Passes (CX : CXT) (X : Cx) (E : XK) : Prop := ∀ (pins : List (Addr × Obj)) (σ : St) (H : Hp) (s : Shared) (e : Value) (s' : Shared), Inv X pins σ H s → CX X.stack H s E e s' → X.xe e s'
section
variable {X : Cx} {CX : CXT} {k : Nat} {f C : Addr} {fd : FuncData} {ps : List Str} {sp : Sp} {dvs : List V} {ds : List Value} {E : XK} {x m : Str} {p pos apos : Pos} {e o : Expr} {es : List Expr} {ta : TE} {t : TA}
theorem pqM {pins : List (Addr × Obj)} {σ : St} {H : Hp} {s : Shared} {Q : VK} {us : List Value} {vs : List V} (F : FnOk X.prog X.w X.K X.mg X.base CX k f fd ps sp) (hr : Room k X.A) (hb : Binds X.K fd ps ds) (hd : Vals dvs ds) (hx : Passes CX X E)
    (I : Inv X pins σ H s) (r : Vals vs us) (h : sp (vs ++ dvs) H Q E) : wpAny (model X.prog X.w) X.A (call (.ref f) us) (EP X pins σ Q) X.xe s := by
  have r2 : Vals (vs ++ dvs) (us ++ ds) := r.append hd
  have hl : (us ++ ds).length = ps.length := by rw [← r2.length]; exact F.len _ _ _ _ h
  refine wpAny_call (codeAny_mono (F.run X.A X.stack s H ⟨us, []⟩ (us ++ ds) (vs ++ dvs) Q E hr I.env0 (hb s us I.kIn hl) r2 h) fun r s' hq => ?_)
  cases r with
  | error e => exact hx pins σ H s e s' I hq
  | ok fl =>
    cases fl with
    | ret u => exact I.after hq
    | next => exact False.elim hq
    | brk => exact False.elim hq
    | cont => exact False.elim hq
theorem aqf (F : FnOk X.prog X.w X.K X.mg X.base CX k f fd ps sp) (hr : Room k X.A) (hg : Gl X x) (hm : X.mg x = some (.ref f)) (hk : PySem.W.keepIn X.K (.ref f) = true) (hb : Binds X.K fd ps ds) (hd : Vals dvs ds) (hx : Passes CX X E)
    (ha : PA X (e :: es) t) (hdb : (x == ("__debug__" : Str)) = false := by decide) (he : starEach (e :: es) X.env = (false, eval e X.env) :: starEach es X.env := by rfl) (hpl : (backTo pos (starEach es X.env)).any (·.1) = false := by rfl) :
    PE X (.Call (.Name x p) (e :: es) [] pos) (tCall sp dvs E t) := by
  intro pins s σ H Q I h
  refine wpAny_Call_Name_kw (iqs I hg hm ?_ hdb)
  refine PySem.W.callWith_K (h₀ := X.base) I.ok.mod.kin hk (thn (ha pos pins s σ H _ I h) fun us s1 ⟨vs, H1, I1, r, q⟩ => ⟨I1.kIn, ?_⟩) he hpl
  exact pqM F hr hb hd hx I1 r q
theorem dqb {pl : Sem Bool} (he : PE X o ta) (c : Cls X.K C) (hm : Meth X.K C m f) (F : FnOk X.prog X.w X.K X.mg X.base CX k f fd ps sp) (hr : Room k X.A) (hb : Binds X.K fd ps ds) (hd : Vals dvs ds) (hx : Passes CX X E) (ha : PA X (e :: es) t)
    (hst : starEach (e :: es) X.env = (false, eval e X.env) :: starEach es X.env := by rfl) (hpl : (backTo pos (starEach es X.env)).any (·.1) = false := by rfl)
    (ht : eval (.Call (.Attribute o m apos) (e :: es) [] pos) X.env = (do
      let ov ← eval o X.env
      standAt apos.atName
      let (f, first) ← holding [ov] (getMethod ov m pl)
      callWith pos f first (backTo pos (starEach (e :: es) X.env)) (backToKw pos (keywordEach [] X.env))) := by rfl) :
    PE X (.Call (.Attribute o m apos) (e :: es) [] pos) (tMeth C m sp dvs E ta t) := by
  intro pins s σ H Q I h
  refine PySem.W.methodCall_KW (pl := pl) (thn (he pins s σ H _ I h) fun u s1 ⟨x, H1, I1, rx, a, dx, fs, ex, ea, l, q⟩ => ?_) ht
  subst ex
  obtain rfl : u = Value.ref a := rx
  refine hq9 I1 ea c hm l ?_
  refine PySem.W.callWith_K (first := [.ref a]) (h₀ := X.base) I.ok.mod.kin hm.kp (thn (ha pos pins s1 σ H1 _ I1 q) fun us s2 ⟨vs, H2, I2, r, q2⟩ => ⟨I2.kIn, ?_⟩) hst hpl
  exact pqM (us := .ref a :: us) (vs := .ref a :: vs) F hr hb hd hx I2 (.cons rfl r) q2
theorem fqz {pl : Sem Bool} (he : PE X o ta) (c : Cls X.K C) (hm : Meth X.K C m f) (F : FnOk X.prog X.w X.K X.mg X.base CX k f fd ps sp) (hr : Room k X.A) (hb : Binds X.K fd ps ds) (hd : Vals dvs ds) (hx : Passes CX X E)
    (ht : eval (.Call (.Attribute o m apos) [] [] pos) X.env = (do
      let ov ← eval o X.env
      standAt apos.atName
      let (f, first) ← holding [ov] (getMethod ov m pl)
      callWith pos f first (backTo pos (starEach [] X.env)) (backToKw pos (keywordEach [] X.env))) := by rfl) :
    PE X (.Call (.Attribute o m apos) [] [] pos) (tMeth C m sp dvs E ta tNil) := by
  intro pins s σ H Q I h
  refine PySem.W.methodCall_KW (pl := pl) (thn (he pins s σ H _ I h) fun u s1 ⟨x, H1, I1, rx, a, dx, fs, ex, ea, l, q⟩ => ?_) ht
  subst ex
  obtain rfl : u = Value.ref a := rx
  refine hq9 I1 ea c hm l ?_
  exact PySem.W.callWith_K0 (first := [.ref a]) I1.kIn hm.kp (pqM (us := [.ref a]) (vs := [.ref a]) F hr hb hd hx I1 (.cons rfl .nil) q)
structure Mk (K : PySem.W.Frag) (C f : Addr) : Prop where
  makes : PySem.W.makesIn K C = true
  init : PySem.W.findIn K (.ref C) "__init__" = some (some (.ref f))
  fn : PySem.W.isFn K (.ref f) = true
  kp : PySem.W.keepIn K (.ref C) = true
theorem rq5 {pins : List (Addr × Obj)} {σ : St} {H : Hp} {s : Shared} {Q : VK} {us : List Value} {vs : List V} (M : Mk X.K C f) (F : FnOk X.prog X.w X.K X.mg X.base CX k f fd ps sp) (hr : Room (k + 1) X.A) (hb : Binds X.K fd ps ds) (hd : Vals dvs ds)
    (hx : Passes CX X E) (I : Inv X pins σ H s) (r : Vals vs us)
    (h : ∀ x dx, H x = none → H dx = none → dx ≠ x → sp (.ref x :: (vs ++ dvs)) (upd (upd H dx (.own x)) x (.ins C dx [])) (fun v H2 => v = .non ∧ Q (.ref x) H2) E) :
    wpAny (model X.prog X.w) X.A (call (.ref C) us) (EP X pins σ Q) X.xe s := by
  have hq := h (s.heap.objs.size + 1) s.heap.objs.size (I.hok.fresh (Nat.le_succ _)) (I.hok.fresh (Nat.le_refl _)) (Nat.ne_of_lt (Nat.lt_succ_self _))
  have I2 := Inv.made (C := C) I
  have r2 : Vals (V.ref (s.heap.objs.size + 1) :: (vs ++ dvs)) (Value.ref (s.heap.objs.size + 1) :: (us ++ ds)) := .cons rfl (r.append hd)
  have hl : (Value.ref (s.heap.objs.size + 1) :: us ++ ds).length = ps.length := by
    have e := r2.length
    rw [F.len _ _ _ _ hq] at e
    exact e.symm
  refine wpAny_call (rq2 (f := f) I.kIn M.makes M.init (beq_iff_eq.mp M.fn) (codeAny_mono (F.run _ X.stack _ _ ⟨Value.ref (s.heap.objs.size + 1) :: us, []⟩ (Value.ref (s.heap.objs.size + 1) :: (us ++ ds)) _ _ E (hr.make C us [])
    (I2.env0.make C us []) (hb _ (Value.ref (s.heap.objs.size + 1) :: us) I2.kIn hl) r2 hq) fun r s' hq' => ?_))
  cases r with
  | error e => exact hx pins σ _ _ e s' I2 hq'
  | ok fl =>
    cases fl with
    | ret u =>
      obtain ⟨v, H', I3, rv, ev, q3⟩ := I2.after hq'
      subst ev
      exact ⟨rv, ⟨V.ref (s.heap.objs.size + 1), H', I3, rfl, q3⟩⟩
    | next => exact False.elim hq'
    | brk => exact False.elim hq'
    | cont => exact False.elim hq'
theorem tqM (M : Mk X.K C f) (F : FnOk X.prog X.w X.K X.mg X.base CX k f fd ps sp) (hr : Room (k + 1) X.A) (hg : Gl X x) (hm : X.mg x = some (.ref C)) (hb : Binds X.K fd ps ds) (hd : Vals dvs ds) (hx : Passes CX X E)
    (ha : PA X (e :: es) t) (hdb : (x == ("__debug__" : Str)) = false := by decide) (he : starEach (e :: es) X.env = (false, eval e X.env) :: starEach es X.env := by rfl) (hpl : (backTo pos (starEach es X.env)).any (·.1) = false := by rfl) :
    PE X (.Call (.Name x p) (e :: es) [] pos) (tMake C sp dvs E t) := by
  intro pins s σ H Q I h
  refine wpAny_Call_Name_kw (iqs I hg hm ?_ hdb)
  refine PySem.W.callWith_K (h₀ := X.base) I.ok.mod.kin M.kp (thn (ha pos pins s σ H _ I h) fun us s1 ⟨vs, H1, I1, r, q⟩ => ⟨I1.kIn, ?_⟩) he hpl
  exact rq5 M F hr hb hd hx I1 r q
end
section
variable {X : Cx} {CX : CXT} {k : Nat} {f C : Addr} {fd : FuncData} {ps ks : List Str} {sp : Sp} {E : XK} {x m : Str} {p pos apos kpos : Pos} {e o : Expr} {es : List Expr} {kws : List Keyword} {te ta : TE} {t tk : TA} {nm : Option Str}
structure KBinds (K : PySem.W.Frag) (fd : FuncData) (ps ks : List Str) (g : List Value → List Value → List Value) (gV : List V → List V → List V) : Prop where
  to : ∀ (s : Shared) (us ws : List Value), K.In s.heap → (g us ws).length = ps.length → BindsTo s fd ⟨us, ks.zip ws⟩ (ps.zip (g us ws))
  rel : ∀ {vs : List V} {us : List Value} {zs : List V} {ws : List Value}, Vals vs us → Vals zs ws → Vals (gV vs zs) (g us ws)
variable {g : List Value → List Value → List Value} {gV : List V → List V → List V}
end
structure FnScope (N P : List Str) (sc : Scope) : Prop where
  kind : sc.kind = .function
  co : sc.isCoroutine = false
  gen : sc.isGenerator = false
  nd : N.Nodup
  pre : N.take P.length = P
  par : ∀ x ∈ P, sc.names.lookup x = some .local ∨ sc.names.lookup x = some .cell
  nofree : ∀ y ∈ sc.names, y.2 ≠ .free
theorem mqz {kindOf : Str → Option NameKind} {x : Str} : ∀ {binds : List (Str × Value)} {m : Str → Option Value}, (∀ v, (x, v) ∉ binds) → bindL kindOf binds m x = m x
  | [], _, _ => rfl
  | (n, v) :: r, m, h => by
    unfold bindL
    rw [mqz fun w hw => h w (List.mem_cons_of_mem _ hw)]
    split
    · have : x ≠ n := by rintro rfl; exact h v List.mem_cons_self
      simp [this]
    · rfl
theorem mqm {kindOf : Str → Option NameKind} {x : Str} : ∀ {binds : List (Str × Value)} {m : Str → Option Value}, (∀ v, (x, v) ∉ binds) → bindC kindOf binds m x = m x
  | [], _, _ => rfl
  | (n, v) :: r, m, h => by
    unfold bindC
    rw [mqm fun w hw => h w (List.mem_cons_of_mem _ hw)]
    split
    · rfl
    · have : x ≠ n := by rintro rfl; exact h v List.mem_cons_self
      simp [this]
theorem mq9 {kindOf : Str → Option NameKind} {x : Str} {v : Value} : ∀ {P : List Str} {vs : List Value} {i : Nat} {m : Str → Option Value}, P.Nodup → P[i]? = some x → vs[i]? = some v → kindOf x = some .local →
    bindL kindOf (P.zip vs) m x = some v
  | [], _, _, _, _, h, _, _ => by simp at h
  | _ :: _, [], _, _, _, _, h, _ => by simp at h
  | p :: P, w :: vs, 0, m, nd, h1, h2, hk => by
    simp at h1 h2; subst h1; subst h2
    show bindL kindOf ((p, w) :: P.zip vs) m p = _
    unfold bindL
    rw [mqz fun v hv => (List.nodup_cons.mp nd).1 (List.of_mem_zip hv).1, if_pos hk]
    simp
  | p :: P, w :: vs, i + 1, m, nd, h1, h2, hk => by
    show bindL kindOf ((p, w) :: P.zip vs) m x = _
    unfold bindL
    exact mq9 (i := i) (List.nodup_cons.mp nd).2 (by simpa using h1) (by simpa using h2) hk
theorem mqv {kindOf : Str → Option NameKind} {x : Str} {v : Value} : ∀ {P : List Str} {vs : List Value} {i : Nat} {m : Str → Option Value}, P.Nodup → P[i]? = some x → vs[i]? = some v → kindOf x ≠ some .local →
    bindC kindOf (P.zip vs) m x = some v
  | [], _, _, _, _, h, _, _ => by simp at h
  | _ :: _, [], _, _, _, _, h, _ => by simp at h
  | p :: P, w :: vs, 0, m, nd, h1, h2, hk => by
    simp at h1 h2; subst h1; subst h2
    show bindC kindOf ((p, w) :: P.zip vs) m p = _
    unfold bindC
    rw [mqm fun v hv => (List.nodup_cons.mp nd).1 (List.of_mem_zip hv).1, if_neg hk]
    simp
  | p :: P, w :: vs, i + 1, m, nd, h1, h2, hk => by
    show bindC kindOf ((p, w) :: P.zip vs) m x = _
    unfold bindC
    exact mqv (i := i) (List.nodup_cons.mp nd).2 (by simpa using h1) (by simpa using h2) hk
def start (N : List Str) (vs : List V) : St := vs.map some ++ List.replicate (N.length - vs.length) none
def cxOf (CX : CXT) (P : Program) (w : World) (K : PySem.W.Frag) (mg : Str → Option Value) (base : Heap) (N : List Str) (qual : Str) (scope : Scope) (f : Addr) (cd : Value) (A : Around) (outer : List Env) (s : Shared) (H : Hp) (E : XK) : Cx where
  prog := P
  w := w
  K := K
  mg := mg
  base := base
  A := A.deeper (envOfC qual scope s.heap.objs.size f cd)
  N := N
  s₀ := s
  H₀ := H
  env := envOfC qual scope s.heap.objs.size f cd
  outer := outer
  stack := envOfC qual scope s.heap.objs.size f cd :: outer
  ex := []
  calm := true
  fn := fun _ => true
  pn := []
  xe := fun e s' => wpAny (model P w) (A.deeper (envOfC qual scope s.heap.objs.size f cd)) (leaving (envOfC qual scope s.heap.objs.size f cd) e) (fun _ s'' => CX outer H s E e s'') (fun e' s'' => CX outer H s E e' s'') s'
theorem oqD {sc : Scope} {n : Nat} {x : Str} (h : sc.names.lookup x = some .cell) : ∃ c, (cellsFrom n sc.names []).lookup x = some c := by
  have q := PySem.W.cellsFrom_some sc.names n [] (.inl h)
  exact Option.isSome_iff_exists.mp q
theorem qqv {CX : CXT} {P : Program} {w : World} {K : PySem.W.Frag} {mg : Str → Option Value} {base : Heap} {N ps : List Str} {qual : Str} {scope : Scope} {f : Addr} {cd : Value} {A : Around} {outer : List Env} {s s1 : Shared} {H : Hp} {E : XK} {us : List Value} {vs : List V}
    (S : FnScope N ps scope) (hd : A.handled = none) (e0 : Env0 P w K mg base A outer s H) (hl : vs.length = ps.length) (r : Vals vs us)
    (x : InCallC s s.heap.objs.size (bindL (envOfC qual scope s.heap.objs.size f cd).kindOf (ps.zip us) fun _ => none) (cellsFrom (s.heap.objs.size + 1) scope.names []) (bindC (envOfC qual scope s.heap.objs.size f cd).kindOf (ps.zip us) fun _ => none) s1) :
    Inv (cxOf CX P w K mg base N qual scope f cd A outer s H E) [] (start N vs) H s1 := by
  have hpl : ps.length ≤ N.length := by have := congrArg List.length S.pre; rw [List.length_take] at this; omega
  obtain ⟨h1, tk, rfl, hk⟩ := x.done
  have noA : ∀ b : Addr, b ∉ (cxOf CX P w K mg base N qual scope f cd A outer s H E).ex := fun b z => absurd (show b ∈ ([] : List Addr) from z) (by simp)
  refine ⟨⟨e0.mod, S.kind, rfl, rfl, Nat.le_refl _, fun y z c h1 h2 => ?_, fun y hy => ?_, fun y c _ h => ?_, fun _ => hd, Around.frames_deeper e0.frames, .inr ⟨rfl, rfl⟩, fun b z => absurd z (noA b), e0.bs, e0.bsz, fun b _ _ => noA b, fun b z => absurd z (noA b), e0.funs, e0.frf⟩,
    rfl, e0.bare, Un.kept hk, ⟨_, x.toInCall.ns, fun i y v h1 h2 h3 => ?_⟩, fun y c h => ⟨_, x.cell y c h⟩, e0.hok.fresh (Nat.le_refl _), fun y c h => ?_, fun p hp => absurd (show p ∈ ([] : List (Addr × Obj)) from hp) (by simp), e0.hok.kept hk, ?_⟩
  · exact name_of_addr x.apart (PySem.mem_of_lookup h1) (PySem.mem_of_lookup h2)
  · have hy : scope.names.lookup y = some .cell ∨ scope.names.lookup y = some .free := hy
    rcases hy with hy | hy
    · exact oqD hy
    · exact absurd rfl (S.nofree _ (PySem.mem_of_lookup hy))
  · exact Nat.le_of_lt (x.above y c (PySem.mem_of_lookup h))
  · have hi : i < vs.length := by
      unfold start at h2
      by_cases hi : i < vs.length
      · exact hi
      · rw [List.getElem?_append_right (by simpa using hi)] at h2
        rw [List.getElem?_replicate] at h2
        split at h2 <;> cases h2
    have ha : vs[i]? = some v := by
      unfold start at h2
      rw [List.getElem?_append_left (by simpa using hi), List.getElem?_map] at h2
      cases e : vs[i]? with
      | none => rw [e] at h2; cases h2
      | some a => rw [e] at h2; cases h2; rfl
    obtain ⟨u, hu, rv⟩ := r.get ha
    have hp : ps[i]? = some y := by
      rw [← S.pre, List.getElem?_take_of_lt (by omega)]; exact h1
    have ndP : ps.Nodup := by rw [← S.pre]; exact S.nd.sublist (List.take_sublist _ _)
    refine ⟨u, rv, ?_⟩
    rcases S.par y (List.mem_of_getElem? hp) with k | k
    · exact .inl ⟨k, mq9 ndP hp hu k⟩
    · obtain ⟨c, e⟩ := oqD (n := s.heap.objs.size + 1) k
      refine .inr ⟨.inl k, c, e, ?_⟩
      have q := x.cell y c e
      rw [mqv ndP hp hu (by show scope.names.lookup y ≠ _; rw [k]; decide)] at q
      exact q
  · exact e0.hok.fresh (Nat.le_of_lt (x.above y c (PySem.mem_of_lookup h)))
  · unfold start
    show _ = N.length
    rw [List.length_append, List.length_map, List.length_replicate]
    omega
theorem tqD {CX : CXT} {P : Program} {w : World} {K : PySem.W.Frag} {mg : Str → Option Value} {base : Heap} {k : Nat} {f : Addr} {name qual : Str} {params : Arguments} {body : List Stmt} {scope : Scope} {dV kV doc pm cdv ct oc : Value} {an od : Option Addr}
    {osl : Array (Option Value)} {N ps : List Str} {sp : Sp} (lk : K.lookup f = some ⟨oc, od, .func (PySem.W.fnOf name qual params body scope dV kV doc pm an cdv ct), osl⟩) (hcd : PySem.W.codeIn K cdv qual = true) (S : FnScope N ps scope)
    (len : ∀ vs H Q E, sp vs H Q E → vs.length = ps.length)
    (hbody : ∀ (A : Around) (outer : List Env) (s : Shared) (H : Hp) (vs : List V) (Q : VK) (E : XK), Room k (A.deeper (envOfC qual scope s.heap.objs.size f cdv)) → sp vs H Q E →
      ∃ t, PSs (cxOf CX P w K mg base N qual scope f cdv A outer s H E) body t ∧ t { nx := fun _ H' => Q .non H', rt := Q } (start N vs) H) :
    FnOk P w K mg base CX (k + 1) f (PySem.W.fnOf name qual params body scope dV kV doc pm an cdv ct) ps sp := by
  refine ⟨len, fun A outer s H args us vs Q E hr e0 hb r hsp => ?_⟩
  have hl := len _ _ _ _ hsp
  have KX : K.In s.heap := e0.mod.kin.keeps fun b o e => (e0.bs b o e).1
  have lim : s.heap.NoLimit := e0.mod.nolimit.keeps fun b o e => (e0.bs b o e).1
  have hkind : ∀ y ∈ ps.zip us, scope.names.lookup y.1 = some .local ∨ (scope.names.lookup y.1 = some .cell ∧ ((cellsFrom (s.heap.objs.size + 1) scope.names []).lookup y.1).isSome = true) := fun ⟨n, v⟩ hy => by
    rcases S.par n (List.of_mem_zip hy).1 with q | q
    · exact .inl q
    · exact .inr ⟨q, PySem.W.cellsFrom_some _ _ _ (.inl q)⟩
  refine codeAny_call_function hr.depth (KX _ _ lk) rfl S.co S.gen rfl (PySem.W.codeRec_of KX hcd) (hb _ _ _ _ ?_)
  refine wpAny_newFunctionEnv_cells S.kind hkind fun env he s1 x => ?_
  subst he
  refine ⟨lim.keeps x.toInCall.keep, codeAny_func ?_⟩
  obtain ⟨t, ht, hq⟩ := hbody A outer s H vs Q E (hr.deeper _) hsp
  have I : Inv (cxOf CX P w K mg base N qual scope f cdv A outer s H E) [] (start N vs) H s1 := qqv S hr.hd e0 hl r x
  refine wpAny_mono (ht [] s1 (start N vs) H _ I hq) (fun fl s' hs => ?_) fun e s' hs => hs
  have fin : ∀ {σ' : St} {H' : Hp} {v : V} {u : Value}, Inv (cxOf CX P w K mg base N qual scope f cdv A outer s H E) [] σ' H' s' → RelV v u → Q v H' → CE outer P w H s Q u s' :=
    fun {σ' H' v u} J rv q => ⟨v, H', J.os, J.bare, J.base, J.hok, rv, q⟩
  cases fl with
  | ret u =>
    obtain ⟨v, σ', H', J, rv, q⟩ := hs
    exact fin J rv q
  | next =>
    obtain ⟨σ', H', J, q⟩ := hs
    exact fin (v := V.non) (u := Value.none) J rfl q
  | brk =>
    obtain ⟨_, _, _, q⟩ := hs
    exact False.elim q
  | cont =>
    obtain ⟨_, _, _, q⟩ := hs
    exact False.elim q
end L2
namespace L2
open PySem PySem.Spec PyProof.Rows
section
variable {X : Cx} {x : Str} {p pos : Pos} {e : Expr} {es : List Expr} {t : TA} {id T : String} {r : List V → Hp → VK → Prop}
def tCB (r : List V → Hp → VK → Prop) (t : TA) : TE := fun σ H Q => t σ H fun vs H1 => r vs H1 Q
theorem aqY (hc : CallR X (.builtin id) r) (hg : Gl X x) (hm : X.mg x = none) (hv : bootBuiltins x = some (.builtin id)) (ha : PA X (e :: es) t) (hn : x ≠ "__name__" := by decide) (hdb : (x == ("__debug__" : Str)) = false := by decide)
    (he : starEach (e :: es) X.env = (false, eval e X.env) :: starEach es X.env := by rfl) (hpl : (backTo pos (starEach es X.env)).any (·.1) = false := by rfl) : PE X (.Call (.Name x p) (e :: es) [] pos) (tCB r t) := by
  intro pins s σ H Q I h
  refine wpAny_Call_Name_kw (nqQ I hg hm hv ?_ hn hdb)
  exact PyProof.Rows.callWith_builtin1 (thn (ha pos pins s σ H _ I h) fun us s1 ⟨vs, H1, I1, r1, q1⟩ => hc pins s1 σ H1 vs us Q I1 r1 q1) he hpl
theorem bqL (hc : CallR X (.type T) r) (hg : Gl X x) (hm : X.mg x = none) (hv : bootBuiltins x = some (.type T)) (ha : PA X (e :: es) t) (hn : x ≠ "__name__" := by decide) (hdb : (x == ("__debug__" : Str)) = false := by decide)
    (he : starEach (e :: es) X.env = (false, eval e X.env) :: starEach es X.env := by rfl) (hpl : (backTo pos (starEach es X.env)).any (·.1) = false := by rfl) : PE X (.Call (.Name x p) (e :: es) [] pos) (tCB r t) := by
  intro pins s σ H Q I h
  refine wpAny_Call_Name_kw (nqQ I hg hm hv ?_ hn hdb)
  exact PyProof.Rows.callWith_type1 (thn (ha pos pins s σ H _ I h) fun us s1 ⟨vs, H1, I1, r1, q1⟩ => hc pins s1 σ H1 vs us Q I1 r1 q1) he hpl
end
end L2
namespace HT
open PySem PyProof.Rows
section
open PySem.SeqAt
open PySem.AutoSeq1 (wpAny_loadPart')
open PySem.MeetsSeq PySem.MeetsSeq2 PySem.MeetsSeq3
end
section
variable {prog : Program} {w : World} {A : Around} {E : Value → Shared → Prop} {s : Shared}
theorem cat_tup {t b : Addr} {vs ws : List Value} {Q : Value → Shared → Prop} (ht : IsTup s.heap t vs.toArray) (hb : IsTup s.heap b ws.toArray) (hv : vs ≠ [])
    (h1 : ws = [] → Q (.ref t) s) (h2 : ws ≠ [] → Q (.ref s.heap.objs.size) { s with heap := s.heap.push { cls := .type "tuple", data := .seq (vs ++ ws).toArray } })
    (hsz : vs.length + ws.length ≤ sizeLine) : wpAny (model prog w) A (binaryOp .Add (.ref t) (.ref b)) Q E s := by
  obtain ⟨⟨cls, dd, data, sl⟩, ho, hc, n, hd⟩ := id ht
  obtain ⟨⟨cls2, dd2, data2, sl2⟩, ho2, hc2, n2, hd2⟩ := id hb
  simp only at hc hd hc2 hd2
  subst hc hd hc2 hd2
  have e : vs.toArray ++ ws.toArray = (vs ++ ws).toArray := by simp
  by_cases hw : ws = []
  · exact concat_meets ⟨_, ho, rfl⟩ ⟨_, ho2, rfl⟩ noFill_tuple_add seq_tuple_add PySem.F.slot_tuple_add PySem.F.entry_tuple_add (PySem.F.args_tuple_add_2 _ _)
      (tuple_addW1 t b vs.toArray ws.toArray n n2 dd dd2 sl sl2 (by simpa using hv) (by simp [hw])) ⟨ho, ho2, h1 hw⟩
  · refine concat_meets ⟨_, ho, rfl⟩ ⟨_, ho2, rfl⟩ noFill_tuple_add seq_tuple_add PySem.F.slot_tuple_add PySem.F.entry_tuple_add (PySem.F.args_tuple_add_2 _ _)
      (tuple_addW2 t b vs.toArray ws.toArray n n2 dd dd2 sl sl2 (by simpa using hv) (by simpa using hw) (by rw [List.size_toArray, List.size_toArray]; exact hsz)) ⟨ho, ho2, ?_⟩
    rw [e]
    exact h2 hw
def sIx (n d : Nat) : Option Int → Nat
  | none => d
  | some v => if v < 0 then (v + (n : Int)).toNat else min v.toNat n
theorem sIx_nat (n d k : Nat) : sIx n d (some (k : Int)) = min k n := by
  show (if (k : Int) < 0 then ((k : Int) + (n : Int)).toNat else min (k : Int).toNat n) = min k n
  rw [if_neg (by omega), Int.toNat_natCast]
theorem vqN (n d : Nat) (hd : d ≤ n) (o : Option Int) : sIx n d o ≤ n := by
  cases o with
  | none => exact hd
  | some v =>
    show (if v < 0 then (v + (n : Int)).toNat else min v.toNat n) ≤ n
    by_cases hv : v < 0
    · rw [if_pos hv]; omega
    · rw [if_neg hv]; exact Nat.min_le_right _ _
theorem qqD (v : Int) (n d : Nat) : (if v < 0 then max (v + (n : Int)) 0 else min v (n : Int)) = ((sIx n d (some v) : Nat) : Int) := by
  show (if v < 0 then max (v + (n : Int)) 0 else min v (n : Int)) = (((if v < 0 then (v + (n : Int)).toNat else min v.toNat n) : Nat) : Int)
  by_cases hv : v < 0
  · simp only [if_pos hv]; omega
  · simp only [if_neg hv]; omega
theorem oqZ (lo hi : Option Int) (n : Nat) : Builtin.Slice.sliceAdjust lo hi 1 (n : Int) = (((sIx n 0 lo : Nat) : Int), ((sIx n n hi : Nat) : Int)) := by
  have h1 : ¬ ((1 : Int) < 0) := by omega
  unfold Builtin.Slice.sliceAdjust
  simp only [h1, if_false]
  refine Prod.ext ?_ ?_
  · cases lo with
    | none => rfl
    | some v => exact qqD v n 0
  · cases hi with
    | none => rfl
    | some v => exact qqD v n n
theorem oqM (i j : Nat) : Builtin.Slice.slicePlaces (i : Int) (j : Int) 1 = j - i := by
  unfold Builtin.Slice.slicePlaces
  have h1 : (1 : Int) > 0 := by omega
  simp only [h1, if_true, Int.ediv_one]
  split <;> omega
theorem kqU {v : Value} {o : Option Int} {Q : Option Int → Shared → Prop} (p : IsPart v o) (h : Q o s) : wpAny (model prog w) A (Builtin.Slice.slicePartIndex v) Q E s := by
  cases p with
  | none => exact slicePart_none h
  | int i t => exact slicePart_int h
theorem fqP {sl : Addr} {vl vu : Value} {lo hi : Option Int} {n : Nat} {Q : Int × Int × Nat → Shared → Prop} (hs : s.heap.IsSliceOf sl vl vu .none) (pl : IsPart vl lo) (pu : IsPart vu hi)
    (h : Q (((sIx n 0 lo : Nat) : Int), 1, sIx n n hi - sIx n 0 lo) s) : wpAny (model prog w) A (Builtin.Slice.sliceApplied (.ref sl) (pure (n : Int))) Q E s := by
  obtain ⟨os, hos, hcs, hds⟩ := id hs
  unfold Builtin.Slice.sliceApplied Builtin.Slice.sliceFields
  refine wpAny_bind (wpAny_bind (wpAny_field hos hds (x := vl) rfl (wpAny_bind (wpAny_field hos hds (x := vu) rfl (wpAny_bind (wpAny_field hos hds (x := .none) rfl (wpAny_pure ?_)))))))
  refine wpAny_bind (slicePart_none ?_)
  show wpAny _ _ (if ((1 : Int) == 0) = true then _ else _) _ _ s
  rw [if_neg (by decide)]
  refine wpAny_bind (kqU pl (wpAny_bind (kqU pu (wpAny_bind (wpAny_pure ?_)))))
  show wpAny _ _ (match Builtin.Slice.sliceAdjust lo hi 1 (n : Int) with | (lo, hi) => pure (lo, (1 : Int), Builtin.Slice.slicePlaces lo hi 1)) _ _ s
  rw [oqZ lo hi n]
  show wpAny _ _ (pure (((sIx n 0 lo : Nat) : Int), (1 : Int), Builtin.Slice.slicePlaces ((sIx n 0 lo : Nat) : Int) ((sIx n n hi : Nat) : Int) 1)) _ _ s
  rw [oqM]
  exact wpAny_pure h
theorem rqK (xs : Array Value) (i k : Nat) : ((List.range k).filterMap fun (m : Nat) => xs[((i : Int) + (m : Int) * 1).toNat]?).toArray = ((xs.toList.drop i).take k).toArray := by
  have e : (fun (m : Nat) => xs[((i : Int) + (m : Int) * 1).toNat]?) = fun m => xs[i + m]? := by
    funext m
    have : ((i : Int) + (m : Int) * 1).toNat = i + m := by omega
    rw [this]
  rw [e]
  have := pick_run xs i k
  rw [List.filterMap_map] at this
  have e2 : ((fun x => xs[x]?) ∘ fun x => i + x) = fun m => xs[i + m]? := rfl
  rw [e2] at this
  rw [this]
theorem getItem_tuple_cut {t sl : Addr} {items : Array Value} {vl vu : Value} {lo hi : Option Int} {Q : Value → Shared → Prop} (ht : IsTup s.heap t items) (hs : s.heap.IsSliceOf sl vl vu .none) (pl : IsPart vl lo) (pu : IsPart vu hi)
    (hw : ¬ (sIx items.size 0 lo = 0 ∧ sIx items.size items.size hi = items.size))
    (h : Q (.ref s.heap.objs.size) { s with heap := s.heap.push { cls := .type "tuple", data := .seq ((items.toList.drop (sIx items.size 0 lo)).take (sIx items.size items.size hi - sIx items.size 0 lo)).toArray } })
    (hsz : items.size ≤ sizeLine) : wpAny (model prog w) A (getItem (.ref t) (.ref sl)) Q E s := by
  have htake : sizeOk (.seq ((items.toList.drop (sIx items.size 0 lo)).take (sIx items.size items.size hi - sIx items.size 0 lo)).toArray) := by
    show ((items.toList.drop (sIx items.size 0 lo)).take (sIx items.size items.size hi - sIx items.size 0 lo)).toArray.size ≤ sizeLine
    rw [List.size_toArray, List.length_take, List.length_drop, Array.length_toList]
    omega
  have hj : sIx items.size items.size hi ≤ items.size := vqN _ _ (Nat.le_refl _) hi
  obtain ⟨os, hos, hcs, hds⟩ := id hs
  have hTs : s.TypeIs (.ref sl) "slice" := ⟨os, hos, hcs⟩
  unfold getItem
  try with_reducible refine wpAny_holding ?_
  first | refine wpAny_bind (wpAny_pure ?_) | skip
  refine wpAny_bind (wpAny_sequenceKey ht.typeIs (by decide) ?_)
  refine wpAny_bind (wpAny_callSpecial?_slot (name := Str.ofString "__getitem__") ht.typeIs PyProof.Rows.slot_tuple_getitem
    (wpAny_call_entry PyProof.Rows.slot_tuple_getitem ht.typeIs entry_tuple_getitem ?_ (args_tuple_getitem _ _)))
  show wpAny _ _ (Builtin.Tuple.tupleItemsOf (.ref t) >>= _) _ _ s
  refine wpAny_bind (tupleItemsOf_ ht ?_)
  refine wpAny_bind (wpAny_typeOf hTs ?_)
  rw [if_pos (by decide)]
  refine wpAny_bind (fqP hs pl pu ?_)
  have hno : ¬ ((((sIx items.size 0 lo : Nat) : Int) == 0 && (1 : Int) == 1 && (sIx items.size items.size hi - sIx items.size 0 lo) == items.size) = true) := by
    intro q
    rw [Bool.and_eq_true, Bool.and_eq_true] at q
    have q1 : ((sIx items.size 0 lo : Nat) : Int) = 0 := eq_of_beq q.1.1
    have q2 : sIx items.size items.size hi - sIx items.size 0 lo = items.size := eq_of_beq q.2
    exact hw ⟨by omega, by omega⟩
  show wpAny _ _ (if (((sIx items.size 0 lo : Nat) : Int) == 0 && (1 : Int) == 1 && (sIx items.size items.size hi - sIx items.size 0 lo) == items.size) = true then _ else _) _ _ s
  rw [if_neg hno, rqK]
  first
    | exact wpAny_bind (m := Builtin.Tuple.tupleExact _) (wpAny_newObj_type (wpAny_pure ⟨_, rfl, wpAny_pure h⟩) htake)
    | exact wpAny_bind (m := Builtin.Tuple.tupleExact _) (wpAny_newObj_type (wpAny_bind (wpAny_pure (wpAny_pure ⟨_, rfl, wpAny_pure h⟩))) htake)
    | exact wpAny_bind (wpAny_bind (m := Builtin.Tuple.tupleExact _) (wpAny_newObj_type (wpAny_pure (wpAny_pure ⟨_, rfl, wpAny_pure h⟩)) htake))
    | exact wpAny_bind (wpAny_bind (m := Builtin.Tuple.tupleExact _) (wpAny_newObj_type (wpAny_pure ⟨_, rfl, wpAny_pure h⟩) htake))
end
end HT
namespace L2
open PySem PySem.Spec PyProof.Rows
abbrev TO := St → Hp → (Option Int → Hp → Prop) → Prop
def PO (X : Cx) (e : Option Expr) (t : TO) : Prop :=
  ∀ (pins : List (Addr × Obj)) (s : Shared) (σ : St) (H : Hp) (Q : Option Int → Hp → Prop), Inv X pins σ H s → t σ H Q →
    wpAny (model X.prog X.w) X.A (evalPart e X.env) (fun u s' => ∃ o H', Inv X pins σ H' s' ∧ IsPart u o ∧ Q o H') X.xe s
def tNoPart : TO := fun _ H Q => Q none H
def tPart (t : TE) : TO := fun σ H Q => t σ H fun x H1 => ∃ i, x = .int i ∧ Q (some i) H1
section
variable {X : Cx} {e : Expr} {te : TE} {lo hi : Option Expr} {tl th : TO} {pos p2 : Pos}
theorem dqN : PO X none tNoPart := by
  intro pins s σ H Q I h
  rw [evalPart_none]
  exact wpAny_pure ⟨none, H, I, .none, h⟩
theorem bqR (h : PE X e te) : PO X (some e) (tPart te) := by
  intro pins s σ H Q I hw
  rw [evalPart_some]
  refine thn (h pins s σ H _ I hw) fun u s1 ⟨x, H1, I1, r1, q1⟩ => ?_
  obtain ⟨i, rfl, q⟩ := q1
  obtain ⟨t, rfl⟩ := r1
  exact ⟨some i, H1, I1, .int i t, q⟩
def SlR (X : Cx) (r : V → Option Int → Option Int → Hp → VK → Prop) : Prop :=
  ∀ (pins : List (Addr × Obj)) (s : Shared) (σ : St) (H : Hp) (x : V) (v vl vu : Value) (lo hi : Option Int) (sl : Addr) (Q : VK), Inv X pins σ H s → RelV x v → s.heap.IsSliceOf sl vl vu .none → IsPart vl lo → IsPart vu hi → r x lo hi H Q →
    ∃ T id, typeLookup (.type T) "__getitem__" = pure (some (.builtin id)) ∧ s.TypeIs v T ∧ wpAny (model X.prog X.w) X.A (getItem v (.ref sl)) (EP X pins σ Q) X.xe s
theorem SlR.or {r r' : V → Option Int → Option Int → Hp → VK → Prop} (h : SlR X r) (h' : SlR X r') : SlR X (fun x lo hi H Q => r x lo hi H Q ∨ r' x lo hi H Q) := by
  intro pins s σ H x v vl vu lo hi sl Q I rx hs pl pu q
  rcases q with q | q
  · exact h pins s σ H x v vl vu lo hi sl Q I rx hs pl pu q
  · exact h' pins s σ H x v vl vu lo hi sl Q I rx hs pl pu q
def tSl (r : V → Option Int → Option Int → Hp → VK → Prop) (te : TE) (tl th : TO) : TE := fun σ H Q => te σ H fun x H1 => tl σ H1 fun l H2 => th σ H2 fun u H3 => r x l u H3 Q
theorem bqB {r : V → Option Int → Option Int → Hp → VK → Prop} (hr : SlR X r) (he : PE X e te) (hl : PO X lo tl) (hu : PO X hi th) : PE X (.Subscript e (.Slice lo hi none p2) pos) (tSl r te tl th) := by
  intro pins s σ H Q I h
  refine Subscript_ (thn (he pins s σ H _ I h) fun v s1 ⟨x, H1, I1, r1, q1⟩ => ?_)
  refine wpAny_Slice (thn (hl pins s1 σ H1 _ I1 q1) fun vl s2 ⟨l, H2, I2, pl, q2⟩ => thn (hu pins s2 σ H2 _ I2 q2) fun vu s3 ⟨u, H3, I3, pu, q3⟩ => ?_)
  rw [evalPart_none]
  refine wpAny_pure ?_
  have I4 : Inv X pins σ H3 { s3 with heap := s3.heap.push { cls := .type "slice", data := .fields #[vl, vu, .none] } } := I3.kept (t' := s3.toks) fun b ob q => Heap.get?_push_of_some _ q
  obtain ⟨T, id, hT, ht, hg⟩ := hr pins { s3 with heap := s3.heap.push { cls := .type "slice", data := .fields #[vl, vu, .none] } } σ H3 x v vl vu l u s3.heap.objs.size Q I4 r1 (Heap.IsSliceOf.new ..) pl pu q3
  show wpAny (model X.prog X.w) X.A (subscriptTail e (.Slice lo hi none p2) v (.ref s3.heap.objs.size)) (EP X pins σ Q) X.xe { s3 with heap := s3.heap.push { cls := .type "slice", data := .fields #[vl, vu, .none] } }
  exact tail_any (ops := [.ref s3.heap.objs.size, v]) ht hT hg (by with_unfolding_all rfl)
def cutV (xs : List V) (lo hi : Option Int) : List V := (xs.drop (HT.sIx xs.length 0 lo)).take (HT.sIx xs.length xs.length hi - HT.sIx xs.length 0 lo)
theorem jqO (xs : List V) (lo hi : Option Int) : (cutV xs lo hi).length ≤ xs.length := by
  unfold cutV
  rw [List.length_take, List.length_drop]
  omega
def rSlT (K : PySem.W.Frag) : V → Option Int → Option Int → Hp → VK → Prop := fun x lo hi H Q => ∃ a xs, x = .ref a ∧ SqT K H a xs ∧
  ¬ (HT.sIx xs.length 0 lo = 0 ∧ HT.sIx xs.length xs.length hi = xs.length) ∧ ∀ p, H p = none → Q (.ref p) (upd H p (.tup (cutV xs lo hi)))
theorem vqP : SlR X (rSlT X.K) := by
  intro pins s σ H x v vl vu lo hi sl Q I rx hs pl pu h
  obtain ⟨a, xs, rfl, hx, hw, q⟩ := h
  cases rx
  obtain ⟨its, r, ht, hz⟩ := I.tuple hx
  have hlen : its.toArray.size = xs.length := by rw [List.size_toArray]; exact r.length.symm
  refine ⟨"tuple", _, PyProof.Rows.slot_tuple_getitem.lookup, ht.typeIs, ?_⟩
  refine HT.getItem_tuple_cut ht hs pl pu (by rw [hlen]; exact hw) ?_ (by rw [hlen]; exact hz)
  rw [hlen]
  refine ⟨.ref s.heap.objs.size, _, I.laid (t' := s.toks) (o := .tup (cutV xs lo hi)) (fun b ob q => Heap.get?_push_of_some _ q) (Nat.le_refl _) ?_, rfl, q _ (I.hok.fresh (Nat.le_refl _))⟩
  exact ⟨Nat.le_trans (jqO xs lo hi) hz, _, (r.drop (HT.sIx xs.length 0 lo)).take (HT.sIx xs.length xs.length hi - HT.sIx xs.length 0 lo), IsTup.new _ _⟩
def rCatT (K : PySem.W.Frag) : R2 := fun x y H Q => ∃ a b xs ys, x = .ref a ∧ y = .ref b ∧ SqT K H a xs ∧ SqT K H b ys ∧ xs ≠ [] ∧ xs.length + ys.length ≤ sizeLine ∧
  (ys = [] → Q (.ref a) H) ∧ (ys ≠ [] → ∀ p, H p = none → Q (.ref p) (upd H p (.tup (xs ++ ys))))
theorem Vals.nil_iff {xs : List V} {us : List Value} (r : Vals xs us) : us = [] ↔ xs = [] := by
  cases r with
  | nil => simp
  | cons _ _ => simp
theorem qqT : OpR X (binaryOp .Add) (rCatT X.K) := by
  intro pins s σ H x y v u Q I rx ry h
  obtain ⟨a, b, xs, ys, rfl, rfl, ha, hb, hx, hz, q1, q2⟩ := h
  cases rx
  cases ry
  obtain ⟨its, r1, p1, _⟩ := I.tuple ha
  obtain ⟨its2, r2, p2, _⟩ := I.tuple hb
  refine HT.cat_tup p1 p2 (fun z => hx (r1.nil_iff.mp z)) (fun z => ⟨.ref a, H, I, rfl, q1 (r2.nil_iff.mp z)⟩) (fun z => ?_) (by rw [← r1.length, ← r2.length]; exact hz)
  refine ⟨.ref s.heap.objs.size, _, I.laid (t' := s.toks) (o := .tup (xs ++ ys)) (fun b ob q => Heap.get?_push_of_some _ q) (Nat.le_refl _) ?_, rfl, q2 (fun w => z (r2.nil_iff.mpr w)) _ (I.hok.fresh (Nat.le_refl _))⟩
  exact ⟨by rw [List.length_append]; exact hz, _, r1.append r2, IsTup.new _ _⟩
end
end L2
namespace L2
open PySem PySem.Spec PyProof.Rows
def ixN (n : Nat) (i : Int) : Option Nat := if 0 ≤ i then (if i < n then some i.toNat else none) else if -(n : Int) ≤ i then some (i + n).toNat else none
def atI {α : Type} (xs : List α) (i : Int) : Option α := (ixN xs.length i).bind fun j => xs[j]?
theorem uqF {n : Nat} {i : Int} {j : Nat} (h : ixN n i = some j) : seqIndex? i n = some j ∧ j < n ∧ -(n : Int) ≤ i ∧ i < n := by
  unfold ixN at h
  by_cases h0 : 0 ≤ i
  · rw [if_pos h0] at h
    by_cases h1 : i < n
    · rw [if_pos h1] at h
      have e : i.toNat = j := Option.some.inj h
      exact ⟨by rw [seqIndex_of h0 h1, e], by omega, by omega, h1⟩
    · rw [if_neg h1] at h; cases h
  · rw [if_neg h0] at h
    by_cases h1 : -(n : Int) ≤ i
    · rw [if_pos h1] at h
      have e : (i + n).toNat = j := Option.some.inj h
      exact ⟨by rw [seqIndex_neg (by omega) h1, e], by omega, h1, by omega⟩
    · rw [if_neg h1] at h; cases h
theorem nqB {α : Type} {xs : List α} {i : Int} {v : α} (h : atI xs i = some v) : ∃ j, seqIndex? i xs.length = some j ∧ xs[j]? = some v ∧ j < xs.length ∧ -(xs.length : Int) ≤ i ∧ i < xs.length := by
  unfold atI at h
  cases e : ixN xs.length i with
  | none => rw [e] at h; cases h
  | some j =>
    rw [e] at h
    obtain ⟨h1, h2, h3, h4⟩ := uqF e
    exact ⟨j, h1, h, h2, h3, h4⟩
theorem cqs {α : Type} {xs : List α} {j : Nat} {v : α} (h : xs[j]? = some v) : atI xs (j : Int) = some v := by
  have hj : j < xs.length := (List.getElem?_eq_some_iff.mp h).1
  have e : ixN xs.length (j : Int) = some j := by
    unfold ixN
    rw [if_pos (by omega), if_pos (by omega)]; simp
  unfold atI; rw [e]; exact h
def PlainIx (b : Expr) : Prop := ∀ o i, subscripted b false o i = operate [o, i] (getItem o i)
def IxR (X : Cx) (r : R2) : Prop :=
  ∀ (value slice : Expr) (pins : List (Addr × Obj)) (s : Shared) (σ : St) (H : Hp) (x y : V) (v u : Value) (Q : VK), Inv X pins σ H s → RelV x v → RelV y u → r x y H Q →
    subscripted slice false v u = operate [v, u] (getItem v u) → wpAny (model X.prog X.w) X.A (subscriptTail value slice v u) (EP X pins σ Q) X.xe s
def MtR (X : Cx) (id : String) (r : V → List V → Hp → VK → Prop) : Prop :=
  ∀ (pins : List (Addr × Obj)) (s : Shared) (σ : St) (H : Hp) (x : V) (xs : List V) (v : Value) (us : List Value) (Q : VK), Inv X pins σ H s → RelV x v → Vals xs us → r x xs H Q →
    wpAny (model X.prog X.w) X.A (call (.builtin id) (v :: us)) (EP X pins σ Q) X.xe s
section
variable {X : Cx} {a b : Expr} {ta tb : TE} {pos : Pos}
theorem IxR.or {r r' : R2} (h : IxR X r) (h' : IxR X r') : IxR X (fun x y H Q => r x y H Q ∨ r' x y H Q) := by
  intro value slice pins s σ H x y v u Q I rx ry q hs
  rcases q with q | q
  · exact h value slice pins s σ H x y v u Q I rx ry q hs
  · exact h' value slice pins s σ H x y v u Q I rx ry q hs
theorem aq3 {r : R2} (hr : IxR X r) (ha : PE X a ta) (hb : PE X b tb) (hs : PlainIx b) : PE X (.Subscript a b pos) (tOp r ta tb) := by
  intro pins s σ H Q I h
  exact Subscript_ (binT ha hb I h fun v u s2 x y H2 I2 rx ry q => hr a b pins s2 σ H2 x y v u Q I2 rx ry q (hs _ _))
def rIxL (K : PySem.W.Frag) : R2 := fun x y H Q => ∃ p xs i v, x = .ref p ∧ y = .int i ∧ SqL K H p xs ∧ atI xs i = some v ∧ Q v H
def rIxT (K : PySem.W.Frag) : R2 := fun x y H Q => ∃ p xs i v, x = .ref p ∧ y = .int i ∧ SqT K H p xs ∧ atI xs i = some v ∧ Q v H
def rIxS : R2 := fun x y H Q => ∃ z i c, x = .str z ∧ y = .int i ∧ z.length ≤ sizeLine ∧ atI z.cps.toList i = some c ∧ Q (.str ⟨#[c]⟩) H
theorem tq5 : IxR X (rIxL X.K) := by
  intro value slice pins s σ H x y v u Q I rx ry h hs
  obtain ⟨p, xs, i, z, rfl, rfl, hq, he, q⟩ := h
  cases rx
  obtain ⟨t, rfl⟩ := ry
  obtain ⟨its, r, pl, hz⟩ := I.list hq
  obtain ⟨j, h1, h2, h3, h4, h5⟩ := nqB he
  obtain ⟨w, ew, rw'⟩ := r.get h2
  have hl := r.length
  have hn := line63
  have fin : EP X pins σ Q w s := ⟨z, H, I, rw', q⟩
  by_cases h0 : 0 ≤ i
  · have hj : i.toNat = j := by
      rw [seqIndex_of h0 h5] at h1
      exact Option.some.inj h1
    exact item_listR pl.isList h0 (by omega) (by rw [hj]; simpa using ew) fin hs
  · have hj : (i + (its.toArray.size : Int)).toNat = j := by
      rw [seqIndex_neg (by omega) h4] at h1
      rw [List.size_toArray, ← hl]
      exact Option.some.inj h1
    exact subscriptTail_builtinR (x := w) pl.isList.typeIs slot_list_getitem.lookup
      (wpAny_getItem_list_neg (Q := fun r s' => r = w ∧ EP X pins σ Q r s') pl.isList (by omega) (by rw [List.size_toArray] <;> omega) (by omega) (by rw [hj]; simpa using ew) ⟨rfl, fin⟩) hs
theorem wqy : IxR X (rIxT X.K) := by
  intro value slice pins s σ H x y v u Q I rx ry h hs
  obtain ⟨p, xs, i, z, rfl, rfl, hq, he, q⟩ := h
  cases rx
  obtain ⟨t, rfl⟩ := ry
  obtain ⟨its, r, pl, hz⟩ := I.tuple hq
  obtain ⟨j, h1, h2, h3, h4, h5⟩ := nqB he
  obtain ⟨w, ew, rw'⟩ := r.get h2
  have hl := r.length
  have hn := line63
  have fin : EP X pins σ Q w s := ⟨z, H, I, rw', q⟩
  exact subscriptTail_builtinR (x := w) pl.typeIs slot_tuple_getitem.lookup
    (getItem_tuple (j := j) (Q := fun r s' => r = w ∧ EP X pins σ Q r s') pl (by omega) (by omega) (by rw [List.size_toArray, ← hl]; exact h1) (by simpa using ew) ⟨rfl, fin⟩) hs
theorem vq4 : IxR X rIxS := by
  intro value slice pins s σ H x y v u Q I rx ry h hs
  obtain ⟨z, i, c, rfl, rfl, hz, he, q⟩ := h
  obtain ⟨t, rfl⟩ := rx
  obtain ⟨t', rfl⟩ := ry
  obtain ⟨j, h1, h2, h3, h4, h5⟩ := nqB he
  have hl : z.cps.toList.length = z.length := by simp [Str.length]
  rw [hl] at h1 h4 h5
  have hn := line63
  exact tail_any (typeIs_str s z t) slot_str_getitem.lookup (getItem_str (c := c) (by
    have e1 : decide (i < -(2 ^ 63 : Int)) = false := decide_eq_false (by omega)
    have e2 : decide (i ≥ 2 ^ 63) = false := decide_eq_false (by omega)
    rw [e1, e2, Bool.or_false]) (by rw [h1]; simpa using h2) ⟨.str ⟨#[c]⟩, H, I.tok _, ⟨_, rfl⟩, q⟩) hs
def rIx (K : PySem.W.Frag) : R2 := fun x y H Q => rIxL K x y H Q ∨ rIxT K x y H Q ∨ rIxS x y H Q
theorem vqi : IxR X (rIx X.K) := tq5.or (wqy.or vq4)
def rSetL : V → V → V → Hp → (Hp → Prop) → Prop := fun o i v H Q => ∃ p xs k j, o = .ref p ∧ i = .int k ∧ H p = some (.lst xs) ∧ ixN xs.length k = some j ∧ Q (upd H p (.lst (xs.set j v)))
theorem lq4 (lo hi : Option Int) (n : Nat) : (sliceBounds lo hi none n).1 = ((HT.sIx n 0 lo : Nat) : Int) ∧ (sliceBounds lo hi none n).2.1 = ((HT.sIx n n hi : Nat) : Int) ∧ (sliceBounds lo hi none n).2.2 = 1 := by
  refine ⟨?_, ?_, rfl⟩
  · cases lo with
    | none => simp [sliceBounds, HT.sIx]
    | some i =>
      simp only [sliceBounds, HT.sIx, Option.getD_none, show (1 : Int) > 0 by decide, if_true]
      by_cases h : i < 0
      · simp only [h, if_true] <;> omega
      · simp only [h, if_false] <;> omega
  · cases hi with
    | none => simp [sliceBounds, HT.sIx]
    | some i =>
      simp only [sliceBounds, HT.sIx, Option.getD_none, show (1 : Int) > 0 by decide, if_true]
      by_cases h : i < 0
      · simp only [h, if_true] <;> omega
      · simp only [h, if_false] <;> omega
theorem lqk (its : List Value) (lo hi : Option Int) : slicePick its.toArray lo hi none = ((its.drop (HT.sIx its.length 0 lo)).take (HT.sIx its.length its.length hi - HT.sIx its.length 0 lo)).toArray := by
  obtain ⟨h1, h2, h3⟩ := lq4 lo hi its.toArray.size
  unfold slicePick
  rw [h1, h2, h3]
  simp only [sliceRange_one, pick_run, List.size_toArray] <;> rfl
def rSlL (K : PySem.W.Frag) : V → Option Int → Option Int → Hp → VK → Prop := fun x lo hi H Q => ∃ a xs, x = .ref a ∧ SqL K H a xs ∧ ∀ p, H p = none → Q (.ref p) (upd H p (.lst (cutV xs lo hi)))
theorem tqG : SlR X (rSlL X.K) := by
  intro pins s σ H x v vl vu lo hi sl Q I rx hs pl pu h
  obtain ⟨a, xs, rfl, hx, q⟩ := h
  cases rx
  obtain ⟨its, r, ht, hz⟩ := I.list hx
  have hlen := r.length
  refine ⟨"list", _, slot_list_getitem.lookup, ht.isList.typeIs, ?_⟩
  refine wpAny_getItem_list_slice ht.isList hs pl pu .none (by simp) ?_ (by rw [List.size_toArray] <;> omega)
  rw [lqk, ← hlen]
  refine ⟨.ref s.heap.objs.size, _, I.laid (t' := s.toks) (o := .lst (cutV xs lo hi)) (fun b ob q => Heap.get?_push_of_some _ q) (Nat.le_refl _) ?_, rfl, q _ (I.hok.fresh (Nat.le_refl _))⟩
  exact ⟨Nat.le_trans (jqO xs lo hi) hz, _, 0, (r.drop (HT.sIx xs.length 0 lo)).take (HT.sIx xs.length xs.length hi - HT.sIx xs.length 0 lo), Heap.get?_push_size _ rfl⟩
theorem mqi : CallR X (.builtin "len") (fun xs H Q => ∃ p ys, xs = [.ref p] ∧ (SqL X.K H p ys ∨ SqT X.K H p ys) ∧ Q (.int ys.length) H) := by
  intro pins s σ H xs us Q I r h
  obtain ⟨p, ys, rfl, hq, q⟩ := h
  obtain ⟨u, rfl, rx⟩ := vals1 r
  cases rx
  have hn := line63
  rcases hq with hq | hq
  · obtain ⟨its, r', pl, hz⟩ := I.list hq
    have hlen := r'.length
    exact Calls.call_len_list pl.isList (by simp only [List.size_toArray] <;> omega) ⟨.int ys.length, H, I.tok _, ⟨s.toks + 1, by rw [List.size_toArray, hlen]⟩, q⟩
  · obtain ⟨its, r', pl, hz⟩ := I.tuple hq
    have hlen := r'.length
    exact len_tuple pl (by simp only [List.size_toArray] <;> omega) ⟨.int ys.length, H, I.tok _, ⟨s.toks + 1, by rw [List.size_toArray, hlen]⟩, q⟩
theorem mqc : CallR X (.builtin "len") (fun xs H Q => ∃ z, xs = [.str z] ∧ z.length ≤ sizeLine ∧ Q (.int z.length) H) := by
  intro pins s σ H xs us Q I r h
  obtain ⟨z, rfl, hz, q⟩ := h
  obtain ⟨u, rfl, t, rfl⟩ := vals1 r
  have hn := line63
  exact len_str (by omega) ⟨.int z.length, H, I.tok _, ⟨_, rfl⟩, q⟩
theorem hqv : CallR X (.type "tuple") (fun xs H Q => ∃ p ys, xs = [.ref p] ∧ ((SqL X.K H p ys ∧ ∀ l, H l = none → Q (.ref l) (upd H l (.tup ys))) ∨ (SqT X.K H p ys ∧ Q (.ref p) H))) := by
  intro pins s σ H xs us Q I r h
  obtain ⟨p, ys, rfl, h⟩ := h
  obtain ⟨u, rfl, rx⟩ := vals1 r
  cases rx
  rcases h with ⟨hq, q⟩ | ⟨hq, q⟩
  · obtain ⟨its, r', pl, hz⟩ := I.list hq
    have hlen := r'.length
    refine call_tuple_list pl.isList (fun h' kp => ?_) (by simp only [List.size_toArray] <;> omega)
    have I1 : Inv X pins σ H { s with heap := h' } := I.kept (t' := s.toks) kp
    have I2 : Inv X pins σ (upd H h'.objs.size (.tup ys)) { s with heap := h'.push { cls := .type "tuple", data := .seq its.toArray } } :=
      I1.laid (t' := s.toks) (fun b o e => Heap.get?_push_of_some _ e) (Nat.le_refl _) (show ObjOk X.prog X.w _ _ _ (.tup ys) from ⟨hz, its, r', IsTup.new _ _⟩)
    exact ⟨.ref h'.objs.size, _, I2, rfl, q _ (I1.hok.fresh (Nat.le_refl _))⟩
  · obtain ⟨its, r', pl, hz⟩ := I.tuple hq
    exact call_tuple_same pl ⟨.ref p, H, I, rfl, q⟩
def tyV (K : PySem.W.Frag) (T : String) (x : V) (H : Hp) : Prop := match x with
  | .str _ => T = "str"
  | .int _ => T = "int"
  | .ref p => (T = "list" ∧ ∃ xs, SqL K H p xs) ∨ (T = "tuple" ∧ ∃ o, K.lookup p = some o ∧ o.cls = .type "tuple" ∧ o.dict = none) ∨
      (T = "dict" ∧ ((∃ kvs, H p = some (.dK kvs)) ∨ ∃ kvs, H p = some (.dT kvs))) ∨ (T = "set" ∧ ∃ S n, H p = some (.set S n))
  | _ => False
theorem sqW {pins : List (Addr × Obj)} {σ : St} {H : Hp} {s : Shared} {T : String} {x : V} {v : Value} (I : Inv X pins σ H s) (r : RelV x v) (ty : tyV X.K T x H) :
    s.TypeIs v T ∧ ∀ a, v = .ref a → ∃ ob, s.heap.get? a = some ob ∧ ob.dict = none := by
  cases x with
  | str z =>
    obtain ⟨t, rfl⟩ := r
    cases (show T = "str" from ty)
    exact ⟨typeIs_str s z t, fun _ e => nomatch e⟩
  | int i =>
    obtain ⟨t, rfl⟩ := r
    cases (show T = "int" from ty)
    exact ⟨typeIs_int s i t, fun _ e => nomatch e⟩
  | ref p =>
    cases r
    rcases ty with ⟨rfl, xs, hq⟩ | ⟨rfl, o, hk, hc, hd⟩ | ⟨rfl, hk⟩ | ⟨rfl, S, n, hk⟩
    · obtain ⟨its, _, pl, _⟩ := I.list hq
      refine ⟨pl.isList.typeIs, fun a e => ?_⟩
      cases e
      obtain ⟨o, n, e, c, hd, _⟩ := pl
      exact ⟨o, e, hd⟩
    · refine ⟨⟨o, I.kIn p o hk, hc⟩, fun a e => ?_⟩
      cases e
      exact ⟨o, I.kIn _ o hk, hd⟩
    · have z : ∃ o, s.heap.get? p = some o ∧ o.ExactDict := by
        rcases hk with ⟨kvs, hk⟩ | ⟨kvs, hk⟩
        · obtain ⟨_, _, _, _, o, _, _, e, ex, _⟩ := I.hok p _ hk
          exact ⟨o, e, ex⟩
        · obtain ⟨_, _, _, _, o, _, _, e, ex, _⟩ := I.hok p _ hk
          exact ⟨o, e, ex⟩
      obtain ⟨o, e, ex⟩ := z
      refine ⟨⟨o, e, ex.1⟩, fun a e2 => ?_⟩
      cases e2
      exact ⟨o, e, ex.2.1⟩
    · obtain ⟨o, _, _, _, e, ex, _⟩ := I.hok p _ hk
      refine ⟨⟨o, e, ex.1⟩, fun a e2 => ?_⟩
      cases e2
      exact ⟨o, e, ex.2.1⟩
  | _ => exact False.elim ty
def tBM0 (K : PySem.W.Frag) (T : String) (r : V → List V → Hp → VK → Prop) (to : TE) : TE := fun σ H Q => to σ H fun x H1 => tyV K T x H1 ∧ r x [] H1 Q
def tBM (K : PySem.W.Frag) (T : String) (r : V → List V → Hp → VK → Prop) (to : TE) (t : TA) : TE := fun σ H Q => to σ H fun x H1 => tyV K T x H1 ∧ t σ H1 fun xs H2 => r x xs H2 Q
variable {o e : Expr} {es : List Expr} {to : TE} {t : TA} {name : Str} {apos cpos : Pos} {T id : String} {r : V → List V → Hp → VK → Prop}
theorem wqp (pa : PlainAttrs T) (slot : Slot T name id) (hty : typeOf (.builtin id) = pure (.type "method_descriptor")) (hm : MtR X id r) (ho : PE X o to)
    (hbase : attributeBase o name X.env (eval o X.env) = eval o X.env := by rfl) (hline : (apos.endLine == cpos.line) = true := by rfl) : PE X (.Call (.Attribute o name apos) [] [] cpos) (tBM0 X.K T r to) := by
  intro pins s σ H Q I h
  refine wpAny_Call_method0_late hbase hline (thn (ho pins s σ H _ I h) fun v s1 ⟨x, H1, I1, r1, ty, q1⟩ => ?_)
  obtain ⟨h1, h2⟩ := sqW I1 r1 ty
  exact ⟨T, id, pa, slot, hty, h1, h2, Calls.callWith_builtin rfl (PySem.evalArgs_none (hm pins s1 σ H1 x [] v [] Q I1 r1 .nil q1))⟩
theorem wq4 (pa : PlainAttrs T) (slot : Slot T name id) (hty : typeOf (.builtin id) = pure (.type "method_descriptor")) (hm : MtR X id r) (ho : PE X o to) (ha : PA X (e :: es) t)
    (hbase : attributeBase o name X.env (eval o X.env) = eval o X.env := by rfl)
    (hfew : ((backTo cpos (starEach (e :: es) X.env)).all (fun x => !x.1) && (backToKw cpos (keywordEach [] X.env)).all (fun x => x.1.isSome)
      && decide ((e :: es).length + ([] : List Keyword).length + (if ([] : List Keyword).isEmpty then 0 else 1) < 30)) = true := by rfl)
    (hline : (apos.endLine == cpos.line) = true := by rfl) (hs : starEach (e :: es) X.env = (false, eval e X.env) :: starEach es X.env := by rfl) (hplain : (backTo cpos (starEach es X.env)).any (·.1) = false := by rfl) :
    PE X (.Call (.Attribute o name apos) (e :: es) [] cpos) (tBM X.K T r to t) := by
  intro pins s σ H Q I h
  refine wpAny_Call_method_late hbase hfew hline rfl (thn (ho pins s σ H _ I h) fun v s1 ⟨x, H1, I1, r1, ty, q1⟩ => ?_)
  obtain ⟨h1, h2⟩ := sqW I1 r1 ty
  refine ⟨T, id, pa, slot, hty, h1, h2, ?_⟩
  have hA := ha cpos pins s1 σ H1 _ I1 q1
  rw [hs] at hA ⊢
  refine Calls.callWith_builtin (by show (false || (backTo cpos (starEach es X.env)).any (·.1)) = false; rw [hplain] <;> rfl) (Calls.evalArgs_plain ?_)
  exact thn hA fun us s2 ⟨vs, H2, I2, r2, q2⟩ => hm pins s2 σ H2 x vs v us Q I2 r1 r2 q2
end
end L2
namespace L2
open PySem PySem.Spec PyProof.Rows
def MtM (X : Cx) (id : String) (r : V → List V → Hp → VK → Prop) : Prop :=
  ∀ (pins : List (Addr × Obj)) (s : Shared) (σ : St) (H : Hp) (x : V) (xs : List V) (v : Value) (us : List Value) (Q : VK), Inv X pins σ H s → RelV x v → Vals xs us → r x xs H Q →
    wpAny (model X.prog X.w) X.A (call (.builtin id) (v :: us)) (EP X pins σ Q) X.xe s
theorem Vals.one : ∀ {x : V} {us : List Value}, Vals [x] us → ∃ u, us = [u] ∧ RelV x u
  | _, _, .cons r .nil => ⟨_, rfl, r⟩
theorem Vals.zero : ∀ {us : List Value}, Vals [] us → us = []
  | _, .nil => rfl
theorem Vals.dropLast {xs : List V} {us : List Value} (h : Vals xs us) : Vals xs.dropLast us.dropLast := by
  induction h with
  | nil => exact .nil
  | cons r t ih =>
    cases t with
    | nil => exact .nil
    | cons q t' => exact .cons r ih
theorem oq5 {α : Type} (l : List α) : l.eraseIdx (l.length - 1) = l.dropLast := by
  induction l with
  | nil => rfl
  | cons a r ih =>
    cases r with
    | nil => rfl
    | cons b r =>
      have e : (a :: b :: r).length - 1 = ((b :: r).length - 1) + 1 := by
        have h1 : (a :: b :: r).length = r.length + 2 := rfl
        have h2 : (b :: r).length = r.length + 1 := rfl
        omega
      rw [e, List.eraseIdx_cons_succ, ih]
      all_goals rfl
section
variable {X : Cx} {pins : List (Addr × Obj)} {σ : St} {H : Hp} {s : Shared} {l b : Addr} {xs ys zs : List V}
theorem Inv.lset {its its' : List Value} {n : Nat} {f : Array Value → Array Value} {t' : Nat} (I : Inv X pins σ H s) (hH : H l = some (.lst xs))
    (e : s.heap.get? l = some { cls := .type "list", data := .seq its.toArray n }) (hf : f its.toArray = its'.toArray) (hv : Vals ys its') (hz : ys.length ≤ sizeLine) :
    Inv X pins σ (upd H l (.lst ys)) { s with heap := s.heap.update l (Obj.mapSeq f), toks := t' } := by
  have q := PySem.IsL.update e f
  rw [hf] at q
  refine I.write (x := l) (e := l) (by rw [hH]; exact trivial) (.inl rfl) (fun b' u hb hu => (Heap.get?_update_other s.heap (Obj.mapSeq f) (Ne.symm hb)).trans hu) ⟨_, q⟩ ?_
  exact ⟨hz, its', _, hv, q⟩
theorem Inv.lnew {its : List Value} {t' : Nat} (I : Inv X pins σ H s) (hv : Vals ys its) (hz : ys.length ≤ sizeLine) :
    Inv X pins σ (upd H s.heap.objs.size (.lst ys)) { s with heap := s.heap.push { cls := .type "list", data := .seq its.toArray }, toks := t' } :=
  I.laid (fun _ _ q => Heap.get?_push_of_some _ q) (Nat.le_refl _) ⟨hz, its, 0, hv, Heap.get?_push_size _ rfl⟩
theorem Inv.fresh (I : Inv X pins σ H s) : H s.heap.objs.size = none := I.hok.fresh (Nat.le_refl _)
theorem Inv.lstM (I : Inv X pins σ H s) (hH : H l = some (.lst xs)) : xs.length ≤ sizeLine ∧ ∃ (its : List Value) (n : Nat), Vals xs its ∧ xs.length = its.length ∧ s.heap.get? l = some { cls := .type "list", data := .seq its.toArray n } := by
  obtain ⟨z, its, n, r, e⟩ := I.hok l _ hH
  exact ⟨z, its, n, r, r.length, e⟩
theorem notLongL {n : Nat} (h : n ≤ sizeLine) : Builtin.List.listTooLong n = false := by
  unfold Builtin.List.listTooLong
  exact decide_eq_false (by omega)
end
section
variable {X : Cx}
def rAppend : V → List V → Hp → VK → Prop := fun x vs H Q => ∃ l xs y, x = .ref l ∧ vs = [y] ∧ H l = some (.lst xs) ∧ xs.length < sizeLine ∧ Q .non (upd H l (.lst (xs ++ [y])))
theorem cqx : MtM X "list.append" rAppend := by
  intro pins s σ H x vs v us Q I rx rv h
  obtain ⟨l, xs, y, rfl, rfl, hH, hz, q⟩ := h
  cases rx
  obtain ⟨u, rfl, ru⟩ := rv.one
  obtain ⟨z, its, n, r, hl, e⟩ := I.lstM hH
  refine call_meets F.slot_list_append ⟨_, e, rfl⟩ F.entry_list_append (F.args_list_append_2 _ _) (PySem.list_append l its.toArray n u (by rw [List.size_toArray]; omega)) ⟨e, ?_⟩
  refine ⟨.non, _, I.lset (its' := its ++ [u]) hH e (by simp) (r.append (.cons ru .nil)) ?_, rfl, q⟩
  rw [List.length_append, List.length_singleton]
  omega
def rExtend : V → List V → Hp → VK → Prop := fun x vs H Q => ∃ l b xs zs, x = .ref l ∧ vs = [.ref b] ∧ H l = some (.lst xs) ∧ H b = some (.lst zs) ∧ xs.length + zs.length ≤ sizeLine ∧ Q .non (upd H l (.lst (xs ++ zs)))
theorem vqD : MtM X "list.extend" rExtend := by
  intro pins s σ H x vs v us Q I rx rv h
  obtain ⟨l, b, xs, zs, rfl, rfl, hH, hB, hz, q⟩ := h
  cases rx
  obtain ⟨u, rfl, ru⟩ := rv.one
  cases ru
  obtain ⟨z, its, n, r, hl, e⟩ := I.lstM hH
  obtain ⟨z2, its2, n2, r2, hl2, e2⟩ := I.lstM hB
  have hsz : its.toArray.size + its2.toArray.size ≤ sizeLine := by rw [List.size_toArray, List.size_toArray]; omega
  have hlong : ¬ (!its.toArray.isEmpty && Builtin.List.listTooLong (its.toArray.size + its2.toArray.size)) = true := by
    rw [notLongL hsz, Bool.and_false]
    exact Bool.false_ne_true
  refine call_meets F.slot_list_extend ⟨_, e, rfl⟩ F.entry_list_extend (F.args_list_extend_2 _ _)
    (AutoSeq1.list_extend_list_list_0 l its.toArray n b its2.toArray n2 hlong (by rw [List.size_toArray]; omega) (by omega)) ⟨e, e2, ?_⟩
  refine ⟨.non, _, I.lset (its' := its ++ its2) hH e (by simp) (r.append r2) ?_, rfl, q⟩
  rw [List.length_append]
  omega
def rPop : V → List V → Hp → VK → Prop := fun x vs H Q => ∃ l xs y, x = .ref l ∧ vs = [] ∧ H l = some (.lst xs) ∧ xs[xs.length - 1]? = some y ∧ Q y (upd H l (.lst xs.dropLast))
theorem wqh : MtM X "list.pop" rPop := by
  intro pins s σ H x vs v us Q I rx rv h
  obtain ⟨l, xs, y, rfl, rfl, hH, hy, q⟩ := h
  cases rx
  have hus := rv.zero
  subst hus
  obtain ⟨z, its, n, r, hl, e⟩ := I.lstM hH
  obtain ⟨u, hu, ru⟩ := r.get hy
  have hy' : its.toArray[its.toArray.size - 1]? = some u := by
    show its.toArray[its.length - 1]? = some u
    rw [← Array.getElem?_toList, ← hl]
    exact hu
  refine call_meets F.slot_list_pop ⟨_, e, rfl⟩ F.entry_list_pop (F.args_list_pop_1 _) (MeetsSeq.list_pop_last l its.toArray n u hy' (by rw [List.size_toArray]; omega)) ⟨e, ?_⟩
  refine ⟨y, _, I.lset (its' := its.dropLast) hH e ?_ r.dropLast ?_, ru, q⟩
  · show its.toArray.eraseIdxIfInBounds (its.toArray.size - 1) = its.dropLast.toArray
    rw [List.size_toArray, List.eraseIdxIfInBounds_toArray, oq5]
  · rw [List.length_dropLast]
    omega
def rPopAt : V → List V → Hp → VK → Prop := fun x vs H Q => ∃ l xs i k y, x = .ref l ∧ vs = [.int i] ∧ H l = some (.lst xs) ∧ -(2 ^ 63) ≤ i ∧ i < 2 ^ 63 ∧ seqIndex? i xs.length = some k ∧ xs[k]? = some y ∧ Q y (upd H l (.lst (xs.eraseIdx k)))
def rReverse : V → List V → Hp → VK → Prop := fun x vs H Q => ∃ l xs, x = .ref l ∧ vs = [] ∧ H l = some (.lst xs) ∧ Q .non (upd H l (.lst xs.reverse))
def rCat : R2 := fun x y H Q => ∃ l b xs zs, x = .ref l ∧ y = .ref b ∧ H l = some (.lst xs) ∧ H b = some (.lst zs) ∧ xs.length + zs.length ≤ sizeLine ∧ ∀ p, H p = none → Q (.ref p) (upd H p (.lst (xs ++ zs)))
theorem vqH : OpR X (binaryOp .Add) rCat := by
  intro pins s σ H x y v u Q I rx ry h
  obtain ⟨l, b, xs, zs, rfl, rfl, hH, hB, hz, q⟩ := h
  cases rx
  cases ry
  obtain ⟨z, its, n, r, hl, e⟩ := I.lstM hH
  obtain ⟨z2, its2, n2, r2, hl2, e2⟩ := I.lstM hB
  refine PySem.P.add_list e e2 ?_ (by rw [List.size_toArray, List.size_toArray]; omega)
  have ea : its.toArray ++ its2.toArray = (its ++ its2).toArray := by simp
  rw [ea]
  exact ⟨.ref _, _, I.lnew (t' := s.toks) (r.append r2) (by rw [List.length_append]; omega), rfl, q _ I.fresh⟩
end
section
variable {prog : Program} {w : World} {A : Around} {E : Value → Shared → Prop} {s : Shared}
set_option maxRecDepth 100000 in
end
section
variable {X : Cx}
end
end L2
namespace Att
open PySem PySem.W PySem.Calls PyProof.Rows
theorem kqa {P : Params} {h : Heap} : ∀ (ns : List Int) (vs : List Value), WellAll P h vs (ns.map WData.int) → IntsAre vs ns := by
  intro ns
  induction ns with
  | nil =>
    intro vs w
    rw [List.map_nil] at w
    cases w
    exact .nil
  | cons n ns ih =>
    intro vs w
    rw [List.map_cons] at w
    cases w with
    | cons a b =>
      cases a
      exact .cons _ _ (ih _ b)
theorem rqd {l : OpenLaw} {n : Nat} (hn : l.most = some n) {P : Params} {h : Heap} {args : List WData} {vals : List Value}
    (hpre : l.row.toRowW.claim.pre args = true) (hwl : WellAll P h vals args) :
    ∃ a vs ns, vals = [Value.ref a] ∧ args = [WData.list (ns.map WData.int)] ∧ h.get? a = some { cls := .type "list", data := .seq vs.toArray } ∧ IntsAre vs ns ∧ ns.length ≤ n := by
  have hsh : WShape.hasAll [] args [.list .int] = true := (pre_splitW hpre).1
  have hc : l.pre.holds [] { args := args } = true := (pre_splitW hpre).2
  obtain ⟨d, r, rfl, h1, h2⟩ := hasAllW_cons hsh
  obtain rfl := hasAllW_nil h2
  obtain ⟨xs, rfl, h3⟩ := hasW_list h1
  obtain ⟨ns, rfl⟩ := items_int h3
  have hlen : ns.length ≤ n := by
    unfold OpenLaw.pre at hc
    have h4 : (WTm.not (.lt (.lit (.int (n : Int))) (.len (.arg 0)))).holds [] { args := [.list (ns.map .int)] } = true := by
      have h4 := (holds_andW hc).1
      rw [hn] at h4
      exact h4
    have h5 := condW_of h4 (w_not (w_lt w_lit (w_len_list (w_arg rfl))))
    rw [List.length_map] at h5
    refine Nat.le_of_not_lt fun q => ?_
    have q' : (n : Int) < ((ns.length : Nat) : Int) := by omega
    first
      | (rw [decide_eq_true q'] at h5; exact absurd h5 (by decide))
      | (simp at h5; omega)
  cases hwl with
  | cons w1 w2 =>
    cases w2
    cases w1 with
    | list ho hall => exact ⟨_, _, ns, rfl, rfl, ho, kqa ns _ hall, hlen⟩
theorem qqi (l : OpenLaw) (args : List WData) : l.row.toRowW.claim.post args (.bool true) args = true :=
  postW_of (r := l.row.toRowW) (X := (true == true))
    (show WShape.has [] (.bool true) .bool = true by first | rfl | decide | simp [WShape.has, WShape.arms, WShape.armsAll])
    (show (WTm.eq .res (.lit (.bool true))).value [] { args := args, res := some (.bool true), after := args } = some (.bool (true == true)) from w_eq_bool (w_res rfl) w_lit) rfl
theorem attach_call {l : OpenLaw} {n : Nat} {q : Program} {loose : List Str} {XP : (Str → Option Value) → Heap → Prop} {YP : World → Heap → Prop} {d : DefRec}
    (hn : l.most = some n) (hdf : d.params.defaults = [])
    (call : ∀ (w : World) (s₀ s₁ : Shared) (mg mb : Str → Option Value) (fa : Addr) (o : Obj) (pm cd doc : Value) (a : Addr) (vs : List Value) (ns : List Int),
      Ground q loose [] XP w s₀ mg mb s₁.heap → YP w s₁.heap →
      s₁.heap.get? fa = some o → o.data = .func (docDef d.name d.params d.body d.scope pm cd doc) → s₁.heap.CodeRec cd d.name → mg d.name = some (.ref fa) →
      s₁.heap.get? a = some { cls := .type "list", data := .seq vs.toArray } → IntsAre vs ns → ns.length ≤ n → s₁.gens = #[] →
      codeAny (model l.prog w) callerA (.call (.ref fa) ⟨[.ref a], []⟩) (fun r s' => r = .ok (.ret (.bool true)) ∧ OldK s₁.heap s'.heap ∧ s'.os = s₁.os ∧ AllBare s'.gens) s₁) :
    WalkO q loose XP YP l.row.toRowW d [] (fun f vs => PySem.call f vs) := by
  intro w s₀ s₁ mg mb G Y fa o pm cd doc dV kV ho hd hcd hD hmg hg args vals as hpre hlay hrd hwl hlo
  obtain rfl : dV = .none := Dflts.none hD hdf
  obtain rfl : kV = .none := Dflts.noKw hD
  obtain ⟨a, vs, ns, rfl, rfl, hobj, hints, hlen⟩ := rqd hn hpre hwl
  refine enter_call (codeAny_mono (call w s₀ s₁ mg mb fa o pm cd doc a vs ns G Y ho (fd_plain hd) hcd hmg hobj hints hlen hg) fun r s' hq => ?_)
  obtain ⟨rfl, h2, h3, h4⟩ := hq
  exact ⟨.inl ⟨.bool true, .bool true, [], rfl, fun _ => rfl, .bool true, qqi l _, fun _ => ⟨List.Pairwise.nil, fun _ hm => (nomatch hm)⟩⟩, h2, h3, h4⟩
section
variable {prog : Program} {w : World} {A : Around} {E : Value → Shared → Prop} {s : Shared} {K : Frag}
def ledger (h : Heap) (L d : Addr) : List (Addr × Obj) := (List.range h.objs.size).filterMap fun a => if a = L ∨ a = d then none else (h.get? a).map fun o => (a, o)
end
end Att
namespace L2
open PySem PySem.Spec PyProof.Rows
theorem mqO : ∀ {vs : List Value} {ns : List Int}, IntsAre vs ns → Vals (ns.map V.int) vs
  | _, _, .nil => .nil
  | _, _, .cons n t h => .cons ⟨t, rfl⟩ (mqO h)
def Only (H : Hp) : Prop := ∀ b, H b = none ∨ ∃ o xs, H b = some (.frz o (.lst xs))
theorem rqt {P : Program} {w : World} {K : PySem.W.Frag} {mg mb : Str → Option Value} {CX : CXT} {k : Nat} {fa a : Addr} {fd : FuncData} {x : Str} {sp : Sp} {s₁ : Shared} {vs : List Value} {ns : List Int}
    (KX : K.In s₁.heap) (hns : s₁.heap.Ns mainGlobals mg) (hb : s₁.heap.Ns builtinsNs mb) (hbb : ∀ x : Str, x ≠ "__name__" → mb x = bootBuiltins x) (hlim : s₁.heap.NoLimit) (hg : s₁.gens = #[])
    (ha : s₁.heap.get? a = some { cls := .type "list", data := .seq vs.toArray }) (hi : IntsAre vs ns) (hl : ns.length ≤ sizeLine) (hr : Room k callerA)
    (F : ∀ base : Heap, K.In base → base.Ns mainGlobals mg → FnOk P w K mg base CX k fa fd [x] sp) (hbind : ∀ (s : Shared) (u : Value), BindsTo s fd ⟨[u], []⟩ [(x, u)])
    (hsp : ∀ H : Hp, Only H → SqL K H a (ns.map V.int) → sp [.ref a] H (fun v _ => v = .bl true) fun _ _ _ => False)
    (hCX : ∀ H e s', CX [] H s₁ (fun _ _ _ => False) e s' → False) :
    codeAny (model P w) callerA (.call (.ref fa) ⟨[.ref a], []⟩) (fun r s' => r = .ok (.ret (.bool true)) ∧ OldK s₁.heap s'.heap ∧ s'.os = s₁.os ∧ AllBare s'.gens) s₁ := by
  have rv := mqO hi
  have lenV := hi.length
  have core : ∀ H : Hp, Only H → SqL K H a (ns.map V.int) → HOk P w H s₁.heap → (∀ b, H b ≠ none → b = a) → (H a ≠ none → K.lookup a = none) →
      codeAny (model P w) callerA (.call (.ref fa) ⟨[.ref a], []⟩) (fun r s' => r = .ok (.ret (.bool true)) ∧ OldK s₁.heap s'.heap ∧ s'.os = s₁.os ∧ AllBare s'.gens) s₁ := by
    intro H hO hS hok hA hK
    have base_of : ∀ {b : Addr} {o : Obj}, s₁.heap.get? b = some o → H b = none → (hidT s₁.heap H).get? b = some o := fun e n => rqH e n
    have noA : ∀ {b : Addr} {o : Obj} {es : Array DictEntry} {ep : Nat}, s₁.heap.get? b = some o → o.data = .dict es ep → H b = none := fun {b o es ep} e d => by
      cases q : H b with
      | none => rfl
      | some u =>
        have e' : b = a := hA b (by rw [q]; simp)
        subst e'
        rw [ha] at e; cases e
        have d' : Data.seq vs.toArray _ = Data.dict es ep := d
        cases d'
    have nsK : ∀ {b : Addr} {m : Str → Option Value}, s₁.heap.Ns b m → (hidT s₁.heap H).Ns b m := fun {b m} ⟨o, es, ep, e, d, r⟩ => ⟨o, es, ep, base_of e (noA e d), d, r⟩
    have hKb : K.In (hidT s₁.heap H) := fun b o e => base_of (KX b o e) (by
      cases q : H b with
      | none => rfl
      | some u =>
        have e' : b = a := hA b (by rw [q]; simp)
        subst e'
        rw [hK (by rw [q]; simp)] at e; cases e)
    have hM : Mod K mg (hidT s₁.heap H) := ⟨hKb, nsK hns, ⟨mb, nsK hb, hbb⟩, let ⟨mc, h1, h2⟩ := hlim; ⟨mc, nsK h1, h2⟩⟩
    have e0 : Env0 P w K mg (hidT s₁.heap H) callerA [] s₁ H := ⟨rfl, hM, fun b o e => tqB e, Nat.le_of_eq (pq7 _ _), trivial, fun b hb => absurd (show b ∈ ([] : List Addr) from hb) (by simp), hok, .of_eq hg⟩
    refine codeAny_mono ((F _ hKb (nsK hns)).run callerA [] s₁ H ⟨[.ref a], []⟩ [.ref a] [.ref a] _ _ hr e0 (hbind s₁ (.ref a)) (.cons rfl .nil) (hsp H hO hS)) fun r s' h => ?_
    cases r with
    | error e => exact (hCX H e s' h).elim
    | ok fl =>
      cases fl with
      | next => exact False.elim h
      | brk => exact False.elim h
      | cont => exact False.elim h
      | ret u =>
        obtain ⟨v, H', os, bare, un, hok', r', q⟩ := h
        have q' : v = .bl true := q
        subst q'
        obtain rfl : u = Value.bool true := r'
        refine ⟨rfl, OldK.of_keep fun b o e => ?_, os, bare⟩
        cases q : H b with
        | none => exact un.keep b o e q (by intro z; exact absurd (show b ∈ ([] : List Addr) from z) (by simp)) (by simp)
        | some u =>
          rcases hO b with z | ⟨ob, xs, z⟩
          · rw [q] at z; cases z
          · have z2 := un.frzs b ob _ z
            obtain ⟨e1, _⟩ := hok b _ z
            obtain ⟨e2, _⟩ := hok' b _ z2
            rw [e] at e1; cases e1
            exact e2
  cases hk : K.lookup a with
  | some o =>
    have e := KX a o hk
    rw [ha] at e
    cases e
    refine core (fun _ => none) (fun _ => .inl rfl) (.inr ⟨_, vs.toArray, _, hk, rfl, rfl, rfl, by rw [List.size_toArray, lenV]; exact hl, by simpa using rv⟩) (fun b u z => by have z' : (none : Option HO) = some u := z; cases z') (fun b z => absurd rfl z) fun z => absurd rfl z
  | none =>
    refine core (fun b => if b = a then some (.frz { cls := .type "list", data := .seq vs.toArray } (.lst (ns.map V.int))) else none) (fun b => ?_) (.inl (.inr ⟨{ cls := .type "list", data := .seq vs.toArray }, if_pos rfl⟩)) (fun b u z => ?_) (fun b z => ?_) fun _ => hk
    · by_cases hb : b = a
      · exact .inr ⟨_, _, if_pos hb⟩
      · exact .inl (if_neg hb)
    · by_cases hb : b = a
      · have z' := (if_pos hb).symm.trans z
        cases z'
        subst hb
        exact ⟨ha, by rw [List.length_map]; exact hl, vs, _, rv, ha⟩
      · have z' := (if_neg hb).symm.trans z
        cases z'
    · by_cases hb : b = a
      · exact hb
      · exact absurd (if_neg hb) z
end L2
namespace L2
open PySem PySem.Spec PyProof.Rows
abbrev KOf {K : PySem.W.Frag} {h : Heap} (_ : K.In h) : PySem.W.Frag := K
theorem uqI {l : PySem.W.OpenLaw} {n k : Nat} {q : Program} {loose : List Str} {XP : (Str → Option Value) → Heap → Prop} {YP : World → Heap → Prop} {d : DefRec} {K : Params → PySem.W.Frag} {CX : World → CXT} {sp : World → Sp} {x : Str}
    (hn : l.most = some n) (hn2 : n ≤ sizeLine) (hdf : d.params.defaults = []) (hr : Room k callerA)
    (hY : ∀ (w : World) (h : Heap), YP w h → (K w.params).In h)
    (F : ∀ (w : World) (mg : Str → Option Value) (fa : Addr) (h : Heap), (K w.params).In h → h.Ns mainGlobals mg → mg d.name = some (.ref fa) →
      ∃ fd : FuncData, (∀ (s : Shared) (u : Value), BindsTo s fd ⟨[u], []⟩ [(x, u)]) ∧
        ∀ base : Heap, (K w.params).In base → base.Ns mainGlobals mg → FnOk l.prog w (K w.params) mg base (CX w) k fa fd [x] (sp w))
    (hsp : ∀ (w : World) (H : Hp) (a : Addr) (ns : List Int), ns.length ≤ n → Only H → SqL (K w.params) H a (ns.map V.int) → sp w [.ref a] H (fun v _ => v = .bl true) fun _ _ _ => False)
    (hCX : ∀ (w : World) (H : Hp) (s : Shared) (e : Value) (s' : Shared), CX w [] H s (fun _ _ _ => False) e s' → False) :
    PySem.W.WalkO q loose XP YP l.row.toRowW d [] (fun f vs => PySem.call f vs) := by
  refine Att.attach_call hn hdf fun w s₀ s₁ mg mb fa o pm cd doc a vs ns G Y ho hd hcd hmg hobj hints hlen hg => ?_
  have KX := hY w _ Y
  obtain ⟨fd, hb, hF⟩ := F w mg fa _ KX G.T.g hmg
  exact rqt KX G.T.g G.T.b G.T.builtins G.T.nolimit hg hobj hints (Nat.le_trans hlen hn2) hr hF hb (fun H hO hS => hsp w H a ns hlen hO hS) fun H e s' => hCX w H s₁ e s'
end L2
namespace L2
open PySem PySem.Spec PyProof.Rows
def inClass (s : Stmt) (j : Nat) : Stmt := match s with
  | .ClassDef _ _ _ body _ _ _ _ _ _ _ => body.getD j (.Pass ⟨0, 0, 0, 0⟩)
  | _ => .Pass ⟨0, 0, 0, 0⟩
def defArgs (s : Stmt) : Arguments := match s with
  | .FunctionDef _ a _ _ _ _ _ _ _ _ => a
  | _ => { posonlyargs := [], args := [], vararg := none, kwonlyargs := [], kw_defaults := [], kwarg := none, defaults := [] }
def defBody (s : Stmt) : List Stmt := match s with
  | .FunctionDef _ _ b _ _ _ _ _ _ _ => b
  | _ => []
def defScope (s : Stmt) : Scope := match s with
  | .FunctionDef _ _ _ _ _ _ sc _ _ _ => sc
  | _ => { kind := .function, names := [], isGenerator := false, isCoroutine := false }
abbrev CX0 : CXT := fun _ _ _ _ _ _ => False
abbrev E0 : XK := fun _ _ _ => False
theorem pass0 {X : Cx} : Passes CX0 X E0 := fun _ _ _ _ _ _ _ h => h.elim
structure Fun (K : PySem.W.Frag) (x qual : Str) (st : Stmt) (f : Addr) (fd : FuncData) : Prop where
  ex : ∃ (oc : Value) (od : Option Addr) (kV doc pm : Value) (an : Option Addr) (cdv ct : Value) (osl : Array (Option Value)),
    fd = PySem.W.fnOf x qual (defArgs st) (defBody st) (defScope st) .none kV doc pm an cdv ct ∧ K.lookup f = some ⟨oc, od, .func fd, osl⟩ ∧ PySem.W.codeIn K cdv qual = true
  kp : PySem.W.keepIn K (.ref f) = true
section
variable {P : Program} {w : World} {K : PySem.W.Frag} {mg : Str → Option Value} {base : Heap}
theorem Fun.ok {x qual : Str} {st : Stmt} {f : Addr} {fd : FuncData} {N ps : List Str} {k : Nat} {sp : Sp} (F : Fun K x qual st f fd) (S : FnScope N ps (defScope st)) (len : ∀ vs H Q E, sp vs H Q E → vs.length = ps.length)
    (hbody : ∀ (cdv : Value) (A : Around) (outer : List Env) (s : Shared) (H : Hp) (vs : List V) (Q : VK) (E : XK), Room k (A.deeper (envOfC qual (defScope st) s.heap.objs.size f cdv)) → sp vs H Q E →
      ∃ t, PSs (cxOf CX0 P w K mg base N qual (defScope st) f cdv A outer s H E).nox (defBody st) t ∧ t { nx := fun _ H' => Q .non H', rt := Q } (start N vs) H) : FnOk P w K mg base CX0 (k + 1) f fd ps sp := by
  obtain ⟨oc, od, kV, doc, pm, an, cdv, ct, osl, rfl, lk, hcd⟩ := F.ex
  refine tqD lk hcd S len fun A outer s H vs Q E hr hsp => ?_
  obtain ⟨t, h, q⟩ := hbody cdv A outer s H vs Q E hr hsp
  exact ⟨t, h.nox, q⟩
theorem Fun.binds {x qual : Str} {st : Stmt} {f : Addr} {fd : FuncData} {ps : List Str} (F : Fun K x qual st f fd)
    (h : ∀ (kV doc pm : Value) (an : Option Addr) (cdv ct : Value) (us : List Value), us.length = ps.length → bindArgs (PySem.W.fnOf x qual (defArgs st) (defBody st) (defScope st) .none kV doc pm an cdv ct) ⟨us, []⟩ = pure (ps.zip us)) : Binds K fd ps [] := by
  obtain ⟨oc, od, kV, doc, pm, an, cdv, ct, osl, rfl, lk, hcd⟩ := F.ex
  exact .all (h kV doc pm an cdv ct)
theorem aqg {x qual : Str} {st : Stmt} {f : Addr} {oc : Value} {od an : Option Addr} {osl : Array (Option Value)} {kV doc pm cdv ct : Value} (l : K.lookup f = some ⟨oc, od, .func (PySem.W.fnOf x qual (defArgs st) (defBody st) (defScope st) .none kV doc pm an cdv ct), osl⟩)
    (c : PySem.W.codeIn K cdv qual = true) (k : PySem.W.keepIn K (.ref f) = true) : Fun K x qual st f (PySem.W.fnOf x qual (defArgs st) (defBody st) (defScope st) .none kV doc pm an cdv ct) := ⟨⟨oc, od, kV, doc, pm, an, cdv, ct, osl, rfl, l, c⟩, k⟩
end
section
variable {X : Cx}
theorem pv (i : Nat) {x : Str} {pos : Pos} (hN : X.N[i]? = some x := by rfl) (hv : Vis X.env.scope x := by first | exact Or.inl rfl | exact Or.inr (Or.inl rfl) | exact Or.inr (Or.inr rfl)) (hd : (x == ("__debug__" : Str)) = false := by decide)
    (hcd : (x == ("__classdict__" : Str)) = false := by decide) : PE X (.Name x pos) (tVar i) := uq4 hN hv hd hcd
end
theorem ite2 {c A B : Prop} [Decidable c] (h1 : c → A) (h2 : ¬ c → B) : if c then A else B := by
  by_cases h : c
  · rw [if_pos h]
    exact h1 h
  · rw [if_neg h]
    exact h2 h
def Same (H H' : Hp) : Prop := ∀ b o, H b = some o → H' b = some o
theorem Same.refl (H : Hp) : Same H H := fun _ _ h => h
theorem Same.trans {H H1 H2 : Hp} (a : Same H H1) (b : Same H1 H2) : Same H H2 := fun c o h => b c o (a c o h)
theorem Same.seq {K : PySem.W.Frag} {H H' : Hp} {a : Addr} {xs : List V} (e : Same H H') (h : SqL K H a xs) : SqL K H' a xs := by
  rcases h with (h | ⟨o, h⟩) | h
  · exact .inl (.inl (e _ _ h))
  · exact .inl (.inr ⟨o, e _ _ h⟩)
  · exact .inr h
end L2
set_option maxHeartbeats 4000000
namespace L2
open PySem PySem.Spec PyProof.Rows
def Its (z : Str) : It := ⟨fun i _ => i < z.length, fun i H x H' => H' = H ∧ ∃ c, z.cps.toList[i]? = some c ∧ x = .str ⟨#[c]⟩, fun i _ => z.length ≤ i⟩
theorem qq2 {z : Str} {i : Nat} (h : i < z.length) : ∃ c, z.cps[i]? = some c ∧ z.cps.toList[i]? = some c := by
  have h' : i < z.cps.size := h
  exact ⟨z.cps[i], by simp [h'], by simp [h']⟩
theorem oqd {z : Str} {i : Nat} (h : z.length ≤ i) : z.cps[i]? = none := by
  have h' : z.cps.size ≤ i := h
  simp [h']
theorem qqh {P : Program} {w : World} {K : PySem.W.Frag} {tg : Expr} (it : Addr) (z : Str) (t : Tok) : Turn P w K tg (Its z) [it] it (fun i h => h.IsStrIter it "str_ascii_iterator" z t i) where
  mem := by simp
  obj := fun i h st b hb => by
    have e : b = it := by simpa using hb
    subst e
    obtain ⟨o, e, c, d⟩ := st
    exact ⟨o, e, fun v z => by rw [d] at z; cases z⟩
  keep := fun i h h' st k => by
    obtain ⟨o, e, r⟩ := st
    exact ⟨o, k it (by simp) o e, r⟩
  item := by
    intro X hP hw hK hc i pins s σ H E I hf st hg
    subst hP hw hK
    obtain ⟨c, h1, h2⟩ := qq2 (z := z) (i := i) hg
    obtain ⟨f0, f1, f2, f3, f4, f5⟩ := hf it (by simp)
    refine wpAny_pyNext_ascii_item st h1 fun h' st' sb => ?_
    have I1 : Inv X pins σ H { s with heap := h', toks := s.toks + 1 } := I.turned (t' := s.toks + 1) (fun b o hb e => (sb.2 b hb).trans e) f0 f1 f3 f4 f5
    obtain ⟨o, e, cl, d⟩ := id st'
    exact ⟨_, rfl, qqV (s := { s with heap := h', toks := s.toks + 1 }) e cl d (by decide) ⟨.str ⟨#[c]⟩, H, I1, ⟨_, rfl⟩, ⟨rfl, c, h2, rfl⟩, st', fun b hb => (hf b hb).1⟩⟩
  done := by
    intro X hP hw hK hc i pins s σ H E I hf st hg
    subst hP hw hK
    obtain ⟨f0, f1, f2, f3, f4, f5⟩ := hf it (by simp)
    exact wpAny_pyNext_ascii_end (I.ok.hd hc) st (oqd hg) fun h' eb => ⟨rfl, I.turned (t' := s.toks) (fun b o hb e => eb b o hb e) f0 f1 f3 f4 f5⟩
  self := fun _ _ _ _ _ st h => wpAny_pyIter_striter_ascii st h
theorem qqH {P : Program} {w : World} {K : PySem.W.Frag} {tg : Expr} (it : Addr) (z : Str) (t : Tok) : Turn P w K tg (Its z) [it] it (fun i h => h.IsStrIter it "str_iterator" z t i) where
  mem := by simp
  obj := fun i h st b hb => by
    have e : b = it := by simpa using hb
    subst e
    obtain ⟨o, e, c, d⟩ := st
    exact ⟨o, e, fun v z => by rw [d] at z; cases z⟩
  keep := fun i h h' st k => by
    obtain ⟨o, e, r⟩ := st
    exact ⟨o, k it (by simp) o e, r⟩
  item := by
    intro X hP hw hK hc i pins s σ H E I hf st hg
    subst hP hw hK
    obtain ⟨c, h1, h2⟩ := qq2 (z := z) (i := i) hg
    obtain ⟨f0, f1, f2, f3, f4, f5⟩ := hf it (by simp)
    refine wpAny_pyNext_wide_item st h1 fun h' st' sb => ?_
    have I1 : Inv X pins σ H { s with heap := h', toks := s.toks + 1 } := I.turned (t' := s.toks + 1) (fun b o hb e => (sb.2 b hb).trans e) f0 f1 f3 f4 f5
    obtain ⟨o, e, cl, d⟩ := id st'
    exact ⟨_, rfl, qqV (s := { s with heap := h', toks := s.toks + 1 }) e cl d (by decide) ⟨.str ⟨#[c]⟩, H, I1, ⟨_, rfl⟩, ⟨rfl, c, h2, rfl⟩, st', fun b hb => (hf b hb).1⟩⟩
  done := by
    intro X hP hw hK hc i pins s σ H E I hf st hg
    subst hP hw hK
    obtain ⟨f0, f1, f2, f3, f4, f5⟩ := hf it (by simp)
    exact wpAny_pyNext_wide_end (I.ok.hd hc) st (oqd hg) fun h' eb => ⟨rfl, I.turned (t' := s.toks) (fun b o hb e => eb b o hb e) f0 f1 f3 f4 f5⟩
  self := fun _ _ _ _ _ st h => wpAny_pyIter_striter_wide st h
section
variable {X : Cx} {tg : Expr}
def iStr (tl : TE) : TI := fun σ H R => tl σ H fun x H1 => ∃ z, x = .str z ∧ R (Its z) H1
theorem pqw {l : Expr} {tl : TE} (hl : PE X l tl) : PI X tg l (iStr tl) := by
  intro pins s σ H R I h
  refine thn (hl pins s σ H _ I h) fun v s1 ⟨x, H1, I1, r1, q1⟩ => ?_
  obtain ⟨z, rfl, q⟩ := q1
  obtain ⟨t, rfl⟩ := r1
  have fp : ∀ b ∈ [s1.heap.objs.size], FpOk X pins H1 b := fun b hb => by
    have e : b = s1.heap.objs.size := by simpa using hb
    subst e
    exact I1.fpOk (Nat.le_refl _) (I1.hok.fresh (Nat.le_refl _))
  cases ha : z.cps.all (· < 128)
  · refine wpAny_pyIter_wide ha ?_
    exact ⟨s1.heap.objs.size, [s1.heap.objs.size], _, _, H1, rfl, I1.kept (t' := s1.toks) fun b o e => Heap.get?_push_of_some _ e, qqH _ z t, ⟨_, Heap.get?_push_size _ rfl, rfl, rfl⟩, fp, q⟩
  · refine wpAny_pyIter_ascii ha ?_
    exact ⟨s1.heap.objs.size, [s1.heap.objs.size], _, _, H1, rfl, I1.kept (t' := s1.toks) fun b o e => Heap.get?_push_of_some _ e, qqh _ z t, ⟨_, Heap.get?_push_size _ rfl, rfl, rfl⟩, fp, q⟩
end
theorem uqu {z : Str} {g : TG} {tb : TS} {D : Ends} {σ : St} {H : Hp} (Pv : Nat → St → Hp → Prop) (h0 : Pv 0 σ H)
    (hs : ∀ i c σ H, z.cps.toList[i]? = some c → Pv i σ H → g (.str ⟨#[c]⟩) σ H fun σ2 H2 => tb { D with nx := Pv (i + 1), ct := Pv (i + 1), bk := D.nx } σ2 H2) (hd : ∀ σ H, Pv z.length σ H → D.nx σ H) :
    ∃ W : Nat → Nat → St → Hp → Prop, (∃ m, W 0 m σ H) ∧ ∀ i m σ H, W i m σ H →
      ((Its z).stop i H ∧ D.nx σ H) ∨ ((Its z).go i H ∧ ∃ N : St → Hp → Prop, (∀ σ' H', N σ' H' → ∃ m', m' < m ∧ W (i + 1) m' σ' H') ∧ ∀ x H', (Its z).yld i H x H' → g x σ H' fun σ2 H2 => tb { D with nx := N, ct := N, bk := D.nx } σ2 H2) := by
  refine ⟨fun i m σ H => m = z.length - i ∧ i ≤ z.length ∧ Pv i σ H, ⟨z.length, by simp, Nat.zero_le _, h0⟩, ?_⟩
  rintro i m σ H ⟨rfl, hi, p⟩
  by_cases hlt : i < z.length
  · refine .inr ⟨hlt, Pv (i + 1), fun σ' H' p' => ⟨z.length - (i + 1), by omega, rfl, hlt, p'⟩, fun x H' y => ?_⟩
    obtain ⟨e, c, hc, ex⟩ := y
    subst e ex
    exact hs i c σ _ hc p
  · have e : i = z.length := by omega
    subst e
    exact .inl ⟨Nat.le_refl _, hd σ H p⟩
section
variable {X : Cx}
def rSlS : V → Option Int → Option Int → Hp → VK → Prop := fun x lo hi H Q => ∃ z, x = .str z ∧ z.length ≤ sizeLine ∧ Q (.str (Txt.slice z lo hi)) H
theorem wqe : SlR X rSlS := by
  intro pins s σ H x v vl vu lo hi sl Q I rx hs pl pu h
  obtain ⟨z, rfl, hz, q⟩ := h
  obtain ⟨t, rfl⟩ := rx
  refine ⟨"str", _, F.slot_str_getitem.lookup, typeIs_str _ _ _, ?_⟩
  obtain ⟨o, ho, hc, hd⟩ := hs
  cases pl with
  | none =>
    cases pu with
    | none => exact wpAny_getItem_str_slice (l := none) (u := none) (st := none) ⟨o, ho, hc, hd⟩ rfl (post_val_or_str ⟨Nat.le_trans (Txt.slice_le z none none) hz, fun t' k => ⟨.str (Txt.slice z none none), H, I.tok k, ⟨t', rfl⟩, q⟩⟩)
    | int j uj => exact wpAny_getItem_str_slice (l := none) (u := some (j, uj)) (st := none) ⟨o, ho, hc, hd⟩ rfl (post_val_or_str ⟨Nat.le_trans (Txt.slice_le z none (some j)) hz, fun t' k => ⟨.str (Txt.slice z none (some j)), H, I.tok k, ⟨t', rfl⟩, q⟩⟩)
  | int i ui =>
    cases pu with
    | none => exact wpAny_getItem_str_slice (l := some (i, ui)) (u := none) (st := none) ⟨o, ho, hc, hd⟩ rfl (post_val_or_str ⟨Nat.le_trans (Txt.slice_le z (some i) none) hz, fun t' k => ⟨.str (Txt.slice z (some i) none), H, I.tok k, ⟨t', rfl⟩, q⟩⟩)
    | int j uj => exact wpAny_getItem_str_slice (l := some (i, ui)) (u := some (j, uj)) (st := none) ⟨o, ho, hc, hd⟩ rfl (post_val_or_str ⟨Nat.le_trans (Txt.slice_le z (some i) (some j)) hz, fun t' k => ⟨.str (Txt.slice z (some i) (some j)), H, I.tok k, ⟨t', rfl⟩, q⟩⟩)
def rSl (K : PySem.W.Frag) : V → Option Int → Option Int → Hp → VK → Prop := fun x lo hi H Q => rSlL K x lo hi H Q ∨ rSlS x lo hi H Q
theorem vqO : SlR X (rSl X.K) := tqG.or wqe
def rIndex : V → List V → Hp → VK → Prop := fun x vs H Q => match x, vs with
  | .str z, [.str y] => ∃ i r, Builtin.Str.occurrences z y 0 z.length 1 = i :: r ∧ Q (.int (i : Nat)) H
  | _, _ => False
theorem rqm {z y : Str} {H : Hp} {Q : VK} : rIndex (.str z) [.str y] H Q ↔ ∃ i r, Builtin.Str.occurrences z y 0 z.length 1 = i :: r ∧ Q (.int (i : Nat)) H := Iff.rfl
theorem oqu : MtR X "str.index" rIndex := by
  intro pins s σ H x vs v us Q I rx rv h
  unfold rIndex at h
  split at h
  rotate_left
  · exact h.elim
  rename_i z y
  obtain ⟨i, r, ho, q⟩ := h
  obtain ⟨t, rfl⟩ := rx
  obtain ⟨u, rfl, t', rfl⟩ := vals1 rv
  exact SC.index ho ⟨.int (i : Nat), H, I.tok _, ⟨_, rfl⟩, q⟩
theorem notTooLong {n : Nat} (h : n ≤ 1000000) : Builtin.Str.tooLong n = false := by
  unfold Builtin.Str.tooLong
  rw [sizeLine_eq]
  exact decide_eq_false (by omega)
def rUpper : V → List V → Hp → VK → Prop := fun x vs H Q => match x, vs with
  | .str z, [] => (∀ c ∈ z.cps.toList, c < 128) ∧ z.length ≤ 1000000 ∧ Q (.str ⟨z.cps.map up1⟩) H
  | _, _ => False
theorem vqG {z : Str} {H : Hp} {Q : VK} : rUpper (.str z) [] H Q ↔ (∀ c ∈ z.cps.toList, c < 128) ∧ z.length ≤ 1000000 ∧ Q (.str ⟨z.cps.map up1⟩) H := Iff.rfl
def rLower : V → List V → Hp → VK → Prop := fun x vs H Q => match x, vs with
  | .str z, [] => (∀ c ∈ z.cps.toList, c < 128) ∧ z.length ≤ 1000000 ∧ Q (.str ⟨z.cps.map lo1⟩) H
  | _, _ => False
theorem vqS {z : Str} {H : Hp} {Q : VK} : rLower (.str z) [] H Q ↔ (∀ c ∈ z.cps.toList, c < 128) ∧ z.length ≤ 1000000 ∧ Q (.str ⟨z.cps.map lo1⟩) H := Iff.rfl
theorem oqw : MtR X "str.lower" rLower := by
  intro pins s σ H x vs v us Q I rx rv h
  unfold rLower at h
  split at h
  rotate_left
  · exact h.elim
  rename_i z
  obtain ⟨ha, hz, q⟩ := h
  obtain ⟨t, rfl⟩ := rx
  cases rv
  have e := lower_ascii ha
  refine SC.lower ?_ ⟨.str ⟨z.cps.map lo1⟩, H, I.tok _, ⟨_, by rw [e]⟩, q⟩
  rw [e]
  exact notTooLong (by show (z.cps.map lo1).size ≤ _; rw [Array.size_map]; exact hz)
def rAlnum : V → List V → Hp → VK → Prop := fun x vs H Q => match x, vs with
  | .str z, [] => Q (.bl (Txt.isalnum z)) H
  | _, _ => False
theorem vq5 {z : Str} {H : Hp} {Q : VK} : rAlnum (.str z) [] H Q ↔ Q (.bl (Txt.isalnum z)) H := Iff.rfl
theorem pqh {ys : List Str} : ∀ {us : List Value}, Vals (ys.map V.str) us → StrsAre us ys := by
  induction ys with
  | nil => intro us r; rw [List.map_nil] at r; cases r; exact .nil
  | cons y ys ih =>
    intro us r
    rw [List.map_cons] at r
    cases r with
    | cons r1 r2 =>
      obtain ⟨t, e⟩ := r1
      subst e
      exact .cons y t (ih r2)
def rJoin (K : PySem.W.Frag) : V → List V → Hp → VK → Prop := fun x vs H Q => ∃ z p ys, x = .str z ∧ vs = [.ref p] ∧ SqL K H p (ys.map V.str) ∧ (ys.map (·.length)).sum + ys.length * z.length ≤ 16777216 ∧ Q (.str (Txt.join z ys)) H
theorem tqy : MtR X "str.join" (rJoin X.K) := by
  intro pins s σ H x vs v us Q I rx rv h
  obtain ⟨z, p, ys, rfl, rfl, hq, hz, q⟩ := h
  obtain ⟨t, rfl⟩ := rx
  obtain ⟨u, rfl, ru⟩ := vals1 rv
  cases ru
  obtain ⟨its, r, pl, hl⟩ := I.list hq
  exact join_list pl.isList (by simpa using pqh r) hz fun t' k => ⟨.str (Txt.join z ys), H, I.tok k, ⟨t', rfl⟩, q⟩
def rIsi (K : PySem.W.Frag) : List V → Hp → VK → Prop := fun vs H Q => ∃ x T t b, vs = [x, .ty T] ∧ TyOf K H x t ∧ PySem.W.kitOne K t (.type T) = some b ∧ Q (.bl b) H
theorem oqi : CallR X (.builtin "isinstance") (rIsi X.K) := by
  intro pins s σ H xs us Q I r h
  obtain ⟨x, T, t, b, rfl, ty, e, q⟩ := h
  obtain ⟨u, v, rfl, ru, rv⟩ := vals2 r
  cases (show v = Value.type T from rv)
  exact pqu I ru ty e fun tk => ⟨.bl b, H, I.tok tk, rfl, q⟩
def rCatD : R2 := fun x y H Q => ∃ a b xs ys, x = .ref a ∧ y = .ref b ∧ H a = some (.tup xs) ∧ H b = some (.tup ys) ∧ xs.length + ys.length ≤ sizeLine ∧ ∀ p H', Same H H' → H' p = some (.tup (xs ++ ys)) → Q (.ref p) H'
theorem tqs : OpR X (binaryOp .Add) rCatD := by
  intro pins s σ H x y v u Q I rx ry h
  obtain ⟨a, b, xs, ys, rfl, rfl, ha, hb, hz, q⟩ := h
  by_cases hx : xs = []
  · subst hx
    cases rx
    cases ry
    obtain ⟨its, r1, p1, _⟩ := I.tuple (SqT.of ha)
    obtain ⟨its2, r2, p2, _⟩ := I.tuple (SqT.of hb)
    cases r1
    obtain ⟨⟨cls, dd, data, sl⟩, ho, hc, n, hd⟩ := id p1
    obtain ⟨⟨cls2, dd2, data2, sl2⟩, ho2, hc2, n2, hd2⟩ := id p2
    simp only at hc hd hc2 hd2
    subst hc hd hc2 hd2
    exact concat_meets ⟨_, ho, rfl⟩ ⟨_, ho2, rfl⟩ noFill_tuple_add seq_tuple_add PySem.F.slot_tuple_add PySem.F.entry_tuple_add (PySem.F.args_tuple_add_2 _ _)
      (tuple_addW0 a b ([] : List Value).toArray its2.toArray n n2 dd dd2 sl sl2 rfl) ⟨ho, ho2, ⟨.ref b, H, I, rfl, q b H (Same.refl _) hb⟩⟩
  · refine qqT pins s σ H _ _ v u Q I rx ry ⟨a, b, xs, ys, rfl, rfl, SqT.of ha, SqT.of hb, hx, hz, fun e => q a H (Same.refl _) (by rw [e, List.append_nil]; exact ha), fun _ p hp => q p _ (fun b o e => by rw [aqu (aqr e hp)]; exact e) aql⟩
def rAddU (K : PySem.W.Frag) : R2 := fun x y H Q => match x, y with
  | .int i, .int j => Q (.int (i + j)) H
  | .str i, .str j => i.length + j.length ≤ sizeLine ∧ Q (.str (i ++ j)) H
  | .ref a, .ref b => (∃ xs zs, H a = some (.lst xs) ∧ H b = some (.lst zs) ∧ xs.length + zs.length ≤ sizeLine ∧ ∀ p, H p = none → Q (.ref p) (upd H p (.lst (xs ++ zs)))) ∨
      (∃ xs ys, H a = some (.tup xs) ∧ H b = some (.tup ys) ∧ xs.length + ys.length ≤ sizeLine ∧ ∀ p H', Same H H' → H' p = some (.tup (xs ++ ys)) → Q (.ref p) H')
  | _, _ => False
theorem qqQ : OpR X (binaryOp .Add) (rAddU X.K) := by
  intro pins s σ H x y v u Q I rx ry h
  cases x with
  | int i =>
    cases y with
    | int j => exact vq2 pins s σ H _ _ v u Q I rx ry ⟨i, j, rfl, rfl, h⟩
    | _ => exact h.elim
  | str i =>
    cases y with
    | str j => exact oq0 pins s σ H _ _ v u Q I rx ry ⟨i, j, rfl, rfl, h.1, h.2⟩
    | _ => exact h.elim
  | ref a =>
    cases y with
    | ref b =>
      rcases h with ⟨xs, zs, h1, h2, h3, h4⟩ | ⟨xs, ys, h1, h2, h3, h4⟩
      · exact vqH pins s σ H _ _ v u Q I rx ry ⟨a, b, xs, zs, rfl, rfl, h1, h2, h3, h4⟩
      · exact tqs pins s σ H _ _ v u Q I rx ry ⟨a, b, xs, ys, rfl, rfl, h1, h2, h3, h4⟩
    | _ => exact h.elim
  | _ => exact h.elim
theorem vqf {K : PySem.W.Frag} {i j : Int} {H : Hp} {Q : VK} : rAddU K (.int i) (.int j) H Q ↔ Q (.int (i + j)) H := Iff.rfl
theorem wqa {K : PySem.W.Frag} {i j : Str} {H : Hp} {Q : VK} : rAddU K (.str i) (.str j) H Q ↔ i.length + j.length ≤ sizeLine ∧ Q (.str (i ++ j)) H := Iff.rfl
end
section
variable {X : Cx}
def rMulU : R2 := fun x y H Q => match x, y with
  | .int i, .int j => CMul i j ∧ Q (.int (i * j)) H
  | .str z, .int k => MulOk z k ∧ Q (.str (Txt.mul z k)) H
  | _, _ => False
theorem fql : OpR X (binaryOp .Mult) rMulU := by
  intro pins s σ H x y v u Q I rx ry h
  cases x with
  | int i =>
    cases y with
    | int j => exact wqq pins s σ H _ _ v u Q I rx ry ⟨i, j, rfl, rfl, h.1, h.2⟩
    | _ => exact h.elim
  | str z =>
    cases y with
    | int k =>
      obtain ⟨t, rfl⟩ := rx
      obtain ⟨t', rfl⟩ := ry
      exact SB.mul h.1 fun t' k' => ⟨.str (Txt.mul z k), H, I.tok k', ⟨t', rfl⟩, h.2⟩
    | _ => exact h.elim
  | _ => exact h.elim
theorem wqt {i j : Int} {H : Hp} {Q : VK} : rMulU (.int i) (.int j) H Q ↔ CMul i j ∧ Q (.int (i * j)) H := Iff.rfl
theorem vql {z : Str} {k : Int} {H : Hp} {Q : VK} : rMulU (.str z) (.int k) H Q ↔ MulOk z k ∧ Q (.str (Txt.mul z k)) H := Iff.rfl
def rLenU (K : PySem.W.Frag) : List V → Hp → VK → Prop := fun xs H Q => match xs with
  | [.str z] => z.length ≤ sizeLine ∧ Q (.int z.length) H
  | [.ref p] => ∃ ys, (SqL K H p ys ∨ SqT K H p ys) ∧ Q (.int ys.length) H
  | _ => False
theorem qqy : CallR X (.builtin "len") (rLenU X.K) := by
  intro pins s σ H xs us Q I r h
  unfold rLenU at h
  split at h
  · exact mqc pins s σ H _ us Q I r ⟨_, rfl, h.1, h.2⟩
  · obtain ⟨ys, h1, h2⟩ := h
    exact mqi pins s σ H _ us Q I r ⟨_, ys, rfl, h1, h2⟩
  · exact h.elim
theorem vqB {K : PySem.W.Frag} {z : Str} {H : Hp} {Q : VK} : rLenU K [.str z] H Q ↔ z.length ≤ sizeLine ∧ Q (.int z.length) H := Iff.rfl
theorem vqc {K : PySem.W.Frag} {p : Addr} {H : Hp} {Q : VK} : rLenU K [.ref p] H Q ↔ ∃ ys, (SqL K H p ys ∨ SqT K H p ys) ∧ Q (.int ys.length) H := Iff.rfl
def rOrdU : List V → Hp → VK → Prop := fun xs H Q => match xs with
  | [.str z] => z.length = 1 ∧ Q (.int (z.cps.getD 0 0 : Nat)) H
  | _ => False
theorem kqj : CallR X (.builtin "ord") rOrdU := by
  intro pins s σ H xs us Q I r h
  unfold rOrdU at h
  split at h
  · exact rqi pins s σ H _ us Q I r ⟨_, rfl, h.1, h.2⟩
  · exact h.elim
theorem vqo {c : Nat} {H : Hp} {Q : VK} : rOrdU [.str ⟨#[c]⟩] H Q ↔ Q (.int (c : Nat)) H := ⟨fun h => h.2, fun h => ⟨rfl, h⟩⟩
theorem mqQ : bootBuiltins "int" = some (.type "int") := by decide +kernel
theorem oqh : bootBuiltins "str" = some (.type "str") := by decide +kernel
theorem hqC : bootBuiltins "tuple" = some (.type "tuple") := by decide +kernel
theorem lqh : bootBuiltins "ord" = some (.builtin "ord") := by decide +kernel
theorem bq5 : bootBuiltins "isinstance" = some (.builtin "isinstance") := by decide +kernel
def rIntU : List V → Hp → VK → Prop := fun xs H Q => match xs with
  | [.int i] => Q (.int i) H
  | [.bl k] => Q (.int (if k then 1 else 0)) H
  | _ => False
theorem jqp : CallR X (.type "int") rIntU := by
  intro pins s σ H xs us Q I r h
  unfold rIntU at h
  split at h
  · exact mq7 pins s σ H _ us Q I r (.inl ⟨_, rfl, h⟩)
  · exact mq7 pins s σ H _ us Q I r (.inr ⟨_, rfl, h⟩)
  · exact h.elim
theorem wqT {k : Bool} {H : Hp} {Q : VK} : rIntU [.bl k] H Q ↔ Q (.int (if k then 1 else 0)) H := Iff.rfl
def rInU : R2 := fun x y H Q => match x, y with
  | .str i, .str j => Q (.bl (!(Builtin.Str.occurrences j i 0 j.length 1).isEmpty)) H
  | _, _ => False
theorem kq6 : OpR X (compareOp .In) rInU := by
  intro pins s σ H x y v u Q I rx ry h
  cases x with
  | str i =>
    cases y with
    | str j => exact pqH pins s σ H _ _ v u Q I rx ry ⟨i, j, rfl, rfl, h⟩
    | _ => exact h.elim
  | _ => exact h.elim
def rNotInU : R2 := fun x y H Q => match x, y with
  | .str i, .str j => Q (.bl (!(!(Builtin.Str.occurrences j i 0 j.length 1).isEmpty))) H
  | _, _ => False
theorem uq7 {c : Nat} {j : Str} {H : Hp} {Q : VK} : rInU (.str ⟨#[c]⟩) (.str j) H Q ↔ Q (.bl (decide (c ∈ j.cps.toList))) H := by
  show Q (.bl (!(Builtin.Str.occurrences j ⟨#[c]⟩ 0 j.length 1).isEmpty)) H ↔ _
  rw [StrLaws.found_one]
theorem qqP {c : Nat} {j : Str} {H : Hp} {Q : VK} : rNotInU (.str ⟨#[c]⟩) (.str j) H Q ↔ Q (.bl (!decide (c ∈ j.cps.toList))) H := by
  show Q (.bl (!(!(Builtin.Str.occurrences j ⟨#[c]⟩ 0 j.length 1).isEmpty))) H ↔ _
  rw [StrLaws.found_one]
def rIsN (neg : Bool) : R2 := fun x y H Q => y = .non ∧ Q (.bl (if neg then !decide (x = .non) else decide (x = .non))) H
theorem dqR : OpR X (compareOp .Is) (rIsN false) := fun pins s σ H x y v u Q I rx ry h => vqb pins s σ H x y v u Q I rx ry h
theorem fqu : OpR X (compareOp .IsNot) (rIsN true) := fun pins s σ H x y v u Q I rx ry h => tqH pins s σ H x y v u Q I rx ry h
theorem wqR {x : V} {H : Hp} {Q : VK} : rIsN false x .non H Q ↔ Q (.bl (decide (x = .non))) H := ⟨fun h => h.2, fun h => ⟨rfl, h⟩⟩
theorem wqX {x : V} {H : Hp} {Q : VK} : rIsN true x .non H Q ↔ Q (.bl (!decide (x = .non))) H := ⟨fun h => h.2, fun h => ⟨rfl, h⟩⟩
def kindV (x : V) (H : Hp) : Option String := match x with
  | .non => some "NoneType"
  | .bl _ => some "bool"
  | .int _ => some "int"
  | .str _ => some "str"
  | .ref a => match H a with
    | some (.lst _) => some "list"
    | some (.tup _) => some "tuple"
    | _ => none
  | _ => none
def subT (a b : String) : Bool := a == b || (a == "bool" && b == "int")
theorem gqZ (K : PySem.W.Frag) : ∀ a ∈ ["NoneType", "bool", "int", "str", "list", "tuple"], ∀ b ∈ ["bool", "int", "str", "list", "tuple"], PySem.W.kitOne K (.type a) (.type b) = some (subT a b) := by
  intro a ha b hb
  simp only [List.mem_cons, List.not_mem_nil, or_false] at ha hb
  rcases ha with rfl | rfl | rfl | rfl | rfl | rfl <;> rcases hb with rfl | rfl | rfl | rfl | rfl <;> with_unfolding_all kernel_rfl
def rIsiU : List V → Hp → VK → Prop := fun vs H Q => match vs with
  | [x, .ty T] => ∃ k, kindV x H = some k ∧ T ∈ ["bool", "int", "str", "list", "tuple"] ∧ Q (.bl (subT k T)) H
  | _ => False
theorem pqP : CallR X (.builtin "isinstance") rIsiU := by
  intro pins s σ H xs us Q I r h
  unfold rIsiU at h
  split at h
  · rename_i x T
    obtain ⟨k, hk, hT, q⟩ := h
    have key : TyOf X.K H x (.type k) ∧ k ∈ ["NoneType", "bool", "int", "str", "list", "tuple"] := by
      unfold kindV at hk
      split at hk
      · cases hk; exact ⟨.non, by decide⟩
      · cases hk; exact ⟨.bl _, by decide⟩
      · cases hk; exact ⟨.int _, by decide⟩
      · cases hk; exact ⟨.str _, by decide⟩
      · split at hk
        · rename_i e; cases hk; exact ⟨.lst e, by decide⟩
        · rename_i e; cases hk; exact ⟨.tup e, by decide⟩
        · cases hk
      · cases hk
    exact oqi pins s σ H _ us Q I r ⟨x, T, .type k, subT k T, rfl, key.1, gqZ X.K k key.2 T hT, q⟩
  · exact h.elim
end
section
variable {σ : St} {H : Hp} {Q : VK} {D : Ends} {K : PySem.W.Frag} {ta tb te : TE} {tt tu : TT} {t u : TS} {aa ab : TA} {v x y : V} {r r' : R2}
theorem sq0 {i : Nat} : tVar i σ H Q ↔ ∃ v, σ[i]? = some (some v) ∧ Q v H := Iff.rfl
theorem rd_C : tC v σ H Q ↔ Q v H := Iff.rfl
theorem qqB : tSeq t u D σ H ↔ t { D with nx := u D } σ H := Iff.rfl
theorem vqJ {g : TG} : tAsg te g D σ H ↔ te σ H fun x H1 => g x σ H1 D.nx := Iff.rfl
theorem uqw {i : Nat} {R : St → Hp → Prop} : gName i v σ H R ↔ R (σ.set i (some v)) H := Iff.rfl
theorem vqL : tIfS tt t u D σ H ↔ tt σ H fun b H1 => if b = true then t D σ H1 else u D σ H1 := Iff.rfl
theorem tqq : tNext D σ H ↔ D.nx σ H := Iff.rfl
theorem vqA : tBreak D σ H ↔ D.bk σ H := Iff.rfl
theorem vqU : tRet te D σ H ↔ te σ H D.rt := Iff.rfl
theorem sq5 : tDrop te D σ H ↔ te σ H fun _ H1 => D.nx σ H1 := Iff.rfl
theorem wqN : tOp r ta tb σ H Q ↔ ta σ H fun x H1 => tb σ H1 fun y H2 => r x y H2 Q := Iff.rfl
theorem uqJ {R : Bool → Hp → Prop} : tTest te σ H R ↔ te σ H fun x H' => ∃ k, x = .bl k ∧ R k H' := Iff.rfl
theorem rd_B {R : Bool → Hp → Prop} : tB te σ H R ↔ te σ H fun x H' => ∃ k, x = .bl k ∧ R k H' := Iff.rfl
theorem wqn {R : Bool → Hp → Prop} : tAnd tt tu σ H R ↔ tt σ H fun c H1 => if c = true then tu σ H1 R else R false H1 := Iff.rfl
theorem wq0 {R : Bool → Hp → Prop} : tOr tt tu σ H R ↔ tt σ H fun c H1 => if c = true then R true H1 else tu σ H1 R := Iff.rfl
theorem vqx {R : Bool → Hp → Prop} : tNot tt σ H R ↔ tt σ H fun c H1 => R (!c) H1 := Iff.rfl
theorem uqN : tAndV ta tb σ H Q ↔ ta σ H fun x H1 => ∃ c, x = .bl c ∧ if c = true then tb σ H1 Q else Q (.bl false) H1 := Iff.rfl
theorem vqy : tOrV ta tb σ H Q ↔ ta σ H fun x H1 => ∃ c, x = .bl c ∧ if c = true then Q (.bl true) H1 else tb σ H1 Q := Iff.rfl
theorem sq7 : tNotV ta σ H Q ↔ ta σ H fun x H1 => ∃ c, x = .bl c ∧ Q (.bl (!c)) H1 := Iff.rfl
theorem wqS : tIf tt ta tb σ H Q ↔ tt σ H fun c H1 => if c = true then ta σ H1 Q else tb σ H1 Q := Iff.rfl
theorem rqz {tc : TE} : tChain r r' ta tb tc σ H Q ↔ ta σ H fun x H1 => tb σ H1 fun y H2 => r x y H2 fun z H3 => ∃ k, z = .bl k ∧ (if k = true then tc σ H3 fun w' H4 => r' y w' H4 Q else Q (.bl false) H3) := Iff.rfl
theorem vqq {R : List V → Hp → Prop} : tNil σ H R ↔ R [] H := Iff.rfl
theorem qqA {R : List V → Hp → Prop} : tCons te aa σ H R ↔ te σ H fun x H1 => aa σ H1 fun xs H2 => R (x :: xs) H2 := Iff.rfl
theorem wql : tLst aa σ H Q ↔ aa σ H fun xs H1 => xs.length ≤ sizeLine ∧ ∀ p, H1 p = none → Q (.ref p) (upd H1 p (.lst xs)) := Iff.rfl
theorem vqv : tTup aa σ H Q ↔ aa σ H fun xs H1 => xs.length ≤ sizeLine ∧ ∀ p, H1 p = none → Q (.ref p) (upd H1 p (.tup xs)) := Iff.rfl
theorem pqq {sp : Sp} {dvs : List V} {E : XK} : tCall sp dvs E aa σ H Q ↔ aa σ H fun vs H1 => sp (vs ++ dvs) H1 Q E := Iff.rfl
theorem wqK {c : List V → Hp → VK → Prop} : tCB c aa σ H Q ↔ aa σ H fun vs H1 => c vs H1 Q := Iff.rfl
theorem wqU {T : String} {m : V → List V → Hp → VK → Prop} : tBM K T m te aa σ H Q ↔ te σ H fun x H1 => tyV K T x H1 ∧ aa σ H1 fun xs H2 => m x xs H2 Q := Iff.rfl
theorem wqE {T : String} {m : V → List V → Hp → VK → Prop} : tBM0 K T m te σ H Q ↔ te σ H fun x H1 => tyV K T x H1 ∧ m x [] H1 Q := Iff.rfl
theorem wq3 {m : V → Option Int → Option Int → Hp → VK → Prop} {tl th : TO} : tSl m te tl th σ H Q ↔ te σ H fun x H1 => tl σ H1 fun l H2 => th σ H2 fun u H3 => m x l u H3 Q := Iff.rfl
theorem qqW {R : Option Int → Hp → Prop} : tNoPart σ H R ↔ R none H := Iff.rfl
theorem tqr {R : Option Int → Hp → Prop} : tPart te σ H R ↔ te σ H fun x H1 => ∃ i, x = .int i ∧ R (some i) H1 := Iff.rfl
theorem sqb {z : Str} : tyV K "str" (.str z) H ↔ True := ⟨fun _ => trivial, fun _ => rfl⟩
theorem rd_I {C : Int → Int → Prop} {g : Int → Int → V} {i j : Int} : rI C g (.int i) (.int j) H Q ↔ C i j ∧ Q (g i j) H :=
  ⟨fun ⟨_, _, h1, h2, h3⟩ => by cases h1; cases h2; exact h3, fun h => ⟨i, j, rfl, rfl, h⟩⟩
theorem wqP {g : Int → Int → V} {i j : Int} : rI0 g (.int i) (.int j) H Q ↔ Q (g i j) H :=
  ⟨fun ⟨_, _, h1, h2, h3⟩ => by cases h1; cases h2; exact h3, fun h => ⟨i, j, rfl, rfl, h⟩⟩
theorem pqn {i j : Int} : rEq (.int i) (.int j) H Q ↔ Q (.bl (decide (i = j))) H := by
  unfold rEq scal; simp only [true_and, V.int.injEq]
theorem jql {i j : Str} : rEq (.str i) (.str j) H Q ↔ Q (.bl (decide (i = j))) H := by
  unfold rEq scal; simp only [true_and, V.str.injEq]
theorem tqg {i j : Bool} : rEq (.bl i) (.bl j) H Q ↔ Q (.bl (decide (i = j))) H := by
  unfold rEq scal; simp only [true_and, V.bl.injEq]
theorem tqA {i j : Int} : rNe (.int i) (.int j) H Q ↔ Q (.bl (!decide (i = j))) H := by
  unfold rNe scal; simp only [true_and, V.int.injEq]
theorem pqA {i j : Str} : rNe (.str i) (.str j) H Q ↔ Q (.bl (!decide (i = j))) H := by
  unfold rNe scal; simp only [true_and, V.str.injEq]
theorem tq2 {i j : Bool} : rNe (.bl i) (.bl j) H Q ↔ Q (.bl (!decide (i = j))) H := by
  unfold rNe scal; simp only [true_and, V.bl.injEq]
theorem uqc : rNe .non .non H Q ↔ Q (.bl false) H := ⟨fun h => h.2, fun h => ⟨rfl, h⟩⟩
theorem uqg {i : Str} : rNe (.str i) .non H Q ↔ Q (.bl true) H := ⟨fun h => h.2, fun h => ⟨rfl, h⟩⟩
theorem sqa {i : Str} : rNe .non (.str i) H Q ↔ Q (.bl true) H := ⟨fun h => h.2, fun h => ⟨rfl, h⟩⟩
theorem uqG : rEq .non .non H Q ↔ Q (.bl true) H := ⟨fun h => h.2, fun h => ⟨rfl, h⟩⟩
theorem tqu {i : Str} : rEq (.str i) .non H Q ↔ Q (.bl false) H := ⟨fun h => h.2, fun h => ⟨rfl, h⟩⟩
theorem rqE {i : Str} : rEq .non (.str i) H Q ↔ Q (.bl false) H := ⟨fun h => h.2, fun h => ⟨rfl, h⟩⟩
theorem uq0 {z : Str} {i : Int} : rIx K (.str z) (.int i) H Q ↔ ∃ c, z.length ≤ sizeLine ∧ atI z.cps.toList i = some c ∧ Q (.str ⟨#[c]⟩) H := by
  constructor
  · rintro (⟨p, xs, j, v, h, _⟩ | ⟨p, xs, j, v, h, _⟩ | ⟨z', j, c, h1, h2, h3, h4, h5⟩)
    · cases h
    · cases h
    · cases h1; cases h2; exact ⟨c, h3, h4, h5⟩
  · rintro ⟨c, h3, h4, h5⟩
    exact .inr (.inr ⟨z, i, c, rfl, rfl, h3, h4, h5⟩)
theorem wqb {z : Str} {lo hi : Option Int} : rSl K (.str z) lo hi H Q ↔ z.length ≤ sizeLine ∧ Q (.str (Txt.slice z lo hi)) H := by
  constructor
  · rintro (⟨a, xs, h, _⟩ | ⟨z', h1, h2, h3⟩)
    · cases h
    · cases h1; exact ⟨h2, h3⟩
  · rintro ⟨h2, h3⟩
    exact .inr ⟨z, rfl, h2, h3⟩
end
section
variable {σ : St} {H : Hp} {Q : VK} {K : PySem.W.Frag}
theorem uq2 {a : Addr} {lo hi : Option Int} : rSl K (.ref a) lo hi H Q ↔ ∃ xs, SqL K H a xs ∧ ∀ p, H p = none → Q (.ref p) (upd H p (.lst (cutV xs lo hi))) := by
  constructor
  · rintro (⟨a', xs, h, h2⟩ | ⟨z', h1, _⟩)
    · cases h; exact ⟨xs, h2⟩
    · cases h1
  · rintro ⟨xs, h2⟩
    exact .inl ⟨a, xs, rfl, h2⟩
theorem wqD {p : Addr} {i : Int} : rIx K (.ref p) (.int i) H Q ↔ ∃ xs v, (SqL K H p xs ∨ SqT K H p xs) ∧ atI xs i = some v ∧ Q v H := by
  constructor
  · rintro (⟨p', xs, j, v, h, h2, h3, h4⟩ | ⟨p', xs, j, v, h, h2, h3, h4⟩ | ⟨z', j, c, h1, _⟩)
    · cases h; cases h2; exact ⟨xs, v, .inl h3, h4⟩
    · cases h; cases h2; exact ⟨xs, v, .inr h3, h4⟩
    · cases h1
  · rintro ⟨xs, v, h | h, h2⟩
    · exact .inl ⟨p, xs, i, v, rfl, rfl, h, h2⟩
    · exact .inr (.inl ⟨p, xs, i, v, rfl, rfl, h, h2⟩)
theorem wqj {a b : Addr} : rAddU K (.ref a) (.ref b) H Q ↔ (∃ xs zs, H a = some (.lst xs) ∧ H b = some (.lst zs) ∧ xs.length + zs.length ≤ sizeLine ∧ ∀ p, H p = none → Q (.ref p) (upd H p (.lst (xs ++ zs)))) ∨
      (∃ xs ys, H a = some (.tup xs) ∧ H b = some (.tup ys) ∧ xs.length + ys.length ≤ sizeLine ∧ ∀ p H', Same H H' → H' p = some (.tup (xs ++ ys)) → Q (.ref p) H') := Iff.rfl
theorem cx_K {CX : CXT} {P : Program} {w : World} {mg : Str → Option Value} {base : Heap} {N : List Str} {qual : Str} {scope : Scope} {f : Addr} {cd : Value} {A : Around} {outer : List Env} {s : Shared} {E : XK} :
    (cxOf CX P w K mg base N qual scope f cd A outer s H E).K = K := rfl
end
def LoopI (J : It) (g : TG) (tb : TS) (D : Ends) (σ : St) (H : Hp) : Prop := ∃ W : Nat → Nat → St → Hp → Prop, (∃ m, W 0 m σ H) ∧ ∀ i m σ H, W i m σ H →
  (J.stop i H ∧ D.nx σ H) ∨ (J.go i H ∧ ∃ N : St → Hp → Prop, (∀ σ' H', N σ' H' → ∃ m', m' < m ∧ W (i + 1) m' σ' H') ∧ ∀ x H', J.yld i H x H' → g x σ H' fun σ2 H2 => tb { D with nx := N, ct := N, bk := D.nx } σ2 H2)
section
variable {σ : St} {H : Hp} {D : Ends} {K : PySem.W.Frag} {te : TE} {g : TG} {tb : TS} {aa : TA}
theorem tqh : tFor (iStr te) g tb D σ H ↔ te σ H fun x H1 => ∃ z, x = .str z ∧ LoopI (Its z) g tb D σ H1 := Iff.rfl
theorem uqz : tFor (iList K te) g tb D σ H ↔ te σ H fun x H1 => ∃ a, x = .ref a ∧ (∃ xs, SqL K H1 a xs) ∧ LoopI (Itl K a) g tb D σ H1 := Iff.rfl
theorem tqj : tFor (iRng1 aa) g tb D σ H ↔ aa σ H fun vs H1 => ∃ j : Int, vs = [.int j] ∧ -(2 ^ 62) ≤ j ∧ j < 2 ^ 62 ∧ LoopI (Itr 0 j.toNat) g tb D σ H1 := Iff.rfl
theorem rqM {z : Str} (Pv : Nat → St → Hp → Prop) (h0 : Pv 0 σ H)
    (hs : ∀ i c σ H, z.cps.toList[i]? = some c → Pv i σ H → g (.str ⟨#[c]⟩) σ H fun σ2 H2 => tb { D with nx := Pv (i + 1), ct := Pv (i + 1), bk := D.nx } σ2 H2) (hd : ∀ σ H, Pv z.length σ H → D.nx σ H) : LoopI (Its z) g tb D σ H := uqu Pv h0 hs hd
theorem pqp {a : Addr} {xs : List V} (Pv : Nat → St → Hp → Prop) (h0 : Pv 0 σ H) (hl : ∀ i σ H, i ≤ xs.length → Pv i σ H → SqL K H a xs)
    (hs : ∀ i x σ H, xs[i]? = some x → Pv i σ H → g x σ H fun σ2 H2 => tb { D with nx := Pv (i + 1), ct := Pv (i + 1), bk := D.nx } σ2 H2) (hd : ∀ σ H, Pv xs.length σ H → D.nx σ H) : LoopI (Itl K a) g tb D σ H := rqI Pv h0 hl hs hd
theorem hq4 {lo : Int} {n : Nat} (Pv : Nat → St → Hp → Prop) (h0 : Pv 0 σ H)
    (hs : ∀ i σ H, i < n → Pv i σ H → g (.int (lo + i)) σ H fun σ2 H2 => tb { D with nx := Pv (i + 1), ct := Pv (i + 1), bk := D.nx } σ2 H2) (hd : ∀ σ H, Pv n σ H → D.nx σ H) : LoopI (Itr lo n) g tb D σ H := pqR Pv h0 hs hd
end
end L2
namespace L2
open PySem PySem.Spec PyProof.Rows
section
variable {prog : Program} {w : World} {A : Around} {R : Result → Shared → Prop} {s : Shared}
theorem iqG {elt target iter : Expr} {ifs : List Expr} {scope : Scope} {pos : Pos} {it acc : Value} {env : Env} (I : Nat → Shared → Prop)
    (turn : ∀ n s, I n s → wpAny (model prog w) A (pyNext it) (fun r s₁ => match r with
      | none => R (.ok .next) s₁
      | some v => wpAny (model prog w) A (letOwnedTupleGo target it v) (fun _ s₁' => wpAny (model prog w) A (assign target env v) (fun _ s₂ =>
          wpAny (model prog w) A (forIn ifs true fun c r => if r = true then do let ok ← isTrue c env (eval c env); pure (ForInStep.yield ok) else pure (ForInStep.yield r)) (fun ok s₃ =>
            if ok = true then wpAny (model prog w) A (eval elt env) (fun x s₄ =>
              wpAny (model prog w) A (call (.builtin "list.append") [acc, x]) (fun _ s₅ => ∃ m, m < n ∧ I m s₅) (fun _ _ => False) s₄) (fun _ _ => False) s₃
            else ∃ m, m < n ∧ I m s₃) (fun _ _ => False) s₂) (fun _ _ => False) s₁') (fun _ _ => False) s₁) (fun _ _ => False) s)
    (n : Nat) (h : I n s) : codeAny (model prog w) A (.compLoop (.ListComp elt [⟨target, iter, ifs, 0⟩] scope pos) 0 it acc env) R s := by
  refine codeAny_loop rfl I (fun n s hI => ?_) n h
  show wpAny _ A ((compTurn (.ListComp elt [⟨target, iter, ifs, 0⟩] scope pos) 0 it acc env).onRaise (fun x => do noteFrame x env; theTreesLotGoes x)) _ _ s
  refine wpAny_noted ?_
  rw [compTurn_list]
  refine wpAny_bind (wpAny_standAt (wpAny_bind (wpAny_mono (turn n s hI) (fun r s₁ h₁ => ?_) fun _ _ h' => h'.elim)))
  cases r with
  | none => exact wpAny_pure h₁
  | some v =>
    refine wpAny_bind (wpAny_mono h₁ (fun _ s₁' h₁' => wpAny_bind (wpAny_mono h₁' (fun _ s₂ h₂ => wpAny_bind (wpAny_mono h₂ (fun ok s₃ h₃ => ?_) fun _ _ h' => h'.elim)) fun _ _ h' => h'.elim)) fun _ _ h' => h'.elim)
    cases ok with
    | false => exact wpAny_pure ⟨rfl, h₃⟩
    | true =>
      exact wpAny_bind (wpAny_bind (wpAny_mono h₃ (fun x s₄ h₄ => wpAny_bind (wpAny_mono h₄ (fun _ s₅ h₅ => wpAny_pure (wpAny_pure ⟨rfl, h₅⟩)) fun _ _ h' => h'.elim)) fun _ _ h' => h'.elim))
end
def compCx (X : Cx) (N' : List Str) (scope : Scope) (cl : List (Str × Addr)) (s : Shared) (H : Hp) (fp : List Addr) : Cx :=
  { X with N := N', s₀ := s, H₀ := H, env := compEnvC scope cl s.heap.objs.size X.env, outer := X.stack, stack := X.stack, ex := fp, fn := fun _ => false, pn := [], xe := fun _ _ => False }
inductive Frees (X : Cx) (rs : Scope) (cl : List (Str × Addr)) : List Str → List Nat → Prop where
  | nil : Frees X rs cl [] []
  | cons {y : Str} {i : Nat} {fx : List Str} {fr : List Nat} (h1 : X.N[i]? = some y) (h2 : X.env.kindOf y = some .cell) (h3 : rs.names.lookup y = some .cell) (h4 : cl.lookup y = X.env.cells.lookup y) (r : Frees X rs cl fx fr) : Frees X rs cl (y :: fx) (i :: fr)
def frV (σ : St) (fr : List Nat) : St := fr.map fun i => (σ[i]?).getD none
theorem Frees.len {X : Cx} {rs : Scope} {cl : List (Str × Addr)} {fx : List Str} {fr : List Nat} (F : Frees X rs cl fx fr) : fr.length = fx.length := by
  induction F with
  | nil => rfl
  | cons _ _ _ _ _ ih => simp [ih]
theorem Frees.at {X : Cx} {rs : Scope} {cl : List (Str × Addr)} {σ : St} : ∀ {fx : List Str} {fr : List Nat}, Frees X rs cl fx fr → ∀ (j : Nat) (y : Str) (v : V), fx[j]? = some y → (frV σ fr)[j]? = some (some v) →
    ∃ i : Nat, X.N[i]? = some y ∧ σ[i]? = some (some v) ∧ X.env.kindOf y = some .cell ∧ rs.names.lookup y = some .cell ∧ cl.lookup y = X.env.cells.lookup y
  | _, _, .nil, j, y, v, h, _ => by simp at h
  | _, _, .cons (y := z) (i := i) h1 h2 h3 h4 r, 0, y, v, h, hv => by
    simp only [List.getElem?_cons_zero, Option.some.injEq] at h
    subst h
    simp only [frV, List.map_cons, List.getElem?_cons_zero, Option.some.injEq] at hv
    refine ⟨i, h1, ?_, h2, h3, h4⟩
    cases e : σ[i]? with
    | none => rw [e] at hv; cases hv
    | some o => rw [e] at hv; exact congrArg some hv
  | _, _, .cons h1 h2 h3 h4 r, j + 1, y, v, h, hv => by
    simp only [List.getElem?_cons_succ] at h
    simp only [frV, List.map_cons, List.getElem?_cons_succ] at hv
    exact r.at j y v h hv
theorem Frees.mem {X : Cx} {rs : Scope} {cl : List (Str × Addr)} : ∀ {fx : List Str} {fr : List Nat}, Frees X rs cl fx fr → ∀ y ∈ fx, X.env.kindOf y = some .cell ∧ cl.lookup y = X.env.cells.lookup y
  | _, _, .nil, y, h => by simp at h
  | _, _, .cons h1 h2 h3 h4 r, y, h => by
    rcases List.mem_cons.mp h with rfl | h
    · exact ⟨h2, h4⟩
    · exact r.mem y h
section
variable {X : Cx} {pins : List (Addr × Obj)} {σ : St} {H1 : Hp} {s3 : Shared} {x : Str} {fx : List Str} {fr : List Nat} {scope : Scope} {cl : List (Str × Addr)} {fp : List Addr}
theorem uqs (I : Inv X pins σ H1 s3) (hkind : scope.kind = .function) (hcl : ∀ y c, cl.lookup y = some c → X.env.cells.lookup y = some c)
    (F : Frees X (relabel scope X.env) cl fx fr) (hfx : ((relabel scope X.env).names.all fun p => if (p.2 == .cell || p.2 == .free) then fx.contains p.1 else true) = true)
    (ffp : ∀ b ∈ fp, FpOk X pins H1 b) (flt : ∀ b ∈ fp, b < s3.heap.objs.size) : (compCx X (x :: fx) scope cl s3 H1 fp).Ok where
  mod := I.ok.mod
  kind := hkind
  glob := I.ok.glob
  blt := I.ok.blt
  above := Nat.le_refl _
  inj := fun y z c h1 h2 => I.ok.inj y z c (hcl y c h1) (hcl z c h2)
  has := fun y h => by
    have h : (relabel scope X.env).names.lookup y = some .cell ∨ (relabel scope X.env).names.lookup y = some .free := h
    have key : y ∈ fx := by
      rcases h with h | h
      · have q := List.all_eq_true.mp hfx _ (PySem.mem_of_lookup h)
        simpa using q
      · have q := List.all_eq_true.mp hfx _ (PySem.mem_of_lookup h)
        simpa using q
    obtain ⟨k1, k2⟩ := F.mem y key
    obtain ⟨c, e⟩ := I.ok.has y (.inl k1)
    exact ⟨c, k2.trans e⟩
  cab := fun y c h => by cases (show false = true from h)
  hd := I.ok.hd
  frames := I.ok.frames
  stk := .inl rfl
  exf := fun b hb => ⟨Nat.ne_of_lt (flt b hb), fun y c e => (ffp b hb).2.2.2.2.1 y c (hcl y c e)⟩
  bs := I.bs
  bsz := Nat.le_trans I.ok.bsz I.sz
  noex := fun b o e hb => by
    rcases (ffp b hb).2.2.2.1 with z | z
    · exact I.ok.noex b o e z
    · exact absurd (Nat.lt_of_lt_of_le (Heap.lt_size (I.ok.bs b o e).1) z) (Nat.lt_irrefl _)
  exfs := fun b hb z => by
    rcases List.mem_cons.mp (I.stkSub b z) with q | q
    · exact (ffp b hb).2.1 q
    · exact (ffp b hb).2.2.1 q
  funs := I.stack
  frf := I.stkFree
theorem oq7 (I : Inv X pins σ H1 s3) (hkind : scope.kind = .function) (hcl : ∀ y c, cl.lookup y = some c → X.env.cells.lookup y = some c)
    (F : Frees X (relabel scope X.env) cl fx fr) (hfx : ((relabel scope X.env).names.all fun p => if (p.2 == .cell || p.2 == .free) then fx.contains p.1 else true) = true)
    (ffp : ∀ b ∈ fp, FpOk X pins H1 b) (flt : ∀ b ∈ fp, b < s3.heap.objs.size) {h1 : Heap} {t : Nat} {m : Str → Option Value} (hn : h1.Ns s3.heap.objs.size m)
    (keep : ∀ b u, s3.heap.get? b = some u → h1.get? b = some u) : Inv (compCx X (x :: fx) scope cl s3 H1 fp) [] (none :: frV σ fr) H1 { s3 with heap := h1, toks := t } := by
  refine ⟨uqs I hkind hcl F hfx ffp flt, rfl, I.bare, Un.kept keep, ⟨m, hn, fun i y v e1 e2 e3 => ?_⟩, fun y c e => ?_, I.hok.fresh (Nat.le_refl _), fun y c e => I.freeC y c (hcl y c e), fun p hp => absurd (show p ∈ ([] : List (Addr × Obj)) from hp) (by simp), I.hok.kept keep, ?_⟩
  · cases i with
    | zero => simp at e2
    | succ j =>
      obtain ⟨i0, k1, k2, k3, k4, k5⟩ := F.at (σ := σ) j y v (by simpa [compCx] using e1) (by simpa using e2)
      obtain ⟨m0, hn0, hl0⟩ := I.loc
      obtain ⟨u, r, l⟩ := hl0 i0 y v k1 k2 (.inr (.inl k3))
      refine ⟨u, r, ?_⟩
      rcases l with ⟨z, _⟩ | ⟨_, c, e, o, ho, hd⟩
      · rw [k3] at z; cases z
      · exact .inr ⟨.inl k4, c, k5.trans e, o, keep c o ho, hd⟩
  · obtain ⟨v, o, ho, hd⟩ := I.cell y c (hcl y c e)
    exact ⟨v, o, keep c o ho, hd⟩
  · show (none :: frV σ fr).length = (x :: fx).length
    simp [frV, F.len]
theorem mq6 {N' : List Str} {pins' : List (Addr × Obj)} {σ' : St} {H2 : Hp} {s' : Shared} {h' : Heap} (I : Inv X pins σ H1 s3) (J : Inv (compCx X N' scope cl s3 H1 fp) pins' σ' H2 s') (ffp : ∀ b ∈ fp, FpOk X pins H1 b)
    (sb : Heap.SameBut s3.heap.objs.size s'.heap h') : Inv X pins σ H2 { s' with heap := h' } := by
  have k : ∀ b u, b ≠ s3.heap.objs.size → s'.heap.get? b = some u → h'.get? b = some u := fun b u hb e => sb.extBut b u hb e
  have lt : ∀ b u, s3.heap.get? b = some u → b ≠ s3.heap.objs.size := fun b u e => Nat.ne_of_lt (Heap.lt_size e)
  have u : Un (frs X.stack) fp H1 H2 s3.heap s'.heap := J.base
  have u' : Un (frs X.stack) fp H1 H2 s3.heap h' :=
    ⟨fun b o q n hb hx => k b o (lt b o q) (u.keep b o q n hb hx), fun b o q n hb hx => by
        obtain ⟨sl, e⟩ := u.slot b o q n hb hx
        exact ⟨sl, k b _ (lt b o q) e⟩, u.free, fun b o q hx => by
        obtain ⟨o', e⟩ := u.there b o q hx
        exact ⟨o', k b _ (lt b o q) e⟩, u.tups, u.frzs, u.tbls⟩
  have nC : H2 s3.heap.objs.size = none := J.free
  have hok : HOk X.prog X.w H2 h' := fun b uo e => by
    refine (J.hok b uo e).stay (fun c v hc q => k c v ?_ q) (fun _ q => q) fun _ _ q => q
    rintro rfl
    rcases hc with z | z
    · rw [← z, nC] at e; cases e
    · rw [nC] at z; cases z
  have os : s'.os = s3.os := J.os
  have bare := J.bare
  obtain ⟨hh, g, d, t, os'⟩ := s'
  obtain rfl : os' = s3.os := os
  have fin := I.call (h' := h') (g' := g) (d' := d) (t' := t) (ch := fp) u' hok bare fun b hb => by
    obtain ⟨f0, f1, f2, f3, f4, f5⟩ := ffp b hb
    exact ⟨f3, f1, f4, f5⟩
  exact fin
end
def PF (X : Cx) (ifs : List Expr) (t : TT) : Prop :=
  ∀ (pins : List (Addr × Obj)) (s : Shared) (σ : St) (H : Hp) (Q : Bool → Hp → Prop), Inv X pins σ H s → t σ H Q →
    wpAny (model X.prog X.w) X.A (forIn ifs true fun c r => if r = true then do let ok ← isTrue c X.env (eval c X.env); pure (ForInStep.yield ok) else pure (ForInStep.yield r)) (TP X pins σ Q) X.xe s
def tYes : TT := fun _ H Q => Q true H
theorem kq5 {X : Cx} : PF X [] tYes := fun _ _ _ H _ I h => wpAny_tests_nil ⟨H, I, h⟩
def CompI (J : It) (p : Addr) (fv : St) (tt : TT) (te : TE) (Q : VK) (H1 : Hp) : Prop :=
  ∃ W : Nat → Nat → List V → Hp → Prop, (∃ m, W 0 m [] (upd H1 p (.lst []))) ∧ ∀ i m ys H2, W i m ys H2 → H2 p = some (.lst ys) ∧
    ((J.stop i H2 ∧ Q (.ref p) H2) ∨ (J.go i H2 ∧ ys.length < sizeLine ∧ ∀ x H3, J.yld i H2 x H3 → tt (some x :: fv) H3 fun b H4 =>
      if b = true then te (some x :: fv) H4 fun y H5 => H5 p = some (.lst ys) ∧ ∃ m', m' < m ∧ W (i + 1) m' (ys ++ [y]) (upd H5 p (.lst (ys ++ [y])))
      else ∃ m', m' < m ∧ W (i + 1) m' ys H4))
def tComp (wi : TI) (fr : List Nat) (tt : TT) (te : TE) : TE := fun σ H Q => wi σ H fun J H1 => ∀ p, H1 p = none → CompI J p (frV σ fr) tt te Q H1
section
variable {X : Cx} {elt iter : Expr} {x : Str} {px pos : Pos} {ifs : List Expr} {scope : Scope} {cl : List (Str × Addr)} {fx : List Str} {fr : List Nat} {wi : TI} {tt : TT} {te : TE}
theorem pqg {pins : List (Addr × Obj)} {σ : St} {H3 : Hp} {s3 : Shared} {it p : Addr} {fp : List Addr} {tn : Nat → Heap → Prop} {J : It} {Q : VK} {W : Nat → Nat → List V → Hp → Prop} {m0 t : Nat} {h₁ : Heap} {m : Str → Option Value} {RR : Result → Shared → Prop}
    (hc : X.calm = true) (hkind : scope.kind = .function) (hx : scope.names.lookup x = some .local) (hnd : (x :: fx).Nodup)
    (hcl : ∀ y c, cl.lookup y = some c → X.env.cells.lookup y = some c) (F : Frees X (relabel scope X.env) cl fx fr)
    (hfx : ((relabel scope X.env).names.all fun p => if (p.2 == .cell || p.2 == .free) then fx.contains p.1 else true) = true)
    (ht : ∀ s H fp, PF (compCx X (x :: fx) scope cl s H fp) ifs tt) (he : ∀ s H fp, PE (compCx X (x :: fx) scope cl s H fp) elt te)
    (I3 : Inv X pins σ H3 s3) (T : Turn X.prog X.w X.K (.Name x px) J fp it tn) (st3 : tn 0 s3.heap) (ffp : ∀ b ∈ fp, FpOk X pins H3 b) (flt3 : ∀ b ∈ fp, b < s3.heap.objs.size)
    (w0 : W 0 m0 [] H3) (turn : ∀ i m ys H2, W i m ys H2 → H2 p = some (.lst ys) ∧
      ((J.stop i H2 ∧ Q (.ref p) H2) ∨ (J.go i H2 ∧ ys.length < sizeLine ∧ ∀ x H3, J.yld i H2 x H3 → tt (some x :: frV σ fr) H3 fun b H4 =>
        if b = true then te (some x :: frV σ fr) H4 fun y H5 => H5 p = some (.lst ys) ∧ ∃ m', m' < m ∧ W (i + 1) m' (ys ++ [y]) (upd H5 p (.lst (ys ++ [y])))
        else ∃ m', m' < m ∧ W (i + 1) m' ys H4)))
    (hns : h₁.Ns s3.heap.objs.size m) (keep1 : ∀ b u, s3.heap.get? b = some u → h₁.get? b = some u)
    (fin : ∀ s6 H5 o, Inv (compCx X (x :: fx) scope cl s3 H3 fp) [] (o :: frV σ fr) H5 s6 → Q (.ref p) H5 → RR (.ok .next) s6) :
    codeAny (model X.prog X.w) X.A (.compStart (.ListComp elt [⟨.Name x px, iter, ifs, 0⟩] scope pos) 0 (.ref it) (.ref p) (compEnvC scope cl s3.heap.objs.size X.env))
      RR { s3 with heap := h₁, toks := t } := by
  have I4 := oq7 (x := x) (t := t) I3 hkind hcl F hfx ffp flt3 hns keep1
  have st4 : tn 0 h₁ := T.keep _ _ _ st3 fun b hb o e => keep1 b o e
  have fp0 : ∀ b ∈ fp, H3 b = none := fun b hb => (ffp b hb).1
  have hcal : (compCx X (x :: fx) scope cl s3 H3 fp).calm = true := hc
  have stat : ∀ {H' : Hp}, (∀ b ∈ fp, H' b = none) → ∀ b ∈ fp, FpOk (compCx X (x :: fx) scope cl s3 H3 fp) [] H' b := fun {H'} hn b hb => by
    obtain ⟨f0, f1, f2, f3, f4, f5⟩ := ffp b hb
    exact ⟨hn b hb, Nat.ne_of_lt (flt3 b hb), I4.ok.exfs b hb, .inl hb, fun y c e => f4 y c (hcl y c e), fun q hq => absurd (show q ∈ ([] : List (Addr × Obj)) from hq) (by simp)⟩
  have hxl : (relabel scope X.env).names.lookup x = some .local := lookup_relabel_local hx
  have pg : PG (compCx X (x :: fx) scope cl s3 H3 fp) (.Name x px) (gName 0) := cqi (i := 0) hnd rfl (.inl hxl) (.inr hxl)
  have loop : codeAny (model X.prog X.w) X.A (.compLoop (.ListComp elt [⟨.Name x px, iter, ifs, 0⟩] scope pos) 0 (.ref it) (.ref p) (compEnvC scope cl s3.heap.objs.size X.env))
        RR { s3 with heap := h₁, toks := t } := by
    refine iqG (fun n s' => ∃ i ys H' o, Inv (compCx X (x :: fx) scope cl s3 H3 fp) [] (o :: frV σ fr) H' s' ∧ tn i s'.heap ∧ (∀ b ∈ fp, H' b = none) ∧ W i n ys H') ?_ m0 ⟨0, [], _, none, I4, st4, fp0, w0⟩
    rintro n s5 ⟨i, ys, H5, o, I5, st5, fr5, w5⟩
    obtain ⟨hp5, alt⟩ := turn i n ys H5 w5
    rcases alt with ⟨stop, qn⟩ | ⟨go, hlen, step⟩
    · refine thn (T.done (compCx X (x :: fx) scope cl s3 H3 fp) rfl rfl rfl hcal i [] s5 (o :: frV σ fr) H5 _ I5 (stat fr5) st5 stop) fun r s6 ⟨hr, I6⟩ => ?_
      subst hr
      exact fin s6 H5 o I6 qn
    · refine thn (T.item (compCx X (x :: fx) scope cl s3 H3 fp) rfl rfl rfl hcal i [] s5 (o :: frV σ fr) H5 _ I5 (stat fr5) st5 go) fun r s6 ⟨u, hr, h6⟩ => ?_
      subst hr
      refine thn h6 fun _ s7 ⟨y7, H7, I7, r7, yl7, st7, fr7⟩ => ?_
      have I7' := I7.pinned (stat fr7) (T.obj _ _ st7)
      have back : ∀ {σ' : St} {H' : Hp} {s' : Shared}, Inv (compCx X (x :: fx) scope cl s3 H3 fp) ([] ++ pinsAt fp s7.heap) σ' H' s' → tn (i + 1) s'.heap ∧ ∀ b ∈ fp, H' b = none := fun {σ' H' s'} I' => by
        refine ⟨T.keep _ _ _ st7 fun b hb o e => (I'.pin (b, o) (List.mem_append_right _ (List.mem_append_right _ (eqi hb e)))).1, fun b hb => ?_⟩
        obtain ⟨o, e, d⟩ := T.obj _ _ st7 b hb
        exact (I'.pin (b, o) (List.mem_append_right _ (List.mem_append_right _ (eqi hb e)))).2.1
      refine thn (pg _ s7 _ H7 y7 u (fun σ' H' => σ' = some y7 :: frV σ fr ∧ H' = H7) I7' r7 ⟨rfl, rfl⟩) fun _ s8 ⟨σ8, H8, I8, e8, e8'⟩ => ?_
      subst e8 e8'
      refine thn (ht s3 H3 fp _ s8 _ _ _ I8 (step y7 _ yl7)) fun b s9 ⟨H9, I9, q9⟩ => ?_
      cases b with
      | false =>
        rw [if_neg Bool.false_ne_true] at q9 ⊢
        obtain ⟨m', hm, w9⟩ := q9
        exact ⟨m', hm, i + 1, ys, H9, some y7, I9.unpinned, (back I9).1, (back I9).2, w9⟩
      | true =>
        rw [if_pos rfl] at q9 ⊢
        refine thn (he s3 H3 fp _ s9 _ H9 _ I9 q9) fun u10 s10 ⟨y10, H10, I10, r10, hp10, m', hm, w10⟩ => ?_
        refine thn (cqx _ s10 _ H10 (.ref p) [y10] (.ref p) [u10] (fun _ H' => H' = upd H10 p (.lst (ys ++ [y10]))) I10 rfl (.cons r10 .nil) ⟨p, ys, y10, rfl, rfl, hp10, hlen, rfl⟩) fun _ s11 ⟨_, H11, I11, _, e11⟩ => ?_
        subst e11
        exact ⟨m', hm, i + 1, ys ++ [y10], _, some y7, I11.unpinned, (back I11).1, (back I11).2, w10⟩
  exact codeAny_compStart_list loop (T.self _ 0 _ _ _ st4 loop)
theorem jqs (hc : X.calm = true) (hclos : closureFor scope X.env = pure cl) (hcell : ∀ y ∈ scope.names, y.2 ≠ .cell) (hkind : scope.kind = .function)
    (hnames : ∀ y ∈ scope.names, y.2 = .local → scope.names.lookup y.1 = some .local) (hx : scope.names.lookup x = some .local) (hnd : (x :: fx).Nodup)
    (hk : (cl.all fun q => fx.contains q.1) = true) (F : Frees X (relabel scope X.env) cl fx fr)
    (hfx : ((relabel scope X.env).names.all fun p => if (p.2 == .cell || p.2 == .free) then fx.contains p.1 else true) = true)
    (hi : PI X (.Name x px) iter wi) (ht : ∀ s H fp, PF (compCx X (x :: fx) scope cl s H fp) ifs tt) (he : ∀ s H fp, PE (compCx X (x :: fx) scope cl s H fp) elt te)
    (hs : ∀ x, foldedSetIterable iter X.env x = pure x := by intro _; rfl) :
    PE X (.ListComp elt [⟨.Name x px, iter, ifs, 0⟩] scope pos) (tComp wi fr tt te) := by
  intro pins s σ H Q I h
  have hcl : ∀ y c, cl.lookup y = some c → X.env.cells.lookup y = some c := fun y c e => by
    have q := List.all_eq_true.mp hk _ (PySem.mem_of_lookup e)
    rw [← (F.mem y (by simpa using q)).2]
    exact e
  rw [eval_ListComp]
  refine wpAny_comprehension_free (use := none) rfl hs hclos hkind hnames ?_
  refine thn (hi pins s σ H _ I h) fun v s1 h1 => thn h1 fun itv s2 h2 => ?_
  obtain ⟨it, fp, tn, J, H2, e, I2, T, st2, f2, q2⟩ := h2
  subst e
  have hp0 : H2 s2.heap.objs.size = none := I2.hok.fresh (Nat.le_refl _)
  obtain ⟨W, ⟨m0, w0⟩, turn⟩ := q2 _ hp0
  have flt : ∀ b ∈ fp, b < s2.heap.objs.size := fun b hb => by
    obtain ⟨o, e, _⟩ := T.obj _ _ st2 b hb
    exact Heap.lt_size e
  refine wpAny_newObj_type (wpAny_newFunctionEnv hcell (by intro y hy; simp at hy) (fun h₁ hns₁ hsb₁ => ?_) hkind)
  dsimp only at hns₁ hsb₁ ⊢
  have hlay : ∀ b u, s2.heap.get? b = some u → (s2.heap.push { cls := .type "list", dict := none, data := .seq ([] : List Value).toArray }).get? b = some u := fun b u e => Heap.get?_push_of_some _ e
  have hnew : (s2.heap.push { cls := .type "list", dict := none, data := .seq ([] : List Value).toArray }).get? s2.heap.objs.size = some { cls := .type "list", dict := none, data := .seq ([] : List Value).toArray } := Heap.get?_push_size _ rfl
  have hsz : (s2.heap.push { cls := .type "list", dict := none, data := .seq ([] : List Value).toArray }).objs.size = s2.heap.objs.size + 1 := Heap.size_push _ _
  generalize hHH : s2.heap.push { cls := .type "list", dict := none, data := .seq ([] : List Value).toArray } = HH at hns₁ hsb₁ hlay hnew hsz ⊢
  have I3 : Inv X pins σ (upd H2 s2.heap.objs.size (.lst [])) { s2 with heap := HH, toks := s2.toks } :=
    I2.laid (t' := s2.toks) (o := .lst []) hlay (Nat.le_refl _) ⟨Nat.zero_le _, [], 0, .nil, hnew⟩
  have ffp : ∀ b ∈ fp, FpOk X pins (upd H2 s2.heap.objs.size (.lst [])) b := fun b hb => by
    obtain ⟨f0, fr'⟩ := f2 b hb
    exact ⟨by rw [aqu (Nat.ne_of_lt (flt b hb))]; exact f0, fr'⟩
  have keep1 : ∀ b u, HH.get? b = some u → h₁.get? b = some u := fun b u e => hsb₁.extBut b u (Nat.ne_of_lt (Heap.lt_size e)) (Heap.get?_push_of_some _ e)
  exact pqg (s3 := { s2 with heap := HH, toks := s2.toks }) hc hkind hx hnd hcl F hfx ht he I3 T (T.keep _ _ _ st2 fun b hb o e => hlay b o e) ffp (fun b hb => by show b < HH.objs.size; rw [hsz]; exact Nat.lt_succ_of_lt (flt b hb)) w0 turn hns₁ keep1 fun s6 H5 o I6 qn => by
    obtain ⟨m, hn6, _⟩ := id I6.loc
    exact ⟨m, hn6, fun h' sb => ⟨.ref _, H5, mq6 I3 I6 ffp sb, rfl, qn⟩⟩
end
section
variable {p : Addr} {fv : St} {te : TE} {Q : VK} {H1 : Hp}
theorem oqy {z : Str} (hz : z.length ≤ sizeLine) (hp : H1 p = none) (f : Nat → V)
    (he : ∀ c, c ∈ z.cps.toList → ∀ (H' : Hp) (R : VK), (∀ H'', Same H' H'' → R (f c) H'') → te (some (.str ⟨#[c]⟩) :: fv) H' R)
    (hQ : ∀ H', Same H1 H' → H' p = some (.lst (z.cps.toList.map f)) → Q (.ref p) H') : CompI (Its z) p fv tYes te Q H1 := by
  have hl : z.cps.toList.length = z.length := by simp [Str.length]
  refine ⟨fun i m ys H2 => m = z.length - i ∧ i ≤ z.length ∧ ys = (z.cps.toList.take i).map f ∧ H2 p = some (.lst ys) ∧ Same H1 H2, ⟨z.length, by simp, Nat.zero_le _, by simp, aql, fun b o e => by rw [aqu (aqr e hp)]; exact e⟩, ?_⟩
  rintro i m ys H2 ⟨rfl, hi, rfl, hp2, sm⟩
  refine ⟨hp2, ?_⟩
  by_cases hlt : i < z.length
  · refine .inr ⟨hlt, ?_, fun x H3 y => ?_⟩
    · rw [List.length_map, List.length_take]; omega
    · obtain ⟨rfl, c, hc, rfl⟩ := y
      unfold tYes
      dsimp only
      rw [if_pos rfl]
      refine he c (List.mem_of_getElem? hc) _ _ fun H5 s5 => ⟨s5 _ _ hp2, z.length - (i + 1), by omega, rfl, hlt, ?_, aql, fun b o e => ?_⟩
      · rw [List.take_add_one, hc, List.map_append]; rfl
      · rw [aqu (aqr e hp)]; exact s5 _ _ (sm _ _ e)
  · have e : i = z.length := by omega
    subst e
    refine .inl ⟨Nat.le_refl _, hQ H2 sm ?_⟩
    rw [hp2, ← hl, List.take_length]
end
section
variable {σ : St} {H : Hp} {Q : VK} {K : PySem.W.Frag} {tl te : TE} {tt : TT} {fr : List Nat}
theorem tq0 : frV σ [] = [] := rfl
theorem rqr {i : Nat} {r : List Nat} : frV σ (i :: r) = (σ[i]?).getD none :: frV σ r := rfl
theorem wqC {z : Str} {p : Addr} : rJoin K (.str z) [.ref p] H Q ↔ ∃ ys : List Str, SqL K H p (ys.map V.str) ∧ (ys.map (·.length)).sum + ys.length * z.length ≤ 16777216 ∧ Q (.str (Txt.join z ys)) H := by
  constructor
  · rintro ⟨z', p', ys, h1, h2, h3⟩
    cases h1; cases h2
    exact ⟨ys, h3⟩
  · rintro ⟨ys, h⟩
    exact ⟨z, p, ys, rfl, rfl, h⟩
theorem rqQ : tComp (iStr tl) fr tt te σ H Q ↔ tl σ H fun x H1 => ∃ z, x = .str z ∧ ∀ p, H1 p = none → CompI (Its z) p (frV σ fr) tt te Q H1 := Iff.rfl
theorem rqY : tComp (iList K tl) fr tt te σ H Q ↔ tl σ H fun x H1 => ∃ a, x = .ref a ∧ (∃ xs, SqL K H1 a xs) ∧ ∀ p, H1 p = none → CompI (Itl K a) p (frV σ fr) tt te Q H1 := Iff.rfl
end
section
variable {X : Cx} {K : PySem.W.Frag}
theorem aqz (h : X.K = K) : OpR X (binaryOp .Add) (rAddU K) := by subst h; exact qqQ
theorem aqw (h : X.K = K) : IxR X (rIx K) := by subst h; exact vqi
theorem dqT (h : X.K = K) : SlR X (rSl K) := by subst h; exact vqO
theorem cqa (h : X.K = K) : CallR X (.builtin "len") (rLenU K) := by subst h; exact qqy
theorem gqC (h : X.K = K) : MtR X "str.join" (rJoin K) := by subst h; exact tqy
theorem nq5 {tg l : Expr} {tl : TE} (h : X.K = K) (hl : PE X l tl) : PI X tg l (iList K tl) := by subst h; exact sq6 hl
variable {o e : Expr} {es : List Expr} {to : TE} {t : TA} {name : Str} {apos cpos : Pos} {T id : String} {r : V → List V → Hp → VK → Prop}
theorem nqm (h : X.K = K) (pa : PlainAttrs T) (slot : Slot T name id) (hty : typeOf (.builtin id) = pure (.type "method_descriptor")) (hm : MtR X id r) (ho : PE X o to)
    (hbase : attributeBase o name X.env (eval o X.env) = eval o X.env := by rfl) (hline : (apos.endLine == cpos.line) = true := by rfl) : PE X (.Call (.Attribute o name apos) [] [] cpos) (tBM0 K T r to) := by
  subst h; exact wqp pa slot hty hm ho hbase hline
theorem dqf (h : X.K = K) (pa : PlainAttrs T) (slot : Slot T name id) (hty : typeOf (.builtin id) = pure (.type "method_descriptor")) (hm : MtR X id r) (ho : PE X o to) (ha : PA X (e :: es) t)
    (hbase : attributeBase o name X.env (eval o X.env) = eval o X.env := by rfl)
    (hfew : ((backTo cpos (starEach (e :: es) X.env)).all (fun x => !x.1) && (backToKw cpos (keywordEach [] X.env)).all (fun x => x.1.isSome)
      && decide ((e :: es).length + ([] : List Keyword).length + (if ([] : List Keyword).isEmpty then 0 else 1) < 30)) = true := by rfl)
    (hline : (apos.endLine == cpos.line) = true := by rfl) (hs : starEach (e :: es) X.env = (false, eval e X.env) :: starEach es X.env := by rfl) (hplain : (backTo cpos (starEach es X.env)).any (·.1) = false := by rfl) :
    PE X (.Call (.Attribute o name apos) (e :: es) [] cpos) (tBM K T r to t) := by
  subst h; exact wq4 pa slot hty hm ho ha hbase hfew hline hs hplain
end
structure FunD (K : PySem.W.Frag) (x qual : Str) (st : Stmt) (f : Addr) (fd : FuncData) (T : Addr) : Prop where
  ex : ∃ (oc : Value) (od : Option Addr) (kV doc pm : Value) (an : Option Addr) (cdv ct : Value) (osl : Array (Option Value)),
    fd = PySem.W.fnOf x qual (defArgs st) (defBody st) (defScope st) (.ref T) kV doc pm an cdv ct ∧ K.lookup f = some ⟨oc, od, .func fd, osl⟩ ∧ PySem.W.codeIn K cdv qual = true
  kp : PySem.W.keepIn K (.ref f) = true
section
variable {P : Program} {w : World} {K : PySem.W.Frag} {mg : Str → Option Value} {base : Heap}
theorem FunD.binds {x qual : Str} {st : Stmt} {f T : Addr} {fd : FuncData} {ps : List Str} {ds : List Value} {oc : Value} {od : Option Addr} {items : Array Value} {n : Nat} {sl : Array (Option Value)} (F : FunD K x qual st f fd T) (hT : K.lookup T = some ⟨oc, od, .seq items n, sl⟩)
    (h : ∀ (kV doc pm : Value) (an : Option Addr) (cdv ct : Value) (us : List Value), (us ++ ds).length = ps.length → ∃ k : Option (Array Value) → Sem (List (Str × Value)),
      bindArgs (PySem.W.fnOf x qual (defArgs st) (defBody st) (defScope st) (.ref T) kV doc pm an cdv ct) ⟨us, []⟩ = seqItems? (.ref T) >>= k ∧ k (some items) = pure (ps.zip (us ++ ds))) : Binds K fd ps ds := by
  obtain ⟨oc', od', kV, doc, pm, an, cdv, ct, osl, rfl, lk, hcd⟩ := F.ex
  intro s us X hl
  obtain ⟨k, h1, h2⟩ := h kV doc pm an cdv ct us hl
  exact BindsTo.of_defaults (T := T) rfl (X T _ hT) rfl h1 h2
theorem iqp {x qual : Str} {st : Stmt} {f T : Addr} {oc : Value} {od an : Option Addr} {osl : Array (Option Value)} {kV doc pm cdv ct : Value} (l : K.lookup f = some ⟨oc, od, .func (PySem.W.fnOf x qual (defArgs st) (defBody st) (defScope st) (.ref T) kV doc pm an cdv ct), osl⟩)
    (c : PySem.W.codeIn K cdv qual = true) (k : PySem.W.keepIn K (.ref f) = true) : FunD K x qual st f (PySem.W.fnOf x qual (defArgs st) (defBody st) (defScope st) (.ref T) kV doc pm an cdv ct) T := ⟨⟨oc, od, kV, doc, pm, an, cdv, ct, osl, rfl, l, c⟩, k⟩
end
theorem lqp {c : TT} {tb : TS} {D : Ends} {σ : St} {H : Hp} (W : Nat → St → Hp → Prop) (m0 : Nat) (h0 : W m0 σ H)
    (hs : ∀ m σ H, W m σ H → c σ H fun b H1 => if b = true then ∃ N : St → Hp → Prop, (∀ σ' H', N σ' H' → ∃ m', m' < m ∧ W m' σ' H') ∧ tb { D with nx := N, ct := N, bk := D.nx } σ H1 else D.nx σ H1) : tWhile c tb D σ H := ⟨W, ⟨m0, h0⟩, hs⟩
section
variable {σ : St} {H : Hp} {Q : VK}
theorem wq6 {r : V → Hp → VK → Prop} {ta : TE} : tUn r ta σ H Q ↔ ta σ H fun x H1 => r x H1 Q := Iff.rfl
theorem rd_U {g : Int → V} {i : Int} : rU g (.int i) H Q ↔ Q (g i) H := ⟨fun ⟨_, h1, h2⟩ => by cases h1; exact h2, fun h => ⟨i, rfl, h⟩⟩
theorem vqK {l : Addr} {y : V} : rAppend (.ref l) [y] H Q ↔ ∃ xs, H l = some (.lst xs) ∧ xs.length < sizeLine ∧ Q .non (upd H l (.lst (xs ++ [y]))) := by
  constructor
  · rintro ⟨l', xs, y', h1, h2, h3⟩
    cases h1; cases h2
    exact ⟨xs, h3⟩
  · rintro ⟨xs, h⟩
    exact ⟨l, xs, y, rfl, rfl, h⟩
theorem tq4 {K : PySem.W.Frag} {p : Addr} : tyV K "list" (.ref p) H ↔ ∃ xs, SqL K H p xs := by
  constructor
  · rintro (⟨_, h⟩ | ⟨h, _⟩ | ⟨h, _⟩ | ⟨h, _⟩)
    · exact h
    · exact absurd h (by decide)
    · exact absurd h (by decide)
    · exact absurd h (by decide)
  · intro h; exact .inl ⟨rfl, h⟩
end
end L2
namespace L2
open PySem PySem.Spec PyProof.Rows
mutual
inductive Is (H : Hp) : PyData → V → Prop
  | non : Is H .none .non
  | bl (b : Bool) : Is H (.bool b) (.bl b)
  | int (i : Int) : Is H (.int i) (.int i)
  | str (x : Str) : Is H (.str x) (.str x)
  | lst {p : Addr} {xs : List V} {ds : List PyData} : H p = some (.lst xs) → IsAll H ds xs → Is H (.list ds) (.ref p)
  | tup {p : Addr} {xs : List V} {ds : List PyData} : H p = some (.tup xs) → IsAll H ds xs → Is H (.tuple ds) (.ref p)
inductive IsAll (H : Hp) : List PyData → List V → Prop
  | nil : IsAll H [] []
  | cons {d : PyData} {x : V} {ds : List PyData} {xs : List V} : Is H d x → IsAll H ds xs → IsAll H (d :: ds) (x :: xs)
end
mutual
theorem Is.mono {H H' : Hp} (sm : Same H H') : ∀ {d : PyData} {x : V}, Is H d x → Is H' d x
  | _, _, .non => .non
  | _, _, .bl b => .bl b
  | _, _, .int i => .int i
  | _, _, .str x => .str x
  | _, _, .lst h r => .lst (sm _ _ h) (IsAll.mono sm r)
  | _, _, .tup h r => .tup (sm _ _ h) (IsAll.mono sm r)
theorem IsAll.mono {H H' : Hp} (sm : Same H H') : ∀ {ds : List PyData} {xs : List V}, IsAll H ds xs → IsAll H' ds xs
  | _, _, .nil => .nil
  | _, _, .cons h r => .cons (Is.mono sm h) (IsAll.mono sm r)
end
theorem IsAll.length {H : Hp} : ∀ {ds : List PyData} {xs : List V}, IsAll H ds xs → ds.length = xs.length
  | _, _, .nil => rfl
  | _, _, .cons _ r => by rw [List.length_cons, List.length_cons, IsAll.length r]
section
variable {X : Cx} {pins : List (Addr × Obj)} {σ : St} {H : Hp} {s : Shared}
mutual
theorem Is.reads (I : Inv X pins σ H s) : ∀ {d : PyData} {x : V} {v : Value}, Is H d x → RelV x v → ∃ as, Reads s.heap v d as
  | _, _, _, .non, r => by cases r; exact ⟨_, .none⟩
  | _, _, _, .bl b, r => by cases r; exact ⟨_, .bool b⟩
  | _, _, _, .int i, r => by obtain ⟨t, rfl⟩ := r; exact ⟨_, .int i t⟩
  | _, _, _, .str x, r => by obtain ⟨t, rfl⟩ := r; exact ⟨_, .str x t⟩
  | _, _, _, .lst h q, r => by
    cases r
    obtain ⟨its, vs, ⟨o, n, e, c, _, dt⟩, _⟩ := I.list (SqL.of h)
    obtain ⟨as, ra⟩ := IsAll.reads I q vs
    exact ⟨_, .list e c dt (by simpa using ra)⟩
  | _, _, _, .tup h q, r => by
    cases r
    obtain ⟨its, vs, ⟨o, e, c, n, dt⟩, _⟩ := I.tuple (SqT.of h)
    obtain ⟨as, ra⟩ := IsAll.reads I q vs
    exact ⟨_, .tuple e c dt (by simpa using ra)⟩
theorem IsAll.reads (I : Inv X pins σ H s) : ∀ {ds : List PyData} {xs : List V} {vs : List Value}, IsAll H ds xs → Vals xs vs → ∃ as, ReadsAll s.heap vs ds as
  | _, _, _, .nil, r => by cases r; exact ⟨_, .nil⟩
  | _, _, _, .cons q t, r => by
    cases r with
    | cons r1 r2 =>
      obtain ⟨as, h1⟩ := Is.reads I q r1
      obtain ⟨bs, h2⟩ := IsAll.reads I t r2
      exact ⟨_, .cons h1 h2⟩
end
def rEqD : R2 := fun x y H Q => ∃ d e, Is H d x ∧ Is H e y ∧ SeqAt.shaped d = true ∧ SeqAt.shaped e = true ∧ Q (.bl (PyData.eqv d e)) H
def rNeD : R2 := fun x y H Q => ∃ d e, Is H d x ∧ Is H e y ∧ SeqAt.shaped d = true ∧ SeqAt.shaped e = true ∧ Q (.bl (!PyData.eqv d e)) H
theorem sqF (hu : X.A.units + 64 < cLine) : OpR X (compareOp .Eq) rEqD := by
  intro pins s σ H x y v u Q I rx ry h
  obtain ⟨d, e, hx, hy, sx, sy, q⟩ := h
  obtain ⟨as, ra⟩ := hx.reads I rx
  obtain ⟨bs, rb⟩ := hy.reads I ry
  exact eq_dataH ra rb sx sy hu ⟨.bl _, H, I, rfl, q⟩
theorem sqz (hu : X.A.units + 64 < cLine) : OpR X (compareOp .NotEq) rNeD := by
  intro pins s σ H x y v u Q I rx ry h
  obtain ⟨d, e, hx, hy, sx, sy, q⟩ := h
  obtain ⟨as, ra⟩ := hx.reads I rx
  obtain ⟨bs, rb⟩ := hy.reads I ry
  exact ne_dataH ra rb sx sy hu ⟨.bl _, H, I, rfl, q⟩
end
mutual
inductive IsT (H : Hp) : PyData → V → Prop
  | non : IsT H .none .non
  | bl (b : Bool) : IsT H (.bool b) (.bl b)
  | int (i : Int) : IsT H (.int i) (.int i)
  | str (x : Str) : IsT H (.str x) (.str x)
  | tup {p : Addr} {xs : List V} {ds : List PyData} : H p = some (.tup xs) → IsTAll H ds xs → IsT H (.tuple ds) (.ref p)
inductive IsTAll (H : Hp) : List PyData → List V → Prop
  | nil : IsTAll H [] []
  | cons {d : PyData} {x : V} {ds : List PyData} {xs : List V} : IsT H d x → IsTAll H ds xs → IsTAll H (d :: ds) (x :: xs)
end
def SameT (H H' : Hp) : Prop := ∀ b xs, H b = some (.tup xs) → H' b = some (.tup xs)
theorem Same.toT {H H' : Hp} (h : Same H H') : SameT H H' := fun b xs e => h b _ e
theorem jq8 {H : Hp} {p : Addr} {xs : List V} {o : HO} (h : H p = some (.lst xs)) : SameT H (upd H p o) := fun b ys e => by
  rw [aqu (tqx e h (by intro z; cases z))]; exact e
mutual
theorem IsT.mono {H H' : Hp} (sm : SameT H H') : ∀ {d : PyData} {x : V}, IsT H d x → IsT H' d x
  | _, _, .non => .non
  | _, _, .bl b => .bl b
  | _, _, .int i => .int i
  | _, _, .str x => .str x
  | _, _, .tup h r => .tup (sm _ _ h) (IsTAll.mono sm r)
theorem IsTAll.mono {H H' : Hp} (sm : SameT H H') : ∀ {ds : List PyData} {xs : List V}, IsTAll H ds xs → IsTAll H' ds xs
  | _, _, .nil => .nil
  | _, _, .cons h r => .cons (IsT.mono sm h) (IsTAll.mono sm r)
end
mutual
theorem IsT.is {H : Hp} : ∀ {d : PyData} {x : V}, IsT H d x → Is H d x
  | _, _, .non => .non
  | _, _, .bl b => .bl b
  | _, _, .int i => .int i
  | _, _, .str x => .str x
  | _, _, .tup h r => .tup h (IsTAll.is r)
theorem IsTAll.is {H : Hp} : ∀ {ds : List PyData} {xs : List V}, IsTAll H ds xs → IsAll H ds xs
  | _, _, .nil => .nil
  | _, _, .cons h r => .cons (IsT.is h) (IsTAll.is r)
end
theorem IsTAll.append {H : Hp} : ∀ {ds es : List PyData} {xs ys : List V}, IsTAll H ds xs → IsTAll H es ys → IsTAll H (ds ++ es) (xs ++ ys)
  | _, _, _, _, .nil, r => r
  | _, _, _, _, .cons h t, r => .cons h (t.append r)
theorem IsTAll.length {H : Hp} {ds : List PyData} {xs : List V} (h : IsTAll H ds xs) : ds.length = xs.length := h.is.length
section
variable {p : Addr} {fv : St} {te : TE} {Q : VK} {H1 : Hp}
inductive All2 (R : V → V → Hp → Prop) (H : Hp) : List V → List V → Prop
  | nil : All2 R H [] []
  | cons {x y : V} {xs ys : List V} : R x y H → All2 R H xs ys → All2 R H (x :: xs) (y :: ys)
theorem All2.mono {R : V → V → Hp → Prop} (hm : ∀ x y H H', SameT H H' → R x y H → R x y H') {H H' : Hp} (sm : SameT H H') : ∀ {xs ys : List V}, All2 R H xs ys → All2 R H' xs ys
  | _, _, .nil => .nil
  | _, _, .cons h t => .cons (hm _ _ _ _ sm h) (t.mono hm sm)
theorem All2.snoc {R : V → V → Hp → Prop} {H : Hp} {x y : V} (h : R x y H) : ∀ {xs ys : List V}, All2 R H xs ys → All2 R H (xs ++ [x]) (ys ++ [y])
  | _, _, .nil => .cons h .nil
  | _, _, .cons q t => .cons q (t.snoc h)
theorem All2.length {R : V → V → Hp → Prop} {H : Hp} : ∀ {xs ys : List V}, All2 R H xs ys → xs.length = ys.length
  | _, _, .nil => rfl
  | _, _, .cons _ t => by rw [List.length_cons, List.length_cons, t.length]
theorem oqY {K : PySem.W.Frag} {a : Addr} {xs : List V} (hxs : SqL K H1 a xs) (hlen : xs.length ≤ sizeLine) (hp : H1 p = none) (R : V → V → Hp → Prop) (hm : ∀ x y H H', SameT H H' → R x y H → R x y H')
    (he : ∀ x, x ∈ xs → ∀ (H' : Hp) (T : VK), Same H1 H' → (∀ y H'', Same H' H'' → R x y H'' → T y H'') → te (some x :: fv) H' T)
    (hQ : ∀ ys H', Same H1 H' → All2 R H' xs ys → H' p = some (.lst ys) → Q (.ref p) H') : CompI (Itl K a) p fv tYes te Q H1 := by
  refine ⟨fun i m ys H2 => m = xs.length - i ∧ i ≤ xs.length ∧ All2 R H2 (xs.take i) ys ∧ H2 p = some (.lst ys) ∧ Same H1 H2, ⟨xs.length, by simp, Nat.zero_le _, by rw [List.take_zero]; exact .nil, aql, fun b o e => by rw [aqu (aqr e hp)]; exact e⟩, ?_⟩
  rintro i m ys H2 ⟨rfl, hi, hys, hp2, sm⟩
  refine ⟨hp2, ?_⟩
  have q := sm.seq hxs
  have hl := hys.length
  rw [List.length_take] at hl
  by_cases hlt : i < xs.length
  · refine .inr ⟨⟨xs, xs[i], q, by simp [hlt]⟩, by omega, fun x H3 y => ?_⟩
    obtain ⟨rfl, y⟩ := y
    have hc := y xs q
    unfold tYes
    dsimp only
    rw [if_pos rfl]
    refine he x (List.mem_of_getElem? hc) _ _ sm fun y H5 s5 hr => ⟨s5 _ _ hp2, xs.length - (i + 1), by omega, rfl, hlt, ?_, aql, fun b o e => ?_⟩
    · rw [List.take_add_one, hc]
      exact ((hys.mono hm s5.toT).snoc hr).mono hm (jq8 (s5 _ _ hp2))
    · rw [aqu (aqr e hp)]; exact s5 _ _ (sm _ _ e)
  · have e : i = xs.length := by omega
    subst e
    refine .inl ⟨⟨xs, q, Nat.le_refl _⟩, hQ ys H2 sm ?_ hp2⟩
    rw [List.take_length] at hys
    exact hys
end
section
variable {X : Cx}
def rAllB (K : PySem.W.Frag) : List V → Hp → VK → Prop := fun vs H Q => ∃ (p : Addr) (bs : List Bool), vs = [.ref p] ∧ SqL K H p (bs.map V.bl) ∧ Q (.bl (bs.all id)) H
def rAnyB (K : PySem.W.Frag) : List V → Hp → VK → Prop := fun vs H Q => ∃ (p : Addr) (bs : List Bool), vs = [.ref p] ∧ SqL K H p (bs.map V.bl) ∧ Q (.bl (bs.any id)) H
theorem rq1 {bs : List Bool} : ∀ {us : List Value}, Vals (bs.map V.bl) us → ∀ (i : Nat) (v : Value), us[i]? = some v → ∃ b, bs[i]? = some b ∧ v = .bool b := by
  induction bs with
  | nil => intro us r i v h; rw [List.map_nil] at r; cases r; simp at h
  | cons b bs ih =>
    intro us r i v h
    rw [List.map_cons] at r
    cases r with
    | cons r1 r2 =>
      cases i with
      | zero => simp at h; subst h; exact ⟨b, rfl, r1⟩
      | succ i =>
        obtain ⟨c, h1, h2⟩ := ih r2 i v (by simpa using h)
        exact ⟨c, by simpa using h1, h2⟩
theorem qqF (hc : X.calm = true) : CallR X (.builtin "all") (rAllB X.K) := by
  intro pins s σ H xs us Q I r h
  obtain ⟨p, bs, rfl, hq, q⟩ := h
  obtain ⟨u, rfl, ru⟩ := vals1 r
  cases ru
  obtain ⟨its, vs, pl, hl⟩ := I.list hq
  have hI := pl.isList
  have hlt : p < s.heap.objs.size := by obtain ⟨_, e, _⟩ := hI; exact Heap.lt_size e
  refine call_all_walk (wpAny_pyIter_list hI ?_)
  refine ⟨s.heap.objs.size, [s.heap.objs.size, p], [s.heap.objs.size], its.toArray.size, _, _, fun i => (bs[i]?).getD true, rfl, Walks.list (A := X.A.in1) (I.ok.hd hc) _ p (Nat.ne_of_lt hlt) its.toArray,
    ⟨⟨_, Heap.get?_push_size _ rfl, rfl, rfl⟩, hI.push _⟩, fun i v s' Q' E' hP hQ => ?_, fun h' tk hk => ?_⟩
  · obtain ⟨b, e, rfl⟩ := rq1 vs i v (by simpa using hP)
    simp only [e, Option.getD_some] at hQ
    exact wpAny_truthy_bool hQ
  · have hbl := vs.length
    rw [List.length_map] at hbl
    have e : ((List.range its.toArray.size).all fun i => (bs[i]?).getD true) = bs.all id := by
      rw [List.size_toArray, ← hbl]; exact PyProof.Rows.LSm.range_all bs
    exact ⟨.bl _, H, I.kept (t' := tk) (PyProof.Rows.LSm.kept_iter hk), rfl, by rw [e]; exact q⟩
variable {K : PySem.W.Frag}
theorem qq3 (h : X.K = K) (hc : X.calm = true) : CallR X (.builtin "all") (rAllB K) := by subst h; exact qqF hc
def rListU (K : PySem.W.Frag) : List V → Hp → VK → Prop := fun xs H Q => ∃ p ys, xs = [.ref p] ∧ (SqL K H p ys ∨ SqT K H p ys) ∧ ∀ l, H l = none → Q (.ref l) (upd H l (.lst ys))
def rTupleU (K : PySem.W.Frag) : List V → Hp → VK → Prop := fun xs H Q => ∃ p ys, xs = [.ref p] ∧ ((SqL K H p ys ∧ ∀ l, H l = none → Q (.ref l) (upd H l (.tup ys))) ∨ (SqT K H p ys ∧ Q (.ref p) H))
theorem jqr {tg l : Expr} {tl : TE} (h : X.K = K) (hl : PE X l tl) : PI X tg l (iTup K tl) := by subst h; exact vqs hl
end
section
variable {H : Hp} {Q : VK} {K : PySem.W.Frag}
theorem tqt {x : V} {T : String} : rIsiU [x, .ty T] H Q ↔ ∃ k, kindV x H = some k ∧ T ∈ ["bool", "int", "str", "list", "tuple"] ∧ Q (.bl (subT k T)) H := Iff.rfl
theorem sql : kindV .non H = some "NoneType" := rfl
theorem uqm {b : Bool} : kindV (.bl b) H = some "bool" := rfl
theorem sqm {i : Int} : kindV (.int i) H = some "int" := rfl
theorem rql {x : Str} : kindV (.str x) H = some "str" := rfl
theorem rqu {p : Addr} {xs : List V} (h : H p = some (.lst xs)) : kindV (.ref p) H = some "list" := by simp only [kindV, h]
theorem rqZ {p : Addr} {xs : List V} (h : H p = some (.tup xs)) : kindV (.ref p) H = some "tuple" := by simp only [kindV, h]
theorem pqI : ("bool" ∈ ["bool", "int", "str", "list", "tuple"]) = True := by simp
theorem rqp : ("int" ∈ ["bool", "int", "str", "list", "tuple"]) = True := by simp
theorem rqD : ("str" ∈ ["bool", "int", "str", "list", "tuple"]) = True := by simp
theorem rqe : ("list" ∈ ["bool", "int", "str", "list", "tuple"]) = True := by simp
theorem pqi : ("tuple" ∈ ["bool", "int", "str", "list", "tuple"]) = True := by simp
theorem iqh : subT "NoneType" "bool" = false := by decide
theorem iqU : subT "NoneType" "int" = false := by decide
theorem iq3 : subT "NoneType" "str" = false := by decide
theorem iqn : subT "NoneType" "list" = false := by decide
theorem hqi : subT "NoneType" "tuple" = false := by decide
theorem lql : subT "bool" "bool" = true := by decide
theorem mqN : subT "bool" "int" = true := by decide
theorem mqr : subT "bool" "str" = false := by decide
theorem lqx : subT "bool" "list" = false := by decide
theorem kqD : subT "bool" "tuple" = false := by decide
theorem mqb : subT "int" "bool" = false := by decide
theorem nqt : subT "int" "int" = true := by decide
theorem nqI : subT "int" "str" = false := by decide
theorem mqn : subT "int" "list" = false := by decide
theorem lqQ : subT "int" "tuple" = false := by decide
theorem mqS : subT "str" "bool" = false := by decide
theorem nqJ : subT "str" "int" = false := by decide
theorem nqA : subT "str" "str" = true := by decide
theorem mqw : subT "str" "list" = false := by decide
theorem lqM : subT "str" "tuple" = false := by decide
theorem lqn : subT "list" "bool" = false := by decide
theorem mqs : subT "list" "int" = false := by decide
theorem mq2 : subT "list" "str" = false := by decide
theorem lqq : subT "list" "list" = true := by decide
theorem kqt : subT "list" "tuple" = false := by decide
theorem kqQ : subT "tuple" "bool" = false := by decide
theorem lqy : subT "tuple" "int" = false := by decide
theorem lqN : subT "tuple" "str" = false := by decide
theorem kqB : subT "tuple" "list" = false := by decide
theorem jqn : subT "tuple" "tuple" = true := by decide
theorem tq1 {n : Nat} {t : TGs} {v : V} {σ : St} {R : St → Hp → Prop} : gTup K n t v σ H R ↔ ∃ a xs, v = .ref a ∧ SqT K H a xs ∧ xs.length = n ∧ t xs σ H R := Iff.rfl
theorem rq6 {t : TG} {u : TGs} {vs : List V} {σ : St} {R : St → Hp → Prop} : gCons t u vs σ H R ↔ ∃ v r, vs = v :: r ∧ t v σ H fun σ' H' => u r σ' H' R := Iff.rfl
theorem uqi {vs : List V} {σ : St} {R : St → Hp → Prop} : gNil vs σ H R ↔ vs = [] ∧ R σ H := Iff.rfl
theorem uqq {to ti : TE} {t : TSet} {v : V} {σ : St} {R : St → Hp → Prop} : gSub to ti t v σ H R ↔ to σ H fun o H1 => ti σ H1 fun i H2 => t o i v H2 fun H3 => R σ H3 := Iff.rfl
theorem tqN {p : Addr} {k : Int} {v : V} {R : Hp → Prop} : rSetL (.ref p) (.int k) v H R ↔ ∃ xs j, H p = some (.lst xs) ∧ ixN xs.length k = some j ∧ R (upd H p (.lst (xs.set j v))) := by
  constructor
  · rintro ⟨p', xs, k', j, h1, h2, h3⟩; cases h1; cases h2; exact ⟨xs, j, h3⟩
  · rintro ⟨xs, j, h⟩; exact ⟨p, xs, k, j, rfl, rfl, h⟩
end
section
variable {X : Cx} {K : PySem.W.Frag}
theorem pq9 {es : List Expr} {k : Nat} {t : TGs} {n : Nat} {pos : Pos} (h : X.K = K) (hc : X.calm = true) (hg : PGs X es t)
    (hn : (assignEach es X.env).length = n := by rfl) (hst : (assignEach es X.env).findIdx? (·.1) = none := by rfl) : PG X (.Tuple es k pos) (gTup K n t) := by
  subst h; exact sqS hc hg hn hst
end
def SameBut (p : Addr) (H H' : Hp) : Prop := ∀ b o, b ≠ p → H b = some o → H' b = some o
theorem SameBut.refl (p : Addr) (H : Hp) : SameBut p H H := fun _ _ _ e => e
theorem SameBut.trans {p : Addr} {H H' H'' : Hp} (h : SameBut p H H') (h' : SameBut p H' H'') : SameBut p H H'' := fun b o n e => h' b o n (h b o n e)
theorem Same.but {p : Addr} {H H' : Hp} (h : Same H H') : SameBut p H H' := fun b o _ e => h b o e
theorem jqI {p : Addr} {H : Hp} {o : HO} : SameBut p H (upd H p o) := fun b u n e => by rw [aqu n]; exact e
theorem SameBut.toT {p : Addr} {H H' : Hp} {xs : List V} (h : SameBut p H H') (hp : H p = some (.lst xs)) : SameT H H' := fun b ys e => h b _ (tqx e hp (by intro z; cases z)) e
theorem SameBut.same {p : Addr} {H H' : Hp} (h : SameBut p H H') (hp : H p = none) : Same H H' := fun b o e => h b o (aqr e hp) e
section
variable {p : Addr} {fv : St} {te : TE} {Q : VK} {H1 : Hp} {K : PySem.W.Frag}
theorem Same.tup {H H' : Hp} {a : Addr} {xs : List V} (e : Same H H') (h : SqT K H a xs) : SqT K H' a xs := by
  rcases h with (h | ⟨o, h⟩) | h
  · exact .inl (.inl (e _ _ h))
  · exact .inl (.inr ⟨o, e _ _ h⟩)
  · exact .inr h
theorem pqZ {a : Addr} {xs zs : List V} (hxs : SqT K H1 a xs) (hlen : xs.length ≤ sizeLine) (hp : H1 p = none) (hz : zs.length = xs.length)
    (he : ∀ (i : Nat) (x z : V), xs[i]? = some x → zs[i]? = some z → ∀ (H' : Hp) (T : VK), Same H1 H' → (∀ H'', Same H' H'' → T z H'') → te (some x :: fv) H' T)
    (hQ : ∀ H', Same H1 H' → H' p = some (.lst zs) → Q (.ref p) H') : CompI (Itt K a) p fv tYes te Q H1 := by
  refine ⟨fun i m ys H2 => m = xs.length - i ∧ i ≤ xs.length ∧ ys = zs.take i ∧ H2 p = some (.lst ys) ∧ Same H1 H2, ⟨xs.length, by simp, Nat.zero_le _, by simp, aql, fun b o e => by rw [aqu (aqr e hp)]; exact e⟩, ?_⟩
  rintro i m ys H2 ⟨rfl, hi, rfl, hp2, sm⟩
  refine ⟨hp2, ?_⟩
  have q := sm.tup hxs
  by_cases hlt : i < xs.length
  · refine .inr ⟨⟨xs, xs[i], q, by simp [hlt]⟩, ?_, fun x H3 y => ?_⟩
    · rw [List.length_take]; omega
    · obtain ⟨rfl, y⟩ := y
      have hc := y xs q
      have hzi : zs[i]? = some zs[i] := List.getElem?_eq_getElem (by omega)
      unfold tYes
      dsimp only
      rw [if_pos rfl]
      refine he i x _ hc hzi _ _ sm fun H5 s5 => ⟨s5 _ _ hp2, xs.length - (i + 1), by omega, rfl, hlt, ?_, aql, fun b o e => ?_⟩
      · rw [List.take_add_one, hzi]; rfl
      · rw [aqu (aqr e hp)]; exact s5 _ _ (sm _ _ e)
  · have e : i = xs.length := by omega
    subst e
    refine .inl ⟨⟨xs, q, Nat.le_refl _⟩, hQ H2 sm ?_⟩
    rw [hp2, ← hz, List.take_length]
variable {σ : St} {H : Hp} {tl : TE} {tt : TT} {fr : List Nat} {g : TG} {tb : TS} {D : Ends}
theorem rqR : tComp (iTup K tl) fr tt te σ H Q ↔ tl σ H fun x H1 => ∃ a, x = .ref a ∧ (∃ xs, SqT K H1 a xs) ∧ ∀ p, H1 p = none → CompI (Itt K a) p (frV σ fr) tt te Q H1 := Iff.rfl
theorem uqv : tFor (iTup K te) g tb D σ H ↔ te σ H fun x H1 => ∃ a, x = .ref a ∧ (∃ xs, SqT K H1 a xs) ∧ LoopI (Itt K a) g tb D σ H1 := Iff.rfl
theorem nq4 {a : Addr} {xs : List V} (Pv : Nat → St → Hp → Prop) (h0 : Pv 0 σ H) (hl : ∀ i σ H, i ≤ xs.length → Pv i σ H → SqT K H a xs)
    (hs : ∀ i x σ H, xs[i]? = some x → Pv i σ H → g x σ H fun σ2 H2 => tb { D with nx := Pv (i + 1), ct := Pv (i + 1), bk := D.nx } σ2 H2) (hd : ∀ σ H, Pv xs.length σ H → D.nx σ H) : LoopI (Itt K a) g tb D σ H := uqA Pv h0 hl hs hd
theorem qqs {a : Addr} : rAllB K [.ref a] H Q ↔ ∃ bs : List Bool, SqL K H a (bs.map V.bl) ∧ Q (.bl (bs.all id)) H := by
  constructor
  · rintro ⟨p, bs, h1, h2⟩; cases h1; exact ⟨bs, h2⟩
  · rintro ⟨bs, h⟩; exact ⟨a, bs, rfl, h⟩
theorem uqo {a : Addr} : rAnyB K [.ref a] H Q ↔ ∃ bs : List Bool, SqL K H a (bs.map V.bl) ∧ Q (.bl (bs.any id)) H := by
  constructor
  · rintro ⟨p, bs, h1, h2⟩; cases h1; exact ⟨bs, h2⟩
  · rintro ⟨bs, h⟩; exact ⟨a, bs, rfl, h⟩
theorem vqz {a : Addr} : rListU K [.ref a] H Q ↔ ∃ ys, (SqL K H a ys ∨ SqT K H a ys) ∧ ∀ l, H l = none → Q (.ref l) (upd H l (.lst ys)) := by
  constructor
  · rintro ⟨p, bs, h1, h2⟩; cases h1; exact ⟨bs, h2⟩
  · rintro ⟨bs, h⟩; exact ⟨a, bs, rfl, h⟩
theorem vqa {a : Addr} : rTupleU K [.ref a] H Q ↔ ∃ ys, (SqL K H a ys ∧ ∀ l, H l = none → Q (.ref l) (upd H l (.tup ys))) ∨ (SqT K H a ys ∧ Q (.ref a) H) := by
  constructor
  · rintro ⟨p, bs, h1, h2⟩; cases h1; exact ⟨bs, h2⟩
  · rintro ⟨bs, h⟩; exact ⟨a, bs, rfl, h⟩
theorem tqY {a : Addr} {lo hi : Option Int} : rSlT K (.ref a) lo hi H Q ↔ ∃ xs, SqT K H a xs ∧ ¬ (HT.sIx xs.length 0 lo = 0 ∧ HT.sIx xs.length xs.length hi = xs.length) ∧ ∀ p, H p = none → Q (.ref p) (upd H p (.tup (cutV xs lo hi))) := by
  constructor
  · rintro ⟨p, bs, h1, h2⟩; cases h1; exact ⟨bs, h2⟩
  · rintro ⟨bs, h⟩; exact ⟨a, bs, rfl, h⟩
end
def tCut (t u : TS) : TS := fun D σ H => ∃ P : St → Hp → Prop, t { D with nx := P } σ H ∧ ∀ σ' H', P σ' H' → u D σ' H'
section
variable {X : Cx} {st : Stmt} {rest : List Stmt} {t u : TS}
theorem aqH (h1 : PS X st t) (h2 : PSs X rest u) : PSs X (st :: rest) (tCut t u) := by
  intro pins s σ H D I h
  obtain ⟨P, h, hu⟩ := h
  refine wpAny_execs_cons (thn (h1 pins s σ H { D with nx := P } I h) fun f s1 q => ?_)
  cases f with
  | next =>
    obtain ⟨σ', H', I', q⟩ := q
    exact h2 pins s1 σ' H' D I' (hu _ _ q)
  | ret v => exact q
  | brk => exact q
  | cont => exact q
def Later (u : TS) (D : Ends) (σ : St) (H : Hp) : Prop := u D σ H
theorem sqg {D : Ends} {x : Option V} {σ : St} {H : Hp} : Later u D (x :: σ) H ↔ u D (x :: σ) H := Iff.rfl
theorem wqu {D : Ends} {σ : St} {H : Hp} : tCut t u D σ H ↔ ∃ P : St → Hp → Prop, t { D with nx := P } σ H ∧ ∀ σ' H', P σ' H' → Later u D σ' H' := Iff.rfl
end
theorem SameBut.free {p q : Addr} {H H' : Hp} (sb : SameBut p H H') (hq : H' q = none) (hne : q ≠ p) : H q = none := by
  cases e : H q with
  | none => rfl
  | some o => rw [sb q o hne e] at hq; cases hq
theorem SameBut.upd {p q : Addr} {H H' : Hp} {o : HO} (sb : SameBut p H H') (hq : H q = none) : SameBut p H (upd H' q o) := fun b u n e => by
  rw [aqu (aqr e hq)]; exact sb b u n e
theorem IsTAll.snoc {H : Hp} {ds : List PyData} {xs : List V} {d : PyData} {x : V} (h : IsTAll H ds xs) (hd : IsT H d x) : IsTAll H (ds ++ [d]) (xs ++ [x]) := h.append (.cons hd .nil)
theorem bqS {H : Hp} {p : Addr} {o : HO} (hp : H p = none) : Same H (upd H p o) := fun b u e => by rw [aqu (aqr e hp)]; exact e
def tTupS (t : TA) : TE := fun σ H Q => t σ H fun xs H1 => xs.length ≤ sizeLine ∧ ∀ p H', H1 p = none → Same H1 H' → H' p = some (.tup xs) → Q (.ref p) H'
def tLstS (t : TA) : TE := fun σ H Q => t σ H fun xs H1 => xs.length ≤ sizeLine ∧ ∀ p H', H1 p = none → Same H1 H' → H' p = some (.lst xs) → Q (.ref p) H'
section
variable {X : Cx} {es : List Expr} {t : TA} {pos : Pos} {K : PySem.W.Frag}
theorem bqe {x1} (h : PA X es t) : PE X (.Tuple es x1 pos) (tTupS t) := by
  intro pins s σ H Q I hq
  refine wpAny_Tuple_spliced (thn (h pos pins s σ H _ I hq) fun us s1 ⟨xs, H1, I1, r, z, q⟩ => ⟨by rw [← r.length]; exact z, ?_⟩)
  have hf : H1 s1.heap.objs.size = none := I1.hok.fresh (Nat.le_refl _)
  refine ⟨.ref s1.heap.objs.size, upd H1 s1.heap.objs.size (.tup xs), I1.laid (t' := s1.toks) (fun b u e => Heap.get?_push_of_some _ e) (Nat.le_refl _) ?_, rfl, q _ _ hf (bqS hf) aql⟩
  exact ⟨z, us, r, ⟨_, Heap.get?_push_size _ rfl, rfl, _, rfl⟩⟩
theorem dqU (h : PA X es t) : PE X (.List es pos) (tLstS t) := by
  intro pins s σ H Q I hq
  refine wpAny_List_spliced (thn (h pos pins s σ H _ I hq) fun us s1 ⟨xs, H1, I1, r, z, q⟩ => ⟨by rw [← r.length]; exact z, ?_⟩)
  have hf : H1 s1.heap.objs.size = none := I1.hok.fresh (Nat.le_refl _)
  refine ⟨.ref s1.heap.objs.size, upd H1 s1.heap.objs.size (.lst xs), I1.laid (t' := s1.toks) (fun b u e => Heap.get?_push_of_some _ e) (Nat.le_refl _) ?_, rfl, q _ _ hf (bqS hf) aql⟩
  exact ⟨z, us, 0, r, Heap.get?_push_size _ rfl⟩
def rAddS (K : PySem.W.Frag) : R2 := fun x y H Q => match x, y with
  | .int i, .int j => Q (.int (i + j)) H
  | .str i, .str j => i.length + j.length ≤ sizeLine ∧ Q (.str (i ++ j)) H
  | .ref a, .ref b => (∃ xs zs, H a = some (.lst xs) ∧ H b = some (.lst zs) ∧ xs.length + zs.length ≤ sizeLine ∧ ∀ p H', H p = none → Same H H' → H' p = some (.lst (xs ++ zs)) → Q (.ref p) H') ∨
      (∃ xs ys, H a = some (.tup xs) ∧ H b = some (.tup ys) ∧ xs.length + ys.length ≤ sizeLine ∧ ∀ p H', Same H H' → H' p = some (.tup (xs ++ ys)) → Q (.ref p) H')
  | _, _ => False
theorem aqL : OpR X (binaryOp .Add) (rAddS K) := by
  intro pins s σ H x y v u Q I rx ry h
  refine qqQ pins s σ H x y v u Q I rx ry ?_
  cases x with
  | int i =>
    cases y with
    | int j => exact h
    | _ => exact h.elim
  | str i =>
    cases y with
    | str j => exact h
    | _ => exact h.elim
  | ref a =>
    cases y with
    | ref b =>
      rcases h with ⟨xs, zs, h1, h2, h3, h4⟩ | h
      · exact .inl ⟨xs, zs, h1, h2, h3, fun p hp => h4 p _ hp (bqS hp) aql⟩
      · exact .inr h
    | _ => exact h.elim
  | _ => exact h.elim
def rListS (K : PySem.W.Frag) : List V → Hp → VK → Prop := fun xs H Q => ∃ p ys, xs = [.ref p] ∧ (SqL K H p ys ∨ SqT K H p ys) ∧ ∀ l H', H l = none → Same H H' → H' l = some (.lst ys) → Q (.ref l) H'
def rTupleS (K : PySem.W.Frag) : List V → Hp → VK → Prop := fun xs H Q => ∃ p ys, xs = [.ref p] ∧ (SqL K H p ys ∨ H p = some (.tup ys)) ∧ ∀ l H', Same H H' → H' l = some (.tup ys) → Q (.ref l) H'
theorem eqB (h : X.K = K) : CallR X (.type "tuple") (rTupleS K) := by
  subst h
  intro pins s σ H xs us Q I r h
  obtain ⟨p, ys, h1, h2, h3⟩ := h
  rcases h2 with h2 | h2
  · exact hqv pins s σ H xs us Q I r ⟨p, ys, h1, .inl ⟨h2, fun l hl => h3 l _ (bqS hl) aql⟩⟩
  · exact hqv pins s σ H xs us Q I r ⟨p, ys, h1, .inr ⟨SqT.of h2, h3 p H (Same.refl _) h2⟩⟩
def rSlS2 (K : PySem.W.Frag) : V → Option Int → Option Int → Hp → VK → Prop := fun x lo hi H Q => ∃ a xs, x = .ref a ∧ SqT K H a xs ∧
  ¬ (HT.sIx xs.length 0 lo = 0 ∧ HT.sIx xs.length xs.length hi = xs.length) ∧ ∀ p H', H p = none → Same H H' → H' p = some (.tup (cutV xs lo hi)) → Q (.ref p) H'
end
section
variable {σ : St} {H : Hp} {Q : VK} {K : PySem.W.Frag} {aa : TA}
theorem uqe : tTupS aa σ H Q ↔ aa σ H fun xs H1 => xs.length ≤ sizeLine ∧ ∀ p H', H1 p = none → Same H1 H' → H' p = some (.tup xs) → Q (.ref p) H' := Iff.rfl
theorem tqn : tLstS aa σ H Q ↔ aa σ H fun xs H1 => xs.length ≤ sizeLine ∧ ∀ p H', H1 p = none → Same H1 H' → H' p = some (.lst xs) → Q (.ref p) H' := Iff.rfl
theorem tqI {i j : Int} : rAddS K (.int i) (.int j) H Q ↔ Q (.int (i + j)) H := Iff.rfl
theorem tq8 {i j : Str} : rAddS K (.str i) (.str j) H Q ↔ i.length + j.length ≤ sizeLine ∧ Q (.str (i ++ j)) H := Iff.rfl
theorem tqm {a : Addr} : rListS K [.ref a] H Q ↔ ∃ ys, (SqL K H a ys ∨ SqT K H a ys) ∧ ∀ l H', H l = none → Same H H' → H' l = some (.lst ys) → Q (.ref l) H' := by
  constructor
  · rintro ⟨p, bs, h1, h2⟩; cases h1; exact ⟨bs, h2⟩
  · rintro ⟨bs, h⟩; exact ⟨a, bs, rfl, h⟩
theorem tq6 {a : Addr} : rTupleS K [.ref a] H Q ↔ ∃ ys, (SqL K H a ys ∨ H a = some (.tup ys)) ∧ ∀ l H', Same H H' → H' l = some (.tup ys) → Q (.ref l) H' := by
  constructor
  · rintro ⟨p, bs, h1, h2⟩; cases h1; exact ⟨bs, h2⟩
  · rintro ⟨bs, h⟩; exact ⟨a, bs, rfl, h⟩
theorem tqT {a : Addr} {lo hi : Option Int} : rSlS2 K (.ref a) lo hi H Q ↔ ∃ xs, SqT K H a xs ∧ ¬ (HT.sIx xs.length 0 lo = 0 ∧ HT.sIx xs.length xs.length hi = xs.length) ∧ ∀ p H', H p = none → Same H H' → H' p = some (.tup (cutV xs lo hi)) → Q (.ref p) H' := by
  constructor
  · rintro ⟨p, bs, h1, h2⟩; cases h1; exact ⟨bs, h2⟩
  · rintro ⟨bs, h⟩; exact ⟨a, bs, rfl, h⟩
end
def rSlLS (K : PySem.W.Frag) : V → Option Int → Option Int → Hp → VK → Prop := fun x lo hi H Q => ∃ a xs, x = .ref a ∧ SqL K H a xs ∧ ∀ p H', H p = none → Same H H' → H' p = some (.lst (cutV xs lo hi)) → Q (.ref p) H'
theorem sqi {K : PySem.W.Frag} {H : Hp} {Q : VK} {a : Addr} {lo hi : Option Int} : rSlLS K (.ref a) lo hi H Q ↔ ∃ xs, SqL K H a xs ∧ ∀ p H', H p = none → Same H H' → H' p = some (.lst (cutV xs lo hi)) → Q (.ref p) H' := by
  constructor
  · rintro ⟨p, bs, h1, h2⟩; cases h1; exact ⟨bs, h2⟩
  · rintro ⟨bs, h⟩; exact ⟨a, bs, rfl, h⟩
def rIsB (neg : Bool) : R2 := fun x y H Q => match x, y with
  | .bl b, .bl c => Q (.bl (if neg then !decide (b = c) else decide (b = c))) H
  | _, _ => False
theorem wq2 {b c : Bool} {H : Hp} {Q : VK} : rIsB false (.bl b) (.bl c) H Q ↔ Q (.bl (decide (b = c))) H := Iff.rfl
end L2
namespace Wm
open PySem L2
def isSg (c : Nat) : Bool := decide (32 ≤ c) && decide (c ≤ 126) && !decide (c = 37)
def SG : List Nat := (List.range 127).filter isSg
def hexd (n : Nat) : Nat := if n < 10 then 48 + n else 87 + n
def fig (a : Nat) : Option Nat := if 48 ≤ a ∧ a ≤ 57 then some (a - 48) else if 97 ≤ a ∧ a ≤ 102 then some (a - 87) else if 65 ≤ a ∧ a ≤ 70 then some (a - 55) else none
def figV (a : Nat) : V := match fig a with | some n => .int (n : Nat) | none => .non
abbrev one (c : Nat) : V := .str ⟨#[c]⟩
def sgV (n : Nat) : V := if isSg n then one n else .non
def signOf (a b : Nat) : V := match fig a, fig b with | some h, some l => sgV (h * 16 + l) | _, _ => .non
def signOfL : List Nat → V
  | [a, b] => signOf a b
  | _ => .non
theorem sqT {c : Nat} : c ∈ SG ↔ isSg c = true := by
  unfold SG
  rw [List.mem_filter, List.mem_range]
  constructor
  · exact fun h => h.2
  · intro h
    refine ⟨?_, h⟩
    simp only [isSg, Bool.and_eq_true, decide_eq_true_eq] at h
    omega
theorem cq7 {c : Nat} (h : isSg c = true) : 32 ≤ c ∧ c ≤ 126 ∧ c ≠ 37 := by
  simp only [isSg, Bool.and_eq_true, decide_eq_true_eq, Bool.not_eq_true', decide_eq_false_iff_not] at h
  omega
theorem tqK : ∀ n, n < 16 → (Str.ofString "0123456789abcdef").cps.toList[n]? = some (hexd n) := by decide +kernel
theorem vq8 {i : Int} {n : Nat} (e : i = (n : Int)) (h : n < 16) : atI (Str.ofString "0123456789abcdef").cps.toList i = some (hexd n) := by
  rw [e]; exact cqs (tqK n h)
theorem lq1 : (Str.ofString "0123456789abcdef").length ≤ sizeLine := by decide +kernel
theorem rqP : ∀ a, a < 128 → a ∈ (Str.ofString "0123456789abcdef").cps.toList →
    Builtin.Str.occurrences (Str.ofString "0123456789abcdef") ⟨#[a]⟩ 0 (Str.ofString "0123456789abcdef").length 1 = [(fig a).getD 0] ∧ (fig a).isSome = true := by decide +kernel
theorem rqX : ∀ a, a < 128 → ¬ a ∈ (Str.ofString "0123456789abcdef").cps.toList → a ∈ (Str.ofString "0123456789ABCDEF").cps.toList →
    Builtin.Str.occurrences (Str.ofString "0123456789ABCDEF") ⟨#[a]⟩ 0 (Str.ofString "0123456789ABCDEF").length 1 = [(fig a).getD 0] ∧ (fig a).isSome = true := by decide +kernel
theorem wq7 : ∀ a, a < 128 → ¬ a ∈ (Str.ofString "0123456789abcdef").cps.toList → ¬ a ∈ (Str.ofString "0123456789ABCDEF").cps.toList → fig a = none := by decide +kernel
theorem sqn : ∀ n, n < 127 → isSg n = true → (Str.ofString " !\"#$&'()*+,-./0123456789:;<=>?@ABCDEFGHIJKLMNOPQRSTUVWXYZ[\\]^_`abcdefghijklmnopqrstuvwxyz{|}~").cps.toList[n - 32 - (if 37 < n then 1 else 0)]? = some n := by decide +kernel
theorem mqy : (Str.ofString " !\"#$&'()*+,-./0123456789:;<=>?@ABCDEFGHIJKLMNOPQRSTUVWXYZ[\\]^_`abcdefghijklmnopqrstuvwxyz{|}~").length ≤ sizeLine := by decide +kernel
theorem vqt : (Str.ofString " !\"#$&'()*+,-./0123456789:;<=>?@ABCDEFGHIJKLMNOPQRSTUVWXYZ[\\]^_`" ++ Str.ofString "abcdefghijklmnopqrstuvwxyz{|}~" : Str) = ⟨SG.toArray⟩ := by decide +kernel
theorem uqH : (Str.ofString " !\"#$&'()*+,-./0123456789:;<=>?@ABCDEFGHIJKLMNOPQRSTUVWXYZ[\\]^_`").length + (Str.ofString "abcdefghijklmnopqrstuvwxyz{|}~").length ≤ sizeLine := by decide +kernel
theorem sqD : SG.length = 94 := by decide +kernel
theorem uqT (c : Nat) (hc : isSg c = true) : signOf (hexd (c / 16)) (hexd (c % 16)) = one c := by
  have l := cq7 hc
  have key : ∀ h, h < 16 → fig (hexd h) = some h := by decide +kernel
  unfold signOf
  rw [key _ (by omega), key _ (by omega)]
  have e : c / 16 * 16 + c % 16 = c := by omega
  simp only [sgV, e, hc, if_true]
theorem mqU (l : List Nat) (a : Nat) : ∀ k, ((List.range k).map fun j => a + j).filterMap (fun i => l[i]?) = (l.drop a).take k
  | 0 => by simp
  | k + 1 => by
    rw [List.range_succ, List.map_append, List.filterMap_append, mqU l a k, List.take_add_one, List.getElem?_drop]
    simp only [List.map_cons, List.map_nil]
    cases e : l[a + k]? with
    | none => simp [e]
    | some c => simp [e]
def clipI (n : Nat) (v : Int) : Nat := (max 0 (min (if v < 0 then v + n else v) n)).toNat
theorem rqS (a b : Nat) : sliceRange (a : Int) (b : Int) 1 = (List.range (b - a)).map fun j => a + j := by
  unfold sliceRange
  have h1 : (1 : Int) > 0 := by decide
  simp only [h1, if_true, Int.one_mul, Int.ediv_one]
  have e : (if (a : Int) < (b : Int) then (b : Int) - (a : Int) + 1 - 1 else 0).toNat = b - a := by split <;> omega
  rw [e]
  apply List.map_congr_left
  intro j _
  omega
theorem nqy (lo hi : Option Int) (n : Nat) : Builtin.Str.strSliceIndices lo hi 1 n = (List.range ((hi.elim n (clipI n)) - (lo.elim 0 (clipI n)))).map fun j => (lo.elim 0 (clipI n)) + j := by
  unfold Builtin.Str.strSliceIndices
  have h1 : (1 : Int) > 0 := by decide
  simp only [h1, if_true]
  rw [← rqS]
  congr 1
  · cases lo with
    | none => rfl
    | some v => simp only [Option.elim_some, clipI]; omega
  · cases hi with
    | none => rfl
    | some v => simp only [Option.elim_some, clipI]; omega
theorem kqk (l : List Nat) (lo hi : Option Int) : Txt.slice (⟨l.toArray⟩ : Str) lo hi = ⟨((l.drop (lo.elim 0 (clipI l.length))).take ((hi.elim l.length (clipI l.length)) - (lo.elim 0 (clipI l.length)))).toArray⟩ := by
  have hl : (⟨l.toArray⟩ : Str).length = l.length := by simp [Str.length]
  have hb : hi.elim l.length (clipI l.length) ≤ l.length := by
    cases hi with
    | none => exact Nat.le_refl _
    | some v => simp only [Option.elim_some, clipI]; omega
  have hb' : lo.elim 0 (clipI l.length) ≤ l.length := by
    cases lo with
    | none => exact Nat.zero_le _
    | some v => simp only [Option.elim_some, clipI]; omega
  have ef : (fun i : Nat => (⟨l.toArray⟩ : Str).cps[i]?) = fun i => l[i]? := by funext i; simp
  unfold Txt.slice
  rw [hl, nqy, ef]
  split
  · rename_i h
    simp only [List.length_map, List.length_range, beq_self_eq_true, Bool.true_and, beq_iff_eq] at h
    have e1 : lo.elim 0 (clipI l.length) = 0 := by omega
    have e2 : hi.elim l.length (clipI l.length) = l.length := by omega
    rw [e1, e2]
    simp
  · rw [mqU l (lo.elim 0 (clipI l.length)) ((hi.elim l.length (clipI l.length)) - (lo.elim 0 (clipI l.length)))]
theorem lqD (n k : Nat) : clipI n (k : Int) = min k n := by unfold clipI; split <;> omega
theorem dqn (l : List Nat) (k : Nat) : Txt.slice (⟨l.toArray⟩ : Str) (some (k : Int)) none = ⟨(l.drop k).toArray⟩ := by
  rw [kqk]
  simp only [Option.elim_some, Option.elim_none, lqD]
  by_cases h : k ≤ l.length
  · rw [Nat.min_eq_left h, List.take_of_length_le (by simp)]
  · rw [Nat.min_eq_right (by omega), List.drop_eq_nil_of_le (Nat.le_refl _), List.drop_eq_nil_of_le (by omega)]
    simp
theorem oqo (l : List Nat) (k : Nat) : Txt.slice (⟨l.toArray⟩ : Str) none (some (k : Int)) = ⟨(l.take k).toArray⟩ := by
  rw [kqk]
  simp only [Option.elim_some, Option.elim_none, lqD, List.drop_zero, Nat.sub_zero]
  by_cases h : k ≤ l.length
  · rw [Nat.min_eq_left h]
  · rw [Nat.min_eq_right (by omega), List.take_length, List.take_of_length_le (by omega)]
theorem qqq (l : List Nat) (i j : Nat) : Txt.slice (⟨l.toArray⟩ : Str) (some (i : Int)) (some (j : Int)) = ⟨((l.drop i).take (j - i)).toArray⟩ := by
  rw [kqk]
  simp only [Option.elim_some, lqD]
  by_cases h : i ≤ l.length
  · rw [Nat.min_eq_left h]
    by_cases h2 : j ≤ l.length
    · rw [Nat.min_eq_left h2]
    · rw [Nat.min_eq_right (by omega : l.length ≤ j), List.take_of_length_le (by simp), List.take_of_length_le (by simp; omega)]
  · rw [Nat.min_eq_right (by omega : l.length ≤ i), List.drop_eq_nil_of_le (Nat.le_refl _), List.drop_eq_nil_of_le (by omega)]
    simp
theorem vqh : Str.ofString "" = ⟨([] : List Nat).toArray⟩ := by decide +kernel
theorem oqq (ys : List Str) : Txt.join (⟨([] : List Nat).toArray⟩ : Str) ys = ⟨(ys.flatMap fun y => y.cps.toList).toArray⟩ := by
  show Builtin.Str.glued _ _ = _
  rw [StrLaws.glued_eq_join]
  induction ys with
  | nil => rfl
  | cons y r ih =>
    cases r with
    | nil =>
      show y = _
      simp
    | cons z r =>
      show y ++ (⟨#[]⟩ : Str) ++ Str.join ⟨#[]⟩ (z :: r) = _
      rw [ih]
      show Str.mk (y.cps ++ #[] ++ _) = _
      simp [List.flatMap_cons]
theorem kqZ (l m : List Nat) : ((⟨l.toArray⟩ : Str) ++ (⟨m.toArray⟩ : Str)) = ⟨(l ++ m).toArray⟩ := by
  show Str.mk (l.toArray ++ m.toArray) = _
  simp
theorem hqO {l m : List Nat} : ((⟨l.toArray⟩ : Str) = ⟨m.toArray⟩) ↔ l = m := by
  constructor
  · intro h; injection h with h; injection h
  · rintro rfl; rfl
theorem dqd (l : List Nat) : (⟨l.toArray⟩ : Str).length = l.length := by simp [Str.length]
theorem sqd : Str.ofString "~" = ⟨[126].toArray⟩ := by decide +kernel
theorem tqQ (l : List Nat) : Txt.slice (⟨l.toArray⟩ : Str) (some 1) none = ⟨(l.drop 1).toArray⟩ := dqn l 1
theorem gqp {a n : Nat} (h : fig a = some n) : figV a = .int (n : Nat) := by unfold figV; rw [h]
theorem kqb {a : Nat} (h : fig a = none) : figV a = .non := by unfold figV; rw [h]
theorem uqb {n : Nat} (h : isSg n = true) : sgV n = one n := by unfold sgV; rw [if_pos h]
theorem qq8 {n : Nat} (h : ¬ isSg n = true) : sgV n = .non := by unfold sgV; rw [if_neg h]
theorem uqD {n : Nat} (h1 : 32 ≤ n) (h2 : n ≤ 126) (h3 : n ≠ 37) : isSg n = true := by
  simp only [isSg, Bool.and_eq_true, decide_eq_true_eq, Bool.not_eq_true', decide_eq_false_iff_not]
  omega
theorem pqb {l : List Nat} (h : l.length ≠ 2) : signOfL l = .non := by
  match l with
  | [] => rfl
  | [_] => rfl
  | [_, _] => exact absurd rfl h
  | _ :: _ :: _ :: _ => rfl
theorem wqo {l : List Nat} (h : l.length = 2) : ∃ a b, l = [a, b] := by
  match l, h with
  | [a, b], _ => exact ⟨a, b, rfl⟩
theorem tqE (l : List Nat) (m k : Int) (h0 : 0 < k) (h : k ≤ l.length) : ∃ a, a ∈ l ∧ atI l (m % k) = some a := by
  have h1 := Int.emod_nonneg m (show k ≠ 0 by omega)
  have h2 := Int.emod_lt_of_pos m h0
  have h3 : (m % k).toNat < l.length := by omega
  refine ⟨l[(m % k).toNat], List.getElem_mem _, ?_⟩
  have := cqs (xs := l) (j := (m % k).toNat) (v := l[(m % k).toNat]) (by simp [h3])
  rw [Int.toNat_of_nonneg h1] at this
  exact this
def isPl (c : Nat) : Bool := decide (48 ≤ c ∧ c ≤ 57) || decide (65 ≤ c ∧ c ≤ 90) || decide (97 ≤ c ∧ c ≤ 122) || decide (c = 45) || decide (c = 46) || decide (c = 95)
theorem oqz : ∀ c, c < 128 → (decide (c ∈ (Str.ofString "abcdefghijklmnopqrstuvwxyzABCDEFGHIJKLMNOPQRSTUVWXYZ0123456789-_.").cps.toList)) = isPl c := by decide +kernel
def wr1 (c : Nat) : List Nat := if isPl c then [c] else [126, hexd (c / 16), hexd (c % 16)]
def wr (l : List Nat) : List Nat := l.flatMap wr1
theorem pqv (c : Nat) : (wr1 c).length ≤ 3 := by unfold wr1; split <;> simp
theorem hql (l : List Nat) : (wr l).length ≤ 3 * l.length := by
  induction l with
  | nil => simp [wr]
  | cons c r ih =>
    have := pqv c
    unfold wr at ih ⊢
    rw [List.flatMap_cons, List.length_append, List.length_cons]
    omega
def sgO (a b : Nat) : Option Nat := match fig a, fig b with
  | some h, some l => if isSg (h * 16 + l) then some (h * 16 + l) else none
  | _, _ => none
def oV : Option Nat → V
  | some c => one c
  | none => .non
theorem pqU (a b : Nat) : signOf a b = oV (sgO a b) := by
  unfold signOf sgO
  cases fig a with
  | none => rfl
  | some h =>
    cases fig b with
    | none => rfl
    | some l =>
      simp only [sgV]
      split <;> rfl
theorem tqL {c : Nat} (hc : isSg c = true) : sgO (hexd (c / 16)) (hexd (c % 16)) = some c := by
  have l := cq7 hc
  have key : ∀ h, h < 16 → fig (hexd h) = some h := by decide +kernel
  unfold sgO
  rw [key _ (by omega), key _ (by omega)]
  have e : c / 16 * 16 + c % 16 = c := by omega
  simp only [e, hc, if_true]
def sgAt (c : Int) : Nat := SG.getD (c % 94).toNat 32
theorem tqo (c : Int) : atI SG (c % 94) = some (sgAt c) ∧ isSg (sgAt c) = true := by
  have h1 := Int.emod_nonneg c (show (94 : Int) ≠ 0 by decide)
  have h2 := Int.emod_lt_of_pos c (show (0 : Int) < 94 by decide)
  have h3 : (c % 94).toNat < SG.length := by rw [sqD]; omega
  have e : SG[(c % 94).toNat]? = some (sgAt c) := by
    unfold sgAt
    rw [List.getElem?_eq_getElem h3, List.getD_eq_getElem?_getD, List.getElem?_eq_getElem h3]
    rfl
  refine ⟨?_, sqT.mp (List.mem_of_getElem? e)⟩
  have := cqs e
  rw [Int.toNat_of_nonneg h1] at this
  exact this
theorem tqc {ns : List Int} {k : Nat} (h : k < ns.length) : atI (ns.map V.int) (k : Int) = some (.int (ns.getD k 0)) := by
  refine cqs ?_
  rw [List.getElem?_map, List.getElem?_eq_getElem h, List.getD_eq_getElem?_getD, List.getElem?_eq_getElem h]
  rfl
theorem aqh {n : Nat} (h : n ≤ 100000) : n ≤ sizeLine := Nat.le_trans h (by decide)
theorem uqS (f : Nat → Nat) (l : List Nat) : (l.toArray).map f = (l.map f).toArray := by simp
theorem qqN (l : List Nat) : (⟨l.toArray⟩ : Str).cps.toList = l := rfl
theorem rqn {H : Hp} {p : Addr} {o : HO} (hp : H p = none) : Same H (upd H p o) := fun b u e => by rw [aqu (aqr e hp)]; exact e
theorem sq2 : SG.length ≤ sizeLine := aqh (by rw [sqD]; decide)
theorem oqQ (dn : List Nat) : ((dn.map fun c => (⟨[c].toArray⟩ : Str)).flatMap fun y => y.cps.toList) = dn := by
  induction dn with
  | nil => rfl
  | cons c r ih => rw [List.map_cons, List.flatMap_cons, ih]; rfl
theorem qqa (dn : List Nat) : ((dn.map fun c => (⟨[c].toArray⟩ : Str)).map (·.length)).sum = dn.length := by
  induction dn with
  | nil => rfl
  | cons c r ih => rw [List.map_cons, List.map_cons, List.sum_cons, ih, List.length_cons]; show 1 + _ = _; omega
theorem tqf (xs : List V) (m k : Int) (h0 : 0 < k) (h : k ≤ xs.length) : ∃ a, a ∈ xs ∧ atI xs (m % k) = some a := by
  have h1 := Int.emod_nonneg m (show k ≠ 0 by omega)
  have h2 := Int.emod_lt_of_pos m h0
  have h3 : (m % k).toNat < xs.length := by omega
  refine ⟨xs[(m % k).toNat], List.getElem_mem _, ?_⟩
  have := cqs (xs := xs) (j := (m % k).toNat) (v := xs[(m % k).toNat]) (by simp [h3])
  rw [Int.toNat_of_nonneg h1] at this
  exact this
def hit (a b c : Nat) : Bool := decide ([hexd (c / 16), hexd (c % 16)] = [PyProof.Rows.lo1 a, PyProof.Rows.lo1 b])
end Wm
namespace Wm
open PySem L2
mutual
def smallD : PyData → Bool
  | .str x => decide (x.length ≤ 100000)
  | .list xs => decide (xs.length ≤ 100000) && smallAll xs
  | .tuple xs => decide (xs.length ≤ 100000) && smallAll xs
  | .dict _ => false
  | .none => true
  | .bool _ => true
  | .int _ => true
def smallAll : List PyData → Bool
  | [] => true
  | d :: ds => smallD d && smallAll ds
end
theorem mqG {x : Str} (h : smallD (.str x) = true) : x.length ≤ 100000 := by simpa [smallD] using h
def isLet (c : Nat) : Bool := decide (65 ≤ c ∧ c ≤ 90) || decide (97 ≤ c ∧ c ≤ 122)
def isAln (c : Nat) : Bool := isLet c || decide (48 ≤ c ∧ c ≤ 57)
theorem vqp : ∀ c, c < 128 → (decide (c ∈ (Str.ofString "abcdefghijklmnopqrstuvwxyzABCDEFGHIJKLMNOPQRSTUVWXYZ").cps.toList)) = isLet c := by decide +kernel
theorem vqY : ∀ c, c < 128 → (decide (c ∈ (Str.ofString "abcdefghijklmnopqrstuvwxyzABCDEFGHIJKLMNOPQRSTUVWXYZ0123456789").cps.toList)) = isAln c := by decide +kernel
theorem wqs : (Str.ofString " !\"#$&'()*+,-./0123456789:;<=>?@ABCDEFGHIJKLMNOPQRSTUVWXYZ[\\]^_`abcdefghijklmnopqrstuvwxyz{|}~").cps.toList = SG := by decide +kernel
theorem vq7 (c : Nat) : (decide (c ∈ (Str.ofString " !\"#$&'()*+,-./0123456789:;<=>?@ABCDEFGHIJKLMNOPQRSTUVWXYZ[\\]^_`abcdefghijklmnopqrstuvwxyz{|}~").cps.toList)) = isSg c := by
  rw [wqs, Bool.eq_iff_iff, decide_eq_true_eq, sqT]
def tx : PyData → Bool
  | .str x => x.cps.toList.all isSg
  | _ => false
def schD : PyData → Bool
  | .str x => x.cps.toList.all isSg && decide (x.length ≤ 8) && (x.cps.toList.take 1).all isLet && x.cps.toList.all isAln
  | _ => false
abbrev st (l : List Nat) : PyData := .str ⟨l.toArray⟩
def oD : Option (List Nat) → PyData
  | none => .none
  | some l => st l
def otV : Option (List Nat) → V
  | none => .non
  | some l => .str ⟨l.toArray⟩
theorem mql {H : Hp} (o : Option (List Nat)) : IsT H (oD o) (otV o) := by
  cases o with
  | none => exact .non
  | some x => exact .str _
def iD : Option Int → PyData
  | none => .none
  | some i => .int i
def qD : Option (List (List Nat × Option (List Nat))) → PyData
  | none => .none
  | some ps => .tuple (ps.map fun p => .tuple [st p.1, oD p.2])
structure Ad where
  scheme : List Nat
  house : Option (List Nat)
  door : Option Int
  rooted : Bool
  steps : List (List Nat)
  ends : Bool
  quest : Option (List (List Nat × Option (List Nat)))
  mark : Option (List Nat)
def Ad.way (x : Ad) : PyData := .tuple [.bool x.rooted, .tuple (x.steps.map st), .bool x.ends]
def Ad.data (x : Ad) : PyData := .tuple [st x.scheme, oD x.house, iD x.door, x.way, qD x.quest, oD x.mark]
def Tx (n : Nat) (l : List Nat) : Prop := l.length ≤ n ∧ ∀ c ∈ l, isSg c = true
structure Ad.Ok (x : Ad) : Prop where
  sch : x.scheme.length ≤ 8 ∧ (∀ c ∈ x.scheme, isAln c = true) ∧ ∀ c ∈ x.scheme.take 1, isLet c = true
  hou : ∀ l, x.house = some l → 0 < l.length ∧ Tx 60 l
  doo : ∀ i, x.door = some i → (0 ≤ i ∧ i ≤ 65535) ∧ x.house ≠ none
  stp : x.steps.length ≤ 50 ∧ ∀ l ∈ x.steps, 0 < l.length ∧ Tx 60 l
  roo : x.scheme ≠ [] ∨ x.house ≠ none → x.rooted = true
  end_ : x.steps = [] → x.ends = x.rooted
  que : ∀ ps, x.quest = some ps → ps.length ≤ 20 ∧ ∀ p ∈ ps, (0 < p.1.length ∧ Tx 6 p.1) ∧ ∀ v, p.2 = some v → Tx 6 v
  mar : ∀ l, x.mark = some l → Tx 60 l
theorem mqK {c : Nat} (h : isAln c = true) : isSg c = true := by
  simp only [isAln, isLet, Bool.or_eq_true, decide_eq_true_eq] at h
  simp only [isSg, Bool.and_eq_true, decide_eq_true_eq, Bool.not_eq_true', decide_eq_false_iff_not]
  omega
theorem wqY {α : Type} (l : List α) {r : Int} (h0 : 0 ≤ r) (h1 : r < l.length) : ∃ c, c ∈ l ∧ atI l r = some c := by
  have h3 : r.toNat < l.length := by omega
  refine ⟨l[r.toNat], List.getElem_mem _, ?_⟩
  have := cqs (xs := l) (j := r.toNat) (v := l[r.toNat]) (by simp [h3])
  rw [Int.toNat_of_nonneg h0] at this
  exact this
def AL : List Nat := (Str.ofString "abcdefghijklmnopqrstuvwxyzABCDEFGHIJKLMNOPQRSTUVWXYZ0123456789").cps.toList
theorem uqZ : (Str.ofString "abcdefghijklmnopqrstuvwxyzABCDEFGHIJKLMNOPQRSTUVWXYZ" ++ Str.ofString "0123456789" : Str) = ⟨AL.toArray⟩ := by decide +kernel
theorem sqy : AL.length = 62 := by decide +kernel
theorem vqW : ∀ c ∈ AL, isAln c = true := by decide +kernel
theorem vqm : ∀ i, i < 52 → ∃ c, AL[i]? = some c ∧ isLet c = true := by
  have h : ∀ i, i < 52 → (AL[i]?).any isLet = true := by decide +kernel
  intro i hi
  have := h i hi
  cases e : AL[i]? with
  | none => rw [e] at this; cases this
  | some c => rw [e] at this; exact ⟨c, rfl, this⟩
theorem nqk {α : Type} (l : List α) (c : α) : (l ++ [c]).take 1 = if l.length = 0 then [c] else l.take 1 := by
  cases l with
  | nil => rfl
  | cons a r => rfl
def itV : Option Int → V
  | none => .non
  | some i => .int i
theorem tqW {H : Hp} (o : Option Int) : IsT H (iD o) (itV o) := by
  cases o with
  | none => exact .non
  | some x => exact .int _
theorem oqA : ∀ {ss : List (List Nat)}, (∀ l ∈ ss, ∀ c ∈ l, isSg c = true) → PyData.canLayAll0 (ss.map st) = true ∧ PyData.depthAll (ss.map st) = 0
  | [], _ => ⟨rfl, rfl⟩
  | l :: r, h => by
    obtain ⟨h1, h2⟩ := oqA (ss := r) fun l' hl' => h l' (List.mem_cons_of_mem _ hl')
    have hc : PyData.strOk ⟨l.toArray⟩ = true := by
      simp only [PyData.strOk, List.all_toArray, List.all_eq_true, decide_eq_true_eq]
      intro c hc
      have := cq7 (h l List.mem_cons_self c hc)
      omega
    refine ⟨?_, ?_⟩
    · simp only [List.map_cons, PyData.canLayAll0, PyData.canLay0, hc, h1]; rfl
    · simp only [List.map_cons, PyData.depthAll, PyData.depth, h2]; rfl
theorem iqI {ss : List (List Nat)} (h : ∀ l ∈ ss, ∀ c ∈ l, isSg c = true) : SeqAt.shaped (.tuple (ss.map st)) = true := by
  obtain ⟨h1, h2⟩ := oqA h
  unfold SeqAt.shaped
  simp only [PyData.canLay0, PyData.depth, h1, h2]
  decide
theorem qqZ (ds : List PyData) : PyData.eqv (.tuple ds) (.tuple []) = ds.isEmpty := by
  cases ds <;> simp [PyData.eqv, PyData.eqvAll]
theorem gqV {l : List Nat} : ((⟨l.toArray⟩ : Str) = ⟨#[]⟩) ↔ l = [] := hqO (m := [])
def Bad (f : PyData → Bool) (H : Hp) (v : V) : Prop := ∃ d, Is H d v ∧ smallD d = true ∧ f d = false
def Bads (f : PyData → Bool) (H : Hp) (vs : List V) : Prop := ∀ v ∈ vs, Bad f H v
theorem Bads.cons {f : PyData → Bool} {H : Hp} {v : V} {vs : List V} (h : Bad f H v) (r : Bads f H vs) : Bads f H (v :: vs) := fun w hw => by
  rcases List.mem_cons.mp hw with rfl | hw
  · exact h
  · exact r w hw
theorem jqP {q : Addr} {H H' : Hp} {o : HO} (hq : H q = none) (sm : Same H H') : Same H (upd H' q o) := fun b u e => by
  rw [aqu (aqr e hq)]; exact sm _ _ e
end Wm
namespace Wm
open PySem L2
def dg (i : Int) : List Nat := (Str.ofString (toString i)).cps.toList
theorem sqU {i : Int} (hi : 0 ≤ i) : ∀ c ∈ dg i, 48 ≤ c ∧ c ≤ 57 := by
  intro c hc
  obtain ⟨n, rfl⟩ := Int.eq_ofNat_of_zero_le hi
  unfold dg at hc
  rw [PySem.W.KIN.signs_num, List.mem_map] at hc
  obtain ⟨d, hd, rfl⟩ := hc
  have := Nat.isDigit_of_mem_toDigits (by decide) (by decide) hd
  simp only [Char.isDigit, Bool.and_eq_true, decide_eq_true_eq] at this
  exact ⟨this.1, this.2⟩
theorem nqX {i : Int} (hi : 0 ≤ i) (hi' : i ≤ 65535) : (dg i).length ≤ 5 := by
  have := PyProof.Rows.toString_length_le hi (k := 5) (by decide) (by omega)
  simpa [dg, Str.length] using this
def Hd (p : Nat → Bool) (r : List Nat) : Prop := ∀ c r', r = c :: r' → p c = true
theorem Hd.cons {p : Nat → Bool} {c : Nat} {r : List Nat} (h : p c = true) : Hd p (c :: r) := fun d r' e => by injection e with e; exact e ▸ h
def wch (c : Nat) : Bool := isPl c || decide (c = 126)
theorem pqk : ∀ n, n < 16 → isPl (hexd n) = true := by decide +kernel
theorem xqa {l : List Nat} (h : ∀ c ∈ l, isSg c = true) : ∀ c ∈ wr l, wch c = true := by
  intro c hc
  unfold wr at hc
  obtain ⟨d, hd, hc⟩ := List.mem_flatMap.mp hc
  have := cq7 (h d hd)
  unfold wr1 at hc
  split at hc
  · next hp => rw [List.mem_singleton] at hc; rw [hc, wch, hp]; rfl
  · simp only [List.mem_cons, List.not_mem_nil, or_false] at hc
    rcases hc with rfl | rfl | rfl
    · rfl
    · rw [wch, pqk _ (by omega)]; rfl
    · rw [wch, pqk _ (by omega)]; rfl
theorem uqy {c : Nat} (h : wch c = true) : c ≠ 35 ∧ c ≠ 38 ∧ c ≠ 47 ∧ c ≠ 58 ∧ c ≠ 61 ∧ c ≠ 63 := by
  simp only [wch, isPl, Bool.or_eq_true, decide_eq_true_eq] at h
  omega
theorem uqP {c : Nat} (h : isAln c = true) : wch c = true := by
  simp only [isAln, isLet, Bool.or_eq_true, decide_eq_true_eq] at h
  simp only [wch, isPl, Bool.or_eq_true, decide_eq_true_eq]
  omega
def tlT (sep : Nat) : List (List Nat) → List Nat
  | [] => []
  | s :: r => sep :: (s ++ tlT sep r)
def joinT (sep : Nat) : List (List Nat) → List Nat
  | [] => []
  | s :: r => s ++ tlT sep r
theorem sqJ {sep : Nat} {P : Nat → Prop} (hs : P sep) : ∀ {a : List (List Nat)}, (∀ s ∈ a, ∀ c ∈ s, P c) → ∀ c ∈ tlT sep a, P c
  | [], _, c, hc => by cases hc
  | s :: a, h, c, hc => by
    simp only [tlT, List.mem_cons, List.mem_append] at hc
    rcases hc with rfl | hc | hc
    · exact hs
    · exact h s (List.mem_cons_self ..) c hc
    · exact sqJ hs (fun t ht => h t (List.mem_cons_of_mem _ ht)) c hc
theorem oqe {sep : Nat} {P : Nat → Prop} (hs : P sep) {a : List (List Nat)} (h : ∀ s ∈ a, ∀ c ∈ s, P c) : ∀ c ∈ joinT sep a, P c := by
  intro c hc
  match a with
  | [] => cases hc
  | s :: a =>
    simp only [joinT, List.mem_append] at hc
    rcases hc with hc | hc
    · exact h s (List.mem_cons_self ..) c hc
    · exact sqJ hs (fun t ht => h t (List.mem_cons_of_mem _ ht)) c hc
def oT (sep : Nat) : Option (List Nat) → List Nat
  | none => []
  | some l => sep :: wr l
def pairT (p : List Nat × Option (List Nat)) : List Nat := wr p.1 ++ oT 61 p.2
def queT : Option (List (List Nat × Option (List Nat))) → List Nat
  | none => []
  | some ps => 63 :: joinT 38 (ps.map pairT)
def wayT (r : Bool) (ss : List (List Nat)) (e : Bool) : List Nat := (if r then [47] else []) ++ (joinT 47 (ss.map wr) ++ (if e && !ss.isEmpty then [47] else []))
def dooT : Option Int → List Nat
  | none => []
  | some i => 58 :: dg i
def houT : Option (List Nat) → List Nat
  | none => []
  | some l => 47 :: 47 :: wr l
def schT (s : List Nat) : List Nat := if s = [] then [] else s ++ [58]
def Ad.wayT (x : Ad) : List Nat := Wm.wayT x.rooted x.steps x.ends
def Ad.shw (x : Ad) : List Nat := schT x.scheme ++ (houT x.house ++ (dooT x.door ++ (x.wayT ++ (queT x.quest ++ oT 35 x.mark))))
def PairOk (p : List Nat × Option (List Nat)) : Prop := (0 < p.1.length ∧ ∀ c ∈ p.1, isSg c = true) ∧ ∀ v, p.2 = some v → ∀ c ∈ v, isSg c = true
def StepOk (s : List Nat) : Prop := 0 < s.length ∧ ∀ c ∈ s, isSg c = true
structure Ad.Wf (x : Ad) : Prop where
  sch : x.scheme.length ≤ 8 ∧ (∀ c ∈ x.scheme, isAln c = true) ∧ ∀ c ∈ x.scheme.take 1, isLet c = true
  hou : ∀ l, x.house = some l → (0 < l.length ∧ l.length ≤ 60) ∧ ∀ c ∈ l, isSg c = true
  doo : ∀ i, x.door = some i → (0 ≤ i ∧ i ≤ 65535) ∧ x.house ≠ none
  stp : ∀ s ∈ x.steps, StepOk s
  roo : x.scheme ≠ [] ∨ x.house ≠ none → x.rooted = true
  end_ : x.steps = [] → x.ends = x.rooted
  que : ∀ ps, x.quest = some ps → ∀ p ∈ ps, PairOk p
  mar : ∀ l, x.mark = some l → ∀ c ∈ l, isSg c = true
def Ad.mid (x : Ad) : List Nat := houT x.house ++ (dooT x.door ++ x.wayT)
def Ad.pre (x : Ad) : List Nat := schT x.scheme ++ x.mid
end Wm
namespace Wm
open PySem L2
theorem oqs {H : Hp} {l : List Nat} {v : V} (h : IsT H (st l) v) : v = .str ⟨l.toArray⟩ := by cases h; rfl
theorem qqS {H : Hp} {o : Option (List Nat)} {v : V} (h : IsT H (oD o) v) : v = otV o := by
  cases o with
  | none => cases h; rfl
  | some l => exact oqs h
theorem uq8 {H : Hp} {o : Option Int} {v : V} (h : IsT H (iD o) v) : v = itV o := by
  cases o with
  | none => cases h; rfl
  | some l => cases h; rfl
theorem nq1 {H : Hp} {b : Bool} {v : V} (h : IsT H (.bool b) v) : v = .bl b := by cases h; rfl
theorem iqa {H : Hp} {ds : List PyData} {v : V} (h : IsT H (.tuple ds) v) : ∃ p xs, v = .ref p ∧ H p = some (.tup xs) ∧ IsTAll H ds xs := by
  cases h with
  | tup h1 h2 => exact ⟨_, _, rfl, h1, h2⟩
theorem isT2 {H : Hp} {a b : PyData} {v : V} (h : IsT H (.tuple [a, b]) v) : ∃ p x y, v = .ref p ∧ H p = some (.tup [x, y]) ∧ IsT H a x ∧ IsT H b y := by
  obtain ⟨p, xs, rfl, hp, r⟩ := iqa h
  cases r with
  | cons h1 r => cases r with
    | cons h2 r => cases r; exact ⟨p, _, _, rfl, hp, h1, h2⟩
theorem isT3 {H : Hp} {a b c : PyData} {v : V} (h : IsT H (.tuple [a, b, c]) v) : ∃ p x y z, v = .ref p ∧ H p = some (.tup [x, y, z]) ∧ IsT H a x ∧ IsT H b y ∧ IsT H c z := by
  obtain ⟨p, xs, rfl, hp, r⟩ := iqa h
  cases r with
  | cons h1 r => cases r with
    | cons h2 r => cases r with
      | cons h3 r => cases r; exact ⟨p, _, _, _, rfl, hp, h1, h2, h3⟩
theorem isT6 {H : Hp} {a b c d e f : PyData} {v : V} (h : IsT H (.tuple [a, b, c, d, e, f]) v) : ∃ p x0 x1 x2 x3 x4 x5, v = .ref p ∧ H p = some (.tup [x0, x1, x2, x3, x4, x5]) ∧ IsT H a x0 ∧ IsT H b x1 ∧ IsT H c x2 ∧ IsT H d x3 ∧ IsT H e x4 ∧ IsT H f x5 := by
  obtain ⟨p, xs, rfl, hp, r⟩ := iqa h
  cases r with
  | cons h1 r => cases r with
    | cons h2 r => cases r with
      | cons h3 r => cases r with
        | cons h4 r => cases r with
          | cons h5 r => cases r with
            | cons h6 r => cases r; exact ⟨p, _, _, _, _, _, _, rfl, hp, h1, h2, h3, h4, h5, h6⟩
theorem mq3 {H : Hp} : ∀ {ss : List (List Nat)} {xs : List V}, IsTAll H (ss.map st) xs → xs = ss.map fun l => V.str ⟨l.toArray⟩
  | [], _, h => by cases h; rfl
  | s :: ss, _, h => by
    cases h with
    | cons h1 h2 => rw [oqs h1, mq3 h2]; rfl
end Wm
namespace Wm
structure Ad.Sz (x : Ad) : Prop where
  stp : ∀ s ∈ x.steps, s.length ≤ 2000
  que : ∀ ps, x.quest = some ps → ps.length ≤ 2000 ∧ ∀ p ∈ ps, p.1.length ≤ 2000 ∧ ∀ v, p.2 = some v → v.length ≤ 2000
  mar : ∀ l, x.mark = some l → l.length ≤ 2000
  num : x.steps.length ≤ 2000
  all : x.shw.length ≤ 90000
end Wm
namespace Wm
theorem lg {i : Int} (h : 0 ≤ i) (h' : i ≤ 65535) : i.natAbs.log2 < 1920 := by
  by_cases h0 : i.natAbs = 0
  · rw [h0]; simp
  · refine (Nat.log2_lt h0).mpr (Nat.lt_of_lt_of_le (show i.natAbs < 2 ^ 16 by omega) (Nat.pow_le_pow_right (by decide) (by decide)))
theorem oqg (i : Int) : PySem.Str.ofString (toString i) = ⟨(dg i).toArray⟩ := rfl
end Wm
namespace Wm
end Wm
namespace Wm
open PySem L2
end Wm
namespace Wm
open PySem L2
theorem iq8 (sep : Nat) (ys : List (List Nat)) : Txt.join (⟨[sep].toArray⟩ : Str) (ys.map fun l => (⟨l.toArray⟩ : Str)) = ⟨(joinT sep ys).toArray⟩ := by
  show Builtin.Str.glued _ _ = _
  rw [StrLaws.glued_eq_join]
  induction ys with
  | nil => rfl
  | cons y r ih =>
    cases r with
    | nil =>
      show (⟨y.toArray⟩ : Str) = _
      simp [joinT, tlT]
    | cons z r =>
      show (⟨y.toArray⟩ : Str) ++ (⟨[sep].toArray⟩ : Str) ++ Str.join ⟨[sep].toArray⟩ ((z :: r).map fun l => (⟨l.toArray⟩ : Str)) = _
      rw [ih, kqZ, kqZ]
      simp [joinT, tlT]
theorem sqO {sep : Nat} : ∀ (ys : List (List Nat)), (tlT sep ys).length = (ys.map (·.length)).sum + ys.length
  | [] => rfl
  | y :: r => by simp only [tlT, List.length_cons, List.length_append, List.map_cons, List.sum_cons, sqO r]; omega
theorem jqf {sep : Nat} (ys : List (List Nat)) : (ys.map (·.length)).sum + ys.length ≤ (joinT sep ys).length + 1 := by
  cases ys with
  | nil => simp [joinT]
  | cons y r => simp only [joinT, List.length_append, List.map_cons, List.sum_cons, List.length_cons, sqO]; omega
end Wm
namespace Wm
open PySem L2
theorem nq2 {sep m : Nat} : ∀ {ys : List (List Nat)}, (∀ s ∈ ys, s.length ≤ m) → (tlT sep ys).length ≤ ys.length * (m + 1)
  | [], _ => by simp [tlT]
  | y :: r, h => by
    have h1 := h y (List.mem_cons_self ..)
    have h2 := nq2 (sep := sep) (ys := r) fun s hs => h s (List.mem_cons_of_mem _ hs)
    simp only [tlT, List.length_cons, List.length_append, Nat.add_mul, Nat.one_mul]
    omega
theorem iqm {sep m : Nat} {ys : List (List Nat)} (h : ∀ s ∈ ys, s.length ≤ m) : (joinT sep ys).length ≤ ys.length * (m + 1) := by
  cases ys with
  | nil => simp [joinT]
  | cons y r =>
    have h1 := h y (List.mem_cons_self ..)
    have h2 := nq2 (sep := sep) (ys := r) fun s hs => h s (List.mem_cons_of_mem _ hs)
    simp only [joinT, List.length_cons, List.length_append, Nat.add_mul, Nat.one_mul]
    omega
theorem vqX {sep n : Nat} {o : Option (List Nat)} (h : ∀ l, o = some l → l.length ≤ n) : (oT sep o).length ≤ 3 * n + 1 := by
  cases o with
  | none => simp [oT]
  | some l => have := h l rfl; have := hql l; simp only [oT, List.length_cons]; omega
end Wm
namespace Wm
open PySem L2
theorem lqf (ts : List (List Nat)) : (ts.map fun l => (⟨l.toArray⟩ : Str)).map (·.length) = ts.map List.length := by
  rw [List.map_map]
  apply List.map_congr_left
  intro l _
  exact dqd l
theorem wqL {a : V} {r : List V} : atI (a :: r) 0 = some a := by
  unfold atI ixN
  simp
def slT (r : Bool) (ts : List (List Nat)) (e : Bool) : List Nat := (if r then [47] else []) ++ (joinT 47 ts ++ (if e && !ts.isEmpty then [47] else []))
theorem tqi (r : Bool) (ss : List (List Nat)) (e : Bool) : wayT r ss e = slT r (ss.map wr) e := by
  unfold wayT slT
  simp
end Wm
namespace L2
open PySem
theorem IsTAll.get {H : Hp} : ∀ {ds : List PyData} {xs : List V} {i : Nat} {d : PyData} {x : V}, IsTAll H ds xs → ds[i]? = some d → xs[i]? = some x → IsT H d x
  | _, _, 0, _, _, .cons h _, h1, h2 => by
    simp only [List.getElem?_cons_zero, Option.some.injEq] at h1 h2
    subst h1 h2; exact h
  | _, _, i + 1, _, _, .cons _ r, h1, h2 => by
    simp only [List.getElem?_cons_succ] at h1 h2
    exact r.get h1 h2
end L2
namespace Wm
open PySem L2
abbrev Stp := List Nat
def sUp : Stp := [46, 46]
def sStay : Stp := [46]
def isDot (s : Stp) : Bool := decide (s = sUp) || decide (s = sStay)
theorem iqd : sUp ≠ sStay := by decide
theorem nqh {s : Stp} : isDot s = false ↔ s ≠ sUp ∧ s ≠ sStay := by simp [isDot]
def fwd (r : Bool) (q : Nat × List Stp) (s : Stp) : Nat × List Stp :=
  if s = sUp then (match q.2 with | [] => (if r then q.1 else q.1 + 1, []) | _ :: t => (q.1, t))
  else if s = sStay then q else (q.1, s :: q.2)
def goneS (r : Bool) (ss : List Stp) : List Stp := List.replicate (ss.foldl (fwd r) (0, [])).1 sUp ++ (ss.foldl (fwd r) (0, [])).2.reverse
def bwd1 (s : Stp) (q : Nat × List Stp) : Nat × List Stp :=
  if s = sUp then (q.1 + 1, q.2) else if s ≠ sStay ∧ 0 < q.1 then (q.1 - 1, q.2) else if s ≠ sStay then (q.1, s :: q.2) else q
def bwd (ss : List Stp) : Nat × List Stp := ss.foldr bwd1 (0, [])
theorem jqd (s : Stp) (ss : List Stp) : bwd (s :: ss) = bwd1 s (bwd ss) := rfl
theorem jq1 (r : Bool) : ∀ (ss : List Stp) (u : Nat) (ns : List Stp),
    ss.foldl (fwd r) (u, ns) = (if r then u else u + ((bwd ss).1 - ns.length), (bwd ss).2.reverse ++ ns.drop (bwd ss).1)
  | [], u, ns => by simp [bwd]
  | s :: ss, u, ns => by
    rw [List.foldl_cons, jqd]
    by_cases h1 : s = sUp
    · cases ns with
      | nil =>
        rw [show fwd r (u, []) s = (if r then u else u + 1, []) by simp [fwd, h1], jq1 r ss]
        cases r <;> simp [bwd1, h1]
        omega
      | cons a t =>
        rw [show fwd r (u, a :: t) s = (u, t) by simp [fwd, h1], jq1 r ss]
        simp [bwd1, h1]
    · by_cases h2 : s = sStay
      · rw [show fwd r (u, ns) s = (u, ns) by simp [fwd, h1, h2, iqd.symm], jq1 r ss]
        simp [bwd1, h2, iqd.symm]
      · rw [show fwd r (u, ns) s = (u, s :: ns) by simp [fwd, h1, h2], jq1 r ss]
        by_cases h3 : 0 < (bwd ss).1
        · obtain ⟨k, hk⟩ : ∃ k, (bwd ss).1 = k + 1 := ⟨(bwd ss).1 - 1, by omega⟩
          simp [bwd1, h1, h2, hk]
        · have h0 : (bwd ss).1 = 0 := by omega
          simp [bwd1, h1, h2, h0]
theorem lqW (r : Bool) (ss : List Stp) : goneS r ss = (if r then [] else List.replicate (bwd ss).1 sUp) ++ (bwd ss).2 := by
  unfold goneS
  rw [jq1]
  cases r <;> simp
theorem uqO {ss : List Stp} : ∀ s ∈ (bwd ss).2, s ∈ ss ∧ isDot s = false := by
  induction ss with
  | nil => simp [bwd]
  | cons t ss ih =>
    intro s hs
    rw [jqd] at hs
    unfold bwd1 at hs
    split at hs
    · exact ⟨List.mem_cons_of_mem _ (ih s hs).1, (ih s hs).2⟩
    · next h1 =>
      split at hs
      · exact ⟨List.mem_cons_of_mem _ (ih s hs).1, (ih s hs).2⟩
      · split at hs
        · next h2 =>
          rcases List.mem_cons.mp hs with rfl | hs
          · exact ⟨List.mem_cons_self .., nqh.mpr ⟨h1, h2⟩⟩
          · exact ⟨List.mem_cons_of_mem _ (ih s hs).1, (ih s hs).2⟩
        · exact ⟨List.mem_cons_of_mem _ (ih s hs).1, (ih s hs).2⟩
theorem uqE (ss : List Stp) : (bwd ss).1 + (bwd ss).2.length ≤ ss.length := by
  induction ss with
  | nil => simp [bwd]
  | cons t ss ih =>
    rw [jqd]
    unfold bwd1
    split
    · simp; omega
    · split
      · simp; omega
      · split <;> simp <;> omega
theorem gone_len (r : Bool) (ss : List Stp) : (goneS r ss).length ≤ ss.length := by
  rw [lqW]
  have := uqE ss
  cases r <;> simp <;> omega
theorem rqF {r : Bool} {ss : List Stp} : ∀ s ∈ goneS r ss, s ∈ ss ∧ isDot s = false ∨ r = false ∧ s = sUp := by
  intro s hs
  rw [lqW] at hs
  rcases List.mem_append.mp hs with hs | hs
  · cases r with
    | true => cases hs
    | false => exact .inr ⟨rfl, (List.mem_replicate.mp (by simpa using hs)).2⟩
  · exact .inl (uqO s hs)
def lastDot (ss : List Stp) : Bool := match ss.getLast? with | some s => isDot s | none => false
def goneW (r : Bool) (ss : List Stp) (e : Bool) : Bool × List Stp × Bool :=
  if ss = [] then (r, [], e) else if goneS r ss = [] then (r, if r then [] else [sStay], true) else (r, goneS r ss, e || lastDot ss)
theorem qqe (r : Bool) (ss : List Stp) (e : Bool) : (goneW r ss e).1 = r := by
  unfold goneW; split; rfl; split <;> rfl
end Wm
namespace Wm
open PySem L2
def stk (q : Nat × List Stp) : List Stp := List.replicate q.1 sUp ++ q.2.reverse
def goUp (r : Bool) (L : List Stp) : List Stp :=
  match L.getLast? with
  | some s => if s = sUp then (if r then L else L ++ [sUp]) else L.dropLast
  | none => if r then L else L ++ [sUp]
def StkOk (r : Bool) (q : Nat × List Stp) : Prop := (r = true → q.1 = 0) ∧ ∀ s ∈ q.2, s ≠ sUp
theorem rqL {r : Bool} {q : Nat × List Stp} (h : StkOk r q) : goUp r (stk q) = stk (fwd r q sUp) := by
  obtain ⟨u, t⟩ := q
  obtain ⟨h1, h2⟩ := h
  dsimp only at h1 h2
  unfold fwd stk
  rw [if_pos rfl]
  cases t with
  | cons a t =>
    have ha := h2 a (List.mem_cons_self ..)
    simp only [List.reverse_cons]
    rw [← List.append_assoc]
    unfold goUp
    rw [List.getLast?_concat]
    simp only [if_neg ha, List.dropLast_concat]
  | nil =>
    cases r with
    | true =>
      have e := h1 rfl
      subst e
      simp [goUp]
    | false =>
      simp only [List.reverse_nil, List.append_nil, Bool.false_eq_true, if_false]
      cases u with
      | zero => simp [goUp]
      | succ u =>
        have e : List.replicate (u + 1) sUp = List.replicate u sUp ++ [sUp] := List.replicate_succ'
        have e2 : List.replicate (u + 1 + 1) sUp = List.replicate (u + 1) sUp ++ [sUp] := List.replicate_succ'
        rw [e2]
        unfold goUp
        rw [e, List.getLast?_concat]
        simp
theorem StkOk.fwd {r : Bool} {q : Nat × List Stp} (h : StkOk r q) (s : Stp) : StkOk r (fwd r q s) := by
  obtain ⟨u, t⟩ := q
  obtain ⟨h1, h2⟩ := h
  dsimp only at h1 h2
  unfold Wm.fwd
  by_cases e : s = sUp
  · rw [if_pos e]
    cases t with
    | nil => exact ⟨fun z => by simp [z, h1 z], fun s hs => absurd hs (by simp)⟩
    | cons a t => exact ⟨h1, fun s hs => h2 s (List.mem_cons_of_mem _ hs)⟩
  · rw [if_neg e]
    by_cases e2 : s = sStay
    · rw [if_pos e2]; exact ⟨h1, h2⟩
    · rw [if_neg e2]
      refine ⟨h1, fun x hx => ?_⟩
      rcases List.mem_cons.mp hx with rfl | hx
      · exact e
      · exact h2 x hx
theorem nqD (r : Bool) (q : Nat × List Stp) (s : Stp) : (stk (fwd r q s)).length ≤ (stk q).length + 1 := by
  obtain ⟨u, t⟩ := q
  unfold fwd stk
  by_cases e : s = sUp
  · rw [if_pos e]
    cases t with
    | nil => cases r <;> simp
    | cons a t => simp; omega
  · rw [if_neg e]
    by_cases e2 : s = sStay
    · rw [if_pos e2]; simp
    · rw [if_neg e2]; simp; omega
theorem sq3 {r : Bool} {q : Nat × List Stp} {s : Stp} (h1 : s ≠ sUp) (h2 : s ≠ sStay) : stk (fwd r q s) = stk q ++ [s] := by
  unfold fwd stk
  rw [if_neg h1, if_neg h2]; simp
theorem sqh {r : Bool} {q : Nat × List Stp} : fwd r q sStay = q := by
  unfold fwd
  rw [if_neg iqd.symm, if_pos rfl]
def sofar (r : Bool) (ss : List Stp) (i : Nat) : Nat × List Stp := (ss.take i).foldl (fwd r) (0, [])
theorem nq0 (r : Bool) (ss : List Stp) : ∀ i, StkOk r (sofar r ss i) ∧ (stk (sofar r ss i)).length ≤ i
  | 0 => by simp [sofar, StkOk, stk]
  | i + 1 => by
    obtain ⟨h1, h2⟩ := nq0 r ss i
    unfold sofar at *
    rw [List.take_add_one]
    cases e : ss[i]? with
    | none => simpa using ⟨h1, by omega⟩
    | some s =>
      rw [List.foldl_append]
      simp only [Option.toList_some, List.foldl_cons, List.foldl_nil]
      have := nqD r (List.foldl (fwd r) (0, []) (List.take i ss)) s
      exact ⟨h1.fwd s, by omega⟩
theorem pqc {r : Bool} {ss : List Stp} {i : Nat} {s : Stp} (h : ss[i]? = some s) : sofar r ss (i + 1) = fwd r (sofar r ss i) s := by
  unfold sofar
  rw [List.take_add_one, h, List.foldl_append]; rfl
theorem pqN (r : Bool) (ss : List Stp) : stk (sofar r ss ss.length) = goneS r ss := by
  unfold sofar; rw [List.take_length]; rfl
end Wm
namespace L2
open PySem PySem.Spec PyProof.Rows HT
section
variable {prog : Program} {w : World} {A : Around} {E : Value → Shared → Prop} {s : Shared}
theorem hqe {t sl : Addr} {items : Array Value} {vl vu : Value} {lo hi : Option Int} {Q : Value → Shared → Prop} (ht : IsTup s.heap t items) (hs : s.heap.IsSliceOf sl vl vu .none) (pl : IsPart vl lo) (pu : IsPart vu hi)
    (hw : sIx items.size 0 lo = 0 ∧ sIx items.size items.size hi = items.size) (h : Q (.ref t) s) : wpAny (model prog w) A (getItem (.ref t) (.ref sl)) Q E s := by
  obtain ⟨os, hos, hcs, hds⟩ := id hs
  have hTs : s.TypeIs (.ref sl) "slice" := ⟨os, hos, hcs⟩
  unfold getItem
  try with_reducible refine wpAny_holding ?_
  first | refine wpAny_bind (wpAny_pure ?_) | skip
  refine wpAny_bind (wpAny_sequenceKey ht.typeIs (by decide) ?_)
  refine wpAny_bind (wpAny_callSpecial?_slot (name := Str.ofString "__getitem__") ht.typeIs PyProof.Rows.slot_tuple_getitem
    (wpAny_call_entry PyProof.Rows.slot_tuple_getitem ht.typeIs entry_tuple_getitem ?_ (args_tuple_getitem _ _)))
  show wpAny _ _ (Builtin.Tuple.tupleItemsOf (.ref t) >>= _) _ _ s
  refine wpAny_bind (tupleItemsOf_ ht ?_)
  refine wpAny_bind (wpAny_typeOf hTs ?_)
  rw [if_pos (by decide)]
  refine wpAny_bind (fqP hs pl pu ?_)
  show wpAny _ _ (if (((sIx items.size 0 lo : Nat) : Int) == 0 && (1 : Int) == 1 && (sIx items.size items.size hi - sIx items.size 0 lo) == items.size) = true then _ else _) _ _ s
  rw [if_pos (by rw [hw.1, hw.2]; simp)]
  refine wpAny_bind ?_
  show wpAny _ _ (typeOf (.ref t) >>= _) _ _ s
  refine wpAny_bind (wpAny_typeOf ht.typeIs (wpAny_pure ?_))
  rw [if_pos (by decide)]
  exact wpAny_bind (wpAny_rule (wpAny_pure ⟨_, rfl, wpAny_pure h⟩))
end
section
variable {X : Cx} {K : PySem.W.Frag}
def rSlTA : V → Option Int → Option Int → Hp → VK → Prop := fun x lo hi H Q => ∃ a xs, x = .ref a ∧ H a = some (.tup xs) ∧ ∀ p H', Same H H' → H' p = some (.tup (cutV xs lo hi)) → Q (.ref p) H'
theorem oq6 {xs : List V} {lo hi : Option Int} (h : sIx xs.length 0 lo = 0 ∧ sIx xs.length xs.length hi = xs.length) : cutV xs lo hi = xs := by
  unfold cutV
  rw [h.1, h.2, List.drop_zero, Nat.sub_zero, List.take_length]
theorem rqy {a : Addr} {lo hi : Option Int} {H : Hp} {Q : VK} : rSlTA (.ref a) lo hi H Q ↔ ∃ xs, H a = some (.tup xs) ∧ ∀ p H', Same H H' → H' p = some (.tup (cutV xs lo hi)) → Q (.ref p) H' := by
  constructor
  · rintro ⟨p, bs, h1, h2⟩; cases h1; exact ⟨bs, h2⟩
  · rintro ⟨bs, h⟩; exact ⟨a, bs, rfl, h⟩
end
end L2
namespace L2
open PySem PySem.Spec PyProof.Rows HT
mutual
inductive IsK (K : PySem.W.Frag) (H : Hp) : PyData → V → Prop
  | non : IsK K H .none .non
  | bl (b : Bool) : IsK K H (.bool b) (.bl b)
  | int (i : Int) : IsK K H (.int i) (.int i)
  | str (x : Str) : IsK K H (.str x) (.str x)
  | tup {p : Addr} {xs : List V} {ds : List PyData} : SqT K H p xs → IsKAll K H ds xs → IsK K H (.tuple ds) (.ref p)
inductive IsKAll (K : PySem.W.Frag) (H : Hp) : List PyData → List V → Prop
  | nil : IsKAll K H [] []
  | cons {d : PyData} {x : V} {ds : List PyData} {xs : List V} : IsK K H d x → IsKAll K H ds xs → IsKAll K H (d :: ds) (x :: xs)
end
section
variable {K : PySem.W.Frag} {H H' : Hp}
mutual
theorem IsK.mono (sm : Same H H') : ∀ {d : PyData} {x : V}, IsK K H d x → IsK K H' d x
  | _, _, .non => .non
  | _, _, .bl b => .bl b
  | _, _, .int i => .int i
  | _, _, .str x => .str x
  | _, _, .tup h r => .tup (sm.tup h) (IsKAll.mono sm r)
theorem IsKAll.mono (sm : Same H H') : ∀ {ds : List PyData} {xs : List V}, IsKAll K H ds xs → IsKAll K H' ds xs
  | _, _, .nil => .nil
  | _, _, .cons h r => .cons (IsK.mono sm h) (IsKAll.mono sm r)
end
mutual
theorem IsT.k : ∀ {d : PyData} {x : V}, IsT H d x → IsK K H d x
  | _, _, .non => .non
  | _, _, .bl b => .bl b
  | _, _, .int i => .int i
  | _, _, .str x => .str x
  | _, _, .tup h r => .tup (SqT.of h) (IsTAll.k r)
theorem IsTAll.k : ∀ {ds : List PyData} {xs : List V}, IsTAll H ds xs → IsKAll K H ds xs
  | _, _, .nil => .nil
  | _, _, .cons h r => .cons (IsT.k h) (IsTAll.k r)
end
end
section
variable {X : Cx} {pins : List (Addr × Obj)} {σ : St} {H : Hp} {s : Shared}
mutual
theorem IsK.reads (I : Inv X pins σ H s) : ∀ {d : PyData} {x : V} {v : Value}, IsK X.K H d x → RelV x v → ∃ as, Reads s.heap v d as
  | _, _, _, .non, r => by cases r; exact ⟨_, .none⟩
  | _, _, _, .bl b, r => by cases r; exact ⟨_, .bool b⟩
  | _, _, _, .int i, r => by obtain ⟨t, rfl⟩ := r; exact ⟨_, .int i t⟩
  | _, _, _, .str x, r => by obtain ⟨t, rfl⟩ := r; exact ⟨_, .str x t⟩
  | _, _, _, .tup h q, r => by
    cases r
    obtain ⟨its, vs, ⟨o, e, c, n, dt⟩, _⟩ := I.tuple h
    obtain ⟨as, ra⟩ := IsKAll.reads I q vs
    exact ⟨_, .tuple e c dt (by simpa using ra)⟩
theorem IsKAll.reads (I : Inv X pins σ H s) : ∀ {ds : List PyData} {xs : List V} {vs : List Value}, IsKAll X.K H ds xs → Vals xs vs → ∃ as, ReadsAll s.heap vs ds as
  | _, _, _, .nil, r => by cases r; exact ⟨_, .nil⟩
  | _, _, _, .cons q t, r => by
    cases r with
    | cons r1 r2 =>
      obtain ⟨as, h1⟩ := IsK.reads I q r1
      obtain ⟨bs, h2⟩ := IsKAll.reads I t r2
      exact ⟨_, .cons h1 h2⟩
end
variable {K : PySem.W.Frag}
def rSlX (K : PySem.W.Frag) : V → Option Int → Option Int → Hp → VK → Prop := fun x lo hi H Q => ∃ a xs, x = .ref a ∧ SqT K H a xs ∧ ∀ p H', Same H H' → SqT K H' p (cutV xs lo hi) → Q (.ref p) H'
theorem nqs (hk : X.K = K) : SlR X (rSlX K) := by
  subst hk
  intro pins s σ H x v vl vu lo hi sl Q I rx hs pl pu h
  obtain ⟨a, xs, rfl, hx, q⟩ := h
  by_cases hw : sIx xs.length 0 lo = 0 ∧ sIx xs.length xs.length hi = xs.length
  · cases rx
    obtain ⟨its, r, ht, hz⟩ := I.tuple hx
    have hlen : its.toArray.size = xs.length := by rw [List.size_toArray]; exact r.length.symm
    refine ⟨"tuple", _, PyProof.Rows.slot_tuple_getitem.lookup, ht.typeIs, ?_⟩
    exact hqe ht hs pl pu (by rw [hlen]; exact hw) ⟨.ref a, H, I, rfl, q a H (Same.refl _) (by rw [oq6 hw]; exact hx)⟩
  · exact vqP pins s σ H _ v vl vu lo hi sl Q I rx hs pl pu ⟨a, xs, rfl, hx, hw, fun p hp => q p _ (bqS hp) (SqT.of aql)⟩
theorem uqd {a : Addr} {lo hi : Option Int} {H : Hp} {Q : VK} : rSlX K (.ref a) lo hi H Q ↔ ∃ xs, SqT K H a xs ∧ ∀ p H', Same H H' → SqT K H' p (cutV xs lo hi) → Q (.ref p) H' := by
  constructor
  · rintro ⟨p, bs, h1, h2⟩; cases h1; exact ⟨bs, h2⟩
  · rintro ⟨bs, h⟩; exact ⟨a, bs, rfl, h⟩
def rCatX (K : PySem.W.Frag) : R2 := fun x y H Q => ∃ a b xs ys, x = .ref a ∧ y = .ref b ∧ SqT K H a xs ∧ SqT K H b ys ∧ xs.length + ys.length ≤ sizeLine ∧ ∀ p H', Same H H' → SqT K H' p (xs ++ ys) → Q (.ref p) H'
theorem nqi (hk : X.K = K) : OpR X (binaryOp .Add) (rCatX K) := by
  subst hk
  intro pins s σ H x y v u Q I rx ry h
  obtain ⟨a, b, xs, ys, rfl, rfl, ha, hb, hz, q⟩ := h
  by_cases hx : xs = []
  · subst hx
    cases rx
    cases ry
    obtain ⟨its, r1, p1, _⟩ := I.tuple ha
    obtain ⟨its2, r2, p2, _⟩ := I.tuple hb
    cases r1
    obtain ⟨⟨cls, dd, data, sl⟩, ho, hc, n, hd⟩ := id p1
    obtain ⟨⟨cls2, dd2, data2, sl2⟩, ho2, hc2, n2, hd2⟩ := id p2
    simp only at hc hd hc2 hd2
    subst hc hd hc2 hd2
    exact concat_meets ⟨_, ho, rfl⟩ ⟨_, ho2, rfl⟩ noFill_tuple_add seq_tuple_add PySem.F.slot_tuple_add PySem.F.entry_tuple_add (PySem.F.args_tuple_add_2 _ _)
      (tuple_addW0 a b ([] : List Value).toArray its2.toArray n n2 dd dd2 sl sl2 rfl) ⟨ho, ho2, ⟨.ref b, H, I, rfl, q b H (Same.refl _) hb⟩⟩
  · refine qqT pins s σ H _ _ v u Q I rx ry ⟨a, b, xs, ys, rfl, rfl, ha, hb, hx, hz, fun e => q a H (Same.refl _) (by rw [e, List.append_nil]; exact ha), fun _ p hp => q p _ (bqS hp) (SqT.of aql)⟩
theorem rqq {a b : Addr} {H : Hp} {Q : VK} : rCatX K (.ref a) (.ref b) H Q ↔ ∃ xs ys, SqT K H a xs ∧ SqT K H b ys ∧ xs.length + ys.length ≤ sizeLine ∧ ∀ p H', Same H H' → SqT K H' p (xs ++ ys) → Q (.ref p) H' := by
  constructor
  · rintro ⟨p, p', xs, ys, h1, h2, h3⟩; cases h1; cases h2; exact ⟨xs, ys, h3⟩
  · rintro ⟨xs, ys, h⟩; exact ⟨a, b, xs, ys, rfl, rfl, h⟩
def KindK (K : PySem.W.Frag) (H : Hp) (x : V) (k : String) : Prop := kindV x H = some k ∨ ∃ a xs, x = .ref a ∧ SqT K H a xs ∧ k = "tuple"
def rIsiX (K : PySem.W.Frag) : List V → Hp → VK → Prop := fun vs H Q => match vs with
  | [x, .ty T] => ∃ k, KindK K H x k ∧ T ∈ ["bool", "int", "str", "list", "tuple"] ∧ Q (.bl (subT k T)) H
  | _ => False
theorem rqs {x : V} {T : String} {H : Hp} {Q : VK} : rIsiX K [x, .ty T] H Q ↔ ∃ k, KindK K H x k ∧ T ∈ ["bool", "int", "str", "list", "tuple"] ∧ Q (.bl (subT k T)) H := Iff.rfl
end
end L2
namespace Wm
open PySem L2
section
variable {K : PySem.W.Frag} {H : Hp}
theorem nqS {l : List Nat} {v : V} (h : IsK K H (st l) v) : v = .str ⟨l.toArray⟩ := by cases h; rfl
theorem pqJ {o : Option (List Nat)} {v : V} (h : IsK K H (oD o) v) : v = otV o := by
  cases o with
  | none => cases h; rfl
  | some l => exact nqS h
theorem vqg {o : Option Int} {v : V} (h : IsK K H (iD o) v) : v = itV o := by
  cases o with
  | none => cases h; rfl
  | some l => cases h; rfl
theorem nq6 {b : Bool} {v : V} (h : IsK K H (.bool b) v) : v = .bl b := by cases h; rfl
theorem jq0 {ds : List PyData} {v : V} (h : IsK K H (.tuple ds) v) : ∃ p xs, v = .ref p ∧ SqT K H p xs ∧ IsKAll K H ds xs := by
  cases h with
  | tup h1 h2 => exact ⟨_, _, rfl, h1, h2⟩
theorem isK2 {a b : PyData} {v : V} (h : IsK K H (.tuple [a, b]) v) : ∃ p x y, v = .ref p ∧ SqT K H p [x, y] ∧ IsK K H a x ∧ IsK K H b y := by
  obtain ⟨p, xs, rfl, hp, r⟩ := jq0 h
  cases r with
  | cons h1 r => cases r with
    | cons h2 r => cases r; exact ⟨p, _, _, rfl, hp, h1, h2⟩
theorem isK3 {a b c : PyData} {v : V} (h : IsK K H (.tuple [a, b, c]) v) : ∃ p x y z, v = .ref p ∧ SqT K H p [x, y, z] ∧ IsK K H a x ∧ IsK K H b y ∧ IsK K H c z := by
  obtain ⟨p, xs, rfl, hp, r⟩ := jq0 h
  cases r with
  | cons h1 r => cases r with
    | cons h2 r => cases r with
      | cons h3 r => cases r; exact ⟨p, _, _, _, rfl, hp, h1, h2, h3⟩
theorem isK6 {a b c d e f : PyData} {v : V} (h : IsK K H (.tuple [a, b, c, d, e, f]) v) : ∃ p x0 x1 x2 x3 x4 x5, v = .ref p ∧ SqT K H p [x0, x1, x2, x3, x4, x5] ∧ IsK K H a x0 ∧ IsK K H b x1 ∧ IsK K H c x2 ∧ IsK K H d x3 ∧ IsK K H e x4 ∧ IsK K H f x5 := by
  obtain ⟨p, xs, rfl, hp, r⟩ := jq0 h
  cases r with
  | cons h1 r => cases r with
    | cons h2 r => cases r with
      | cons h3 r => cases r with
        | cons h4 r => cases r with
          | cons h5 r => cases r with
            | cons h6 r => cases r; exact ⟨p, _, _, _, _, _, _, rfl, hp, h1, h2, h3, h4, h5, h6⟩
theorem mqd : ∀ {ss : List (List Nat)} {xs : List V}, IsKAll K H (ss.map st) xs → xs = ss.map fun l => V.str ⟨l.toArray⟩
  | [], _, h => by cases h; rfl
  | s :: ss, _, h => by
    cases h with
    | cons h1 h2 => rw [nqS h1, mqd h2]; rfl
theorem mqu : ∀ (ss : List (List Nat)), IsKAll K H (ss.map st) (ss.map fun l => V.str ⟨l.toArray⟩)
  | [] => .nil
  | s :: ss => .cons (.str _) (mqu ss)
theorem vqM (o : Option (List Nat)) : IsK K H (oD o) (otV o) := (mql o).k
theorem wq8 (o : Option Int) : IsK K H (iD o) (itV o) := (tqW o).k
theorem qqE {r e : Bool} {ss : List (List Nat)} {v : V} (h : IsK K H (.tuple [.bool r, .tuple (ss.map st), .bool e]) v) : ∃ p q, v = .ref p ∧ SqT K H p [.bl r, .ref q, .bl e] ∧ SqT K H q (ss.map fun l => V.str ⟨l.toArray⟩) := by
  obtain ⟨p, x, y, z, rfl, hp, h1, h2, h3⟩ := isK3 h
  cases nq6 h1
  cases nq6 h3
  obtain ⟨q, xs, rfl, hq, r⟩ := jq0 h2
  cases mqd r
  exact ⟨p, q, rfl, hp, hq⟩
theorem wayK {r e : Bool} {ss : List (List Nat)} {p q : Addr} (hp : SqT K H p [.bl r, .ref q, .bl e]) (hq : SqT K H q (ss.map fun l => V.str ⟨l.toArray⟩)) : IsK K H (.tuple [.bool r, .tuple (ss.map st), .bool e]) (.ref p) :=
  .tup hp (.cons (.bl _) (.cons (.tup hq (mqu _)) (.cons (.bl _) .nil)))
theorem qqg {x : Ad} {v : V} (h : IsK K H x.data v) : ∃ p w q, v = .ref p ∧ SqT K H p [.str ⟨x.scheme.toArray⟩, otV x.house, itV x.door, w, q, otV x.mark] ∧ IsK K H x.way w ∧ IsK K H (qD x.quest) q := by
  obtain ⟨p, x0, x1, x2, x3, x4, x5, rfl, hp, i0, i1, i2, i3, i4, i5⟩ := isK6 (show IsK K H (.tuple [st x.scheme, oD x.house, iD x.door, x.way, qD x.quest, oD x.mark]) v from h)
  cases nqS i0
  cases pqJ i1
  cases vqg i2
  cases pqJ i5
  exact ⟨p, x3, x4, rfl, hp, i3, i4⟩
theorem adK {x : Ad} {p : Addr} {w q : V} (hp : SqT K H p [.str ⟨x.scheme.toArray⟩, otV x.house, itV x.door, w, q, otV x.mark]) (hw : IsK K H x.way w) (hq : IsK K H (qD x.quest) q) : IsK K H x.data (.ref p) :=
  .tup hp (.cons (.str _) (.cons (vqM _) (.cons (wq8 _) (.cons hw (.cons hq (.cons (vqM _) .nil))))))
end
end Wm
namespace L2
open PySem PySem.Spec PyProof.Rows
def pickV {α : Type} (xs : List α) (lo hi st : Option Int) : List α :=
  (sliceRange (sliceBounds lo hi st xs.length).1 (sliceBounds lo hi st xs.length).2.1 (sliceBounds lo hi st xs.length).2.2).filterMap fun i => xs[i]?
section
variable {X : Cx}
def tSl3 (K : PySem.W.Frag) (te : TE) (tl th ts : TO) : TE := fun σ H Q => te σ H fun x H1 => tl σ H1 fun l H2 => th σ H2 fun u H3 => ts σ H3 fun k H4 =>
  ∃ a xs, x = .ref a ∧ SqL K H4 a xs ∧ k ≠ some 0 ∧ (pickV xs l u k).length ≤ sizeLine ∧ ∀ p, H4 p = none → Q (.ref p) (upd H4 p (.lst (pickV xs l u k)))
end
theorem vqu {K : PySem.W.Frag} {te : TE} {tl th ts : TO} {σ : St} {H : Hp} {Q : VK} : tSl3 K te tl th ts σ H Q ↔ te σ H fun x H1 => tl σ H1 fun l H2 => th σ H2 fun u H3 => ts σ H3 fun k H4 =>
  ∃ a xs, x = .ref a ∧ SqL K H4 a xs ∧ k ≠ some 0 ∧ (pickV xs l u k).length ≤ sizeLine ∧ ∀ p, H4 p = none → Q (.ref p) (upd H4 p (.lst (pickV xs l u k))) := Iff.rfl
end L2
namespace Wm
open PySem L2
abbrev Way := Bool × List Stp × Bool
def Ad.w (x : Ad) : Way := (x.rooted, x.steps, x.ends)
def Ad.withWay (x : Ad) (w : Way) : Ad := { x with rooted := w.1, steps := w.2.1, ends := w.2.2 }
def goneV (w : Way) : Way := goneW w.1 w.2.1 w.2.2
def Ad.gone (x : Ad) : Ad := x.withWay (goneV x.w)
end Wm
namespace Wm
open PySem L2
def wayOf (w : Way) : PyData := .tuple [.bool w.1, .tuple (w.2.1.map st), .bool w.2.2]
theorem vq9 {l : Addr} {H : Hp} {Q : VK} : rReverse (.ref l) [] H Q ↔ ∃ xs, H l = some (.lst xs) ∧ Q .non (upd H l (.lst xs.reverse)) :=
  ⟨fun ⟨_, xs, e, _, h, q⟩ => by cases e; exact ⟨xs, h, q⟩, fun ⟨xs, h, q⟩ => ⟨l, xs, rfl, rfl, h, q⟩⟩
end Wm
namespace Wm
open PySem L2
abbrev sV (l : List Nat) : V := .str ⟨l.toArray⟩
end Wm
namespace Wm
open PySem L2
theorem nqW {H : Hp} : ∀ (ss : List (List Nat)), IsAll H (ss.map st) (ss.map sV)
  | [] => .nil
  | s :: ss => .cons (.str _) (nqW ss)
theorem jqE {H : Hp} : ∀ (ss : List (List Nat)), IsTAll H (ss.map st) (ss.map sV)
  | [] => .nil
  | s :: ss => .cons (.str _) (jqE ss)
end Wm
namespace Wm
open PySem L2
theorem hqz {α : Type} {l : List α} {s : α} (g : α → V) (h : l.getLast? = some s) : atI (l.map g) (-1) = some (g s) := by
  obtain ⟨pre, rfl⟩ := List.getLast?_eq_some_iff.mp h
  have e : ixN ((pre ++ [s]).map g).length (-1) = some pre.length := by
    unfold ixN
    simp
    try omega
  unfold atI
  rw [e]
  simp
end Wm
namespace Wm
open PySem L2
end Wm
namespace L2
open PySem
end L2
namespace L2
open PySem
theorem vqE {l : Addr} {H : Hp} {Q : VK} : rPop (.ref l) [] H Q ↔ ∃ xs y, H l = some (.lst xs) ∧ xs[xs.length - 1]? = some y ∧ Q y (upd H l (.lst xs.dropLast)) :=
  ⟨fun ⟨_, xs, y, h1, _, h3, h4, h5⟩ => by cases h1; exact ⟨xs, y, h3, h4, h5⟩, fun ⟨xs, y, h3, h4, h5⟩ => ⟨_, xs, y, rfl, rfl, h3, h4, h5⟩⟩
theorem wqk {H : Hp} {p : Addr} {o : HO} (h : H p = some o) : upd H p o = H := by
  funext b
  by_cases e : b = p
  · subst e; rw [aql, h]
  · rw [aqu e]
end L2
namespace L2
open PySem
theorem rqk {D : Ends} {σ : St} {H : Hp} : tNever D σ H ↔ False := Iff.rfl
end L2
namespace Wm
open PySem L2
structure Ad.Tiny (x : Ad) : Prop where
  stp : ∀ s ∈ x.steps, s.length ≤ 9
  que : ∀ ps, x.quest = some ps → ps.length ≤ 3 ∧ ∀ p ∈ ps, p.1.length ≤ 5 ∧ ∀ v, p.2 = some v → v.length ≤ 6
  mar : ∀ l, x.mark = some l → l.length ≤ 7
  hou : ∀ l, x.house = some l → l.length ≤ 13
def QOk (q : Option (List (List Nat × Option (List Nat)))) : Prop := ∀ ps, q = some ps → ps.length ≤ 3 ∧ ∀ p ∈ ps, PairOk p ∧ p.1.length ≤ 5 ∧ ∀ v, p.2 = some v → v.length ≤ 6
end Wm
namespace Wm
open PySem L2
theorem qqI (w : Way) : (goneV w).2.1.length ≤ w.2.1.length := by
  unfold goneV goneW
  split
  · rename_i h; simp
  · rename_i h
    have := List.length_pos_iff.mpr h
    split
    · cases w.1 <;> simp <;> omega
    · exact gone_len _ _
theorem uqk : StepOk sStay := ⟨by decide, by decide⟩
theorem wqW : StepOk sUp := ⟨by decide, by decide⟩
theorem rqw {w : Way} (h : ∀ s ∈ w.2.1, StepOk s) : ∀ s ∈ (goneV w).2.1, StepOk s := by
  intro s hs
  unfold goneV goneW at hs
  split at hs
  · cases hs
  · split at hs
    · cases e : w.1
      · rw [e] at hs; simp at hs; subst hs; exact uqk
      · rw [e] at hs; simp at hs
    · rcases rqF s hs with z | z
      · exact h s z.1
      · rw [z.2]; exact wqW
theorem oq3 {w : Way} (h : w.2.1 = [] → w.2.2 = w.1) : (goneV w).2.1 = [] → (goneV w).2.2 = (goneV w).1 := by
  intro e
  unfold goneV goneW at e ⊢
  split at e
  · rename_i z; rw [if_pos z]; exact h z
  · rename_i z
    rw [if_neg z]
    split at e
    · rename_i y
      rw [if_pos y]
      cases ew : w.1
      · rw [ew] at e; simp at e
      · rfl
    · rename_i y; exact absurd e y
theorem pqB (w : Way) : (goneV w).1 = w.1 := qqe _ _ _
theorem Ad.Wf.gone {x : Ad} (h : x.Wf) : x.gone.Wf where
  sch := h.sch
  hou := h.hou
  doo := h.doo
  stp := rqw (w := x.w) h.stp
  roo := fun z => (pqB x.w).trans (h.roo z)
  end_ := oq3 (w := x.w) h.end_
  que := h.que
  mar := h.mar
theorem Ad.gone_len (x : Ad) : x.gone.steps.length ≤ x.steps.length := qqI x.w
end Wm
namespace Wm
end Wm
namespace Wm
open PySem L2
def cutA {α : Type} (xs : List α) (lo hi : Option Int) : List α := (xs.drop (HT.sIx xs.length 0 lo)).take (HT.sIx xs.length xs.length hi - HT.sIx xs.length 0 lo)
theorem lqI {α : Type} (f : α → V) (xs : List α) (lo hi : Option Int) : cutV (xs.map f) lo hi = (cutA xs lo hi).map f := by
  unfold cutV cutA; rw [List.length_map, List.map_take, List.map_drop]
theorem rqG {α : Type} (xs : List α) (lo hi : Option Int) : (cutA xs lo hi).length ≤ xs.length := by
  unfold cutA; rw [List.length_take, List.length_drop]; omega
theorem mqF {P : Stp → Prop} {H : Hp} : ∀ {xs ys : List V}, All2 (fun _ y _ => ∃ s : Stp, y = sV s ∧ P s) H xs ys → ∃ ss : List Stp, ys = ss.map sV ∧ ss.length = xs.length ∧ ∀ s ∈ ss, P s
  | _, _, .nil => ⟨[], rfl, rfl, by simp⟩
  | _, _, .cons h r => by
    obtain ⟨s, rfl, hs⟩ := h
    obtain ⟨ss, rfl, hl, h2⟩ := mqF r
    exact ⟨s :: ss, rfl, by simp [hl], fun t ht => by
      rcases List.mem_cons.mp ht with rfl | ht
      · exact hs
      · exact h2 t ht⟩
def AllSg (ss : List Stp) : Prop := ∀ s ∈ ss, ∀ c ∈ s, isSg c = true
end Wm
namespace Wm
open PySem L2
end Wm
namespace L2
open PySem
end L2
namespace Wm
open PySem L2
section
variable {H : Hp}
theorem tqa {r e : Bool} {ss : List (List Nat)} {v : V} (h : IsT H (.tuple [.bool r, .tuple (ss.map st), .bool e]) v) : ∃ p q, v = .ref p ∧ H p = some (.tup [.bl r, .ref q, .bl e]) ∧ H q = some (.tup (ss.map fun l => V.str ⟨l.toArray⟩)) := by
  obtain ⟨p, x, y, z, rfl, hp, h1, h2, h3⟩ := isT3 h
  cases nq1 h1
  cases nq1 h3
  obtain ⟨q, xs, rfl, hq, r⟩ := iqa h2
  cases mq3 r
  exact ⟨p, q, rfl, hp, hq⟩
theorem wayT' {r e : Bool} {ss : List (List Nat)} {p q : Addr} (hp : H p = some (.tup [.bl r, .ref q, .bl e])) (hq : H q = some (.tup (ss.map fun l => V.str ⟨l.toArray⟩))) : IsT H (.tuple [.bool r, .tuple (ss.map st), .bool e]) (.ref p) :=
  .tup hp (.cons (.bl _) (.cons (.tup hq (jqE _)) (.cons (.bl _) .nil)))
theorem vq6 {x : Ad} {v : V} (h : IsT H x.data v) : ∃ p w q, v = .ref p ∧ H p = some (.tup [.str ⟨x.scheme.toArray⟩, otV x.house, itV x.door, w, q, otV x.mark]) ∧ IsT H x.way w ∧ IsT H (qD x.quest) q := by
  obtain ⟨p, x0, x1, x2, x3, x4, x5, rfl, hp, i0, i1, i2, i3, i4, i5⟩ := isT6 (show IsT H (.tuple [st x.scheme, oD x.house, iD x.door, x.way, qD x.quest, oD x.mark]) v from h)
  cases oqs i0
  cases qqS i1
  cases uq8 i2
  cases qqS i5
  exact ⟨p, x3, x4, rfl, hp, i3, i4⟩
theorem adT {x : Ad} {p : Addr} {w q : V} (hp : H p = some (.tup [.str ⟨x.scheme.toArray⟩, otV x.house, itV x.door, w, q, otV x.mark])) (hw : IsT H x.way w) (hq : IsT H (qD x.quest) q) : IsT H x.data (.ref p) :=
  .tup hp (.cons (.str _) (.cons (mql _) (.cons (tqW _) (.cons hw (.cons hq (.cons (mql _) .nil))))))
end
theorem Ad.Wf.sg {x : Ad} (h : x.Wf) : AllSg x.steps := fun s hs => (h.stp s hs).2
theorem Ad.Wf.local {x : Ad} (h : x.Wf) : ({ x with scheme := [], house := none, door := none } : Ad).Wf :=
  ⟨⟨Nat.zero_le _, (fun c hc => by cases hc), (fun c hc => by cases hc)⟩, (fun l e => by cases e), (fun l e => by cases e), h.stp, (fun z => z.elim (fun y => absurd rfl y) (fun y => absurd rfl y)), h.end_, h.que, h.mar⟩
def Goods (n : Nat) (H : Hp) (vs : List V) : Prop := ∀ v ∈ vs, ∃ x : Ad, x.Wf ∧ x.steps.length ≤ n ∧ IsT H x.data v
theorem Goods.cons {n : Nat} {H : Hp} {v : V} {vs : List V} {x : Ad} (h1 : x.Wf) (h2 : x.steps.length ≤ n) (h3 : IsT H x.data v) (h : Goods n H vs) : Goods n H (v :: vs) := fun u hu => by
  rcases List.mem_cons.mp hu with rfl | hu
  · exact ⟨x, h1, h2, h3⟩
  · exact h u hu
end Wm
namespace Wm
open PySem L2
end Wm
namespace Wm
open PySem L2
end Wm
namespace L2
open PySem PySem.Spec PyProof.Rows
theorem wqM {b c : Bool} {H : Hp} {Q : VK} : rIsB true (.bl b) (.bl c) H Q ↔ Q (.bl (!decide (b = c))) H := Iff.rfl
end L2
namespace Wm
open PySem L2
end Wm
namespace Wm
open PySem L2
end Wm
namespace Wm
open PySem L2
end Wm
namespace Wm
open PySem L2
end Wm
namespace Wm
open PySem L2
structure GoodAd (n : Nat) (x : Ad) : Prop where
  wf : x.Wf
  ti : x.Tiny
  sc : x.scheme ≠ []
  ln : x.steps.length ≤ n
end Wm
namespace L2
open PySem PySem.Spec PyProof.Rows
section
variable {prog : Program} {w : World} {A : Around} {E : Value → Shared → Prop} {s : Shared}
end
def Itv (K : PySem.W.Frag) (a : Addr) (n : Nat) : It :=
  ⟨fun i H => ∃ xs x, SqT K H a xs ∧ xs.length = n ∧ i < n ∧ xs[n - 1 - i]? = some x, fun i H x H' => H' = H ∧ ∀ xs, SqT K H a xs → xs.length = n → xs[n - 1 - i]? = some x, fun i _ => n ≤ i⟩
section
variable {X : Cx} {tg : Expr} {K : PySem.W.Frag}
def iRev (K : PySem.W.Frag) (ta : TA) : TI := fun σ H R => ta σ H fun vs H1 => ∃ a xs, vs = [.ref a] ∧ SqT K H1 a xs ∧ R (Itv K a xs.length) H1
variable {σ : St} {H : Hp} {D : Ends} {g : TG} {tb : TS} {aa : TA}
theorem uqa : tFor (iRev K aa) g tb D σ H ↔ aa σ H fun vs H1 => ∃ a xs, vs = [.ref a] ∧ SqT K H1 a xs ∧ LoopI (Itv K a xs.length) g tb D σ H1 := Iff.rfl
end
end L2
namespace L2
open PySem PySem.Spec PyProof.Rows
section
variable {X : Cx}
def rRepT : R2 := fun x y H Q => ∃ a k xs, x = .ref a ∧ y = .int k ∧ H a = some (.tup xs) ∧ 2 ≤ k ∧ k < 1000 ∧ xs.length * k.toNat ≤ sizeLine ∧ ∀ p H', Same H H' → H' p = some (.tup (List.replicate k.toNat xs).flatten) → Q (.ref p) H'
theorem rq8 {a : Addr} {k : Int} {H : Hp} {Q : VK} : rRepT (.ref a) (.int k) H Q ↔ ∃ xs, H a = some (.tup xs) ∧ 2 ≤ k ∧ k < 1000 ∧ xs.length * k.toNat ≤ sizeLine ∧ ∀ p H', Same H H' → H' p = some (.tup (List.replicate k.toNat xs).flatten) → Q (.ref p) H' := by
  constructor
  · rintro ⟨a', k', xs, h1, h2, h⟩; cases h1; cases h2; exact ⟨xs, h⟩
  · rintro ⟨xs, h⟩; exact ⟨a, k, xs, rfl, rfl, h⟩
def rRepS : R2 := fun x y H Q => ∃ l k xs, x = .ref l ∧ y = .int k ∧ H l = some (.lst xs) ∧ 0 ≤ k ∧ k < 1000000 ∧ xs.length * k.toNat ≤ sizeLine ∧ ∀ p H', H p = none → Same H H' → H' p = some (.lst (List.replicate k.toNat xs).flatten) → Q (.ref p) H'
theorem sqk {a : Addr} {k : Int} {H : Hp} {Q : VK} : rRepS (.ref a) (.int k) H Q ↔ ∃ xs, H a = some (.lst xs) ∧ 0 ≤ k ∧ k < 1000000 ∧ xs.length * k.toNat ≤ sizeLine ∧ ∀ p H', H p = none → Same H H' → H' p = some (.lst (List.replicate k.toNat xs).flatten) → Q (.ref p) H' := by
  constructor
  · rintro ⟨a', k', xs, h1, h2, h⟩; cases h1; cases h2; exact ⟨xs, h⟩
  · rintro ⟨xs, h⟩; exact ⟨a, k, xs, rfl, rfl, h⟩
end
end L2
namespace L2
open PySem PySem.Spec PyProof.Rows
section
variable {X : Cx}
def rRepN : R2 := fun x y H Q => ∃ a k xs, x = .ref a ∧ y = .int k ∧ H a = some (.tup xs) ∧ 0 ≤ k ∧ k < 1000 ∧ xs.length * k.toNat ≤ sizeLine ∧ ∀ p H', Same H H' → H' p = some (.tup (List.replicate k.toNat xs).flatten) → Q (.ref p) H'
theorem rqf {a : Addr} {k : Int} {H : Hp} {Q : VK} : rRepN (.ref a) (.int k) H Q ↔ ∃ xs, H a = some (.tup xs) ∧ 0 ≤ k ∧ k < 1000 ∧ xs.length * k.toNat ≤ sizeLine ∧ ∀ p H', Same H H' → H' p = some (.tup (List.replicate k.toNat xs).flatten) → Q (.ref p) H' := by
  constructor
  · rintro ⟨a', k', xs, h1, h2, h⟩; cases h1; cases h2; exact ⟨xs, h⟩
  · rintro ⟨xs, h⟩; exact ⟨a, k, xs, rfl, rfl, h⟩
end
end L2
namespace L2
open PySem PySem.Spec PyProof.Rows
section
variable {X : Cx}
def intsV (lo : Int) (n : Nat) : List V := (List.range n).map fun k => .int (lo + (k : Nat))
def tLR (ta : TA) : TE := fun σ H Q => ta σ H fun vs H1 => ∃ j : Int, vs = [.int j] ∧ 0 ≤ j ∧ j ≤ 1000000 ∧ ∀ p, H1 p = none → Q (.ref p) (upd H1 p (.lst (intsV 0 j.toNat)))
end
theorem wqG {ta : TA} {σ : St} {H : Hp} {Q : VK} : tLR ta σ H Q ↔ ta σ H fun vs H1 => ∃ j : Int, vs = [.int j] ∧ 0 ≤ j ∧ j ≤ 1000000 ∧ ∀ p, H1 p = none → Q (.ref p) (upd H1 p (.lst (intsV 0 j.toNat))) := Iff.rfl
end L2
namespace L2
open PySem
section
variable {p : Addr} {fv : St} {tt : TT} {te : TE} {Q : VK} {H1 : Hp} {K : PySem.W.Frag}
end
end L2
namespace L2
open PySem PySem.Spec PyProof.Rows
section
variable {X : Cx} {pins : List (Addr × Obj)} {σ : St} {H1 : Hp} {s3 : Shared} {x x2 : Str} {fx : List Str} {fr : List Nat} {scope : Scope} {cl : List (Str × Addr)} {fp : List Addr}
theorem rq7 (I : Inv X pins σ H1 s3) (hkind : scope.kind = .function) (hcl : ∀ y c, cl.lookup y = some c → X.env.cells.lookup y = some c)
    (F : Frees X (relabel scope X.env) cl fx fr) (hfx : ((relabel scope X.env).names.all fun p => if (p.2 == .cell || p.2 == .free) then fx.contains p.1 else true) = true)
    (ffp : ∀ b ∈ fp, FpOk X pins H1 b) (flt : ∀ b ∈ fp, b < s3.heap.objs.size) : (compCx X (x :: x2 :: fx) scope cl s3 H1 fp).Ok where
  mod := I.ok.mod
  kind := hkind
  glob := I.ok.glob
  blt := I.ok.blt
  above := Nat.le_refl _
  inj := fun y z c h1 h2 => I.ok.inj y z c (hcl y c h1) (hcl z c h2)
  has := fun y h => by
    have h : (relabel scope X.env).names.lookup y = some .cell ∨ (relabel scope X.env).names.lookup y = some .free := h
    have key : y ∈ fx := by
      rcases h with h | h
      · have q := List.all_eq_true.mp hfx _ (PySem.mem_of_lookup h)
        simpa using q
      · have q := List.all_eq_true.mp hfx _ (PySem.mem_of_lookup h)
        simpa using q
    obtain ⟨k1, k2⟩ := F.mem y key
    obtain ⟨c, e⟩ := I.ok.has y (.inl k1)
    exact ⟨c, k2.trans e⟩
  cab := fun y c h => by cases (show false = true from h)
  hd := I.ok.hd
  frames := I.ok.frames
  stk := .inl rfl
  exf := fun b hb => ⟨Nat.ne_of_lt (flt b hb), fun y c e => (ffp b hb).2.2.2.2.1 y c (hcl y c e)⟩
  bs := I.bs
  bsz := Nat.le_trans I.ok.bsz I.sz
  noex := fun b o e hb => by
    rcases (ffp b hb).2.2.2.1 with z | z
    · exact I.ok.noex b o e z
    · exact absurd (Nat.lt_of_lt_of_le (Heap.lt_size (I.ok.bs b o e).1) z) (Nat.lt_irrefl _)
  exfs := fun b hb z => by
    rcases List.mem_cons.mp (I.stkSub b z) with q | q
    · exact (ffp b hb).2.1 q
    · exact (ffp b hb).2.2.1 q
  funs := I.stack
  frf := I.stkFree
theorem nqr (I : Inv X pins σ H1 s3) (hkind : scope.kind = .function) (hcl : ∀ y c, cl.lookup y = some c → X.env.cells.lookup y = some c)
    (F : Frees X (relabel scope X.env) cl fx fr) (hfx : ((relabel scope X.env).names.all fun p => if (p.2 == .cell || p.2 == .free) then fx.contains p.1 else true) = true)
    (ffp : ∀ b ∈ fp, FpOk X pins H1 b) (flt : ∀ b ∈ fp, b < s3.heap.objs.size) {h1 : Heap} {t : Nat} {m : Str → Option Value} (hn : h1.Ns s3.heap.objs.size m)
    (keep : ∀ b u, s3.heap.get? b = some u → h1.get? b = some u) : Inv (compCx X (x :: x2 :: fx) scope cl s3 H1 fp) [] (none :: none :: frV σ fr) H1 { s3 with heap := h1, toks := t } := by
  refine ⟨rq7 I hkind hcl F hfx ffp flt, rfl, I.bare, Un.kept keep, ⟨m, hn, fun i y v e1 e2 e3 => ?_⟩, fun y c e => ?_, I.hok.fresh (Nat.le_refl _), fun y c e => I.freeC y c (hcl y c e), fun p hp => absurd (show p ∈ ([] : List (Addr × Obj)) from hp) (by simp), I.hok.kept keep, ?_⟩
  · cases i with
    | zero => simp at e2
    | succ j =>
     cases j with
     | zero => simp at e2
     | succ j =>
      obtain ⟨i0, k1, k2, k3, k4, k5⟩ := F.at (σ := σ) j y v (by simpa [compCx] using e1) (by simpa using e2)
      obtain ⟨m0, hn0, hl0⟩ := I.loc
      obtain ⟨u, r, l⟩ := hl0 i0 y v k1 k2 (.inr (.inl k3))
      refine ⟨u, r, ?_⟩
      rcases l with ⟨z, _⟩ | ⟨_, c, e, o, ho, hd⟩
      · rw [k3] at z; cases z
      · exact .inr ⟨.inl k4, c, k5.trans e, o, keep c o ho, hd⟩
  · obtain ⟨v, o, ho, hd⟩ := I.cell y c (hcl y c e)
    exact ⟨v, o, keep c o ho, hd⟩
  · show (none :: none :: frV σ fr).length = (x :: x2 :: fx).length
    simp [frV, F.len]
end
def CompI2 (K : PySem.W.Frag) (J : It) (p : Addr) (fv : St) (tt : TT) (te : TE) (Q : VK) (H1 : Hp) : Prop :=
  ∃ W : Nat → Nat → List V → Hp → Prop, (∃ m, W 0 m [] (upd H1 p (.lst []))) ∧ ∀ i m ys H2, W i m ys H2 → H2 p = some (.lst ys) ∧
    ((J.stop i H2 ∧ Q (.ref p) H2) ∨ (J.go i H2 ∧ ys.length < sizeLine ∧ ∀ z H3, J.yld i H2 z H3 → ∃ a x y, z = .ref a ∧ SqT K H3 a [x, y] ∧ tt (some x :: some y :: fv) H3 fun b H4 =>
      if b = true then te (some x :: some y :: fv) H4 fun y H5 => H5 p = some (.lst ys) ∧ ∃ m', m' < m ∧ W (i + 1) m' (ys ++ [y]) (upd H5 p (.lst (ys ++ [y])))
      else ∃ m', m' < m ∧ W (i + 1) m' ys H4))
def tComp2 (K : PySem.W.Frag) (wi : TI) (fr : List Nat) (tt : TT) (te : TE) : TE := fun σ H Q => wi σ H fun J H1 => ∀ p, H1 p = none → CompI2 K J p (frV σ fr) tt te Q H1
section
variable {X : Cx} {elt iter : Expr} {x x2 : Str} {px px2 ptx pos : Pos} {kx : Nat} {ifs : List Expr} {scope : Scope} {cl : List (Str × Addr)} {fx : List Str} {fr : List Nat} {wi : TI} {tt : TT} {te : TE}
theorem nqz {pins : List (Addr × Obj)} {σ : St} {H3 : Hp} {s3 : Shared} {it p : Addr} {fp : List Addr} {tn : Nat → Heap → Prop} {J : It} {Q : VK} {W : Nat → Nat → List V → Hp → Prop} {m0 t : Nat} {h₁ : Heap} {m : Str → Option Value} {RR : Result → Shared → Prop}
    (hc : X.calm = true) (hkind : scope.kind = .function) (hx : scope.names.lookup x = some .local) (hx2 : scope.names.lookup x2 = some .local) (hnd : (x :: x2 :: fx).Nodup)
    (hcl : ∀ y c, cl.lookup y = some c → X.env.cells.lookup y = some c) (F : Frees X (relabel scope X.env) cl fx fr)
    (hfx : ((relabel scope X.env).names.all fun p => if (p.2 == .cell || p.2 == .free) then fx.contains p.1 else true) = true)
    (ht : ∀ s H fp, PF (compCx X (x :: x2 :: fx) scope cl s H fp) ifs tt) (he : ∀ s H fp, PE (compCx X (x :: x2 :: fx) scope cl s H fp) elt te)
    (I3 : Inv X pins σ H3 s3) (T : Turn X.prog X.w X.K (.Tuple [.Name x px, .Name x2 px2] kx ptx) J fp it tn) (st3 : tn 0 s3.heap) (ffp : ∀ b ∈ fp, FpOk X pins H3 b) (flt3 : ∀ b ∈ fp, b < s3.heap.objs.size)
    (w0 : W 0 m0 [] H3) (turn : ∀ i m ys H2, W i m ys H2 → H2 p = some (.lst ys) ∧
      ((J.stop i H2 ∧ Q (.ref p) H2) ∨ (J.go i H2 ∧ ys.length < sizeLine ∧ ∀ z H3, J.yld i H2 z H3 → ∃ a x y, z = .ref a ∧ SqT X.K H3 a [x, y] ∧ tt (some x :: some y :: frV σ fr) H3 fun b H4 =>
        if b = true then te (some x :: some y :: frV σ fr) H4 fun y H5 => H5 p = some (.lst ys) ∧ ∃ m', m' < m ∧ W (i + 1) m' (ys ++ [y]) (upd H5 p (.lst (ys ++ [y])))
        else ∃ m', m' < m ∧ W (i + 1) m' ys H4)))
    (hns : h₁.Ns s3.heap.objs.size m) (keep1 : ∀ b u, s3.heap.get? b = some u → h₁.get? b = some u)
    (fin : ∀ s6 H5 o o2, Inv (compCx X (x :: x2 :: fx) scope cl s3 H3 fp) [] (o :: o2 :: frV σ fr) H5 s6 → Q (.ref p) H5 → RR (.ok .next) s6) :
    codeAny (model X.prog X.w) X.A (.compStart (.ListComp elt [⟨.Tuple [.Name x px, .Name x2 px2] kx ptx, iter, ifs, 0⟩] scope pos) 0 (.ref it) (.ref p) (compEnvC scope cl s3.heap.objs.size X.env))
      RR { s3 with heap := h₁, toks := t } := by
  have I4 := nqr (x := x) (x2 := x2) (t := t) I3 hkind hcl F hfx ffp flt3 hns keep1
  have st4 : tn 0 h₁ := T.keep _ _ _ st3 fun b hb o e => keep1 b o e
  have fp0 : ∀ b ∈ fp, H3 b = none := fun b hb => (ffp b hb).1
  have hcal : (compCx X (x :: x2 :: fx) scope cl s3 H3 fp).calm = true := hc
  have stat : ∀ {H' : Hp}, (∀ b ∈ fp, H' b = none) → ∀ b ∈ fp, FpOk (compCx X (x :: x2 :: fx) scope cl s3 H3 fp) [] H' b := fun {H'} hn b hb => by
    obtain ⟨f0, f1, f2, f3, f4, f5⟩ := ffp b hb
    exact ⟨hn b hb, Nat.ne_of_lt (flt3 b hb), I4.ok.exfs b hb, .inl hb, fun y c e => f4 y c (hcl y c e), fun q hq => absurd (show q ∈ ([] : List (Addr × Obj)) from hq) (by simp)⟩
  have hxl : (relabel scope X.env).names.lookup x = some .local := lookup_relabel_local hx
  have hxl2 : (relabel scope X.env).names.lookup x2 = some .local := lookup_relabel_local hx2
  have pg : PG (compCx X (x :: x2 :: fx) scope cl s3 H3 fp) (.Tuple [.Name x px, .Name x2 px2] kx ptx) (gTup X.K 2 (gCons (gName 0) (gCons (gName 1) gNil))) := sqS hcal (dqt (cqi (i := 0) hnd rfl (.inl hxl) (.inr hxl)) (dqt (cqi (i := 1) hnd rfl (.inl hxl2) (.inr hxl2)) nqo))
  have loop : codeAny (model X.prog X.w) X.A (.compLoop (.ListComp elt [⟨.Tuple [.Name x px, .Name x2 px2] kx ptx, iter, ifs, 0⟩] scope pos) 0 (.ref it) (.ref p) (compEnvC scope cl s3.heap.objs.size X.env))
        RR { s3 with heap := h₁, toks := t } := by
    refine iqG (fun n s' => ∃ i ys H' o o2, Inv (compCx X (x :: x2 :: fx) scope cl s3 H3 fp) [] (o :: o2 :: frV σ fr) H' s' ∧ tn i s'.heap ∧ (∀ b ∈ fp, H' b = none) ∧ W i n ys H') ?_ m0 ⟨0, [], _, none, none, I4, st4, fp0, w0⟩
    rintro n s5 ⟨i, ys, H5, o, o2, I5, st5, fr5, w5⟩
    obtain ⟨hp5, alt⟩ := turn i n ys H5 w5
    rcases alt with ⟨stop, qn⟩ | ⟨go, hlen, step⟩
    · refine thn (T.done (compCx X (x :: x2 :: fx) scope cl s3 H3 fp) rfl rfl rfl hcal i [] s5 (o :: o2 :: frV σ fr) H5 _ I5 (stat fr5) st5 stop) fun r s6 ⟨hr, I6⟩ => ?_
      subst hr
      exact fin s6 H5 o o2 I6 qn
    · refine thn (T.item (compCx X (x :: x2 :: fx) scope cl s3 H3 fp) rfl rfl rfl hcal i [] s5 (o :: o2 :: frV σ fr) H5 _ I5 (stat fr5) st5 go) fun r s6 ⟨u, hr, h6⟩ => ?_
      subst hr
      refine thn h6 fun _ s7 ⟨y7, H7, I7, r7, yl7, st7, fr7⟩ => ?_
      have I7' := I7.pinned (stat fr7) (T.obj _ _ st7)
      have back : ∀ {σ' : St} {H' : Hp} {s' : Shared}, Inv (compCx X (x :: x2 :: fx) scope cl s3 H3 fp) ([] ++ pinsAt fp s7.heap) σ' H' s' → tn (i + 1) s'.heap ∧ ∀ b ∈ fp, H' b = none := fun {σ' H' s'} I' => by
        refine ⟨T.keep _ _ _ st7 fun b hb o e => (I'.pin (b, o) (List.mem_append_right _ (List.mem_append_right _ (eqi hb e)))).1, fun b hb => ?_⟩
        obtain ⟨o, e, d⟩ := T.obj _ _ st7 b hb
        exact (I'.pin (b, o) (List.mem_append_right _ (List.mem_append_right _ (eqi hb e)))).2.1
      obtain ⟨a7, z1, z2, e7, q7, step7⟩ := step y7 _ yl7
      subst e7
      refine thn (pg _ s7 _ H7 (.ref a7) u (fun σ' H' => σ' = some z1 :: some z2 :: frV σ fr ∧ H' = H7) I7' r7 ⟨a7, [z1, z2], rfl, q7, rfl, z1, [z2], rfl, z2, [], rfl, rfl, rfl, rfl⟩) fun _ s8 ⟨σ8, H8, I8, e8, e8'⟩ => ?_
      subst e8 e8'
      refine thn (ht s3 H3 fp _ s8 _ _ _ I8 step7) fun b s9 ⟨H9, I9, q9⟩ => ?_
      cases b with
      | false =>
        rw [if_neg Bool.false_ne_true] at q9 ⊢
        obtain ⟨m', hm, w9⟩ := q9
        exact ⟨m', hm, i + 1, ys, H9, some z1, some z2, I9.unpinned, (back I9).1, (back I9).2, w9⟩
      | true =>
        rw [if_pos rfl] at q9 ⊢
        refine thn (he s3 H3 fp _ s9 _ H9 _ I9 q9) fun u10 s10 ⟨y10, H10, I10, r10, hp10, m', hm, w10⟩ => ?_
        refine thn (cqx _ s10 _ H10 (.ref p) [y10] (.ref p) [u10] (fun _ H' => H' = upd H10 p (.lst (ys ++ [y10]))) I10 rfl (.cons r10 .nil) ⟨p, ys, y10, rfl, rfl, hp10, hlen, rfl⟩) fun _ s11 ⟨_, H11, I11, _, e11⟩ => ?_
        subst e11
        exact ⟨m', hm, i + 1, ys ++ [y10], _, some z1, some z2, I11.unpinned, (back I11).1, (back I11).2, w10⟩
  exact codeAny_compStart_list loop (T.self _ 0 _ _ _ st4 loop)
theorem rqg (hc : X.calm = true) (hclos : closureFor scope X.env = pure cl) (hcell : ∀ y ∈ scope.names, y.2 ≠ .cell) (hkind : scope.kind = .function)
    (hnames : ∀ y ∈ scope.names, y.2 = .local → scope.names.lookup y.1 = some .local) (hx : scope.names.lookup x = some .local) (hx2 : scope.names.lookup x2 = some .local) (hnd : (x :: x2 :: fx).Nodup)
    (hk : (cl.all fun q => fx.contains q.1) = true) (F : Frees X (relabel scope X.env) cl fx fr)
    (hfx : ((relabel scope X.env).names.all fun p => if (p.2 == .cell || p.2 == .free) then fx.contains p.1 else true) = true)
    (hi : PI X (.Tuple [.Name x px, .Name x2 px2] kx ptx) iter wi) (ht : ∀ s H fp, PF (compCx X (x :: x2 :: fx) scope cl s H fp) ifs tt) (he : ∀ s H fp, PE (compCx X (x :: x2 :: fx) scope cl s H fp) elt te)
    (hs : ∀ x, foldedSetIterable iter X.env x = pure x := by intro _; rfl) :
    PE X (.ListComp elt [⟨.Tuple [.Name x px, .Name x2 px2] kx ptx, iter, ifs, 0⟩] scope pos) (tComp2 X.K wi fr tt te) := by
  intro pins s σ H Q I h
  have hcl : ∀ y c, cl.lookup y = some c → X.env.cells.lookup y = some c := fun y c e => by
    have q := List.all_eq_true.mp hk _ (PySem.mem_of_lookup e)
    rw [← (F.mem y (by simpa using q)).2]
    exact e
  rw [eval_ListComp]
  refine wpAny_comprehension_free (use := none) rfl hs hclos hkind hnames ?_
  refine thn (hi pins s σ H _ I h) fun v s1 h1 => thn h1 fun itv s2 h2 => ?_
  obtain ⟨it, fp, tn, J, H2, e, I2, T, st2, f2, q2⟩ := h2
  subst e
  have hp0 : H2 s2.heap.objs.size = none := I2.hok.fresh (Nat.le_refl _)
  obtain ⟨W, ⟨m0, w0⟩, turn⟩ := q2 _ hp0
  have flt : ∀ b ∈ fp, b < s2.heap.objs.size := fun b hb => by
    obtain ⟨o, e, _⟩ := T.obj _ _ st2 b hb
    exact Heap.lt_size e
  refine wpAny_newObj_type (wpAny_newFunctionEnv hcell (by intro y hy; simp at hy) (fun h₁ hns₁ hsb₁ => ?_) hkind)
  dsimp only at hns₁ hsb₁ ⊢
  have hlay : ∀ b u, s2.heap.get? b = some u → (s2.heap.push { cls := .type "list", dict := none, data := .seq ([] : List Value).toArray }).get? b = some u := fun b u e => Heap.get?_push_of_some _ e
  have hnew : (s2.heap.push { cls := .type "list", dict := none, data := .seq ([] : List Value).toArray }).get? s2.heap.objs.size = some { cls := .type "list", dict := none, data := .seq ([] : List Value).toArray } := Heap.get?_push_size _ rfl
  have hsz : (s2.heap.push { cls := .type "list", dict := none, data := .seq ([] : List Value).toArray }).objs.size = s2.heap.objs.size + 1 := Heap.size_push _ _
  generalize hHH : s2.heap.push { cls := .type "list", dict := none, data := .seq ([] : List Value).toArray } = HH at hns₁ hsb₁ hlay hnew hsz ⊢
  have I3 : Inv X pins σ (upd H2 s2.heap.objs.size (.lst [])) { s2 with heap := HH, toks := s2.toks } :=
    I2.laid (t' := s2.toks) (o := .lst []) hlay (Nat.le_refl _) ⟨Nat.zero_le _, [], 0, .nil, hnew⟩
  have ffp : ∀ b ∈ fp, FpOk X pins (upd H2 s2.heap.objs.size (.lst [])) b := fun b hb => by
    obtain ⟨f0, fr'⟩ := f2 b hb
    exact ⟨by rw [aqu (Nat.ne_of_lt (flt b hb))]; exact f0, fr'⟩
  have keep1 : ∀ b u, HH.get? b = some u → h₁.get? b = some u := fun b u e => hsb₁.extBut b u (Nat.ne_of_lt (Heap.lt_size e)) (Heap.get?_push_of_some _ e)
  exact nqz (s3 := { s2 with heap := HH, toks := s2.toks }) hc hkind hx hx2 hnd hcl F hfx ht he I3 T (T.keep _ _ _ st2 fun b hb o e => hlay b o e) ffp (fun b hb => by show b < HH.objs.size; rw [hsz]; exact Nat.lt_succ_of_lt (flt b hb)) w0 turn hns₁ keep1 fun s6 H5 o o2 I6 qn => by
    obtain ⟨m, hn6, _⟩ := id I6.loc
    exact ⟨m, hn6, fun h' sb => ⟨.ref _, H5, mq6 I3 I6 ffp sb, rfl, qn⟩⟩
theorem pq5 {K : PySem.W.Frag} (h : X.K = K) (hc : X.calm = true) (hclos : closureFor scope X.env = pure cl) (hcell : ∀ y ∈ scope.names, y.2 ≠ .cell) (hkind : scope.kind = .function)
    (hnames : ∀ y ∈ scope.names, y.2 = .local → scope.names.lookup y.1 = some .local) (hx : scope.names.lookup x = some .local) (hx2 : scope.names.lookup x2 = some .local) (hnd : (x :: x2 :: fx).Nodup)
    (hk : (cl.all fun q => fx.contains q.1) = true) (F : Frees X (relabel scope X.env) cl fx fr)
    (hfx : ((relabel scope X.env).names.all fun p => if (p.2 == .cell || p.2 == .free) then fx.contains p.1 else true) = true)
    (hi : PI X (.Tuple [.Name x px, .Name x2 px2] kx ptx) iter wi) (ht : ∀ s H fp, PF (compCx X (x :: x2 :: fx) scope cl s H fp) ifs tt) (he : ∀ s H fp, PE (compCx X (x :: x2 :: fx) scope cl s H fp) elt te)
    (hs : ∀ x, foldedSetIterable iter X.env x = pure x := by intro _; rfl) :
    PE X (.ListComp elt [⟨.Tuple [.Name x px, .Name x2 px2] kx ptx, iter, ifs, 0⟩] scope pos) (tComp2 K wi fr tt te) := by
  subst h; exact rqg hc hclos hcell hkind hnames hx hx2 hnd hk F hfx hi ht he hs
end
section
variable {p : Addr} {fv : St} {te : TE} {Q : VK} {H1 : Hp} {K : PySem.W.Frag}
theorem qq7 {a : Addr} {xs zs : List V} {f : Nat → V × V} (hxs : SqT K H1 a xs) (hlen : xs.length ≤ sizeLine) (hp : H1 p = none) (hz : zs.length = xs.length)
    (hit : ∀ (i : Nat) (x : V) (H' : Hp), xs[i]? = some x → Same H1 H' → ∃ b, x = .ref b ∧ SqT K H' b [(f i).1, (f i).2])
    (he : ∀ (i : Nat) (z : V), i < xs.length → zs[i]? = some z → ∀ (H' : Hp) (T : VK), Same H1 H' → (∀ H'', Same H' H'' → T z H'') → te (some (f i).1 :: some (f i).2 :: fv) H' T)
    (hQ : ∀ H', Same H1 H' → H' p = some (.lst zs) → Q (.ref p) H') : CompI2 K (Itt K a) p fv tYes te Q H1 := by
  refine ⟨fun i m ys H2 => m = xs.length - i ∧ i ≤ xs.length ∧ ys = zs.take i ∧ H2 p = some (.lst ys) ∧ Same H1 H2, ⟨xs.length, by simp, Nat.zero_le _, by simp, aql, fun b o e => by rw [aqu (aqr e hp)]; exact e⟩, ?_⟩
  rintro i m ys H2 ⟨rfl, hi, rfl, hp2, sm⟩
  refine ⟨hp2, ?_⟩
  have q := sm.tup hxs
  by_cases hlt : i < xs.length
  · refine .inr ⟨⟨xs, xs[i], q, by simp [hlt]⟩, ?_, fun x H3 y => ?_⟩
    · rw [List.length_take]; omega
    · obtain ⟨rfl, y⟩ := y
      have hc := y xs q
      obtain ⟨b, rfl, hb⟩ := hit i x H3 hc sm
      refine ⟨b, _, _, rfl, hb, ?_⟩
      unfold tYes
      dsimp only
      rw [if_pos rfl]
      have hzi : zs[i]? = some zs[i] := by simp [hz, hlt]
      refine he i _ hlt hzi _ _ sm fun H5 s5 => ⟨s5 _ _ hp2, xs.length - (i + 1), by omega, rfl, hlt, ?_, aql, fun b o e => ?_⟩
      · rw [List.take_add_one, hzi]; rfl
      · rw [aqu (aqr e hp)]; exact s5 _ _ (sm _ _ e)
  · have e : i = xs.length := by omega
    subst e
    refine .inl ⟨⟨xs, q, Nat.le_refl _⟩, hQ H2 sm ?_⟩
    rw [hp2, ← hz, List.take_length]
theorem pqG {tl : TE} {tt : TT} {fr : List Nat} {σ : St} {H : Hp} : tComp2 K (iTup K tl) fr tt te σ H Q ↔ tl σ H fun x H1 => ∃ a, x = .ref a ∧ (∃ xs, SqT K H1 a xs) ∧ ∀ p, H1 p = none → CompI2 K (Itt K a) p (frV σ fr) tt te Q H1 := Iff.rfl
end
end L2
namespace L2
open PySem PySem.Spec PyProof.Rows
section
variable {X : Cx}
def rFind : V → List V → Hp → VK → Prop := fun x vs H Q => match x, vs with
  | .str z, [.str y] => Q (.int (Txt.find z y)) H
  | _, _ => False
theorem uqf {z y : Str} {H : Hp} {Q : VK} : rFind (.str z) [.str y] H Q ↔ Q (.int (Txt.find z y)) H := Iff.rfl
end
end L2
namespace Wm
open PySem L2
def low1 (c : Nat) : Nat := if 65 ≤ c ∧ c ≤ 90 then c + 32 else c
theorem uq6 : ∀ c, c < 128 → isSg c = true → isSg (low1 c) = true := by decide +kernel
theorem uqB : ∀ c, c < 128 → isAln c = true → isAln (low1 c) = true := by decide +kernel
theorem tqd : ∀ c, c < 128 → isLet c = true → isLet (low1 c) = true := by decide +kernel
def lowT (l : List Nat) : List Nat := l.map low1
theorem oqt (l : List Nat) : (lowT l).length = l.length := List.length_map ..
def plainM (x : Ad) : Ad := ({ x with scheme := lowT x.scheme, house := x.house.map lowT } : Ad).gone
theorem gqw {c : Nat} (h : isSg c = true) : c < 128 := by have := cq7 h; omega
theorem hqV {x : Ad} (h : x.Wf) : (plainM x).Wf := by
  refine Ad.Wf.gone ⟨⟨by rw [oqt]; exact h.sch.1, fun c hc => ?_, fun c hc => ?_⟩, fun l e => ?_, fun i e => ?_, h.stp, fun z => h.roo (z.imp (fun y e => y (by rw [e]; rfl)) (fun y e => y (by rw [e]; rfl))), h.end_, h.que, h.mar⟩
  · obtain ⟨d, hd, rfl⟩ := List.mem_map.mp hc
    have := h.sch.2.1 d hd
    exact uqB d (gqw (mqK this)) this
  · unfold lowT at hc
    rw [← List.map_take] at hc
    obtain ⟨d, hd, rfl⟩ := List.mem_map.mp hc
    have h1 := h.sch.2.2 d hd
    exact tqd d (gqw (mqK (h.sch.2.1 d (List.mem_of_mem_take hd)))) h1
  · obtain ⟨m, hm, rfl⟩ := Option.map_eq_some_iff.mp e
    obtain ⟨h1, h2⟩ := h.hou m hm
    refine ⟨by rw [oqt]; exact h1, fun c hc => ?_⟩
    obtain ⟨d, hd, rfl⟩ := List.mem_map.mp hc
    exact uq6 d (gqw (h2 d hd)) (h2 d hd)
  · obtain ⟨h1, h2⟩ := h.doo i e
    refine ⟨h1, fun z => h2 ?_⟩
    cases hh : x.house with
    | none => rfl
    | some l => rw [hh] at z; cases z
theorem pqa (x : Ad) : (plainM x).steps.length ≤ x.steps.length := Ad.gone_len _
end Wm
namespace Wm
open PySem L2
end Wm
namespace Wm
open PySem L2
end Wm
namespace Wm
end Wm
namespace L2
open PySem
theorem vq0 {l : Addr} {H : Hp} {Q : VK} {i : Int} : rPopAt (.ref l) [.int i] H Q ↔ ∃ xs k y, H l = some (.lst xs) ∧ -(2 ^ 63) ≤ i ∧ i < 2 ^ 63 ∧ seqIndex? i xs.length = some k ∧ xs[k]? = some y ∧ Q y (upd H l (.lst (xs.eraseIdx k))) :=
  ⟨fun ⟨_, xs, _, k, y, h1, h2, h⟩ => by cases h1; cases h2; exact ⟨xs, k, y, h⟩, fun ⟨xs, k, y, h⟩ => ⟨_, xs, _, k, y, rfl, rfl, h⟩⟩
end L2
namespace L2
open PySem PySem.Spec PySem.W PyProof.Rows
abbrev vErr : List Value := [.type "ValueError", .type "Exception", .type "BaseException", .type "object"]
abbrev vNew : String := "ValueError.__new__"
def tRaise (E : XK) (C : Addr) : TS := fun _ _ H => E (.ref C) none H
theorem oqf {E : XK} {C : Addr} {D : Ends} {σ : St} {H : Hp} : tRaise E C D σ H ↔ E (.ref C) none H := Iff.rfl
theorem ObjOk.ex {P : Program} {w : World} {H : Hp} {h : Heap} {a : Addr} {o : HO} (x : ObjOk P w H h a o) : ∃ u, h.get? a = some u := by
  cases o with
  | lst xs => obtain ⟨_, _, _, _, e⟩ := x; exact ⟨_, e⟩
  | tup xs => obtain ⟨_, _, _, _, e, _⟩ := x; exact ⟨_, e⟩
  | dK kvs => obtain ⟨_, _, _, _, _, _, _, e, _⟩ := x; exact ⟨_, e⟩
  | dT kvs => obtain ⟨_, _, _, _, _, _, _, e, _⟩ := x; exact ⟨_, e⟩
  | set S n => obtain ⟨_, _, _, _, e, _⟩ := x; exact ⟨_, e⟩
  | ins C dx fs => obtain ⟨_, _, _, e, _⟩ := x; exact ⟨_, e⟩
  | own y => exact x
  | xd fs => obtain ⟨_, ⟨_, _, _, e, _⟩, _⟩ := x; exact ⟨_, e⟩
  | rng lo hi => obtain ⟨_, _, _, e⟩ := x; exact ⟨_, e⟩
  | frz ob u => exact ⟨_, x.1⟩
  | tbl ps => exact ⟨_, x⟩
  | met f y => exact ⟨_, x⟩
  | ext φ => exact x.2.1
structure Flown (P : Program) (w : World) (base : Heap) (outer : List Env) (H : Hp) (s : Shared) (a t C : Addr) (B : Heap) (H' : Hp) (s' : Shared) : Prop where
  os : s'.os = s.os
  bare : AllBare s'.gens
  st : base.StaysIn B
  fly : Heap.FlyingW B outer a (.ref C) (.ref t) s'.heap
  hok : HOk P w H' B
  un : Un (frs outer) [] H H' s.heap s'.heap
  kb : ∀ b o, s.heap.get? b = some o → H b = none → b ∉ frs outer → B.get? b = some o
  thB : ∀ b o, s.heap.get? b = some o → b ∉ frs outer → ∃ o', B.get? b = some o'
def CXE (P : Program) (w : World) (base : Heap) : CXT := fun outer H s E e s' => ∃ (a t C : Addr) (B : Heap) (H' : Hp), e = .ref a ∧ E (.ref C) none H' ∧ Flown P w base outer H s a t C B H' s'
theorem hqN {env : Env} {L : Addr} {outer : List Env} (hf : env.frame = some L) {b : Addr} : b ∈ frs (env :: outer) ↔ b = L ∨ b ∈ frs outer := by
  unfold frs
  rw [List.filterMap_cons, hf]
  exact List.mem_cons
section
variable {P : Program} {w : World} {K : Frag} {mg : Str → Option Value} {base : Heap} {N : List Str} {qual : Str} {scope : Scope} {f : Addr} {cd : Value} {A : Around} {outer : List Env} {s : Shared} {H : Hp} {E : XK}
theorem qqG : Passes (CXE P w base) (cxOf (CXE P w base) P w K mg base N qual scope f cd A outer s H E) E := by
  intro pins σ H1 s1 e s2 I hq
  obtain ⟨a, t, C, B, H2, rfl, hE, W⟩ := hq
  have hf : (envOfC qual scope s.heap.objs.size f cd).frame = some s.heap.objs.size := rfl
  have ib : Un (frs outer) [] H H1 s.heap s1.heap := I.base
  have W : Flown P w base (envOfC qual scope s.heap.objs.size f cd :: outer) H1 s1 a t C B H2 s2 := W
  have ne : ∀ b o, s.heap.get? b = some o → b ∉ frs outer → b ∉ frs (envOfC qual scope s.heap.objs.size f cd :: outer) := fun b o q n z => by
    rcases (hqN hf).mp z with z | z
    · exact absurd (Heap.lt_size q) (by rw [z]; exact Nat.lt_irrefl _)
    · exact n z
  show wpAny (model P w) (A.deeper (envOfC qual scope s.heap.objs.size f cd)) (leaving (envOfC qual scope s.heap.objs.size f cd) (.ref a)) _ _ _
  refine wpAny_leaves_onW I.ok.frames hf W.fly fun h3 x1 x2 => ?_
  have keepB : ∀ b o, s.heap.get? b = some o → H b = none → b ∉ frs outer → B.get? b = some o := fun b o q n nf =>
    W.kb b o (ib.keep b o q n nf (by simp)) (ib.free b o q n (by simp)) (ne b o q nf)
  have thB : ∀ b o, s.heap.get? b = some o → b ∉ frs outer → ∃ o', B.get? b = some o' := fun b o q nf => by
    obtain ⟨o', z⟩ := ib.there b o q (by simp)
    exact W.thB b o' z (ne b o q nf)
  have slotF : ∀ b, b ∈ frs outer → ∀ o, s2.heap.get? b = some o → ∃ sl, h3.get? b = some { o with slots := sl } := fun b hb o q => by
    obtain ⟨_, o2, q2, nd⟩ := W.fly.2.2.1.mem ((hqN hf).mpr (.inr hb))
    rw [q] at q2
    cases q2
    exact x2 b o q nd
  refine ⟨a, t, C, B, H2, rfl, hE, ⟨W.os.trans I.os, W.bare, W.st, x1, W.hok, ⟨fun b o q n nf _ => x1.1 b o (keepB b o q n nf), fun b o q n hb _ => ?_, fun b o q n _ => ?_, fun b o q _ => ?_, fun b xs q => W.un.tups b xs (ib.tups b xs q), fun b o u q => W.un.frzs b o u (ib.frzs b o u q), fun b ps q => ?_⟩, keepB, thB⟩⟩
  · obtain ⟨sl, z⟩ := ib.slot b o q n hb (by simp)
    obtain ⟨sl1, z1⟩ := W.un.slot b _ z (ib.free b o q n (by simp)) ((hqN hf).mpr (.inr hb)) (by simp)
    obtain ⟨sl', z'⟩ := slotF b hb _ z1
    exact ⟨sl', z'⟩
  · obtain ⟨o', z⟩ := ib.there b o q (by simp)
    exact W.un.free b o' z (ib.free b o q n (by simp)) (by simp)
  · by_cases hb : b ∈ frs outer
    · obtain ⟨o', z⟩ := ib.there b o q (by simp)
      obtain ⟨o'', z1⟩ := W.un.there b o' z (by simp)
      obtain ⟨sl', z'⟩ := slotF b hb _ z1
      exact ⟨_, z'⟩
    · obtain ⟨o', z⟩ := thB b o q hb
      exact ⟨o', x1.1 b o' z⟩
  · obtain ⟨m1, z⟩ := ib.tbls b ps q
    obtain ⟨m2, z2⟩ := W.un.tbls b _ z
    exact ⟨m1 ++ m2, by rw [z2, Array.append_assoc]⟩
end
end L2
namespace L2
open PySem PySem.Spec PySem.W PyProof.Rows
def exO (a C : Addr) : HO := .ext fun h => ∃ o, h.get? a = some o ∧ o.cls = .ref C
abbrev Cx.handling (X : Cx) (e : Value) : Cx := { X with A := X.A.mark (some e), calm := false, xe := fun _ _ => False }
section
variable {X : Cx} {pins : List (Addr × Obj)} {σ : St} {H H1 H2 : Hp} {s s1 s2 : Shared}
theorem Inv.handling (e : Value) (I : Inv X pins σ H s) : Inv (X.handling e) pins σ H s :=
  ⟨⟨I.ok.mod, I.ok.kind, I.ok.glob, I.ok.blt, I.ok.above, I.ok.inj, I.ok.has, I.ok.cab, (fun z => by cases z), I.ok.frames, I.ok.stk, I.ok.exf, I.ok.bs, I.ok.bsz, I.ok.noex, I.ok.exfs, I.ok.funs, I.ok.frf⟩, I.os, I.bare, I.base, I.loc, I.cell, I.free, I.freeC, I.pin, I.hok, I.len⟩
theorem Inv.handled {e : Value} (J : X.Ok) (I : Inv (X.handling e) pins σ H s) : Inv X pins σ H s := ⟨J, I.os, I.bare, I.base, I.loc, I.cell, I.free, I.freeC, I.pin, I.hok, I.len⟩
theorem Flown.new {P : Program} {w : World} {base B h5 : Heap} {outer : List Env} {a t C : Addr} {a0 : Value} (W : Flown P w base outer H1 s1 a t C B H2 s2) : H2 a = none := by
  cases q : H2 a with
  | none => rfl
  | some u =>
    obtain ⟨o, z⟩ := (W.hok a u q).ex
    rw [W.fly.2.1] at z
    cases z
theorem Inv.caught {a t C : Addr} {B h5 : Heap} {a0 : Value} (I : Inv X pins σ H1 s1) (W : Flown X.prog X.w X.base X.stack H1 s1 a t C B H2 s2) (f5 : Heap.FlyingW B X.stack a (.ref C) a0 h5) (sm : s2.heap.UpToSlots h5) :
    Inv X pins σ (upd H2 a (exO a C)) { s2 with heap := h5 } := by
  have hn : H2 a = none := W.new (h5 := h5) (a0 := a0)
  obtain ⟨oe, vs, T, oT, ts, he, _, hd, _⟩ := W.fly.2.2.2
  have fr : ∀ b ∈ frs X.stack, ∀ o, s2.heap.get? b = some o → b ≠ a ∧ ∃ sl, h5.get? b = some { o with slots := sl } := fun b hb o q => by
    obtain ⟨_, o2, q2, nd⟩ := W.fly.2.2.1.mem hb
    rw [q] at q2
    cases q2
    refine ⟨fun z => ?_, sm b o q nd⟩
    rw [z, he] at q
    cases q
    exact nd _ hd
  have na : ∀ b o, s1.heap.get? b = some o → b ≠ a := fun b o q => by
    by_cases hb : b ∈ frs X.stack
    · obtain ⟨o', z⟩ := W.un.there b o q (by simp)
      exact (fr b hb o' z).1
    · obtain ⟨o', z⟩ := W.thB b o q hb
      rintro rfl
      rw [W.fly.2.1] at z
      cases z
  refine I.call' (H' := upd H2 a (exO a C)) (s' := { s2 with heap := h5 }) (ch := []) W.os ⟨fun b o q n nf _ => f5.1 b o (W.kb b o q n nf), fun b o q n hb _ => ?_, fun b o q n _ => ?_, fun b o q _ => ?_, fun b xs q => ?_, fun b o u q => ?_, fun b ps q => ?_⟩ (fun b u q => ?_) W.bare (fun b z => by cases z)
  · obtain ⟨sl, z⟩ := W.un.slot b o q n hb (by simp)
    obtain ⟨_, sl', z'⟩ := fr b hb _ z
    exact ⟨sl', z'⟩
  · rw [aqu (na b o q)]
    exact W.un.free b o q n (by simp)
  · by_cases hb : b ∈ frs X.stack
    · obtain ⟨o', z⟩ := W.un.there b o q (by simp)
      obtain ⟨_, sl', z'⟩ := fr b hb _ z
      exact ⟨_, z'⟩
    · obtain ⟨o', z⟩ := W.thB b o q hb
      exact ⟨o', f5.1 b o' z⟩
  · have z := W.un.tups b xs q
    rw [aqu (aqr z hn)]
    exact z
  · have z := W.un.frzs b o u q
    rw [aqu (aqr z hn)]
    exact z
  · obtain ⟨m, z⟩ := W.un.tbls b ps q
    exact ⟨m, by rw [aqu (aqr z hn)]; exact z⟩
  · by_cases hb : b = a
    · subst hb
      rw [aql] at q
      cases q
      obtain ⟨ob, hob, hoc⟩ := f5.there
      exact ⟨⟨ob, hob, hoc⟩, ⟨ob, hob⟩, fun h1 h2 ⟨o, z, c⟩ k => ⟨o, k o z, c⟩⟩
    · rw [aqu hb] at q
      refine (W.hok b u q).stay (fun c v _ z => f5.1 c v z) (fun c z => ?_) fun c xs z => ?_
      · rw [aqu (aqr z hn)]; exact z
      · rw [aqu (aqr z hn)]; exact z
theorem Inv.goes {M : Model} {A : Around} {E : Value → Shared → Prop} {i : Nat} {n : Str} {pos : Pos} {Q : Unit → Shared → Prop} (I : Inv X pins σ H s) (nd : X.N.Nodup) (hi : X.N[i]? = some n) (hl : X.env.scope.names.lookup n = some .local)
    (h : ∀ s', Inv X pins (σ.set i none) H s' → Q () s') : wpAny M A (do bindName X.env n .none; unbindBehindTheSuite X.env n pos) Q E s := by
  obtain ⟨m, hn, hlk⟩ := id I.loc
  have hcls : (X.env.scope.kind == .class || (X.env.scope.kind == .module && X.env.locals != X.env.globals)) = false := by rw [I.ok.kind]; rfl
  have hiσ : i < σ.length := by rw [I.len]; exact (List.getElem?_eq_some_iff.mp hi).1
  refine wpAny_nameGoes_keeps hl hn hcls fun h' v hn' hs => h _ ?_
  have neL : ∀ b o, X.s₀.heap.get? b = some o → b ≠ X.env.locals := fun b o e => Nat.ne_of_lt (Nat.lt_of_lt_of_le (Heap.lt_size e) I.ok.above)
  refine ⟨I.ok, I.os, I.bare, ⟨fun b o e z hb hx => (hs.2 b (neL b o e)).trans (I.base.keep b o e z hb hx), fun b o e z hb hx => ?_, I.base.free, fun b o e hx => ?_, I.base.tups, I.base.frzs, I.base.tbls⟩, ⟨_, hn', fun j y v' e1 e2 e3 => ?_⟩, fun y c e => ?_, I.free, I.freeC, fun p hp => ?_, fun b ob e => ?_, by simpa using I.len⟩
  · obtain ⟨sl, e1⟩ := I.base.slot b o e z hb hx
    exact ⟨sl, (hs.2 b (neL b o e)).trans e1⟩
  · obtain ⟨o', e1⟩ := I.base.there b o e hx
    exact ⟨o', (hs.2 b (neL b o e)).trans e1⟩
  · by_cases hj : j = i
    · subst hj
      rw [List.getElem?_set_self hiσ] at e2
      cases e2
    · rw [List.getElem?_set_ne (Ne.symm hj)] at e2
      obtain ⟨u', r', q⟩ := hlk j y v' e1 e2 e3
      refine ⟨u', r', ?_⟩
      rcases q with ⟨k, e⟩ | ⟨k, c, e, z⟩
      · refine .inl ⟨k, ?_⟩
        have : y ≠ n := fun e => hj (lqB nd e1 (e ▸ hi))
        simp [this, e]
      · exact .inr ⟨k, c, e, z.sameBut hs (I.cne y c e)⟩
  · obtain ⟨w', z⟩ := I.cell y c e
    exact ⟨w', z.sameBut hs (I.cne y c e)⟩
  · obtain ⟨e, n1, ne, nf, d⟩ := I.pin p hp
    exact ⟨(hs.2 p.1 ne).trans e, n1, ne, nf, d⟩
  · refine (I.hok b ob e).stay (fun c w' hc q => (hs.2 c ?_).trans q) (fun _ q => q) fun _ _ q => q
    rintro rfl
    rcases hc with rfl | hc
    · rw [I.free] at e; cases e
    · rw [I.free] at hc; cases hc
end
structure Catch (K : Frag) (W : Addr) : Prop where
  ty : typeIn K (.ref W) = some (.type "type")
  ex : subIn K (.ref W) (.type "BaseException") = some true
  cl : (clsIn K W).isSome = true
theorem nqf {K : Frag} {M : Model} {h : Heap} {a W C : Addr} {o : Obj} (kin : K.In h) (ha : h.get? a = some o) (hc : o.cls = .ref C) (cw : Catch K W) (hs : subIn K (.ref C) (.ref W) = some true) : Looks M h (excMatches (.ref a) (.ref W)) true := by
  have L1 := looks_typeIn (M := M) kin cw.ty
  have L2 := looks_subIn (M := M) kin cw.ex
  have L3 := looks_subIn (M := M) kin hs
  have L4 : Looks M h (typeOf (.ref a)) (.ref C) := hc ▸ (Looks.ld ha).andThen .now
  have L5 : Looks M h (isInstance (.ref W) (.type "tuple")) false := L1.andThen (Looks.of_pure tc_notTuple)
  have L6 : Looks M h (isType (.ref W)) true := by
    have z := cw.cl
    unfold clsIn at z
    split at z
    · next lk =>
      intro A' Q' E' s' k q
      unfold isType loadHead
      exact wpAny_bind (wpAny_loadPart (k _ _ (kin _ _ lk)) (wpAny_pure q))
    · cases z
  intro A Q E s k q
  unfold excMatches isExcClass
  refine wpAny_bind (L5 A _ E s k ?_)
  simp only [Bool.false_eq_true, if_false]
  refine wpAny_bind (wpAny_pure ?_)
  refine wpAny_bind ?_
  rw [List.forIn_cons]
  refine wpAny_bind (wpAny_bind (wpAny_bind (L6 A _ E s k ?_)))
  simp only [if_true]
  refine L2 A _ E s k ?_
  simp only [Bool.not_true, Bool.false_eq_true, if_false]
  refine wpAny_pure ?_
  dsimp only
  rw [List.forIn_nil]
  refine wpAny_pure ?_
  refine wpAny_bind (L4 A _ E s k ?_)
  refine wpAny_bind ?_
  rw [List.forIn_cons]
  refine wpAny_bind (wpAny_bind (L3 A _ E s k ?_))
  simp only [if_true]
  refine wpAny_pure ?_
  dsimp only
  exact wpAny_pure (wpAny_pure q)
end L2
namespace L2
open PySem PySem.Spec PySem.W PyProof.Rows
def tTry (K : Frag) (sp : Sp) (t : TA) (W : Addr) (i : Nat) (tb : TS) : TS := fun D σ H => t σ H fun vs H1 => sp vs H1 (fun _ H2 => D.nx σ H2) fun cls _ H2 =>
  ∃ C, cls = .ref C ∧ subIn K (.ref C) (.ref W) = some true ∧ ∀ a, H2 a = none → tb { nx := fun σ' H' => D.nx (σ'.set i none) H', rt := D.rt } (σ.set i (some (.ref a))) (upd H2 a (exO a C))
end L2
namespace L2
open PySem PySem.Spec PySem.W PySem.Calls PyProof.Rows PySem.Builtin PySem.Builtin.ObjectAttr PySem.Builtin.Getset_descriptor
structure ExLook (K : Frag) (C : Addr) : Prop where
  ga : findIn K (.ref C) "__getattribute__" = some (some (.builtin "BaseException.__getattribute__"))
  cl : findIn K (.ref C) "__class__" = some (some (.builtin "object.__class__"))
  na : findIn K (.ref C) "__getattr__" = some none
  mo : mroIn K C (.type "object") = some true
  mb : mroIn K C (.type "BaseException") = some true
  is : (clsIn K C).isSome = true
section
variable {prog : Program} {w : World} {A : Around} {E : Value → Shared → Prop} {hh : Heap} {g : Array GenState} {dr : Drawn} {t : Nat} {os : OsState} {K : Frag} {a C : Addr} {o : Obj}
theorem gqI {M : Model} (hx : hh.get? a = some o) (hc : o.cls = .ref C) : Looks M hh (typeOf (.ref a)) (.ref C) := hc ▸ (Looks.ld hx).andThen .now
theorem lqr {tp : Value} {R : Result → Shared → Prop} (kin : K.In hh) (hx : hh.get? a = some o) (hc : o.cls = .ref C) (hm : mroIn K C (.type "object") = some true)
    (h : R (.ok (.ret (.ref C))) ⟨hh, g, dr, t, os⟩) : codeAny (model prog w) A (.call (.builtin "getset_descriptor.__get__") ⟨[.builtin "object.__class__", .ref a, tp], []⟩) R ⟨hh, g, dr, t, os⟩ := by
  have lt := gqI (M := model prog w) hx hc; have ls := looks_mroIn (M := model prog w) kin hm
  refine codeAny_call_builtin KF.slot_gs.plain KF.entry_gs (KF.slot_gs.check _ _ _ _ _ _ _ _ KF.type_class (KF.args_gs _ _ _) ?_); unfold Builtin.«getset_descriptor.__get__» descrGet; rw [dga_obj]
  refine wpAny_bind (wpAny_pure ?_); unfold descrGetter descrCheckInstance descrNameAndClass isInstance; simp only [KF.owner_class]
  repeat lk
  refine ⟨Code.quiet_builtin _ (by decide +kernel), codeAny_builtin KF.entry_class ?_⟩; unfold Builtin.«object.__class__» shownTypeOf
  repeat lk
  exact h
theorem jqZ {tk : Tok} {Q : Fin → Shared → Prop} (kin : K.In hh) (hx : hh.get? a = some o) (hc : o.cls = .ref C) (L : ExLook K C) (hq : Q (.done (.ret (.ref C))) ⟨hh, g, dr, t, os⟩) :
    wpAny (model prog w) A (Builtin.«object.__getattribute__» ⟨[.ref a, .str "__class__" tk], []⟩) Q E ⟨hh, g, dr, t, os⟩ := by
  have lt := gqI (M := model prog w) hx hc; have lc := looks_findIn (M := model prog w) kin L.cl
  have hT5 : (⟨hh, g, dr, t, os⟩ : Shared).TypeIs (.builtin "object.__class__") "getset_descriptor" := F.typeOf_object_class
  have f5 := F.typeOf_object_class; have f6 := F.slot_gs_get.lookup; have f7 := F.slot_gs_set.lookup
  repeat (any_goals (first | assumption | with_reducible refine Looks.at lt ?_ | with_reducible refine Looks.at lc ?_ | wp_step))
  refine lqr kin hx hc L.mo ?_
  repeat (any_goals (first | assumption | wp_step))
theorem iqO {M : Model} {nv : Value} {Q : Unit → Shared → Prop} (kin : K.In hh) (hx : hh.get? a = some o) (hc : o.cls = .ref C) (L : ExLook K C) (hq : Q () ⟨hh, g, dr, t, os⟩) :
    wpAny M A (checkBuiltinCall "BaseException.__getattribute__" ⟨[.ref a, nv], []⟩) Q E ⟨hh, g, dr, t, os⟩ := by
  have lt := gqI (M := M) hx hc; have lb := looks_mroIn (M := M) kin L.mb
  have z1 : builtinKind "BaseException.__getattribute__" = some .slot := by decide +kernel
  have z2 : splitId "BaseException.__getattribute__" = some ("BaseException", "__getattribute__") := by decide +kernel
  have z3 := F.args_bexc_ga (.ref a) nv
  simp only [checkBuiltinCall, z1, z2]; refine wpAny_bind ?_; unfold isInstance
  repeat (first | with_reducible refine Looks.at lt ?_ | with_reducible refine Looks.at lb ?_ | wp_step)
  exact hq
theorem mqa {tk : Tok} {Q : Value → Shared → Prop} (kin : K.In hh) (hx : hh.get? a = some o) (hc : o.cls = .ref C) (L : ExLook K C) (gb : Slot "ValueError" "__getattribute__" "BaseException.__getattribute__") (hq : Q (.ref C) ⟨hh, g, dr, t, os⟩) :
    wpAny (model prog w) A (getAttrBy (.ref a) (.str "__class__" tk) false) Q E ⟨hh, g, dr, t, os⟩ := by
  have lt := gqI (M := model prog w) hx hc; have lg := looks_findIn (M := model prog w) kin L.ga; have ln := looks_findIn (M := model prog w) kin L.na
  have f3 := gb.bind (.ref a)
  have y2 : (Value.builtin "BaseException.__getattribute__" == Value.builtin "object.__getattribute__") = false := by decide +kernel
  have y1 : (onTheHeap (Value.ref C) && Value.builtin "BaseException.__getattribute__" == Value.builtin "object.__getattribute__") = false := by rw [y2]; rfl
  repeat (any_goals (first | assumption | with_reducible refine Looks.at lt ?_ | with_reducible refine Looks.at lg ?_ | with_reducible refine Looks.at ln ?_ | wp_step))
  refine codeAny_call_builtin gb.plain F.entry_bexc_ga (iqO kin hx hc L (jqZ kin hx hc L ?_))
  repeat (any_goals (first | assumption | wp_step))
theorem kqM {s : Shared} {Q : Option Value → Shared → Prop} (kin : K.In s.heap) (hx : s.heap.get? a = some o) (hc : o.cls = .ref C) (L : ExLook K C) (gb : Slot "ValueError" "__getattribute__" "BaseException.__getattribute__") (hq : Q (some (.ref C)) { s with toks := s.toks + 1 }) :
    wpAny (model prog w) A (getAttr? (.ref a) "__class__") Q E s := by
  obtain ⟨hh, g, dr, t, os⟩ := s
  unfold getAttr? getAttrBy?
  repeat (any_goals (first | assumption | with_reducible apply mqa kin hx hc L gb | wp_step))
theorem rqA (L : ExLook K C) (gb : Slot "ValueError" "__getattribute__" "BaseException.__getattribute__") : KitX K (.ref a) (.ref C) (fun h => ∃ o, h.get? a = some o ∧ o.cls = .ref C) where
  ty := fun _ _ _ ⟨o, hx, hc⟩ => gqI hx hc
  it := fun _ _ X _ => by
    have z := L.is
    unfold clsIn at z
    split at z
    · next lk =>
      intro A' Q' E' s' k q
      unfold isType loadHead
      exact wpAny_bind (wpAny_loadPart (k _ _ (X _ _ lk)) (wpAny_pure q))
    · cases z
  ne := fun h tp dd its n sl X htp => by
    have z := L.is
    refine Bool.eq_false_iff.mpr fun q => ?_
    obtain rfl : C = tp := Value.ref.inj (beq_iff_eq.mp q)
    unfold clsIn at z
    split at z
    · next lk =>
      have y := (X _ _ lk).symm.trans htp
      cases y
    · cases z
  ca := fun X ⟨o, hx, hc⟩ k => kqM X hx hc L gb k
end
inductive KitAns (K : Frag) (H : Hp) (C : Addr) : V → Bool → Prop
  | cls {W : Addr} {b : Bool} : kitOne K (.ref C) (.ref W) = some b → KitAns K H C (.ref W) b
  | ty {T : String} {b : Bool} : kitOne K (.ref C) (.type T) = some b → KitAns K H C (.ty T) b
  | tup {p : Addr} {cs : List Addr} {b : Bool} : H p = some (.tup (cs.map V.ref)) → kitAny K (.ref C) (cs.map Value.ref) = some b → KitAns K H C (.ref p) b
theorem mq1 : ∀ {cs : List Addr} {us : List Value}, Vals (cs.map V.ref) us → us = cs.map Value.ref
  | [], _, .nil => rfl
  | _ :: _, _, .cons r rs => by cases r; rw [mq1 rs]; rfl
def rIsE (K : Frag) : List V → Hp → VK → Prop := fun vs H Q => ∃ a c C b, vs = [.ref a, c] ∧ H a = some (exO a C) ∧ ExLook K C ∧ KitAns K H C c b ∧ Q (.bl b) H
end L2
namespace L2
open PySem PySem.W
theorem lqG : bootBuiltins "ValueError" = some (.type "ValueError") := by decide +kernel
theorem wqF {K : Frag} {a : Addr} {c : V} {H : Hp} {Q : VK} : rIsE K [.ref a, c] H Q ↔ ∃ C b, H a = some (exO a C) ∧ ExLook K C ∧ KitAns K H C c b ∧ Q (.bl b) H :=
  ⟨fun ⟨_, _, C, b, e, h⟩ => by cases e; exact ⟨C, b, h⟩, fun ⟨C, b, h⟩ => ⟨a, c, C, b, rfl, h⟩⟩
theorem uqV {K : Frag} {sp : Sp} {t : TA} {W : Addr} {i : Nat} {tb : TS} {D : Ends} {σ : St} {H : Hp} : tTry K sp t W i tb D σ H ↔ t σ H fun vs H1 => sp vs H1 (fun _ H2 => D.nx σ H2) fun cls _ H2 =>
  ∃ C, cls = .ref C ∧ subIn K (.ref C) (.ref W) = some true ∧ ∀ a, H2 a = none → tb { nx := fun σ' H' => D.nx (σ'.set i none) H', rt := D.rt } (σ.set i (some (.ref a))) (upd H2 a (exO a C)) := Iff.rfl
end L2
namespace L2
open PySem PySem.Spec PyProof.Rows
theorem sw3 (x y : Str) (t u : Tok) (i : Nat) (v : Tok) :
    Meets (Builtin.«str.startswith» ⟨[.str x t, .str y u, .int (i : Int) v], []⟩) (fun _ R s => R (.ok (.ret (.bool (decide (i + y.length ≤ x.length) && Builtin.Str.subAt x y i)))) s) :=
  .of_wp fun prog w A R s h => by
    obtain ⟨hp, g, d, tk, os⟩ := s
    unfold Builtin.«str.startswith»
    wp_walk
    rw [F.slot_int_index.lookup]
    wp_walk
    refine ⟨_, rfl, ?_⟩
    have e1 : (max (0 : Int) (if (i : Int) < 0 then (i : Int) + (x.length : Int) else (i : Int))).toNat = i := by
      rw [if_neg (by omega)]; omega
    have e2 : min ((x.length : Nat) : Int).toNat x.length = x.length := by omega
    dsimp only
    rw [e1, e2]
    exact h
section
variable {X : Cx}
def rStarts : V → List V → Hp → VK → Prop := fun x vs H Q => ∃ z y, ∃ i : Nat, x = .str z ∧ vs = [.str y, .int (i : Int)] ∧ Q (.bl (decide (i + y.length ≤ z.length) && Builtin.Str.subAt z y i)) H
theorem oqT : MtR X "str.startswith" rStarts := by
  intro pins s σ H x vs v us Q I rx rv h
  obtain ⟨z, y, i, rfl, rfl, q⟩ := h
  obtain ⟨t, rfl⟩ := rx
  obtain ⟨u1, u2, rfl, r1, r2⟩ := vals2 rv
  obtain ⟨t1, rfl⟩ := r1
  obtain ⟨t2, rfl⟩ := r2
  exact call_meets F.slot_str_startswith (typeIs_str _ _ _) F.entry_str_startswith (F.args_str_startswith_3 _ _ _) (sw3 z y t t1 i t2) ⟨.bl _, H, I, rfl, q⟩
end
end L2
namespace L2
open PySem PySem.Spec PyProof.Rows
section
variable {X : Cx}
def rPart : V → List V → Hp → VK → Prop := fun x vs H Q => ∃ z y, x = .str z ∧ vs = [.str y] ∧ (y.length == 0) = false ∧ z.length ≤ sizeLine ∧
  ∀ p, H p = none → Q (.ref p) (upd H p (.tup [.str (Txt.partition z y).1, .str (Txt.partition z y).2.1, .str (Txt.partition z y).2.2]))
theorem mqx : MtR X "str.partition" rPart := by
  intro pins s σ H x vs v us Q I rx rv h
  obtain ⟨z, y, rfl, rfl, hy, hz, q⟩ := h
  obtain ⟨t, rfl⟩ := rx
  obtain ⟨u, rfl, t', rfl⟩ := vals1 rv
  have hf : H s.heap.objs.size = none := I.hok.fresh (Nat.le_refl _)
  have q := q _ hf
  refine call_meets F.slot_str_partition (typeIs_str _ _ _) F.entry_str_partition (F.args_str_partition_2 _ _) (meets_str_partition z y t t' hy hz) ?_
  unfold Txt.partition at q
  revert q
  cases Builtin.Str.occurrences z y 0 z.length 1 with
  | nil =>
    intro q
    refine ⟨.ref s.heap.objs.size, _, I.laid (t' := s.toks + 1) (o := .tup _) (fun b u e => Heap.get?_push_of_some _ e) (by omega) ?_, rfl, q⟩
    exact ⟨by show 3 ≤ sizeLine; decide, _, .cons ⟨_, rfl⟩ (.cons ⟨_, rfl⟩ (.cons ⟨_, rfl⟩ .nil)), IsTup.new _ _⟩
  | cons i r =>
    intro q
    refine ⟨.ref s.heap.objs.size, _, I.laid (t' := s.toks + 1 + 1) (o := .tup _) (fun b u e => Heap.get?_push_of_some _ e) (by omega) ?_, rfl, q⟩
    exact ⟨by show 3 ≤ sizeLine; decide, _, .cons ⟨_, rfl⟩ (.cons ⟨_, rfl⟩ (.cons ⟨_, rfl⟩ .nil)), IsTup.new _ _⟩
end
end L2
namespace L2
open PySem PySem.Spec PyProof.Rows
theorem qqr {us : List Value} {d : Value} (h : (us ++ [d]).length = 3) : ∃ x y, us = [x, y] := by
  match us, h with
  | [x, y], _ => exact ⟨x, y, rfl⟩
  | [], h => simp at h
  | [_], h => simp at h
  | _ :: _ :: _ :: _, h => simp at h
section
variable {X : Cx}
def rIntS : List V → Hp → VK → Prop := fun xs H Q => ∃ z n, xs = [.str z] ∧ z.length ≤ 640 ∧ PySem.intText? z = some n ∧ Q (.int n) H
theorem mqP : CallR X (.type "int") rIntS := by
  intro pins s σ H xs us Q I r h
  obtain ⟨z, n, rfl, hz, hn, q⟩ := h
  obtain ⟨u, rfl, t, rfl⟩ := vals1 r
  exact PySem.W.KIN.call_text hn hz ⟨.int n, H, I.tok _, ⟨_, rfl⟩, q⟩
theorem uqR {z : Str} {H : Hp} {Q : VK} : rIntS [.str z] H Q ↔ ∃ n, z.length ≤ 640 ∧ PySem.intText? z = some n ∧ Q (.int n) H :=
  ⟨fun ⟨_, n, e, h⟩ => by cases e; exact ⟨n, h⟩, fun ⟨n, h⟩ => ⟨z, n, rfl, h⟩⟩
theorem wqz {z y : Str} {i : Nat} {H : Hp} {Q : VK} : rStarts (.str z) [.str y, .int (i : Int)] H Q ↔ Q (.bl (decide (i + y.length ≤ z.length) && Builtin.Str.subAt z y i)) H :=
  ⟨fun ⟨_, _, j, e1, e2, h⟩ => by
    cases e1
    injection e2 with e2 e3
    cases e2
    injection e3 with e3
    injection e3 with e3
    obtain rfl : i = j := by omega
    exact h, fun h => ⟨z, y, i, rfl, rfl, h⟩⟩
theorem sqX {z y : Str} {H : Hp} {Q : VK} : rPart (.str z) [.str y] H Q ↔ (y.length == 0) = false ∧ z.length ≤ sizeLine ∧ ∀ p, H p = none → Q (.ref p) (upd H p (.tup [.str (Txt.partition z y).1, .str (Txt.partition z y).2.1, .str (Txt.partition z y).2.2])) :=
  ⟨fun ⟨_, _, e1, e2, h⟩ => by cases e1; cases e2; exact h, fun h => ⟨z, y, rfl, rfl, h⟩⟩
theorem vqk {K : PySem.W.Frag} {ta : TE} {f : Str} {σ : St} {H : Hp} {Q : VK} : tFld K ta f σ H Q ↔ ta σ H fun x H1 => ∃ a C dx fs v, x = .ref a ∧ H1 a = some (.ins C dx fs) ∧ Cls K C ∧ NoAttr K C f ∧ fs.lookup f = some v ∧ Q v H1 := Iff.rfl
theorem tqP {K : PySem.W.Frag} {ta tv : TE} {f : Str} {D : Ends} {σ : St} {H : Hp} : sFld K ta tv f D σ H ↔ tv σ H fun y H1 => ta σ H1 fun x H2 => ∃ a C dx fs, x = .ref a ∧ H2 a = some (.ins C dx fs) ∧ Cls K C ∧ NoAttr K C f ∧ fs.length < 1000 ∧ D.nx σ (upd H2 a (.ins C dx (putF f y fs))) := Iff.rfl
theorem tqv {C : Addr} {m : Str} {sp : Sp} {dvs : List V} {E : XK} {ta : TE} {t : TA} {σ : St} {H : Hp} {Q : VK} : tMeth C m sp dvs E ta t σ H Q ↔ ta σ H fun x H1 => ∃ a dx fs, x = .ref a ∧ H1 a = some (.ins C dx fs) ∧ fs.lookup m = none ∧ t σ H1 fun vs H2 => sp (x :: (vs ++ dvs)) H2 Q E := Iff.rfl
theorem uqx {C : Addr} {sp : Sp} {dvs : List V} {E : XK} {t : TA} {σ : St} {H : Hp} {Q : VK} : tMake C sp dvs E t σ H Q ↔ t σ H fun vs H1 => ∀ x dx, H1 x = none → H1 dx = none → dx ≠ x → sp (.ref x :: (vs ++ dvs)) (upd (upd H1 dx (.own x)) x (.ins C dx [])) (fun v H2 => v = .non ∧ Q (.ref x) H2) E := Iff.rfl
end
end L2
namespace Wm
open PySem L2
theorem sqB (t w : List Nat) (i : Nat) (hi : i ≤ t.length) : (decide (i + (⟨w.toArray⟩ : Str).length ≤ (⟨t.toArray⟩ : Str).length) && Builtin.Str.subAt ⟨t.toArray⟩ ⟨w.toArray⟩ i) = decide ((t.drop i).take w.length = w) := by
  rw [dqd, dqd]
  have e : Builtin.Str.subAt ⟨t.toArray⟩ ⟨w.toArray⟩ i = decide ((t.drop i).take w.length = w) := by
    unfold Builtin.Str.subAt
    rw [dqd, Bool.eq_iff_iff, beq_iff_eq, decide_eq_true_eq]
    show (t.toArray.extract i (i + w.length) = w.toArray) ↔ _
    rw [← Array.toList_inj]
    simp
  rw [e]
  by_cases h : (t.drop i).take w.length = w
  · have hl := congrArg List.length h
    rw [List.length_take, List.length_drop] at hl
    rw [decide_eq_true h, Bool.and_true]
    by_cases hw : w.length = 0
    · rw [hw, Nat.add_zero]
      exact decide_eq_true hi
    · exact decide_eq_true (by omega)
  · rw [decide_eq_false h, Bool.and_false]
theorem occ1 (x y : Str) : ∀ (l : List Nat) (free : Nat), (∀ i ∈ l, free ≤ i) →
    (forIn l ((#[] : Array Nat), free) (StrLaws.occBody x y x.length 1)).run.fst.toList = (l.find? fun i => decide (i + y.length ≤ x.length) && Builtin.Str.subAt x y i).toList
  | [], free, _ => rfl
  | a :: l, free, hf => by
    rw [List.forIn_cons, List.find?_cons]
    have ha : free ≤ a := hf a (List.mem_cons_self ..)
    by_cases hc : a + y.length ≤ x.length ∧ Builtin.Str.subAt x y a = true
    · have e : (decide (a + y.length ≤ x.length) && Builtin.Str.subAt x y a) = true := by rw [decide_eq_true hc.1, hc.2]; rfl
      rw [e]
      unfold StrLaws.occBody
      rw [if_pos ⟨⟨⟨by simp, ha⟩, hc.1⟩, hc.2⟩]
      have full : ∀ (l : List Nat) (st : Array Nat × Nat), st.1.size = 1 → (forIn l st (StrLaws.occBody x y x.length 1)).run.fst = st.1 := by
        intro l
        induction l with
        | nil => intro st _; rfl
        | cons b l ih =>
          intro st hs
          rw [List.forIn_cons]
          unfold StrLaws.occBody
          rw [if_neg (fun h => by have := h.1.1.1; omega)]
          exact ih st hs
      show (forIn l ((#[] : Array Nat).push a, a + y.length) (StrLaws.occBody x y x.length 1)).run.fst.toList = _
      rw [full l _ (by simp)]
      simp
    · have e : (decide (a + y.length ≤ x.length) && Builtin.Str.subAt x y a) = false := by
        cases h1 : Builtin.Str.subAt x y a with
        | false => rw [Bool.and_false]
        | true => rw [Bool.and_true]; exact decide_eq_false fun z => hc ⟨z, h1⟩
      rw [e]
      unfold StrLaws.occBody
      rw [if_neg (fun h => hc ⟨h.1.2, h.2⟩)]
      exact occ1 x y l free fun i hi => hf i (List.mem_cons_of_mem _ hi)
def ahead (t : List Nat) : List Nat := t.takeWhile fun c => decide (c ≠ 58)
theorem rqU (t : List Nat) (i : Nat) : (decide (i + (⟨[58].toArray⟩ : Str).length ≤ (⟨t.toArray⟩ : Str).length) && Builtin.Str.subAt ⟨t.toArray⟩ ⟨[58].toArray⟩ i) = decide (t[i]? = some 58) := by
  by_cases hi : i ≤ t.length
  · rw [sqB t [58] i hi, decide_eq_decide]
    cases h : t.drop i with
    | nil =>
      have : t[i]? = none := List.getElem?_eq_none (by have := congrArg List.length h; rw [List.length_drop, List.length_nil] at this; omega)
      rw [this]
      simp
    | cons c r =>
      have : t[i]? = some c := by rw [← List.head?_drop, h]; rfl
      rw [this]
      simp
  · rw [List.getElem?_eq_none (by omega), dqd, dqd, decide_eq_false (by rw [List.length_singleton]; omega)]
    rfl
theorem oqO (t : List Nat) : ∀ (k : Nat), k ≤ t.length → (t.take k).all (fun c => decide (c ≠ 58)) = true →
    ((List.range' k (t.length + 1 - k)).find? fun i => decide (t[i]? = some 58)) = if 58 ∈ t then some (ahead t).length else none := by
  intro k
  induction hn : t.length - k generalizing k with
  | zero =>
    intro hk ha
    have e : k = t.length := by omega
    subst e
    rw [List.take_length] at ha
    have hno : 58 ∉ t := fun h => by have := List.all_eq_true.mp ha 58 h; simp at this
    rw [if_neg hno, show t.length + 1 - t.length = 1 by omega]
    simp
  | succ n ih =>
    intro hk ha
    have hk' : k < t.length := by omega
    have hc : t[k]? = some t[k] := List.getElem?_eq_getElem hk'
    rw [show t.length + 1 - k = (t.length + 1 - (k + 1)) + 1 by omega, List.range'_succ, List.find?_cons, hc]
    by_cases h58 : t[k] = 58
    · rw [h58]
      simp only [decide_true]
      rw [if_pos (by rw [← h58]; exact List.getElem_mem hk')]
      congr 1
      have ht : t = t.take k ++ 58 :: t.drop (k + 1) := by
        rw [← h58, List.getElem_cons_drop, List.take_append_drop]
      unfold ahead
      rw [ht, List.takeWhile_append_of_pos (fun c hc' => List.all_eq_true.mp ha c hc'), List.takeWhile_cons_of_neg (by simp)]
      simp; omega
    · rw [show decide (some t[k] = some 58) = false from decide_eq_false (by simpa using h58)]
      refine ih (k + 1) (by omega) (by omega) ?_
      rw [List.take_add_one, hc, List.all_append, ha]
      simpa using h58
theorem oq8 (t : List Nat) : (Txt.partition ⟨t.toArray⟩ ⟨[58].toArray⟩).1 = ⟨(ahead t).toArray⟩ := by
  have e : Builtin.Str.occurrences (⟨t.toArray⟩ : Str) ⟨[58].toArray⟩ 0 (⟨t.toArray⟩ : Str).length 1 = (if 58 ∈ t then some (ahead t).length else none).toList := by
    rw [StrLaws.occ_eq, occ1 _ _ _ _ (fun i _ => Nat.zero_le i)]
    simp only [rqU]
    rw [dqd]
    exact congrArg Option.toList (oqO t 0 (Nat.zero_le _) rfl)
  unfold Txt.partition
  rw [e]
  by_cases h : 58 ∈ t
  · rw [if_pos h]
    show Builtin.Str.strSub ⟨t.toArray⟩ 0 (ahead t).length = _
    unfold Builtin.Str.strSub
    have hp : t.take (ahead t).length = ahead t := (List.prefix_iff_eq_take.mp (List.takeWhile_prefix _)).symm
    rw [← hp, List.length_take]
    have : (ahead t).length ≤ t.length := (List.takeWhile_prefix _).length_le
    rw [show min (ahead t).length t.length = (ahead t).length by omega]
    show (⟨t.toArray.extract 0 (ahead t).length⟩ : Str) = _
    simp
  · rw [if_neg h]
    have all : ∀ l : List Nat, 58 ∉ l → ahead l = l := fun l => by
      induction l with
      | nil => intro _; rfl
      | cons c l ih =>
        intro hl
        have h1 : c ≠ 58 := fun z => hl (by rw [z]; exact List.mem_cons_self ..)
        unfold ahead
        rw [List.takeWhile_cons, if_pos (decide_eq_true h1)]
        exact congrArg (c :: ·) (ih fun z => hl (List.mem_cons_of_mem _ z))
    have : ahead t = t := all t h
    rw [this]
    rfl
def Cur (H : Hp) (C p : Addr) (t : List Nat) (k : Nat) : Prop := ∃ dx, H p = some (.ins C dx [("text", .str ⟨t.toArray⟩), ("place", .int (k : Int))])
inductive WrT (fr : List Nat) : List Nat → List Nat → Prop
  | nil : WrT fr [] []
  | self {c : Nat} {s w : List Nat} : (isPl c = true ∨ c ∈ fr) → c ≠ 126 → WrT fr s w → WrT fr (c :: s) (c :: w)
  | pair {c a b : Nat} {s w : List Nat} : sgO a b = some c → WrT fr s w → WrT fr (c :: s) (126 :: a :: b :: w)
def Stops (fr r : List Nat) : Prop := ∀ c, r.head? = some c → isPl c = false ∧ c ∉ fr ∧ c ≠ 126
def moV : Option Nat → V
  | none => .non
  | some m => .int (m : Int)
theorem pqX {fr s w s' w' : List Nat} (h : WrT fr s w) (h' : WrT fr s' w') : WrT fr (s ++ s') (w ++ w') := by
  induction h with
  | nil => exact h'
  | self a b _ ih => exact .self a b ih
  | pair a _ ih => exact .pair a ih
theorem squ {a n : Nat} (h : fig a = some n) : a < 128 ∧ n < 16 ∧ (n < 10 → a = 48 + n) := by
  unfold fig at h
  split at h
  · cases h; omega
  · split at h
    · cases h; omega
    · split at h
      · cases h; omega
      · cases h
theorem jqK {a b c : Nat} (h : sgO a b = some c) : a ∈ (Str.ofString "234567").cps.toList ∧ a < 128 ∧ b < 128 ∧ isSg c = true := by
  unfold sgO at h
  cases ha : fig a with
  | none => simp [ha] at h
  | some n =>
    cases hb : fig b with
    | none => simp [ha, hb] at h
    | some m =>
      simp only [ha, hb] at h
      split at h
      · next hs =>
        cases h
        obtain ⟨a1, a2, a3⟩ := squ ha
        obtain ⟨b1, b2, _⟩ := squ hb
        have hr := hs
        simp only [isSg, Bool.and_eq_true, decide_eq_true_eq] at hr
        have e := a3 (by omega)
        refine ⟨?_, a1, b1, hs⟩
        have key : ∀ n, n < 8 → 2 ≤ n → 48 + n ∈ (Str.ofString "234567").cps.toList := by decide +kernel
        rw [e]
        exact key n (by omega) (by omega)
      · cases h
section
variable {K : PySem.W.Frag} {H : Hp} {C p : Addr} {t : List Nat} {i : Nat}
theorem tqO {v u : V} : List.lookup (Str.ofString "text") [(Str.ofString "text", v), (Str.ofString "place", u)] = some v := by
  rw [List.lookup_cons, beq_self_eq_true]
theorem rqv {v u : V} : List.lookup (Str.ofString "place") [(Str.ofString "text", v), (Str.ofString "place", u)] = some u := by
  rw [List.lookup_cons, show (Str.ofString "place" == Str.ofString "text") = false by decide +kernel, List.lookup_cons, beq_self_eq_true]
theorem fqG {R : V → Prop} (h : Cur H C p t i) (cl : Cls K C) (n : NoAttr K C "text") (r : R (.str ⟨t.toArray⟩)) : ∃ a C dx fs v, p = a ∧ H a = some (.ins C dx fs) ∧ Cls K C ∧ NoAttr K C (Str.ofString "text") ∧ List.lookup (Str.ofString "text") fs = some v ∧ R v :=
  let ⟨dx, hp⟩ := h
  ⟨p, C, dx, _, _, rfl, hp, cl, n, tqO, r⟩
theorem aqV {R : V → Prop} (h : Cur H C p t i) (cl : Cls K C) (n : NoAttr K C "place") (r : R (.int (i : Int))) : ∃ a C dx fs v, p = a ∧ H a = some (.ins C dx fs) ∧ Cls K C ∧ NoAttr K C (Str.ofString "place") ∧ List.lookup (Str.ofString "place") fs = some v ∧ R v :=
  let ⟨dx, hp⟩ := h
  ⟨p, C, dx, _, _, rfl, hp, cl, n, rqv, r⟩
theorem pq4 {v u w : V} : putF (Str.ofString "place") w [(Str.ofString "text", v), (Str.ofString "place", u)] = [(Str.ofString "text", v), (Str.ofString "place", w)] := by
  have h : Str.ofString "text" ≠ Str.ofString "place" := by decide +kernel
  simp only [putF, if_neg h, if_true]
theorem mq8 {N : Hp → Prop} {z : Int} (h : Cur H C p t i) (cl : Cls K C) (n : NoAttr K C "place") (j : Nat) (hz : z = (j : Int)) (hN : ∀ H', SameBut p H H' → Cur H' C p t j → N H') :
    ∃ a C dx fs, p = a ∧ H a = some (.ins C dx fs) ∧ Cls K C ∧ NoAttr K C (Str.ofString "place") ∧ fs.length < 1000 ∧ N (upd H a (.ins C dx (putF (Str.ofString "place") (.int z) fs))) := by
  obtain ⟨dx, hp⟩ := h
  refine ⟨p, C, dx, _, rfl, hp, cl, n, by show 2 < 1000; decide, ?_⟩
  rw [pq4, hz]
  exact hN _ jqI ⟨dx, aql⟩
theorem tqJ {m : Str} {v u : V} (h1 : (m == Str.ofString "text") = false) (h2 : (m == Str.ofString "place") = false) : List.lookup m [(Str.ofString "text", v), (Str.ofString "place", u)] = none := by
  rw [List.lookup_cons, h1, List.lookup_cons, h2]; rfl
theorem aqM {R : Prop} {m : Str} (h : Cur H C p t i) (r : R) (h1 : (m == Str.ofString "text") = false := by decide +kernel) (h2 : (m == Str.ofString "place") = false := by decide +kernel) :
    ∃ a dx fs, p = a ∧ H a = some (.ins C dx fs) ∧ List.lookup m fs = none ∧ R :=
  let ⟨dx, hp⟩ := h
  ⟨p, dx, _, rfl, hp, tqJ h1 h2, r⟩
theorem Cur.same {H' : Hp} (h : Cur H C p t i) (s : Same H H') : Cur H' C p t i := let ⟨dx, hp⟩ := h; ⟨dx, s _ _ hp⟩
end
def plS : List Nat := (Str.ofString "abcdefghijklmnopqrstuvwxyzABCDEFGHIJKLMNOPQRSTUVWXYZ0123456789-_.").cps.toList
theorem pqO : plS.length = 65 := by decide +kernel
theorem sqM {c : Nat} (h : c < 128) : (c ∈ plS) ↔ isPl c = true := by
  have := oqz c h
  rw [← this, decide_eq_true_eq]
  exact Iff.rfl
def seesB (t sg : List Nat) (i : Nat) : Bool := ((t[i]?).map fun c => decide (c ∈ sg)).getD false
theorem fqf {t sg : List Nat} {i c : Nat} (h : t[i]? = some c) : seesB t sg i = decide (c ∈ sg) := by unfold seesB; rw [h]; rfl
theorem fqc {t sg : List Nat} {i : Nat} (h : t[i]? = none) : seesB t sg i = false := by unfold seesB; rw [h]; rfl
theorem kql {t w : List Nat} {i c : Nat} (h : t.drop i = c :: w) : t[i]? = some c ∧ i < t.length := by
  have e : t[i]? = some c := by rw [← List.head?_drop, h]; rfl
  exact ⟨e, (List.getElem?_eq_some_iff.mp e).1⟩
theorem pqE {fr s w : List Nat} (h : WrT fr s w) : s.length ≤ w.length := by
  induction h with
  | nil => exact Nat.le_refl _
  | self _ _ _ ih => simp only [List.length_cons]; omega
  | pair _ _ ih => simp only [List.length_cons]; omega
def frS : List Nat := (Str.ofString "!$'()*,;@&=+").cps.toList
def frQ : List Nat := (Str.ofString "!$'()*,;@+/?:").cps.toList
def frM : List Nat := (Str.ofString "!$'()*,;@&=+/?:").cps.toList
theorem lqF : frS.length ≤ 100 := by decide +kernel
theorem jq7 : frQ.length ≤ 100 := by decide +kernel
theorem pq6 : frM.length ≤ 100 := by decide +kernel
theorem gqm {fr : List Nat} : Stops fr [] := fun c h => by cases h
theorem bqr {fr r : List Nat} {c : Nat} (h : isPl c = false ∧ c ∉ fr ∧ c ≠ 126) : Stops fr (c :: r) := fun d e => by cases e; exact h
def MarW (o : Option (List Nat)) (w : List Nat) : Prop := match o with
  | none => w = []
  | some s => ∃ v, w = 35 :: v ∧ WrT frM s v
def ValW (o : Option (List Nat)) (w : List Nat) : Prop := match o with
  | none => w = []
  | some s => ∃ v, w = 61 :: v ∧ WrT frQ s v
def HouW (o : Option (List Nat)) (w : List Nat) : Prop := match o with
  | none => w = []
  | some s => ∃ v, w = 47 :: 47 :: v ∧ WrT [] s v ∧ s ≠ [] ∧ s.length ≤ 60
inductive TlW : List (List Nat) → Bool → List Nat → Prop
  | stop : TlW [] false []
  | ends : TlW [] true [47]
  | more {s w : List Nat} {ss : List (List Nat)} {e : Bool} {v : List Nat} : WrT frS s w → s ≠ [] → TlW ss e v → TlW (s :: ss) e (47 :: (w ++ v))
inductive StpW : List (List Nat) → Bool → List Nat → Prop
  | none {e : Bool} : StpW [] e []
  | some {s w : List Nat} {ss : List (List Nat)} {e : Bool} {v : List Nat} : WrT frS s w → s ≠ [] → TlW ss e v → StpW (s :: ss) e (w ++ v)
theorem pq8 : (47 : Nat) ∉ frS := by decide +kernel
theorem oqB {fr s w : List Nat} (h : WrT fr s w) (hs : s ≠ []) : ∃ c r, w = c :: r ∧ (isPl c = true ∨ c ∈ fr ∨ c = 126) := by
  cases h with
  | nil => exact absurd rfl hs
  | self a _ _ => exact ⟨_, _, rfl, a.elim .inl (fun z => .inr (.inl z))⟩
  | pair _ _ => exact ⟨_, _, rfl, .inr (.inr rfl)⟩
theorem oqF {ss : List (List Nat)} {e : Bool} {v rest : List Nat} (h : TlW ss e v) (hr : Stops frS rest) : Stops frS (v ++ rest) := by
  cases h with
  | stop => exact hr
  | ends => exact bqr ⟨by decide, pq8, by decide⟩
  | more _ _ _ => exact bqr ⟨by decide, pq8, by decide⟩
theorem oqv {ss : List (List Nat)} {e : Bool} {v rest : List Nat} (h : StpW ss e v) (hr : rest.head? ≠ some 47) : (v ++ rest).head? ≠ some 47 := by
  cases h with
  | none => exact hr
  | some hw hs _ =>
    obtain ⟨c, r, rfl, hc⟩ := oqB hw hs
    intro z
    have e : c = 47 := Option.some.inj z
    subst e
    rcases hc with z | z | z
    · cases z
    · exact pq8 z
    · cases z
inductive PrsW : List (List Nat × Option (List Nat)) → List Nat → Prop
  | nil : PrsW [] []
  | cons {n w v : List Nat} {o : Option (List Nat)} {ps : List (List Nat × Option (List Nat))} {r : List Nat} : WrT frQ n w → n ≠ [] → ValW o v → PrsW ps r → PrsW ((n, o) :: ps) (38 :: (w ++ (v ++ r)))
def QueW (q : Option (List (List Nat × Option (List Nat)))) (w : List Nat) : Prop := match q with
  | none => w = []
  | some [] => w = [63]
  | some ((n, o) :: ps) => ∃ a v r, w = 63 :: (a ++ (v ++ r)) ∧ WrT frQ n a ∧ n ≠ [] ∧ ValW o v ∧ PrsW ps r
theorem qqd : (35 : Nat) ∉ frQ ∧ (38 : Nat) ∉ frQ ∧ (61 : Nat) ∉ frQ := by decide +kernel
theorem jqW {ps : List (List Nat × Option (List Nat))} {r rest : List Nat} (h : PrsW ps r) (hr : rest = [] ∨ ∃ x, rest = 35 :: x) : Stops frQ (r ++ rest) ∧ (r ++ rest).head? ≠ some 61 := by
  cases h with
  | nil =>
    rcases hr with rfl | ⟨x, rfl⟩
    · exact ⟨gqm, by simp⟩
    · exact ⟨bqr ⟨by decide, qqd.1, by decide⟩, by simp⟩
  | cons _ _ _ _ => exact ⟨bqr ⟨by decide, qqd.2.1, by decide⟩, by simp⟩
theorem mqJ {o : Option (List Nat)} {v r : List Nat} (h : ValW o v) (hr : Stops frQ r) : Stops frQ (v ++ r) := by
  cases o with
  | none =>
    have h : v = [] := h
    subst h
    exact hr
  | some s =>
    obtain ⟨x, rfl, _⟩ := h
    exact bqr ⟨by decide, qqd.2.2, by decide⟩
theorem Cur.toT {H H' : Hp} {C p : Addr} {t : List Nat} {i : Nat} (h : Cur H C p t i) (s : SameBut p H H') : SameT H H' := fun b xs e => s b _ (by
  obtain ⟨dx, hp⟩ := h
  exact tqx e hp (by intro z; cases z)) e
def pD (a : List Nat × Option (List Nat)) : PyData := .tuple [st a.1, oD a.2]
def PrL (H : Hp) (vs : List V) (dn : List (List Nat × Option (List Nat))) : Prop := vs.length = dn.length ∧ ∀ (i : Nat) (a : List Nat × Option (List Nat)) (y : V), dn[i]? = some a → vs[i]? = some y → IsT H (pD a) y
theorem PrL.mono {H H' : Hp} {vs : List V} {dn : List (List Nat × Option (List Nat))} (h : PrL H vs dn) (s : SameT H H') : PrL H' vs dn := ⟨h.1, fun i a y e1 e2 => (h.2 i a y e1 e2).mono s⟩
theorem PrL.snoc {H : Hp} {vs : List V} {dn : List (List Nat × Option (List Nat))} {a : List Nat × Option (List Nat)} {y : V} (h : PrL H vs dn) (hy : IsT H (pD a) y) : PrL H (vs ++ [y]) (dn ++ [a]) := by
  refine ⟨by simp [h.1], fun i b z e1 e2 => ?_⟩
  by_cases hi : i < dn.length
  · rw [List.getElem?_append_left hi] at e1
    rw [List.getElem?_append_left (by rw [h.1]; exact hi)] at e2
    exact h.2 i b z e1 e2
  · have := (List.getElem?_eq_some_iff.mp e1).1
    rw [List.length_append, List.length_singleton] at this
    have e : i = dn.length := by omega
    subst e
    rw [List.getElem?_append_right (Nat.le_refl _), Nat.sub_self] at e1
    rw [← h.1, List.getElem?_append_right (Nat.le_refl _), Nat.sub_self] at e2
    cases e1
    cases e2
    exact hy
theorem lqb {H : Hp} {α : Type} {g : α → PyData} : ∀ {l : List α} {ys : List V}, ys.length = l.length → (∀ (i : Nat) (a : α) (y : V), l[i]? = some a → ys[i]? = some y → IsT H (g a) y) → IsTAll H (l.map g) ys
  | [], [], _, _ => .nil
  | [], _ :: _, h, _ => by simp at h
  | _ :: _, [], h, _ => by simp at h
  | a :: l, y :: ys, h, k => .cons (k 0 a y rfl rfl) (lqb (by simpa using h) fun i b z e1 e2 => k (i + 1) b z (by simpa using e1) (by simpa using e2))
def fgS : List Nat := (Str.ofString "0123456789").cps.toList
theorem oql {c : Nat} : c ∈ fgS ↔ 48 ≤ c ∧ c ≤ 57 := by
  rw [show fgS = [48, 49, 50, 51, 52, 53, 54, 55, 56, 57] by decide +kernel]
  simp only [List.mem_cons, List.not_mem_nil, or_false]
  omega
def valD (ds : List Nat) : Nat := ds.foldl (fun a c => a * 10 + (c - 48)) 0
theorem eq8 (ds : List Nat) (c : Nat) : valD (ds ++ [c]) = valD ds * 10 + (c - 48) := by unfold valD; rw [List.foldl_append]; rfl
theorem rqc : ∀ (es ds : List Nat), valD ds ≤ valD (ds ++ es)
  | [], ds => by rw [List.append_nil]; exact Nat.le_refl _
  | c :: es, ds => by
    have h := rqc es (ds ++ [c])
    rw [eq8, List.append_assoc] at h
    exact Nat.le_trans (by omega) h
def DooW (o : Option Int) (w : List Nat) : Prop := match o with
  | none => w = []
  | some n => ∃ ds, w = 58 :: ds ∧ ds ≠ [] ∧ (∀ c ∈ ds, 48 ≤ c ∧ c ≤ 57) ∧ (valD ds : Int) = n ∧ valD ds ≤ 65535 ∧ (ds = [48] ∨ ds.head? ≠ some 48)
theorem qqz : ∀ c, c < 58 → 48 ≤ c → PySem.intText? ⟨#[c]⟩ = some (((c - 48 : Nat)) : Int) := by decide +kernel
theorem pqV {s r : List Nat} (h : ∀ c ∈ s, c ≠ 58) : ahead (s ++ 58 :: r) = s := by
  unfold ahead
  rw [List.takeWhile_append_of_pos (fun c hc => decide_eq_true (h c hc)), List.takeWhile_cons_of_neg (by simp), List.append_nil]
theorem mqV (t : List Nat) : ∃ r, t = ahead t ++ r := ⟨t.dropWhile fun c => decide (c ≠ 58), (List.takeWhile_append_dropWhile (p := fun c => decide (c ≠ 58))).symm⟩
theorem pqx (t : List Nat) : (ahead t).length ≤ t.length := by
  obtain ⟨r, h⟩ := mqV t
  have := congrArg List.length h
  rw [List.length_append] at this
  omega
theorem kq1 (t : List Nat) : t.take (ahead t ++ [58]).length = ahead t ++ [58] ↔ t[(ahead t).length]? = some 58 := by
  obtain ⟨r, h⟩ := mqV t
  generalize ahead t = a at h
  subst h
  rw [List.length_append, List.length_singleton, List.getElem?_append_right (Nat.le_refl _), Nat.sub_self, List.take_append]
  rw [List.take_of_length_le (by omega), show a.length + 1 - a.length = 1 by omega]
  constructor
  · intro e
    have e := List.append_cancel_left e
    cases r with
    | nil => simp at e
    | cons c r => simp at e; rw [e]; rfl
  · intro e
    cases r with
    | nil => simp at e
    | cons c r => simp at e; rw [e]; rfl
def schM (t : List Nat) : List Nat := if ahead t ≠ [] ∧ schD (.str ⟨(ahead t).toArray⟩) = true ∧ t[(ahead t).length]? = some 58 then ahead t else []
def schP (t : List Nat) : Nat := (schT (schM t)).length
theorem jqc {t : List Nat} (h1 : ahead t ≠ []) (h2 : schD (.str ⟨(ahead t).toArray⟩) = true) (h3 : t[(ahead t).length]? = some 58) : schM t = ahead t ∧ schP t = (ahead t ++ [58]).length := by
  have e : schM t = ahead t := by unfold schM; rw [if_pos ⟨h1, h2, h3⟩]
  exact ⟨e, by unfold schP schT; rw [e, if_neg h1]⟩
theorem iqi {t : List Nat} (h : ¬ (ahead t ≠ [] ∧ schD (.str ⟨(ahead t).toArray⟩) = true ∧ t[(ahead t).length]? = some 58)) : schM t = [] ∧ schP t = 0 := by
  have e : schM t = [] := by unfold schM; rw [if_neg h]
  exact ⟨e, by unfold schP schT; rw [e, if_pos rfl]; rfl⟩
def RdW (x : Ad) (t : List Nat) : Prop := ∃ h d w q m, t = schT x.scheme ++ (h ++ (d ++ ((if x.rooted then [47] else []) ++ (w ++ (q ++ m))))) ∧ schM t = x.scheme ∧ HouW x.house h ∧ DooW x.door d ∧ StpW x.steps x.ends w ∧ QueW x.quest q ∧ MarW x.mark m
end Wm
namespace L2
open PySem
theorem IsKAll.length {K : PySem.W.Frag} {H : Hp} : ∀ {ds : List PyData} {xs : List V}, IsKAll K H ds xs → xs.length = ds.length
  | _, _, .nil => rfl
  | _, _, .cons _ r => by simp [IsKAll.length r]
theorem kq7 {K : PySem.W.Frag} {H : Hp} : ∀ {ds : List PyData} {xs : List V} {i : Nat} {d : PyData} {x : V}, IsKAll K H ds xs → ds[i]? = some d → xs[i]? = some x → IsK K H d x
  | _, _, 0, _, _, .cons h _, e1, e2 => by cases e1; cases e2; exact h
  | _, _, i + 1, _, _, .cons _ r, e1, e2 => kq7 r (i := i) (by simpa using e1) (by simpa using e2)
  | _, _, 0, _, _, .nil, e1, _ => by cases e1
  | _, _, _ + 1, _, _, .nil, e1, _ => by cases e1
end L2
namespace Wm
open PySem L2
theorem kqY : ∀ n : Nat, valD ((Nat.toDigits 10 n).map Char.toNat) = n ∧ (Nat.toDigits 10 n).map Char.toNat ≠ [] ∧ (((Nat.toDigits 10 n).map Char.toNat).head? = some 48 → n = 0)
  | n => by
    by_cases h : n < 10
    · rw [Nat.toDigits_of_lt_base h]
      have key : ∀ n, n < 10 → valD ([Nat.digitChar n].map Char.toNat) = n ∧ ([Nat.digitChar n].map Char.toNat).head? = some (48 + n) := by decide +kernel
      obtain ⟨k1, k2⟩ := key n h
      refine ⟨k1, by simp, fun z => ?_⟩
      rw [k2] at z
      injection z with z
      omega
    · have h' : 10 ≤ n := by omega
      rw [Nat.toDigits_of_base_le (by decide) h', List.map_append]
      obtain ⟨i1, i2, i3⟩ := kqY (n / 10)
      have key : ∀ n, n < 10 → ([Nat.digitChar n].map Char.toNat) = [48 + n] := by decide +kernel
      rw [key (n % 10) (by omega), eq8, i1]
      refine ⟨by omega, by simp, fun z => ?_⟩
      cases hh : (Nat.toDigits 10 (n / 10)).map Char.toNat with
      | nil => exact absurd hh i2
      | cons c r =>
        rw [hh] at z i3
        have := i3 z
        omega
theorem rqx {o : Option Int} (h : ∀ i, o = some i → 0 ≤ i ∧ i ≤ 65535) : DooW o (dooT o) := by
  cases o with
  | none => rfl
  | some i =>
    obtain ⟨h1, h2⟩ := h i rfl
    obtain ⟨n, rfl⟩ := Int.eq_ofNat_of_zero_le h1
    have e : dg (n : Int) = (Nat.toDigits 10 n).map Char.toNat := by unfold dg; rw [PySem.W.KIN.signs_num]
    obtain ⟨i1, i2, i3⟩ := kqY n
    refine ⟨dg n, rfl, by rw [e]; exact i2, sqU h1, by rw [e, i1], by rw [e, i1]; omega, ?_⟩
    by_cases hz : (dg n).head? = some 48
    · rw [e] at hz
      have := i3 hz
      subst this
      exact .inl (by rw [e]; decide)
    · exact .inr hz
theorem wqw {c : Nat} (h : wch c = true) : c < 128 := by
  simp only [wch, isPl, Bool.or_eq_true, decide_eq_true_eq] at h
  omega
def GoodsT (n : Nat) (H : Hp) (vs : List V) : Prop := ∀ v ∈ vs, ∃ x : Ad, (x.Wf ∧ x.Tiny ∧ x.steps.length ≤ n) ∧ IsT H x.data v
theorem GoodsT.cons {n : Nat} {H : Hp} {v : V} {vs : List V} {x : Ad} (h1 : x.Wf ∧ x.Tiny ∧ x.steps.length ≤ n) (h3 : IsT H x.data v) (h : GoodsT n H vs) : GoodsT n H (v :: vs) := fun u hu => by
  rcases List.mem_cons.mp hu with rfl | hu
  · exact ⟨x, h1, h3⟩
  · exact h u hu
theorem Ad.Tiny.local {x : Ad} (h : x.Tiny) : ({ x with scheme := [], house := none, door := none } : Ad).Tiny := ⟨h.stp, h.que, h.mar, fun l e => by cases e⟩
end Wm
namespace Wm
open PySem L2
def Bt (H : Hp) (q : Addr) (n : Nat) : Prop := ∃ bs : List Int, H q = some (.lst (bs.map V.int)) ∧ bs ≠ [] ∧ (∀ b ∈ bs, 0 ≤ b ∧ b ≤ 2147483647) ∧ bs.length ≤ n
theorem Bt.toT {H H' : Hp} {q : Addr} {n : Nat} (h : Bt H q n) (s : SameBut q H H') : SameT H H' := by
  obtain ⟨bs, hq, _⟩ := h
  exact s.toT hq
theorem Bt.same {H H' : Hp} {q : Addr} {n : Nat} (h : Bt H q n) (s : Same H H') : Bt H' q n := by
  obtain ⟨bs, hq, r⟩ := h
  exact ⟨bs, s _ _ hq, r⟩
theorem Bt.le {H : Hp} {q : Addr} {n m : Nat} (h : Bt H q n) (hm : n ≤ m) : Bt H q m := by
  obtain ⟨bs, hq, h1, h2, h3⟩ := h
  exact ⟨bs, hq, h1, h2, Nat.le_trans h3 hm⟩
def plL : List Nat := (Str.ofString "-_.0123456789abcdefghijklmnopqrstuvwxyzABCDEFGHIJKLMNOPQRSTUVWXYZ").cps.toList
theorem tqz : plL.length = 65 := by decide +kernel
theorem wqg : ∀ c, c < 128 → (c ∈ plL ↔ isPl c = true) := by decide +kernel
theorem iql {fr s w : List Nat} (hf : ∀ c ∈ fr, c < 128) (h : WrT fr s w) : ∀ c ∈ w, c < 128 := by
  induction h with
  | nil => intro c hc; cases hc
  | self a b _ ih =>
    intro d hd
    rcases List.mem_cons.mp hd with rfl | hd
    · rcases a with a | a
      · exact wqw (by unfold wch; rw [a]; rfl)
      · exact hf _ a
    · exact ih d hd
  | pair a _ ih =>
    intro d hd
    obtain ⟨_, h1, h2, _⟩ := jqK a
    simp only [List.mem_cons] at hd
    rcases hd with rfl | rfl | rfl | hd
    · decide
    · exact h1
    · exact h2
    · exact ih d hd
theorem sqG {fr s w : List Nat} (hf : (58 : Nat) ∉ fr) (h : WrT fr s w) : ∀ c ∈ w, c ≠ 58 := by
  induction h with
  | nil => intro c hc; cases hc
  | self a b _ ih =>
    intro d hd
    rcases List.mem_cons.mp hd with rfl | hd
    · rcases a with a | a
      · intro z; rw [z] at a; cases a
      · intro z; rw [z] at a; exact hf a
    · exact ih d hd
  | pair a _ ih =>
    intro d hd
    unfold sgO at a
    simp only [List.mem_cons] at hd
    rcases hd with rfl | rfl | rfl | hd
    · decide
    · intro z; subst z
      rw [show fig 58 = none by decide] at a
      simp at a
    · intro z; subst z
      rw [show fig 58 = none by decide] at a
      simp at a
    · exact ih d hd
theorem sqp : (58 : Nat) ∉ frS := by decide +kernel
theorem uqW {ss : List (List Nat)} {e : Bool} {v : List Nat} (h : TlW ss e v) : ∀ c ∈ v, c ≠ 58 := by
  induction h with
  | stop => intro c hc; cases hc
  | ends => intro c hc; rw [List.mem_singleton.mp hc]; decide
  | more hw _ _ ih =>
    intro c hc
    simp only [List.mem_cons, List.mem_append] at hc
    rcases hc with rfl | hc | hc
    · decide
    · exact sqG sqp hw c hc
    · exact ih c hc
theorem tqV {ss : List (List Nat)} {e : Bool} {v : List Nat} (h : StpW ss e v) : ∀ c ∈ v, c ≠ 58 := by
  cases h with
  | none => intro c hc; cases hc
  | some hw _ ht =>
    intro c hc
    rcases List.mem_append.mp hc with hc | hc
    · exact sqG sqp hw c hc
    · exact uqW ht c hc
theorem mqq {w r : List Nat} (hw : ∀ c ∈ w, c ≠ 58) (hr : r = [] ∨ ∃ c y, r = c :: y ∧ isAln c = false ∧ c ≠ 58) : schM (w ++ r) = [] := by
  refine (iqi ?_).1
  rintro ⟨_, z2, z3⟩
  rcases hr with rfl | ⟨c, y, rfl, h1, h2⟩
  · rw [List.append_nil] at z3
    exact hw 58 (List.mem_of_getElem? z3) rfl
  · have e : ahead (w ++ c :: y) = w ++ c :: ahead y := by
      unfold ahead
      rw [List.takeWhile_append_of_pos (fun c hc => decide_eq_true (hw c hc)), List.takeWhile_cons_of_pos (by simpa using h2)]
    rw [e] at z2
    simp only [schD, Bool.and_eq_true, List.all_eq_true] at z2
    have := z2.2 c (by simp)
    rw [h1] at this
    cases this
theorem vqF {x : Ad} {h d w q m : List Nat} (wf : x.Wf) (hH : HouW x.house h) (hD : DooW x.door d) (hS : StpW x.steps x.ends w) (hQ : QueW x.quest q) (hM : MarW x.mark m) :
    RdW x (schT x.scheme ++ (h ++ (d ++ ((if x.rooted then [47] else []) ++ (w ++ (q ++ m)))))) := by
  refine ⟨h, d, w, q, m, rfl, ?_, hH, hD, hS, hQ, hM⟩
  by_cases hs : x.scheme = []
  · rw [hs, show schT [] = [] from rfl, List.nil_append]
    cases hh : x.house with
    | some l =>
      rw [hh] at hH
      obtain ⟨v, rfl, _⟩ := hH
      exact mqq (w := []) (fun c hc => by cases hc) (.inr ⟨47, _, rfl, by decide, by decide⟩)
    | none =>
      rw [hh] at hH
      have hH : h = [] := hH
      cases hd : x.door with
      | some i => exact absurd hh (wf.doo i hd).2
      | none =>
        rw [hd] at hD
        have hD : d = [] := hD
        rw [hH, hD, List.nil_append, List.nil_append, ← List.append_assoc]
        refine mqq (fun c hc => ?_) ?_
        · rcases List.mem_append.mp hc with hc | hc
          · split at hc
            · rw [List.mem_singleton.mp hc]; decide
            · cases hc
          · exact tqV hS c hc
        · have hmr : m = [] ∨ ∃ y, m = 35 :: y := by
            cases hm : x.mark with
            | none => rw [hm] at hM; exact .inl hM
            | some s => rw [hm] at hM; obtain ⟨v, e, _⟩ := hM; exact .inr ⟨v, e⟩
          cases hq : x.quest with
          | none =>
            rw [hq] at hQ
            have hQ : q = [] := hQ
            rw [hQ]
            rcases hmr with e | ⟨y, e⟩
            · exact .inl e
            · exact .inr ⟨35, y, e, by decide, by decide⟩
          | some ps =>
            rw [hq] at hQ
            cases ps with
            | nil =>
              have hQ : q = [63] := hQ
              exact .inr ⟨63, m, by rw [hQ]; rfl, by decide, by decide⟩
            | cons a ps =>
              obtain ⟨n, o⟩ := a
              obtain ⟨a, v, r, e, _⟩ := hQ
              exact .inr ⟨63, _, by rw [e]; rfl, by decide, by decide⟩
  · have hc : ∀ c ∈ x.scheme, c ≠ 58 := fun c hc => (uqy (uqP (wf.sch.2.1 c hc))).2.2.2.1
    have er : schT x.scheme = x.scheme ++ [58] := by unfold schT; rw [if_neg hs]
    rw [er, List.append_assoc, List.cons_append, List.nil_append]
    generalize (h ++ (d ++ ((if x.rooted then [47] else []) ++ (w ++ (q ++ m))))) = r
    have ha : ahead (x.scheme ++ 58 :: r) = x.scheme := pqV hc
    have := (jqc (t := x.scheme ++ 58 :: r) (by rw [ha]; exact hs) (by
      rw [ha]
      simp only [schD, Bool.and_eq_true, List.all_eq_true, decide_eq_true_eq]
      exact ⟨⟨⟨fun c hc => mqK (wf.sch.2.1 c hc), by show x.scheme.length ≤ 8; exact wf.sch.1⟩, wf.sch.2.2⟩, wf.sch.2.1⟩) (by
      rw [ha, List.getElem?_append_right (Nat.le_refl _), Nat.sub_self]; rfl)).1
    rw [this, ha]
theorem pqW {c : Nat} (hc : isSg c = true) : sgO (if c / 16 < 10 then 48 + c / 16 else 55 + c / 16) (if c % 16 < 10 then 48 + c % 16 else 55 + c % 16) = some c := by
  have l := cq7 hc
  have key : ∀ h, h < 16 → fig (if h < 10 then 48 + h else 55 + h) = some h := by decide +kernel
  unfold sgO
  rw [key (c / 16) (by omega), key (c % 16) (by omega)]
  simp only
  rw [show c / 16 * 16 + c % 16 = c by omega, if_pos hc]
theorem uqt : ∀ n, n < 16 → (Str.ofString "0123456789abcdef").cps.toList[n]? = some (hexd n) := by decide +kernel
theorem qqC : ∀ n, n < 16 → (Str.ofString "0123456789ABCDEF").cps.toList[n]? = some (if n < 10 then 48 + n else 55 + n) := by decide +kernel
end Wm
namespace L2
open PySem
theorem qqu {K : PySem.W.Frag} {p a : Addr} {fv : St} {te : TE} {Q : VK} {H1 : Hp} {xs : List V} (J : Nat → List V → Hp → Prop) (hlen : xs.length ≤ sizeLine) (h0 : J 0 [] (upd H1 p (.lst []))) (hS : ∀ i ys H2, J i ys H2 → SqT K H2 a xs)
    (he : ∀ (i : Nat) (x : V) (ys : List V) (H2 : Hp) (T : VK), xs[i]? = some x → J i ys H2 → H2 p = some (.lst ys) → (∀ y H3, H3 p = some (.lst ys) → J (i + 1) (ys ++ [y]) (upd H3 p (.lst (ys ++ [y]))) → T y H3) → te (some x :: fv) H2 T)
    (hQ : ∀ ys H2, J xs.length ys H2 → H2 p = some (.lst ys) → Q (.ref p) H2) : CompI (Itt K a) p fv tYes te Q H1 := by
  refine ⟨fun i m ys H2 => m = xs.length - i ∧ i ≤ xs.length ∧ ys.length = i ∧ H2 p = some (.lst ys) ∧ J i ys H2, ⟨xs.length, by simp, Nat.zero_le _, rfl, aql, h0⟩, ?_⟩
  rintro i m ys H2 ⟨rfl, hi, hyl, hp2, hJ⟩
  refine ⟨hp2, ?_⟩
  have q := hS _ _ _ hJ
  by_cases hlt : i < xs.length
  · refine .inr ⟨⟨xs, xs[i], q, by simp [hlt]⟩, by omega, fun x H3 y => ?_⟩
    obtain ⟨rfl, y⟩ := y
    have hc := y xs q
    unfold tYes
    dsimp only
    rw [if_pos rfl]
    exact he i x ys _ _ hc hJ hp2 fun y H5 hp5 hJ5 => ⟨hp5, xs.length - (i + 1), by omega, rfl, hlt, by rw [List.length_append, hyl]; rfl, aql, hJ5⟩
  · have e : i = xs.length := by omega
    subst e
    exact .inl ⟨⟨xs, q, Nat.le_refl _⟩, hQ ys H2 hJ hp2⟩
end L2
namespace Wm
open PySem L2
def PrW (p : List Nat × Option (List Nat)) (w : List Nat) : Prop := ∃ a v, w = a ++ v ∧ WrT frQ p.1 a ∧ ValW p.2 v
inductive PrWs : List (List Nat × Option (List Nat)) → List (List Nat) → Prop
  | nil : PrWs [] []
  | cons {p : List Nat × Option (List Nat)} {w : List Nat} {ps : List (List Nat × Option (List Nat))} {ws : List (List Nat)} : PrW p w → PrWs ps ws → PrWs (p :: ps) (w :: ws)
theorem PrWs.snoc {p : List Nat × Option (List Nat)} {w : List Nat} (h : PrW p w) : ∀ {ps : List (List Nat × Option (List Nat))} {ws : List (List Nat)}, PrWs ps ws → PrWs (ps ++ [p]) (ws ++ [w])
  | _, _, .nil => .cons h .nil
  | _, _, .cons a r => .cons a (PrWs.snoc h r)
theorem PrWs.length : ∀ {ps : List (List Nat × Option (List Nat))} {ws : List (List Nat)}, PrWs ps ws → ws.length = ps.length
  | _, _, .nil => rfl
  | _, _, .cons _ r => by simp [PrWs.length r]
theorem pqD : ∀ {ps : List (List Nat × Option (List Nat))} {ws : List (List Nat)}, PrWs ps ws → (∀ p ∈ ps, p.1 ≠ []) → PrsW ps (tlT 38 ws)
  | _, _, .nil, _ => .nil
  | (n, o) :: ps, _, .cons (w := w) (ws := ws) h r, hn => by
    obtain ⟨a, v, rfl, ha, hv⟩ := h
    have := PrsW.cons ha (hn (n, o) (List.mem_cons_self ..)) hv (pqD r fun p hp => hn p (List.mem_cons_of_mem _ hp))
    simpa [tlT] using this
theorem tqF {ps : List (List Nat × Option (List Nat))} {ws : List (List Nat)} (h : PrWs ps ws) (hn : ∀ p ∈ ps, p.1 ≠ []) : QueW (some ps) (63 :: joinT 38 ws) := by
  cases h with
  | nil => rfl
  | cons h r =>
    rename_i p w ps ws
    obtain ⟨n, o⟩ := p
    obtain ⟨a, v, rfl, ha, hv⟩ := h
    exact ⟨a, v, tlT 38 ws, by simp [joinT], ha, hn (n, o) (List.mem_cons_self ..), hv, pqD r fun p hp => hn p (List.mem_cons_of_mem _ hp)⟩
inductive StWs : List (List Nat) → List (List Nat) → Prop
  | nil : StWs [] []
  | cons {s w : List Nat} {ss ws : List (List Nat)} : WrT frS s w → StWs ss ws → StWs (s :: ss) (w :: ws)
theorem StWs.snoc {s w : List Nat} (h : WrT frS s w) : ∀ {ss ws : List (List Nat)}, StWs ss ws → StWs (ss ++ [s]) (ws ++ [w])
  | _, _, .nil => .cons h .nil
  | _, _, .cons a r => .cons a (StWs.snoc h r)
theorem StWs.length : ∀ {ss ws : List (List Nat)}, StWs ss ws → ws.length = ss.length
  | _, _, .nil => rfl
  | _, _, .cons _ r => by simp [StWs.length r]
theorem sqN {e : Bool} : ∀ {ss ws : List (List Nat)}, StWs ss ws → (∀ s ∈ ss, s ≠ []) → TlW ss e (tlT 47 ws ++ if e then [47] else [])
  | _, _, .nil, _ => by cases e <;> simp [tlT] <;> constructor
  | s :: ss, _, .cons (w := w) (ws := ws) h r, hn => by
    have := TlW.more h (hn s (List.mem_cons_self ..)) (sqN (e := e) r fun p hp => hn p (List.mem_cons_of_mem _ hp))
    simpa [tlT] using this
theorem tqw {e : Bool} {ss ws : List (List Nat)} (h : StWs ss ws) (hn : ∀ s ∈ ss, s ≠ []) : StpW ss e (joinT 47 ws ++ if e && !ss.isEmpty then [47] else []) := by
  cases h with
  | nil => simp [joinT]; exact .none
  | cons h r =>
    rename_i s w ss ws
    have := StpW.some h (hn s (List.mem_cons_self ..)) (sqN (e := e) r fun p hp => hn p (List.mem_cons_of_mem _ hp))
    simpa [joinT] using this
end Wm
namespace Wm
open PySem L2
theorem mqT : (126 : Nat) ∉ frQ ∧ ∀ c ∈ frQ, c < 128 := by decide +kernel
theorem sqY : (126 : Nat) ∉ frS ∧ ∀ c ∈ frS, c < 128 := by decide +kernel
theorem sqQ : (126 : Nat) ∉ frM ∧ ∀ c ∈ frM, c < 128 := by decide +kernel
theorem Bt.ne {H : Hp} {q b : Addr} {n : Nat} {xs : List V} (h : Bt H q n) (hb : H b = some (.tup xs)) : b ≠ q := by
  obtain ⟨bs, hq, _⟩ := h
  intro z
  subst z
  rw [hb] at hq
  cases hq
theorem Bt.ne0 {H : Hp} {q b : Addr} {n : Nat} (h : Bt H q n) (hb : H b = none) : b ≠ q := by
  obtain ⟨bs, hq, _⟩ := h
  intro z
  subst z
  rw [hb] at hq
  cases hq
theorem Bt.upd {H : Hp} {q b : Addr} {n : Nat} {o : HO} (h : Bt H q n) (hb : b ≠ q) : Bt (L2.upd H b o) q n := by
  obtain ⟨bs, hq, r⟩ := h
  exact ⟨bs, by rw [aqu hb.symm]; exact hq, r⟩
end Wm
namespace L2
open PySem PySem.Spec PySem.W PyProof.Rows
def SameD (h h' : Heap) : Prop := ∀ (b : Nat) (o : Obj), h.objs[b]? = some o → ∃ o', h'.objs[b]? = some o' ∧ o'.dict = o.dict
theorem SameD.refl (h : Heap) : SameD h h := fun _ o e => ⟨o, e, rfl⟩
theorem SameD.trans {a b c : Heap} (x : SameD a b) (y : SameD b c) : SameD a c := fun d o e => by
  obtain ⟨o1, e1, q1⟩ := x d o e
  obtain ⟨o2, e2, q2⟩ := y d o1 e1
  exact ⟨o2, e2, q2.trans q1⟩
theorem SameD.push (h : Heap) (o : Obj) : SameD h (h.push o) := fun b u e => by
  refine ⟨u, ?_, rfl⟩
  have hb : b < h.objs.size := (Array.getElem?_eq_some_iff.mp e).1
  show (h.objs.push o)[b]? = some u
  rw [Array.getElem?_push, if_neg (Nat.ne_of_lt hb)]
  exact e
theorem SameD.upd (h : Heap) (a : Addr) {f : Obj → Obj} (hf : ∀ o, (f o).dict = o.dict) : SameD h (h.update a f) := fun b u e => by
  show ∃ o', (h.objs.modify a f)[b]? = some o' ∧ _
  rw [Array.getElem?_modify]
  by_cases q : a = b
  · rw [if_pos q, e]; exact ⟨f u, rfl, hf u⟩
  · rw [if_neg q, e]; exact ⟨u, rfl, rfl⟩
theorem SameD.get {h h' : Heap} (x : SameD h h') {b : Addr} {o o' : Obj} (e : h.get? b = some o) (e' : h'.get? b = some o') : o'.dict = o.dict := by
  obtain ⟨o1, q, r⟩ := x b o (Heap.get?_some_iff.mp e).1
  have := (Heap.get?_some_iff.mp e').1
  rw [q] at this
  cases this
  exact r
def kd {α : Type} : Sem α → Prop
  | .pure _ => True
  | .raise _ => False
  | .unsupported _ => True
  | .finish _ => True
  | .rule _ k => kd (k ())
  | .at _ k => kd (k ())
  | .load _ _ k => ∀ o, kd (k o)
  | .update _ _ f k => (∀ o, (f o).dict = o.dict) ∧ kd (k ())
  | .alloc _ k => ∀ a, kd (k a)
  | .loadIfAlive _ k => ∀ o, kd (k o)
  | .point _ k => kd (k ())
  | .register _ _ => True
  | .fresh k => ∀ t, kd (k t)
  | .ask k => ∀ t, kd (k t)
  | .choose _ _ k => ∀ t, kd (k t)
  | .os _ _ _ => False
  | .call _ _ _ _ _ => False
  | .handled _ k => ∀ t, kd (k t)
  | .newGen _ _ => False
  | .genState _ _ => False
  | .resume _ _ _ _ => False
  | .yield _ _ _ _ => True
  | .stack k => ∀ t, kd (k t)
  | .fork _ _ => True
  | .thread k => ∀ t, kd (k t)
  | .await _ _ _ _ _ => True
theorem aq7 {α β : Type} {m : Sem α} {f : α → Sem β} (a : kd m) (b : ∀ x, kd (f x)) : kd (m >>= f) := by
  show kd (Sem.bind m f)
  induction m with
  | pure x => exact b x
  | raise _ => exact a.elim
  | unsupported _ => exact True.intro
  | finish _ => exact True.intro
  | rule _ k ih => exact ih () a
  | «at» _ k ih => exact ih () a
  | load _ _ k ih => exact fun o => ih o (a o)
  | update _ _ g k ih => exact ⟨a.1, ih () a.2⟩
  | alloc _ k ih => exact fun o => ih o (a o)
  | loadIfAlive _ k ih => exact fun o => ih o (a o)
  | point _ k ih => exact ih () a
  | register _ k ih => exact True.intro
  | fresh k ih => exact fun o => ih o (a o)
  | ask k ih => exact fun o => ih o (a o)
  | choose _ _ k ih => exact fun o => ih o (a o)
  | os _ _ k ih => exact a.elim
  | call _ _ _ _ k ih => exact a.elim
  | handled _ k ih => exact fun o => ih o (a o)
  | newGen _ k ih => exact a.elim
  | genState _ k ih => exact a.elim
  | resume _ _ _ k ih => exact a.elim
  | yield _ _ _ k ih => exact True.intro
  | stack k ih => exact fun o => ih o (a o)
  | fork _ k ih => exact True.intro
  | thread k ih => exact fun o => ih o (a o)
  | await _ _ _ _ k ih => exact True.intro
theorem wqO {α : Type} {M : Model} {Γ : PySem.Ctx} (t : Sem α) : ∀ {Q : α → Pos → Shared → Prop} {E : Value → Pos → Shared → Prop} {p : Pos} {s : Shared}, kd t → Sem.wp M Γ t Q E p s →
    Sem.wp M Γ t (fun a p' s' => Q a p' s' ∧ SameD s.heap s'.heap) (fun _ _ _ => False) p s := by
  induction t with
  | pure x => intro Q E p s _ h; exact ⟨h, .refl _⟩
  | raise _ => intro Q E p s a h; exact a.elim
  | unsupported _ => intro Q E p s _ h; exact h.elim
  | finish _ => intro Q E p s _ h; exact h.elim
  | rule _ k ih => intro Q E p s a h; exact ih () a h
  | «at» _ k ih => intro Q E p s a h; exact ih () a h
  | load _ _ k ih => intro Q E p s a h; obtain ⟨o, e, h⟩ := h; exact ⟨o, e, ih o (a o) h⟩
  | update x _ g k ih =>
    intro Q E p s a h
    obtain ⟨e, h⟩ := h
    exact ⟨e, Sem.wp_mono M Γ (k ()) (fun _ _ _ z => ⟨z.1, (SameD.upd _ _ a.1).trans z.2⟩) (fun _ _ _ z => z) _ _ (ih () a.2 h)⟩
  | alloc o k ih => intro Q E p s a h; exact Sem.wp_mono M Γ (k _) (fun _ _ _ z => ⟨z.1, (SameD.push _ _).trans z.2⟩) (fun _ _ _ z => z) _ _ (ih _ (a _) h)
  | loadIfAlive _ k ih => intro Q E p s a h; exact ih _ (a _) h
  | point _ k ih => intro Q E p s a h; exact ih () a h
  | register _ k ih => intro Q E p s _ h; exact h.elim
  | fresh k ih => intro Q E p s a h; exact ih _ (a _) h
  | ask k ih => intro Q E p s a h; exact ih _ (a _) h
  | choose _ _ k ih => intro Q E p s a h; exact ⟨h.1, ih _ (a _) h.2⟩
  | os _ _ k ih => intro Q E p s a h; exact a.elim
  | call _ _ _ _ k ih => intro Q E p s a h; exact a.elim
  | handled _ k ih => intro Q E p s a h; exact ih _ (a _) h
  | newGen _ k ih => intro Q E p s a h; exact a.elim
  | genState _ k ih => intro Q E p s a h; exact a.elim
  | resume _ _ _ k ih => intro Q E p s a h; exact a.elim
  | yield _ _ _ k ih => intro Q E p s a h; exact h.elim
  | stack k ih => intro Q E p s a h; exact ih _ (a _) h
  | fork _ k ih => intro Q E p s a h; exact h.elim
  | thread k ih => intro Q E p s a h; exact ih _ (a _) h
  | await _ _ _ _ k ih => intro Q E p s a h; exact h.elim
theorem hqn {α : Type} {M : Model} {A : Around} {t : Sem α} {Q : α → Shared → Prop} {E : Value → Shared → Prop} {s : Shared} (k : kd t) (h : wpAny M A t Q E s) : wpAny M A t (fun a s' => Q a s' ∧ SameD s.heap s'.heap) (fun _ _ => False) s :=
  fun Γ p hΓ => wqO t k (h Γ p hΓ)
theorem nqe (v : Value) : kd (fieldsOf v) := by
  cases v <;> first | exact True.intro | (refine aq7 (fun _ => True.intro) fun o => ?_; split <;> exact True.intro)
theorem iq7 (v : Value) (i : Nat) : kd (field v i) := by
  refine aq7 (nqe v) fun x => ?_
  split <;> exact True.intro
theorem gqX (v : Value) (i : Nat) (x : Value) : kd (setField v i x) := by
  cases v <;> first | exact True.intro | skip
  refine aq7 (fun _ => True.intro) fun o => ?_
  split
  · split
    · refine ⟨fun o => ?_, True.intro⟩
      unfold Obj.mapFields
      first | rfl | (split <;> rfl) | (cases o; rename_i d _; cases d <;> rfl)
    · exact True.intro
  · exact True.intro
theorem gqb (e : Value) (f : Option Addr) : kd (setFlight e f) := by
  refine aq7 (iq7 e 1) fun tb => ?_
  try dsimp only
  split
  · exact gqX _ _ _
  · exact True.intro
theorem gqR : ∀ l : List Env, kd (readyFrames l)
  | [] => True.intro
  | env :: outer => by
    unfold readyFrames
    split
    · refine aq7 (fun _ => True.intro) fun o => ?_
      try dsimp only
      split
      · exact True.intro
      · refine aq7 ?_ fun im => ?_
        · unfold behindIsImport
          try dsimp only
          split
          · exact True.intro
          · split
            · exact True.intro
            · exact aq7 (iq7 _ _) fun _ => True.intro
        · refine aq7 ?_ fun bk => ?_
          · unfold keptBack
            split
            · split
              · exact True.intro
              · exact aq7 (aq7 (fun _ => True.intro) fun _ => True.intro) fun _ => by split <;> exact True.intro
            · exact True.intro
          · exact aq7 ⟨fun _ => rfl, True.intro⟩ fun _ => gqR outer
    · exact True.intro
theorem oqK (env : Env) : kd (PySem.frameOf env) := by
  unfold PySem.frameOf
  refine aq7 (aq7 (fun _ => True.intro) fun _ => True.intro) fun l => aq7 ?_ fun r => ?_
  · unfold frameObject
    split
    · exact True.intro
    · exact aq7 (gqR _) fun _ => True.intro
  · split <;> exact True.intro
theorem mqj (ty : String) (vs : List Value) : kd (newFields ty vs) := by
  unfold newFields newObj newObjAsIs
  try dsimp only
  split
  · exact True.intro
  · exact fun _ => True.intro
theorem iqx (e : Value) (env : Env) : kd (noteFrame e env) := by
  unfold noteFrame
  split
  · refine aq7 (iq7 e 1) fun hd => ?_
    try dsimp only
    have rest : ∀ (x : Unit) (f : Addr) (hd : Value), kd (do setField e 1 (← EntryCells.newEntry hd (← PySem.frameOf env) .none (rawInt f) .none (← entryPlaceOf f (hd != .none))) : Sem Unit) := fun _ f hd => by
      refine aq7 (oqK env) fun _ => aq7 ?_ fun _ => aq7 ?_ fun _ => gqX _ _ _
      · unfold entryPlaceOf
        refine aq7 (fun _ => True.intro) fun acts => ?_
        split <;> exact True.intro
      · unfold EntryCells.newEntry
        exact mqj _ _
    split
    · refine aq7 (iq7 _ _) fun g => ?_
      try dsimp only
      split
      · exact True.intro
      · exact aq7 (gqX _ _ _) fun _ => rest () _ _
    · exact rest () _ _
  · exact True.intro
theorem kq4 (env : Env) (e : Value) : kd (leaving env e) := aq7 (iqx e env) fun _ => gqb e none
end L2
namespace L2
open PySem PySem.Spec PySem.W PySem.Calls PyProof.Rows PySem.Builtin PySem.Builtin.ObjectAttr
def errTail : List Value → Bool
  | .ref _ :: r => errTail r
  | l => l == vErr
theorem kq8 (self : Value) : ∀ {l : List Value}, errTail l = true → refuseLoop self "__setattr__" l = pure ()
  | [], e => by cases e
  | v :: r, e => by
    cases v <;> first | (rw [refuseLoop_ref]; exact kq8 self (by unfold errTail at e; exact e)) | (rw [show (_ :: r) = vErr from beq_iff_eq.mp e]; exact PySem.F.store_ValueError.passes self)
theorem qqR : ∀ {l : List Value}, errTail l = true → l.contains (.type "object") = true
  | [], e => by cases e
  | v :: r, e => by
    cases v <;> first | (rw [List.contains_cons, qqR (l := r) (by unfold errTail at e; exact e), Bool.or_true]) | (rw [show (_ :: r) = vErr from beq_iff_eq.mp e]; decide +kernel)
def overErr (K : Frag) (C : Addr) : Bool := (clsIn K C).any fun cd => errTail cd.mro
section
variable {prog : Program} {w : World} {A : Around} {E : Value → Shared → Prop} {s : Shared} {K : Frag} {x C : Addr} {name : Str} {v : Value} {ox : Obj} {od : Option Obj}
theorem uqn {tk : Tok} {R : Result → Shared → Prop} (X : K.In s.heap) (I : PySem.W.InstAt s.heap x ox C od) (hp : overErr K C = true) (ht : takerIn K C name = some none)
    (h : ∀ b, wpAny (model prog w) A.in1 (storeInOwnDict (.ref x) (.ref C) (.str name tk) name v b)
      (fun fin s' => match fin with | .done f => R (.ok f) s' | .again c' => c'.quiet = true ∧ codeAny (model prog w) A c' R s') (fun e s' => R (.error e) s') s) :
    codeAny (model prog w) A (.call (.builtin "object.__setattr__") ⟨[.ref x, .str name tk, v], []⟩) R s := by
  have SF := PySem.F.store_object
  obtain ⟨cd, hc, ho⟩ := any_some hp
  have ne : cd.mro.isEmpty = false := by cases q : cd.mro with | nil => rw [q] at ho; cases ho | cons _ _ => rfl
  have sub : Looks (model prog w) s.heap (isInstance (.ref x) (.type "object")) true := I.type.andThen (looks_mroIn X (by unfold mroIn; rw [hc, Option.bind_some, if_neg (by rw [ne]; decide), qqR ho]))
  refine codeAny_call_builtin SF.slot.plain SF.entry (@check_slot (model prog w) _ _ s "object.__setattr__" "object" "__setattr__" (.ref x) [.str name tk, v] [] _ SF.kind SF.split sub (SF.args (.ref x) (.str name tk) v) ?_)
  obtain ⟨attr, ha, hr⟩ := Option.bind_eq_some_iff.mp ht
  have hm : Looks (model prog w) s.heap (mroOf (.ref C)) cd.mro := (looks_clsIn X hc).andThen .now
  have L3 : Looks (model prog w) s.heap (storeTaker? attr) none := by
    cases attr with
    | none => exact .now
    | some a =>
      obtain ⟨b, hb, hbn⟩ := Option.map_eq_some_iff.mp hr
      refine (looks_takesIn X hb).andThen ?_
      cases b with
      | true => cases hbn
      | false => exact .now
  rw [osa_eq, refuse_eq]
  refine wpAny_bind (wpAny_bind (I.type.here (wpAny_bind (hm.here ?_))))
  rw [kq8 _ ho]
  refine wpAny_pure (wpAny_bind (I.type.here (wpAny_bind ((looks_findIn X ha).here (wpAny_bind (L3.here ?_))))))
  exact h _
theorem tqZ {Q : Unit → Shared → Prop} (X : K.In s.heap) (hx : s.heap.get? x = some ox) (hc : ox.cls = .ref C) (hd : ox.dict = none) (hn : notCls ox = true)
    (hs : findIn K (.ref C) "__setattr__" = some (some (.builtin "object.__setattr__"))) (hp : overErr K C = true) (ht : takerIn K C name = some none) (hh : hasDictIn K C = true)
    (h : ∀ h' tk, h'.get? x = some { ox with dict := some s.heap.objs.size } → h'.Ns1 s.heap.objs.size (fun y => if y = name then some v else none) → (∀ b o, b ≠ x → s.heap.get? b = some o → h'.get? b = some o) → Q () { s with heap := h', toks := tk }) :
    wpAny (model prog w) A (setAttr (.ref x) name v) Q E s := by
  have J : PySem.W.InstAt s.heap x ox C none := ⟨hx, hc, hn, by rw [hd]; exact True.intro⟩
  refine PySem.W.set_plain X J hs (uqn (s := { s with toks := s.toks + 1 }) X J hp ht fun b => ?_)
  obtain ⟨cd, hcd, hd'⟩ := any_some hh
  obtain ⟨oc, odi, oda, osl⟩ := ox
  dsimp only at hc hd
  subst hc hd
  refine wpAny_bind (wpAny_pure (wpAny_bind (wpAny_bind (wpAny_loadPart hx (wpAny_bind (Looks.here (s := { s with toks := s.toks + 1 }) (looks_clsIn X hcd) ?_))))))
  rw [hd']
  have nc : ∀ c, oda ≠ .cls c := fun c q => by subst q; cases hn
  have hx₁ : (s.heap.push { cls := .type "dict", data := .dict #[] }).get? x = some ⟨.ref C, none, oda, osl⟩ := Heap.get?_push_of_some _ hx
  have hxs : x ≠ s.heap.objs.size := Nat.ne_of_lt (Heap.lt_size hx)
  have hgd : ((s.heap.push { cls := .type "dict", data := .dict #[] }).update x fun o => { o with dict := some s.heap.objs.size }).get? s.heap.objs.size = some { cls := .type "dict", data := .dict #[] } :=
    (Heap.get?_update_ne _ _ _ _ hxs.symm).trans (Heap.get?_push_at rfl rfl)
  have hnd : ((s.heap.push { cls := .type "dict", data := .dict #[] }).update x fun o => { o with dict := some s.heap.objs.size }).Ns s.heap.objs.size (fun _ => none) :=
    ⟨_, #[], _, hgd, rfl, fun e he => absurd he (by simp), fun _ => rfl⟩
  have fin : wpAny (model prog w) A.in1 (storeInDict s.heap.objs.size (.str name (s.toks)) name v)
      (fun fin s' => match fin with | .done f => (match (Except.ok f : Result) with | .ok (.ret _) => Q () s' | .ok _ => False | .error e => E e s') | .again c' => c'.quiet = true ∧ codeAny (model prog w) A c' (fun r s' => match r with | .ok (.ret _) => Q () s' | .ok _ => False | .error e => E e s') s') (fun e s' => E e s')
      { s with heap := ((s.heap.push { cls := .type "dict", data := .dict #[] }).update x fun o => { o with dict := some s.heap.objs.size }), toks := s.toks + 1 } := by
    unfold storeInDict newKeyGuard
    refine wpAny_bind (wpAny_pure (wpAny_bind (wpAny_nsSet1 (s := { s with heap := ((s.heap.push { cls := .type "dict", data := .dict #[] }).update x fun o => { o with dict := some s.heap.objs.size }), toks := s.toks + 1 }) (Heap.Ns1.of_empty hnd) fun h' hn' hs' => ?_)))
    obtain ⟨oD, esD, epD, hoD, hdD, hcD⟩ := hn'.count (Within.cons name v Within.nil)
    refine wpAny_bind (wpAny_lookBehind hoD (by rw [hdD]; exact pastItsLine_dict (Nat.le_trans hcD (by rw [List.length_cons, List.length_nil, sizeLine_eq]; omega))) ?_)
    refine wpAny_pure (h h' _ ?_ hn' fun b o hb e => ?_)
    · refine (hs'.2 x hxs).trans (Heap.get?_update_self _ hx₁ ?_)
      have hfr := (Heap.get?_some_iff.mp hx).2
      cases oda <;> first | rfl | exact hfr
    · exact (hs'.2 b (Nat.ne_of_lt (Heap.lt_size e))).trans ((Heap.get?_update_ne _ _ _ _ hb).trans (Heap.get?_push_of_some _ e))
  cases oda <;> first | exact absurd rfl (nc _) | exact wpAny_bind (wpAny_alloc' (wpAny_bind (wpAny_update' hx₁ (wpAny_pure fin))))
end
end L2
namespace L2
open PySem PySem.Spec PySem.W PySem.Calls PyProof.Rows
def excInI (K : Frag) (C : Addr) (bmB : List Value) (newId : String) (fI : Addr) : Bool := match K.lookup C with
  | some ⟨.type "type", _, .cls cd, sl⟩ => (match cd.mro, sl.toList with
    | .ref C' :: bm, [_, _, _, _, some (.builtin n), _] => C' == C && n == newId && !cd.hasDel && tailIn K bmB bm && nsOkIn K cd.ns && nsIn K cd.ns "__init__" == some (some (.ref fI))
    | _, _ => false)
  | _ => false
theorem uql {K : Frag} {h : Heap} {N : Addr} {m : Str → Option Value} {n : Str} {v : Value} (X : K.In h) (G : h.Ns N m) (e : nsIn K N n = some (some v)) : m n = some v := by
  obtain ⟨o, es, ep, ho, hd, _, hf⟩ := G
  unfold nsIn at e
  split at e
  · next q =>
    have := X _ _ q
    rw [ho] at this
    cases this
    cases hd
    split at e
    · next he =>
      cases e
      rw [← hf]
      unfold nsFind findBy
      rw [← Array.find?_toList, he]
      rfl
    · split at e <;> cases e
  · cases e
theorem excObjI {K : Frag} {h : Heap} {C fI : Addr} {bb : List Value} {nid : String} (kin : K.In h) (q : excInI K C bb nid fI = true) :
    ∃ tl N nm qn bs hd sn sub ab col dd k0 k1 k2 k3 k5, h.get? C = some (excClassObj nm qn C N bs tl hd sn sub ab col dd k0 k1 k2 k3 k5 nid) ∧ (∃ mN, h.Ns N mN ∧ mN "__init__" = some (.ref fI)) ∧ OwnTail h bb tl := by
  unfold excInI at q
  split at q
  · next dd cd sl lk =>
    split at q
    · next C2 tl a0 a1 a2 a3 nn a5 hmro hsl =>
      simp only [beq_iff_eq, Bool.and_eq_true, Bool.not_eq_true'] at q
      obtain ⟨⟨⟨⟨⟨e1, e2⟩, e3⟩, e4⟩, e5⟩, e6⟩ := q
      subst e1 e2
      obtain ⟨nm, bs, mro, ns, qn, hd, sn, sub, ab, col, del⟩ := cd
      simp only at hmro e3 e5 e6
      subst hmro e3
      obtain rfl : sl = #[a0, a1, a2, a3, some (.builtin nn), a5] := by
        obtain ⟨l⟩ := sl
        exact congrArg Array.mk hsl
      exact ⟨tl, ns, nm, qn, bs, hd, sn, sub, ab, col, dd, a0, a1, a2, a3, a5, kin _ _ lk, ⟨_, .of_isNs (isNs_of_in kin e5), uql kin (.of_isNs (isNs_of_in kin e5)) e6⟩, tail_of_in kin e4⟩
    · cases q
  · cases q
abbrev newExc (C t : Addr) : Obj := { cls := .ref C, data := .fields #[.ref t, .none, .none, .none, .bool false, .none] }
abbrev newTup (vs : List Value) : Obj := { cls := .type "tuple", data := .seq vs.toArray }
section
variable {prog : Program} {w : World} {A : Around} {E : Value → Shared → Prop} {h : Heap} {g : Array GenState} {d : Drawn} {t : Nat} {os : OsState}
variable {nm q : Str} {C N : Addr} {bs bm bmB : List Value} {hdct : Bool} {sn : List Str} {sub : List Value} {ab : Bool} {col : Option Bool} {dd : Option Addr} {k0 k1 k2 k3 k5 : Option Value} {B newId initId : String}
theorem kqF (F : ExcBaseFacts B newId initId bmB) (T : OwnTail h bmB bm) {mN : Str → Option Value} {rest : List Value} {fI : Addr} {oI : Obj} {Q : Fin → Shared → Prop}
    (hC : h.get? C = some (excClassObj nm q C N bs bm hdct sn sub ab col dd k0 k1 k2 k3 k5 newId)) (hn : h.Ns N mN) (hi : mN "__init__" = some (.ref fI))
    (hfI : h.get? fI = some oI) (hfc : oI.cls = .type "function")
    (hq : wpAny (model prog w) A (call (.ref fI) (.ref (h.objs.size + 1) :: rest)) (fun r s' => r = .none ∧ Q (.done (.ret (.ref (h.objs.size + 1)))) s') E ⟨(h.push (newTup rest)).push (newExc C h.objs.size), g, d, t, os⟩) (hrest : rest.length ≤ sizeLine) :
    wpAny (model prog w) A (Builtin.«type.__call__» ⟨.ref C :: rest, []⟩) Q E ⟨h, g, d, t, os⟩ := by
  repeat (first | with_reducible refine wpAny_loadPart_at hC ?_ | with_reducible refine wpAny_madeBy_exc hC ?_ | wp_step)
  refine codeAny_call_builtin_code (Code.quiet_builtin _ F.quiet) (wpAny_check_new_subU F F.hasB T hC ?_)
  refine codeAny_exc_new_subU F F.hasB F T hC ?_ hrest
  show wpAny _ _ _ _ _ _
  have kp : ∀ b o, h.get? b = some o → ((h.push (newTup rest)).push (newExc C h.objs.size)).get? b = some o := fun b o e => Heap.get?_push_of_some _ (Heap.get?_push_of_some _ e)
  have hC₁ := kp _ _ hC
  have hfI₁ := kp _ _ hfI
  have hn₁ : ((h.push (newTup rest)).push (newExc C h.objs.size)).Ns N mN := hn.keeps kp
  have hget : ((h.push (newTup rest)).push (newExc C h.objs.size)).get? (h.objs.size + 1) = some (newExc C h.objs.size) := by heap_get
  have hcC : (Value.ref C :: bm).contains (.ref C) = true := by simp
  have T₁ := T.keeps kp
  unfold isInstance
  repeat (first | with_reducible refine wpAny_loadPart_at hget ?_ | (with_reducible refine wpAny_isSubtype_exc hC₁ ?_; rw [hcC]) | wp_step)
  show wpAny _ _ (typeLookup (.ref C) _) _ _ _
  refine wpAny_typeLookup_tail hC₁ hn₁ T₁ F.mroIs F.init.lookup ?_
  rw [hi]
  refine wpAny_holding (wpAny_bind ?_)
  unfold bindSpecial
  refine wpAny_bind (wpAny_typeOf (T := "function") ⟨_, hfI₁, hfc⟩ ?_)
  rw [if_pos (by decide)]
  refine wpAny_pure (wpAny_bind (wpAny_mono hq (fun r s' hr => ?_) fun _ _ x => x))
  obtain ⟨rfl, hQ⟩ := hr
  wp_walk
  exact hQ
theorem qqw (F : ExcBaseFacts B newId initId bmB) (T : OwnTail h bmB bm) {mN : Str → Option Value} {rest : List Value} {fI : Addr} {oI : Obj} {Q : Value → Shared → Prop}
    (hC : h.get? C = some (excClassObj nm q C N bs bm hdct sn sub ab col dd k0 k1 k2 k3 k5 newId)) (hn : h.Ns N mN) (hi : mN "__init__" = some (.ref fI))
    (hfI : h.get? fI = some oI) (hfc : oI.cls = .type "function")
    (hq : wpAny (model prog w) (A.under (.builtin "type.__call__" ⟨.ref C :: rest, []⟩)) (call (.ref fI) (.ref (h.objs.size + 1) :: rest)) (fun r s' => r = .none ∧ Q (.ref (h.objs.size + 1)) s') E ⟨(h.push (newTup rest)).push (newExc C h.objs.size), g, d, t, os⟩) (hrest : rest.length ≤ sizeLine) :
    wpAny (model prog w) A (call (.ref C) rest) Q E ⟨h, g, d, t, os⟩ := by
  have f1 := tc_lookup
  have f2 := tc_bind (.ref C)
  have hT : (⟨h, g, d, t, os⟩ : Shared).TypeIs (.ref C) "type" := ⟨_, hC, rfl⟩
  refine wpAny_call (codeAny_of_tree ?_)
  show wpAny _ _ (callAny (.ref C) _) _ _ _
  repeat (any_goals (first | assumption | with_reducible refine wpAny_loadPart_at hC ?_ | wp_step))
  refine ⟨rfl, ?_⟩
  exact codeAny_call_builtin_at (Code.quiet_builtin _ (by decide +kernel)) entry_typeCall (wpAny_check_type_call_sub hC (kqF (hrest := hrest) F T hC hn hi hfI hfc hq))
theorem lqJ {M : Model} {s : Shared} {env : Env} {x : Sem Value} {Q : Flow → Shared → Prop} (hbase : bm.contains (.type "BaseException") = true) (hh : A.handled = none)
    (h : wpAny M A x (fun v s₁ => ∃ e t dx sl, v = .ref e ∧ s₁.heap.get? C = some (excClassObj nm q C N bs bm hdct sn sub ab col dd k0 k1 k2 k3 k5 newId) ∧
      s₁.heap.get? e = some ⟨.ref C, dx, .fields #[.ref t, .none, .none, .none, .bool false, .none], sl⟩ ∧ E (.ref e) s₁) E s) :
    wpAny M A (raiseStmt env (some x) none) Q E s := by
  have hcB : (Value.ref C :: bm).contains (.type "BaseException") = true := by rw [List.contains_cons, hbase, Bool.or_true]
  unfold raiseStmt
  refine wpAny_bind (wpAny_mono h (fun v s₁ h₁ => ?_) fun _ _ x => x)
  obtain ⟨e, t, dx, sl, rfl, hC, he, hE⟩ := h₁
  obtain ⟨hp, g, d, tk, os⟩ := s₁
  repeat (first | with_reducible refine wpAny_loadPart_at he ?_ | with_reducible refine wpAny_loadPart_at hC ?_ | (with_reducible refine wpAny_isSubtype_exc hC ?_; rw [hcB]) | wp_step)
  exact wpAny_raiseNew_none hh hE
end
end L2
namespace L2
open PySem PySem.Spec PySem.W PySem.Calls PyProof.Rows
def exNew (e C : Addr) : HO := .ext fun h => ∃ t sl, h.get? e = some ⟨.ref C, none, .fields #[.ref t, .none, .none, .none, .bool false, .none], sl⟩
def exSet (e C d : Addr) : HO := .ext fun h => ∃ t sl, h.get? e = some ⟨.ref C, some d, .fields #[.ref t, .none, .none, .none, .bool false, .none], sl⟩
def exC (a C : Addr) (d : Option Addr) : HO := .ext fun h => ∃ o, h.get? a = some o ∧ o.cls = .ref C ∧ (∀ x, d = some x → o.dict = some x) ∧ notCls o = true
structure ExSt (K : Frag) (C : Addr) (f : Str) : Prop where
  sa : findIn K (.ref C) "__setattr__" = some (some (.builtin "object.__setattr__"))
  po : overErr K C = true
  na : findIn K (.ref C) f = some none
  hd : hasDictIn K C = true
def sFldE (K : Frag) (ta tv : TE) (f : Str) : TS := fun D σ H => tv σ H fun y H1 => ta σ H1 fun x H2 => ∃ a C, x = .ref a ∧ H2 a = some (exNew a C) ∧ ExSt K C f ∧ ∀ d, H2 d = none → D.nx σ (upd (upd H2 a (exSet a C d)) d (.xd [(f, y)]))
section
variable {X : Cx} {ta tv : TE} {o value : Expr} {f : Str} {pos pos' : Pos}
theorem tqk (ha : PE X o ta) (hv : PE X value tv) (hs : swapsWith value (some (.Attribute o f pos')) pos.line X.env = pure false) : PS X (.Assign [.Attribute o f pos'] value pos) (sFldE X.K ta tv f) := by
  intro pins s σ H D I h
  refine plainObj_wpAny_Assign_Attribute (thn (hv pins s σ H _ I h) fun u s1 ⟨y, H1, I1, ry, q⟩ => thn (ha pins s1 σ H1 _ I1 q) fun ov s2 ⟨x, H2, I2, rx, a, C, ex, ea, c, q2⟩ => ?_) hs
  subst ex
  obtain rfl : ov = Value.ref a := rx
  obtain ⟨⟨t, sl, hx⟩, _, _⟩ := I2.hok a _ ea
  refine tqZ I2.kIn hx rfl rfl rfl c.sa c.po (NoAttr.taker (show NoAttr X.K C f from c.na)) c.hd fun h' tk e1 e2 e3 => ?_
  have hd : H2 s2.heap.objs.size = none := I2.hok.fresh (Nat.le_refl _)
  have na : ∀ b u, H2 b = some u → u ≠ exNew a C → b ≠ a := fun b u q n z => by subst z; rw [ea] at q; exact n (Option.some.inj q).symm
  have nd : ∀ b u, s2.heap.get? b = some u → b ≠ s2.heap.objs.size := fun b u q => Nat.ne_of_lt (Heap.lt_size q)
  have nf : ∀ b, H2 b = none → b ≠ a := fun b q z => by subst z; rw [ea] at q; cases q
  have ndh : ∀ b u, H2 b = some u → b ≠ s2.heap.objs.size := fun b u q => aqr q hd
  refine ⟨σ, upd (upd H2 a (exSet a C s2.heap.objs.size)) s2.heap.objs.size (.xd [(f, y)]), I2.un (t' := tk) ⟨fun b ob q n _ _ => e3 b ob (nf b n) q, fun b ob q n _ _ => ⟨ob.slots, e3 b ob (nf b n) q⟩, fun b ob q n _ => ?_, fun b ob q _ => ?_, fun b xs q => ?_, fun b ob u q => ?_, fun b ps q => ?_⟩ (fun b u q => ?_), q2 _ hd⟩
  · rw [aqu (nd b ob q), aqu (nf b n)]; exact n
  · by_cases z : b = a
    · subst z; exact ⟨_, e1⟩
    · exact ⟨ob, e3 b ob z q⟩
  · rw [aqu (ndh b _ q), aqu (na b _ q (by intro z; cases z))]; exact q
  · rw [aqu (ndh b _ q), aqu (na b _ q (by intro z; cases z))]; exact q
  · exact ⟨#[], by rw [aqu (ndh b _ q), aqu (na b _ q (by intro z; cases z)), Array.append_empty]; exact q⟩
  · by_cases zd : b = s2.heap.objs.size
    · subst zd
      rw [aql] at q
      cases q
      refine ⟨_, e2, fun g => ?_⟩
      by_cases z : g = f
      · subst z
        rw [if_pos rfl]
        simp only [List.lookup, beq_self_eq_true]
        exact ry
      · rw [if_neg z]
        simp only [List.lookup, beq_eq_false_iff_ne.mpr z]
        exact True.intro
    · rw [aqu zd] at q
      by_cases za : b = a
      · subst za
        rw [aql] at q
        cases q
        exact ⟨⟨t, sl, e1⟩, ⟨_, e1⟩, fun h1 h2 ⟨t, sl, z⟩ k => ⟨t, sl, k _ z⟩⟩
      · rw [aqu za] at q
        refine (I2.hok b u q).stay (fun c v hc z => e3 c v ?_ z) (fun c z => ?_) fun c xs z => ?_
        · rcases hc with rfl | hc
          · exact za
          · exact na c _ hc (by intro z; cases z)
        · rw [aqu (ndh c _ z), aqu (na c _ z (by intro z; cases z))]; exact z
        · rw [aqu (ndh c _ z), aqu (na c _ z (by intro z; cases z))]; exact z
theorem uqp {K : Frag} {D : Ends} {σ : St} {H : Hp} : sFldE K ta tv f D σ H ↔ tv σ H fun y H1 => ta σ H1 fun x H2 => ∃ a C, x = .ref a ∧ H2 a = some (exNew a C) ∧ ExSt K C f ∧ ∀ d, H2 d = none → D.nx σ (upd (upd H2 a (exSet a C d)) d (.xd [(f, y)])) := Iff.rfl
end
end L2
namespace L2
open PySem PySem.Spec PySem.W PySem.Calls PyProof.Rows
def forget (H : Hp) (a : Addr) : Hp := fun b => if b = a then none else H b
theorem nqK {H : Hp} {a : Addr} : forget H a a = none := if_pos rfl
theorem cq3 {H : Hp} {a b : Addr} (h : b ≠ a) : forget H a b = H b := if_neg h
structure FlownN (P : Program) (w : World) (base : Heap) (outer : List Env) (H : Hp) (s : Shared) (a t C : Addr) (d : Option Addr) (B : Heap) (H' : Hp) (s' : Shared) : Prop where
  f : Flown P w base outer H s a t C B H' s'
  dc : ∀ x, d = some x → ∃ oe, s'.heap.get? a = some oe ∧ oe.dict = some x
def CXN (P : Program) (w : World) (base : Heap) : CXT := fun outer H s E e s' => ∃ (a t C : Addr) (d : Option Addr) (B : Heap) (H' : Hp), e = .ref a ∧ E (.ref C) d H' ∧ FlownN P w base outer H s a t C d B H' s'
theorem Inv.xe {X : Cx} {pins : List (Addr × Obj)} {σ : St} {H : Hp} {s : Shared} (y : Value → Shared → Prop) (I : Inv X pins σ H s) : Inv { X with xe := y } pins σ H s :=
  ⟨⟨I.ok.mod, I.ok.kind, I.ok.glob, I.ok.blt, I.ok.above, I.ok.inj, I.ok.has, I.ok.cab, I.ok.hd, I.ok.frames, I.ok.stk, I.ok.exf, I.ok.bs, I.ok.bsz, I.ok.noex, I.ok.exfs, I.ok.funs, I.ok.frf⟩, I.os, I.bare, I.base, I.loc, I.cell, I.free, I.freeC, I.pin, I.hok, I.len⟩
section
variable {P : Program} {w : World} {K : Frag} {mg : Str → Option Value} {base : Heap} {N : List Str} {qual : Str} {scope : Scope} {f : Addr} {cd : Value} {A : Around} {outer : List Env} {s : Shared} {H : Hp} {E : XK}
theorem aqJ : Passes (CXN P w base) (cxOf (CXN P w base) P w K mg base N qual scope f cd A outer s H E) E := by
  intro pins σ H1 s1 e s2 I hq
  obtain ⟨a, t, C, d, B, H2, rfl, hE, W⟩ := hq
  have I' : Inv (cxOf (CXE P w base) P w K mg base N qual scope f cd A outer s H fun c _ H' => E c d H') pins σ H1 s1 := I.xe _
  have z := qqG (E := fun c _ H' => E c d H') pins σ H1 s1 (.ref a) s2 I' ⟨a, t, C, B, H2, rfl, hE, W.f⟩
  refine wpAny_mono (hqn (kq4 _ _) z) (fun _ s3 ⟨⟨a', t', C', B', H', ea, hE', W'⟩, sd⟩ => ?_) fun _ _ z => z.elim
  cases ea
  refine ⟨a, t', C', d, B', H', rfl, hE', W', fun x hx => ?_⟩
  obtain ⟨oe, ho, hd⟩ := W.dc x hx
  obtain ⟨ob, hob, _⟩ := W'.fly.there
  exact ⟨ob, hob, (sd.get ho hob).trans hd⟩
def Raises1 (X : Cx) (E : XK) : Prop := ∀ (pins : List (Addr × Obj)) (σ : St) (H : Hp) (s : Shared) (a C d : Addr), Inv X pins σ H s → H a = some (exSet a C d) → X.s₀.heap.objs.size ≤ a → E (.ref C) (some d) (forget H a) → X.xe (.ref a) s
theorem eqh : Raises1 (cxOf (CXN P w base) P w K mg base N qual scope f cd A outer s H E) E := by
  intro pins σ H1 s1 e C d I ha hsz hE
  have hf : (envOfC qual scope s.heap.objs.size f cd).frame = some s.heap.objs.size := rfl
  have stk : s1.heap.FunFrames base (envOfC qual scope s.heap.objs.size f cd :: outer) := I.stack
  have stf : ∀ b ∈ frs (envOfC qual scope s.heap.objs.size f cd :: outer), H1 b = none := I.stkFree
  have ib : Un (frs outer) [] H H1 s.heap s1.heap := I.base
  obtain ⟨⟨t, sl, he⟩, _, _⟩ := I.hok e _ ha
  have hsz' : s.heap.objs.size ≤ e := hsz
  have nde : ∀ b o, s.heap.get? b = some o → b ≠ e := fun b o q => Nat.ne_of_lt (Nat.lt_of_lt_of_le (Heap.lt_size q) hsz')
  have ne : ∀ b o, s.heap.get? b = some o → b ∉ frs outer → b ∉ e :: frs (envOfC qual scope s.heap.objs.size f cd :: outer) := fun b o q n z => by
    rcases List.mem_cons.mp z with z | z
    · exact nde b o q z
    · rcases (hqN hf).mp z with z | z
      · exact absurd (Heap.lt_size q) (by rw [z]; exact Nat.lt_irrefl _)
      · exact n z
  have eN : e ∉ frs (envOfC qual scope s.heap.objs.size f cd :: outer) := fun z => by rw [stf e z] at ha; cases ha
  show wpAny (model P w) (A.deeper (envOfC qual scope s.heap.objs.size f cd)) (leaving (envOfC qual scope s.heap.objs.size f cd) (.ref e)) _ _ _
  have kB : Heap.StaysIn (hideAll s1.heap (e :: frs (envOfC qual scope s.heap.objs.size f cd :: outer))) s1.heap := fun b o q => of_hideAll _ q
  refine wpAny_mono (hqn (kq4 _ _) (wpAny_leaving_firstW (E := fun _ _ => False) (Q := fun _ s3 => ∃ h', s3 = { s1 with heap := h' } ∧ Heap.LeftW (hideAll s1.heap (e :: frs (envOfC qual scope s.heap.objs.size f cd :: outer))) (envOfC qual scope s.heap.objs.size f cd :: outer) e (.ref C) (.ref t) s1.heap h')
    (base := hideAll s1.heap (e :: frs (envOfC qual scope s.heap.objs.size f cd :: outer))) (oe := ⟨.ref C, some d, .fields #[.ref t, .none, .none, .none, .bool false, .none], sl⟩) (a0 := .ref t) I.ok.frames
    (funFrames_hide stk fun env he b hb => List.mem_cons_of_mem _ (List.mem_filterMap.mpr ⟨env, he, hb⟩)) hf he kB (hideAll_none _ (.head _)) rfl rfl rfl fun h' L => ⟨h', rfl, L⟩)) (fun _ s3 ⟨⟨h2, es3, L⟩, sd⟩ => ?_) fun _ _ z => z.elim
  subst es3
  obtain ⟨x1, ⟨_, _, x2⟩, x3, x4⟩ := L
  have keepB : ∀ b o, s.heap.get? b = some o → H b = none → b ∉ frs outer → (hideAll s1.heap (e :: frs (envOfC qual scope s.heap.objs.size f cd :: outer))).get? b = some o := fun b o q n nf =>
    hideAll_get _ (ib.keep b o q n nf (by simp)) (ne b o q nf)
  have thB : ∀ b o, s.heap.get? b = some o → b ∉ frs outer → ∃ o', (hideAll s1.heap (e :: frs (envOfC qual scope s.heap.objs.size f cd :: outer))).get? b = some o' := fun b o q nf => by
    obtain ⟨o', z⟩ := ib.there b o q (by simp)
    exact ⟨o', hideAll_get _ z (ne b o q nf)⟩
  have slotF : ∀ b, b ∈ frs outer → ∀ o, s1.heap.get? b = some o → ∃ sl, h2.get? b = some { o with slots := sl } := fun b hb o q => by
    obtain ⟨_, o2, q2, nd⟩ := stk.mem ((hqN hf).mpr (.inr hb))
    rw [q] at q2
    cases q2
    exact x4 b o q nd
  have fly : Heap.FlyingW (hideAll s1.heap (e :: frs (envOfC qual scope s.heap.objs.size f cd :: outer))) outer e (.ref C) (.ref t) h2 := ⟨x1, hideAll_none _ (.head _), x2, x3⟩
  have nee : ∀ b u, H1 b = some u → u ≠ exSet e C d → b ≠ e := fun b u q n z => by subst z; rw [ha] at q; exact n (Option.some.inj q).symm
  refine ⟨e, t, C, some d, _, forget H1 e, rfl, hE, ⟨I.os, I.bare, fun b o q => ?_, fly, fun a u q => ?_, ⟨fun b o q n nf _ => x1 b o (keepB b o q n nf), fun b o q n hb _ => ?_, fun b o q n hx => ?_, fun b o q _ => ?_, fun b xs q => ?_, fun b o u q => ?_, fun b ps q => ?_⟩, keepB, thB⟩, fun x hx => ?_⟩
  · refine hideAll_get _ (I.bk b o q) fun z => ?_
    rcases List.mem_cons.mp z with z | z
    · exact absurd (Nat.lt_of_lt_of_le (Heap.lt_size q) (Nat.le_trans I.ok.bsz hsz')) (by rw [z]; exact Nat.lt_irrefl _)
    · rw [(stk.mem z).1] at q; cases q
  · by_cases z : a = e
    · subst z; rw [nqK] at q; cases q
    · rw [cq3 z] at q
      refine (I.hok a u q).stay (fun b v hb y => hideAll_get _ y fun m => ?_) (fun b y => ?_) fun b xs y => ?_
      · rcases List.mem_cons.mp m with m | m
        · rcases hb with rfl | hb
          · exact z m
          · exact nee b _ hb (by intro y; cases y) m
        · have := stf b m
          rcases hb with rfl | hb
          · rw [q] at this; cases this
          · rw [hb] at this; cases this
      · rw [cq3 (nee b _ y (by intro y; cases y))]; exact y
      · rw [cq3 (nee b _ y (by intro y; cases y))]; exact y
  · obtain ⟨sl, z⟩ := ib.slot b o q n hb (by simp)
    obtain ⟨sl', z'⟩ := slotF b hb _ z
    exact ⟨sl', z'⟩
  · rw [cq3 (nde b o q)]
    exact ib.free b o q n hx
  · by_cases hb : b ∈ frs outer
    · obtain ⟨o', z⟩ := ib.there b o q (by simp)
      obtain ⟨sl', z'⟩ := slotF b hb _ z
      exact ⟨_, z'⟩
    · obtain ⟨o', z⟩ := thB b o q hb
      exact ⟨o', x1 b o' z⟩
  · have z := ib.tups b xs q
    rw [cq3 (nee b _ z (by intro y; cases y))]; exact z
  · have z := ib.frzs b o u q
    rw [cq3 (nee b _ z (by intro y; cases y))]; exact z
  · obtain ⟨m, z⟩ := ib.tbls b ps q
    exact ⟨m, by rw [cq3 (nee b _ z (by intro y; cases y))]; exact z⟩
  · cases hx
    obtain ⟨ob, hob, _⟩ := fly.there
    exact ⟨ob, hob, sd.get he hob⟩
end
end L2
namespace L2
open PySem PySem.Spec PySem.W PySem.Calls PyProof.Rows
structure Mk1 (K : Frag) (C f : Addr) : Prop where
  ex : excInI K C vErr vNew f = true
  fn : isFn K (.ref f) = true
  kp : keepIn K (.ref C) = true
def tRaise1 (E : XK) (C : Addr) (sp : Sp) (t : TA) : TS := fun _ σ H => t σ H fun vs H1 => ∀ a, H1 a = none → sp (.ref a :: vs) (upd H1 a (exNew a C)) (fun v H2 => v = .non ∧ ∃ d, H2 a = some (exSet a C d) ∧ E (.ref C) (some d) (forget H2 a)) E0
theorem pqL {E : XK} {C : Addr} {sp : Sp} {t : TA} {D : Ends} {σ : St} {H : Hp} : tRaise1 E C sp t D σ H ↔ t σ H fun vs H1 => ∀ a, H1 a = none → sp (.ref a :: vs) (upd H1 a (exNew a C)) (fun v H2 => v = .non ∧ ∃ d, H2 a = some (exSet a C d) ∧ E (.ref C) (some d) (forget H2 a)) E0 := Iff.rfl
theorem eq5 {X : Cx} {x : Str} {C f : Addr} {E : XK} {CX : CXT} {k : Nat} {fd : FuncData} {ps : List Str} {sp : Sp} {np cpos pos : Pos} {e : Expr} {t : TA}
    (hx : Raises1 X E) (hg : Gl X x) (hm : X.mg x = some (.ref C)) (M : Mk1 X.K C f) (F : FnOk X.prog X.w X.K X.mg X.base CX k f fd ps sp) (hr : Room (k + 1) X.A) (hb : Binds X.K fd ps []) (hps : ps.length = 2) (h0 : Passes CX X E0) (hcalm : X.calm = true) (ha : PA X [e] t)
    (hdb : (x == ("__debug__" : Str)) = false := by decide) (he : starEach [e] X.env = (false, eval e X.env) :: starEach [] X.env := by rfl) (hpl : (backTo cpos (starEach [] X.env)).any (·.1) = false := by rfl) :
    PS X (.Raise (some (.Call (.Name x np) [e] [] cpos)) none pos) (tRaise1 E C sp t) := by
  intro pins s σ H D I h
  obtain ⟨tl, N, nm, qn, bs, hd', sn, sub, ab, col, dd, k0, k1, k2, k3, k5, hC, ⟨mN, hN, hni⟩, T⟩ := excObjI I.ok.mod.kin M.ex
  obtain ⟨oI, hoI, hcI⟩ : ∃ oI, X.base.get? f = some oI ∧ oI.cls = .type "function" := by
    have z : typeIn X.K (.ref f) = some (.type "function") := beq_iff_eq.mp M.fn
    unfold typeIn at z
    obtain ⟨o, ho, hc⟩ := Option.map_eq_some_iff.mp z
    exact ⟨o, I.ok.mod.kin _ _ ho, hc⟩
  rw [arm_exec_Raise]
  have hbase := T.hasType PySem.F.excBase_ValueError.hasBase
  refine wpAny_bind (wpAny_standAt (lqJ (C := C) (nm := nm) (q := qn) (N := N) (bs := bs) (bm := tl) (hdct := hd') (sn := sn) (sub := sub) (ab := ab) (col := col) (dd := dd) (k0 := k0) (k1 := k1) (k2 := k2) (k3 := k3) (k5 := k5) (newId := vNew) hbase (I.ok.hd hcalm) ?_))
  refine wpAny_bind (wpAny_mono (wpAny_Call_Name_kw (iqs I hg hm ?_ hdb)) (fun v s₃ h₃ => wpAny_bind (wpAny_standAt (wpAny_pure h₃))) fun _ _ x => x)
  refine callWith_K (h₀ := X.base) I.ok.mod.kin M.kp (thn (ha cpos pins s σ H _ I h) fun us s1 ⟨vs, H1, I1, r, q⟩ => ⟨I1.kIn, ?_⟩) he hpl
  rw [List.nil_append]
  obtain ⟨hh, g, dw, tk, os⟩ := s1
  have hlu : us.length ≤ sizeLine := by
    have z := F.len _ _ _ _ (q (hh.objs.size + 1) (I1.hok.fresh (Nat.le_succ _)))
    rw [List.length_cons, hps] at z
    rw [← r.length, sizeLine_eq]
    omega
  have kb : ∀ b o, X.base.get? b = some o → hh.get? b = some o := fun b o e => I1.bk b o e
  refine qqw PySem.F.excBase_ValueError (T.keeps kb) (kb _ _ hC) (hN.keeps kb) hni (kb _ _ hoI) hcI ?_ hlu
  have I2 : Inv X pins σ (upd H1 (hh.objs.size + 1) (exNew (hh.objs.size + 1) C)) ⟨(hh.push (newTup us)).push (newExc C hh.objs.size), g, dw, tk, os⟩ := by
    refine I1.laid (t' := tk) (fun b u e => Heap.get?_push_of_some _ (Heap.get?_push_of_some _ e)) (Nat.le_succ _) ?_
    have hg2 : ((hh.push (newTup us)).push (newExc C hh.objs.size)).get? (hh.objs.size + 1) = some (newExc C hh.objs.size) := by heap_get
    exact ⟨⟨_, _, hg2⟩, ⟨_, hg2⟩, fun h1 h2 ⟨t, sl, z⟩ k => ⟨t, sl, k _ z⟩⟩
  have q2 := q (hh.objs.size + 1) (I1.hok.fresh (Nat.le_succ _))
  have r2 : Vals (V.ref (hh.objs.size + 1) :: vs) (Value.ref (hh.objs.size + 1) :: us) := .cons rfl r
  have hl : (Value.ref (hh.objs.size + 1) :: us).length = ps.length := by rw [← r2.length]; exact F.len _ _ _ _ q2
  have hbb := hb ⟨(hh.push (newTup us)).push (newExc C hh.objs.size), g, dw, tk, os⟩ (Value.ref (hh.objs.size + 1) :: us) I2.kIn (by rw [List.append_nil]; exact hl)
  rw [List.append_nil] at hbb
  refine wpAny_call (codeAny_mono (F.run _ X.stack _ _ ⟨Value.ref (hh.objs.size + 1) :: us, []⟩ (Value.ref (hh.objs.size + 1) :: us) _ _ E0 (hr.make C us []) (I2.env0.make C us []) hbb r2 q2) fun r s' hq' => ?_)
  cases r with
  | error ev => exact h0 pins σ _ _ ev s' I2 hq'
  | ok fl =>
    cases fl with
    | ret u =>
      obtain ⟨v, H', I3, rv, ev, d, hd, hE⟩ := I2.after hq'
      subst ev
      obtain ⟨⟨t, sl, hx3⟩, _, _⟩ := I3.hok _ _ hd
      exact ⟨rv, _, t, some d, sl, rfl, I3.bk _ _ hC, hx3, hx pins σ H' s' _ C d I3 hd (Nat.le_trans I1.sz (Nat.le_succ _)) hE⟩
    | next => exact False.elim hq'
    | brk => exact False.elim hq'
    | cont => exact False.elim hq'
end L2
namespace L2
open PySem PySem.Spec PySem.W PySem.Calls PyProof.Rows
theorem Fun.okn {P : Program} {w : World} {K : Frag} {mg : Str → Option Value} {base : Heap} {x qual : Str} {st : Stmt} {f : Addr} {fd : FuncData} {N ps : List Str} {k : Nat} {sp : Sp} (F : Fun K x qual st f fd) (S : FnScope N ps (defScope st)) (len : ∀ vs H Q E, sp vs H Q E → vs.length = ps.length)
    (hbody : ∀ (cdv : Value) (A : Around) (outer : List Env) (s : Shared) (H : Hp) (vs : List V) (Q : VK) (E : XK), Room k (A.deeper (envOfC qual (defScope st) s.heap.objs.size f cdv)) → sp vs H Q E →
      ∃ t, PSs (cxOf (CXN P w base) P w K mg base N qual (defScope st) f cdv A outer s H E) (defBody st) t ∧ t { nx := fun _ H' => Q .non H', rt := Q } (start N vs) H) : FnOk P w K mg base (CXN P w base) (k + 1) f fd ps sp := by
  obtain ⟨oc, od, kV, doc, pm, an, cdv, ct, osl, rfl, lk, hcd⟩ := F.ex
  exact tqD lk hcd S len fun A outer s H vs Q E hr hsp => hbody cdv A outer s H vs Q E hr hsp
theorem passes0N {P : Program} {w : World} {base : Heap} {X : Cx} : Passes (CXN P w base) X E0 := fun _ _ _ _ _ _ _ ⟨_, _, _, _, _, _, _, z, _⟩ => z.elim
def TryB (X : Cx) (body : List Stmt) (t : XK → TS) : Prop := ∀ (pins : List (Addr × Obj)) (s : Shared) (σ : St) (H : Hp) (D : Ends) (Eh : XK), Inv X pins σ H s → t Eh D σ H →
  wpAny (model X.prog X.w) X.A (execs body X.env) (SP X pins D) (fun e s' => ∃ H1 s1, Inv X pins σ H1 s1 ∧ CXN X.prog X.w X.base X.stack H1 s1 Eh e s') s
def tTryCall (sp : Sp) (t : TA) : XK → TS := fun Eh D σ H => t σ H fun vs H1 => sp vs H1 (fun _ H2 => D.nx σ H2) Eh
theorem nqY {X : Cx} {k : Nat} {f : Addr} {fd : FuncData} {ps : List Str} {sp : Sp} {fx : Str} {p cpos epos : Pos} {e : Expr} {es : List Expr} {t : TA}
    (F : FnOk X.prog X.w X.K X.mg X.base (CXN X.prog X.w X.base) k f fd ps sp) (hr : Room k X.A) (hg : Gl X fx) (hm : X.mg fx = some (.ref f)) (hk : keepIn X.K (.ref f) = true) (hb : Binds X.K fd ps []) (ha : PA X (e :: es) t)
    (hx0 : ∀ e s, X.xe e s → False)
    (hdb : (fx == ("__debug__" : Str)) = false := by decide)
    (he : starEach (e :: es) X.env = (false, eval e X.env) :: starEach es X.env := by rfl) (hpl : (backTo cpos (starEach es X.env)).any (·.1) = false := by rfl)
    (hs : swapsWith (.Call (.Name fx p) (e :: es) [] cpos) none epos.line X.env = pure false := by rfl) :
    TryB X [.Expr (.Call (.Name fx p) (e :: es) [] cpos) epos] (tTryCall sp t) := by
  intro pins s σ H D Eh I h
  refine wpAny_execs_cons (wpAny_Expr_any (wpAny_Call_Name_kw (iqs I hg hm ?_ hdb)) I.quiet hs)
  refine callWith_K (h₀ := X.base) I.ok.mod.kin hk (wpAny_mono (ha cpos pins s σ H _ I h) (fun us s1 ⟨vs, H1, I1, r, q⟩ => ⟨I1.kIn, ?_⟩) fun e s1 z => (hx0 e s1 z).elim) he hpl
  have hlen : (us ++ []).length = ps.length := by rw [List.append_nil, ← r.length]; exact F.len _ _ _ _ q
  have hbb := hb s1 us I1.kIn hlen
  rw [List.append_nil] at hbb
  refine wpAny_call (codeAny_mono (F.run X.A X.stack s1 H1 ⟨us, []⟩ us vs _ _ hr I1.env0 hbb r q) fun r s2 hq => ?_)
  cases r with
  | ok fl =>
    cases fl with
    | ret u =>
      obtain ⟨v, H2, I2, rv, q2⟩ := I1.after hq
      exact wpAny_execs_nil ⟨σ, H2, I2, q2⟩
    | next => exact False.elim hq
    | brk => exact False.elim hq
    | cont => exact False.elim hq
  | error ev => exact ⟨H1, s1, I1, hq⟩
theorem Inv.sharp {X : Cx} {pins : List (Addr × Obj)} {σ : St} {H : Hp} {s : Shared} {a : Addr} {φ ψ : Heap → Prop} (I : Inv X pins σ (upd H a (.ext φ)) s) (h : ψ s.heap) (st : ∀ h1 h2 : Heap, ψ h1 → (∀ o, h1.get? a = some o → h2.get? a = some o) → ψ h2) : Inv X pins σ (upd H a (.ext ψ)) s := by
  have e : upd H a (.ext φ) a = some (.ext φ) := aql
  obtain ⟨_, ex, _⟩ := I.hok a _ e
  have := I.write (x := a) (e := a) (o := .ext ψ) (t' := s.toks) (h' := s.heap) (by rw [e]; exact True.intro) (.inl rfl) (fun b u _ q => q) ex ⟨h, ex, st⟩
  rwa [pq0] at this
def tTryN (K : Frag) (t : XK → TS) (W : Addr) (i : Nat) (tb : TS) : TS := fun D σ H => t (fun cls d H2 =>
  ∃ C, cls = .ref C ∧ subIn K (.ref C) (.ref W) = some true ∧ ∀ a, H2 a = none → tb { nx := fun σ' H' => D.nx (σ'.set i none) H', rt := D.rt } (σ.set i (some (.ref a))) (upd H2 a (exC a C d))) { nx := D.nx, rt := D.rt } σ H
theorem tql {X : Cx} {W : Addr} {x n : Str} {np hpos pos : Pos} {body : List Stmt} {b₀ : Stmt} {suite : List Stmt} {t : XK → TS} {tb : TS} {i : Nat}
    (hb : TryB X body t) (hstk : X.stack = X.env :: X.outer) (hf : X.env.frame = some X.env.locals) (hgW : Gl X x) (hmW : X.mg x = some (.ref W)) (cw : Catch X.K W)
    (nd : X.N.Nodup) (hi : X.N[i]? = some n) (hl : X.env.scope.names.lookup n = some .local) (hbd : ∀ a, PSs (X.handling (.ref a)) (b₀ :: suite) tb) (hdW : (x == ("__debug__" : Str)) = false := by decide) :
    PS X (.Try body [.ExceptHandler (some (.Name x np)) (some n) (b₀ :: suite) hpos] [] [] pos) (tTryN X.K t W i tb) := by
  intro pins s σ H D I h
  refine wpAny_Try_except (wpAny_mono (hb pins s σ H _ _ I h) (fun fl s2 q => ?_) fun ev s2 ⟨H1, s1, I1, hq⟩ => ?_)
  · cases fl with
    | next => exact wpAny_execs_nil q
    | ret u => exact q
    | brk => obtain ⟨_, _, _, q⟩ := q; exact q.elim
    | cont => obtain ⟨_, _, _, q⟩ := q; exact q.elim
  · obtain ⟨a, tt, C, d, B, H2, rfl, ⟨C', ce, hsub, hq⟩, Wn⟩ := hq
    cases ce
    have hn : H2 a = none := Wn.f.new (h5 := s.heap) (a0 := .none)
    have fl : Heap.FlyingW B (X.env :: X.outer) a (.ref C) (.ref tt) s2.heap := hstk ▸ Wn.f.fly
    have fr : X.A.frames = some (X.env :: X.outer) := hstk ▸ I1.ok.frames
    refine wpAny_mono (hqn (iqx _ _) (wpAny_looks_onW (E := fun _ _ => False) (Q := fun _ s3 => ∃ h4, s3 = { s2 with heap := h4 } ∧ Heap.HeldW B (X.env :: X.outer) a (.ref C) (.ref tt) X.env.locals h4 ∧ s2.heap.UpToSlots h4) fr hf fl fun h4 held4 sm4 => ⟨h4, rfl, held4, sm4⟩)) (fun _ s3 ⟨⟨h4, e3, held4, sm4⟩, sd4⟩ => ?_) fun _ _ z => z.elim
    subst e3
    refine wpAny_mono (hqn (gqb _ _) (wpAny_landsW (E := fun _ _ => False) (s := { s2 with heap := h4 }) (Q := fun _ s3 => ∃ h5, s3 = { s2 with heap := h5 } ∧ Heap.FlyingW B (X.env :: X.outer) a (.ref C) (.ref tt) h5 ∧ h4.UpToSlots h5) held4 fun h5 f5 sm5 => ⟨h5, rfl, f5, sm5⟩)) (fun _ s3 ⟨⟨h5, e3, f5, sm5⟩, sd5⟩ => ?_) fun _ _ z => z.elim
    subst e3
    have I5 := I1.caught Wn.f (hstk.symm ▸ f5) (sm4.trans sm5)
    refine wpAny_handleBy_cons (codeAny_handlers_test (iqs (X := X.handling (.ref a)) (I5.handling _) hgW hmW ?_ hdW)) (by intro q; cases q)
    obtain ⟨ob, hob, hoc⟩ := f5.there
    refine (nqf I5.kIn hob hoc cw hsub) _ _ _ _ (fun b o q => q) ?_
    refine codeAny_handlers_suite_as ?_
    refine wpAny_mono (hqn (gqb _ _) (lands_againW (E := fun _ _ => False) (s := { s2 with heap := h5 }) (Q := fun _ s3 => ∃ h6, s3 = { s2 with heap := h6 } ∧ Heap.FlyingW B (X.env :: X.outer) a (.ref C) (.ref tt) h6 ∧ h5.UpToSlots h6) f5 fun h6 f6 sm6 => ⟨h6, rfl, f6, sm6⟩)) (fun _ s3 ⟨⟨h6, e3, f6, sm6⟩, sd6⟩ => ?_) fun _ _ z => z.elim
    subst e3
    have I6' := I1.caught Wn.f (hstk.symm ▸ f6) ((sm4.trans sm5).trans sm6)
    obtain ⟨oe, vs6, ho6, hc6, hd6, _⟩ := f6.first
    have I6 : Inv X pins σ (upd H2 a (exC a C d)) { s2 with heap := h6 } := by
      refine I6'.sharp ⟨oe, ho6, hc6, fun y hy => ?_, by unfold notCls; rw [hd6]⟩ fun h1 h2 ⟨o, z, c⟩ k => ⟨o, k o z, c⟩
      obtain ⟨o2, z2, zd⟩ := Wn.dc y hy
      exact (((sd4.trans sd5).trans sd6).get z2 ho6).trans zd
    refine lqv (X := X.handling (.ref a)) (i := i) (v := .ref a) (I6.handling _) nd hi (.inl hl) rfl (fun s7 I7 => ?_) (.inr hl)
    refine wpAny_mono (hbd a pins s7 _ _ _ I7 (hq a hn)) (fun fl s8 q8 => ?_) fun e s8 z => z.elim
    cases fl with
    | next =>
      obtain ⟨σ', H', I', q'⟩ := q8
      exact (Inv.handled I1.ok I').goes nd hi hl fun s9 I9 => ⟨_, _, I9, q'⟩
    | ret u =>
      obtain ⟨v, σ', H', I', rv, q'⟩ := q8
      exact (Inv.handled I1.ok I').goes nd hi hl fun s9 I9 => ⟨_, _, _, I9, rv, q'⟩
    | brk =>
      obtain ⟨_, _, _, q'⟩ := q8
      exact q'.elim
    | cont =>
      obtain ⟨_, _, _, q'⟩ := q8
      exact q'.elim
theorem uqh {K : Frag} {t : XK → TS} {W : Addr} {i : Nat} {tb : TS} {D : Ends} {σ : St} {H : Hp} : tTryN K t W i tb D σ H ↔ t (fun cls d H2 =>
  ∃ C, cls = .ref C ∧ subIn K (.ref C) (.ref W) = some true ∧ ∀ a, H2 a = none → tb { nx := fun σ' H' => D.nx (σ'.set i none) H', rt := D.rt } (σ.set i (some (.ref a))) (upd H2 a (exC a C d))) { nx := D.nx, rt := D.rt } σ H := Iff.rfl
theorem pqj {sp : Sp} {t : TA} {Eh : XK} {D : Ends} {σ : St} {H : Hp} : tTryCall sp t Eh D σ H ↔ t σ H fun vs H1 => sp vs H1 (fun _ H2 => D.nx σ H2) Eh := Iff.rfl
def rIsX (K : Frag) : List V → Hp → VK → Prop := fun vs H Q => ∃ a c C d b, vs = [.ref a, c] ∧ H a = some (exC a C d) ∧ ExLook K C ∧ KitAns K H C c b ∧ Q (.bl b) H
theorem jq9 {X : Cx} {K : Frag} (hk : X.K = K) : CallR X (.builtin "isinstance") (rIsX K) := by
  subst hk
  intro pins s σ H vs us Q I rv h
  obtain ⟨a, c, C, d, b, rfl, ha, L, ans, q⟩ := h
  cases rv with
  | cons r1 rs =>
    cases rs with
    | cons r2 rn =>
      cases rn
      cases r1
      have hobj : ∃ o, s.heap.get? a = some o ∧ o.cls = .ref C := let ⟨⟨o, z, c, _⟩, _⟩ := I.hok a _ ha; ⟨o, z, c⟩
      have Z := rqA (a := a) L PySem.F.attrBase_ValueError.ga
      cases ans with
      | cls e =>
        cases r2
        exact kia_one Z I.kIn hobj e (by intro z; cases z) fun tk => ⟨.bl b, H, I.tok tk, rfl, q⟩
      | ty e =>
        cases r2
        exact kia_one Z I.kIn hobj e (by intro z; cases z) fun tk => ⟨.bl b, H, I.tok tk, rfl, q⟩
      | tup hp e =>
        cases r2
        obtain ⟨_, its, rv, ⟨oc, od, da, sl⟩, hob, hcl, n, hda⟩ := I.hok _ _ hp
        dsimp only at hcl hda
        subst hcl hda
        rw [mq1 rv] at hob
        exact kia_tup Z I.kIn hobj hob e (by intro z; cases z) fun tk => ⟨.bl b, H, I.tok tk, rfl, q⟩
theorem vqQ {K : Frag} {a : Addr} {c : V} {H : Hp} {Q : VK} : rIsX K [.ref a, c] H Q ↔ ∃ C d b, H a = some (exC a C d) ∧ ExLook K C ∧ KitAns K H C c b ∧ Q (.bl b) H :=
  ⟨fun ⟨_, _, C, d, b, e, h⟩ => by cases e; exact ⟨C, d, b, h⟩, fun ⟨C, d, b, h⟩ => ⟨a, c, C, d, b, rfl, h⟩⟩
end L2
namespace L2
open PySem PySem.Spec PySem.W PySem.Calls PyProof.Rows PySem.Builtin PySem.Builtin.ObjectAttr
section
variable {prog : Program} {w : World} {A : Around} {E : Value → Shared → Prop} {hh : Heap} {g : Array GenState} {dr : Drawn} {t : Nat} {os : OsState} {K : Frag} {a C : Addr} {o : Obj} {od : Option Obj} {name : Str} {v : Value}
theorem lqC {tk : Tok} {Q : Fin → Shared → Prop} (kin : K.In hh) (I : PySem.W.InstAt hh a o C od) (hf : findObj K C od name = some (.value v)) (hq : Q (.done (.ret v)) ⟨hh, g, dr, t, os⟩) :
    wpAny (model prog w) A (Builtin.«object.__getattribute__» ⟨[.ref a, .str name tk], []⟩) Q E ⟨hh, g, dr, t, os⟩ := by
  have L0 := I.type (M := model prog w)
  have L1 := looks_find (M := model prog w) kin I hf
  refine wpAny_bind (wpAny_pure (wpAny_bind (wpAny_pure (wpAny_bind (L0.at (wpAny_bind (L1.at ?_)))))))
  exact wpAny_pure hq
theorem oqI {tk : Tok} {n1 ex : Bool} {Q : Value → Shared → Prop} (kin : K.In hh) (I : PySem.W.InstAt hh a o C od) (hf : findObj K C od name = some (.value v)) (hv : handedIn v = true) (L : ExLook K C) (gb : Slot "ValueError" "__getattribute__" "BaseException.__getattribute__") (hq : Q v ⟨hh, g, dr, t, os⟩) :
    wpAny (model prog w) A (getAttrBy (.ref a) (.str name tk) n1 ex) Q E ⟨hh, g, dr, t, os⟩ := by
  have lt := gqI (M := model prog w) I.at_ I.cls; have lg := looks_findIn (M := model prog w) kin L.ga; have ln := looks_findIn (M := model prog w) kin L.na
  have f3 := gb.bind (.ref a)
  have y2 : (Value.builtin "BaseException.__getattribute__" == Value.builtin "object.__getattribute__") = false := by decide +kernel
  have y1 : (onTheHeap (Value.ref C) && Value.builtin "BaseException.__getattribute__" == Value.builtin "object.__getattribute__") = false := by rw [y2]; rfl
  have y0 : (ex && onTheHeap (Value.builtin "BaseException.__getattribute__")) = false := by cases ex <;> rfl
  repeat (any_goals (first | assumption | with_reducible refine Looks.at lt ?_ | with_reducible refine Looks.at lg ?_ | with_reducible refine Looks.at ln ?_ | rw [y0] | wp_step))
  refine codeAny_call_builtin gb.plain PySem.F.entry_bexc_ga (iqO kin I.at_ I.cls L (lqC kin I hf ?_))
  have hz := handedOut_of hv
  repeat (any_goals (first | assumption | rw [hz] | wp_step))
end
structure ExFld (K : Frag) (C : Addr) (f : Str) : Prop where
  look : ExLook K C
  na : findIn K (.ref C) f = some none
  hd : hasDictIn K C = true
def tFldE (K : Frag) (te : TE) (f : Str) : TE := fun σ H Q => te σ H fun x H1 => ∃ a C d fs v, x = .ref a ∧ H1 a = some (exC a C (some d)) ∧ H1 d = some (.xd fs) ∧ ExFld K C f ∧ fs.lookup f = some v ∧ Q v H1
theorem tqS {K : Frag} {te : TE} {f : Str} {σ : St} {H : Hp} {Q : VK} : tFldE K te f σ H Q ↔ te σ H fun x H1 => ∃ a C d fs v, x = .ref a ∧ H1 a = some (exC a C (some d)) ∧ H1 d = some (.xd fs) ∧ ExFld K C f ∧ fs.lookup f = some v ∧ Q v H1 := Iff.rfl
theorem tqR {X : Cx} {e : Expr} {f : Str} {pos : Pos} {te : TE} (he : PE X e te) (hb : attributeBase e f X.env (eval e X.env) = eval e X.env) : PE X (.Attribute e f pos) (tFldE X.K te f) := by
  intro pins s σ H Q I h
  refine qqo hb (thn (he pins s σ H _ I h) fun u s1 ⟨x, H1, I1, rx, a, C, d, fs, v, ex, ea, ed, c, l, q⟩ => ?_)
  subst ex
  obtain rfl : u = Value.ref a := rx
  obtain ⟨⟨o, ho, hc, hdc, hnc⟩, _, _⟩ := I1.hok a _ ea
  obtain ⟨mA, hN, hR⟩ := I1.hok d _ ed
  obtain ⟨od, hod, hl⟩ := nqd hN
  have dd := hdc d rfl
  have J : PySem.W.InstAt s1.heap a o C (some od) := ⟨ho, hc, hnc, by rw [dd]; exact hod⟩
  obtain ⟨v', hv', rv⟩ := RelO.some_of (v := v) (o := mA f) (by rw [← l]; exact hR f)
  have K1 := I1.kIn
  have fo : findObj X.K C (some od) f = some (.value v') := findObj_own c.hd c.na rfl (by rw [hl, hv'])
  have I2 := I1.tok (s1.toks + 1)
  obtain ⟨hh, g, dr, tk, os⟩ := s1
  unfold getAttr
  refine wpAny_bind (wpAny_mkText ?_)
  refine oqI K1 J fo (mqM rv) c.look PySem.F.attrBase_ValueError.ga ?_
  exact ⟨v, H1, I2, rv, q⟩
end L2
namespace L2
open PySem PySem.Spec PySem.W PySem.Calls PyProof.Rows
theorem FunD.okn {P : Program} {w : World} {K : Frag} {mg : Str → Option Value} {base : Heap} {x qual : Str} {st : Stmt} {f T : Addr} {fd : FuncData} {N ps : List Str} {k : Nat} {sp : Sp} (F : FunD K x qual st f fd T) (S : FnScope N ps (defScope st)) (len : ∀ vs H Q E, sp vs H Q E → vs.length = ps.length)
    (hbody : ∀ (cdv : Value) (A : Around) (outer : List Env) (s : Shared) (H : Hp) (vs : List V) (Q : VK) (E : XK), Room k (A.deeper (envOfC qual (defScope st) s.heap.objs.size f cdv)) → sp vs H Q E →
      ∃ t, PSs (cxOf (CXN P w base) P w K mg base N qual (defScope st) f cdv A outer s H E) (defBody st) t ∧ t { nx := fun _ H' => Q .non H', rt := Q } (start N vs) H) : FnOk P w K mg base (CXN P w base) (k + 1) f fd ps sp := by
  obtain ⟨oc, od, kV, doc, pm, an, cdv, ct, osl, rfl, lk, hcd⟩ := F.ex
  exact tqD lk hcd S len fun A outer s H vs Q E hr hsp => hbody cdv A outer s H vs Q E hr hsp
section
variable {P : Program} {w : World} {K : Frag} {mg : Str → Option Value} {base : Heap} {j k : Nat} {A : Around} {outer : List Env} {s : Shared} {H : Hp} {E : XK}
structure RoomU (k : Nat) (A : Around) : Prop where
  dp : A.depth + 3 * k + 5 < recursionLimit
  un : A.units + 16 * k + 200 < cLine
structure FnU (P : Program) (w : World) (K : Frag) (mg : Str → Option Value) (base : Heap) (k : Nat) (f : Addr) (fd : FuncData) (ps : List Str) (sp : Sp) : Prop where
  len : ∀ vs H Q E, sp vs H Q E → vs.length = ps.length
  go : ∀ (A : Around) (outer : List Env) (s : Shared) (H : Hp) (args : Args) (us : List Value) (vs : List V) (Q : VK) (E : XK), RoomU k A → Env0 P w K mg base A outer s H → BindsTo s fd args (ps.zip us) → Vals vs us → sp vs H Q E →
    codeAny (model P w) A (.call (.ref f) args) (CR CX0 outer P w H s Q E) s
end
section
variable {X : Cx}
def tTryIf (tc : TT) (ta tb : XK → TS) : XK → TS := fun Eh D σ H => tc σ H fun b H1 => if b = true then ta Eh D σ H1 else tb Eh D σ H1
theorem rq0 {tc : TT} {ta tb : XK → TS} {Eh : XK} {D : Ends} {σ : St} {H : Hp} : tTryIf tc ta tb Eh D σ H ↔ tc σ H fun b H1 => if b = true then ta Eh D σ H1 else tb Eh D σ H1 := Iff.rfl
theorem vqw {c : Expr} {a b : List Stmt} {tc : TT} {ta tb : XK → TS} {pos : Pos} (hc : PT X c tc) (ha : TryB X a ta) (hb : TryB X b tb) (hx0 : ∀ e s, X.xe e s → False) : TryB X [.If c a b pos] (tTryIf tc ta tb) := by
  intro pins s σ H D Eh I h
  refine wpAny_execs_cons (wpAny_If (wpAny_mono (hc pins s σ H _ I h) (fun d s1 ⟨H1, I1, q1⟩ => ?_) fun e s1 z => (hx0 e s1 z).elim))
  cases d with
  | true => exact wpAny_mono (ha pins s1 σ H1 D Eh I1 q1) (fun fl s2 z => by cases fl <;> first | exact wpAny_execs_nil z | exact z) fun _ _ z => z
  | false => exact wpAny_mono (hb pins s1 σ H1 D Eh I1 q1) (fun fl s2 z => by cases fl <;> first | exact wpAny_execs_nil z | exact z) fun _ _ z => z
def tTryE (sp : Sp) (t : TA) : XK → TE := fun Eh σ H Q => t σ H fun vs H1 => sp vs H1 Q Eh
def tTryP (ta : TE) (te : XK → TE) : XK → TE := fun Eh σ H Q => ta σ H fun x H1 => te Eh σ H1 fun y H2 => ∀ p H', H2 p = none → Same H2 H' → H' p = some (.tup [x, y]) → Q (.ref p) H'
def tTryS (i : Nat) (te : XK → TE) : XK → TS := fun Eh D σ H => te Eh σ H fun v H1 => D.nx (σ.set i (some v)) H1
theorem uqM {sp : Sp} {t : TA} {Eh : XK} {σ : St} {H : Hp} {Q : VK} : tTryE sp t Eh σ H Q ↔ t σ H fun vs H1 => sp vs H1 Q Eh := Iff.rfl
theorem tqe {ta : TE} {te : XK → TE} {Eh : XK} {σ : St} {H : Hp} {Q : VK} : tTryP ta te Eh σ H Q ↔ ta σ H fun x H1 => te Eh σ H1 fun y H2 => ∀ p H', H2 p = none → Same H2 H' → H' p = some (.tup [x, y]) → Q (.ref p) H' := Iff.rfl
theorem uqj {i : Nat} {te : XK → TE} {Eh : XK} {D : Ends} {σ : St} {H : Hp} : tTryS i te Eh D σ H ↔ te Eh σ H fun v H1 => D.nx (σ.set i (some v)) H1 := Iff.rfl
end
end L2
namespace L2
open PySem
theorem sqf {X : Cx} {K : PySem.W.Frag} {e : Expr} {f : Str} {pos : Pos} {te : TE} (hk : X.K = K) (he : PE X e te) (hb : attributeBase e f X.env (eval e X.env) = eval e X.env) : PE X (.Attribute e f pos) (tFldE K te f) := by subst hk; exact tqR he hb
end L2
namespace Wm
open PySem L2
abbrev Rs (α : Type) := Except Nat (α × Nat)
def sh {α : Type} (k : Nat) : Rs α → Rs α
  | .ok (a, n) => .ok (a, k + n)
  | .error n => .error (k + n)
def mp {α β : Type} (f : α → β) : Rs α → Rs β
  | .ok (a, n) => .ok (f a, n)
  | .error n => .error n
def pre {α : Type} (c : α) (k : Nat) : Rs (List α) → Rs (List α)
  | .ok (l, n) => .ok (c :: l, k + n)
  | .error n => .error (k + n)
section
variable {α β γ : Type}
theorem pqo {a b : Nat} {r : Rs α} : sh a (sh b r) = sh (a + b) r := by
  cases r with
  | error n => show Except.error _ = Except.error _; rw [Nat.add_assoc]
  | ok x => show Except.ok _ = Except.ok _; rw [Nat.add_assoc]
theorem wqJ {a : Nat} {f : α → β} {r : Rs α} : mp f (sh a r) = sh a (mp f r) := by cases r <;> rfl
theorem wqI {g : β → γ} {f : α → β} {r : Rs α} : mp g (mp f r) = mp (fun x => g (f x)) r := by cases r <;> rfl
theorem sh_0 {r : Rs α} : sh 0 r = r := by
  cases r with
  | error n => show Except.error _ = Except.error _; rw [Nat.zero_add]
  | ok x => show Except.ok _ = Except.ok _; rw [Nat.zero_add]
theorem wqV {r : Rs α} : mp (fun x => x) r = r := by cases r <;> rfl
theorem sqZ {c : α} {k : Nat} {r : Rs (List α)} : pre c k r = sh k (mp (fun l => c :: l) r) := by cases r <;> rfl
def Via (tot : Rs γ) (b : Nat) (f : α → γ) (r : Rs α) : Prop := tot = sh b (mp f r)
theorem Via.refl {r : Rs α} : Via r 0 (fun x => x) r := by unfold Via; rw [wqV, sh_0]
theorem Via.step {tot : Rs γ} {b a : Nat} {f : β → γ} {g : α → β} {r : Rs β} {r' : Rs α} (h : Via tot b f r) (e : r = sh a (mp g r')) : Via tot (b + a) (fun x => f (g x)) r' := by
  unfold Via at *
  rw [h, e, wqJ, pqo, wqI]
theorem Via.ok {tot : Rs γ} {b n : Nat} {f : α → γ} {r : Rs α} {x : α} (h : Via tot b f r) (e : r = .ok (x, n)) : tot = .ok (f x, b + n) := by
  unfold Via at h
  rw [h, e]; rfl
theorem Via.err {tot : Rs γ} {b n : Nat} {f : α → γ} {r : Rs α} (h : Via tot b f r) (e : r = .error n) : tot = .error (b + n) := by
  unfold Via at h
  rw [h, e]; rfl
end
theorem take1 {r : List Nat} {c : Nat} : r.take [c].length = [c] ↔ r.head? = some c := by
  cases r with
  | nil => simp
  | cons d r => simp
def dec (mo : Option Nat) : Option Nat := mo.map fun m => m - 1
def Capd (mo : Option Nat) (k : Nat) : Prop := ∀ z, mo = some z → k ≤ z
def fsF : List Nat := [50, 51, 52, 53, 54, 55]
def prM : List Nat → Rs Nat
  | a :: b :: _ => if a ∈ fsF then (match sgO a b with | some c => .ok (c, 2) | none => .error 1) else .error 0
  | [a] => if a ∈ fsF then .error 1 else .error 0
  | [] => .error 0
theorem sqr {r : List Nat} {c n : Nat} (h : prM r = .ok (c, n)) : ∃ a b r', r = a :: b :: r' ∧ sgO a b = some c ∧ n = 2 ∧ a ∈ fsF := by
  match r, h with
  | [], h => cases h
  | [a], h =>
    have h : (if a ∈ fsF then (.error 1 : Rs Nat) else .error 0) = .ok (c, n) := h
    by_cases hf : a ∈ fsF
    · rw [if_pos hf] at h; cases h
    · rw [if_neg hf] at h; cases h
  | a :: b :: r', h =>
    have h : (if a ∈ fsF then (match sgO a b with | some c => (.ok (c, 2) : Rs Nat) | none => .error 1) else .error 0) = .ok (c, n) := h
    by_cases hf : a ∈ fsF
    · rw [if_pos hf] at h
      cases hs : sgO a b with
      | none => rw [hs] at h; cases h
      | some d => rw [hs] at h; cases h; exact ⟨a, b, r', rfl, hs, rfl, hf⟩
    · rw [if_neg hf] at h; cases h
def txtM (fr : List Nat) (r : List Nat) (mo : Option Nat) : Rs (List Nat) :=
  match r with
  | [] => .ok ([], 0)
  | c :: r' =>
    if mo = some 0 then .ok ([], 0)
    else if c = 126 then (match prM r' with | .error n => .error (n + 1) | .ok (s, n) => pre s (n + 1) (txtM fr (r'.drop n) (dec mo)))
    else if isPl c = true ∨ c ∈ fr then pre c 1 (txtM fr r' (dec mo))
    else .ok ([], 0)
termination_by r.length
decreasing_by
  · simp only [List.length_drop, List.length_cons]; omega
  · simp only [List.length_cons]; omega
theorem kqh {fr : List Nat} {mo : Option Nat} : txtM fr [] mo = .ok ([], 0) := by rw [txtM]
theorem iq9 {fr r : List Nat} : txtM fr r (some 0) = .ok ([], 0) := by
  cases r with
  | nil => exact kqh
  | cons c r => rw [txtM, if_pos rfl]
theorem hqy {fr r : List Nat} {mo : Option Nat} (h : mo ≠ some 0) : txtM fr (126 :: r) mo = (match prM r with | .error n => .error (n + 1) | .ok (s, n) => pre s (n + 1) (txtM fr (r.drop n) (dec mo))) := by
  rw [txtM, if_neg h, if_pos rfl]
theorem lqO {fr r : List Nat} {mo : Option Nat} {c : Nat} (h : mo ≠ some 0) (h1 : c ≠ 126) (h2 : isPl c = true ∨ c ∈ fr) : txtM fr (c :: r) mo = pre c 1 (txtM fr r (dec mo)) := by
  rw [txtM, if_neg h, if_neg h1, if_pos h2]
theorem hqL {fr r : List Nat} {mo : Option Nat} (h : Stops fr r) : txtM fr r mo = .ok ([], 0) := by
  cases r with
  | nil => exact kqh
  | cons c r =>
    obtain ⟨h1, h2, h3⟩ := h c rfl
    by_cases h0 : mo = some 0
    · rw [h0]; exact iq9
    · rw [txtM, if_neg h0, if_neg h3, if_neg (fun z => z.elim (fun z => by rw [h1] at z; cases z) h2)]
theorem gq6 {fr : List Nat} : ∀ (k : Nat) {r : List Nat} {mo : Option Nat} {s : List Nat} {n : Nat}, r.length ≤ k → txtM fr r mo = .ok (s, n) →
    ∃ w r', r = w ++ r' ∧ w.length = n ∧ WrT fr s w ∧ (Stops fr r' ∨ mo = some s.length) ∧ ∀ m, mo = some m → s.length ≤ m := by
  intro k
  induction k with
  | zero =>
    intro r mo s n hk h
    have hr : r = [] := List.length_eq_zero_iff.mp (by omega)
    subst hr
    rw [kqh] at h
    cases h
    exact ⟨[], [], rfl, rfl, .nil, .inl gqm, fun m _ => Nat.zero_le _⟩
  | succ k ih =>
    intro r mo s n hk h
    cases r with
    | nil =>
      rw [kqh] at h
      cases h
      exact ⟨[], [], rfl, rfl, .nil, .inl gqm, fun m _ => Nat.zero_le _⟩
    | cons c r =>
      simp only [List.length_cons] at hk
      by_cases h0 : mo = some 0
      · subst h0
        rw [iq9] at h
        cases h
        exact ⟨[], _, rfl, rfl, .nil, .inr rfl, fun m _ => Nat.zero_le _⟩
      have hm : ∀ (s' : List Nat) (x : Nat), (∀ m, dec mo = some m → s'.length ≤ m) → ∀ m, mo = some m → (x :: s').length ≤ m := fun s' x hh m e => by
        subst e
        have := hh (m - 1) rfl
        have h1 : m ≠ 0 := fun z => h0 (by rw [z])
        simp only [List.length_cons]; omega
      have hst : ∀ (s' r' : List Nat) (x : Nat), (Stops fr r' ∨ dec mo = some s'.length) → (Stops fr r' ∨ mo = some (x :: s').length) := fun s' r' x hh => hh.imp id fun e => by
        cases mo with
        | none => cases e
        | some m =>
          have e : some (m - 1) = some s'.length := e
          have h1 : m ≠ 0 := fun z => h0 (by rw [z])
          have e := Option.some.inj e
          rw [List.length_cons, ← e]
          congr 1; omega
      by_cases hc : c = 126
      · subst hc
        rw [hqy h0] at h
        cases hp : prM r with
        | error e => rw [hp] at h; cases h
        | ok x =>
          obtain ⟨x, nx⟩ := x
          obtain ⟨a, b, r2, rfl, hs, rfl, _⟩ := sqr hp
          rw [hp] at h
          simp only [List.drop_succ_cons, List.drop_zero] at h
          cases ht : txtM fr r2 (dec mo) with
          | error e => rw [ht] at h; cases h
          | ok y =>
            obtain ⟨s', m⟩ := y
            rw [ht] at h
            cases h
            obtain ⟨w, r', e1, e2, e3, e4, e5⟩ := ih (by simp only [List.length_cons] at hk; omega) ht
            refine ⟨126 :: a :: b :: w, r', by rw [e1]; rfl, by simp only [List.length_cons]; omega, .pair hs e3, hst s' r' x e4, hm s' x e5⟩
      · by_cases hp : isPl c = true ∨ c ∈ fr
        · rw [lqO h0 hc hp] at h
          cases ht : txtM fr r (dec mo) with
          | error e => rw [ht] at h; cases h
          | ok y =>
            obtain ⟨s', m⟩ := y
            rw [ht] at h
            cases h
            obtain ⟨w, r', e1, e2, e3, e4, e5⟩ := ih (by omega) ht
            exact ⟨c :: w, r', by rw [e1]; rfl, by simp only [List.length_cons]; omega, .self hp hc e3, hst s' r' c e4, hm s' c e5⟩
        · rw [txtM, if_neg h0, if_neg hc, if_neg hp] at h
          cases h
          refine ⟨[], c :: r, rfl, rfl, .nil, .inl (bqr ⟨?_, fun z => hp (.inr z), hc⟩), fun m _ => Nat.zero_le _⟩
          cases hi : isPl c with
          | false => rfl
          | true => exact absurd (.inl hi) hp
theorem dqV {fr r s : List Nat} {mo : Option Nat} {n : Nat} (h : txtM fr r mo = .ok (s, n)) : n ≤ r.length ∧ s.length ≤ n ∧ (s ≠ [] → 0 < n) := by
  obtain ⟨w, r', e1, e2, e3, _⟩ := gq6 r.length (Nat.le_refl _) h
  have := pqE e3
  refine ⟨by rw [e1, List.length_append]; omega, by omega, fun z => ?_⟩
  have := List.length_pos_iff.mpr z
  omega
theorem jqY {fr s w r : List Nat} (h : WrT fr s w) : ∀ {mo : Option Nat}, (Stops fr r ∨ mo = some s.length) → (∀ m, mo = some m → s.length ≤ m) → txtM fr (w ++ r) mo = .ok (s, w.length) := by
  induction h with
  | nil =>
    intro mo h1 _
    rcases h1 with h1 | rfl
    · exact hqL h1
    · exact iq9
  | self a b _ ih =>
    rename_i c s w _
    intro mo h1 h2
    have h0 : mo ≠ some 0 := fun z => by have := h2 0 z; simp at this
    show txtM fr (c :: (w ++ r)) mo = _
    rw [lqO h0 b a, ih (h1.imp id fun e => by rw [e]; rfl) (fun m e => by
      cases mo with
      | none => cases e
      | some k => cases e; have := h2 k rfl; simp only [List.length_cons] at this; show s.length ≤ k - 1; omega)]
    show Except.ok (c :: s, 1 + w.length) = _
    rw [List.length_cons, Nat.add_comm]
  | pair hs _ ih =>
    rename_i c a b s w _
    intro mo h1 h2
    have h0 : mo ≠ some 0 := fun z => by have := h2 0 z; simp at this
    have hf : a ∈ fsF := by
      have := (jqK hs).1
      rw [show (Str.ofString "234567").cps.toList = fsF by decide +kernel] at this
      exact this
    have hp : prM (a :: b :: (w ++ r)) = .ok (c, 2) := by
      show (if a ∈ fsF then _ else _) = _
      rw [if_pos hf, hs]
    show txtM fr (126 :: (a :: b :: (w ++ r))) mo = _
    rw [hqy h0, hp]
    show pre c 3 (txtM fr (w ++ r) (dec mo)) = _
    rw [ih (h1.imp id fun e => by rw [e]; rfl) (fun m e => by
      cases mo with
      | none => cases e
      | some k => cases e; have := h2 k rfl; simp only [List.length_cons] at this; show s.length ≤ k - 1; omega)]
    show Except.ok (c :: s, 3 + w.length) = _
    simp only [List.length_cons]
    rw [Nat.add_comm]
def filM (fr r : List Nat) (mo : Option Nat) : Rs (List Nat) := match txtM fr r mo with
  | .error n => .error n
  | .ok (s, n) => if s = [] then .error n else .ok (s, n)
def houM (r : List Nat) : Rs (Option (List Nat)) := if r.take 2 = [47, 47] then sh 2 (mp some (filM [] (r.drop 2) (some 60))) else .ok (none, 0)
def dooG : List Nat → Nat → Nat × Nat
  | [], n => (n, 0)
  | c :: r, n => if 0 < n ∧ 48 ≤ c ∧ c ≤ 57 ∧ n * 10 + (c - 48) ≤ 65535 then ((dooG r (n * 10 + (c - 48))).1, (dooG r (n * 10 + (c - 48))).2 + 1) else (n, 0)
def dooM (r : List Nat) : Rs (Option Int) := if r.head? = some 58 then
    match r.drop 1 with
    | [] => .error 1
    | c :: r' => if 48 ≤ c ∧ c ≤ 57 then .ok (some ((dooG r' (c - 48)).1 : Int), 2 + (dooG r' (c - 48)).2) else .error 1
  else .ok (none, 0)
def stpF : Nat → List Nat → Bool → Rs (List (List Nat) × Bool)
  | 0, _, e => .ok (([], e), 0)
  | f + 1, r, e => match txtM frS r none with
    | .error n => .error n
    | .ok (s, n) => if s = [] then .ok (([], e), n)
      else if (r.drop n).head? = some 47 then sh (n + 1) (mp (fun x => (s :: x.1, x.2)) (stpF f (r.drop (n + 1)) true))
      else sh n (mp (fun x => (s :: x.1, x.2)) (stpF f (r.drop n) false))
def wayM (must : Bool) (r : List Nat) : Rs (Bool × List (List Nat) × Bool) :=
  if r.head? = some 47 then sh 1 (mp (fun x => (true, x)) (stpF (r.length + 1) (r.drop 1) true))
  else if must = true then .ok ((true, [], true), 0)
  else mp (fun x => (false, x)) (stpF (r.length + 1) r false)
def valM (r : List Nat) : Rs (Option (List Nat)) := if r.head? = some 61 then sh 1 (mp some (txtM frQ (r.drop 1) none)) else .ok (none, 0)
def marM (r : List Nat) : Rs (Option (List Nat)) := if r.head? = some 35 then sh 1 (mp some (txtM frM (r.drop 1) none)) else .ok (none, 0)
def bdR {α β : Type} (x : Rs α) (f : α → Nat → Rs β) : Rs β := match x with
  | .error n => .error n
  | .ok (a, n) => sh n (f a n)
def prsF : Nat → List Nat → Rs (List (List Nat × Option (List Nat)))
  | 0, _ => .ok ([], 0)
  | f + 1, r => if r.head? = some 38 then
      sh 1 (bdR (filM frQ (r.drop 1) none) fun s n => bdR (valM (r.drop (1 + n))) fun v m => mp (fun l => (s, v) :: l) (prsF f (r.drop (1 + n + m))))
    else .ok ([], 0)
def queM (r : List Nat) : Rs (Option (List (List Nat × Option (List Nat)))) := if r.head? = some 63 then
    sh 1 (bdR (txtM frQ (r.drop 1) none) fun s n => if s = [] then .ok (some [], 0) else
      bdR (valM (r.drop (1 + n))) fun v m => mp (fun l => some ((s, v) :: l)) (prsF (r.length + 1) (r.drop (1 + n + m))))
  else .ok (none, 0)
def bdA {α β : Type} (x : Rs α) (i : Nat) (f : α → Nat → Except Nat β) : Except Nat β := match x with
  | .error n => .error (i + n)
  | .ok (a, n) => f a (i + n)
theorem kqV {α β : Type} {a : α} {n i : Nat} {f : α → Nat → Except Nat β} : bdA (.ok (a, n)) i f = f a (i + n) := rfl
theorem iqe {α β : Type} {n i : Nat} {f : α → Nat → Except Nat β} : bdA (.error n : Rs α) i f = .error (i + n) := rfl
def dorM (h : Option (List Nat)) (r : List Nat) : Rs (Option Int) := if h = none then .ok (none, 0) else dooM r
def readM (t : List Nat) : Except Nat Ad :=
  bdA (houM (t.drop (schP t))) (schP t) fun h i => bdA (dorM h (t.drop i)) i fun d i => bdA (wayM (decide (schM t ≠ [] ∨ h ≠ none)) (t.drop i)) i fun w i =>
    bdA (queM (t.drop i)) i fun q i => bdA (marM (t.drop i)) i fun m i => if i = t.length then .ok ⟨schM t, h, d, w.1, w.2.1, w.2.2, q, m⟩ else .error i
section
variable {t : List Nat} {h : Option (List Nat)} {d : Option Int} {w : Bool × List (List Nat) × Bool} {q : Option (List (List Nat × Option (List Nat)))} {m : Option (List Nat)} {n n1 n2 n3 n4 n5 : Nat}
theorem uq5 (e1 : houM (t.drop (schP t)) = .error n) : readM t = .error (schP t + n) := by unfold readM; simp only [e1, kqV, iqe]
theorem wqm (e1 : houM (t.drop (schP t)) = .ok (h, n1)) (e2 : dorM h (t.drop (schP t + n1)) = .error n) : readM t = .error (schP t + n1 + n) := by
  unfold readM; simp only [e1, e2, kqV, iqe]
theorem wqd (e1 : houM (t.drop (schP t)) = .ok (h, n1)) (e2 : dorM h (t.drop (schP t + n1)) = .ok (d, n2)) (e3 : wayM (decide (schM t ≠ [] ∨ h ≠ none)) (t.drop (schP t + n1 + n2)) = .error n) : readM t = .error (schP t + n1 + n2 + n) := by
  unfold readM; simp only [e1, e2, e3, kqV, iqe]
theorem vqT (e1 : houM (t.drop (schP t)) = .ok (h, n1)) (e2 : dorM h (t.drop (schP t + n1)) = .ok (d, n2)) (e3 : wayM (decide (schM t ≠ [] ∨ h ≠ none)) (t.drop (schP t + n1 + n2)) = .ok (w, n3)) (e4 : queM (t.drop (schP t + n1 + n2 + n3)) = .error n) : readM t = .error (schP t + n1 + n2 + n3 + n) := by
  unfold readM; simp only [e1, e2, e3, e4, kqV, iqe]
theorem wqr (e1 : houM (t.drop (schP t)) = .ok (h, n1)) (e2 : dorM h (t.drop (schP t + n1)) = .ok (d, n2)) (e3 : wayM (decide (schM t ≠ [] ∨ h ≠ none)) (t.drop (schP t + n1 + n2)) = .ok (w, n3)) (e4 : queM (t.drop (schP t + n1 + n2 + n3)) = .ok (q, n4)) (e5 : marM (t.drop (schP t + n1 + n2 + n3 + n4)) = .error n) : readM t = .error (schP t + n1 + n2 + n3 + n4 + n) := by
  unfold readM; simp only [e1, e2, e3, e4, e5, kqV, iqe]
theorem sqE (e1 : houM (t.drop (schP t)) = .ok (h, n1)) (e2 : dorM h (t.drop (schP t + n1)) = .ok (d, n2)) (e3 : wayM (decide (schM t ≠ [] ∨ h ≠ none)) (t.drop (schP t + n1 + n2)) = .ok (w, n3)) (e4 : queM (t.drop (schP t + n1 + n2 + n3)) = .ok (q, n4)) (e5 : marM (t.drop (schP t + n1 + n2 + n3 + n4)) = .ok (m, n5)) :
    readM t = if schP t + n1 + n2 + n3 + n4 + n5 = t.length then .ok ⟨schM t, h, d, w.1, w.2.1, w.2.2, q, m⟩ else .error (schP t + n1 + n2 + n3 + n4 + n5) := by
  unfold readM; simp only [e1, e2, e3, e4, e5, kqV, iqe]
end
section
variable {r : List Nat} {n : Nat}
theorem kqm {fr : List Nat} {mo : Option Nat} {s : List Nat} (h : filM fr r mo = .ok (s, n)) : txtM fr r mo = .ok (s, n) ∧ s ≠ [] := by
  unfold filM at h
  cases e : txtM fr r mo with
  | error k => rw [e] at h; cases h
  | ok x =>
    obtain ⟨s', k⟩ := x
    rw [e] at h
    have h : (if s' = [] then (.error k : Rs (List Nat)) else .ok (s', k)) = .ok (s, n) := h
    by_cases hs : s' = []
    · rw [if_pos hs] at h; cases h
    · rw [if_neg hs] at h; cases h; exact ⟨rfl, hs⟩
theorem gqL {α : Type} {k : Nat} {x : Rs α} {a : α} (h : sh k x = .ok (a, n)) : ∃ m, x = .ok (a, m) ∧ n = k + m := by
  cases x with
  | error e => cases h
  | ok y => obtain ⟨y, m⟩ := y; cases h; exact ⟨m, rfl, rfl⟩
theorem gqr {α β : Type} {f : α → β} {x : Rs α} {b : β} (h : mp f x = .ok (b, n)) : ∃ a, x = .ok (a, n) ∧ b = f a := by
  cases x with
  | error e => cases h
  | ok y => obtain ⟨y, m⟩ := y; cases h; exact ⟨y, rfl, rfl⟩
theorem iqP {α β : Type} {x : Rs α} {f : α → Nat → Rs β} {b : β} (h : bdR x f = .ok (b, n)) : ∃ a k m, x = .ok (a, k) ∧ f a k = .ok (b, m) ∧ n = k + m := by
  cases x with
  | error e => cases h
  | ok y =>
    obtain ⟨y, k⟩ := y
    obtain ⟨m, e, en⟩ := gqL (show sh k (f y k) = _ from h)
    exact ⟨y, k, m, rfl, e, en⟩
theorem fqD {c : Nat} (h : r.head? = some c) : 1 ≤ r.length := by
  cases r with
  | nil => cases h
  | cons d r => simp
theorem sqv {o : Option (List Nat)} (h : houM r = .ok (o, n)) : n ≤ r.length := by
  unfold houM at h
  by_cases h2 : r.take 2 = [47, 47]
  · rw [if_pos h2] at h
    obtain ⟨m, e, rfl⟩ := gqL h
    obtain ⟨a, e', rfl⟩ := gqr e
    have h1 := (dqV (kqm e').1).1
    have h3 := congrArg List.length h2
    rw [List.length_take] at h3
    simp only [List.length_cons, List.length_nil] at h3
    rw [List.length_drop] at h1
    omega
  · rw [if_neg h2] at h; cases h; omega
theorem sqI {o : Option (List Nat)} (h : valM r = .ok (o, n)) : n ≤ r.length := by
  unfold valM at h
  by_cases h2 : r.head? = some 61
  · rw [if_pos h2] at h
    obtain ⟨m, e, rfl⟩ := gqL h
    obtain ⟨a, e', rfl⟩ := gqr e
    have h1 := (dqV e').1
    have := fqD h2
    rw [List.length_drop] at h1
    omega
  · rw [if_neg h2] at h; cases h; omega
theorem vqV {o : Option (List Nat)} (h : marM r = .ok (o, n)) : n ≤ r.length := by
  unfold marM at h
  by_cases h2 : r.head? = some 35
  · rw [if_pos h2] at h
    obtain ⟨m, e, rfl⟩ := gqL h
    obtain ⟨a, e', rfl⟩ := gqr e
    have h1 := (dqV e').1
    have := fqD h2
    rw [List.length_drop] at h1
    omega
  · rw [if_neg h2] at h; cases h; omega
theorem pqy : ∀ (r : List Nat) (k : Nat), k ≤ 65535 → (dooG r k).2 ≤ r.length ∧ (dooG r k).1 ≤ 65535
  | [], k, h => ⟨Nat.zero_le _, h⟩
  | c :: r, k, h => by
    unfold dooG
    by_cases hc : 0 < k ∧ 48 ≤ c ∧ c ≤ 57 ∧ k * 10 + (c - 48) ≤ 65535
    · rw [if_pos hc]
      have := pqy r _ hc.2.2.2
      simp only [List.length_cons]
      exact ⟨by omega, this.2⟩
    · rw [if_neg hc]; exact ⟨Nat.zero_le _, h⟩
theorem sqP {o : Option Int} (h : dooM r = .ok (o, n)) : n ≤ r.length ∧ ∀ i, o = some i → 0 ≤ i ∧ i ≤ 65535 := by
  unfold dooM at h
  by_cases h2 : r.head? = some 58
  · rw [if_pos h2] at h
    have hl := fqD h2
    cases hd : r.drop 1 with
    | nil => rw [hd] at h; cases h
    | cons c r' =>
      rw [hd] at h
      have h : (if 48 ≤ c ∧ c ≤ 57 then (.ok (some ((dooG r' (c - 48)).1 : Int), 2 + (dooG r' (c - 48)).2) : Rs (Option Int)) else .error 1) = .ok (o, n) := h
      by_cases hc : 48 ≤ c ∧ c ≤ 57
      · rw [if_pos hc] at h
        cases h
        have := pqy r' (c - 48) (by omega)
        have h3 := congrArg List.length hd
        rw [List.length_drop, List.length_cons] at h3
        exact ⟨by omega, fun i e => by cases e; omega⟩
      · rw [if_neg hc] at h; cases h
  · rw [if_neg h2] at h; cases h; exact ⟨Nat.zero_le _, fun i e => by cases e⟩
theorem sqq {ho : Option (List Nat)} {o : Option Int} (h : dorM ho r = .ok (o, n)) : n ≤ r.length ∧ ∀ i, o = some i → (0 ≤ i ∧ i ≤ 65535) ∧ ho ≠ none := by
  unfold dorM at h
  by_cases h2 : ho = none
  · rw [if_pos h2] at h; cases h; exact ⟨Nat.zero_le _, fun i e => by cases e⟩
  · rw [if_neg h2] at h
    exact ⟨(sqP h).1, fun i e => ⟨(sqP h).2 i e, h2⟩⟩
theorem pqr : ∀ (f : Nat) {r : List Nat} {e : Bool} {ss : List (List Nat)} {e' : Bool} {n : Nat}, stpF f r e = .ok ((ss, e'), n) → n ≤ r.length ∧ (∀ s ∈ ss, ∃ w, s ≠ [] ∧ WrT frS s w ∧ w.length ≤ r.length) ∧ ss.length ≤ n ∧ (ss = [] → e' = e)
  | 0, r, e, ss, e', n, h => by cases h; exact ⟨Nat.zero_le _, (fun s hs => by cases hs), Nat.le_refl _, fun _ => rfl⟩
  | f + 1, r, e, ss, e', n, h => by
    unfold stpF at h
    cases ht : txtM frS r none with
    | error k => rw [ht] at h; cases h
    | ok x =>
      obtain ⟨s, k⟩ := x
      rw [ht] at h
      have h : (if s = [] then (.ok (([], e), k) : Rs (List (List Nat) × Bool)) else if (r.drop k).head? = some 47 then sh (k + 1) (mp (fun x => (s :: x.1, x.2)) (stpF f (r.drop (k + 1)) true)) else sh k (mp (fun x => (s :: x.1, x.2)) (stpF f (r.drop k) false))) = .ok ((ss, e'), n) := h
      obtain ⟨t1, t2, t3⟩ := dqV ht
      by_cases hs : s = []
      · rw [if_pos hs] at h; cases h; exact ⟨t1, (fun s hs => by cases hs), Nat.zero_le _, fun _ => rfl⟩
      rw [if_neg hs] at h
      have hk := t3 hs
      obtain ⟨w, r', e1, e2, e3, _⟩ := gq6 r.length (Nat.le_refl _) ht
      have fin : ∀ (b : Nat) (en : Bool) (k' : Nat), k ≤ k' → k' ≤ r.length → sh k' (mp (fun x => (s :: x.1, x.2)) (stpF f (r.drop k') en)) = .ok ((ss, e'), n) → n ≤ r.length ∧ (∀ s ∈ ss, ∃ w, s ≠ [] ∧ WrT frS s w ∧ w.length ≤ r.length) ∧ ss.length ≤ n ∧ (ss = [] → e' = e) := fun b en k' hkk hkl h => by
        obtain ⟨m, h2, rfl⟩ := gqL h
        obtain ⟨a, h3, ea⟩ := gqr h2
        obtain ⟨as, ae⟩ := a
        cases ea
        obtain ⟨i1, i2, i3, i4⟩ := pqr f h3
        rw [List.length_drop] at i1 i2
        refine ⟨by omega, fun x hx => ?_, by simp only [List.length_cons]; omega, fun z => by cases z⟩
        rcases List.mem_cons.mp hx with rfl | hx
        · exact ⟨w, hs, e3, by omega⟩
        · obtain ⟨w, z1, z2, z3⟩ := i2 x hx
          exact ⟨w, z1, z2, by omega⟩
      by_cases h47 : (r.drop k).head? = some 47
      · rw [if_pos h47] at h
        have := fqD h47
        rw [List.length_drop] at this
        exact fin 0 true (k + 1) (by omega) (by omega) h
      · rw [if_neg h47] at h
        exact fin 0 false k (Nat.le_refl _) t1 h
theorem pqm {must : Bool} {w : Bool × List (List Nat) × Bool} (h : wayM must r = .ok (w, n)) : n ≤ r.length ∧ (∀ s ∈ w.2.1, ∃ v, s ≠ [] ∧ WrT frS s v ∧ v.length ≤ r.length) ∧ w.2.1.length ≤ n ∧ (w.2.1 = [] → w.2.2 = w.1) ∧ (must = true → w.1 = true) := by
  unfold wayM at h
  by_cases h1 : r.head? = some 47
  · rw [if_pos h1] at h
    obtain ⟨m, h2, rfl⟩ := gqL h
    obtain ⟨a, h3, rfl⟩ := gqr h2
    obtain ⟨as, ae⟩ := a
    obtain ⟨i1, i2, i3, i4⟩ := pqr _ h3
    have := fqD h1
    rw [List.length_drop] at i1 i2
    refine ⟨by omega, fun s hs => ?_, by show as.length ≤ _; omega, i4, fun _ => rfl⟩
    obtain ⟨v, z1, z2, z3⟩ := i2 s hs
    exact ⟨v, z1, z2, by omega⟩
  · rw [if_neg h1] at h
    by_cases h2 : must = true
    · rw [if_pos h2] at h
      cases h
      exact ⟨Nat.zero_le _, (fun s hs => by cases hs), Nat.zero_le _, fun _ => rfl, fun _ => rfl⟩
    · rw [if_neg h2] at h
      obtain ⟨a, h3, rfl⟩ := gqr h
      obtain ⟨as, ae⟩ := a
      obtain ⟨i1, i2, i3, i4⟩ := pqr _ h3
      exact ⟨i1, i2, i3, i4, fun z => absurd z h2⟩
end
def Tk {α : Type} (CN : Addr) (H : Hp) (C p : Addr) (t : List Nat) (i : Nat) (r : Rs α) (ok : α → Hp → Prop) (E : XK) : Prop :=
  (∀ a n, r = .ok (a, n) → ∀ H', SameBut p H H' → Cur H' C p t (i + n) → ok a H') ∧
  (∀ n, r = .error n → ∀ d H', SameBut p H H' → H' d = some (.xd [("at", .int ((i + n : Nat) : Int))]) → E (.ref CN) (some d) H')
end Wm
namespace Wm
open PySem L2
section
variable {r : List Nat} {n : Nat}
theorem sqs {o : Option (List Nat)} (h : valM r = .ok (o, n)) : n ≤ r.length ∧ ∀ s, o = some s → ∃ w, WrT frQ s w ∧ w.length ≤ r.length := by
  refine ⟨sqI h, fun s es => ?_⟩
  unfold valM at h
  by_cases h2 : r.head? = some 61
  · rw [if_pos h2] at h
    obtain ⟨m, e, rfl⟩ := gqL h
    obtain ⟨a, e', rfl⟩ := gqr e
    cases es
    obtain ⟨w, r', e1, e2, e3, _⟩ := gq6 _ (Nat.le_refl _) e'
    refine ⟨w, e3, ?_⟩
    have := congrArg List.length e1
    rw [List.length_drop, List.length_append] at this
    omega
  · rw [if_neg h2] at h; cases h; cases es
theorem sqK {o : Option (List Nat)} (h : marM r = .ok (o, n)) : n ≤ r.length ∧ ∀ s, o = some s → ∃ w, WrT frM s w ∧ w.length ≤ r.length := by
  refine ⟨vqV h, fun s es => ?_⟩
  unfold marM at h
  by_cases h2 : r.head? = some 35
  · rw [if_pos h2] at h
    obtain ⟨m, e, rfl⟩ := gqL h
    obtain ⟨a, e', rfl⟩ := gqr e
    cases es
    obtain ⟨w, r', e1, e2, e3, _⟩ := gq6 _ (Nat.le_refl _) e'
    refine ⟨w, e3, ?_⟩
    have := congrArg List.length e1
    rw [List.length_drop, List.length_append] at this
    omega
  · rw [if_neg h2] at h; cases h; cases es
theorem vqr {o : Option (List Nat)} (h : houM r = .ok (o, n)) : n ≤ r.length ∧ ∀ s, o = some s → s ≠ [] ∧ s.length ≤ 60 ∧ ∃ w, WrT [] s w := by
  refine ⟨sqv h, fun s es => ?_⟩
  unfold houM at h
  by_cases h2 : r.take 2 = [47, 47]
  · rw [if_pos h2] at h
    obtain ⟨m, e, rfl⟩ := gqL h
    obtain ⟨a, e', rfl⟩ := gqr e
    cases es
    obtain ⟨e1, e2⟩ := kqm e'
    obtain ⟨w, r', z1, z2, z3, z4, z5⟩ := gq6 _ (Nat.le_refl _) e1
    exact ⟨e2, z5 60 rfl, w, z3⟩
  · rw [if_neg h2] at h; cases h; cases es
def PrOk (k : Nat) (p : List Nat × Option (List Nat)) : Prop := (p.1 ≠ [] ∧ ∃ w, WrT frQ p.1 w ∧ w.length ≤ k) ∧ ∀ s, p.2 = some s → ∃ w, WrT frQ s w ∧ w.length ≤ k
theorem PrOk.mono {k k' : Nat} {p : List Nat × Option (List Nat)} (h : PrOk k p) (z : k ≤ k') : PrOk k' p :=
  ⟨⟨h.1.1, let ⟨w, a, b⟩ := h.1.2; ⟨w, a, Nat.le_trans b z⟩⟩, fun s e => let ⟨w, a, b⟩ := h.2 s e; ⟨w, a, Nat.le_trans b z⟩⟩
theorem sqA : ∀ (f : Nat) {r : List Nat} {l : List (List Nat × Option (List Nat))} {n : Nat}, prsF f r = .ok (l, n) → n ≤ r.length ∧ (∀ p ∈ l, PrOk r.length p) ∧ l.length ≤ n
  | 0, r, l, n, h => by cases h; exact ⟨Nat.zero_le _, (fun s hs => by cases hs), Nat.le_refl _⟩
  | f + 1, r, l, n, h => by
    unfold prsF at h
    by_cases h2 : r.head? = some 38
    · rw [if_pos h2] at h
      obtain ⟨m, h3, rfl⟩ := gqL h
      obtain ⟨s, k, m2, e1, h4, rfl⟩ := iqP h3
      obtain ⟨v, k2, m3, e2, h5, rfl⟩ := iqP h4
      obtain ⟨l', h6, rfl⟩ := gqr h5
      obtain ⟨i1, i2, i3⟩ := sqA f h6
      obtain ⟨t1, t2⟩ := kqm e1
      obtain ⟨w, r', z1, z2, z3, _⟩ := gq6 _ (Nat.le_refl _) t1
      have hh := fqD h2
      have tl := (dqV t1).1
      have vl := sqs e2
      rw [List.length_drop] at i1 i2 tl vl
      have wl := congrArg List.length z1
      rw [List.length_drop, List.length_append] at wl
      refine ⟨by omega, fun p hp => ?_, by simp only [List.length_cons]; omega⟩
      rcases List.mem_cons.mp hp with rfl | hp
      · exact ⟨⟨t2, w, z3, by omega⟩, fun s e => let ⟨w, a, b⟩ := vl.2 s e; ⟨w, a, by omega⟩⟩
      · exact (i2 p hp).mono (by omega)
    · rw [if_neg h2] at h; cases h; exact ⟨Nat.zero_le _, (fun s hs => by cases hs), Nat.zero_le _⟩
theorem pqT {o : Option (List (List Nat × Option (List Nat)))} (h : queM r = .ok (o, n)) : n ≤ r.length ∧ ∀ l, o = some l → (∀ p ∈ l, PrOk r.length p) ∧ l.length ≤ n := by
  unfold queM at h
  by_cases h2 : r.head? = some 63
  · rw [if_pos h2] at h
    obtain ⟨m, h3, rfl⟩ := gqL h
    obtain ⟨s, k, m2, e1, h4, rfl⟩ := iqP h3
    have hh := fqD h2
    have tl := (dqV e1).1
    rw [List.length_drop] at tl
    have h4 : (if s = [] then (.ok (some [], 0) : Rs (Option (List (List Nat × Option (List Nat))))) else bdR (valM (r.drop (1 + k))) fun v m => mp (fun l => some ((s, v) :: l)) (prsF (r.length + 1) (r.drop (1 + k + m)))) = .ok (o, m2) := h4
    by_cases hs : s = []
    · rw [if_pos hs] at h4
      cases h4
      exact ⟨by omega, fun l e => by cases e; exact ⟨(fun s hs => by cases hs), Nat.zero_le _⟩⟩
    · rw [if_neg hs] at h4
      obtain ⟨v, k2, m3, e2, h5, rfl⟩ := iqP h4
      obtain ⟨l', h6, rfl⟩ := gqr h5
      obtain ⟨i1, i2, i3⟩ := sqA _ h6
      obtain ⟨w, r', z1, z2, z3, _⟩ := gq6 _ (Nat.le_refl _) e1
      have vl := sqs e2
      rw [List.length_drop] at i1 i2 vl
      have wl := congrArg List.length z1
      rw [List.length_drop, List.length_append] at wl
      have hk := (dqV e1).2.2 hs
      refine ⟨by omega, fun l e => ?_⟩
      cases e
      refine ⟨fun p hp => ?_, by simp only [List.length_cons]; omega⟩
      rcases List.mem_cons.mp hp with rfl | hp
      · exact ⟨⟨hs, w, z3, by omega⟩, fun s e => let ⟨w, a, b⟩ := vl.2 s e; ⟨w, a, by omega⟩⟩
      · exact (i2 p hp).mono (by omega)
  · rw [if_neg h2] at h; cases h; exact ⟨Nat.zero_le _, fun l e => by cases e⟩
end
theorem jqz {α β : Type} {x : Rs α} {i : Nat} {f : α → Nat → Except Nat β} {b : β} (h : bdA x i f = .ok b) : ∃ a n, x = .ok (a, n) ∧ f a (i + n) = .ok b := by
  cases x with
  | error e => cases h
  | ok y => obtain ⟨a, n⟩ := y; exact ⟨a, n, rfl, h⟩
theorem oqx {t : List Nat} {x : Ad} (e : readM t = .ok x) : ∃ n1 n2 n3 n4 n5, houM (t.drop (schP t)) = .ok (x.house, n1) ∧ dorM x.house (t.drop (schP t + n1)) = .ok (x.door, n2) ∧ wayM (decide (schM t ≠ [] ∨ x.house ≠ none)) (t.drop (schP t + n1 + n2)) = .ok ((x.rooted, x.steps, x.ends), n3) ∧
    queM (t.drop (schP t + n1 + n2 + n3)) = .ok (x.quest, n4) ∧ marM (t.drop (schP t + n1 + n2 + n3 + n4)) = .ok (x.mark, n5) ∧ schP t + n1 + n2 + n3 + n4 + n5 = t.length ∧ x.scheme = schM t := by
  unfold readM at e
  obtain ⟨h, n1, e1, e⟩ := jqz e
  obtain ⟨d, n2, e2, e⟩ := jqz e
  obtain ⟨w, n3, e3, e⟩ := jqz e
  obtain ⟨q, n4, e4, e⟩ := jqz e
  obtain ⟨m, n5, e5, e⟩ := jqz e
  by_cases hl : schP t + n1 + n2 + n3 + n4 + n5 = t.length
  · rw [if_pos hl] at e
    cases e
    exact ⟨n1, n2, n3, n4, n5, e1, e2, e3, e4, e5, hl, rfl⟩
  · rw [if_neg hl] at e; cases e
theorem vq1 : ∀ c ∈ frS, isSg c = true := by decide +kernel
theorem sqx : ∀ c ∈ frQ, isSg c = true := by decide +kernel
theorem uqX : ∀ c ∈ frM, isSg c = true := by decide +kernel
theorem wq5 {c : Nat} (h : isPl c = true) : isSg c = true := by
  simp only [isPl, isSg, Bool.or_eq_true, Bool.and_eq_true, decide_eq_true_eq, Bool.not_eq_true', decide_eq_false_iff_not] at *
  omega
theorem nqb {fr s w : List Nat} (hf : ∀ c ∈ fr, isSg c = true) (h : WrT fr s w) : ∀ c ∈ s, isSg c = true := by
  induction h with
  | nil => intro c hc; cases hc
  | self a _ _ ih =>
    intro c hc
    rcases List.mem_cons.mp hc with rfl | hc
    · exact a.elim wq5 (hf _)
    · exact ih c hc
  | pair a _ ih =>
    intro c hc
    rcases List.mem_cons.mp hc with rfl | hc
    · exact (jqK a).2.2.2
    · exact ih c hc
theorem tq7 (t : List Nat) : (schM t).length ≤ 8 ∧ (∀ c ∈ schM t, isAln c = true) ∧ ∀ c ∈ (schM t).take 1, isLet c = true := by
  by_cases h : ahead t ≠ [] ∧ schD (.str ⟨(ahead t).toArray⟩) = true ∧ t[(ahead t).length]? = some 58
  · rw [(jqc h.1 h.2.1 h.2.2).1]
    have h2 := h.2.1
    simp only [schD, Bool.and_eq_true, List.all_eq_true, decide_eq_true_eq] at h2
    exact ⟨h2.1.1.2, h2.2, h2.1.2⟩
  · rw [(iqi h).1]
    exact ⟨Nat.zero_le _, (fun c hc => by cases hc), fun c hc => by cases hc⟩
theorem pq1 (t : List Nat) : schP t ≤ t.length := by
  by_cases h : ahead t ≠ [] ∧ schD (.str ⟨(ahead t).toArray⟩) = true ∧ t[(ahead t).length]? = some 58
  · rw [(jqc h.1 h.2.1 h.2.2).2, List.length_append, List.length_singleton]
    have := (List.getElem?_eq_some_iff.mp h.2.2).1
    omega
  · rw [(iqi h).2]; exact Nat.zero_le _
theorem qqf {t : List Nat} {x : Ad} (e : readM t = .ok x) : x.Wf := by
  obtain ⟨n1, n2, n3, n4, n5, e1, e2, e3, e4, e5, hl, es⟩ := oqx e
  have w3 := pqm e3
  have q4 := pqT e4
  have m5 := sqK e5
  refine ⟨by rw [es]; exact tq7 t, fun l z => ?_, fun i z => (sqq e2).2 i z, fun s hs => ?_, fun z => ?_, w3.2.2.2.1, fun ps z p hp => ?_, fun l z => ?_⟩
  · obtain ⟨h1, h2, w, h3⟩ := (vqr e1).2 l z
    exact ⟨⟨List.length_pos_iff.mpr h1, h2⟩, nqb (fun c hc => by cases hc) h3⟩
  · obtain ⟨w, h1, h2, _⟩ := w3.2.1 s hs
    exact ⟨List.length_pos_iff.mpr h1, nqb vq1 h2⟩
  · refine w3.2.2.2.2 (decide_eq_true ?_)
    rw [es] at z
    exact z
  · obtain ⟨⟨h1, w, h2, _⟩, h3⟩ := (q4.2 ps z).1 p hp
    exact ⟨⟨List.length_pos_iff.mpr h1, nqb sqx h2⟩, fun v ev => let ⟨w, a, _⟩ := h3 v ev; nqb sqx a⟩
  · obtain ⟨w, h1, _⟩ := m5.2 l z
    exact nqb uqX h1
end Wm
namespace Wm
open PySem L2
theorem vqC {o : Option (List Nat)} {w r : List Nat} (h : HouW o w) (h1 : o ≠ none → Stops [] r) (h2 : o = none → ¬ r.take 2 = [47, 47]) : houM (w ++ r) = .ok (o, w.length) := by
  cases o with
  | none =>
    have h : w = [] := h
    subst h
    unfold houM
    rw [List.nil_append, if_neg (h2 rfl)]; rfl
  | some s =>
    obtain ⟨v, rfl, hv, hne, hl⟩ := h
    unfold houM
    rw [if_pos (by simp)]
    have e : txtM [] (v ++ r) (some 60) = .ok (s, v.length) := jqY hv (.inl (h1 (by simp))) (fun m e => by cases e; exact hl)
    have e2 : filM [] (v ++ r) (some 60) = .ok (s, v.length) := by unfold filM; rw [e]; exact if_neg hne
    show sh 2 (mp some (filM [] (v ++ r) (some 60))) = _
    rw [e2]
    show Except.ok (some s, 2 + v.length) = _
    simp only [List.length_cons]
    rw [Nat.add_comm]
theorem qqx : ∀ (ds dn r : List Nat), (∀ c ∈ ds, 48 ≤ c ∧ c ≤ 57) → (∀ c, r.head? = some c → ¬ (48 ≤ c ∧ c ≤ 57)) → (ds ≠ [] → 0 < valD dn) → valD (dn ++ ds) ≤ 65535 → dooG (ds ++ r) (valD dn) = (valD (dn ++ ds), ds.length)
  | [], dn, r, _, h2, _, _ => by
    rw [List.nil_append, List.append_nil]
    cases r with
    | nil => rfl
    | cons c r => unfold dooG; rw [if_neg (fun z => h2 c rfl ⟨z.2.1, z.2.2.1⟩)]; rfl
  | c :: ds, dn, r, h1, h2, h3, h4 => by
    have hc := h1 c (List.mem_cons_self ..)
    have h0 := h3 (by simp)
    have hle := rqc ds (dn ++ [c])
    rw [List.append_assoc] at hle
    have hle : valD (dn ++ [c]) ≤ valD (dn ++ c :: ds) := hle
    rw [eq8] at hle
    have ih := qqx ds (dn ++ [c]) r (fun x hx => h1 x (List.mem_cons_of_mem _ hx)) h2 (fun _ => by rw [eq8]; omega) (by rw [List.append_assoc]; exact h4)
    rw [eq8, List.append_assoc] at ih
    show dooG (c :: (ds ++ r)) (valD dn) = _
    unfold dooG
    rw [if_pos ⟨h0, hc.1, hc.2, by omega⟩, ih]
    rfl
theorem uqU {o : Option Int} {w r : List Nat} (h : DooW o w) (h1 : ∀ c, r.head? = some c → ¬ (48 ≤ c ∧ c ≤ 57)) (h2 : o = none → r.head? ≠ some 58) : dooM (w ++ r) = .ok (o, w.length) := by
  cases o with
  | none =>
    have h : w = [] := h
    subst h
    unfold dooM
    rw [List.nil_append, if_neg (h2 rfl)]; rfl
  | some n =>
    obtain ⟨ds, rfl, hne, hf, rfl, hl, hz⟩ := h
    cases ds with
    | nil => exact absurd rfl hne
    | cons c ds =>
      have hc := hf c (List.mem_cons_self ..)
      unfold dooM
      rw [if_pos (by simp)]
      show (if 48 ≤ c ∧ c ≤ 57 then (.ok (some ((dooG (ds ++ r) (c - 48)).1 : Int), 2 + (dooG (ds ++ r) (c - 48)).2) : Rs (Option Int)) else .error 1) = _
      have e0 : valD [c] = c - 48 := by unfold valD; simp
      have e := qqx ds [c] r (fun x hx => hf x (List.mem_cons_of_mem _ hx)) h1 (fun hd => by
        rcases hz with z | z
        · cases ds with
          | nil => exact absurd rfl hd
          | cons _ _ => cases z
        · rw [e0]
          have : c ≠ 48 := fun q => z (by rw [q]; rfl)
          omega) hl
      rw [e0] at e
      rw [if_pos hc, e]
      show Except.ok (some ((valD (c :: ds) : Nat) : Int), 2 + ds.length) = _
      simp only [List.length_cons]
      rw [Nat.add_comm 2 ds.length]
theorem sq1 {ss : List (List Nat)} {e : Bool} {v rest : List Nat} (h2 : Stops frS rest) (h3 : rest.head? ≠ some 47) (h : StpW ss e v) : ∀ (f : Nat) (en : Bool), v.length < f → (ss = [] → e = en) → stpF f (v ++ rest) en = .ok ((ss, e), v.length) := by
  have tl : ∀ (ss : List (List Nat)) (e : Bool) (v : List Nat), TlW ss e v → ∀ (s w : List Nat) (f : Nat) (en : Bool), WrT frS s w → s ≠ [] → (w ++ v).length < f → stpF f (w ++ v ++ rest) en = .ok ((s :: ss, e), (w ++ v).length) := by
    intro ss e v ht
    have done : ∀ (f : Nat) (en : Bool), 0 < f → stpF f rest en = .ok (([], en), 0) := fun f en hf => by
      obtain ⟨k, rfl⟩ : ∃ k, f = k + 1 := ⟨f - 1, by omega⟩
      unfold stpF
      rw [hqL h2]; rfl
    have first : ∀ (s w v : List Nat) (f : Nat) (en : Bool), WrT frS s w → s ≠ [] → TlW ss e v → stpF (f + 1) (w ++ v ++ rest) en = if (v ++ rest).head? = some 47 then sh (w.length + 1) (mp (fun x => (s :: x.1, x.2)) (stpF f ((v ++ rest).drop 1) true)) else sh w.length (mp (fun x => (s :: x.1, x.2)) (stpF f (v ++ rest) false)) := fun s w v f en hw hs ht => by
      conv => lhs; unfold stpF
      rw [List.append_assoc, jqY hw (.inl (oqF ht h2)) (fun m z => by cases z)]
      show (if s = [] then _ else _) = _
      rw [if_neg hs, List.drop_left, show (w ++ (v ++ rest)).drop (w.length + 1) = (v ++ rest).drop 1 by rw [← List.drop_drop, List.drop_left]]
    induction ht with
    | stop =>
      intro s w f en hw hs hf
      obtain ⟨k, rfl⟩ : ∃ k, f = k + 1 := ⟨f - 1, by omega⟩
      obtain ⟨c, r, rfl, _⟩ := oqB hw hs
      rw [first s _ [] k en hw hs .stop, List.nil_append, if_neg h3, done k false (by simp at hf; omega), List.append_nil]
      rfl
    | ends =>
      intro s w f en hw hs hf
      obtain ⟨k, rfl⟩ : ∃ k, f = k + 1 := ⟨f - 1, by omega⟩
      rw [first s w [47] k en hw hs .ends]
      show (if (47 :: rest).head? = some 47 then _ else _) = _
      rw [if_pos List.head?_cons]
      show sh (w.length + 1) (mp _ (stpF k rest true)) = _
      rw [done k true (by simp at hf; omega), List.length_append]
      rfl
    | more hw2 hs2 ht2 ih =>
      rename_i s2 w2 ss2 e2 v2
      intro s w f en hw hs hf
      obtain ⟨k, rfl⟩ : ∃ k, f = k + 1 := ⟨f - 1, by omega⟩
      rw [first s w _ k en hw hs (.more hw2 hs2 ht2)]
      show (if (47 :: (w2 ++ v2 ++ rest)).head? = some 47 then _ else _) = _
      rw [if_pos List.head?_cons]
      show sh (w.length + 1) (mp _ (stpF k (w2 ++ v2 ++ rest) true)) = _
      have ih2 := ih (fun s w v f en a b c => by
        conv => lhs; unfold stpF
        rw [List.append_assoc, jqY a (.inl (oqF c h2)) (fun m z => by cases z)]
        show (if s = [] then _ else _) = _
        rw [if_neg b, List.drop_left, show (w ++ (v ++ rest)).drop (w.length + 1) = (v ++ rest).drop 1 by rw [← List.drop_drop, List.drop_left]]) s2 w2 k true hw2 hs2 (by simp only [List.length_append, List.length_cons] at hf ⊢; omega)
      rw [ih2]
      show Except.ok ((s :: s2 :: ss2, e2), w.length + 1 + (w2 ++ v2).length) = _
      simp only [List.length_append, List.length_cons]
      rw [show w.length + 1 + (w2.length + v2.length) = w.length + (w2.length + v2.length + 1) by omega]
  intro f en hf hen
  cases h with
  | none =>
    obtain ⟨k, rfl⟩ : ∃ k, f = k + 1 := ⟨f - 1, by omega⟩
    unfold stpF
    rw [List.nil_append, hqL h2, hen rfl]; rfl
  | some hw hs ht => exact tl _ _ _ ht _ _ f en hw hs hf
theorem wqB {ss : List (List Nat)} {e rt must : Bool} {v rest : List Nat} (h : StpW ss e v) (he : ss = [] → e = rt) (hm : must = true → rt = true) (h2 : Stops frS rest) (h3 : rest.head? ≠ some 47) :
    wayM must ((if rt then [47] else []) ++ (v ++ rest)) = .ok ((rt, ss, e), (if rt then [47] else []).length + v.length) := by
  unfold wayM
  cases rt with
  | true =>
    show (if (47 :: (v ++ rest)).head? = some 47 then _ else _) = _
    rw [if_pos List.head?_cons]
    show sh 1 (mp _ (stpF _ (v ++ rest) true)) = _
    rw [sq1 h2 h3 h _ true (by simp; omega) he]
    rfl
  | false =>
    show (if (v ++ rest).head? = some 47 then _ else _) = _
    rw [if_neg (oqv h h3), if_neg (fun z => by cases hm z)]
    show mp _ (stpF _ (v ++ rest) false) = _
    rw [sq1 h2 h3 h _ false (by simp; omega) he]
    show Except.ok ((false, ss, e), v.length) = Except.ok ((false, ss, e), 0 + v.length)
    rw [Nat.zero_add]
theorem sqV {o : Option (List Nat)} {w r : List Nat} (h : ValW o w) (h1 : Stops frQ r) (h2 : r.head? ≠ some 61) : valM (w ++ r) = .ok (o, w.length) := by
  cases o with
  | none =>
    have h : w = [] := h
    subst h
    unfold valM
    rw [List.nil_append, if_neg h2]; rfl
  | some s =>
    obtain ⟨v, rfl, hv⟩ := h
    unfold valM
    rw [if_pos (by simp)]
    show sh 1 (mp some (txtM frQ (v ++ r) none)) = _
    rw [jqY hv (.inl h1) (fun m z => by cases z)]
    show Except.ok (some s, 1 + v.length) = _
    rw [List.length_cons, Nat.add_comm]
theorem uqY {o : Option (List Nat)} {w : List Nat} (h : MarW o w) : marM w = .ok (o, w.length) := by
  cases o with
  | none =>
    have h : w = [] := h
    subst h
    rfl
  | some s =>
    obtain ⟨v, rfl, hv⟩ := h
    unfold marM
    rw [if_pos (by simp)]
    show sh 1 (mp some (txtM frM v none)) = _
    have := jqY (r := []) hv (.inl gqm) (mo := none) (fun m z => by cases z)
    rw [List.append_nil] at this
    rw [this]
    show Except.ok (some s, 1 + v.length) = _
    rw [List.length_cons, Nat.add_comm]
theorem vqR {rest : List Nat} (hr : rest = [] ∨ ∃ x, rest = 35 :: x) {ps : List (List Nat × Option (List Nat))} {w : List Nat} (h : PrsW ps w) : ∀ f, w.length < f → prsF f (w ++ rest) = .ok (ps, w.length) := by
  induction h with
  | nil =>
    intro f hf
    obtain ⟨k, rfl⟩ : ∃ k, f = k + 1 := ⟨f - 1, by omega⟩
    unfold prsF
    rw [List.nil_append, if_neg (by rcases hr with rfl | ⟨x, rfl⟩ <;> simp)]
    rfl
  | cons hw hn hv hp ih =>
    rename_i n w v o ps r
    intro f hf
    obtain ⟨k, rfl⟩ : ∃ k, f = k + 1 := ⟨f - 1, by omega⟩
    have hst := jqW hp hr
    unfold prsF
    rw [show (38 :: (w ++ (v ++ r)) ++ rest) = 38 :: (w ++ (v ++ (r ++ rest))) by simp, if_pos List.head?_cons]
    have e1 : filM frQ (w ++ (v ++ (r ++ rest))) none = .ok (n, w.length) := by
      unfold filM
      rw [jqY hw (.inl (mqJ hv hst.1)) (fun m z => by cases z)]
      exact if_neg hn
    show sh 1 (bdR (filM frQ (w ++ (v ++ (r ++ rest))) none) _) = _
    rw [e1]
    show sh 1 (sh w.length (bdR (valM ((38 :: (w ++ (v ++ (r ++ rest)))).drop (1 + w.length))) _)) = _
    have d1 : (38 :: (w ++ (v ++ (r ++ rest)))).drop (1 + w.length) = v ++ (r ++ rest) := by rw [Nat.add_comm, List.drop_succ_cons, List.drop_left]
    rw [d1, sqV hv hst.1 hst.2]
    show sh 1 (sh w.length (sh v.length (mp _ (prsF k ((38 :: (w ++ (v ++ (r ++ rest)))).drop (1 + w.length + v.length)))))) = _
    rw [← List.drop_drop, d1, List.drop_left, ih k (by simp only [List.length_cons, List.length_append] at hf; omega)]
    show Except.ok ((n, o) :: ps, 1 + (w.length + (v.length + r.length))) = _
    simp only [List.length_cons, List.length_append]
    rw [Nat.add_comm 1]
theorem wqA {rest : List Nat} (hr : rest = [] ∨ ∃ x, rest = 35 :: x) {q : Option (List (List Nat × Option (List Nat)))} {w : List Nat} (h : QueW q w) : queM (w ++ rest) = .ok (q, w.length) := by
  have h63 : rest.head? ≠ some 63 := by rcases hr with rfl | ⟨x, rfl⟩ <;> simp
  match q, h with
  | none, h =>
    have h : w = [] := h
    subst h
    unfold queM
    rw [List.nil_append, if_neg h63]; rfl
  | some [], h =>
    have h : w = [63] := h
    subst h
    unfold queM
    rw [show [63] ++ rest = 63 :: rest from rfl, if_pos List.head?_cons]
    show sh 1 (bdR (txtM frQ rest none) _) = _
    rw [hqL (show Stops frQ rest from (jqW .nil hr).1)]
    rfl
  | some ((n, o) :: ps), h =>
    obtain ⟨a, v, r, rfl, ha, hn, hv, hps⟩ := h
    have hst := jqW hps hr
    unfold queM
    rw [show (63 :: (a ++ (v ++ r)) ++ rest) = 63 :: (a ++ (v ++ (r ++ rest))) by simp, if_pos List.head?_cons]
    show sh 1 (bdR (txtM frQ (a ++ (v ++ (r ++ rest))) none) _) = _
    rw [jqY ha (.inl (mqJ hv hst.1)) (fun m z => by cases z)]
    show sh 1 (sh a.length (if n = [] then _ else bdR (valM ((63 :: (a ++ (v ++ (r ++ rest)))).drop (1 + a.length))) _)) = _
    have d1 : (63 :: (a ++ (v ++ (r ++ rest)))).drop (1 + a.length) = v ++ (r ++ rest) := by rw [Nat.add_comm, List.drop_succ_cons, List.drop_left]
    rw [if_neg hn, d1, sqV hv hst.1 hst.2]
    show sh 1 (sh a.length (sh v.length (mp _ (prsF _ ((63 :: (a ++ (v ++ (r ++ rest)))).drop (1 + a.length + v.length)))))) = _
    rw [← List.drop_drop, d1, List.drop_left, vqR hr hps _ (by simp only [List.length_cons, List.length_append]; omega)]
    show Except.ok (some ((n, o) :: ps), 1 + (a.length + (v.length + r.length))) = _
    simp only [List.length_cons, List.length_append]
    rw [Nat.add_comm 1]
def RdV (x : Ad) (t : List Nat) : Prop := ∃ h d g w q m, t = schT x.scheme ++ (h ++ (d ++ (g ++ (w ++ (q ++ m))))) ∧ schM t = x.scheme ∧ HouW x.house h ∧ DooW x.door d ∧ (g = (if x.rooted then [47] else []) ∨ (g = [] ∧ x.rooted = true ∧ x.steps = [] ∧ (x.scheme ≠ [] ∨ x.house ≠ none))) ∧ StpW x.steps x.ends w ∧ QueW x.quest q ∧ MarW x.mark m
theorem RdW.v {x : Ad} {t : List Nat} (h : RdW x t) : RdV x t := by
  obtain ⟨h, d, w, q, m, e, es, hH, hD, hS, hQ, hM⟩ := h
  exact ⟨h, d, _, w, q, m, e, es, hH, hD, .inl rfl, hS, hQ, hM⟩
theorem rq3 {x : Ad} {t : List Nat} (hw : RdV x t) (wf : x.Wf) : readM t = .ok x := by
  obtain ⟨hT, dT, gT, wT, qT, mT, et, es, hH, hD, hG, hS, hQ, hM⟩ := hw
  have hmr : mT = [] ∨ ∃ y, mT = 35 :: y := by
    cases hm : x.mark with
    | none => rw [hm] at hM; exact .inl hM
    | some s => rw [hm] at hM; obtain ⟨v, e, _⟩ := hM; exact .inr ⟨v, e⟩
  have hrq : qT ++ mT = [] ∨ (∃ y, qT ++ mT = 35 :: y) ∨ ∃ y, qT ++ mT = 63 :: y := by
    cases hq : x.quest with
    | none =>
      rw [hq] at hQ
      have hQ : qT = [] := hQ
      rw [hQ]
      rcases hmr with e | ⟨y, e⟩
      · exact .inl e
      · exact .inr (.inl ⟨y, e⟩)
    | some ps =>
      rw [hq] at hQ
      cases ps with
      | nil =>
        have hQ : qT = [63] := hQ
        exact .inr (.inr ⟨mT, by rw [hQ]; rfl⟩)
      | cons a ps =>
        obtain ⟨n, o⟩ := a
        obtain ⟨a, v, r, e, _⟩ := hQ
        exact .inr (.inr ⟨_, by rw [e]; rfl⟩)
  have eP : schP t = (schT x.scheme).length := by unfold schP; rw [es]
  have dr : ∀ {a b : List Nat}, t = a ++ b → t.drop a.length = b := fun {a b} e => by rw [e, List.drop_left]
  have hrt : x.house ≠ none → x.rooted = true := fun z => wf.roo (.inr z)
  have hq47 : (qT ++ mT).head? ≠ some 47 := fun z => by rcases hrq with e | ⟨y, e⟩ | ⟨y, e⟩ <;> rw [e] at z <;> cases z
  have hqS : ∀ fr : List Nat, (35 : Nat) ∉ fr → (63 : Nat) ∉ fr → Stops fr (qT ++ mT) := fun fr h1 h2 => by
    rcases hrq with e | ⟨y, e⟩ | ⟨y, e⟩ <;> rw [e]
    · exact gqm
    · exact bqr ⟨by decide, h1, by decide⟩
    · exact bqr ⟨by decide, h2, by decide⟩
  have h47 := oqv hS hq47
  have omtd : gT = [] ∧ x.rooted = true ∧ x.steps = [] ∧ (x.scheme ≠ [] ∨ x.house ≠ none) → wT = [] := fun z => by
    rw [z.2.2.1] at hS
    generalize x.ends = en at hS
    cases hS
    rfl
  have behind : x.house ≠ none → (∃ y, gT ++ (wT ++ (qT ++ mT)) = 47 :: y) ∨ gT ++ (wT ++ (qT ++ mT)) = qT ++ mT := fun z => by
    rcases hG with e | e
    · rw [e, hrt z]; exact .inl ⟨_, rfl⟩
    · rw [e.1, omtd e]; exact .inr rfl
  have e1 : houM (t.drop (schP t)) = .ok (x.house, hT.length) := by
    rw [eP, dr et]
    refine vqC hH (fun hn => ?_) (fun hn => ?_)
    · cases hdo : x.door with
      | none =>
        rw [hdo] at hD
        have hD : dT = [] := hD
        rw [hD, List.nil_append]
        rcases behind hn with ⟨y, e⟩ | e
        · rw [e]; exact bqr ⟨by decide, by simp, by decide⟩
        · rw [e]; exact hqS [] (by simp) (by simp)
      | some n =>
        rw [hdo] at hD
        obtain ⟨ds, rfl, _⟩ := hD
        exact bqr ⟨by decide, by simp, by decide⟩
    · cases hdo : x.door with
      | some n => exact absurd hn (wf.doo n hdo).2
      | none =>
        rw [hdo] at hD
        have hD : dT = [] := hD
        rw [hD, List.nil_append]
        have no : ∀ l : List Nat, l.head? ≠ some 47 → ¬ l.take 2 = [47, 47] ∧ ¬ (47 :: l).take 2 = [47, 47] := fun l hl => by
          cases l with
          | nil => simp
          | cons c l =>
            have hc : c ≠ 47 := fun z => hl (by rw [z]; rfl)
            simp [hc]
        rcases hG with e | e
        · rw [e]
          cases x.rooted with
          | true => exact (no _ h47).2
          | false => exact (no _ h47).1
        · rw [e.1]; exact (no _ h47).1
  have e2 : dorM x.house (t.drop (schP t + hT.length)) = .ok (x.door, dT.length) := by
    rw [eP, ← List.length_append, dr (b := dT ++ (gT ++ (wT ++ (qT ++ mT)))) (by rw [et]; simp)]
    unfold dorM
    by_cases hn : x.house = none
    · rw [if_pos hn]
      cases hdo : x.door with
      | some n => exact absurd hn (wf.doo n hdo).2
      | none =>
        rw [hdo] at hD
        have hD : dT = [] := hD
        rw [hD]; rfl
    · rw [if_neg hn]
      refine uqU hD (fun c hc => ?_) (fun _ => ?_)
      · rcases behind hn with ⟨y, e⟩ | e
        · rw [e] at hc; cases hc; decide
        · rw [e] at hc
          rcases hrq with e | ⟨y, e⟩ | ⟨y, e⟩ <;> rw [e] at hc <;> cases hc <;> decide
      · rcases behind hn with ⟨y, e⟩ | e
        · rw [e]; simp
        · rw [e]
          rcases hrq with e | ⟨y, e⟩ | ⟨y, e⟩ <;> rw [e] <;> simp
  have e3 : wayM (decide (schM t ≠ [] ∨ x.house ≠ none)) (t.drop (schP t + hT.length + dT.length)) = .ok ((x.rooted, x.steps, x.ends), gT.length + wT.length) := by
    rw [eP, ← List.length_append, ← List.length_append, dr (b := gT ++ (wT ++ (qT ++ mT))) (by rw [et]; simp), es]
    rcases hG with e | e
    · rw [e]
      exact wqB hS wf.end_ (fun z => wf.roo (of_decide_eq_true z)) (hqS frS (by decide +kernel) (by decide +kernel)) hq47
    · rw [e.1, omtd e, List.nil_append, List.nil_append]
      unfold wayM
      rw [if_neg hq47, if_pos (decide_eq_true e.2.2.2), wf.end_ e.2.2.1, e.2.1, e.2.2.1]
      rfl
  have e4 : queM (t.drop (schP t + hT.length + dT.length + (gT.length + wT.length))) = .ok (x.quest, qT.length) := by
    rw [eP, ← List.length_append, ← List.length_append, ← List.length_append, ← List.length_append, dr (b := qT ++ mT) (by rw [et]; simp)]
    exact wqA hmr hQ
  have e5 : marM (t.drop (schP t + hT.length + dT.length + (gT.length + wT.length) + qT.length)) = .ok (x.mark, mT.length) := by
    rw [eP, ← List.length_append, ← List.length_append, ← List.length_append, ← List.length_append, ← List.length_append, dr (b := mT) (by rw [et]; simp)]
    exact uqY hM
  rw [sqE e1 e2 e3 e4 e5, if_pos, es]
  rw [eP]
  have := congrArg List.length et
  simp only [List.length_append] at this
  omega
end Wm
namespace Wm
open PySem L2
def sumL (l : List (List Nat)) : Nat := (l.map List.length).sum
theorem bqu (s : List Nat) (l : List (List Nat)) : sumL (s :: l) = s.length + sumL l := by unfold sumL; rw [List.map_cons, List.sum_cons]
theorem rq9 (a b : List (List Nat)) : sumL (a ++ b) = sumL a + sumL b := by unfold sumL; rw [List.map_append, List.sum_append]
theorem qq5 (sep : Nat) : ∀ l : List (List Nat), (tlT sep l).length = sumL l + l.length
  | [] => rfl
  | s :: r => by
    have := qq5 sep r
    rw [bqu, tlT, List.length_cons, List.length_append, List.length_cons]; omega
theorem oqr (sep : Nat) (l : List (List Nat)) : (joinT sep l).length ≤ sumL l + l.length := by
  cases l with
  | nil => exact Nat.zero_le _
  | cons s r =>
    have := qq5 sep r
    rw [bqu, joinT, List.length_append, List.length_cons]; omega
theorem tq3 (l : List (List Nat)) : sumL (l.map wr) ≤ 3 * sumL l := by
  induction l with
  | nil => exact Nat.le_refl _
  | cons s r ih => rw [List.map_cons, bqu, bqu]; have := hql s; omega
theorem nqC : ∀ (f : Nat) {r : List Nat} {e : Bool} {ss : List (List Nat)} {e' : Bool} {n : Nat}, stpF f r e = .ok ((ss, e'), n) → sumL ss ≤ n
  | 0, r, e, ss, e', n, h => by cases h; exact Nat.le_refl _
  | f + 1, r, e, ss, e', n, h => by
    unfold stpF at h
    cases ht : txtM frS r none with
    | error k => rw [ht] at h; cases h
    | ok x =>
      obtain ⟨s, k⟩ := x
      rw [ht] at h
      have h : (if s = [] then (.ok (([], e), k) : Rs (List (List Nat) × Bool)) else if (r.drop k).head? = some 47 then sh (k + 1) (mp (fun x => (s :: x.1, x.2)) (stpF f (r.drop (k + 1)) true)) else sh k (mp (fun x => (s :: x.1, x.2)) (stpF f (r.drop k) false))) = .ok ((ss, e'), n) := h
      have t2 := (dqV ht).2.1
      by_cases hs : s = []
      · rw [if_pos hs] at h; cases h; exact Nat.zero_le _
      rw [if_neg hs] at h
      have fin : ∀ (en : Bool) (k' : Nat), k ≤ k' → sh k' (mp (fun x => (s :: x.1, x.2)) (stpF f (r.drop k') en)) = .ok ((ss, e'), n) → sumL ss ≤ n := fun en k' hkk h => by
        obtain ⟨m, h2, rfl⟩ := gqL h
        obtain ⟨a, h3, ea⟩ := gqr h2
        obtain ⟨as, ae⟩ := a
        cases ea
        have := nqC f h3
        rw [bqu]
        show s.length + sumL as ≤ _
        omega
      by_cases h47 : (r.drop k).head? = some 47
      · rw [if_pos h47] at h; exact fin true (k + 1) (by omega) h
      · rw [if_neg h47] at h; exact fin false k (Nat.le_refl _) h
theorem uqL {must : Bool} {r : List Nat} {n : Nat} {w : Bool × List (List Nat) × Bool} (h : wayM must r = .ok (w, n)) : sumL w.2.1 ≤ n := by
  unfold wayM at h
  by_cases h1 : r.head? = some 47
  · rw [if_pos h1] at h
    obtain ⟨m, h2, rfl⟩ := gqL h
    obtain ⟨a, h3, rfl⟩ := gqr h2
    obtain ⟨as, ae⟩ := a
    have := nqC _ h3
    show sumL as ≤ _
    omega
  · rw [if_neg h1] at h
    by_cases h2 : must = true
    · rw [if_pos h2] at h; cases h; exact Nat.zero_le _
    · rw [if_neg h2] at h
      obtain ⟨a, h3, rfl⟩ := gqr h
      obtain ⟨as, ae⟩ := a
      exact nqC _ h3
def prL (p : List Nat × Option (List Nat)) : Nat := p.1.length + (p.2.getD []).length
def sumP (l : List (List Nat × Option (List Nat))) : Nat := (l.map prL).sum
theorem hqh (p : List Nat × Option (List Nat)) (l : List (List Nat × Option (List Nat))) : sumP (p :: l) = prL p + sumP l := by unfold sumP; rw [List.map_cons, List.sum_cons]
theorem qq4 {r : List Nat} {n : Nat} {o : Option (List Nat)} (h : valM r = .ok (o, n)) : (o.getD []).length ≤ n := by
  unfold valM at h
  by_cases h2 : r.head? = some 61
  · rw [if_pos h2] at h
    obtain ⟨m, e, rfl⟩ := gqL h
    obtain ⟨a, e', rfl⟩ := gqr e
    have := (dqV e').2.1
    show a.length ≤ _
    omega
  · rw [if_neg h2] at h; cases h; exact Nat.zero_le _
theorem qqX : ∀ (f : Nat) {r : List Nat} {l : List (List Nat × Option (List Nat))} {n : Nat}, prsF f r = .ok (l, n) → sumP l ≤ n
  | 0, r, l, n, h => by cases h; exact Nat.le_refl _
  | f + 1, r, l, n, h => by
    unfold prsF at h
    by_cases h2 : r.head? = some 38
    · rw [if_pos h2] at h
      obtain ⟨m, h3, rfl⟩ := gqL h
      obtain ⟨s, k, m2, e1, h4, rfl⟩ := iqP h3
      obtain ⟨v, k2, m3, e2, h5, rfl⟩ := iqP h4
      obtain ⟨l', h6, rfl⟩ := gqr h5
      have i1 := qqX f h6
      have t1 := (dqV (kqm e1).1).2.1
      have v1 := qq4 e2
      rw [hqh]
      show s.length + (v.getD []).length + _ ≤ _
      omega
    · rw [if_neg h2] at h; cases h; exact Nat.zero_le _
theorem tqp {r : List Nat} {n : Nat} {o : Option (List (List Nat × Option (List Nat)))} (h : queM r = .ok (o, n)) : ∀ l, o = some l → sumP l ≤ n := by
  intro l el
  unfold queM at h
  by_cases h2 : r.head? = some 63
  · rw [if_pos h2] at h
    obtain ⟨m, h3, rfl⟩ := gqL h
    obtain ⟨s, k, m2, e1, h4, rfl⟩ := iqP h3
    have h4 : (if s = [] then (.ok (some [], 0) : Rs (Option (List (List Nat × Option (List Nat))))) else bdR (valM (r.drop (1 + k))) fun v m => mp (fun l => some ((s, v) :: l)) (prsF (r.length + 1) (r.drop (1 + k + m)))) = .ok (o, m2) := h4
    by_cases hs : s = []
    · rw [if_pos hs] at h4; cases h4; cases el; exact Nat.zero_le _
    · rw [if_neg hs] at h4
      obtain ⟨v, k2, m3, e2, h5, rfl⟩ := iqP h4
      obtain ⟨l', h6, rfl⟩ := gqr h5
      cases el
      have i1 := qqX _ h6
      have t1 := (dqV e1).2.1
      have v1 := qq4 e2
      rw [hqh]
      show s.length + (v.getD []).length + _ ≤ _
      omega
  · rw [if_neg h2] at h; cases h; cases el
theorem qqp : ∀ ss : List Stp, sumL (bwd ss).2 + 2 * (bwd ss).1 ≤ sumL ss
  | [] => Nat.le_refl _
  | s :: ss => by
    have ih := qqp ss
    rw [jqd, bqu]
    unfold bwd1
    by_cases h1 : s = sUp
    · rw [if_pos h1]
      have : s.length = 2 := by rw [h1]; rfl
      show sumL (bwd ss).2 + 2 * ((bwd ss).1 + 1) ≤ _
      omega
    · rw [if_neg h1]
      by_cases h2 : s ≠ sStay ∧ 0 < (bwd ss).1
      · rw [if_pos h2]
        show sumL (bwd ss).2 + 2 * ((bwd ss).1 - 1) ≤ _
        omega
      · rw [if_neg h2]
        by_cases h3 : s ≠ sStay
        · rw [if_pos h3]
          show sumL (s :: (bwd ss).2) + 2 * (bwd ss).1 ≤ _
          rw [bqu]; omega
        · rw [if_neg h3]; omega
theorem rqC (k : Nat) : sumL (List.replicate k sUp) = 2 * k := by
  induction k with
  | zero => rfl
  | succ k ih => rw [List.replicate_succ, bqu, ih]; show 2 + _ = _; omega
theorem rqV (r : Bool) (ss : List Stp) : sumL (goneS r ss) ≤ sumL ss := by
  have := qqp ss
  rw [lqW, rq9]
  cases r with
  | true => show 0 + _ ≤ _; omega
  | false => show sumL (List.replicate _ sUp) + _ ≤ _; rw [rqC]; omega
theorem pq2 (w : Way) : sumL (goneV w).2.1 ≤ sumL w.2.1 + 1 := by
  unfold goneV goneW
  split
  · exact Nat.zero_le _
  · split
    · split
      · exact Nat.zero_le _
      · show 1 ≤ _; omega
    · have := rqV w.1 w.2.1
      show sumL (goneS w.1 w.2.1) ≤ _
      omega
theorem rqT {l : List (List Nat)} {s : List Nat} (h : s ∈ l) : s.length ≤ sumL l := by
  induction l with
  | nil => cases h
  | cons a l ih =>
    rw [bqu]
    rcases List.mem_cons.mp h with rfl | h
    · omega
    · have := ih h; omega
theorem sqc {l : List (List Nat × Option (List Nat))} {p : List Nat × Option (List Nat)} (h : p ∈ l) : prL p ≤ sumP l := by
  induction l with
  | nil => cases h
  | cons a l ih =>
    rw [hqh]
    rcases List.mem_cons.mp h with rfl | h
    · omega
    · have := ih h; omega
theorem qq9 (l : List (List Nat × Option (List Nat))) : sumL (l.map pairT) ≤ 3 * sumP l + l.length := by
  induction l with
  | nil => exact Nat.le_refl _
  | cons p l ih =>
    rw [List.map_cons, bqu, hqh, List.length_cons]
    have h1 := hql p.1
    have h2 : (oT 61 p.2).length ≤ 1 + 3 * (p.2.getD []).length := by
      cases h : p.2 with
      | none => exact Nat.zero_le _
      | some v => have := hql v; show (61 :: wr v).length ≤ _; simp only [List.length_cons, Option.getD_some]; omega
    have : (pairT p).length ≤ 3 * prL p + 1 := by unfold pairT prL; rw [List.length_append]; omega
    omega
structure Ad.Lim (x : Ad) : Prop where
  stp : sumL x.steps ≤ 1500 ∧ x.steps.length ≤ 1500
  que : ∀ ps, x.quest = some ps → sumP ps ≤ 1500 ∧ ps.length ≤ 1500
  mar : ∀ l, x.mark = some l → l.length ≤ 1500
theorem Ad.Lim.sz {x : Ad} (h : x.Lim) (wf : x.Wf) : x.Sz where
  stp := fun s hs => by have := rqT hs; have := h.stp.1; omega
  que := fun ps e => ⟨by have := (h.que ps e).2; omega, fun p hp => by
    have h1 := sqc hp
    have h2 := (h.que ps e).1
    unfold prL at h1
    refine ⟨by omega, fun v hv => ?_⟩
    rw [hv] at h1
    have h1 : p.1.length + v.length ≤ sumP ps := h1
    omega⟩
  mar := fun l e => by have := h.mar l e; omega
  num := by have := h.stp.2; omega
  all := by
    have a1 : (schT x.scheme).length ≤ 9 := by
      unfold schT
      split
      · simp
      · have := wf.sch.1; simp only [List.length_append, List.length_cons, List.length_nil]; omega
    have a2 : (houT x.house).length ≤ 200 := by
      cases hh : x.house with
      | none => simp [houT]
      | some l => have := (wf.hou l hh).1.2; have := hql l; simp only [houT, List.length_cons]; omega
    have a3 : (dooT x.door).length ≤ 6 := by
      cases hh : x.door with
      | none => simp [dooT]
      | some i => have b := (wf.doo i hh).1; have := nqX b.1 b.2; simp only [dooT, List.length_cons]; omega
    have a4 : x.wayT.length ≤ 7000 := by
      have h1 := oqr 47 (x.steps.map wr)
      have h2 := tq3 x.steps
      rw [List.length_map] at h1
      have := h.stp
      have e1 : (if x.rooted then [47] else [] : List Nat).length ≤ 1 := by split <;> simp
      have e2 : (if x.ends && !x.steps.isEmpty then [47] else [] : List Nat).length ≤ 1 := by split <;> simp
      simp only [Ad.wayT, Wm.wayT, List.length_append]
      omega
    have a5 : (queT x.quest).length ≤ 10000 := by
      cases hq : x.quest with
      | none => simp [queT]
      | some ps =>
        have hk := h.que ps hq
        have h1 := oqr 38 (ps.map pairT)
        have h2 := qq9 ps
        rw [List.length_map] at h1
        simp only [queT, List.length_cons]
        omega
    have a6 := vqX (sep := 35) (n := 1500) (o := x.mark) fun l e => h.mar l e
    simp only [Ad.shw, List.length_append]
    omega
theorem oqC {t : List Nat} {x : Ad} (e : readM t = .ok x) (hl : t.length ≤ 1400) : x.steps.length ≤ 1400 ∧ x.Lim ∧ (plainM x).Lim := by
  obtain ⟨n1, n2, n3, n4, n5, e1, e2, e3, e4, e5, he, es⟩ := oqx e
  have w1 := (pqm e3).2.2.1
  have w2 := uqL e3
  have q1 := pqT e4
  have q2 := tqp e4
  have m1 := sqK e5
  have hq : ∀ ps, x.quest = some ps → sumP ps ≤ 1500 ∧ ps.length ≤ 1500 := fun ps h => by
    have a := q2 ps h
    have b := (q1.2 ps h).2
    omega
  have hm : ∀ l, x.mark = some l → l.length ≤ 1500 := fun l h => by
    obtain ⟨w, a, b⟩ := m1.2 l h
    have := pqE a
    rw [List.length_drop] at b
    omega
  have w1 : x.steps.length ≤ n3 := w1
  have w2 : sumL x.steps ≤ n3 := w2
  refine ⟨by omega, ⟨⟨by omega, by omega⟩, hq, hm⟩, ⟨⟨?_, ?_⟩, hq, hm⟩⟩
  · have := pq2 x.w
    have e : (plainM x).steps = (goneV x.w).2.1 := rfl
    rw [e]
    have : sumL x.w.2.1 = sumL x.steps := rfl
    omega
  · have := pqa x
    omega
theorem gq1 {fr s w : List Nat} (h : WrT fr s w) : w.length ≤ 3 * s.length := by
  induction h with
  | nil => exact Nat.le_refl _
  | self _ _ _ ih => simp only [List.length_cons]; omega
  | pair _ _ ih => simp only [List.length_cons]; omega
end Wm
namespace Wm
open PySem L2
theorem vqj {ns : List Int} : (cutA ns (some 9) (some 39)).length ≤ 30 := by
  unfold cutA
  rw [List.length_take, List.length_drop, show HT.sIx ns.length 0 (some 9) = min 9 ns.length from HT.sIx_nat ns.length 0 9, show HT.sIx ns.length ns.length (some 39) = min 39 ns.length from HT.sIx_nat ns.length ns.length 39]
  omega
theorem oqa : ∀ (ds dn : List Nat), valD dn * 10 ^ ds.length ≤ valD (dn ++ ds)
  | [], dn => by rw [List.append_nil, List.length_nil, Nat.pow_zero, Nat.mul_one]; exact Nat.le_refl _
  | c :: ds, dn => by
    have h := oqa ds (dn ++ [c])
    rw [eq8, List.append_assoc] at h
    refine Nat.le_trans ?_ h
    rw [List.length_cons, Nat.pow_succ, ← Nat.mul_assoc, Nat.mul_right_comm]
    exact Nat.mul_le_mul_right _ (by omega)
theorem tq9 {o : Option Int} {w : List Nat} (h : DooW o w) : w.length ≤ 6 := by
  cases o with
  | none => have h : w = [] := h; rw [h]; exact Nat.zero_le _
  | some n =>
    obtain ⟨ds, rfl, hne, hf, _, hl, hz⟩ := h
    rcases hz with rfl | hz
    · exact by decide
    · cases ds with
      | nil => exact absurd rfl hne
      | cons c ds =>
        have hc := hf c (List.mem_cons_self ..)
        have h49 : c ≠ 48 := fun z => hz (by rw [z]; rfl)
        have h := oqa ds [c]
        have e : valD [c] = c - 48 := by unfold valD; simp
        rw [e] at h
        have h : (c - 48) * 10 ^ ds.length ≤ valD (c :: ds) := h
        by_cases hd : ds.length ≤ 4
        · simp only [List.length_cons]; omega
        · have h2 : 10 ^ 5 ≤ 10 ^ ds.length := Nat.pow_le_pow_right (by decide) (by omega)
          have h3 : 1 * 10 ^ ds.length ≤ (c - 48) * 10 ^ ds.length := Nat.mul_le_mul_right _ (by omega)
          have h4 : (10 : Nat) ^ 5 = 100000 := by decide
          omega
theorem vq3 {ss : List (List Nat)} {e : Bool} {v : List Nat} (h : TlW ss e v) : v.length ≤ 3 * sumL ss + ss.length + 1 := by
  induction h with
  | stop => exact Nat.zero_le _
  | ends => exact Nat.le_refl _
  | more hw _ _ ih =>
    have := gq1 hw
    rw [bqu]
    simp only [List.length_cons, List.length_append]
    omega
theorem tqb {ss : List (List Nat)} {e : Bool} {v : List Nat} (h : StpW ss e v) : v.length ≤ 3 * sumL ss + ss.length + 1 := by
  cases h with
  | none => exact Nat.zero_le _
  | some hw _ ht =>
    have := gq1 hw
    have := vq3 ht
    rw [bqu]
    simp only [List.length_cons, List.length_append]
    omega
theorem qq6 {o : Option (List Nat)} {v : List Nat} (h : ValW o v) (hs : ∀ s, o = some s → s.length ≤ 6) : v.length ≤ 19 := by
  cases o with
  | none => have h : v = [] := h; rw [h]; exact Nat.zero_le _
  | some s =>
    obtain ⟨u, rfl, hu⟩ := h
    have := gq1 hu
    have := hs s rfl
    simp only [List.length_cons]; omega
theorem sq9 {ps : List (List Nat × Option (List Nat))} {r : List Nat} (h : PrsW ps r) (hp : ∀ p ∈ ps, p.1.length ≤ 5 ∧ ∀ v, p.2 = some v → v.length ≤ 6) : r.length ≤ 35 * ps.length := by
  induction h with
  | nil => exact Nat.le_refl _
  | cons hw hn0 hv hq0 ih =>
    rename_i n w v o ps r
    have h1 := hp (n, o) (List.mem_cons_self ..)
    have h2 := gq1 hw
    have h3 := qq6 hv h1.2
    have h4 := ih fun p hp' => hp p (List.mem_cons_of_mem _ hp')
    have h5 : n.length ≤ 5 := h1.1
    simp only [List.length_cons, List.length_append]
    omega
theorem rqN {ss : List (List Nat)} (h : ∀ s ∈ ss, s.length ≤ 9) : sumL ss ≤ 9 * ss.length := by
  induction ss with
  | nil => exact Nat.le_refl _
  | cons s ss ih =>
    have h1 := h s (List.mem_cons_self ..)
    have h2 := ih fun x hx => h x (List.mem_cons_of_mem _ hx)
    rw [bqu, List.length_cons]; omega
theorem uqK {x : Ad} {t : List Nat} (h : RdW x t) (wf : x.Wf) (ti : x.Tiny) (hs : x.steps.length ≤ 30) : t.length ≤ 1399 := by
  obtain ⟨hT, dT, wT, qT, mT, et, _, hH, hD, hS, hQ, hM⟩ := h
  have a1 : (schT x.scheme).length ≤ 9 := by
    unfold schT
    split
    · simp
    · have := wf.sch.1; simp only [List.length_append, List.length_cons, List.length_nil]; omega
  have a2 : hT.length ≤ 50 := by
    cases hh : x.house with
    | none => rw [hh] at hH; have hH : hT = [] := hH; rw [hH]; exact Nat.zero_le _
    | some l =>
      rw [hh] at hH
      obtain ⟨v, rfl, hv, _⟩ := hH
      have := gq1 hv
      have := ti.hou l hh
      simp only [List.length_cons]; omega
  have a3 := tq9 hD
  have a4 := tqb hS
  have a5 := rqN ti.stp
  have a6 : (if x.rooted then [47] else [] : List Nat).length ≤ 1 := by split <;> simp
  have a7 : qT.length ≤ 200 := by
    cases hq : x.quest with
    | none => rw [hq] at hQ; have hQ : qT = [] := hQ; rw [hQ]; exact Nat.zero_le _
    | some ps =>
      rw [hq] at hQ
      have hp := ti.que ps hq
      cases ps with
      | nil => have hQ : qT = [63] := hQ; rw [hQ]; decide
      | cons p ps =>
        obtain ⟨n, o⟩ := p
        obtain ⟨a, v, r, rfl, ha, _, hv, hr⟩ := hQ
        have h1 := hp.2 (n, o) (List.mem_cons_self ..)
        have h2 := gq1 ha
        have h3 := qq6 hv h1.2
        have h4 := sq9 hr fun p hp' => hp.2 p (List.mem_cons_of_mem _ hp')
        have h5 : n.length ≤ 5 := h1.1
        have h6 := hp.1
        simp only [List.length_cons, List.length_append] at h6 ⊢
        omega
  have a8 : mT.length ≤ 30 := by
    cases hm : x.mark with
    | none => rw [hm] at hM; have hM : mT = [] := hM; rw [hM]; exact Nat.zero_le _
    | some l =>
      rw [hm] at hM
      obtain ⟨v, rfl, hv⟩ := hM
      have := gq1 hv
      have := ti.mar l hm
      simp only [List.length_cons]; omega
  have := congrArg List.length et
  simp only [List.length_append] at this
  omega
end Wm
namespace Wm
open PySem L2
def top (i : Nat) : Stmt := PySem.Challenge.pw_waymark_k43_plain_texts_refused.main.body.getD i (.Pass ⟨0, 0, 0, 0⟩)
abbrev eqG : Stmt := top 15
abbrev eqz : Stmt := top 16
abbrev aq9 : Stmt := top 18
abbrev bqc : Stmt := top 19
abbrev dqh : Stmt := top 34
abbrev aqG : Stmt := inClass (top 38) 0
abbrev aqP : Stmt := inClass (top 46) 0
abbrev bqa : Stmt := inClass (top 46) 1
abbrev bqC : Stmt := inClass (top 46) 3
abbrev aq8 : Stmt := inClass (top 46) 4
abbrev cqS : Stmt := top 51
abbrev eqk : Stmt := top 63
abbrev fqA : Stmt := top 70
abbrev gq8 : Stmt := top 73
abbrev bqk : Stmt := top 79
abbrev cqH : Stmt := top 80
abbrev bqG : Stmt := top 82
abbrev bqn : Stmt := top 87
abbrev cqQ : Stmt := top 91
abbrev eqt : Stmt := top 14
abbrev eqp : Stmt := top 17
abbrev eqF : Stmt := top 20
abbrev bqH : Stmt := inClass (top 46) 2
abbrev cqh : Stmt := top 72
abbrev cqR : Stmt := top 81
abbrev bqd : Stmt := top 83
abbrev cqK : Stmt := top 84
abbrev bqo : Stmt := top 88
abbrev cqN : Stmt := top 35
abbrev cqc : Stmt := top 50
abbrev bq0 : Stmt := top 58
abbrev bqF : Stmt := top 61
abbrev cqJ : Stmt := top 62
abbrev bqI : Stmt := top 65
abbrev cqg : Stmt := top 66
abbrev kqc : Stmt := top 71
abbrev dqm : Stmt := top 85
abbrev aqO : Stmt := top 89
abbrev bqj : Stmt := top 48
abbrev bqv : Stmt := top 57
abbrev aqZ : Stmt := top 64
abbrev bqb : Stmt := top 74
abbrev bqm : Stmt := top 86
abbrev cqd : Stmt := top 90
abbrev cqP : Stmt := top 52
abbrev bqz : Stmt := top 54
abbrev bq1 : Stmt := top 55
abbrev aqB : Stmt := top 56
abbrev jqF : Stmt := top 60
abbrev gqY : Stmt := top 76
abbrev bqJ : Stmt := top 49
abbrev aq0 : Stmt := top 53
abbrev jqU : Stmt := top 47
abbrev bq2 : Stmt := top 77
abbrev bq9 : Stmt := top 92
abbrev nql : Stmt := top 93
abbrev qqK : V := .str (Str.ofString " !\"#$&'()*+,-./0123456789:;<=>?@ABCDEFGHIJKLMNOPQRSTUVWXYZ[\\]^_`abcdefghijklmnopqrstuvwxyz{|}~")
abbrev pqC : V := .str (Str.ofString "abcdefghijklmnopqrstuvwxyzABCDEFGHIJKLMNOPQRSTUVWXYZ")
abbrev gqf : V := .str (Str.ofString "abcdefghijklmnopqrstuvwxyzABCDEFGHIJKLMNOPQRSTUVWXYZ0123456789")
abbrev jqV : V := .str (Str.ofString "0123456789")
abbrev nqN : V := .str (Str.ofString "abcdefghijklmnopqrstuvwxyzABCDEFGHIJKLMNOPQRSTUVWXYZ0123456789-_.")
abbrev eqq : V := .str (Str.ofString "!$'()*,;@&=+")
abbrev aq6 : V := .str (Str.ofString "!$'()*,;@+/?:")
abbrev gqs : V := .str (Str.ofString "!$'()*,;@&=+/?:")
abbrev gqO : V := .int 32
abbrev lqo : V := .int 126
abbrev eq9 : V := .int 37
abbrev cqV : V := .str (Str.ofString "0123456789abcdef")
abbrev gqt : V := .str (Str.ofString "0123456789ABCDEF")
abbrev lqg : V := .int 0
abbrev rqa : V := .int 1
abbrev sqR : V := .int 2
abbrev uqC : V := .int 3
abbrev lqc : V := .int 4
abbrev vqI : V := .int 5
abbrev jqe : V := .int 0
abbrev qqj : V := .int 1
abbrev sqw : V := .int 2
abbrev iq1 : V := .int 8
abbrev jqS : V := .int 60
abbrev nqw : V := .int 65535
abbrev gqh : V := .str (Str.ofString "234567")
abbrev nqP : V := .str (Str.ofString ".")
abbrev k_UP : V := .str (Str.ofString "..")
set_option genInjectivity false
set_option genSizeOf false
set_option genSizeOfSpec false
structure G (K : PySem.W.Frag) (mg : Str → Option Value) where
  hqP : Addr
  gqB : FuncData
  fq3 : Fun K "made_of" "made_of" eqG hqP gqB
  hqk : mg "made_of" = some (.ref hqP)
  hqF : Binds K gqB ["text", "signs"] []
  hqu : Addr
  gqx : FuncData
  jqG : Fun K "pair_of" "pair_of" eqz hqu gqx
  lq6 : mg "pair_of" = some (.ref hqu)
  mqk : Binds K gqx ["sign"] []
  cqX : Addr
  cqF : FuncData
  cqZ : Fun K "figure_number" "figure_number" aq9 cqX cqF
  eqs : mg "figure_number" = some (.ref cqX)
  eqo : Binds K cqF ["figure"] []
  cq9 : Addr
  cqB : FuncData
  eqw : Fun K "sign_numbered" "sign_numbered" bqc cq9 cqB
  gqd : mg "sign_numbered" = some (.ref cq9)
  gqj : Binds K cqB ["number"] []
  gqG : Addr
  fqI : FuncData
  iqc : Fun K "is_whole" "is_whole" dqh gqG fqI
  kqX : mg "is_whole" = some (.ref gqG)
  kqW : Binds K fqI ["address"] []
  bqq : Addr
  bqi : FuncData
  dqW : Fun K "__init__" "NoAddress.__init__" aqG bqq bqi
  aqF : Binds K bqi ["self", "at"] []
  cqj : Addr
  bqU : FuncData
  eq7 : Fun K "__init__" "Cursor.__init__" aqP cqj bqU
  fqh : Binds K bqU ["self", "text"] []
  cqW : Addr
  cqz : FuncData
  fq1 : Fun K "at_end" "Cursor.at_end" bqa cqW cqz
  eqx : Binds K cqz ["self"] []
  dq9 : Addr
  dqo : FuncData
  hqR : Fun K "take" "Cursor.take" bqC dq9 dqo
  cqr : Binds K dqo ["self"] []
  dqe : Addr
  cqD : FuncData
  gqu : Fun K "passes" "Cursor.passes" aq8 dqe cqD
  aqD : Binds K cqD ["self", "text"] []
  fqk : Addr
  eqP : FuncData
  fqr : Fun K "door_with" "door_with" cqS fqk eqP
  hqb : mg "door_with" = some (.ref fqk)
  gq4 : Binds K eqP ["door", "cursor"] []
  hqs : Addr
  gqH : FuncData
  jqy : Fun K "slashed" "slashed" eqk hqs gqH
  lq8 : mg "slashed" = some (.ref hqs)
  mqp : Binds K gqH ["rooted", "texts", "ends"] []
  jqh : Addr
  hqg : FuncData
  lqw : Fun K "is_dot" "is_dot" fqA jqh hqg
  nqR : mg "is_dot" = some (.ref jqh)
  nq9 : Binds K hqg ["step"] []
  lqH : Addr
  jqa : FuncData
  nqv : Fun K "go_up" "go_up" gq8 lqH jqa
  pq3 : mg "go_up" = some (.ref lqH)
  qqU : Binds K jqa ["left", "rooted"] []
  dqz : Addr
  dqc : FuncData
  aqK : Fun K "_law_cell_at" "_law_cell_at" bqk dqz dqc
  aqS : mg "_law_cell_at" = some (.ref dqz)
  aqR : Binds K dqc ["_law_script", "_law_k"] []
  fqp : Addr
  eqT : FuncData
  cqM : Fun K "_law_text" "_law_text" cqH fqp eqT
  dqi : mg "_law_text" = some (.ref fqp)
  dqk : Binds K eqT ["_law_cell", "_law_most"] []
  dq3 : Addr
  dqy : FuncData
  fqC : Fun K "_law_scheme" "_law_scheme" bqG dq3 dqy
  hqd : mg "_law_scheme" = some (.ref dq3)
  hqf : Binds K dqy ["_law_cell"] []
  dqw : Addr
  cq1 : FuncData
  eq1 : Fun K "_law_pair_of" "_law_pair_of" bqn dqw cq1
  gqM : mg "_law_pair_of" = some (.ref dqw)
  gqS : Binds K cq1 ["_law_sign", "_law_great"] []
  fqF : Addr
  eqZ : FuncData
  gq0 : Fun K "_law_bent" "_law_bent" cqQ fqF eqZ
  jqw : mg "_law_bent" = some (.ref fqF)
  jq4 : Binds K eqZ ["_law_text_here", "_law_cell"] []
  hqq : Addr
  gqF : FuncData
  kqg : Fun K "is_text" "is_text" eqt hqq gqF
  nqc : mg "is_text" = some (.ref hqq)
  mqh : Binds K gqF ["thing"] []
  hqw : Addr
  gqy : FuncData
  jqN : Fun K "sign_of" "sign_of" eqp hqw gqy
  mq4 : mg "sign_of" = some (.ref hqw)
  mqX : Binds K gqy ["figures"] []
  hqU : Addr
  gqA : FuncData
  dqE : Fun K "written" "written" eqF hqU gqA
  eqC : mg "written" = some (.ref hqU)
  eqr : Binds K gqA ["text"] []
  eqd : Addr
  dqv : FuncData
  hqQ : Fun K "sees" "Cursor.sees" bqH eqd dqv
  cq8 : Binds K dqv ["self", "signs"] []
  eqL : Addr
  dq4 : FuncData
  gqn : Fun K "steps_left" "steps_left" cqh eqL dq4
  iqz : mg "steps_left" = some (.ref eqL)
  iqC : Binds K dq4 ["steps", "rooted"] []
  fqt : Addr
  eqR : FuncData
  gq5 : Fun K "_law_step" "_law_step" cqR fqt eqR
  jqx : mg "_law_step" = some (.ref fqt)
  jqo : Binds K eqR ["_law_cell"] []
  cq6 : Addr
  cqE : FuncData
  eqn : Fun K "_law_question" "_law_question" bqd cq6 cqE
  fq8 : mg "_law_question" = some (.ref cq6)
  gqi : Binds K cqE ["_law_cell"] []
  fqH : Addr
  eqQ : FuncData
  gq9 : Fun K "_law_mark" "_law_mark" cqK fqH eqQ
  kqq : mg "_law_mark" = some (.ref fqH)
  jqD : Binds K eqQ ["_law_cell"] []
  dqB : Addr
  cq4 : FuncData
  bql : Fun K "_law_written" "_law_written" bqo dqB cq4
  bqN : mg "_law_written" = some (.ref dqB)
  bqM : Binds K cq4 ["_law_text_here", "_law_free", "_law_bits"] []
  fqi : Addr
  eqU : FuncData
  gq2 : Fun K "is_scheme" "is_scheme" cqN fqi eqU
  jqm : mg "is_scheme" = some (.ref fqi)
  jqj : Binds K eqU ["thing"] []
  eqV : Addr
  dq2 : FuncData
  fqZ : Fun K "taken_door" "taken_door" cqc eqV dq2
  iqQ : mg "taken_door" = some (.ref eqV)
  iqu : Binds K dq2 ["cursor"] []
  eqW : Addr
  eqc : FuncData
  fq9 : Fun K "taken_pair" "taken_pair" bq0 eqW eqc
  iqA : mg "taken_pair" = some (.ref eqW)
  iqN : Binds K eqc ["cursor"] []
  dqZ : Addr
  dqC : FuncData
  fqE : Fun K "shown_house" "shown_house" bqF dqZ dqC
  hqA : mg "shown_house" = some (.ref dqZ)
  hqm : Binds K dqC ["house", "door"] []
  fqo : Addr
  eqN : FuncData
  gq3 : Fun K "shown_way" "shown_way" cqJ fqo eqN
  jqR : mg "shown_way" = some (.ref fqo)
  jqB : Binds K eqN ["way"] []
  dq1 : Addr
  dqq : FuncData
  fqv : Fun K "shown_asked" "shown_asked" bqI dq1 dqq
  hqB : mg "shown_asked" = some (.ref dq1)
  hqr : Binds K dqq ["name", "value"] []
  eqM : Addr
  dq8 : FuncData
  fqT : Fun K "shown_mark" "shown_mark" cqg eqM dq8
  iqH : mg "shown_mark" = some (.ref eqM)
  iqR : Binds K dq8 ["mark"] []
  oqp : Addr
  lqX : FuncData
  pqK : Fun K "gone" "gone" kqc oqp lqX
  sqt : mg "gone" = some (.ref oqp)
  sqo : Binds K lqX ["way"] []
  gqJ : Addr
  fqs : FuncData
  iqq : Fun K "_law_way" "_law_way" dqm gqJ fqs
  kqT : mg "_law_way" = some (.ref gqJ)
  kq0 : Binds K fqs ["_law_cells", "_law_rooted", "_law_ends"] []
  cqo : Addr
  bqT : FuncData
  dqg : Fun K "_law_asked_text" "_law_asked_text" aqO cqo bqT
  fqa : mg "_law_asked_text" = some (.ref cqo)
  fqd : Binds K bqT ["_law_question_here", "_law_bits"] []
  dqu : Addr
  cq0 : FuncData
  eq2 : Fun K "taken_scheme" "taken_scheme" bqj dqu cq0
  gqN : mg "taken_scheme" = some (.ref dqu)
  gqW : Binds K cq0 ["cursor"] []
  eqI : Addr
  dqa : FuncData
  iqt : Addr
  kqy : Tok
  bqx : FunD K "taken_text" "taken_text" bqv eqI dqa iqt
  cql : Binds K dqa ["cursor", "free", "most"] [.none]
  bq8 : mg "taken_text" = some (.ref eqI)
  iqD : Binds K dqa ["cursor", "free", "most"] []
  cqA : Addr
  cqq : FuncData
  dqQ : Fun K "shown_question" "shown_question" aqZ cqA cqq
  fqO : mg "shown_question" = some (.ref cqA)
  fqQ : Binds K cqq ["question"] []
  cq5 : Addr
  cqG : FuncData
  eqy : Fun K "with_way_gone" "with_way_gone" bqb cq5 cqG
  fq4 : mg "with_way_gone" = some (.ref cq5)
  gqv : Binds K cqG ["address"] []
  dqp : Addr
  cqY : FuncData
  eq3 : Fun K "_law_address" "_law_address" bqm dqp cqY
  gqT : mg "_law_address" = some (.ref dqp)
  gqP : Binds K cqY ["_law_script", "_law_first", "_law_whole", "_law_cells"] []
  eqS : Addr
  dq0 : FuncData
  gqo : Fun K "_law_shown" "_law_shown" cqd eqS dq0
  iqF : mg "_law_shown" = some (.ref eqS)
  iqJ : Binds K dq0 ["_law_address_here", "_law_bits"] []
  fqx : Addr
  eqX : FuncData
  gq7 : Fun K "taken_way" "taken_way" cqP fqx eqX
  jq2 : mg "taken_way" = some (.ref fqx)
  jqu : Binds K eqX ["cursor", "must_be_rooted"] []
  dq7 : Addr
  dqx : FuncData
  dq6 : Fun K "taken_value" "taken_value" bqz dq7 dqx
  fqj : mg "taken_value" = some (.ref dq7)
  fqJ : Binds K dqx ["cursor"] []
  eqY : Addr
  eqf : FuncData
  gql : Fun K "taken_mark" "taken_mark" bq1 eqY eqf
  iqy : mg "taken_mark" = some (.ref eqY)
  iqw : Binds K eqf ["cursor"] []
  bqy : Addr
  aq2 : FuncData
  equ : Addr
  fqY : Tok
  bqE : FunD K "taken_filled_text" "taken_filled_text" aqB bqy aq2 equ
  dqX : Binds K aq2 ["cursor", "free", "most"] [.none]
  cqI : mg "taken_filled_text" = some (.ref bqy)
  eqD : Binds K aq2 ["cursor", "free", "most"] []
  oqc : Addr
  lqe : FuncData
  nq3 : Fun K "show" "show" jqF oqc lqe
  pqS : mg "show" = some (.ref oqc)
  pqF : Binds K lqe ["address"] []
  lqS : Addr
  fd_plain : FuncData
  lqZ : Fun K "plain" "plain" gqY lqS fd_plain
  nqp : mg "plain" = some (.ref lqS)
  nqn : Binds K fd_plain ["address"] []
  eqa : Addr
  dqs : FuncData
  fqq : Fun K "taken_house" "taken_house" bqJ eqa dqs
  hqW : mg "taken_house" = some (.ref eqa)
  hqX : Binds K dqs ["cursor"] []
  cqC : Addr
  cqk : FuncData
  dqL : Fun K "taken_question" "taken_question" aq0 cqC cqk
  fqL : mg "taken_question" = some (.ref cqC)
  fqN : Binds K cqk ["cursor"] []
  oqm : Addr
  lqA : FuncData
  mqA : Fun K "read" "read" jqU oqm lqA
  oqk : mg "read" = some (.ref oqm)
  nqT : Binds K lqA ["text"] []
  eqJ : Addr
  eqb : FuncData
  cqU : Fun K "plain_text" "plain_text" bq2 eqJ eqb
  dqK : mg "plain_text" = some (.ref eqJ)
  dqG : Binds K eqb ["text"] []
  eq0 : Addr
  dq5 : FuncData
  dqJ : Fun K "_law_place" "_law_place" bq9 eq0 dq5
  eqK : mg "_law_place" = some (.ref eq0)
  eqO : Binds K dq5 ["_law_thing", "_law_plainly"] []
  rqj : Addr
  mqt : FuncData
  wqv : Fun K "law" "law" nql rqj mqt
  wqQ : mg "law" = some (.ref rqj)
  wqH : Binds K mqt ["_law_script"] []
  aqs : Addr
  aqi : Cls K aqs
  aq4 : NoAttr K aqs "text"
  aqp : NoAttr K aqs "place"
  nqZ : mg "Cursor" = some (.ref aqs)
  nqU : Mk K aqs cqj
  dqO : Meth K aqs "at_end" cqW
  bqP : Meth K aqs "take" dq9
  aqA : Meth K aqs "passes" dqe
  cqy : Meth K aqs "sees" eqd
  jqi : Tok
  nqL : mg "SIGNS" = some (.str (Str.ofString " !\"#$&'()*+,-./0123456789:;<=>?@ABCDEFGHIJKLMNOPQRSTUVWXYZ[\\]^_`abcdefghijklmnopqrstuvwxyz{|}~") jqi)
  gqg : Tok
  mqg : mg "LETTERS" = some (.str (Str.ofString "abcdefghijklmnopqrstuvwxyzABCDEFGHIJKLMNOPQRSTUVWXYZ") gqg)
  aqU : Tok
  dqI : mg "LETTERS_AND_FIGURES" = some (.str (Str.ofString "abcdefghijklmnopqrstuvwxyzABCDEFGHIJKLMNOPQRSTUVWXYZ0123456789") aqU)
  fq7 : Tok
  jqq : mg "FIGURES" = some (.str (Str.ofString "0123456789") fq7)
  jqT : Tok
  nqu : mg "PLAIN" = some (.str (Str.ofString "abcdefghijklmnopqrstuvwxyzABCDEFGHIJKLMNOPQRSTUVWXYZ0123456789-_.") jqT)
  bqY : Tok
  eqj : mg "FREE_IN_STEPS" = some (.str (Str.ofString "!$'()*,;@&=+") bqY)
  bqf : Tok
  bqD : mg "FREE_IN_QUESTIONS" = some (.str (Str.ofString "!$'()*,;@+/?:") bqf)
  bq6 : Tok
  fq6 : mg "FREE_IN_MARKS" = some (.str (Str.ofString "!$'()*,;@&=+/?:") bq6)
  cqu : Tok
  eq4 : mg "FIRST_NUMBER" = some (.int 32 cqu)
  cq2 : Tok
  hqK : mg "LAST_NUMBER" = some (.int 126 cq2)
  bqs : Tok
  dql : mg "NUMBER_LEFT_OUT" = some (.int 37 bqs)
  cqb : Tok
  bqX : mg "SMALL_FIGURES" = some (.str (Str.ofString "0123456789abcdef") cqb)
  cqe : Tok
  eql : mg "GREAT_FIGURES" = some (.str (Str.ofString "0123456789ABCDEF") cqe)
  hqT : Tok
  jqg : mg "SCHEME" = some (.int 0 hqT)
  jqM : Tok
  nqE : mg "HOUSE" = some (.int 1 jqM)
  lq9 : Tok
  qq1 : mg "DOOR" = some (.int 2 lq9)
  qqO : Tok
  rq4 : mg "WAY" = some (.int 3 qqO)
  fqe : Tok
  iqo : mg "QUESTION" = some (.int 4 fqe)
  mqe : Tok
  sqL : mg "MARK" = some (.int 5 mqe)
  hqo : Tok
  hqc : mg "ROOTED" = some (.int 0 hqo)
  jqL : Tok
  nqO : mg "STEPS" = some (.int 1 jqL)
  mqo : Tok
  qqL : mg "ENDS" = some (.int 2 mqo)
  bqK : Tok
  fqS : mg "LONGEST_SCHEME" = some (.int 8 bqK)
  bq7 : Tok
  gqq : mg "LONGEST_HOUSE" = some (.int 60 bq7)
  eqA : Tok
  kqe : mg "LAST_DOOR" = some (.int 65535 eqA)
  cqf : Tok
  fqX : mg "FIRST_FIGURES" = some (.str (Str.ofString "234567") cqf)
  lq7 : Tok
  nq7 : mg "STAY" = some (.str (Str.ofString ".") lq7)
  t_UP : Tok
  c_UP : mg "UP" = some (.str (Str.ofString "..") t_UP)
  uq1 : mg "all" = none
  sqj : mg "ord" = none
  iqS : mg "len" = none
  oq9 : mg "int" = none
  lqV : mg "range" = none
  cqT : mg "isinstance" = none
  pqt : mg "str" = none
  iqr : mg "tuple" = none
  iqE : mg "ValueError" = none
  aqt : Addr
  bq4 : mg "NoAddress" = some (.ref aqt)
  gqE : Addr
  kqS : mg "WayError" = some (.ref gqE)
  fqb : Addr
  mqZ : mg "NoValue" = some (.ref fqb)
  hq7 : Addr
  qqm : mg "NoRow" = some (.ref hq7)
  dqj : Addr
  jq3 : mg "NoPattern" = some (.ref dqj)
  gqz : Addr
  nqV : mg "NoName" = some (.ref gqz)
  gqD : Addr
  oqG : mg "NoBase" = some (.ref gqD)
  kq2 : Catch K gqE
  cqO : ExLook K aqt
  cqL : Mk1 K aqt bqq
  fq0 : ExSt K aqt "at"
  eqm : ExFld K aqt "at"
  cqt : PySem.W.subIn K (.ref aqt) (.ref gqE) = some true
  bqV : PySem.W.kitOne K (.ref aqt) (.ref aqt) = some true
  bqQ : PySem.W.kitOne K (.ref aqt) (.type "ValueError") = some true
  aqx : PySem.W.kitAny K (.ref aqt) [.ref gqD, .ref gqz, .ref dqj, .ref hq7, .ref fqb] = some false
def oqJ : Sp := fun vs H Q _ => ∃ x y : Str, vs = [.str x, .str y] ∧ x.length ≤ 100000 ∧ ∀ H', Same H H' → Q (.bl (x.cps.toList.all fun c => decide (c ∈ y.cps.toList))) H'
def kq3 : Sp := fun vs H Q _ => ∃ c : Nat, vs = [one c] ∧ c < 256 ∧ Q (.str ⟨[126, hexd (c / 16), hexd (c % 16)].toArray⟩) H
def fqM : Sp := fun vs H Q _ => ∃ a : Nat, vs = [one a] ∧ a < 128 ∧ Q (figV a) H
def iqV : Sp := fun vs H Q _ => ∃ n : Nat, vs = [.int (n : Int)] ∧ Q (sgV n) H
def nqG (K : PySem.W.Frag) : Sp := fun vs H Q _ => ∃ (p : Addr) (l : List Nat) (r : List V), vs = [.ref p] ∧ SqT K H p (.str ⟨l.toArray⟩ :: r) ∧ Q (.bl (!decide (l = []))) H
def dqF (K : PySem.W.Frag) (C : Addr) : Sp := fun vs H Q _ => ∃ (a : Addr) (v : V), vs = [.ref a, v] ∧ H a = some (exNew a C) ∧ ∀ d, H d = none → Q .non (upd (upd H a (exSet a C d)) d (.xd [("at", v)]))
theorem eqe {K : PySem.W.Frag} {C : Addr} {H : Hp} {E : XK} {v : V} (hE : ∀ d H', Same H H' → H' d = some (.xd [("at", v)]) → E (.ref C) (some d) H') : ∀ a, H a = none → dqF K C [.ref a, v] (upd H a (exNew a C)) (fun u H2 => u = .non ∧ ∃ d, H2 a = some (exSet a C d) ∧ E (.ref C) (some d) (forget H2 a)) E0 := by
  intro a ha
  refine ⟨a, v, rfl, aql, fun d hd => ?_⟩
  have hda : d ≠ a := fun z => by rw [z, aql] at hd; cases hd
  rw [aqu hda] at hd
  refine ⟨rfl, d, by rw [aqu hda.symm, aql], hE d _ (fun b o e => ?_) ?_⟩
  · have ba : b ≠ a := aqr e ha
    rw [cq3 ba, aqu (aqr e hd), aqu ba, aqu ba]
    exact e
  · rw [cq3 hda, aql]
def hqM (K : PySem.W.Frag) (C : Addr) : Sp := fun vs H Q _ => ∃ (p dx : Addr) (t : List Nat), vs = [.ref p, .str ⟨t.toArray⟩] ∧ H p = some (.ins C dx []) ∧ ∀ H', SameBut p H H' → Cur H' C p t 0 → Q .non H'
def iq4 (K : PySem.W.Frag) (C : Addr) : Sp := fun vs H Q _ => ∃ (p : Addr) (t : List Nat) (i : Nat), vs = [.ref p] ∧ Cur H C p t i ∧ t.length ≤ 100000 ∧ Q (.bl (decide (i = t.length))) H
def kqx (K : PySem.W.Frag) (C : Addr) : Sp := fun vs H Q _ => ∃ (p : Addr) (t : List Nat) (i c : Nat), vs = [.ref p] ∧ Cur H C p t i ∧ t[i]? = some c ∧ t.length ≤ 100000 ∧ ∀ H', SameBut p H H' → Cur H' C p t (i + 1) → Q (.str ⟨#[c]⟩) H'
def dqM (K : PySem.W.Frag) (C : Addr) : Sp := fun vs H Q _ => ∃ (p : Addr) (t w : List Nat) (i : Nat), vs = [.ref p, .str ⟨w.toArray⟩] ∧ Cur H C p t i ∧ i ≤ t.length ∧ t.length ≤ 100000 ∧ ((t.drop i).take w.length = w → ∀ H', SameBut p H H' → Cur H' C p t (i + w.length) → Q (.bl true) H') ∧ (¬ (t.drop i).take w.length = w → Q (.bl false) H)
def mq0 (K : PySem.W.Frag) (C : Addr) : Sp := fun vs H Q _ => ∃ (p : Addr) (t : List Nat) (i c n : Nat), vs = [.int (n : Int), .ref p] ∧ Cur H C p t i ∧ t.length ≤ 100000 ∧ t[i]? = some c ∧ 48 ≤ c ∧ c ≤ 57 ∧ n ≤ 100000 ∧ Q (.int ((n * 10 + (c - 48) : Nat) : Int)) H
def oqH (K : PySem.W.Frag) : Sp := fun vs H Q _ => ∃ (r e : Bool) (p : Addr) (ts : List (List Nat)), vs = [.bl r, .ref p, .bl e] ∧ SqL K H p (ts.map fun l => V.str ⟨l.toArray⟩) ∧ (joinT 47 ts).length ≤ 90000 ∧ Q (.str ⟨(slT r ts e).toArray⟩) H
def qq0 : Sp := fun vs H Q _ => ∃ s : Stp, vs = [sV s] ∧ Q (.bl (isDot s)) H
def rqJ (K : PySem.W.Frag) : Sp := fun vs H Q _ => ∃ (p : Addr) (L : List Stp) (r : Bool), vs = [.ref p, .bl r] ∧ H p = some (.lst (L.map sV)) ∧ L.length ≤ 2000 ∧ Q .non (upd H p (.lst ((goUp r L).map sV)))
def jqA (K : PySem.W.Frag) : Sp := fun vs H Q _ => ∃ (a : Addr) (ns : List Int) (k : Nat), vs = [.ref a, .int (k : Int)] ∧ SqL K H a (ns.map V.int) ∧ Q (.int (ns.getD k 0)) H
def mq5 : Sp := fun vs H Q _ => ∃ (c m : Int), vs = [.int c, .int m] ∧ 0 < m ∧ m ≤ 60 ∧ ∀ l : List Nat, 0 < l.length → (l.length : Int) ≤ m → (∀ c ∈ l, isSg c = true) → Q (sV l) H
def kqI : Sp := fun vs H Q _ => ∃ c : Int, vs = [.int c] ∧ ∀ l : List Nat, 0 < l.length → l.length ≤ 8 → (∀ c ∈ l, isAln c = true) → (∀ c ∈ l.take 1, isLet c = true) → Q (.str ⟨l.toArray⟩) H
def fqU : Sp := fun vs H Q _ => ∃ (c : Nat) (g : Bool), vs = [.str ⟨#[c]⟩, .bl g] ∧ isSg c = true ∧ ∀ a b, sgO a b = some c → Q (.str ⟨[126, a, b].toArray⟩) H
def mqL (K : PySem.W.Frag) : Sp := fun vs H Q _ => ∃ (t : List Nat) (c : Int), vs = [.str ⟨t.toArray⟩, .int c] ∧ 0 ≤ c ∧ t.length ≤ 1399 ∧ (∀ c ∈ t, c < 128) ∧ ∀ t' : List Nat, t'.length ≤ 1400 → (∀ c ∈ t', c < 128) → Q (.str ⟨t'.toArray⟩) H
def oqX : Sp := fun vs H Q _ => ∃ (d : PyData) (v : V), vs = [v] ∧ Is H d v ∧ smallD d = true ∧ ∀ H', Same H H' → Q (.bl (tx d)) H'
def lqa : Sp := fun vs H Q _ => ∃ l : List Nat, vs = [.str ⟨l.toArray⟩] ∧ l.length ≤ 1000 ∧ (∀ c ∈ l, c < 128) ∧ Q (signOfL l) H
def fqg : Sp := fun vs H Q _ => ∃ l : List Nat, vs = [.str ⟨l.toArray⟩] ∧ l.length ≤ 2000 ∧ (∀ c ∈ l, isSg c = true) ∧ ∀ H', Same H H' → Q (.str ⟨(wr l).toArray⟩) H'
def kqC (K : PySem.W.Frag) (C : Addr) : Sp := fun vs H Q _ => ∃ (p : Addr) (t sg : List Nat) (i : Nat), vs = [.ref p, .str ⟨sg.toArray⟩] ∧ Cur H C p t i ∧ i ≤ t.length ∧ t.length ≤ 100000 ∧ Q (.bl (seesB t sg i)) H
def lqj (K : PySem.W.Frag) : Sp := fun vs H Q _ => ∃ (ps : Addr) (ss : List Stp) (r : Bool), vs = [.ref ps, .bl r] ∧ SqT K H ps (ss.map sV) ∧ ss.length ≤ 2000 ∧ ∀ p H', Same H H' → H' p = some (.tup ((goneS r ss).map sV)) → Q (.ref p) H'
def iqK : Sp := fun vs H Q _ => ∃ c : Int, vs = [.int c] ∧ ∀ (l : List Nat) (H' : Hp), Same H H' → 0 < l.length → l.length ≤ 9 → (∀ c ∈ l, isSg c = true) → Q (sV l) H'
def iq2 : Sp := fun vs H Q _ => ∃ c : Int, vs = [.int c] ∧ ∀ (q : Option (List (List Nat × Option (List Nat)))) (v : V) (H' : Hp), QOk q → Same H H' → IsT H' (qD q) v → Q v H'
def mqI : Sp := fun vs H Q _ => ∃ c : Int, vs = [.int c] ∧ ∀ o : Option (List Nat), (∀ l, o = some l → l.length ≤ 7 ∧ ∀ c ∈ l, isSg c = true) → Q (otV o) H
def gqc : Sp := fun vs H Q _ => ∃ (s fr : List Nat) (q : Addr) (n : Nat), vs = [.str ⟨s.toArray⟩, .str ⟨fr.toArray⟩, .ref q] ∧ Bt H q n ∧ n ≤ 90000 ∧ s.length ≤ 2000 ∧ (∀ c ∈ s, isSg c = true) ∧ fr.length ≤ 100 ∧ (126 : Nat) ∉ fr ∧ ∀ (w : List Nat) (H' : Hp), WrT fr s w → w.length ≤ 3 * s.length → SameBut q H H' → Bt H' q (n + s.length) → Q (.str ⟨w.toArray⟩) H'
def lq2 : Sp := fun vs H Q _ => ∃ (d : PyData) (v : V), vs = [v] ∧ Is H d v ∧ smallD d = true ∧ ∀ H', Same H H' → Q (.bl (schD d)) H'
def kqA (K : PySem.W.Frag) (C CN : Addr) : Sp := fun vs H Q E => ∃ (p : Addr) (t : List Nat) (i : Nat), vs = [.ref p] ∧ Cur H C p t i ∧ i ≤ t.length ∧ t.length ≤ 100000 ∧ (∀ c ∈ t, c < 128) ∧ Tk CN H C p t i (dooM (t.drop i)) (fun o H' => Q (itV o) H') E
def kqP (K : PySem.W.Frag) (C CN : Addr) : Sp := fun vs H Q E => ∃ (p : Addr) (t : List Nat) (i : Nat), vs = [.ref p] ∧ Cur H C p t i ∧ i ≤ t.length ∧ t.length ≤ 100000 ∧ (∀ c ∈ t, c < 128) ∧ Tk CN H C p t i (prM (t.drop i)) (fun c H' => Q (.str ⟨#[c]⟩) H') E
def kqz : Sp := fun vs H Q _ => ∃ (o : Option (List Nat)) (d : Option Int), vs = [otV o, itV d] ∧ (∀ l, o = some l → l.length ≤ 60 ∧ ∀ c ∈ l, isSg c = true) ∧ (∀ i, d = some i → (0 ≤ i ∧ i ≤ 65535) ∧ o ≠ none) ∧ ∀ H', Same H H' → Q (.str ⟨(houT o ++ dooT d).toArray⟩) H'
def mqf (K : PySem.W.Frag) : Sp := fun vs H Q _ => ∃ (r e : Bool) (ss : List (List Nat)) (p q : Addr), vs = [.ref p] ∧ SqT K H p [.bl r, .ref q, .bl e] ∧ SqT K H q (ss.map fun l => V.str ⟨l.toArray⟩) ∧ (∀ s ∈ ss, s.length ≤ 2000 ∧ ∀ c ∈ s, isSg c = true) ∧ ss.length ≤ 2000 ∧ (wayT r ss e).length ≤ 90000 ∧ ∀ H', Same H H' → Q (.str ⟨(wayT r ss e).toArray⟩) H'
def kqu : Sp := fun vs H Q _ => ∃ (n : List Nat) (o : Option (List Nat)), vs = [.str ⟨n.toArray⟩, otV o] ∧ PairOk (n, o) ∧ n.length ≤ 2000 ∧ (∀ l, o = some l → l.length ≤ 2000) ∧ ∀ H', Same H H' → Q (.str ⟨(pairT (n, o)).toArray⟩) H'
def lqT : Sp := fun vs H Q _ => ∃ o : Option (List Nat), vs = [otV o] ∧ (∀ l, o = some l → l.length ≤ 2000 ∧ ∀ c ∈ l, isSg c = true) ∧ ∀ H', Same H H' → Q (.str ⟨(oT 35 o).toArray⟩) H'
def tqU (K : PySem.W.Frag) : Sp := fun vs H Q _ => ∃ (w : Way) (v : V), vs = [v] ∧ IsK K H (wayOf w) v ∧ w.2.1.length ≤ 2000 ∧ ∀ (u : V) (H' : Hp), Same H H' → IsK K H' (wayOf (goneV w)) u → Q u H'
def nqx (K : PySem.W.Frag) : Sp := fun vs H Q _ => ∃ (pc : Addr) (cs : List Int) (r e : Bool), vs = [.ref pc, .bl r, .bl e] ∧ SqL K H pc (cs.map V.int) ∧ cs.length ≤ 2000 ∧ ∀ (ss : List Stp) (e' : Bool) (v : V) (H' : Hp), ss.length = cs.length → (∀ s ∈ ss, StepOk s ∧ s.length ≤ 9) → (ss = [] → e' = r) → Same H H' → IsT H' (wayOf (r, ss, e')) v → Q v H'
def hqJ (K : PySem.W.Frag) : Sp := fun vs H Q _ => ∃ (ps : List (List Nat × Option (List Nat))) (v : V) (q : Addr) (n : Nat), vs = [v, .ref q] ∧ IsT H (qD (some ps)) v ∧ Bt H q n ∧ n ≤ 80000 ∧ ps.length ≤ 3 ∧ (∀ p ∈ ps, PairOk p ∧ p.1.length ≤ 5 ∧ ∀ v, p.2 = some v → v.length ≤ 6) ∧ ∀ (t : List Nat) (H' : Hp), QueW (some ps) t → (∀ c ∈ t, c < 128) → t.length ≤ 200 → SameBut q H H' → Bt H' q (n + 33) → Q (.str ⟨t.toArray⟩) H'
def jqC (K : PySem.W.Frag) (C : Addr) : Sp := fun vs H Q _ => ∃ (p : Addr) (t : List Nat), vs = [.ref p] ∧ Cur H C p t 0 ∧ t.length ≤ 90000 ∧ ∀ H', SameBut p H H' → Cur H' C p t (schP t) → Q (.str ⟨(schM t).toArray⟩) H'
def kqs (K : PySem.W.Frag) (C CN : Addr) : Sp := fun vs H Q E => ∃ (p : Addr) (t fr : List Nat) (i : Nat) (mo : Option Nat), vs = [.ref p, .str ⟨fr.toArray⟩, moV mo] ∧ Cur H C p t i ∧ i ≤ t.length ∧ t.length ≤ 100000 ∧ (∀ c ∈ t, c < 128) ∧ fr.length ≤ 100 ∧ Tk CN H C p t i (txtM fr (t.drop i) mo) (fun s H' => Q (.str ⟨s.toArray⟩) H') E
def iqb (K : PySem.W.Frag) : Sp := fun vs H Q _ => ∃ (q : Option (List (List Nat × Option (List Nat)))) (v : V), vs = [v] ∧ IsK K H (qD q) v ∧ (∀ ps, q = some ps → ps.length ≤ 2000 ∧ ∀ p ∈ ps, PairOk p ∧ p.1.length ≤ 2000 ∧ ∀ l, p.2 = some l → l.length ≤ 2000) ∧ (queT q).length ≤ 90000 ∧ ∀ H', Same H H' → Q (.str ⟨(queT q).toArray⟩) H'
def iqW (K : PySem.W.Frag) : Sp := fun vs H Q _ => ∃ (x : Ad) (v : V), vs = [v] ∧ IsK K H x.data v ∧ x.steps.length ≤ 2000 ∧ ∀ (u : V) (H' : Hp), Same H H' → IsK K H' x.gone.data u → Q u H'
def kqd (K : PySem.W.Frag) : Sp := fun vs H Q _ => ∃ (a : Addr) (ns : List Int) (i : Nat) (wh : Bool) (pc : Addr) (cs : List Int), vs = [.ref a, .int (i : Int), .bl wh, .ref pc] ∧ SqL K H a (ns.map V.int) ∧ SqL K H pc (cs.map V.int) ∧ cs.length ≤ 2000 ∧ ∀ (x : Ad) (v : V) (H' : Hp), x.Wf → x.Tiny → x.steps.length ≤ cs.length → (wh = true → x.scheme ≠ []) → Same H H' → IsT H' x.data v → Q v H'
def lqK (K : PySem.W.Frag) : Sp := fun vs H Q _ => ∃ (x : Ad) (v : V) (q : Addr) (n : Nat), vs = [v, .ref q] ∧ IsT H x.data v ∧ x.Wf ∧ x.Tiny ∧ x.steps.length ≤ 200 ∧ Bt H q n ∧ n ≤ 50000 ∧ ∀ (t : List Nat) (H' : Hp), RdW x t → (∀ c ∈ t, c < 128) → t.length ≤ 90000 → SameBut q H H' → Bt H' q (n + 2000) → Q (.str ⟨t.toArray⟩) H'
def hqE (K : PySem.W.Frag) (C CN : Addr) : Sp := fun vs H Q E => ∃ (p : Addr) (t : List Nat) (i : Nat) (must : Bool), vs = [.ref p, .bl must] ∧ Cur H C p t i ∧ i ≤ t.length ∧ t.length ≤ 100000 ∧ (∀ c ∈ t, c < 128) ∧ Tk CN H C p t i (wayM must (t.drop i)) (fun w H' => ∀ u, IsT H' (wayOf w) u → Q u H') E
def kqp (K : PySem.W.Frag) (C CN : Addr) : Sp := fun vs H Q E => ∃ (p : Addr) (t : List Nat) (i : Nat), vs = [.ref p] ∧ Cur H C p t i ∧ i ≤ t.length ∧ t.length ≤ 100000 ∧ (∀ c ∈ t, c < 128) ∧ Tk CN H C p t i (valM (t.drop i)) (fun o H' => Q (otV o) H') E
def kqv (K : PySem.W.Frag) (C CN : Addr) : Sp := fun vs H Q E => ∃ (p : Addr) (t : List Nat) (i : Nat), vs = [.ref p] ∧ Cur H C p t i ∧ i ≤ t.length ∧ t.length ≤ 100000 ∧ (∀ c ∈ t, c < 128) ∧ Tk CN H C p t i (marM (t.drop i)) (fun o H' => Q (otV o) H') E
def fq5 (K : PySem.W.Frag) (C CN : Addr) : Sp := fun vs H Q E => ∃ (p : Addr) (t fr : List Nat) (i : Nat) (mo : Option Nat), vs = [.ref p, .str ⟨fr.toArray⟩, moV mo] ∧ Cur H C p t i ∧ i ≤ t.length ∧ t.length ≤ 100000 ∧ (∀ c ∈ t, c < 128) ∧ fr.length ≤ 100 ∧ Tk CN H C p t i (filM fr (t.drop i) mo) (fun s H' => Q (.str ⟨s.toArray⟩) H') E
def uqQ (K : PySem.W.Frag) : Sp := fun vs H Q _ => ∃ (x : Ad) (v : V), vs = [v] ∧ IsK K H x.data v ∧ x.Wf ∧ x.Sz ∧ ∀ H', Same H H' → Q (.str ⟨x.shw.toArray⟩) H'
def rqW (K : PySem.W.Frag) : Sp := fun vs H Q _ => ∃ (x : Ad) (v : V), vs = [v] ∧ IsK K H x.data v ∧ x.Wf ∧ x.steps.length ≤ 2000 ∧ ∀ (u : V) (H' : Hp), Same H H' → IsK K H' (plainM x).data u → Q u H'
def jqv (K : PySem.W.Frag) (C CN : Addr) : Sp := fun vs H Q E => ∃ (p : Addr) (t : List Nat) (i : Nat), vs = [.ref p] ∧ Cur H C p t i ∧ i ≤ t.length ∧ t.length ≤ 100000 ∧ (∀ c ∈ t, c < 128) ∧ Tk CN H C p t i (houM (t.drop i)) (fun o H' => Q (otV o) H') E
def hqj (K : PySem.W.Frag) (C CN : Addr) : Sp := fun vs H Q E => ∃ (p : Addr) (t : List Nat) (i : Nat), vs = [.ref p] ∧ Cur H C p t i ∧ i ≤ t.length ∧ t.length ≤ 100000 ∧ (∀ c ∈ t, c < 128) ∧ Tk CN H C p t i (queM (t.drop i)) (fun o H' => ∀ u, IsT H' (qD o) u → Q u H') E
def oqn (K : PySem.W.Frag) (CN : Addr) : Sp := fun vs H Q E => ∃ (v : V), vs = [v] ∧
  ((∃ ty, TyOf K H v ty ∧ PySem.W.kitOne K ty (.type "str") = some false ∧ ∀ d H', Same H H' → H' d = some (.xd [("at", .int 0)]) → E (.ref CN) (some d) H') ∨
   ∃ t : List Nat, v = .str ⟨t.toArray⟩ ∧ t.length ≤ 90000 ∧ (∀ c ∈ t, c < 128) ∧ (∀ x, readM t = .ok x → ∀ (u : V) (H' : Hp), Same H H' → IsT H' x.data u → Q u H') ∧
     ∀ k : Nat, readM t = .error k → ∀ d H', Same H H' → H' d = some (.xd [("at", .int (k : Int))]) → E (.ref CN) (some d) H')
def BadW (K : PySem.W.Frag) (H : Hp) (v : V) (k : Nat) : Prop := (k = 0 ∧ ∃ ty, TyOf K H v ty ∧ PySem.W.kitOne K ty (.type "str") = some false) ∨ ∃ t : List Nat, v = .str ⟨t.toArray⟩ ∧ t.length ≤ 1400 ∧ (∀ c ∈ t, c < 128) ∧ readM t = .error k
def GoodW (v : V) (x : Ad) : Prop := ∃ t : List Nat, v = .str ⟨t.toArray⟩ ∧ t.length ≤ 1400 ∧ (∀ c ∈ t, c < 128) ∧ readM t = .ok x
def kqJ (K : PySem.W.Frag) (CN : Addr) : Sp := fun vs H Q E => ∃ (v : V), vs = [v] ∧
  ((∃ k : Nat, BadW K H v k ∧ ∀ d H', Same H H' → H' d = some (.xd [("at", .int (k : Int))]) → E (.ref CN) (some d) H') ∨
   ∃ x, GoodW v x ∧ ∀ H', Same H H' → Q (.str ⟨(plainM x).shw.toArray⟩) H')
theorem nqH {K : PySem.W.Frag} {CN : Addr} {v : V} {H : Hp} {Q : VK} {E : XK} (h : (∃ k : Nat, BadW K H v k ∧ ∀ d H', Same H H' → H' d = some (.xd [("at", .int (k : Int))]) → E (.ref CN) (some d) H') ∨ ∃ x, GoodW v x ∧ ∀ u H', Same H H' → IsT H' x.data u → Q u H') : oqn K CN [v] H Q E := by
  refine ⟨v, rfl, ?_⟩
  rcases h with ⟨k, ⟨rfl, ty, h1, h2⟩ | ⟨t, rfl, hl, h128, he⟩, hE⟩ | ⟨x, ⟨t, rfl, hl, h128, he⟩, hQ⟩
  · exact .inl ⟨ty, h1, h2, fun d H' sm hx => hE d H' sm hx⟩
  · exact .inr ⟨t, rfl, by omega, h128, (fun x e => by rw [he] at e; cases e), fun k' e d H' sm hx => hE d H' sm (by rw [he] at e; cases e; exact hx)⟩
  · exact .inr ⟨t, rfl, by omega, h128, (fun y e u H' sm hu => by rw [he] at e; cases e; exact hQ u H' sm hu), fun k' e => by rw [he] at e; cases e⟩
def lqU (K : PySem.W.Frag) : Sp := fun vs H Q _ => ∃ (v : V) (b : Bool), vs = [v, .bl b] ∧ ((∃ n : Nat, BadW K H v n ∧ ∀ H', Same H H' → Q (.int (n : Int)) H') ∨ ∃ x, GoodW v x ∧ ∀ H', Same H H' → Q .non H')
def oqj (K : PySem.W.Frag) : Sp := fun vs H Q _ => ∃ (a : Addr) (ns : List Int), vs = [.ref a] ∧ SqL K H a (ns.map V.int) ∧ ns.length ≤ 63 ∧ ∀ H', Q (.bl true) H'
section
variable {H : Hp} {Q : VK} {E : XK} {K : PySem.W.Frag}
theorem vqn {c : Nat} : kq3 [.str ⟨[c].toArray⟩] H Q E ↔ c < 256 ∧ Q (.str ⟨[126, hexd (c / 16), hexd (c % 16)].toArray⟩) H :=
  ⟨fun ⟨_, e, h⟩ => by injection e with e; injection e with e; cases hqO.mp e; exact h, fun h => ⟨c, rfl, h⟩⟩
theorem wq1 {c : Nat} : fqM [.str ⟨[c].toArray⟩] H Q E ↔ c < 128 ∧ Q (figV c) H :=
  ⟨fun ⟨_, e, h⟩ => by injection e with e; injection e with e; cases hqO.mp e; exact h, fun h => ⟨c, rfl, h⟩⟩
theorem pqz {l : List Nat} : lqa [.str ⟨l.toArray⟩] H Q E ↔ l.length ≤ 1000 ∧ (∀ c ∈ l, c < 128) ∧ Q (signOfL l) H :=
  ⟨fun ⟨_, e, h⟩ => by injection e with e; injection e with e; cases hqO.mp e; exact h, fun h => ⟨l, rfl, h⟩⟩
theorem pqY {l : List Nat} : fqg [.str ⟨l.toArray⟩] H Q E ↔ l.length ≤ 2000 ∧ (∀ c ∈ l, isSg c = true) ∧ ∀ H', Same H H' → Q (.str ⟨(wr l).toArray⟩) H' :=
  ⟨fun ⟨_, e, h⟩ => by injection e with e; injection e with e; cases hqO.mp e; exact h, fun h => ⟨l, rfl, h⟩⟩
end
section
variable {P : Program} {w : World} {K : PySem.W.Frag} {mg : Str → Option Value} {base : Heap}
seal PE PA PT PS PSs PG PI PF PO PW
local macro_rules | `(tactic| walk_at "rd") => `(tactic| simp only [L2.start, List.map_cons, List.map_nil, List.length_cons, List.length_nil, Nat.reduceAdd, Nat.reduceSub, Nat.zero_add, List.replicate_succ, List.replicate_zero, L2.sq0, L2.rd_C, L2.qqB, L2.wqu, L2.sqg, L2.vqJ, L2.uqw, L2.vqL, L2.tqq, L2.vqA, L2.vqU, L2.sq5, L2.wqN, L2.uqJ, L2.rd_B, L2.wqn, L2.wq0, L2.vqx, L2.uqN, L2.vqy, L2.sq7, L2.wqS, L2.rqz, L2.vqq, L2.qqA, L2.wql, L2.vqv, L2.uqe, L2.tqn, L2.tqI, L2.tq8, L2.tqm, L2.tq6, L2.tqT, L2.sqi, L2.pqq, L2.wqK, L2.wqU, L2.wqE, L2.wq3, L2.qqW, L2.tqr, L2.sqb, L2.rd_I, L2.wqP, L2.pqn, L2.jql, L2.tqg, L2.tqA, L2.pqA, L2.tq2, L2.uqc, L2.uqg, L2.sqa, L2.uqG, L2.tqu, L2.rqE, L2.uq0, L2.wqb, L2.uq2, L2.wqD, L2.wqj, L2.tqt, L2.sql, L2.uqm, L2.sqm, L2.rql, L2.pqI, L2.rqp, L2.rqD, L2.rqe, L2.pqi, L2.iqh, L2.iqU, L2.iq3, L2.iqn, L2.hqi, L2.lql, L2.mqN, L2.mqr, L2.lqx, L2.kqD, L2.mqb, L2.nqt, L2.nqI, L2.mqn, L2.lqQ, L2.mqS, L2.nqJ, L2.nqA, L2.mqw, L2.lqM, L2.lqn, L2.mqs, L2.mq2, L2.lqq, L2.kqt, L2.kqQ, L2.lqy, L2.lqN, L2.kqB, L2.jqn, L2.tq1, L2.uqq, L2.rq6, L2.uqi, L2.tqN, L2.cx_K, L2.vqf, L2.wqa, L2.wqt, L2.vql, L2.vqB, L2.vqc, L2.vqo, L2.wqT, L2.uq7, L2.qqP, L2.wqR, L2.wq2, L2.wqX, L2.rqQ, L2.rqY, L2.tq0, L2.rqr, Option.getD_some, L2.wqC, L2.wq6, L2.rd_U, L2.vqK, L2.tq4, L2.rqR, L2.uqv, L2.qqs, L2.uqo, L2.vqz, L2.vqa, L2.tqY, L2.tqh, L2.uqz, L2.tqj, List.getElem?_cons_zero, List.getElem?_cons_succ, List.set_cons_zero, List.set_cons_succ, List.nil_append, List.cons_append, List.append_nil, Option.some.injEq, exists_eq_left, exists_eq_left', true_and, and_true, L2.V.bl.injEq, L2.V.int.injEq, L2.V.str.injEq, L2.V.ref.injEq, List.cons.injEq, reduceCtorEq, false_and, and_false, exists_false, false_or, or_false, decide_eq_true_eq, Bool.not_true, Bool.not_false, ↓reduceIte, if_true, if_false, not_true_eq_false, not_false_eq_true, decide_true, decide_false, Bool.false_eq_true, vqn, wq1, pqz, pqY, L2.rqy, L2.uqd, L2.rqq, L2.rqs, L2.vqu, vq9, L2.vqE, L2.rqk, L2.wqM, L2.uqa, L2.rq8, L2.sqk, L2.rqf, L2.wqG, L2.pqG, L2.uqf, L2.vq0, L2.oqf, L2.uqV, L2.wqF, L2.uqR, L2.wqz, L2.sqX, L2.vqk, L2.tqv, L2.uqx, L2.tqP, L2.oqf, L2.pqL, L2.uqh, L2.pqj, L2.vqQ, L2.tqS, L2.uqp, L2.rq0, L2.uqM, L2.tqe, L2.uqj, vqh, sqd, kqZ, dqd, qqN, tqQ, uqS, List.drop_succ_cons, List.drop_zero, L2.rqm, L2.vqG, L2.vqS, L2.vq5, Bool.not_eq_true', decide_eq_false_iff_not])
theorem oqW : FnScope ["text", "signs"] ["text", "signs"] (defScope eqG) := ⟨rfl, rfl, rfl, by decide +kernel, rfl, by decide +kernel, by decide +kernel⟩
theorem kq9 : FnScope ["sign", "number"] ["sign"] (defScope eqz) := ⟨rfl, rfl, rfl, by decide +kernel, rfl, by decide +kernel, by decide +kernel⟩
theorem iq0 : FnScope ["figure"] ["figure"] (defScope aq9) := ⟨rfl, rfl, rfl, by decide +kernel, rfl, by decide +kernel, by decide +kernel⟩
theorem dqS : FnScope ["number", "place"] ["number"] (defScope bqc) := ⟨rfl, rfl, rfl, by decide +kernel, rfl, by decide +kernel, by decide +kernel⟩
theorem nqj : FnScope ["address"] ["address"] (defScope dqh) := ⟨rfl, rfl, rfl, by decide +kernel, rfl, by decide +kernel, by decide +kernel⟩
theorem fqW : FnScope ["self", "at"] ["self", "at"] (defScope aqG) := ⟨rfl, rfl, rfl, by decide +kernel, rfl, by decide +kernel, by decide +kernel⟩
theorem hqI : FnScope ["self", "text"] ["self", "text"] (defScope aqP) := ⟨rfl, rfl, rfl, by decide +kernel, rfl, by decide +kernel, by decide +kernel⟩
theorem iqY : FnScope ["self"] ["self"] (defScope bqa) := ⟨rfl, rfl, rfl, by decide +kernel, rfl, by decide +kernel, by decide +kernel⟩
theorem gqU : FnScope ["self", "sign"] ["self"] (defScope bqC) := ⟨rfl, rfl, rfl, by decide +kernel, rfl, by decide +kernel, by decide +kernel⟩
theorem iq5 : FnScope ["self", "text"] ["self", "text"] (defScope aq8) := ⟨rfl, rfl, rfl, by decide +kernel, rfl, by decide +kernel, by decide +kernel⟩
theorem mqD : FnScope ["door", "cursor"] ["door", "cursor"] (defScope cqS) := ⟨rfl, rfl, rfl, by decide +kernel, rfl, by decide +kernel, by decide +kernel⟩
theorem iqk : FnScope ["rooted", "texts", "ends", "ahead", "behind"] ["rooted", "texts", "ends"] (defScope eqk) := ⟨rfl, rfl, rfl, by decide +kernel, rfl, by decide +kernel, by decide +kernel⟩
theorem qqn : FnScope ["step"] ["step"] (defScope fqA) := ⟨rfl, rfl, rfl, by decide +kernel, rfl, by decide +kernel, by decide +kernel⟩
theorem rqO : FnScope ["left", "rooted"] ["left", "rooted"] (defScope gq8) := ⟨rfl, rfl, rfl, by decide +kernel, rfl, by decide +kernel, by decide +kernel⟩
theorem jqQ : FnScope ["_law_script", "_law_k"] ["_law_script", "_law_k"] (defScope bqk) := ⟨rfl, rfl, rfl, by decide +kernel, rfl, by decide +kernel, by decide +kernel⟩
theorem bqw : FnScope ["_law_cell", "_law_most", "_law_some", "_law_text_here", "_law_number", "_law_k"] ["_law_cell", "_law_most"] (defScope cqH) := ⟨rfl, rfl, rfl, by decide +kernel, rfl, by decide +kernel, by decide +kernel⟩
theorem bqp : FnScope ["_law_cell", "_law_letters", "_law_scheme_here", "_law_number", "_law_k"] ["_law_cell"] (defScope bqG) := ⟨rfl, rfl, rfl, by decide +kernel, rfl, by decide +kernel, by decide +kernel⟩
theorem eqH : FnScope ["_law_sign", "_law_great", "_law_figures"] ["_law_sign", "_law_great"] (defScope bqn) := ⟨rfl, rfl, rfl, by decide +kernel, rfl, by decide +kernel, by decide +kernel⟩
theorem fq2 : FnScope ["_law_text_here", "_law_cell", "_law_at", "_law_sign"] ["_law_text_here", "_law_cell"] (defScope cqQ) := ⟨rfl, rfl, rfl, by decide +kernel, rfl, by decide +kernel, by decide +kernel⟩
theorem pqe : FnScope ["thing"] ["thing"] (defScope eqt) := ⟨rfl, rfl, rfl, by decide +kernel, rfl, by decide +kernel, by decide +kernel⟩
theorem iqf : FnScope ["figures", "high", "low"] ["figures"] (defScope eqp) := ⟨rfl, rfl, rfl, by decide +kernel, rfl, by decide +kernel, by decide +kernel⟩
theorem oqN : FnScope ["text"] ["text"] (defScope eqF) := ⟨rfl, rfl, rfl, by decide +kernel, rfl, by decide +kernel, by decide +kernel⟩
theorem kqr : FnScope ["self", "signs"] ["self", "signs"] (defScope bqH) := ⟨rfl, rfl, rfl, by decide +kernel, rfl, by decide +kernel, by decide +kernel⟩
theorem fqw : FnScope ["steps", "rooted", "left", "step"] ["steps", "rooted"] (defScope cqh) := ⟨rfl, rfl, rfl, by decide +kernel, rfl, by decide +kernel, by decide +kernel⟩
theorem iqv : FnScope ["_law_cell", "_law_number"] ["_law_cell"] (defScope cqR) := ⟨rfl, rfl, rfl, by decide +kernel, rfl, by decide +kernel, by decide +kernel⟩
theorem bqh : FnScope ["_law_cell", "_law_pairs", "_law_k", "_law_number", "_law_value"] ["_law_cell"] (defScope bqd) := ⟨rfl, rfl, rfl, by decide +kernel, rfl, by decide +kernel, by decide +kernel⟩
theorem mqW : FnScope ["_law_cell"] ["_law_cell"] (defScope cqK) := ⟨rfl, rfl, rfl, by decide +kernel, rfl, by decide +kernel, by decide +kernel⟩
theorem bqt : FnScope ["_law_text_here", "_law_free", "_law_bits", "_law_plain_signs", "_law_found", "_law_sign"] ["_law_text_here", "_law_free", "_law_bits"] (defScope bqo) := ⟨rfl, rfl, rfl, by decide +kernel, rfl, by decide +kernel, by decide +kernel⟩
theorem mqC : FnScope ["thing"] ["thing"] (defScope cqN) := ⟨rfl, rfl, rfl, by decide +kernel, rfl, by decide +kernel, by decide +kernel⟩
theorem fqy : FnScope ["cursor", "door"] ["cursor"] (defScope cqc) := ⟨rfl, rfl, rfl, by decide +kernel, rfl, by decide +kernel, by decide +kernel⟩
theorem fqn : FnScope ["cursor", "figures", "sign"] ["cursor"] (defScope bq0) := ⟨rfl, rfl, rfl, by decide +kernel, rfl, by decide +kernel, by decide +kernel⟩
theorem gqQ : FnScope ["house", "door", "behind"] ["house", "door"] (defScope bqF) := ⟨rfl, rfl, rfl, by decide +kernel, rfl, by decide +kernel, by decide +kernel⟩
theorem mqR : FnScope ["way"] ["way"] (defScope cqJ) := ⟨rfl, rfl, rfl, by decide +kernel, rfl, by decide +kernel, by decide +kernel⟩
theorem kqH : FnScope ["name", "value"] ["name", "value"] (defScope bqI) := ⟨rfl, rfl, rfl, by decide +kernel, rfl, by decide +kernel, by decide +kernel⟩
theorem lqP : FnScope ["mark"] ["mark"] (defScope cqg) := ⟨rfl, rfl, rfl, by decide +kernel, rfl, by decide +kernel, by decide +kernel⟩
theorem nqg : FnScope ["way", "steps", "left"] ["way"] (defScope kqc) := ⟨rfl, rfl, rfl, by decide +kernel, rfl, by decide +kernel, by decide +kernel⟩
theorem kqo : FnScope ["_law_cells", "_law_rooted", "_law_ends", "_law_steps"] ["_law_cells", "_law_rooted", "_law_ends"] (defScope dqm) := ⟨rfl, rfl, rfl, by decide +kernel, rfl, by decide +kernel, by decide +kernel⟩
theorem aqX : FnScope ["_law_question_here", "_law_bits", "_law_pairs", "_law_name", "_law_value", "_law_pair"] ["_law_question_here", "_law_bits"] (defScope aqO) := ⟨rfl, rfl, rfl, by decide +kernel, rfl, by decide +kernel, by decide +kernel⟩
theorem gqe : FnScope ["cursor", "scheme"] ["cursor"] (defScope bqj) := ⟨rfl, rfl, rfl, by decide +kernel, rfl, by decide +kernel, by decide +kernel⟩
theorem fqB : FnScope ["cursor", "free", "most", "signs", "allowed"] ["cursor", "free", "most"] (defScope bqv) := ⟨rfl, rfl, rfl, by decide +kernel, rfl, by decide +kernel, by decide +kernel⟩
theorem hq8 : FnScope ["question"] ["question"] (defScope aqZ) := ⟨rfl, rfl, rfl, by decide +kernel, rfl, by decide +kernel, by decide +kernel⟩
theorem iqZ : FnScope ["address"] ["address"] (defScope bqb) := ⟨rfl, rfl, rfl, by decide +kernel, rfl, by decide +kernel, by decide +kernel⟩
theorem aqC : FnScope ["_law_script", "_law_first", "_law_whole", "_law_cells", "_law_head", "_law_scheme_here", "_law_house", "_law_door", "_law_rooted", "_law_way_here", "_law_question_here"] ["_law_script", "_law_first", "_law_whole", "_law_cells"] (defScope bqm) := ⟨rfl, rfl, rfl, by decide +kernel, rfl, by decide +kernel, by decide +kernel⟩
theorem aqy : FnScope ["_law_address_here", "_law_bits", "_law_scheme_here", "_law_house", "_law_door", "_law_way_here", "_law_question_here", "_law_mark_here", "_law_text_here"] ["_law_address_here", "_law_bits"] (defScope cqd) := ⟨rfl, rfl, rfl, by decide +kernel, rfl, by decide +kernel, by decide +kernel⟩
theorem bqZ : FnScope ["cursor", "must_be_rooted", "rooted", "steps", "ends", "step"] ["cursor", "must_be_rooted"] (defScope cqP) := ⟨rfl, rfl, rfl, by decide +kernel, rfl, by decide +kernel, by decide +kernel⟩
theorem kqG : FnScope ["cursor"] ["cursor"] (defScope bqz) := ⟨rfl, rfl, rfl, by decide +kernel, rfl, by decide +kernel, by decide +kernel⟩
theorem lqd : FnScope ["cursor"] ["cursor"] (defScope bq1) := ⟨rfl, rfl, rfl, by decide +kernel, rfl, by decide +kernel, by decide +kernel⟩
theorem dqY : FnScope ["cursor", "free", "most", "text"] ["cursor", "free", "most"] (defScope aqB) := ⟨rfl, rfl, rfl, by decide +kernel, rfl, by decide +kernel, by decide +kernel⟩
theorem qqY : FnScope ["address", "scheme"] ["address"] (defScope jqF) := ⟨rfl, rfl, rfl, by decide +kernel, rfl, by decide +kernel, by decide +kernel⟩
theorem lqE : FnScope ["address", "house", "small_house"] ["address"] (defScope gqY) := ⟨rfl, rfl, rfl, by decide +kernel, rfl, by decide +kernel, by decide +kernel⟩
theorem kqO : FnScope ["cursor"] ["cursor"] (defScope bqJ) := ⟨rfl, rfl, rfl, by decide +kernel, rfl, by decide +kernel, by decide +kernel⟩
theorem cqn : FnScope ["cursor", "name", "pairs"] ["cursor"] (defScope aq0) := ⟨rfl, rfl, rfl, by decide +kernel, rfl, by decide +kernel, by decide +kernel⟩
theorem gqa : FnScope ["text", "cursor", "scheme", "house", "door", "way", "question", "mark"] ["text"] (defScope jqU) := ⟨rfl, rfl, rfl, by decide +kernel, rfl, by decide +kernel, by decide +kernel⟩
theorem lqR : FnScope ["text"] ["text"] (defScope bq2) := ⟨rfl, rfl, rfl, by decide +kernel, rfl, by decide +kernel, by decide +kernel⟩
theorem cqp : FnScope ["_law_thing", "_law_plainly", "_law_heard", "e"] ["_law_thing", "_law_plainly"] (defScope bq9) := ⟨rfl, rfl, rfl, by decide +kernel, rfl, by decide +kernel, by decide +kernel⟩
theorem iqM : FnScope ["_law_script", "_law_address_here", "_law_text_here", "_law_due", "_law_cell", "_law_bent_here", "_law_place_here", "_law_thing"] ["_law_script"] (defScope nql) := ⟨rfl, rfl, rfl, by decide +kernel, rfl, by decide +kernel, by decide +kernel⟩
theorem iqj (g : G K mg) : FnOk P w K mg base CX0 1 g.hqP g.gqB ["text", "signs"] oqJ := by
  refine g.fq3.ok oqW (fun vs H Q E h => ?_) (fun cdv A outer s H vs Q E hr h => ?_)
  · obtain ⟨x, y, rfl, _⟩ := h; rfl
  · obtain ⟨x, y, rfl, hx, k⟩ := h
    refine ⟨_, (aqd (aqo (aqY (qq3 (K := K) rfl rfl) rfl g.uq1 PyProof.Rows.boot_all (aqa (jqs (fx := ["signs"]) (fr := [1]) rfl rfl (by decide +kernel) rfl (by decide +kernel) rfl (by decide +kernel) rfl (.cons rfl rfl rfl rfl .nil) rfl (pqw (pv 0)) (fun _ _ _ => kq5) (fun _ _ _ => (bq3 kq6 (pv 0) (pv 1) (by with_unfolding_all rfl)))) aqb)))), ?_⟩
    walk_at "rd"
    intro p hp
    refine oqy (z := x) (aqh hx) hp (fun c => .bl (decide (c ∈ y.cps.toList))) (fun c hc H' R hR => ?_) (fun H' sm hp' => ?_)
    · walk_at "rd"
      exact hR H' (Same.refl _)
    · refine qqs.mpr ⟨x.cps.toList.map fun c => decide (c ∈ y.cps.toList), SqL.of (by rw [hp', List.map_map]; rfl), ?_⟩
      rw [List.all_map]
      exact k H' sm
theorem oqS (g : G K mg) : FnOk P w K mg base CX0 1 g.hqu g.gqx ["sign"] kq3 := by
  refine g.jqG.ok kq9 (fun vs H Q E h => ?_) (fun cdv A outer s H vs Q E hr h => ?_)
  · obtain ⟨c, rfl, _⟩ := h; rfl
  · obtain ⟨c, rfl, hc, k⟩ := h
    refine ⟨_, (aqc (aqk (i := 1) kq9.nd rfl (Or.inl rfl) (aqY kqj rfl g.sqj lqh (aqa (pv 0) aqb)))
      (aqd (aqo (aqj (aqz (K := K) rfl) (aqj (aqz (K := K) rfl) aqm (aq3 (aqw (K := K) rfl) (aqn (v := cqV) rfl g.bqX ⟨_, rfl⟩) (aqj aq5 (pv 1) aqe) (fun _ _ => rfl))) (aq3 (aqw (K := K) rfl) (aqn (v := cqV) rfl g.bqX ⟨_, rfl⟩) (aqj aqQ (pv 1) aqe) (fun _ _ => rfl)))))), ?_⟩
    walk_at "rd"
    exact ⟨⟨by decide, by decide⟩, hexd (c / 16), lq1, vq8 (by omega) (by omega), by decide, by decide, hexd (c % 16), lq1, vq8 (by omega) (by omega), by decide, k⟩
theorem fqR (g : G K mg) : FnOk P w K mg base CX0 1 g.cqX g.cqF ["figure"] fqM := by
  refine g.cqZ.ok iq0 (fun vs H Q E h => ?_) (fun cdv A outer s H vs Q E hr h => ?_)
  · obtain ⟨c, rfl, _⟩ := h; rfl
  · obtain ⟨a, rfl, ha, k⟩ := h
    refine ⟨_, (aqc (aqW (aqq kq6 (pv 0) (aqn (v := cqV) rfl g.bqX ⟨_, rfl⟩) (by with_unfolding_all rfl))
        (aqd (aqo (dqf (K := K) rfl PySem.F.plainAttrs_str PySem.F.slot_str_index PySem.F.type_str_index oqu (aqn (v := cqV) rfl g.bqX ⟨_, rfl⟩) (aqa (pv 0) aqb)))) aqv)
      (aqc (aqW (aqq kq6 (pv 0) (aqn (v := gqt) rfl g.eql ⟨_, rfl⟩) (by with_unfolding_all rfl))
        (aqd (aqo (dqf (K := K) rfl PySem.F.plainAttrs_str PySem.F.slot_str_index PySem.F.type_str_index oqu (aqn (v := gqt) rfl g.eql ⟨_, rfl⟩) (aqa (pv 0) aqb)))) aqv)
      (aqd (aqo aqN)))), ?_⟩
    walk_at "rd"
    refine ite2 (fun h => ?_) (fun h => ?_)
    · obtain ⟨e1, e2⟩ := rqP a ha h
      obtain ⟨n, hn⟩ := Option.isSome_iff_exists.mp e2
      rw [hn] at e1
      rw [gqp hn] at k
      exact ⟨n, [], e1, k⟩
    · refine ite2 (fun h2 => ?_) (fun h2 => ?_)
      · obtain ⟨e1, e2⟩ := rqX a ha h h2
        obtain ⟨n, hn⟩ := Option.isSome_iff_exists.mp e2
        rw [hn] at e1
        rw [gqp hn] at k
        exact ⟨n, [], e1, k⟩
      · rw [kqb (wq7 a ha h h2)] at k
        exact k
theorem iqT (g : G K mg) : FnOk P w K mg base CX0 1 g.cq9 g.cqB ["number"] iqV := by
  refine g.eqw.ok dqS (fun vs H Q E h => ?_) (fun cdv A outer s H vs Q E hr h => ?_)
  · obtain ⟨c, rfl, _⟩ := h; rfl
  · obtain ⟨n, rfl, k⟩ := h
    refine ⟨_, (aqc (aqW (PW.pt (lqY (aqq qqM (pv 0) (aqn (v := gqO) rfl g.eq4 ⟨_, rfl⟩) (nomark _)) (lqY (aqq lqu (pv 0) (aqn (v := lqo) rfl g.hqK ⟨_, rfl⟩) (nomark _)) (jqX (aqq eqE (pv 0) (aqn (v := eq9) rfl g.dql ⟨_, rfl⟩) (nomark _))))))
        (aqd (aqo aqN)) aqv)
      (aqc (aqk (i := 1) dqS.nd rfl (Or.inl rfl) (aqj oqE (pv 0) (aqn (v := gqO) rfl g.eq4 ⟨_, rfl⟩)))
      (aqc (aqW (aqq lqu (pv 0) (aqn (v := eq9) rfl g.dql ⟨_, rfl⟩) (nomark _))
        (aqd (aqk (i := 1) dqS.nd rfl (Or.inl rfl) (aqj oqE (pv 1) aqe))) aqv)
      (aqd (aqo (aq3 (aqw (K := K) rfl) (aqn (v := qqK) rfl g.nqL ⟨_, rfl⟩) (pv 1) (fun _ _ => rfl))))))), ?_⟩
    walk_at "rd"
    refine ite2 (fun h => ?_) (fun h => ?_)
    · rw [qq8 (fun q => by have := cq7 q; omega)] at k
      exact k
    · refine ite2 (fun h1 => ?_) (fun h1 => ?_)
      · rw [qq8 (fun q => by have := cq7 q; omega)] at k
        exact k
      · refine ite2 (fun h2 => ?_) (fun h2 => ?_)
        · rw [qq8 (fun q => by have := cq7 q; omega)] at k
          exact k
        · have hs : isSg n = true := uqD (by omega) (by omega) (by omega)
          rw [uqb hs] at k
          have hat := sqn n (by omega) hs
          refine ite2 (fun h3 => ?_) (fun h3 => ?_)
          · rw [if_pos (show 37 < n by omega)] at hat
            refine ⟨n, mqy, ?_, k⟩
            rw [show (n : Int) - 32 - 1 = ((n - 32 - 1 : Nat) : Int) by omega]
            exact cqs hat
          · rw [if_neg (show ¬ 37 < n by omega)] at hat
            refine ⟨n, mqy, ?_, k⟩
            rw [show (n : Int) - 32 = ((n - 32 - 0 : Nat) : Int) by omega]
            exact cqs hat
theorem nqM (g : G K mg) : FnOk P w K mg base CX0 1 g.gqG g.fqI ["address"] (nqG K) := by
  refine g.iqc.ok nqj (fun vs H Q E h => ?_) (fun cdv A outer s H vs Q E hr h => ?_)
  · obtain ⟨p, l, r, rfl, _⟩ := h; rfl
  · obtain ⟨p, l, r, rfl, hp, k⟩ := h
    refine ⟨_, (aqd (aqo (bq3 lqz (aq3 (aqw (K := K) rfl) (pv 0) (aqn (v := lqg) rfl g.jqg ⟨_, rfl⟩) (fun _ _ => rfl)) aqm (nomark _)))), ?_⟩
    walk_at "rd"
    refine ⟨_, _, .inr hp, wqL, ?_⟩
    walk_at "rd"
    rw [show decide ((⟨l.toArray⟩ : Str) = ⟨([] : List Nat).toArray⟩) = decide (l = []) from decide_eq_decide.mpr hqO]
    exact k
theorem aqI (g : G K mg) : FnOk P w K mg base CX0 1 g.bqq g.bqi ["self", "at"] (dqF K g.aqt) := by
  refine g.dqW.ok fqW (fun vs H Q E h => ?_) (fun cdv A outer s H vs Q E hr h => ?_)
  · obtain ⟨a, v, rfl, _⟩ := h; rfl
  · obtain ⟨a, v, rfl, ha, k⟩ := h
    refine ⟨_, (aqd (tqk (pv 0) (pv 1) rfl)), ?_⟩
    walk_at "rd"
    exact ⟨a, _, rfl, ha, g.fq0, fun d hd => k d hd⟩
theorem hqG (g : G K mg) : FnOk P w K mg base CX0 1 g.cqj g.bqU ["self", "text"] (hqM K g.aqs) := by
  refine g.eq7.ok hqI (fun vs H Q E h => ?_) (fun cdv A outer s H vs Q E hr h => ?_)
  · obtain ⟨p, dx, t, rfl, _⟩ := h; rfl
  · obtain ⟨p, dx, t, rfl, hp, k⟩ := h
    refine ⟨_, (aqc (nq8 (pv 0) (pv 1) rfl)
      (aqd (nq8 (pv 0) aqe rfl))), ?_⟩
    walk_at "rd"
    refine ⟨p, _, dx, _, rfl, hp, g.aqi, g.aq4, by show 0 < 1000; decide, ?_⟩
    refine ⟨p, _, dx, _, rfl, aql, g.aqi, g.aqp, by show 1 < 1000; decide, ?_⟩
    have h : Str.ofString "text" ≠ Str.ofString "place" := by decide +kernel
    rw [pq0]
    refine k _ jqI ⟨dx, ?_⟩
    rw [aql]
    simp only [putF, if_neg h]
    rfl
theorem fqK (g : G K mg) : FnOk P w K mg base CX0 1 g.cqW g.cqz ["self"] (iq4 K g.aqs) := by
  refine g.fq1.ok iqY (fun vs H Q E h => ?_) (fun cdv A outer s H vs Q E hr h => ?_)
  · obtain ⟨p, t, i, rfl, _⟩ := h; rfl
  · obtain ⟨p, t, i, rfl, ⟨dx, hp⟩, hl, k⟩ := h
    refine ⟨_, (aqd (aqo (bq3 eqE (cqw (pv 0) rfl) (aqY (cqa (K := K) rfl) rfl g.iqS PySem.boot_len (aqa (cqw (pv 0) rfl) aqb)) (nomark _)))), ?_⟩
    have hcur : Cur H g.aqs p t i := ⟨dx, hp⟩
    walk_at "rd"
    refine aqV hcur g.aqi g.aqp (fqG hcur g.aqi g.aq4 ?_)
    walk_at "rd"
    refine ⟨aqh hl, ?_⟩
    rw [show decide ((i : Int) = (t.length : Int)) = decide (i = t.length) from decide_eq_decide.mpr (by omega)]
    exact k
theorem cqv (g : G K mg) : FnOk P w K mg base CX0 1 g.dq9 g.dqo ["self"] (kqx K g.aqs) := by
  refine g.hqR.ok gqU (fun vs H Q E h => ?_) (fun cdv A outer s H vs Q E hr h => ?_)
  · obtain ⟨p, t, i, c, rfl, _⟩ := h; rfl
  · obtain ⟨p, t, i, c, rfl, ⟨dx, hp⟩, hc, hl, k⟩ := h
    refine ⟨_, (aqc (aqk (i := 1) gqU.nd rfl (Or.inl rfl) (aq3 (aqw (K := K) rfl) (cqw (pv 0) rfl) (cqw (pv 0) rfl) (fun _ _ => rfl)))
      (aqc (nq8 (pv 0) (aqj (aqz (K := K) rfl) (cqw (pv 0) rfl) aqe) rfl)
      (aqd (aqo (pv 1))))), ?_⟩
    have hcur : Cur H g.aqs p t i := ⟨dx, hp⟩
    walk_at "rd"
    refine fqG hcur g.aqi g.aq4 (aqV hcur g.aqi g.aqp ?_)
    walk_at "rd"
    refine ⟨c, aqh hl, cqs hc, ?_⟩
    refine aqV hcur g.aqi g.aqp ?_
    walk_at "rd"
    exact mq8 hcur g.aqi g.aqp (i + 1) (by omega) fun H' sb h => k H' sb h
theorem sqe {K : PySem.W.Frag} {C p : Addr} {H : Hp} {Q : VK} {E : XK} {t w r : List Nat} {i : Nat} (h : Cur H C p t i) (hi : i ≤ t.length) (hl : t.length ≤ 100000) (hd : t.drop i = w ++ r) (k : ∀ H', SameBut p H H' → Cur H' C p t (i + w.length) → i + w.length ≤ t.length → t.drop (i + w.length) = r → Q (.bl true) H') : dqM K C [.ref p, .str ⟨w.toArray⟩] H Q E :=
  ⟨p, t, w, i, rfl, h, hi, hl, fun _ H' s c => k H' s c (by have := congrArg List.length hd; rw [List.length_drop, List.length_append] at this; omega) (by rw [← List.drop_drop, hd, List.drop_left]), fun z => absurd (by rw [hd, List.take_left]) z⟩
theorem sq4 {K : PySem.W.Frag} {C p : Addr} {H : Hp} {Q : VK} {E : XK} {t w : List Nat} {i : Nat} (h : Cur H C p t i) (hi : i ≤ t.length) (hl : t.length ≤ 100000) (hn : ¬ (t.drop i).take w.length = w) (k : Q (.bl false) H) : dqM K C [.ref p, .str ⟨w.toArray⟩] H Q E :=
  ⟨p, t, w, i, rfl, h, hi, hl, fun z => absurd z hn, fun _ => k⟩
theorem aqE (g : G K mg) : FnOk P w K mg base CX0 1 g.dqe g.cqD ["self", "text"] (dqM K g.aqs) := by
  refine g.gqu.ok iq5 (fun vs H Q E h => ?_) (fun cdv A outer s H vs Q E hr h => ?_)
  · obtain ⟨p, t, w, i, rfl, _⟩ := h; rfl
  · obtain ⟨p, t, w, i, rfl, ⟨dx, hp⟩, hi, hl, k1, k2⟩ := h
    refine ⟨_, (aqc (aqW (eq6 (bqg (dqf (K := K) rfl PySem.F.plainAttrs_str PySem.F.slot_str_startswith PySem.F.type_str_startswith oqT (cqw (pv 0) rfl) (aqa (pv 1) (aqa (cqw (pv 0) rfl) aqb)))))
        (aqd (aqo gqK)) aqv)
      (aqc (nq8 (pv 0) (aqj (aqz (K := K) rfl) (cqw (pv 0) rfl) (aqY (cqa (K := K) rfl) rfl g.iqS PySem.boot_len (aqa (pv 1) aqb))) rfl)
      (aqd (aqo gqK)))), ?_⟩
    have hcur : Cur H g.aqs p t i := ⟨dx, hp⟩
    walk_at "rd"
    refine fqG hcur g.aqi g.aq4 ⟨rfl, aqV hcur g.aqi g.aqp ?_⟩
    walk_at "rd"
    have e := sqB t w i hi
    rw [dqd, dqd] at e
    rw [e]
    by_cases h : (t.drop i).take w.length = w
    · rw [decide_eq_true h, if_neg (by decide)]
      refine aqV hcur g.aqi g.aqp ?_
      walk_at "rd"
      exact ⟨aqh (by have := congrArg List.length h; rw [List.length_take, List.length_drop] at this; omega), mq8 hcur g.aqi g.aqp (i + w.length) (by omega) fun H' sb h' => k1 h H' sb h'⟩
    · rw [decide_eq_false h, if_pos rfl]
      exact k2 h
theorem iqL (g : G K mg) : FnOk P w K mg base CX0 1 g.fqk g.eqP ["door", "cursor"] (mq0 K g.aqs) := by
  refine g.fqr.ok mqD (fun vs H Q E h => ?_) (fun cdv A outer s H vs Q E hr h => ?_)
  · obtain ⟨p, t, i, c, n, rfl, _⟩ := h; rfl
  · obtain ⟨p, t, i, c, n, rfl, hcur, hl, hc, h48, h57, hn, k⟩ := h
    refine ⟨_, (aqd (aqo (aqj (aqz (K := K) rfl) (aqj fql (pv 0) aqe) (bqL mqP rfl g.oq9 mqQ (aqa (aq3 (aqw (K := K) rfl) (cqw (pv 1) rfl) (cqw (pv 1) rfl) (fun _ _ => rfl)) aqb))))), ?_⟩
    walk_at "rd"
    refine ⟨.inl ⟨by omega, by omega⟩, fqG hcur g.aqi g.aq4 (aqV hcur g.aqi g.aqp ?_)⟩
    walk_at "rd"
    refine ⟨c, aqh hl, cqs hc, _, by show 1 ≤ 640; decide, qqz c (by omega) h48, ?_⟩
    rw [show (n : Int) * 10 + ((c - 48 : Nat) : Int) = ((n * 10 + (c - 48) : Nat) : Int) by omega]
    exact k
theorem oq1 (g : G K mg) : FnOk P w K mg base CX0 1 g.hqs g.gqH ["rooted", "texts", "ends"] (oqH K) := by
  refine g.jqy.ok iqk (fun vs H Q E h => ?_) (fun cdv A outer s H vs Q E hr h => ?_)
  · obtain ⟨r, e, p, ts, rfl, _⟩ := h; rfl
  · obtain ⟨r, e, p, ts, rfl, hp, hl, k⟩ := h
    refine ⟨_, (aqH (aqk (i := 3) iqk.nd rfl (Or.inl rfl) (cqm (bqg (pv 0)) aqm aqm))
      (aqH (aqk (i := 4) iqk.nd rfl (Or.inl rfl) (cqm (PW.pt (hqt (bqg (pv 2)) (gqk (aqq lqu (aqY (cqa (K := K) rfl) rfl g.iqS PySem.boot_len (aqa (pv 1) aqb)) aqe (nomark _))))) aqm aqm))
      (aqd (aqo (aqj (aqz (K := K) rfl) (aqj (aqz (K := K) rfl) (pv 3) (dqf (K := K) rfl PySem.F.plainAttrs_str PySem.F.slot_str_join PySem.F.type_str_join (gqC (K := K) rfl) aqm (aqa (pv 1) aqb))) (pv 4)))))), ?_⟩
    have c1 : Str.ofString "/" = ⟨[47].toArray⟩ := by decide +kernel
    rw [c1]
    walk_at "rd"
    refine ⟨fun σ H' => H' = H ∧ σ = [some (.bl r), some (.ref p), some (.bl e), some (.str ⟨(if r then [47] else [] : List Nat).toArray⟩), none], ?_, ?_⟩
    · cases r with
      | true => exact ite2 (fun _ => ⟨rfl, rfl⟩) (fun z => absurd rfl z)
      | false => exact ite2 (fun z => by cases z) (fun _ => ⟨rfl, rfl⟩)
    rintro σ H' ⟨rfl, rfl⟩
    walk_at "rd"
    refine ⟨fun σ H'' => H'' = H' ∧ σ = [some (.bl r), some (.ref p), some (.bl e), some (.str ⟨(if r then [47] else [] : List Nat).toArray⟩), some (.str ⟨(if e && !ts.isEmpty then [47] else [] : List Nat).toArray⟩)], ?_, ?_⟩
    · cases e with
      | false => exact ite2 (fun z => by cases z) (fun _ => ⟨rfl, rfl⟩)
      | true =>
        refine ite2 (fun _ => ⟨_, .inl hp, ?_⟩) (fun z => absurd rfl z)
        rw [List.length_map]
        cases ts with
        | nil => exact ite2 (fun z => absurd z (by decide)) (fun _ => ⟨rfl, rfl⟩)
        | cons t ts => exact ite2 (fun _ => ⟨rfl, rfl⟩) (fun z => absurd (by simp) z)
    rintro σ H'' ⟨rfl, rfl⟩
    walk_at "rd"
    have hj := jqf (sep := 47) ts
    have h1 : (if r = true then [47] else ([] : List Nat)).length ≤ 1 := by split <;> simp
    have h2 : (if (e && !ts.isEmpty) = true then [47] else ([] : List Nat)).length ≤ 1 := by split <;> simp
    refine ⟨ts.map fun l => ⟨l.toArray⟩, by rw [List.map_map]; exact hp, ?_, ?_⟩
    · rw [lqf, List.length_map]
      have : (ts.map List.length).sum + ts.length ≤ (joinT 47 ts).length + 1 := hj
      omega
    rw [show (⟨#[47]⟩ : Str) = ⟨[47].toArray⟩ from rfl, iq8]
    walk_at "rd"
    refine ⟨aqh (by omega), aqh (by rw [List.length_append]; omega), ?_⟩
    rw [List.append_assoc]
    exact k
theorem kup : k_UP = sV sUp := congrArg V.str (show Str.ofString ".." = ⟨sUp.toArray⟩ by decide +kernel)
theorem kst : nqP = sV sStay := congrArg V.str (show Str.ofString "." = ⟨sStay.toArray⟩ by decide +kernel)
theorem pqs (g : G K mg) : FnOk P w K mg base CX0 1 g.jqh g.hqg ["step"] qq0 := by
  refine g.lqw.ok qqn (fun vs H Q E h => ?_) (fun cdv A outer s H vs Q E hr h => ?_)
  · obtain ⟨s, rfl, _⟩ := h; rfl
  · obtain ⟨s, rfl, k⟩ := h
    refine ⟨_, (aqd (aqo (rqb (bq3 eqE (pv 0) (aqn (v := nqP) rfl g.nq7 ⟨_, rfl⟩) (nomark _)) (hqZ (bq3 eqE (pv 0) (aqn (v := k_UP) rfl g.c_UP ⟨_, rfl⟩) (nomark _)))))), ?_⟩
    have d1 : Str.ofString ".." = ⟨sUp.toArray⟩ := by decide +kernel
    have d2 : Str.ofString "." = ⟨sStay.toArray⟩ := by decide +kernel
    walk_at "rd"
    rw [d1, d2]
    simp only [hqO]
    by_cases h2 : s = sStay
    · rw [if_pos h2]
      rw [show isDot s = true by simp [isDot, h2]] at k
      exact k
    · rw [if_neg h2]
      rw [show isDot s = decide (s = sUp) by simp [isDot, h2]] at k
      exact k
theorem rqo (g : G K mg) : FnOk P w K mg base CX0 1 g.lqH g.jqa ["left", "rooted"] (rqJ K) := by
  refine g.nqv.ok rqO (fun vs H Q E h => ?_) (fun cdv A outer s H vs Q E hr h => ?_)
  · obtain ⟨p, L, r, rfl, _⟩ := h; rfl
  · obtain ⟨p, L, r, rfl, hp, hl, k⟩ := h
    refine ⟨_, (aqd (aqW (PW.pt (hqt (aqq lqu (aqY (cqa (K := K) rfl) rfl g.iqS PySem.boot_len (aqa (pv 0) aqb)) aqe (nomark _)) (gqk (aqq lqz (aq3 (aqw (K := K) rfl) (pv 0) (qqc mqB aqe) (fun _ _ => rfl)) (aqn (v := k_UP) rfl g.c_UP ⟨_, rfl⟩) (nomark _)))))
        (aqd (dqP (nqm (K := K) rfl PySem.F.plainAttrs_list PySem.F.slot_list_pop PySem.F.type_list_pop wqh (pv 0)))) (aqd (aqW (eq6 (bqg (pv 1)))
        (aqd (dqP (dqf (K := K) rfl PySem.F.plainAttrs_list PySem.F.slot_list_append PySem.F.type_list_append cqx (pv 0) (aqa (aqn (v := k_UP) rfl g.c_UP ⟨_, rfl⟩) aqb)))) aqv)))), ?_⟩
    walk_at "rd"
    simp only [kup]
    have hS : SqL K H p (L.map sV) ∨ SqT K H p (L.map sV) := .inl (.of hp)
    have put : (if r then L else L ++ [sUp]) = goUp r L → (if r = false then (∃ xs, SqL K H p xs) ∧ ∃ xs, H p = some (.lst xs) ∧ xs.length < sizeLine ∧ Q .non (upd H p (.lst (xs ++ [sV sUp]))) else Q .non H) := fun e => by
      cases r with
      | true =>
        rw [if_neg (by decide)]
        rw [← e, if_pos rfl, wqk hp] at k
        exact k
      | false =>
        rw [if_pos rfl]
        refine ⟨⟨_, .of hp⟩, _, hp, aqh (by rw [List.length_map]; omega), ?_⟩
        rw [← e, if_neg (by decide), List.map_append] at k
        exact k
    refine ⟨_, hS, ?_⟩
    rw [List.length_map]
    cases hg : L.getLast? with
    | none =>
      have hL := List.getLast?_eq_none_iff.mp hg
      subst hL
      refine ite2 (fun z => absurd z (by decide)) (fun _ => put ?_)
      simp [goUp]
    | some s =>
      have hn : L ≠ [] := fun z => by rw [z] at hg; cases hg
      have hl0 := List.length_pos_iff.mpr hn
      refine ite2 (fun _ => ?_) (fun z => absurd (by omega) z)
      refine ⟨_, _, hS, hqz _ hg, ?_⟩
      walk_at "rd"
      by_cases hs : s = sUp
      · subst hs
        refine ite2 (fun z => absurd (rfl : (⟨sUp.toArray⟩ : Str) = ⟨sUp.toArray⟩) z) (fun _ => put ?_)
        simp only [goUp, hg, if_true]
      · refine ite2 (fun _ => ?_) (fun z => absurd (fun e => hs (hqO.mp e)) z)
        refine ⟨⟨_, .of hp⟩, _, sV s, hp, ?_, ?_⟩
        · rw [List.length_map, List.getElem?_map, ← List.getLast?_eq_getElem?, hg]; rfl
        · rw [show goUp r L = L.dropLast by simp only [goUp, hg, if_neg hs], List.map_dropLast] at k
          exact k
theorem aqT (g : G K mg) : FnOk P w K mg base CX0 1 g.dqz g.dqc ["_law_script", "_law_k"] (jqA K) := by
  refine g.aqK.ok jqQ (fun vs H Q E h => ?_) (fun cdv A outer s H vs Q E hr h => ?_)
  · obtain ⟨a, ns, k, rfl, _⟩ := h; rfl
  · obtain ⟨a, ns, i, rfl, hS, k⟩ := h
    refine ⟨_, (aqc (aqW (aqq qqM (pv 1) (aqY (cqa (K := K) rfl) rfl g.iqS PySem.boot_len (aqa (pv 0) aqb)) (nomark _))
        (aqd (aqo (aq3 (aqw (K := K) rfl) (pv 0) (pv 1) (fun _ _ => rfl)))) aqv)
      (aqd (aqo aqe))), ?_⟩
    walk_at "rd"
    refine ⟨ns.map V.int, .inl hS, ite2 (fun h => ?_) (fun h => ?_)⟩
    · rw [List.length_map] at h
      exact ⟨ns.map V.int, _, .inl hS, tqc (by omega), k⟩
    · rw [List.length_map] at h
      rw [List.getD_eq_getElem?_getD, List.getElem?_eq_none (by omega)] at k
      exact k
theorem dqD (g : G K mg) : FnOk P w K mg base CX0 1 g.fqp g.eqT ["_law_cell", "_law_most"] mq5 := by
  refine g.cqM.ok bqw (fun vs H Q E h => ?_) (fun cdv A outer s H vs Q E hr h => ?_)
  · obtain ⟨c, m, rfl, _⟩ := h; rfl
  · obtain ⟨c, m, rfl, hm, hm2, k⟩ := h
    refine ⟨_, (aqc (aqk (i := 2) bqw.nd rfl (Or.inl rfl) aqm)
      (aqc (aqk (i := 2) bqw.nd rfl (Or.inl rfl) (aqj (aqz (K := K) rfl) (pv 2) aqm))
      (aqc (aqk (i := 3) bqw.nd rfl (Or.inl rfl) aqm)
      (aqc (aqk (i := 4) bqw.nd rfl (Or.inl rfl) (aqj aq5 (pv 0) (pv 1)))
      (aqc (kqi PassesOwn.never rfl (jq5 rfl g.lqV (aqa (aqj (aqz (K := K) rfl) aqe (aqj aqQ (pv 0) (pv 1))) aqb)) (cqi (i := 5) bqw.nd rfl (Or.inl rfl))
      (aqc (aqk (i := 3) bqw.nd rfl (Or.inl rfl) (aqj (aqz (K := K) rfl) (pv 3) (aq3 (aqw (K := K) rfl) (pv 2) (aqj aqQ (aqj (aqz (K := K) rfl) (pv 4) (aqj fql (aqj fql aqe (pv 5)) (pv 5))) aqe) (fun _ _ => rfl))))
      (aqd (aqk (i := 4) bqw.nd rfl (Or.inl rfl) (aqj aq5 (pv 4) aqe)))))
      (aqd (aqo (pv 3)))))))), ?_⟩
    walk_at "rd"
    have h1 := Int.emod_nonneg c (show m ≠ 0 by omega)
    have h2 := Int.emod_lt_of_pos c hm
    refine ⟨uqH, ⟨hm, by omega⟩, hm, by omega, by omega, ?_⟩
    rw [vqt]
    refine hq4 (fun i σ H' => H' = H ∧ ∃ (l : List Nat) (nn : Int) (kk : Option V), σ = [some (.int c), some (.int m), some (.str ⟨SG.toArray⟩), some (sV l), some (.int nn), kk] ∧ l.length = i ∧ ∀ d ∈ l, isSg d = true) ⟨rfl, [], _, none, rfl, rfl, by simp⟩ ?_ ?_
    · rintro i σ H' hi ⟨rfl, l, nn, kk, rfl, hl, hs⟩
      have hl2 : l.length < 100 := by omega
      walk_at "rd"
      have hat := tqo (nn + 31 * (0 + (i : Int)) * (0 + (i : Int)))
      refine ⟨.inl ⟨by decide, by decide⟩, .inr ⟨by omega, by omega⟩, by decide, ?_⟩
      refine ⟨_, sq2, hat.1, aqh (by omega), ⟨by decide, by decide⟩, l ++ [sgAt (nn + 31 * (0 + (i : Int)) * (0 + (i : Int)))], _, _, ⟨rfl, rfl, rfl⟩, by simp [hl], fun d hd => ?_⟩
      rcases List.mem_append.mp hd with z | z
      · exact hs d z
      · rw [List.mem_singleton.mp z]; exact hat.2
    · rintro σ H' ⟨rfl, l, nn, kk, rfl, hl, hs⟩
      walk_at "rd"
      exact k l (by omega) (by omega) hs
theorem kqN (g : G K mg) : FnOk P w K mg base CX0 1 g.dq3 g.dqy ["_law_cell"] kqI := by
  refine g.fqC.ok bqp (fun vs H Q E h => ?_) (fun cdv A outer s H vs Q E hr h => ?_)
  · obtain ⟨c, rfl, _⟩ := h; rfl
  · obtain ⟨c, rfl, k⟩ := h
    refine ⟨_, (aqc (aqk (i := 1) bqp.nd rfl (Or.inl rfl) aqm)
      (aqc (aqk (i := 2) bqp.nd rfl (Or.inl rfl) (aq3 (aqw (K := K) rfl) (pv 1) (aqj aqQ (pv 0) aqe) (fun _ _ => rfl)))
      (aqc (aqk (i := 3) bqp.nd rfl (Or.inl rfl) (aqj aq5 (pv 0) aqe))
      (aqc (kqi PassesOwn.never rfl (jq5 rfl g.lqV (aqa (aqj aqQ (pv 3) aqe) aqb)) (cqi (i := 4) bqp.nd rfl (Or.inl rfl))
      (aqc (aqk (i := 3) bqp.nd rfl (Or.inl rfl) (aqj aq5 (pv 3) aqe))
      (aqd (aqk (i := 2) bqp.nd rfl (Or.inl rfl) (aqj (aqz (K := K) rfl) (pv 2) (aq3 (aqw (K := K) rfl) (aqj (aqz (K := K) rfl) (pv 1) aqm) (aqj aqQ (aqj (aqz (K := K) rfl) (pv 3) (aqj fql aqe (pv 4))) aqe) (fun _ _ => rfl)))))))
      (aqd (aqo (pv 2))))))), ?_⟩
    walk_at "rd"
    have h0 := Int.emod_nonneg c (show (52 : Int) ≠ 0 by decide)
    have h1 := Int.emod_lt_of_pos c (show (0 : Int) < 52 by decide)
    have h8 := Int.emod_nonneg (c / 52) (show (8 : Int) ≠ 0 by decide)
    have h9 := Int.emod_lt_of_pos (c / 52) (show (0 : Int) < 8 by decide)
    have e52 : (Str.ofString "abcdefghijklmnopqrstuvwxyzABCDEFGHIJKLMNOPQRSTUVWXYZ").cps.toList = AL.take 52 := by decide +kernel
    obtain ⟨c0, hc0, hl0⟩ := vqm (c % 52).toNat (by omega)
    have hat : atI (Str.ofString "abcdefghijklmnopqrstuvwxyzABCDEFGHIJKLMNOPQRSTUVWXYZ").cps.toList (c % 52) = some c0 := by
      rw [e52, show c % 52 = ((c % 52).toNat : Int) by omega]
      exact cqs (by rw [List.getElem?_take]; simp [hc0]; omega)
    refine ⟨by decide, c0, by decide +kernel, hat, ⟨by decide, by decide⟩, by decide, by omega, by omega, ?_⟩
    obtain ⟨m, hm, hm7⟩ : ∃ m : Nat, c / 52 % 8 = (m : Int) ∧ m ≤ 7 := ⟨(c / 52 % 8).toNat, by omega, by omega⟩
    rw [hm, Int.toNat_natCast]
    refine hq4 (fun i σ H' => H' = H ∧ ∃ (l : List Nat) (nn : Int) (v4 : Option V), σ = [some (.int c), some (.str (Str.ofString "abcdefghijklmnopqrstuvwxyzABCDEFGHIJKLMNOPQRSTUVWXYZ")), some (.str ⟨l.toArray⟩), some (.int nn), v4] ∧ l.length = i + 1 ∧ (∀ d ∈ l, isAln d = true) ∧ ∀ d ∈ l.take 1, isLet d = true) ⟨rfl, [c0], _, none, rfl, rfl, ?_, ?_⟩ ?_ ?_
    · intro d hd
      rw [List.mem_singleton.mp hd]; simp [isAln, hl0]
    · intro d hd
      rw [List.mem_singleton.mp hd]; exact hl0
    · rintro i σ H' hi ⟨rfl, l, nn, v4, rfl, hl, hs, h1⟩
      walk_at "rd"
      rw [uqZ]
      have hx0 := Int.emod_nonneg (nn / 8 + 7 * (0 + (i : Int))) (show (62 : Int) ≠ 0 by decide)
      have hx1 := Int.emod_lt_of_pos (nn / 8 + 7 * (0 + (i : Int))) (show (0 : Int) < 62 by decide)
      obtain ⟨d, hd, hat2⟩ := wqY AL hx0 (by rw [sqy]; exact hx1)
      refine ⟨⟨by decide, by decide⟩, by decide +kernel, .inl ⟨by decide, by decide⟩, by decide, ?_⟩
      walk_at "rd"
      refine ⟨d, aqh (by rw [sqy]; decide), hat2, aqh (by omega), l ++ [d], _, _, ⟨rfl, rfl, rfl⟩, by rw [List.length_append, List.length_singleton, hl], fun e he => ?_, fun e he => ?_⟩
      · rcases List.mem_append.mp he with z | z
        · exact hs e z
        · rw [List.mem_singleton.mp z]; exact vqW d hd
      · rw [nqk, if_neg (by omega)] at he
        exact h1 e he
    · rintro σ H' ⟨rfl, l, nn, v4, rfl, hl, hs, h1⟩
      walk_at "rd"
      exact k l (by omega) (by omega) hs h1
theorem jqJ (g : G K mg) : FnOk P w K mg base CX0 1 g.dqw g.cq1 ["_law_sign", "_law_great"] fqU := by
  refine g.eq1.ok eqH (fun vs H Q E h => ?_) (fun cdv A outer s H vs Q E hr h => ?_)
  · obtain ⟨c, g, rfl, _⟩ := h; rfl
  · obtain ⟨c, gr, rfl, hc, k⟩ := h
    refine ⟨_, (aqc (aqk (i := 2) eqH.nd rfl (Or.inl rfl) aqm)
      (aqH (aqW (bqg (pv 1))
        (aqd (aqk (i := 2) eqH.nd rfl (Or.inl rfl) aqm)) aqv)
      (aqd (aqo (aqj (aqz (K := K) rfl) (aqj (aqz (K := K) rfl) aqm (aq3 (aqw (K := K) rfl) (pv 2) (aqj aq5 (aqY kqj rfl g.sqj lqh (aqa (pv 0) aqb)) aqe) (fun _ _ => rfl))) (aq3 (aqw (K := K) rfl) (pv 2) (aqj aqQ (aqY kqj rfl g.sqj lqh (aqa (pv 0) aqb)) aqe) (fun _ _ => rfl))))))), ?_⟩
    have l := cq7 hc
    walk_at "rd"
    obtain ⟨fg, hfg⟩ : ∃ fg : Nat → Nat, fg = (if gr then (fun n => if n < 10 then 48 + n else 55 + n) else hexd) := ⟨_, rfl⟩
    have hk : sgO (fg (c / 16)) (fg (c % 16)) = some c := by
      rw [hfg]
      cases gr
      · exact tqL hc
      · exact pqW hc
    refine ⟨fun σ H1 => H1 = H ∧ ∃ z : Str, σ = [some (.str ⟨#[c]⟩), some (.bl gr), some (.str z)] ∧ z.length = 16 ∧ ∀ n, n < 16 → z.cps.toList[n]? = some (fg n), ?_, ?_⟩
    · rw [hfg]
      cases gr
      · exact ⟨rfl, _, rfl, by decide +kernel, uqt⟩
      · exact ⟨rfl, _, rfl, by decide +kernel, qqC⟩
    rintro σ H1 ⟨rfl, z, rfl, hz, hg⟩
    walk_at "rd"
    have a1 : atI z.cps.toList ((c : Int) / 16) = some (fg (c / 16)) := by
      rw [show (c : Int) / 16 = ((c / 16 : Nat) : Int) by omega]
      exact cqs (hg (c / 16) (by omega))
    have a2 : atI z.cps.toList ((c : Int) % 16) = some (fg (c % 16)) := by
      rw [show (c : Int) % 16 = ((c % 16 : Nat) : Int) by omega]
      exact cqs (hg (c % 16) (by omega))
    have hzl : z.length ≤ sizeLine := by rw [hz]; decide
    exact ⟨⟨by decide, by decide⟩, _, hzl, a1, by decide, by decide, _, hzl, a2, by decide, k _ _ hk⟩
theorem mqY (g : G K mg) : FnOk P w K mg base CX0 1 g.fqF g.eqZ ["_law_text_here", "_law_cell"] (mqL K) := by
  refine g.gq0.ok fq2 (fun vs H Q E h => ?_) (fun cdv A outer s H vs Q E hr h => ?_)
  · obtain ⟨t, c, rfl, _⟩ := h; rfl
  · obtain ⟨t, c, rfl, hc, hl, h128, k⟩ := h
    refine ⟨_, (aqc (aqk (i := 2) fq2.nd rfl (Or.inl rfl) (aqj aqQ (aqj aq5 (pv 1) aqe) (aqj (aqL (K := K)) (aqY (cqa (K := K) rfl) rfl g.iqS PySem.boot_len (aqa (pv 0) aqb)) aqe)))
      (aqc (aqk (i := 3) fq2.nd rfl (Or.inl rfl) (aq3 (aqw (K := K) rfl) aqm (aqj aqQ (aqj aq5 (pv 1) aqe) aqe) (fun _ _ => rfl)))
      (aqc (aqW (aqq eqE (aqj aqQ (pv 1) aqe) aqe (nomark _))
        (aqd (aqo (aqj (aqL (K := K)) (aqj (aqL (K := K)) (bqB (dqT (K := K) rfl) (pv 0) dqN (bqR (pv 2))) (pv 3)) (bqB (dqT (K := K) rfl) (pv 0) (bqR (pv 2)) dqN)))) aqv)
      (aqc (aqW (aqq eqE (aqj aqQ (pv 1) aqe) aqe (nomark _))
        (aqd (aqo (aqj (aqL (K := K)) (bqB (dqT (K := K) rfl) (pv 0) dqN (bqR (pv 2))) (bqB (dqT (K := K) rfl) (pv 0) (bqR (aqj (aqL (K := K)) (pv 2) aqe)) dqN)))) aqv)
      (aqd (aqo (aqj (aqL (K := K)) (aqj (aqL (K := K)) (bqB (dqT (K := K) rfl) (pv 0) dqN (bqR (pv 2))) (pv 3)) (bqB (dqT (K := K) rfl) (pv 0) (bqR (aqj (aqL (K := K)) (pv 2) aqe)) dqN)))))))), ?_⟩
    walk_at "rd"
    obtain ⟨at_, ha, ea⟩ : ∃ j : Nat, j ≤ t.length ∧ c / 3 % ((t.length : Int) + 1) = (j : Int) := by
      have h1 := Int.emod_nonneg (c / 3) (show (t.length : Int) + 1 ≠ 0 by omega)
      have h2 := Int.emod_lt_of_pos (c / 3) (show 0 < (t.length : Int) + 1 by omega)
      exact ⟨(c / 3 % ((t.length : Int) + 1)).toNat, by omega, by omega⟩
    obtain ⟨jj, hjj, ejj⟩ : ∃ j : Nat, j < 14 ∧ c / 7 % 14 = (j : Int) := ⟨(c / 7 % 14).toNat, by omega, by omega⟩
    rw [ea, ejj, show ((at_ : Int) + 1) = ((at_ + 1 : Nat) : Int) by omega, oqo, dqn, dqn]
    obtain ⟨x, hx, hx128⟩ : ∃ x, (Str.ofString "/:?#&=~.{a0Z @").cps.toList[jj]? = some x ∧ x < 128 := by
      have key : ∀ j, j < 14 → ∃ x, (Str.ofString "/:?#&=~.{a0Z @").cps.toList[j]? = some x ∧ x < 128 := by
        intro j hj
        have hl : (Str.ofString "/:?#&=~.{a0Z @").cps.toList.length = 14 := by decide +kernel
        refine ⟨_, List.getElem?_eq_getElem (by rw [hl]; exact hj), ?_⟩
        have all : ∀ x ∈ (Str.ofString "/:?#&=~.{a0Z @").cps.toList, x < 128 := by decide +kernel
        exact all _ (List.getElem_mem _)
      exact key jj hjj
    have lt := List.length_take_le at_ t
    have ld : (t.drop at_).length = t.length - at_ := List.length_drop
    have ld1 : (t.drop (at_ + 1)).length = t.length - (at_ + 1) := List.length_drop
    have lt2 : (t.take at_).length = at_ := by rw [List.length_take]; omega
    have m1 : ∀ y ∈ t.take at_, y < 128 := fun y hy => h128 y (List.mem_of_mem_take hy)
    have m2 : ∀ k, ∀ y ∈ t.drop k, y < 128 := fun k y hy => h128 y (List.mem_of_mem_drop hy)
    have mx : ∀ y ∈ [x], y < 128 := fun y hy => by rw [List.mem_singleton.mp hy]; exact hx128
    have app : ∀ (a b : List Nat), (∀ y ∈ a, y < 128) → (∀ y ∈ b, y < 128) → ∀ y ∈ a ++ b, y < 128 := fun a b h1 h2 y hy => (List.mem_append.mp hy).elim (h1 y) (h2 y)
    refine ⟨⟨by decide, by decide⟩, aqh (by omega), by omega, ⟨by decide, by decide⟩, by decide, x, by decide +kernel, cqs hx, by decide, ?_⟩
    rw [show (⟨#[x]⟩ : Str) = ⟨[x].toArray⟩ from rfl]
    simp only [kqZ, dqd, List.length_append, List.length_singleton]
    refine ite2 (fun _ => ?_) (fun _ => ⟨by decide, ite2 (fun _ => ?_) (fun _ => ?_)⟩)
    · exact ⟨aqh (by omega), aqh (by omega), aqh (by omega), aqh (by omega), k _ (by simp only [List.length_append, List.length_singleton]; omega) (app _ _ (app _ _ m1 mx) (m2 _))⟩
    · exact ⟨aqh (by omega), aqh (by omega), aqh (by omega), k _ (by simp only [List.length_append]; omega) (app _ _ m1 (m2 _))⟩
    · exact ⟨aqh (by omega), aqh (by omega), aqh (by omega), aqh (by omega), k _ (by simp only [List.length_append, List.length_singleton]; omega) (app _ _ (app _ _ m1 mx) (m2 _))⟩
theorem oqL (g : G K mg) : FnOk P w K mg base CX0 2 g.hqq g.gqF ["thing"] oqX := by
  refine g.kqg.ok pqe (fun vs H Q E h => ?_) (fun cdv A outer s H vs Q E hr h => ?_)
  · obtain ⟨d, v, rfl, _⟩ := h; rfl
  · obtain ⟨d, v, rfl, hv, hs, k⟩ := h
    refine ⟨_, (aqd (aqo (mqH (aqY pqP rfl g.cqT bq5 (aqa (pv 0) (aqa (nqq (v := .ty "str") rfl g.pqt oqh rfl) aqb))) (hqZ (aqf (iqj g) (hr.mono (by decide)) rfl g.hqk g.fq3.kp g.hqF .nil pass0 (aqa (pv 0) (aqa (aqn (v := qqK) rfl g.nqL ⟨_, rfl⟩) aqb))))))), ?_⟩
    cases hv with
    | lst hp r => walk_at "rd"; simp only [rqu hp]; walk_at "rd"; exact k H (Same.refl _)
    | tup hp r => walk_at "rd"; simp only [rqZ hp]; walk_at "rd"; exact k H (Same.refl _)
    | str x =>
      walk_at "rd"
      refine ⟨x, _, rfl, mqG hs, fun H' sm => ?_⟩
      simp only [vq7]
      exact k H' sm
    | _ => walk_at "rd"; exact k H (Same.refl _)
theorem oqU (g : G K mg) : FnOk P w K mg base CX0 2 g.hqw g.gqy ["figures"] lqa := by
  refine g.jqN.ok iqf (fun vs H Q E h => ?_) (fun cdv A outer s H vs Q E hr h => ?_)
  · obtain ⟨c, rfl, _⟩ := h; rfl
  · obtain ⟨l, rfl, hl, ha, k⟩ := h
    refine ⟨_, (aqc (aqW (aqq lqz (aqY (cqa (K := K) rfl) rfl g.iqS PySem.boot_len (aqa (pv 0) aqb)) aqe (nomark _))
        (aqd (aqo aqN)) aqv)
      (aqc (aqk (i := 1) iqf.nd rfl (Or.inl rfl) (aqf (fqR g) (hr.mono (by decide)) rfl g.eqs g.cqZ.kp g.eqo .nil pass0 (aqa (aq3 (aqw (K := K) rfl) (pv 0) aqe (fun _ _ => rfl)) aqb)))
      (aqc (aqk (i := 2) iqf.nd rfl (Or.inl rfl) (aqf (fqR g) (hr.mono (by decide)) rfl g.eqs g.cqZ.kp g.eqo .nil pass0 (aqa (aq3 (aqw (K := K) rfl) (pv 0) aqe (fun _ _ => rfl)) aqb)))
      (aqc (aqW (PW.pt (lqY (aqq dqR (pv 1) aqN (nomark _)) (jqX (aqq dqR (pv 2) aqN (nomark _)))))
        (aqd (aqo aqN)) aqv)
      (aqd (aqo (aqf (iqT g) (hr.mono (by decide)) rfl g.gqd g.eqw.kp g.gqj .nil pass0 (aqa (aqj (aqz (K := K) rfl) (aqj fql (pv 1) aqe) (pv 2)) aqb)))))))), ?_⟩
    walk_at "rd"
    have hz : l.length ≤ sizeLine := aqh (by omega)
    refine ⟨hz, ite2 (fun h => ?_) (fun h => ?_)⟩
    · rw [pqb (by omega)] at k
      exact k
    · obtain ⟨a, b, rfl⟩ := wqo (l := l) (by omega)
      refine ⟨a, hz, rfl, ha a (by simp), b, hz, rfl, ha b (by simp), ?_⟩
      have k : Q (signOf a b) H := k
      unfold signOf at k
      cases e1 : fig a with
      | none =>
        rw [e1] at k
        rw [kqb e1]
        exact k
      | some x =>
        cases e2 : fig b with
        | none =>
          rw [e1, e2] at k
          rw [gqp e1, kqb e2]
          exact k
        | some y =>
          rw [e1, e2] at k
          rw [gqp e1, gqp e2]
          walk_at "rd"
          exact ⟨.inr ⟨by decide, by decide⟩, x * 16 + y, by rw [Int.natCast_add, Int.natCast_mul]; rfl, k⟩
theorem eqg (g : G K mg) : FnOk P w K mg base CX0 2 g.hqU g.gqA ["text"] fqg := by
  refine g.dqE.ok oqN (fun vs H Q E h => ?_) (fun cdv A outer s H vs Q E hr h => ?_)
  · obtain ⟨c, rfl, _⟩ := h; rfl
  · obtain ⟨l, rfl, hl, hs, k⟩ := h
    refine ⟨_, (aqd (aqo (dqf (K := K) rfl PySem.F.plainAttrs_str PySem.F.slot_str_join PySem.F.type_str_join (gqC (K := K) rfl) aqm (aqa (jqs (fx := []) (fr := []) rfl rfl (by decide +kernel) rfl (by decide +kernel) rfl (by decide +kernel) rfl .nil rfl (pqw (pv 0)) (fun _ _ _ => kq5) (fun _ _ _ => (cqm (aqq kq6 (pv 0) (aqn (v := nqN) rfl g.nqu ⟨_, rfl⟩) (by with_unfolding_all rfl)) (pv 0) (aqf (oqS g) (hr.mono (by decide)) rfl g.lq6 g.jqG.kp g.mqk .nil pass0 (aqa (pv 0) aqb))))) aqb)))), ?_⟩
    walk_at "rd"
    intro p hp
    refine oqy (z := ⟨l.toArray⟩) (by rw [dqd]; exact aqh (by omega)) hp (fun c => .str ⟨(wr1 c).toArray⟩) (fun c hc H' R hR => ?_) (fun H' sm hp' => ?_)
    · have l1 := cq7 (hs c hc)
      have e := oqz c (by omega)
      have hR' := hR H' (Same.refl _)
      walk_at "rd"
      unfold wr1 at hR'
      refine ite2 (fun h => ?_) (fun h => ?_)
      · rw [decide_eq_true h] at e
        rw [← e, if_pos rfl] at hR'
        exact hR'
      · rw [decide_eq_false h] at e
        rw [← e, if_neg (by decide)] at hR'
        exact ⟨by omega, hR'⟩
    · walk_at "rd"
      refine ⟨l.map fun c => ⟨(wr1 c).toArray⟩, SqL.of (by rw [hp', List.map_map]; rfl), ?_, ?_⟩
      · have h3 : ∀ m : List Nat, ((m.map fun c => (⟨(wr1 c).toArray⟩ : Str)).map (·.length)).sum ≤ 3 * m.length := fun m => by
          induction m with
          | nil => simp
          | cons c r ih =>
            have := pqv c
            simp only [List.map_cons, List.sum_cons, List.length_cons, dqd] at ih ⊢
            omega
        have := h3 l
        simp only [List.length_map, List.length_nil, Nat.mul_zero, Nat.add_zero, dqd] at this ⊢
        omega
      · rw [oqq]
        have e : ((l.map fun c => (⟨(wr1 c).toArray⟩ : Str)).flatMap fun y => y.cps.toList) = wr l := by
          unfold wr
          rw [List.flatMap_map]
        rw [e]
        exact k H' sm
theorem dqA (g : G K mg) : FnOk P w K mg base CX0 2 g.eqd g.dqv ["self", "signs"] (kqC K g.aqs) := by
  refine g.hqQ.ok kqr (fun vs H Q E h => ?_) (fun cdv A outer s H vs Q E hr h => ?_)
  · obtain ⟨p, t, sg, i, rfl, _⟩ := h; rfl
  · obtain ⟨p, t, sg, i, rfl, ⟨dx, hp⟩, hi, hl, k⟩ := h
    refine ⟨_, (aqd (aqo (mqH (vqd (fqz (pv 0) g.aqi g.dqO (fqK g) (hr.mono (by decide)) g.eqx .nil pass0)) (hqZ (bq3 kq6 (aq3 (aqw (K := K) rfl) (cqw (pv 0) rfl) (cqw (pv 0) rfl) (fun _ _ => rfl)) (pv 1) (by with_unfolding_all rfl)))))), ?_⟩
    have hcur : Cur H g.aqs p t i := ⟨dx, hp⟩
    walk_at "rd"
    refine aqM hcur ⟨p, t, i, rfl, hcur, hl, _, rfl, ?_⟩
    by_cases he : i = t.length
    · rw [decide_eq_true he, if_neg (by decide)]
      rw [fqc (by rw [he]; exact List.getElem?_eq_none (Nat.le_refl _))] at k
      exact k
    rw [decide_eq_false he, if_pos rfl]
    refine fqG hcur g.aqi g.aq4 (aqV hcur g.aqi g.aqp ?_)
    have hc : t[i]? = some t[i] := List.getElem?_eq_getElem (by omega)
    walk_at "rd"
    refine ⟨t[i], aqh hl, cqs hc, ?_⟩
    rw [fqf hc] at k
    exact k
theorem lqi (g : G K mg) : FnOk P w K mg base CX0 2 g.eqL g.dq4 ["steps", "rooted"] (lqj K) := by
  refine g.gqn.ok fqw (fun vs H Q E h => ?_) (fun cdv A outer s H vs Q E hr h => ?_)
  · obtain ⟨ps, ss, r, rfl, _⟩ := h; rfl
  · obtain ⟨ps, ss, r, rfl, hps, hl, k⟩ := h
    refine ⟨_, (aqc (aqk (i := 2) fqw.nd rfl (Or.inl rfl) (dqU aqb))
      (aqc (kqi PassesOwn.never rfl (jqr (K := K) rfl (pv 0)) (cqi (i := 3) fqw.nd rfl (Or.inl rfl))
      (aqd (aqW (aqq eqE (pv 3) (aqn (v := k_UP) rfl g.c_UP ⟨_, rfl⟩) (nomark _))
        (aqd (dqP (aqf (rqo g) (hr.mono (by decide)) rfl g.pq3 g.nqv.kp g.qqU .nil pass0 (aqa (pv 2) (aqa (pv 1) aqb))))) (aqd (aqW (aqq lqz (pv 3) (aqn (v := nqP) rfl g.nq7 ⟨_, rfl⟩) (nomark _))
        (aqd (dqP (dqf (K := K) rfl PySem.F.plainAttrs_list PySem.F.slot_list_append PySem.F.type_list_append cqx (pv 2) (aqa (pv 3) aqb)))) aqv)))))
      (aqd (aqo (bqL (eqB (K := K) rfl) rfl g.iqr hqC (aqa (pv 2) aqb)))))), ?_⟩
    walk_at "rd"
    refine ⟨by decide, fun p H1 hp s1 hp1 => ⟨⟨_, s1.tup hps⟩, ?_⟩⟩
    refine nq4 (xs := ss.map sV) (fun i σ H2 => Same H H2 ∧ H2 p = some (.lst ((stk (sofar r ss i)).map sV)) ∧ ∃ kk, σ = [some (.ref ps), some (.bl r), some (.ref p), kk]) ⟨s1, by rw [hp1]; simp [sofar, stk], none, rfl⟩ (fun i σ H2 _ h => h.1.tup hps) ?_ ?_
    · rintro i x σ H2 hx ⟨sm, hp2, kk, rfl⟩
      rw [List.getElem?_map] at hx
      obtain ⟨s, hs, rfl⟩ := Option.map_eq_some_iff.mp hx
      have hi : i < ss.length := by
        rcases Nat.lt_or_ge i ss.length with z | z
        · exact z
        · rw [List.getElem?_eq_none z] at hs; cases hs
      obtain ⟨ok, lk⟩ := nq0 r ss i
      rw [pqc hs]
      simp only [kup, kst]
      walk_at "rd"
      simp only [hqO]
      by_cases h1 : s = sUp
      · rw [if_pos h1]
        refine ⟨p, _, r, rfl, hp2, by omega, jqP hp sm, ?_, _, rfl⟩
        rw [aql, rqL ok, h1]
      · rw [if_neg h1]
        by_cases h2 : s = sStay
        · subst h2
          rw [sqh]
          exact ite2 (fun z => absurd rfl z) (fun _ => ⟨sm, hp2, _, rfl⟩)
        · refine ite2 (fun _ => ?_) (fun z => absurd h2 z)
          refine ⟨⟨_, .of hp2⟩, _, hp2, aqh (by rw [List.length_map]; omega), jqP hp sm, ?_, _, rfl⟩
          rw [aql, sq3 h1 h2, List.map_append]; rfl
    · rintro σ H2 ⟨sm, hp2, kk, rfl⟩
      rw [List.length_map, pqN] at hp2
      walk_at "rd"
      exact ⟨_, .inl (.of hp2), fun l H3 s3 hl3 => k l H3 (sm.trans s3) hl3⟩
theorem pqf {K : PySem.W.Frag} {p a : Addr} {fv : St} {Q : VK} {H1 : Hp} {cs : List Int} (hS : SqL K H1 a (cs.map V.int)) (hl : cs.length ≤ 2000) (hp : H1 p = none)
    (hQ : ∀ (ss : List Stp) (H' : Hp), Same H1 H' → ss.length = cs.length → (∀ s ∈ ss, StepOk s ∧ s.length ≤ 9) → H' p = some (.lst (ss.map sV)) → Q (.ref p) H') : CompI (Itl K a) p fv tYes (tCall iqK [] E0 (tCons (tVar 0) tNil)) Q H1 := by
  refine oqY hS (by rw [List.length_map]; exact aqh (by omega)) hp (fun _ y _ => ∃ s : Stp, y = sV s ∧ (StepOk s ∧ s.length ≤ 9)) (fun _ _ _ _ _ h => h) (fun x hx H' T sm hT => ?_) (fun ys H' sm all hp' => ?_)
  · obtain ⟨c, _, rfl⟩ := List.mem_map.mp hx
    rw [L2.pqq, L2.qqA, L2.sq0]
    refine ⟨_, rfl, c, rfl, fun l H'' s'' h1 h2 h3 => hT _ H'' s'' ⟨l, rfl, ⟨h1, h3⟩, h2⟩⟩
  · obtain ⟨ss, rfl, h1, h2⟩ := mqF all
    rw [List.length_map] at h1
    exact hQ ss H' sm h1 h2 hp'
theorem nqa (g : G K mg) : FnOk P w K mg base CX0 2 g.fqt g.eqR ["_law_cell"] iqK := by
  refine g.gq5.ok iqv (fun vs H Q E h => ?_) (fun cdv A outer s H vs Q E hr h => ?_)
  · obtain ⟨c, rfl, _⟩ := h; rfl
  · obtain ⟨c, rfl, k⟩ := h
    refine ⟨_, (aqc (aqk (i := 1) iqv.nd rfl (Or.inl rfl) (aqj aq5 (pv 0) aqe))
      (aqc (aqW (aqq qqM (aqj aqQ (pv 0) aqe) aqe (nomark _))
        (aqd (aqo aqm)) aqv)
      (aqc (aqW (aqq eqE (aqj aqQ (pv 0) aqe) aqe (nomark _))
        (aqd (aqo aqm)) aqv)
      (aqc (aqW (aqq eqE (aqj aqQ (pv 0) aqe) aqe (nomark _))
        (aqd (aqo (aq3 (aqw (K := K) rfl) (sqC (aqa aqm (aqa aqm (aqa aqm (aqa aqm (aqa aqm (aqa aqm (aqa aqm (aqa aqm aqb))))))))) (aqj aqQ (pv 1) aqe) (fun _ _ => rfl)))) aqv)
      (aqc (aqW (aqq qqM (aqj aqQ (pv 0) aqe) aqe (nomark _))
        (aqd (aqo (aqj fql (aq3 (aqw (K := K) rfl) aqm (aqj aqQ (pv 1) aqe) (fun _ _ => rfl)) (aqj (aqz (K := K) rfl) aqe (aqj aqQ (aqj aq5 (pv 1) aqe) aqe))))) aqv)
      (aqd (aqo (aqf (dqD g) (hr.mono (by decide)) rfl g.dqi g.cqM.kp g.dqk .nil pass0 (aqa (pv 1) (aqa aqe aqb)))))))))), ?_⟩
    walk_at "rd"
    have put : ∀ (l : List Nat) (z : Str) (H' : Hp), z = ⟨l.toArray⟩ → Same H H' → 0 < l.length → l.length ≤ 9 → l.all isSg = true → Q (.str z) H' := fun l z H' e sm h1 h2 h3 => by
      rw [e]; exact k l H' sm h1 h2 (List.all_eq_true.mp h3)
    refine ⟨⟨by decide, by decide⟩, by decide, ite2 (fun _ => put [46, 46] _ H (by decide +kernel) (Same.refl _) (by decide) (by decide) (by decide)) (fun _ => ⟨by decide, ite2 (fun _ => put [46] _ H (by decide +kernel) (Same.refl _) (by decide) (by decide) (by decide)) (fun _ => ⟨by decide, ite2 (fun _ => ?_) (fun _ => ⟨by decide, ite2 (fun _ => ?_) (fun _ => ?_)⟩)⟩)⟩)⟩
    · refine ⟨by decide, fun p hp => ⟨by decide, ?_⟩⟩
      have sm := rqn (o := .lst [V.str (Str.ofString "..."), V.str (Str.ofString ".a"), V.str (Str.ofString "..b"), V.str (Str.ofString "a."), V.str (Str.ofString "-"), V.str ⟨#[126]⟩, V.str (Str.ofString "a/b"), V.str (Str.ofString ":")]) hp
      obtain ⟨v, hv, hat⟩ := tqf [V.str (Str.ofString "..."), V.str (Str.ofString ".a"), V.str (Str.ofString "..b"), V.str (Str.ofString "a."), V.str (Str.ofString "-"), V.str ⟨#[126]⟩, V.str (Str.ofString "a/b"), V.str (Str.ofString ":")] (c / 8) 8 (by decide) (by decide)
      refine ⟨_, v, .inl (.of aql), hat, ?_⟩
      simp only [List.mem_cons, List.not_mem_nil, or_false] at hv
      rcases hv with rfl | rfl | rfl | rfl | rfl | rfl | rfl | rfl
      · exact put [46, 46, 46] _ _ (by decide +kernel) sm (by decide) (by decide) (by decide)
      · exact put [46, 97] _ _ (by decide +kernel) sm (by decide) (by decide) (by decide)
      · exact put [46, 46, 98] _ _ (by decide +kernel) sm (by decide) (by decide) (by decide)
      · exact put [97, 46] _ _ (by decide +kernel) sm (by decide) (by decide) (by decide)
      · exact put [45] _ _ (by decide +kernel) sm (by decide) (by decide) (by decide)
      · exact put [126] _ _ (by decide +kernel) sm (by decide) (by decide) (by decide)
      · exact put [97, 47, 98] _ _ (by decide +kernel) sm (by decide) (by decide) (by decide)
      · exact put [58] _ _ (by decide +kernel) sm (by decide) (by decide) (by decide)
    · obtain ⟨d, hd, hat⟩ := tqE (Str.ofString "abc").cps.toList (c / 8) 3 (by decide) (by decide +kernel)
      have hd : d = 97 ∨ d = 98 ∨ d = 99 := by
        rw [show (Str.ofString "abc").cps.toList = [97, 98, 99] by decide +kernel] at hd
        simpa using hd
      refine ⟨by decide, d, by decide +kernel, hat, ⟨by decide, by decide⟩, by decide, ?_⟩
      have h2 : c / 8 / 3 % 2 = 0 ∨ c / 8 / 3 % 2 = 1 := by omega
      have mo : ∀ (l : List Nat) (n : Int), (n = 1 ∨ n = 2) → l.length = 1 → MulOk (⟨l.toArray⟩ : Str) n := fun l n hn hl => by
        rcases hn with rfl | rfl <;> exact ⟨by decide, fun _ _ => by rw [dqd, hl]; decide, fun _ _ => notTooLong (by rw [dqd, hl]; decide)⟩
      rcases h2 with e | e <;> rw [e] <;> refine ⟨mo [d] _ (by simp) rfl, ?_⟩ <;> rcases hd with rfl | rfl | rfl
      · exact put [97] _ H (by decide +kernel) (Same.refl _) (by decide) (by decide) (by decide)
      · exact put [98] _ H (by decide +kernel) (Same.refl _) (by decide) (by decide) (by decide)
      · exact put [99] _ H (by decide +kernel) (Same.refl _) (by decide) (by decide) (by decide)
      · exact put [97, 97] _ H (by decide +kernel) (Same.refl _) (by decide) (by decide) (by decide)
      · exact put [98, 98] _ H (by decide +kernel) (Same.refl _) (by decide) (by decide) (by decide)
      · exact put [99, 99] _ H (by decide +kernel) (Same.refl _) (by decide) (by decide) (by decide)
    · exact ⟨_, 9, rfl, by decide, by decide, fun l h1 h2 h3 => k l H (Same.refl _) h1 (by omega) h3⟩
theorem iq6 (g : G K mg) : FnOk P w K mg base CX0 2 g.cq6 g.cqE ["_law_cell"] iq2 := by
  refine g.eqn.ok bqh (fun vs H Q E h => ?_) (fun cdv A outer s H vs Q E hr h => ?_)
  · obtain ⟨c, rfl, _⟩ := h; rfl
  · obtain ⟨c, rfl, k⟩ := h
    refine ⟨_, (aqc (aqW (aqq eqE (aqj aqQ (pv 0) aqe) aqe (nomark _))
        (aqd (aqo aqN)) aqv)
      (aqc (aqk (i := 1) bqh.nd rfl (Or.inl rfl) (dqU aqb))
      (aqc (kqi PassesOwn.never rfl (jq5 rfl g.lqV (aqa (aqj aqQ (aqj aq5 (pv 0) aqe) aqe) aqb)) (cqi (i := 2) bqh.nd rfl (Or.inl rfl))
      (aqc (aqk (i := 3) bqh.nd rfl (Or.inl rfl) (aqj (aqL (K := K)) (aqj aq5 (pv 0) aqe) (aqj fql aqe (pv 2))))
      (aqc (aqk (i := 4) bqh.nd rfl (Or.inl rfl) aqN)
      (aqH (aqW (aqq lqu (aqj aqQ (aqj aq5 (pv 3) aqe) aqe) aqe (nomark _))
        (aqd (aqk (i := 4) bqh.nd rfl (Or.inl rfl) (bqB (dqT (K := K) rfl) (aqf (dqD g) (hr.mono (by decide)) rfl g.dqi g.cqM.kp g.dqk .nil pass0 (aqa (aqj aq5 (pv 3) aqe) (aqa aqe aqb))) (bqR (aqj oqE (aqj aqQ (aqj aq5 (pv 3) aqe) aqe) aqe)) dqN))) aqv)
      (aqd (dqP (dqf (K := K) rfl PySem.F.plainAttrs_list PySem.F.slot_list_append PySem.F.type_list_append cqx (pv 1) (aqa (bqe (aqa (aqf (dqD g) (hr.mono (by decide)) rfl g.dqi g.cqM.kp g.dqk .nil pass0 (aqa (pv 3) (aqa aqe aqb))) (aqa (pv 4) aqb))) aqb))))))))
      (aqd (aqo (bqL (eqB (K := K) rfl) rfl g.iqr hqC (aqa (pv 1) aqb))))))), ?_⟩
    walk_at "rd"
    refine ⟨by decide, ite2 (fun _ => k none _ H (fun _ z => by cases z) (Same.refl _) .non) (fun h => ⟨by decide, fun p H1 hn1 s1 hp1 => ⟨⟨by decide, by decide⟩, by decide, by omega, by omega, ?_⟩⟩)⟩
    obtain ⟨m, hm, hm3⟩ : ∃ m : Nat, c / 3 % 4 = (m : Int) ∧ m ≤ 3 := ⟨(c / 3 % 4).toNat, by omega, by omega⟩
    rw [hm, Int.toNat_natCast]
    refine hq4 (fun i σ H' => Same H H' ∧ ∃ (ps : List (List Nat × Option (List Nat))) (ys : List V) (v2 v3 v4 : Option V), σ = [some (.int c), some (.ref p), v2, v3, v4] ∧ ps.length = i ∧ (∀ p ∈ ps, PairOk p ∧ p.1.length ≤ 5 ∧ ∀ v, p.2 = some v → v.length ≤ 6) ∧ H' p = some (.lst ys) ∧ IsTAll H' (ps.map fun p => .tuple [st p.1, oD p.2]) ys) ⟨s1, [], [], none, none, none, rfl, rfl, by simp, hp1, .nil⟩ ?_ ?_
    · rintro i σ H' hi ⟨sm, ps, ys, v2, v3, v4, rfl, hl, hs, hp', hys⟩
      walk_at "rd"
      refine ⟨⟨by decide, by decide⟩, .inl ⟨by decide, by decide⟩, ?_⟩
      generalize c / 12 + 71 * (0 + (i : Int)) = nn
      refine ⟨fun σ H2 => H2 = H' ∧ ∃ o : Option (List Nat), σ = [some (.int c), some (.ref p), some (.int (0 + (i : Int))), some (.int nn), some (otV o)] ∧ ∀ l, o = some l → l.length ≤ 6 ∧ ∀ c ∈ l, isSg c = true, ?_, ?_⟩
      · refine ⟨⟨by decide, by decide⟩, by decide, ite2 (fun h3 => ?_) (fun _ => ⟨rfl, none, rfl, fun _ z => by cases z⟩)⟩
        refine ⟨⟨by decide, by decide⟩, nn / 9, 6, rfl, by decide, by decide, fun l h1 h2 h3' => ?_⟩
        walk_at "rd"
        refine ⟨⟨by decide, by decide⟩, by decide, aqh (by omega), ?_⟩
        have h12 : nn / 3 % 3 - 1 = ((0 : Nat) : Int) ∨ nn / 3 % 3 - 1 = ((1 : Nat) : Int) := by omega
        rcases h12 with e | e
        · rw [e, dqn]
          exact ⟨some (l.drop 0), rfl, fun l' z => by cases z; exact ⟨by rw [List.length_drop]; omega, fun c hc => h3' c (List.mem_of_mem_drop hc)⟩⟩
        · rw [e, dqn]
          exact ⟨some (l.drop 1), rfl, fun l' z => by cases z; exact ⟨by rw [List.length_drop]; omega, fun c hc => h3' c (List.mem_of_mem_drop hc)⟩⟩
      · rintro σ H2 ⟨rfl, o, rfl, ho⟩
        walk_at "rd"
        refine ⟨⟨_, .of hp'⟩, nn, 5, rfl, by decide, by decide, fun l h1 h2 h3 => ⟨by decide, fun t H3 hn3 s3 ht => ?_⟩⟩
        have hyl := hys.length
        rw [List.length_map] at hyl
        refine ⟨ys, s3 _ _ hp', aqh (by omega), jqP hn1 (sm.trans s3), ps ++ [(l, o)], ys ++ [.ref t], _, _, _, ⟨rfl, rfl, rfl⟩, by rw [List.length_append, List.length_singleton, hl], fun e he => ?_, aql, ?_⟩
        · rcases List.mem_append.mp he with y | y
          · exact hs e y
          · rw [List.mem_singleton.mp y]
            exact ⟨⟨⟨h1, h3⟩, fun v hv => (ho v hv).2⟩, by show l.length ≤ 5; omega, fun v hv => (ho v hv).1⟩
        · rw [List.map_append]
          have st3 : SameT H3 (upd H3 p (.lst (ys ++ [.ref t]))) := jq8 (s3 _ _ hp')
          refine ((hys.mono s3.toT).mono st3).snoc (.tup (st3 _ _ ht) (.cons (.str _) (.cons (mql o) .nil)))
    · rintro σ H' ⟨sm, ps, ys, v2, v3, v4, rfl, hl, hs, hp', hys⟩
      walk_at "rd"
      refine ⟨_, .inl (.of hp'), fun q H2 s2 hq => k (some ps) _ H2 (fun ps' z => by cases z; exact ⟨by omega, hs⟩) (sm.trans s2) (.tup hq (hys.mono s2.toT))⟩
theorem mqE (g : G K mg) : FnOk P w K mg base CX0 2 g.fqH g.eqQ ["_law_cell"] mqI := by
  refine g.gq9.ok mqW (fun vs H Q E h => ?_) (fun cdv A outer s H vs Q E hr h => ?_)
  · obtain ⟨c, rfl, _⟩ := h; rfl
  · obtain ⟨c, rfl, k⟩ := h
    refine ⟨_, (aqc (aqW (aqq eqE (aqj aqQ (pv 0) aqe) aqe (nomark _))
        (aqd (aqo aqN)) aqv)
      (aqd (aqo (bqB (dqT (K := K) rfl) (aqf (dqD g) (hr.mono (by decide)) rfl g.dqi g.cqM.kp g.dqk .nil pass0 (aqa (aqj aq5 (pv 0) aqe) (aqa aqe aqb))) (bqR (aqj oqE (aqj aqQ (pv 0) aqe) aqe)) dqN)))), ?_⟩
    walk_at "rd"
    refine ⟨by decide, ite2 (fun _ => k none (fun _ z => by cases z)) (fun h => ⟨⟨by decide, by decide⟩, c / 3, 7, rfl, by decide, by decide, fun l h1 h2 h3 => ⟨by decide, ?_⟩⟩)⟩
    walk_at "rd"
    refine ⟨aqh (by omega), ?_⟩
    have h12 : c % 3 - 1 = ((0 : Nat) : Int) ∨ c % 3 - 1 = ((1 : Nat) : Int) := by omega
    rcases h12 with e | e
    · rw [e, dqn]
      exact k (some (l.drop 0)) (fun l' z => by cases z; exact ⟨by rw [List.length_drop]; omega, fun c hc => h3 c (List.mem_of_mem_drop hc)⟩)
    · rw [e, dqn]
      exact k (some (l.drop 1)) (fun l' z => by cases z; exact ⟨by rw [List.length_drop]; omega, fun c hc => h3 c (List.mem_of_mem_drop hc)⟩)
theorem bqW (g : G K mg) : FnOk P w K mg base CX0 2 g.dqB g.cq4 ["_law_text_here", "_law_free", "_law_bits"] gqc := by
  refine g.bql.ok bqt (fun vs H Q E h => ?_) (fun cdv A outer s H vs Q E hr h => ?_)
  · obtain ⟨s, fr, q, n, rfl, _⟩ := h; rfl
  · obtain ⟨s, fr, q, n, rfl, hb, hn, hl, hs, hfl, hf, k⟩ := h
    refine ⟨_, (aqc (aqk (i := 3) bqt.nd rfl (Or.inl rfl) aqm)
      (aqc (aqk (i := 4) bqt.nd rfl (Or.inl rfl) aqm)
      (aqc (kqi PassesOwn.never rfl (pqw (pv 0)) (cqi (i := 5) bqt.nd rfl (Or.inl rfl))
      (aqH (dqP (dqf (K := K) rfl PySem.F.plainAttrs_list PySem.F.slot_list_append PySem.F.type_list_append cqx (pv 2) (aqa (aqj aqQ (aqj fql (aq3 (aqw (K := K) rfl) (pv 2) (qqc mqB aqe) (fun _ _ => rfl)) aqe) aqe) aqb)))
      (aqd (aqW (PW.pt (hqt (aqq kq6 (pv 5) (aqj (aqz (K := K) rfl) (pv 3) (pv 1)) (by with_unfolding_all rfl)) (gqk (aqq lqz (aqj aqQ (aqj aq5 (aq3 (aqw (K := K) rfl) (pv 2) (qqc mqB aqe) (fun _ _ => rfl)) aqe) aqe) aqe (nomark _)))))
        (aqd (aqk (i := 4) bqt.nd rfl (Or.inl rfl) (aqj (aqz (K := K) rfl) (pv 4) (pv 5)))) (aqd (aqk (i := 4) bqt.nd rfl (Or.inl rfl) (aqj (aqz (K := K) rfl) (pv 4) (aqf (jqJ g) (hr.mono (by decide)) rfl g.gqM g.eq1.kp g.gqS .nil pass0 (aqa (pv 5) (aqa (bq3 eqE (aqj aqQ (aqj aq5 (aq3 (aqw (K := K) rfl) (pv 2) (qqc mqB aqe) (fun _ _ => rfl)) aqe) aqe) aqe (nomark _)) aqb))))))))))
      (aqd (aqo (pv 4)))))), ?_⟩
    have eP : Str.ofString "-_.0123456789abcdefghijklmnopqrstuvwxyzABCDEFGHIJKLMNOPQRSTUVWXYZ" = ⟨plL.toArray⟩ := by
      unfold plL; simp
    rw [eP]
    walk_at "rd"
    refine rqM (z := ⟨s.toArray⟩) (fun i σ H' => ∃ (w : List Nat) (v5 : Option V), σ = [some (.str ⟨s.toArray⟩), some (.str ⟨fr.toArray⟩), some (.ref q), some (.str ⟨plL.toArray⟩), some (.str ⟨w.toArray⟩), v5] ∧ WrT fr (s.take i) w ∧ w.length ≤ 3 * i ∧ SameBut q H H' ∧ Bt H' q (n + i)) ⟨[], none, rfl, .nil, Nat.zero_le _, SameBut.refl _ _, hb⟩ ?_ ?_
    · rintro i c σ H1 hci ⟨w, v5, rfl, hw, hwl, s1, b1⟩
      have hci : s[i]? = some c := hci
      have hi : i < s.length := (List.getElem?_eq_some_iff.mp hci).1
      have hc := hs c (List.mem_of_getElem? hci)
      have hc' := cq7 hc
      obtain ⟨bs, hq1, hne, hbb, hbl⟩ := b1
      obtain ⟨b, hlast⟩ : ∃ b, bs.getLast? = some b := by
        cases hl' : bs.getLast? with
        | none => exact absurd (List.getLast?_eq_none_iff.mp hl') hne
        | some b => exact ⟨b, rfl⟩
      have hbr := hbb b (List.mem_of_getLast? hlast)
      walk_at "rd"
      refine ⟨fun σ H2 => SameBut q H H2 ∧ ∃ (b2 : Int) (bs2 : List Int), H2 q = some (.lst ((bs2 ++ [b2]).map V.int)) ∧ (∀ b ∈ bs2 ++ [b2], 0 ≤ b ∧ b ≤ 2147483647) ∧ (bs2 ++ [b2]).length ≤ n + (i + 1) ∧ σ = [some (.str ⟨s.toArray⟩), some (.str ⟨fr.toArray⟩), some (.ref q), some (.str ⟨plL.toArray⟩), some (.str ⟨w.toArray⟩), some (.str ⟨#[c]⟩)], ?_, ?_⟩
      · refine ⟨⟨_, .of hq1⟩, _, _, .inl (.of hq1), hqz V.int hlast, ?_⟩
        walk_at "rd"
        refine ⟨.inl ⟨by omega, by omega⟩, by decide, _, hq1, ?_, ?_, b * 48271 % 2147483647, bs, ?_, ?_, ?_⟩
        · rw [List.length_map]
          exact Nat.lt_of_le_of_lt (show bs.length ≤ 100000 by omega) (by decide)
        · exact fun b' o n' e => by rw [aqu n']; exact s1 b' o n' e
        · rw [aql, List.map_append]; rfl
        · intro b' hb'
          rcases List.mem_append.mp hb' with hb' | hb'
          · exact hbb b' hb'
          · rw [List.mem_singleton.mp hb']; omega
        · rw [List.length_append, List.length_singleton]; omega
      rintro σ H2 ⟨s2, b2, bs2, hq2, hb2, hl2, rfl⟩
      have hlast2 : (bs2 ++ [b2]).getLast? = some b2 := by simp
      have hbr2 := hb2 b2 (by simp)
      have bt2 : Bt H2 q (n + (i + 1)) := ⟨bs2 ++ [b2], hq2, by simp, hb2, hl2⟩
      have et : s.take (i + 1) = s.take i ++ [c] := by rw [List.take_add_one, hci]; rfl
      walk_at "rd"
      have hpr : ∀ He, He = H2 → ∃ xs v, (SqL K He q xs ∨ SqT K He q xs) ∧ atI xs (-1) = some v ∧ rI CDiv (fun i j => V.int (i / j)) v (V.int 64) He fun x H1 => rI (fun x j => 0 < j) (fun i j => V.int (i % j)) x (V.int 2) H1 fun x H1 => rEq x (V.int 1) H1 fun x H1 => fqU [V.str { cps := #[c] }, x] H1 (fun y H2 => rAddU K (V.str { cps := w.toArray }) y H2 fun x H1 => ∃ (w : List Nat) (v5 : Option V), (x = V.str { cps := w.toArray } ∧ some (V.str { cps := #[c] }) = v5) ∧ WrT fr (List.take (i + 1) s) w ∧ w.length ≤ 3 * (i + 1) ∧ SameBut q H H1 ∧ Bt H1 q (n + (i + 1))) E0 := by
        rintro He rfl
        refine ⟨_, _, .inl (.of hq2), hqz V.int hlast2, ?_⟩
        walk_at "rd"
        refine ⟨⟨by decide, by decide⟩, by decide, c, _, rfl, hc, fun a b hab => ?_⟩
        rw [show (⟨[126, a, b].toArray⟩ : Str) = ⟨[126, a, b].toArray⟩ from rfl]
        walk_at "rd"
        refine ⟨aqh (by show w.length + 3 ≤ 100000; omega), w ++ [126, a, b], _, ⟨rfl, rfl⟩, ?_, by rw [List.length_append]; show w.length + 3 ≤ _; omega, s2, bt2⟩
        rw [et]
        exact pqX hw (.pair hab .nil)
      refine ⟨aqh (by rw [tqz]; omega), ite2 (fun hin => ?_) (fun _ => hpr H2 rfl)⟩
      refine ⟨_, _, .inl (.of hq2), hqz V.int hlast2, ?_⟩
      walk_at "rd"
      refine ⟨⟨by decide, by decide⟩, by decide, ite2 (fun _ => ?_) (fun _ => hpr H2 rfl)⟩
      refine ⟨aqh (by omega), w ++ [c], _, ⟨rfl, rfl⟩, ?_, by rw [List.length_append, List.length_singleton]; omega, s2, bt2⟩
      rw [et]
      have hpl : isPl c = true ∨ c ∈ fr := by
        rcases List.mem_append.mp hin with z | z
        · exact .inl ((wqg c (by omega)).mp z)
        · exact .inr z
      refine pqX hw (.self hpl ?_ .nil)
      intro z
      subst z
      rcases hpl with z | z
      · cases z
      · exact hf z
    · rintro σ H1 ⟨w, v5, rfl, hw, hwl, s1, b1⟩
      walk_at "rd"
      have e : (⟨s.toArray⟩ : Str).length = s.length := rfl
      rw [e] at hw hwl b1
      rw [List.take_of_length_le (Nat.le_refl _)] at hw
      exact k w H1 hw hwl s1 b1
theorem lq3 (g : G K mg) : FnOk P w K mg base CX0 3 g.fqi g.eqU ["thing"] lq2 := by
  refine g.gq2.ok mqC (fun vs H Q E h => ?_) (fun cdv A outer s H vs Q E hr h => ?_)
  · obtain ⟨d, v, rfl, _⟩ := h; rfl
  · obtain ⟨d, v, rfl, hv, hs, k⟩ := h
    refine ⟨_, (aqc (aqW (PW.pt (lqY (eq6 (bqg (aqf (oqL g) (hr.mono (by decide)) rfl g.nqc g.kqg.kp g.mqh .nil pass0 (aqa (pv 0) aqb)))) (jqX (aqq lqu (aqY (cqa (K := K) rfl) rfl g.iqS PySem.boot_len (aqa (pv 0) aqb)) (aqn (v := iq1) rfl g.fqS ⟨_, rfl⟩) (nomark _)))))
        (aqd (aqo gqK)) aqv)
      (aqd (aqo (mqH (aqf (iqj g) (hr.mono (by decide)) rfl g.hqk g.fq3.kp g.hqF .nil pass0 (aqa (bqB (dqT (K := K) rfl) (pv 0) dqN (bqR aqe)) (aqa (aqn (v := pqC) rfl g.mqg ⟨_, rfl⟩) aqb))) (hqZ (aqf (iqj g) (hr.mono (by decide)) rfl g.hqk g.fq3.kp g.hqF .nil pass0 (aqa (pv 0) (aqa (aqn (v := gqf) rfl g.dqI ⟨_, rfl⟩) aqb)))))))), ?_⟩
    walk_at "rd"
    refine ⟨d, v, rfl, hv, hs, fun H1 s1 => ?_⟩
    walk_at "rd"
    have k1 := k H1 s1
    cases hv with
    | str x =>
      have hx := mqG hs
      refine ite2 (fun h => ?_) (fun h => ?_)
      · rw [show schD (.str x) = false by simp only [schD]; rw [show x.cps.toList.all isSg = false from h]; rfl] at k1
        exact k1
      have h : x.cps.toList.all isSg = true := (Bool.not_eq_false _).mp h
      walk_at "rd"
      refine ⟨aqh hx, ite2 (fun h2 => ?_) (fun h2 => ?_)⟩
      · rw [show schD (.str x) = false by simp only [schD, h, Bool.true_and]; rw [decide_eq_false (by omega)]; rfl] at k1
        exact k1
      have e : x = ⟨x.cps.toList.toArray⟩ := by simp
      refine ⟨aqh hx, ?_⟩
      have e1 : Txt.slice x none (some 1) = ⟨(x.cps.toList.take 1).toArray⟩ := by
        conv => lhs; rw [e]
        exact oqo x.cps.toList 1
      rw [e1]
      refine ⟨⟨(x.cps.toList.take 1).toArray⟩, _, rfl, by rw [dqd, List.length_take]; omega, fun H2 s2 => ?_⟩
      have hsg := List.all_eq_true.mp h
      have f1 : ((⟨(x.cps.toList.take 1).toArray⟩ : Str).cps.toList.all fun c => decide (c ∈ (Str.ofString "abcdefghijklmnopqrstuvwxyzABCDEFGHIJKLMNOPQRSTUVWXYZ").cps.toList)) = (x.cps.toList.take 1).all isLet := by
        rw [qqN, Bool.eq_iff_iff, List.all_eq_true, List.all_eq_true]
        refine forall_congr' fun c => forall_congr' fun hc => ?_
        rw [vqp c (by have := cq7 (hsg c (List.mem_of_mem_take hc)); omega)]
      have f2 : (x.cps.toList.all fun c => decide (c ∈ (Str.ofString "abcdefghijklmnopqrstuvwxyzABCDEFGHIJKLMNOPQRSTUVWXYZ0123456789").cps.toList)) = x.cps.toList.all isAln := by
        rw [Bool.eq_iff_iff, List.all_eq_true, List.all_eq_true]
        refine forall_congr' fun c => forall_congr' fun hc => ?_
        rw [vqY c (by have := cq7 (hsg c hc); omega)]
      rw [f1]
      walk_at "rd"
      refine ite2 (fun h3 => ?_) (fun h3 => ?_)
      · refine ⟨x, _, rfl, hx, fun H3 s3 => ?_⟩
        have k3 := k H3 (s1.trans (s2.trans s3))
        rw [f2]
        simp only [schD, h, h3, Bool.true_and, decide_eq_true (show x.length ≤ 8 by omega)] at k3
        exact k3
      · have k3 := k H2 (s1.trans s2)
        simp only [schD, h, (Bool.not_eq_true _).mp h3, Bool.false_and, Bool.and_false, Bool.true_and] at k3
        exact k3
    | _ => exact k1
theorem kqK (g : G K mg) : FnOk P w K mg base (CXN P w base) 3 g.eqV g.dq2 ["cursor"] (kqA K g.aqs g.aqt) := by
  refine g.fqZ.okn fqy (fun vs H Q E h => ?_) (fun cdv A outer s H vs Q E hr h => ?_)
  · obtain ⟨p, t, i, rfl, _⟩ := h; rfl
  · obtain ⟨p, t, i, rfl, hcur, hi, hl, h128, k1, k2⟩ := h
    refine ⟨_, (aqc (aqW (eq6 (bqg (dqb (pv 0) g.aqi g.aqA (aqE g) (hr.mono (by decide)) g.aqD .nil pass0 (aqa aqm aqb))))
        (aqd (aqo aqN)) aqv)
      (aqc (aqW (eq6 (bqg (dqb (pv 0) g.aqi g.cqy (dqA g) (hr.mono (by decide)) g.cq8 .nil pass0 (aqa (aqn (v := jqV) rfl g.jqq ⟨_, rfl⟩) aqb))))
        (aqd (eq5 eqh rfl g.bq4 g.cqL (aqI g) (hr.mono (by decide)) g.aqF rfl pass0 rfl (aqa (cqw (pv 0) rfl) aqb))) aqv)
      (aqc (aqk (i := 1) fqy.nd rfl (Or.inl rfl) (bqL mqP rfl g.oq9 mqQ (aqa (fqz (pv 0) g.aqi g.bqP (cqv g) (hr.mono (by decide)) g.cqr .nil pass0) aqb)))
      (aqc (jqb PassesOwn.leaving (PW.pt (hqt (aqq lqu (pv 1) aqe (nomark _)) (hqt (bqg (dqb (pv 0) g.aqi g.cqy (dqA g) (hr.mono (by decide)) g.cq8 .nil pass0 (aqa (aqn (v := jqV) rfl g.jqq ⟨_, rfl⟩) aqb))) (gqk (aqq wqZ (aqf (iqL g) (hr.mono (by decide)) rfl g.hqb g.fqr.kp g.gq4 .nil pass0 (aqa (pv 1) (aqa (pv 0) aqb))) (aqn (v := nqw) rfl g.kqe ⟨_, rfl⟩) (nomark _))))))
      (aqc (aqk (i := 1) fqy.nd rfl (Or.inl rfl) (aqf (iqL g) (hr.mono (by decide)) rfl g.hqb g.fqr.kp g.gq4 .nil pass0 (aqa (pv 1) (aqa (pv 0) aqb))))
      (aqd (dqP (fqz (pv 0) g.aqi g.bqP (cqv g) (hr.mono (by decide)) g.cqr .nil pass0)))))
      (aqd (aqo (pv 1))))))), ?_⟩
    have eF : jqV = .str ⟨fgS.toArray⟩ := by
      show V.str (Str.ofString _) = _
      unfold fgS; simp
    have e1 : Str.ofString ":" = ⟨[58].toArray⟩ := by decide +kernel
    rw [eF, e1]
    walk_at "rd"
    refine aqM hcur ⟨p, t, [58], i, rfl, hcur, hi, hl, fun hp H1 s1 c1 => ⟨_, rfl, ?_⟩, fun hp => ⟨_, rfl, ?_⟩⟩
    · rw [if_neg (by decide)]
      have h1 := take1.mp hp
      have hi1 : i + 1 ≤ t.length := by
        have := congrArg List.length hp
        rw [List.length_take, List.length_drop] at this
        simp only [List.length_singleton] at this
        omega
      have em : dooM (t.drop i) = (match t.drop (i + 1) with | [] => (.error 1 : Rs (Option Int)) | c :: r' => if 48 ≤ c ∧ c ≤ 57 then .ok (some ((dooG r' (c - 48)).1 : Int), 2 + (dooG r' (c - 48)).2) else .error 1) := by
        unfold dooM
        rw [if_pos h1, List.drop_drop]
        all_goals (cases t.drop (i + 1) <;> rfl)
      refine aqM c1 ⟨p, t, fgS, i + 1, rfl, c1, hi1, hl, _, rfl, ?_⟩
      cases hd : t.drop (i + 1) with
      | nil =>
        have hn : t[i + 1]? = none := by rw [← List.head?_drop, hd]; rfl
        rw [fqc hn, if_pos rfl]
        exact aqV c1 g.aqi g.aqp (eqe fun d H' sm hx => k2 1 (by rw [em, hd]) d H' (s1.trans sm.but) hx)
      | cons c r =>
        obtain ⟨hx, hxl⟩ := kql hd
        rw [fqf hx]
        by_cases hf : 48 ≤ c ∧ c ≤ 57
        · rw [decide_eq_true (oql.mpr hf), if_neg (by decide)]
          rw [hd] at em
          have em : dooM (t.drop i) = .ok (some ((dooG r (c - 48)).1 : Int), 2 + (dooG r (c - 48)).2) := by rw [em]; exact if_pos hf
          refine aqM c1 ⟨p, t, i + 1, c, rfl, c1, hx, hl, fun H2 s2 c2 => ⟨_, _, rfl, by show 1 ≤ 640; decide, qqz c (by omega) hf.1, ?_⟩⟩
          refine lqp (fun m σ H' => ∃ (n k : Nat), m = t.length - (i + 2 + k) ∧ i + 2 + k ≤ t.length ∧ σ = [some (.ref p), some (.int (n : Nat))] ∧ n ≤ 65535 ∧ SameBut p H H' ∧ Cur H' g.aqs p t (i + 2 + k) ∧ (dooG r (c - 48)).1 = (dooG (t.drop (i + 2 + k)) n).1 ∧ (dooG r (c - 48)).2 = k + (dooG (t.drop (i + 2 + k)) n).2) (t.length - (i + 2)) ⟨c - 48, 0, rfl, by omega, rfl, by omega, s1.trans s2, c2, ?_, ?_⟩ ?_
          · rw [show t.drop (i + 2 + 0) = r by rw [Nat.add_zero, show i + 2 = i + 1 + 1 by omega, ← List.drop_drop, hd]; rfl]
          · rw [show t.drop (i + 2 + 0) = r by rw [Nat.add_zero, show i + 2 = i + 1 + 1 by omega, ← List.drop_drop, hd]; rfl, Nat.zero_add]
          rintro m σ H3 ⟨n, k, rfl, hk, rfl, hn, s3, c3, g1, g2⟩
          have fin : dooG (t.drop (i + 2 + k)) n = (n, 0) → Q (.int (n : Nat)) H3 := fun e => by
            rw [e] at g1 g2
            have := k1 (some ((dooG r (c - 48)).1 : Int)) _ em H3 s3 (by rw [g2, show i + (2 + (k + 0)) = i + 2 + k by omega]; exact c3)
            rw [g1] at this
            exact this
          walk_at "rd"
          by_cases h0 : n = 0
          · rw [if_neg (by omega)]
            refine fin ?_
            cases t.drop (i + 2 + k) with
            | nil => rfl
            | cons d r => unfold dooG; rw [if_neg (by omega)]
          rw [if_pos (by omega)]
          refine aqM c3 ⟨p, t, fgS, i + 2 + k, rfl, c3, hk, hl, _, rfl, ?_⟩
          cases hd3 : t.drop (i + 2 + k) with
          | nil =>
            have hn3 : t[i + 2 + k]? = none := by rw [← List.head?_drop, hd3]; rfl
            rw [fqc hn3, if_neg (by decide)]
            exact fin (by rw [hd3]; rfl)
          | cons d r3 =>
            obtain ⟨hx3, hxl3⟩ := kql hd3
            rw [fqf hx3]
            by_cases hf3 : 48 ≤ d ∧ d ≤ 57
            · rw [decide_eq_true (oql.mpr hf3), if_pos rfl]
              refine ⟨p, t, _, d, n, rfl, c3, hl, hx3, hf3.1, hf3.2, by omega, _, _, rfl, rfl, _, rfl, ?_⟩
              by_cases hle : n * 10 + (d - 48) ≤ 65535
              · rw [decide_eq_true (by omega), if_pos rfl]
                refine ⟨_, fun _ _ h => h, p, t, _, d, n, rfl, c3, hl, hx3, hf3.1, hf3.2, by omega, aqM c3 ⟨p, t, _, d, rfl, c3, hx3, hl, fun H4 s4 c4 => ⟨t.length - (i + 2 + (k + 1)), by omega, n * 10 + (d - 48), k + 1, rfl, by omega, rfl, hle, s3.trans s4, c4, ?_, ?_⟩⟩⟩
                · have hd4 : t.drop (i + 2 + (k + 1)) = r3 := by rw [← Nat.add_assoc, ← List.drop_drop, hd3]; rfl
                  rw [g1, hd3, hd4]
                  conv => lhs; unfold dooG
                  rw [if_pos ⟨by omega, hf3.1, hf3.2, hle⟩]
                · have hd4 : t.drop (i + 2 + (k + 1)) = r3 := by rw [← Nat.add_assoc, ← List.drop_drop, hd3]; rfl
                  rw [g2, hd3, hd4]
                  conv => lhs; unfold dooG
                  rw [if_pos ⟨by omega, hf3.1, hf3.2, hle⟩]
                  show k + (_ + 1) = _
                  omega
              · rw [decide_eq_false (by omega), if_neg (by decide)]
                exact fin (by rw [hd3]; unfold dooG; rw [if_neg (fun z => hle z.2.2.2)])
            · rw [decide_eq_false (fun z => hf3 (oql.mp z)), if_neg (by decide)]
              exact fin (by rw [hd3]; unfold dooG; rw [if_neg (fun z => hf3 ⟨z.2.1, z.2.2.1⟩)])
        · rw [decide_eq_false (fun z => hf (oql.mp z)), if_pos rfl]
          exact aqV c1 g.aqi g.aqp (eqe fun d H' sm hx => k2 1 (by rw [em, hd]; exact if_neg hf) d H' (s1.trans sm.but) hx)
    · rw [if_pos rfl]
      exact k1 none 0 (by unfold dooM; rw [if_neg (fun z => hp (take1.mpr z))]) H (SameBut.refl _ _) hcur
theorem kqw (g : G K mg) : FnOk P w K mg base (CXN P w base) 3 g.eqW g.eqc ["cursor"] (kqP K g.aqs g.aqt) := by
  refine g.fq9.okn fqn (fun vs H Q E h => ?_) (fun cdv A outer s H vs Q E hr h => ?_)
  · obtain ⟨p, t, i, rfl, _⟩ := h; rfl
  · obtain ⟨p, t, i, rfl, hcur, hi, hl, h128, k1, k2⟩ := h
    refine ⟨_, (aqc (aqW (eq6 (bqg (dqb (pv 0) g.aqi g.cqy (dqA g) (hr.mono (by decide)) g.cq8 .nil pass0 (aqa (aqn (v := gqh) rfl g.fqX ⟨_, rfl⟩) aqb))))
        (aqd (eq5 eqh rfl g.bq4 g.cqL (aqI g) (hr.mono (by decide)) g.aqF rfl pass0 rfl (aqa (cqw (pv 0) rfl) aqb))) aqv)
      (aqc (aqk (i := 1) fqn.nd rfl (Or.inl rfl) (aqj (aqz (K := K) rfl) (fqz (pv 0) g.aqi g.bqP (cqv g) (hr.mono (by decide)) g.cqr .nil pass0) (bqB (dqT (K := K) rfl) (cqw (pv 0) rfl) (bqR (cqw (pv 0) rfl)) (bqR (aqj (aqz (K := K) rfl) (cqw (pv 0) rfl) aqe)))))
      (aqc (aqk (i := 2) fqn.nd rfl (Or.inl rfl) (aqf (oqU g) (hr.mono (by decide)) rfl g.mq4 g.jqN.kp g.mqX .nil pass0 (aqa (pv 1) aqb)))
      (aqc (aqW (aqq dqR (pv 2) aqN (nomark _))
        (aqd (eq5 eqh rfl g.bq4 g.cqL (aqI g) (hr.mono (by decide)) g.aqF rfl pass0 rfl (aqa (cqw (pv 0) rfl) aqb))) aqv)
      (aqc (dqP (fqz (pv 0) g.aqi g.bqP (cqv g) (hr.mono (by decide)) g.cqr .nil pass0))
      (aqd (aqo (pv 2)))))))), ?_⟩
    have eF : gqh = .str ⟨fsF.toArray⟩ := by
      show V.str (Str.ofString "234567") = _
      rw [show Str.ofString "234567" = ⟨fsF.toArray⟩ by decide +kernel]
    walk_at "rd"
    rw [eF]
    refine aqM hcur ⟨p, t, _, i, rfl, hcur, hi, hl, _, rfl, ?_⟩
    cases hd : t.drop i with
    | nil =>
      have hn : t[i]? = none := by rw [← List.head?_drop, hd]; rfl
      rw [fqc hn, if_pos rfl]
      exact aqV hcur g.aqi g.aqp (eqe fun d H' sm hx => k2 0 (by rw [hd]; rfl) d H' sm.but hx)
    | cons a r =>
      obtain ⟨hia, hil⟩ := kql hd
      rw [fqf hia]
      have ha := h128 a (List.mem_of_getElem? hia)
      by_cases hf : a ∈ fsF
      · rw [decide_eq_true hf, if_neg (by decide)]
        refine aqM hcur ⟨p, t, i, a, rfl, hcur, hia, hl, fun H1 s1 c1 => ?_⟩
        refine fqG c1 g.aqi g.aq4 (aqV c1 g.aqi g.aqp ⟨_, rfl, aqV c1 g.aqi g.aqp ?_⟩)
        walk_at "rd"
        rw [show ((i + 1 : Nat) : Int) + 1 = ((i + 2 : Nat) : Int) by omega, qqq, show i + 2 - (i + 1) = 1 by omega, ← List.drop_drop, hd]
        cases r with
        | nil =>
          rw [show List.take 1 (List.drop 1 [a]) = [] from rfl]
          walk_at "rd"
          refine ⟨aqh hl, by decide, by decide, fun d hd' => ?_, ?_⟩
          · simp only [List.mem_cons, List.not_mem_nil, or_false] at hd'
            rw [hd']; exact ha
          rw [show signOfL [a] = V.non from rfl, if_pos rfl]
          exact aqV c1 g.aqi g.aqp (eqe fun d H' sm hx => k2 1 (by rw [hd]; show (if a ∈ fsF then _ else _) = _; rw [if_pos hf]) d H' (s1.trans sm.but) hx)
        | cons b r =>
          rw [show List.take 1 (List.drop 1 (a :: b :: r)) = [b] from rfl]
          have hd2 : t.drop (i + 1) = b :: r := by rw [← List.drop_drop, hd]; rfl
          obtain ⟨hib, _⟩ := kql hd2
          have hb := h128 b (List.mem_of_getElem? hib)
          walk_at "rd"
          refine ⟨aqh hl, by decide, by decide, fun d hd' => ?_, ?_⟩
          · simp only [List.mem_cons, List.not_mem_nil, or_false] at hd'
            rcases hd' with rfl | rfl
            · exact ha
            · exact hb
          rw [show signOfL [a, b] = signOf a b from rfl, pqU]
          cases hs : sgO a b with
          | none =>
            rw [if_pos (show oV none = V.non from rfl)]
            exact aqV c1 g.aqi g.aqp (eqe fun d H' sm hx => k2 1 (by rw [hd]; show (if a ∈ fsF then _ else _) = _; rw [if_pos hf, hs]) d H' (s1.trans sm.but) hx)
          | some c =>
            rw [if_neg (by intro z; cases z)]
            refine aqM c1 ⟨p, t, i + 1, b, rfl, c1, hib, hl, fun H2 s2 c2 => k1 c 2 ?_ H2 (s1.trans s2) c2⟩
            rw [hd]
            show (if a ∈ fsF then _ else _) = _
            rw [if_pos hf, hs]
      · rw [decide_eq_false hf, if_pos rfl]
        refine aqV hcur g.aqi g.aqp (eqe fun d H' sm hx => k2 0 ?_ d H' sm.but hx)
        rw [hd]
        cases r with
        | nil => show (if a ∈ fsF then _ else _) = _; rw [if_neg hf]
        | cons b r => show (if a ∈ fsF then _ else _) = _; rw [if_neg hf]
theorem kqR (g : G K mg) : FnOk P w K mg base CX0 3 g.dqZ g.dqC ["house", "door"] kqz := by
  refine g.fqE.ok gqQ (fun vs H Q E h => ?_) (fun cdv A outer s H vs Q E hr h => ?_)
  · obtain ⟨o, d, rfl, _⟩ := h; rfl
  · obtain ⟨o, d, rfl, ho, hd, k⟩ := h
    refine ⟨_, (aqc (aqW (aqq dqR (pv 0) aqN (nomark _))
        (aqd (aqo aqm)) aqv)
      (aqH (aqk (i := 2) gqQ.nd rfl (Or.inl rfl) (cqm (aqq dqR (pv 1) aqN (nomark _)) aqm (aqj (aqz (K := K) rfl) aqm (bqL iqB rfl g.pqt oqh (aqa (pv 1) aqb)))))
      (aqd (aqo (aqj (aqz (K := K) rfl) (aqj (aqz (K := K) rfl) aqm (aqf (eqg g) (hr.mono (by decide)) rfl g.eqC g.dqE.kp g.eqr .nil pass0 (aqa (pv 0) aqb))) (pv 2)))))), ?_⟩
    have c1 : Str.ofString ":" = ⟨[58].toArray⟩ := by decide +kernel
    have c2 : Str.ofString "//" = ⟨[47, 47].toArray⟩ := by decide +kernel
    rw [c1, c2]
    walk_at "rd"
    cases o with
    | none =>
      cases d with
      | some i => exact absurd rfl (hd i rfl).2
      | none =>
        refine ite2 (fun _ => ?_) (fun z => absurd rfl z)
        exact k H (Same.refl _)
    | some l =>
      refine ite2 (fun z => absurd z (by simp [otV])) (fun _ => ?_)
      have hl := ho l rfl
      have w := hql l
      refine ⟨fun σ H' => H' = H ∧ σ = [some (otV (some l)), some (itV d), some (.str ⟨(dooT d).toArray⟩)] ∧ (dooT d).length ≤ 6, ?_, ?_⟩
      · cases d with
        | none => exact ite2 (fun _ => ⟨rfl, rfl, by decide⟩) (fun z => absurd rfl z)
        | some i =>
          have hi := (hd i rfl).1
          have hdl := nqX hi.1 hi.2
          refine ite2 (fun z => absurd z (by simp [itV])) (fun _ => ?_)
          refine ⟨i, rfl, lg hi.1 hi.2, aqh (by rw [oqg, dqd]; omega), rfl, ?_, ?_⟩
          · rw [oqg, show (⟨#[58]⟩ : Str) = ⟨[58].toArray⟩ from rfl, kqZ]
            simp [dooT]
          · simp only [dooT, List.length_cons]; omega
      · rintro σ H' ⟨rfl, rfl, hdl⟩
        walk_at "rd"
        show fqg [.str ⟨l.toArray⟩] H' _ _
        walk_at "rd"
        refine ⟨by omega, hl.2, fun H'' s'' => ?_⟩
        refine ⟨aqh (by omega), aqh (by omega), ?_⟩
        have := k H'' s''
        simpa [houT] using this
theorem lq5 (g : G K mg) : FnOk P w K mg base CX0 3 g.fqo g.eqN ["way"] (mqf K) := by
  refine g.gq3.ok mqR (fun vs H Q E h => ?_) (fun cdv A outer s H vs Q E hr h => ?_)
  · obtain ⟨r, e, ss, p, q, rfl, _⟩ := h; rfl
  · obtain ⟨r, e, ss, p, q, rfl, hp, hq, hs, hn, hl, k⟩ := h
    refine ⟨_, (aqd (aqo (aqf (oq1 g) (hr.mono (by decide)) rfl g.lq8 g.jqy.kp g.mqp .nil pass0 (aqa (aq3 (aqw (K := K) rfl) (pv 0) (aqn (v := jqe) rfl g.hqc ⟨_, rfl⟩) (fun _ _ => rfl)) (aqa (jqs (fx := []) (fr := []) rfl rfl (by decide +kernel) rfl (by decide +kernel) rfl (by decide +kernel) rfl .nil rfl (jqr (K := K) rfl (aq3 (aqw (K := K) rfl) (pv 0) (aqn (v := qqj) rfl g.nqO ⟨_, rfl⟩) (fun _ _ => rfl))) (fun _ _ _ => kq5) (fun _ _ _ => (aqf (eqg g) (hr.mono (by decide)) rfl g.eqC g.dqE.kp g.eqr .nil pass0 (aqa (pv 0) aqb)))) (aqa (aq3 (aqw (K := K) rfl) (pv 0) (aqn (v := sqw) rfl g.qqL ⟨_, rfl⟩) (fun _ _ => rfl)) aqb)))))), ?_⟩
    walk_at "rd"
    refine ⟨_, _, .inr hp, rfl, ?_⟩
    refine ⟨_, _, .inr hp, rfl, q, rfl, ⟨_, hq⟩, fun p1 hn1 => ?_⟩
    refine pqZ (zs := (ss.map wr).map fun l => V.str ⟨l.toArray⟩) hq (by rw [List.length_map]; exact aqh (by omega)) hn1 (by simp) (fun i x z hx hz H' T sm hT => ?_) (fun H' sm hp' => ?_)
    · rw [List.getElem?_map] at hx hz
      rw [List.getElem?_map] at hz
      obtain ⟨s, hs', rfl⟩ := Option.map_eq_some_iff.mp hx
      rw [hs'] at hz
      simp only [Option.map_some, Option.some.injEq] at hz
      subst hz
      have hss := hs s (List.mem_of_getElem? hs')
      walk_at "rd"
      exact ⟨hss.1, hss.2, hT⟩
    · refine ⟨_, _, .inr (sm.tup hp), rfl, ?_⟩
      have hw : (joinT 47 (ss.map wr)).length ≤ 90000 := by
        have := hl
        unfold wayT at this
        simp only [List.length_append] at this
        omega
      refine ⟨r, e, p1, ss.map wr, rfl, .of hp', hw, ?_⟩
      rw [← tqi]
      exact k H' sm
theorem kqE (g : G K mg) : FnOk P w K mg base CX0 3 g.dq1 g.dqq ["name", "value"] kqu := by
  refine g.fqv.ok kqH (fun vs H Q E h => ?_) (fun cdv A outer s H vs Q E hr h => ?_)
  · obtain ⟨n, o, rfl, _⟩ := h; rfl
  · obtain ⟨n, o, rfl, hk, hn, ho, k⟩ := h
    refine ⟨_, (aqd (aqo (cqm (aqq dqR (pv 1) aqN (nomark _)) (aqf (eqg g) (hr.mono (by decide)) rfl g.eqC g.dqE.kp g.eqr .nil pass0 (aqa (pv 0) aqb)) (aqj (aqz (K := K) rfl) (aqj (aqz (K := K) rfl) (aqf (eqg g) (hr.mono (by decide)) rfl g.eqC g.dqE.kp g.eqr .nil pass0 (aqa (pv 0) aqb)) aqm) (aqf (eqg g) (hr.mono (by decide)) rfl g.eqC g.dqE.kp g.eqr .nil pass0 (aqa (pv 1) aqb)))))), ?_⟩
    have c1 : Str.ofString "=" = ⟨[61].toArray⟩ := by decide +kernel
    rw [c1]
    have w1 := hql n
    walk_at "rd"
    cases o with
    | none =>
      refine ite2 (fun _ => ?_) (fun z => absurd rfl z)
      refine ⟨hn, hk.1.2, fun H' s' => ?_⟩
      rw [show pairT (n, none) = wr n by simp [pairT, oT]] at k
      exact k H' s'
    | some l =>
      refine ite2 (fun z => absurd z (by simp [otV])) (fun _ => ?_)
      have hll := ho l rfl
      have w2 := hql l
      rw [show pairT (n, some l) = wr n ++ [61] ++ wr l by simp [pairT, oT]] at k
      refine ⟨hn, hk.1.2, fun H' s' => ?_⟩
      refine ⟨aqh (by simp; omega), ?_⟩
      show fqg [.str ⟨l.toArray⟩] H' _ _
      walk_at "rd"
      refine ⟨hll, hk.2 l rfl, fun H'' s'' => ⟨aqh (by simp; omega), k H'' (s'.trans s'')⟩⟩
theorem lqL (g : G K mg) : FnOk P w K mg base CX0 3 g.eqM g.dq8 ["mark"] lqT := by
  refine g.fqT.ok lqP (fun vs H Q E h => ?_) (fun cdv A outer s H vs Q E hr h => ?_)
  · obtain ⟨o, rfl, _⟩ := h; rfl
  · obtain ⟨o, rfl, ho, k⟩ := h
    refine ⟨_, (aqd (aqo (cqm (aqq dqR (pv 0) aqN (nomark _)) aqm (aqj (aqz (K := K) rfl) aqm (aqf (eqg g) (hr.mono (by decide)) rfl g.eqC g.dqE.kp g.eqr .nil pass0 (aqa (pv 0) aqb)))))), ?_⟩
    have c1 : Str.ofString "#" = ⟨[35].toArray⟩ := by decide +kernel
    rw [c1]
    walk_at "rd"
    cases o with
    | none => exact ite2 (fun _ => k H (Same.refl _)) (fun z => absurd rfl z)
    | some l =>
      refine ite2 (fun z => absurd z (by simp [otV])) (fun _ => ?_)
      have hl := ho l rfl
      have w := hql l
      show fqg [.str ⟨l.toArray⟩] H _ _
      rw [show (⟨#[35]⟩ : Str) = ⟨[35].toArray⟩ from rfl]
      walk_at "rd"
      refine ⟨hl.1, hl.2, fun H' s' => ⟨aqh (by omega), ?_⟩⟩
      exact k H' s'
theorem sq8 (g : G K mg) : FnOk P w K mg base CX0 3 g.oqp g.lqX ["way"] (tqU K) := by
  refine g.pqK.ok nqg (fun vs H Q E h => ?_) (fun cdv A outer s H vs Q E hr h => ?_)
  · obtain ⟨w, v, rfl, _⟩ := h; rfl
  · obtain ⟨⟨rt, ss, en⟩, v, rfl, hI, hn, k⟩ := h
    refine ⟨_, (aqc (aqk (i := 1) nqg.nd rfl (Or.inl rfl) (aq3 (aqw (K := K) rfl) (pv 0) (aqn (v := qqj) rfl g.nqO ⟨_, rfl⟩) (fun _ _ => rfl)))
      (aqc (aqW (aqq eqE (aqY (cqa (K := K) rfl) rfl g.iqS PySem.boot_len (aqa (pv 1) aqb)) aqe (nomark _))
        (aqd (aqo (pv 0))) aqv)
      (aqc (aqk (i := 2) nqg.nd rfl (Or.inl rfl) (aqf (lqi g) (hr.mono (by decide)) rfl g.iqz g.gqn.kp g.iqC .nil pass0 (aqa (pv 1) (aqa (aq3 (aqw (K := K) rfl) (pv 0) (aqn (v := jqe) rfl g.hqc ⟨_, rfl⟩) (fun _ _ => rfl)) aqb))))
      (aqc (aqW (aqq lqu (aqY (cqa (K := K) rfl) rfl g.iqS PySem.boot_len (aqa (pv 2) aqb)) aqe (nomark _))
        (aqd (aqo (bqe (aqa (aq3 (aqw (K := K) rfl) (pv 0) (aqn (v := jqe) rfl g.hqc ⟨_, rfl⟩) (fun _ _ => rfl)) (aqa (pv 2) (aqa (rqb (aq3 (aqw (K := K) rfl) (pv 0) (aqn (v := sqw) rfl g.qqL ⟨_, rfl⟩) (fun _ _ => rfl)) (hqZ (aqf (pqs g) (hr.mono (by decide)) rfl g.nqR g.lqw.kp g.nq9 .nil pass0 (aqa (aq3 (aqw (K := K) rfl) (pv 1) (qqc mqB aqe) (fun _ _ => rfl)) aqb)))) aqb)))))) aqv)
      (aqd (aqo (cqm (bqg (aq3 (aqw (K := K) rfl) (pv 0) (aqn (v := jqe) rfl g.hqc ⟨_, rfl⟩) (fun _ _ => rfl))) (bqe (aqa gqK (aqa (bqe aqb) (aqa gqK aqb)))) (bqe (aqa gqK (aqa (bqe (aqa (aqn (v := nqP) rfl g.nq7 ⟨_, rfl⟩) aqb)) (aqa gqK aqb))))))))))), ?_⟩
    obtain ⟨pw, ps, rfl, hw, hps⟩ := qqE (r := rt) (e := en) (ss := ss) hI
    dsimp only at hn
    walk_at "rd"
    refine ⟨_, _, .inr hw, rfl, ?_⟩
    walk_at "rd"
    refine ⟨_, .inr hps, ?_⟩
    rw [List.length_map]
    by_cases h0 : ss = []
    · subst h0
      refine ite2 (fun _ => k _ H (Same.refl _) ?_) (fun z => absurd rfl z)
      rw [show goneV (rt, [], en) = (rt, [], en) by simp [goneV, goneW]]
      exact hI
    have hp0 : 0 < ss.length := List.length_pos_iff.mpr h0
    refine ite2 (fun z => absurd z (by omega)) (fun _ => ?_)
    refine ⟨_, _, .inr hw, rfl, ?_⟩
    refine ⟨ps, ss, rt, rfl, hps, hn, fun p H1 s1 hp1 => ?_⟩
    have hw1 := s1.tup hw
    refine ⟨_, .inr (.of hp1), ?_⟩
    rw [List.length_map]
    walk_at "rd"
    by_cases h1 : goneS rt ss = []
    · refine ite2 (fun z => by rw [h1] at z; simp at z) (fun _ => ?_)
      refine ⟨_, _, .inr hw1, rfl, rt, rfl, ?_⟩
      cases rt with
      | true =>
        rw [if_pos rfl]
        refine ⟨by decide, fun p7 H7 hn7 s7 hp7 => ⟨by decide, fun p8 H8 hn8 s8 hp8 => k _ H8 ((s1.trans s7).trans s8) ?_⟩⟩
        rw [show goneV (true, ss, en) = (true, [], true) by simp [goneV, goneW, h0, h1]]
        exact wayK (.of hp8) (.of (s8 _ _ hp7))
      | false =>
        rw [if_neg (by decide)]
        refine ⟨by decide, fun p7 H7 hn7 s7 hp7 => ⟨by decide, fun p8 H8 hn8 s8 hp8 => k _ H8 ((s1.trans s7).trans s8) ?_⟩⟩
        rw [show goneV (false, ss, en) = (false, [sStay], true) by simp [goneV, goneW, h0, h1]]
        rw [kst] at hp7
        exact wayK (.of hp8) (.of (s8 _ _ hp7))
    · have hq0 : 0 < (goneS rt ss).length := List.length_pos_iff.mpr h1
      have hW : goneV (rt, ss, en) = (rt, goneS rt ss, en || lastDot ss) := by simp [goneV, goneW, h0, h1]
      refine ite2 (fun _ => ?_) (fun z => absurd (show (0 : Int) < ((goneS rt ss).length : Int) by omega) z)
      refine ⟨_, _, .inr hw1, rfl, _, _, .inr hw1, rfl, en, rfl, ?_⟩
      refine ite2 (fun he => ⟨by decide, fun p8 H8 hn8 s8 hp8 => k _ H8 (s1.trans s8) ?_⟩) (fun he => ?_)
      · rw [hW, he, Bool.true_or]
        exact wayK (.of hp8) (.of (s8 _ _ hp1))
      · have he : en = false := by simpa using he
        obtain ⟨s, hls⟩ : ∃ s, ss.getLast? = some s := by
          cases hl : ss.getLast? with
          | none => exact absurd (List.getLast?_eq_none_iff.mp hl) h0
          | some s => exact ⟨s, rfl⟩
        have hld : lastDot ss = isDot s := by unfold lastDot; rw [hls]
        refine ⟨_, _, .inr (s1.tup hps), hqz _ hls, s, rfl, by decide, fun p8 H8 hn8 s8 hp8 => k _ H8 (s1.trans s8) ?_⟩
        rw [hW, he, Bool.false_or, hld]
        exact wayK (.of hp8) (.of (s8 _ _ hp1))
theorem nqF (g : G K mg) : FnOk P w K mg base CX0 3 g.gqJ g.fqs ["_law_cells", "_law_rooted", "_law_ends"] (nqx K) := by
  refine g.iqq.ok kqo (fun vs H Q E h => ?_) (fun cdv A outer s H vs Q E hr h => ?_)
  · obtain ⟨pc, cs, r, e, rfl, _⟩ := h; rfl
  · obtain ⟨pc, cs, r, e, rfl, hS, hn, k⟩ := h
    refine ⟨_, (aqc (aqk (i := 3) kqo.nd rfl (Or.inl rfl) (bqL (eqB (K := K) rfl) rfl g.iqr hqC (aqa (jqs (fx := []) (fr := []) rfl rfl (by decide +kernel) rfl (by decide +kernel) rfl (by decide +kernel) rfl .nil rfl (nq5 (K := K) rfl (pv 0)) (fun _ _ _ => kq5) (fun _ _ _ => (aqf (nqa g) (hr.mono (by decide)) rfl g.jqx g.gq5.kp g.jqo .nil pass0 (aqa (pv 0) aqb)))) aqb)))
      (aqc (aqW (aqq (sqF hr.units) (pv 3) (bqe aqb) (nomark _))
        (aqd (aqo (bqe (aqa (pv 1) (aqa (bqe aqb) (aqa (pv 1) aqb)))))) aqv)
      (aqd (aqo (bqe (aqa (pv 1) (aqa (pv 3) (aqa (pv 2) aqb)))))))), ?_⟩
    walk_at "rd"
    refine ⟨⟨_, hS⟩, fun p1 hn1 => pqf hS hn hn1 (fun ss H1 s1 hl hs hp1 => ?_)⟩
    walk_at "rd"
    refine ⟨_, .inl (.of hp1), fun p2 H2 s2 hp2 => ⟨by decide, fun p3 H3 hn3 s3 hp3 => ?_⟩⟩
    have sm := (s1.trans s2).trans s3
    have hI2 : IsT H3 (.tuple (ss.map st)) (.ref p2) := .tup (s3 _ _ hp2) (jqE _)
    refine ⟨.tuple (ss.map st), .tuple [], hI2.is, .tup hp3 .nil, iqI (fun s h => (hs s h).1.2), by decide, _, rfl, ?_⟩
    rw [qqZ]
    by_cases h0 : ss = []
    · refine ite2 (fun _ => ?_) (fun z => absurd (by rw [h0]; rfl) z)
      refine ⟨by decide, fun p4 H4 hn4 s4 hp4 => ⟨by decide, fun p5 H5 hn5 s5 hp5 => k ss r _ H5 hl hs (fun _ => rfl) ((sm.trans s4).trans s5) ?_⟩⟩
      rw [h0]
      exact .tup hp5 (.cons (.bl _) (.cons (.tup (s5 _ _ hp4) .nil) (.cons (.bl _) .nil)))
    · refine ite2 (fun z => absurd (by simpa using z) h0) (fun _ => ?_)
      refine ⟨by decide, fun p5 H5 hn5 s5 hp5 => k ss e _ H5 hl hs (fun z => absurd z h0) (sm.trans s5) ?_⟩
      exact .tup hp5 (.cons (.bl _) (.cons (hI2.mono s5.toT) (.cons (.bl _) .nil)))
theorem hqY (g : G K mg) : FnOk P w K mg base CX0 3 g.cqo g.bqT ["_law_question_here", "_law_bits"] (hqJ K) := by
  refine g.dqg.ok aqX (fun vs H Q E h => ?_) (fun cdv A outer s H vs Q E hr h => ?_)
  · obtain ⟨ps, v, q, n, rfl, _⟩ := h; rfl
  · obtain ⟨ps, v, q, n, rfl, hI, hb, hn, hpl, hpp, k⟩ := h
    refine ⟨_, (aqc (aqk (i := 2) aqX.nd rfl (Or.inl rfl) (dqU aqb))
      (aqc (kqi PassesOwn.never rfl (jqr (K := K) rfl (pv 0)) (pq9 (n := 2) (K := K) rfl rfl (dqt (cqi (i := 3) aqX.nd rfl (Or.inl rfl)) (dqt (cqi (i := 4) aqX.nd rfl (Or.inl rfl)) nqo)))
      (aqc (aqk (i := 5) aqX.nd rfl (Or.inl rfl) (aqf (bqW g) (hr.mono (by decide)) rfl g.bqN g.bql.kp g.bqM .nil pass0 (aqa (pv 3) (aqa aqm (aqa (pv 1) aqb)))))
      (aqH (aqW (aqq fqu (pv 4) aqN (nomark _))
        (aqd (aqk (i := 5) aqX.nd rfl (Or.inl rfl) (aqj (aqL (K := K)) (aqj (aqL (K := K)) (pv 5) aqm) (aqf (bqW g) (hr.mono (by decide)) rfl g.bqN g.bql.kp g.bqM .nil pass0 (aqa (pv 4) (aqa aqm (aqa (pv 1) aqb))))))) aqv)
      (aqd (dqP (dqf (K := K) rfl PySem.F.plainAttrs_list PySem.F.slot_list_append PySem.F.type_list_append cqx (pv 2) (aqa (pv 5) aqb)))))))
      (aqd (aqo (aqj (aqL (K := K)) aqm (dqf (K := K) rfl PySem.F.plainAttrs_str PySem.F.slot_str_join PySem.F.type_str_join (gqC (K := K) rfl) aqm (aqa (pv 2) aqb))))))), ?_⟩
    have c1 : Str.ofString "?" = ⟨[63].toArray⟩ := by decide +kernel
    have c2 : Str.ofString "&" = ⟨[38].toArray⟩ := by decide +kernel
    have c3 : Str.ofString "=" = ⟨[61].toArray⟩ := by decide +kernel
    have eQ : Str.ofString "!$'()*,;@+/?:" = ⟨frQ.toArray⟩ := by unfold frQ; simp
    rw [c1, c2, c3, eQ]
    obtain ⟨pq, xs, rfl, hpq, r⟩ := iqa hI
    have hxl := r.length
    rw [List.length_map] at hxl
    walk_at "rd"
    refine ⟨Nat.zero_le _, fun p H1 hp s1 hp1 => ⟨⟨_, .of (s1 _ _ hpq)⟩, ?_⟩⟩
    have hpqn : pq ≠ q := hb.ne hpq
    have hpn : p ≠ q := hb.ne0 hp
    refine nq4 (xs := xs) (fun i σ H' => ∃ (ws : List (List Nat)) (v3 v4 v5 : Option V), σ = [some (.ref pq), some (.ref q), some (.ref p), v3, v4, v5] ∧ H' p = some (.lst (ws.map sV)) ∧ PrWs (ps.take i) ws ∧ (∀ w ∈ ws, w.length ≤ 34 ∧ ∀ c ∈ w, c < 128) ∧ SameBut q H H' ∧ Bt H' q (n + 11 * i)) ⟨[], none, none, none, rfl, hp1, .nil, (fun w hw => by cases hw), s1.but, hb.same s1⟩ (fun i σ H' _ h => ?_) ?_ ?_
    · obtain ⟨_, _, _, _, _, _, _, _, sb, _⟩ := h
      exact .of (sb _ _ hpqn hpq)
    · rintro i x σ H2 hx ⟨ws, v3, v4, v5, rfl, hp2, hws, hwl, sb2, b2⟩
      have hi : i < ps.length := by have := (List.getElem?_eq_some_iff.mp hx).1; omega
      have he : ps[i]? = some ps[i] := by simp [hi]
      obtain ⟨b, x1, x2, rfl, hbb, b1, b2'⟩ := isT2 (r.get (by rw [List.getElem?_map, he]; rfl) hx)
      cases oqs b1
      cases qqS b2'
      obtain ⟨⟨pn1, pn2⟩, pv⟩ := hpp ps[i] (List.getElem_mem hi)
      obtain ⟨pl1, pl2⟩ := pv
      have et : ps.take (i + 1) = ps.take i ++ [ps[i]] := by rw [List.take_add_one, he]; rfl
      walk_at "rd"
      refine ⟨b, _, rfl, .of (sb2 _ _ (hb.ne hbb) hbb), rfl, _, _, rfl, _, _, rfl, rfl, ?_⟩
      refine ⟨ps[i].1, frQ, q, _, rfl, b2, by omega, by omega, pn1.2, jq7, mqT.1, fun a H3 ha hal s3 b3 => ?_⟩
      refine ⟨fun σ H4 => ∃ (w : List Nat), σ = [some (.ref pq), some (.ref q), some (.ref p), some (.str ⟨ps[i].1.toArray⟩), some (otV ps[i].2), some (.str ⟨w.toArray⟩)] ∧ PrW ps[i] w ∧ w.length ≤ 34 ∧ (∀ c ∈ w, c < 128) ∧ H4 p = some (.lst (ws.map sV)) ∧ SameBut q H H4 ∧ Bt H4 q (n + 11 * (i + 1)), ?_, ?_⟩
      · cases ho : ps[i].2 with
        | none =>
          refine ite2 (fun z => absurd rfl z) (fun _ => ⟨a, rfl, ⟨a, [], by simp, ha, by rw [ho]; rfl⟩, by omega, iql mqT.2 ha, s3 _ _ hpn hp2, sb2.trans s3, b3.le (by omega)⟩)
        | some v =>
          refine ite2 (fun _ => ?_) (fun z => absurd (Classical.not_not.mp z) (by simp [otV]))
          show rAddS K (.str ⟨a.toArray⟩) (.str ⟨[61].toArray⟩) H3 _
          walk_at "rd"
          refine ⟨aqh (by simp; omega), ?_⟩
          have lv := pl2 v ho
          show gqc [.str ⟨v.toArray⟩, _, _] H3 _ _
          refine ⟨v, frQ, q, _, rfl, b3, by omega, by omega, pn2 v ho, jq7, mqT.1, fun a2 H5 ha2 hal2 s5 b5 => ?_⟩
          walk_at "rd"
          refine ⟨aqh (by simp; omega), a ++ [61] ++ a2, rfl, ⟨a, 61 :: a2, by simp, ha, by rw [ho]; exact ⟨a2, rfl, ha2⟩⟩, by simp; omega, ?_, (s3.trans s5) _ _ hpn hp2, (sb2.trans s3).trans s5, b5.le (by omega)⟩
          intro c hc
          rcases List.mem_append.mp hc with hc | hc
          · rcases List.mem_append.mp hc with hc | hc
            · exact iql mqT.2 ha c hc
            · rw [List.mem_singleton.mp hc]; decide
          · exact iql mqT.2 ha2 c hc
      rintro σ H4 ⟨w, rfl, hpw, hwl4, hw4, hp4, sb4, b4⟩
      walk_at "rd"
      refine ⟨⟨_, .of hp4⟩, _, hp4, ?_, ws ++ [w], _, _, _, ⟨rfl, rfl, rfl⟩, ?_, ?_, ?_, ?_, ?_⟩
      · rw [List.length_map, hws.length, List.length_take]
        exact Nat.lt_of_le_of_lt (show min i ps.length ≤ 100000 by omega) (by decide)
      · rw [aql, List.map_append]; rfl
      · rw [et]; exact hws.snoc hpw
      · intro u hu
        rcases List.mem_append.mp hu with hu | hu
        · exact hwl u hu
        · rw [List.mem_singleton.mp hu]; exact ⟨hwl4, hw4⟩
      · exact sb4.upd hp
      · exact b4.upd hpn
    · rintro σ H2 ⟨ws, v3, v4, v5, rfl, hp2, hws, hwl, sb2, b2⟩
      rw [← hxl, List.take_of_length_le (Nat.le_refl _)] at hws
      have hwn := hws.length
      have hj := jqf (sep := 38) ws
      have hjb := iqm (sep := 38) (m := 34) (ys := ws) fun s hs => (hwl s hs).1
      have : ws.length * (34 + 1) ≤ 3 * 35 := Nat.mul_le_mul (by omega) (Nat.le_refl _)
      walk_at "rd"
      refine ⟨ws.map fun l => ⟨l.toArray⟩, by rw [List.map_map (f := fun l : List Nat => (⟨l.toArray⟩ : Str)) (g := V.str)]; exact .of hp2, ?_, ?_⟩
      · rw [lqf, List.length_map]
        have : (ws.map List.length).sum + ws.length ≤ (joinT 38 ws).length + 1 := hj
        omega
      rw [show (⟨#[38]⟩ : Str) = ⟨[38].toArray⟩ from rfl, iq8, show (⟨#[63]⟩ : Str) = ⟨[63].toArray⟩ from rfl]
      walk_at "rd"
      refine ⟨aqh (by omega), ?_⟩
      refine k (63 :: joinT 38 ws) H2 (tqF hws fun p hp z => ?_) ?_ (by simp only [List.length_cons]; omega) sb2 (b2.le (by omega))
      · have := (hpp p hp).1.1.1
        rw [z] at this
        cases this
      · intro c hc
        rcases List.mem_cons.mp hc with rfl | hc
        · decide
        · exact oqe (P := fun c => c < 128) (by decide) (fun s hs => (hwl s hs).2) c hc
theorem kqf (g : G K mg) : FnOk P w K mg base CX0 4 g.dqu g.cq0 ["cursor"] (jqC K g.aqs) := by
  refine g.eq2.ok gqe (fun vs H Q E h => ?_) (fun cdv A outer s H vs Q E hr h => ?_)
  · obtain ⟨p, t, rfl, _⟩ := h; rfl
  · obtain ⟨p, t, rfl, hcur, hl, k⟩ := h
    refine ⟨_, (aqc (aqk (i := 1) gqe.nd rfl (Or.inl rfl) (aq3 (aqw (K := K) rfl) (dqf (K := K) rfl PySem.F.plainAttrs_str PySem.F.slot_str_partition PySem.F.type_str_partition mqx (cqw (pv 0) rfl) (aqa aqm aqb)) aqe (fun _ _ => rfl)))
      (aqc (aqW (PW.pt (lqY (aqq eqE (pv 1) aqm (nomark _)) (lqY (eq6 (bqg (aqf (lq3 g) (hr.mono (by decide)) rfl g.jqm g.gq2.kp g.jqj .nil pass0 (aqa (pv 1) aqb)))) (jqX (eq6 (bqg (dqb (pv 0) g.aqi g.aqA (aqE g) (hr.mono (by decide)) g.aqD .nil pass0 (aqa (aqj (aqz (K := K) rfl) (pv 1) aqm) aqb))))))))
        (aqd (aqo aqm)) aqv)
      (aqd (aqo (pv 1))))), ?_⟩
    have e1 : Str.ofString ":" = ⟨[58].toArray⟩ := by decide +kernel
    rw [e1]
    walk_at "rd"
    refine fqG hcur g.aqi g.aq4 ⟨rfl, sqX.mpr ⟨by decide, aqh (show t.length ≤ 100000 by omega), fun q hq => ?_⟩⟩
    rw [show (⟨#[58]⟩ : Str) = ⟨[58].toArray⟩ from rfl, oq8]
    have sm1 := bqS (o := .tup [.str ⟨(ahead t).toArray⟩, .str (Txt.partition ⟨t.toArray⟩ ⟨[58].toArray⟩).2.1, .str (Txt.partition ⟨t.toArray⟩ ⟨[58].toArray⟩).2.2]) hq
    have hq1 : (upd H q (.tup [.str ⟨(ahead t).toArray⟩, .str (Txt.partition ⟨t.toArray⟩ ⟨[58].toArray⟩).2.1, .str (Txt.partition ⟨t.toArray⟩ ⟨[58].toArray⟩).2.2])) q = some (.tup [.str ⟨(ahead t).toArray⟩, .str (Txt.partition ⟨t.toArray⟩ ⟨[58].toArray⟩).2.1, .str (Txt.partition ⟨t.toArray⟩ ⟨[58].toArray⟩).2.2]) := aql
    generalize upd H q (.tup [.str ⟨(ahead t).toArray⟩, .str (Txt.partition ⟨t.toArray⟩ ⟨[58].toArray⟩).2.1, .str (Txt.partition ⟨t.toArray⟩ ⟨[58].toArray⟩).2.2]) = H1 at sm1 hq1 ⊢
    have c1 := hcur.same sm1
    have hal := pqx t
    walk_at "rd"
    refine ⟨_, _, .inr (.of hq1), rfl, ?_⟩
    rw [L2.jql]
    refine ⟨_, rfl, ?_⟩
    by_cases h1 : ahead t = []
    · rw [decide_eq_true (by rw [h1]), if_pos rfl]
      obtain ⟨z1, z2⟩ := iqi (t := t) (fun z => z.1 h1)
      have := k H1 sm1.but (by rw [z2]; exact c1)
      rw [z1] at this
      exact this
    rw [decide_eq_false (fun z => h1 (gqV.mp z)), if_neg (by decide)]
    refine ⟨.str ⟨(ahead t).toArray⟩, _, rfl, .str _, by simp [smallD, Str.length]; omega, fun H2 s2 => ⟨_, rfl, ?_⟩⟩
    have c2 := c1.same s2
    have sm2 := sm1.trans s2
    cases h2 : schD (.str ⟨(ahead t).toArray⟩) with
    | false =>
      rw [if_pos rfl]
      obtain ⟨z1, z2⟩ := iqi (t := t) (fun z => by rw [h2] at z; cases z.2.1)
      have := k H2 sm2.but (by rw [z2]; exact c2)
      rw [z1] at this
      exact this
    | true =>
      rw [if_neg (by decide)]
      refine aqM c2 ?_
      rw [show (⟨#[58]⟩ : Str) = ⟨[58].toArray⟩ from rfl]
      walk_at "rd"
      refine ⟨aqh (by simp; omega), ?_⟩
      by_cases h3 : t[(ahead t).length]? = some 58
      · obtain ⟨z1, z2⟩ := jqc h1 h2 h3
        have ht := (kq1 t).mpr h3
        refine sqe (w := ahead t ++ [58]) (r := t.drop (ahead t ++ [58]).length) c2 (Nat.zero_le _) (by omega) ?_ fun H3 s3 c3 _ _ => ⟨_, rfl, ?_⟩
        · rw [List.drop_zero]
          conv => lhs; rw [← List.take_append_drop (ahead t ++ [58]).length t, ht]
        rw [if_neg (by decide)]
        have := k H3 (sm2.but.trans s3) (by rw [z2]; rw [Nat.zero_add] at c3; exact c3)
        rw [z1] at this
        exact this
      · obtain ⟨z1, z2⟩ := iqi (t := t) (fun z => h3 z.2.2)
        refine sq4 (w := ahead t ++ [58]) c2 (Nat.zero_le _) (by omega) (by rw [List.drop_zero]; exact fun z => h3 ((kq1 t).mp z)) ⟨_, rfl, ?_⟩
        rw [if_pos rfl]
        have := k H2 sm2.but (by rw [z2]; exact c2)
        rw [z1] at this
        exact this
theorem bqO (g : G K mg) : FnOk P w K mg base (CXN P w base) 4 g.eqI g.dqa ["cursor", "free", "most"] (kqs K g.aqs g.aqt) := by
  refine g.bqx.okn fqB (fun vs H Q E h => ?_) (fun cdv A outer s H vs Q E hr h => ?_)
  · obtain ⟨p, t, fr, i, mo, rfl, _⟩ := h; rfl
  · obtain ⟨p, t, fr, i, mo, rfl, hcur, hi, hl, h128, hfl, k1, k2⟩ := h
    refine ⟨_, (aqc (aqk (i := 3) fqB.nd rfl (Or.inl rfl) (sqC aqb))
      (aqc (aqk (i := 4) fqB.nd rfl (Or.inl rfl) (aqj (aqz (K := K) rfl) (aqj (aqz (K := K) rfl) (aqn (v := nqN) rfl g.nqu ⟨_, rfl⟩) (pv 1)) aqm))
      (aqc (jqb PassesOwn.leaving (PW.pt (hqt (PW.pt (lqY (aqq dqR (pv 2) aqN (nomark _)) (jqX (aqq qqM (aqY (cqa (K := K) rfl) rfl g.iqS PySem.boot_len (aqa (pv 3) aqb)) (pv 2) (nomark _))))) (gqk (bqg (dqb (pv 0) g.aqi g.cqy (dqA g) (hr.mono (by decide)) g.cq8 .nil pass0 (aqa (pv 4) aqb))))))
      (aqd (dqP (dqf (K := K) rfl PySem.F.plainAttrs_list PySem.F.slot_list_append PySem.F.type_list_append cqx (pv 3) (aqa (cqm (bqg (dqb (pv 0) g.aqi g.aqA (aqE g) (hr.mono (by decide)) g.aqD .nil pass0 (aqa aqm aqb))) (aqf (kqw g) (hr.mono (by decide)) rfl g.iqA g.fq9.kp g.iqN .nil aqJ (aqa (pv 0) aqb)) (fqz (pv 0) g.aqi g.bqP (cqv g) (hr.mono (by decide)) g.cqr .nil pass0)) aqb)))))
      (aqd (aqo (dqf (K := K) rfl PySem.F.plainAttrs_str PySem.F.slot_str_join PySem.F.type_str_join (gqC (K := K) rfl) aqm (aqa (pv 3) aqb))))))), ?_⟩
    have eP : nqN = .str ⟨plS.toArray⟩ := by
      show V.str (Str.ofString _) = _
      unfold plS; simp
    rw [eP]
    walk_at "rd"
    refine ⟨by decide, fun q hq => ⟨aqh (by rw [pqO]; omega), aqh (by rw [List.length_append, pqO]; omega), ?_⟩⟩
    have hqp : q ≠ p := by obtain ⟨dx, hp⟩ := hcur; exact (aqr hp hq).symm
    refine lqp (fun m σ H' => ∃ (dn : List Nat) (n : Nat) (mo' : Option Nat), m = t.length - (i + n) ∧ i + n ≤ t.length ∧ dn.length ≤ n ∧ mo' = mo.map (fun z => z - dn.length) ∧ Capd mo dn.length ∧ σ = [some (.ref p), some (.str ⟨fr.toArray⟩), some (moV mo), some (.ref q), some (.str ⟨(plS ++ fr ++ [126]).toArray⟩)] ∧ H' q = some (.lst (dn.map one)) ∧ SameBut p H H' ∧ Cur H' g.aqs p t (i + n) ∧ Via (txtM fr (t.drop i) mo) n (fun l => dn ++ l) (txtM fr (t.drop (i + n)) mo')) (t.length - i) ⟨[], 0, mo, rfl, hi, Nat.le_refl _, by cases mo <;> rfl, fun z _ => Nat.zero_le _, rfl, aql, (bqS hq).but, ?_, Via.refl⟩ ?_
    · obtain ⟨dx, hp⟩ := hcur
      exact ⟨dx, by rw [aqu hqp.symm]; exact hp⟩
    rintro m σ H' ⟨dn, n, mo', rfl, hin, hdn, emo, hmo, rfl, hq', sb, cur, via⟩
    have hlen : (dn.map one).length < sizeLine := by
      rw [List.length_map]
      exact Nat.lt_of_le_of_lt (show dn.length ≤ 100000 by omega) (by decide)
    have fin : txtM fr (t.drop (i + n)) mo' = .ok ([], 0) → ∃ ys : List Str, SqL K H' q (ys.map V.str) ∧ (ys.map fun x => x.length).sum + ys.length * 0 ≤ 16777216 ∧ Q (V.str (Txt.join ⟨#[]⟩ ys)) H' := fun e => by
      have e2 := via.ok e
      rw [List.append_nil, Nat.add_zero] at e2
      refine ⟨dn.map fun c => ⟨[c].toArray⟩, SqL.of (by rw [hq', List.map_map]; rfl), ?_, ?_⟩
      · rw [qqa]
        simp only [List.length_map, Nat.mul_zero, Nat.add_zero]
        omega
      · rw [show (⟨#[]⟩ : Str) = ⟨([] : List Nat).toArray⟩ from rfl, oqq, oqQ]
        exact k1 dn n e2 H' sb cur
    have decE : ∀ c : Nat, dec mo' = mo.map (fun z => z - (dn ++ [c]).length) := fun c => by
      rw [emo]
      cases mo with
      | none => rfl
      | some z => show some (z - dn.length - 1) = some _; rw [List.length_append, List.length_singleton, Nat.sub_sub]
    have decL : mo' ≠ some 0 → ∀ c : Nat, Capd mo (dn ++ [c]).length := fun h0 c z e => by
      have := hmo z e
      subst e
      rw [List.length_append, List.length_singleton]
      have : z - dn.length ≠ 0 := fun w => h0 (by rw [emo]; show some (z - dn.length) = _; rw [w])
      omega
    cases mo
    case' none =>
      walk_at "rd"
      rw [if_pos (show moV none = V.non from rfl)]
      have h0 : mo' ≠ some 0 := by rw [emo]; intro z; cases z
    case' some mm =>
      walk_at "rd"
      rw [if_neg (by intro z; cases z)]
      refine ⟨_, .inl (.of hq'), ?_⟩
      show rI0 (fun i j => V.bl (decide (i < j))) (V.int _) (V.int (mm : Int)) H' _
      walk_at "rd"
      refine ite2 (fun hlt0 => ?_) (fun hge => fin (by
        rw [List.length_map] at hge
        have e0 : mo' = some 0 := by rw [emo]; show some (mm - dn.length) = some 0; congr 1; omega
        rw [e0]; exact iq9))
      rw [List.length_map] at hlt0
      have h0 : mo' ≠ some 0 := by
        rw [emo]
        intro z
        have z : some (mm - dn.length) = some 0 := z
        have := Option.some.inj z
        omega
    all_goals
      refine aqM cur ⟨p, t, _, i + n, rfl, cur, hin, hl, _, rfl, ?_⟩
      cases hd : t.drop (i + n) with
      | nil =>
        have hn : t[i + n]? = none := by rw [← List.head?_drop, hd]; rfl
        rw [fqc hn, if_neg (by decide)]
        exact fin (by rw [hd]; exact kqh)
      | cons c r =>
        obtain ⟨hx, hlt⟩ := kql hd
        have hc := h128 c (List.mem_of_getElem? hx)
        rw [fqf hx]
        by_cases hin2 : c ∈ plS ++ fr ++ [126]
        · rw [decide_eq_true hin2, if_pos rfl]
          by_cases h126 : c = 126
          · subst h126
            have hd3 : t.drop (i + n + 1) = r := by rw [← List.drop_drop, hd]; rfl
            refine ⟨_, fun _ _ h => h, ⟨_, .of hq'⟩, aqM cur ⟨p, t, [126], i + n, rfl, cur, hin, hl, fun _ H1 s1 c1 => ⟨_, rfl, ?_⟩, fun hp1 => absurd (by rw [hd]; rfl) hp1⟩⟩
            rw [if_pos rfl]
            refine ⟨p, t, i + n + 1, rfl, c1, by omega, hl, h128, fun c m e H2 s2 c2 => ?_, fun m e d H2 s2 hx => ?_⟩
            · rw [hd3] at e
              obtain ⟨a, b, r2, rfl, hs, rfl, _⟩ := sqr e
              have hl2 : i + n + 3 ≤ t.length := by have := congrArg List.length hd; rw [List.length_drop] at this; simp only [List.length_cons] at this; omega
              refine ⟨_, (s1.trans s2) _ _ hqp hq', hlen, t.length - (i + (n + 3)), by omega, dn ++ [c], n + 3, dec mo', rfl, by omega, by rw [List.length_append, List.length_singleton]; omega, decE c, decL h0 c, rfl, ?_, ?_, ?_, ?_⟩
              · rw [aql, List.map_append]; rfl
              · exact ((sb.trans s1).trans s2).upd hq
              · obtain ⟨dx, hpp⟩ := c2
                exact ⟨dx, by rw [aqu hqp.symm]; exact hpp⟩
              · have hd4 : t.drop (i + (n + 3)) = r2 := by rw [show i + (n + 3) = i + n + 3 by omega, ← List.drop_drop, hd]; rfl
                have := via.step (a := 3) (g := fun l => c :: l) (r' := txtM fr r2 (dec mo')) (by rw [hd, hqy h0, e]; exact sqZ)
                rw [hd4]
                simpa using this
            · rw [hd3] at e
              refine k2 (n + (m + 1)) (via.err ?_) d H2 ((sb.trans s1).trans s2) (by rw [hx, show i + n + 1 + m = i + (n + (m + 1)) by omega])
              rw [hd, hqy h0, e]
          · have hpl : isPl c = true ∨ c ∈ fr := by
              rcases List.mem_append.mp hin2 with z | z
              · exact (List.mem_append.mp z).imp (sqM hc).mp id
              · exact absurd (List.mem_singleton.mp z) h126
            refine ⟨_, fun _ _ h => h, ⟨_, .of hq'⟩, aqM cur ⟨p, t, [126], i + n, rfl, cur, hin, hl, fun hp1 => ?_, fun _ => ⟨_, rfl, ?_⟩⟩⟩
            · rw [hd] at hp1
              exact absurd (List.cons.inj hp1).1 h126
            rw [if_neg (by decide)]
            refine aqM cur ⟨p, t, i + n, c, rfl, cur, hx, hl, fun H1 s1 c1 => ⟨_, s1 _ _ hqp hq', hlen, t.length - (i + (n + 1)), by omega, dn ++ [c], n + 1, dec mo', rfl, by omega, by rw [List.length_append, List.length_singleton]; omega, decE c, decL h0 c, rfl, ?_, ?_, ?_, ?_⟩⟩
            · rw [aql, List.map_append]; rfl
            · exact (sb.trans s1).upd hq
            · obtain ⟨dx, hpp⟩ := c1
              exact ⟨dx, by rw [aqu hqp.symm]; exact hpp⟩
            · have hd4 : t.drop (i + (n + 1)) = r := by rw [← Nat.add_assoc, ← List.drop_drop, hd]; rfl
              have := via.step (a := 1) (g := fun l => c :: l) (r' := txtM fr r (dec mo')) (by rw [hd, lqO h0 h126 hpl]; exact sqZ)
              rw [hd4]
              simpa using this
        · rw [decide_eq_false hin2, if_neg (by decide)]
          refine fin (hqL ?_)
          rw [hd]
          refine bqr ⟨?_, fun z => hin2 (List.mem_append.mpr (.inl (List.mem_append.mpr (.inr z)))), fun z => hin2 (List.mem_append.mpr (.inr (List.mem_singleton.mpr z)))⟩
          cases hi2 : isPl c with
          | false => rfl
          | true => exact absurd (List.mem_append.mpr (.inl (List.mem_append.mpr (.inl ((sqM hc).mpr hi2))))) hin2
theorem iqg (g : G K mg) : FnOk P w K mg base CX0 4 g.cqA g.cqq ["question"] (iqb K) := by
  refine g.dqQ.ok hq8 (fun vs H Q E h => ?_) (fun cdv A outer s H vs Q E hr h => ?_)
  · obtain ⟨q, v, rfl, _⟩ := h; rfl
  · obtain ⟨q, v, rfl, hI, hq, hl, k⟩ := h
    refine ⟨_, (aqc (aqW (aqq dqR (pv 0) aqN (nomark _))
        (aqd (aqo aqm)) aqv)
      (aqd (aqo (aqj (aqz (K := K) rfl) aqm (dqf (K := K) rfl PySem.F.plainAttrs_str PySem.F.slot_str_join PySem.F.type_str_join (gqC (K := K) rfl) aqm (aqa (pq5 (K := K) (fx := []) (fr := []) rfl rfl rfl (by decide +kernel) rfl (by decide +kernel) rfl rfl (by decide +kernel) rfl .nil rfl (jqr (K := K) rfl (pv 0)) (fun _ _ _ => kq5) (fun _ _ _ => (aqf (kqE g) (hr.mono (by decide)) rfl g.hqB g.fqv.kp g.hqr .nil pass0 (aqa (pv 0) (aqa (pv 1) aqb))))) aqb)))))), ?_⟩
    have c1 : Str.ofString "?" = ⟨[63].toArray⟩ := by decide +kernel
    have c2 : Str.ofString "&" = ⟨[38].toArray⟩ := by decide +kernel
    rw [c1, c2]
    walk_at "rd"
    cases q with
    | none =>
      cases hI
      exact ite2 (fun _ => k H (Same.refl _)) (fun z => absurd rfl z)
    | some ps =>
      obtain ⟨p, xs, rfl, hp, r⟩ := jq0 hI
      refine ite2 (fun z => by cases z) (fun _ => ?_)
      obtain ⟨hpl, hpp⟩ := hq ps rfl
      have hxl := r.length
      rw [List.length_map] at hxl
      refine ⟨p, rfl, ⟨_, hp⟩, fun p1 hn1 => ?_⟩
      refine qq7 (f := fun i => match ps[i]? with | some p => (.str ⟨p.1.toArray⟩, otV p.2) | none => (.non, .non)) (zs := (ps.map pairT).map fun l => V.str ⟨l.toArray⟩) hp (aqh (by omega)) hn1 (by simp; omega) (fun i x H' hx sm => ?_) (fun i z hi hz H' T sm hT => ?_) (fun H' sm hp' => ?_)
      · have hi : i < ps.length := by have := (List.getElem?_eq_some_iff.mp hx).1; omega
        have he : ps[i]? = some ps[i] := by simp [hi]
        obtain ⟨b, x1, x2, rfl, hb, b1, b2⟩ := isK2 (kq7 r (by rw [List.getElem?_map, he]; rfl) hx)
        cases nqS b1
        cases pqJ b2
        refine ⟨b, rfl, ?_⟩
        rw [he]
        exact sm.tup hb
      · have hi : i < ps.length := by omega
        have he : ps[i]? = some ps[i] := by simp [hi]
        rw [List.getElem?_map, List.getElem?_map, he] at hz
        simp only [Option.map_some, Option.some.injEq] at hz
        subst hz
        obtain ⟨k1, k2, k3⟩ := hpp ps[i] (List.getElem_mem hi)
        rw [he]
        walk_at "rd"
        exact ⟨ps[i].1, ps[i].2, rfl, k1, k2, k3, hT⟩
      · walk_at "rd"
        have hj := jqf (sep := 38) (ps.map pairT)
        have hq2 : (queT (some ps)).length = (joinT 38 (ps.map pairT)).length + 1 := by simp [queT]
        refine ⟨(ps.map pairT).map fun l => ⟨l.toArray⟩, by rw [List.map_map (f := fun l : List Nat => (⟨l.toArray⟩ : Str)) (g := V.str)]; exact .of hp', ?_, ?_⟩
        · rw [lqf, List.length_map]
          have : ((ps.map pairT).map List.length).sum + (ps.map pairT).length ≤ (joinT 38 (ps.map pairT)).length + 1 := hj
          omega
        rw [show (⟨#[38]⟩ : Str) = ⟨[38].toArray⟩ from rfl, iq8, show (⟨#[63]⟩ : Str) = ⟨[63].toArray⟩ from rfl]
        walk_at "rd"
        refine ⟨aqh (by omega), ?_⟩
        have := k H' sm
        simpa [queT] using this
theorem iqX (g : G K mg) : FnOk P w K mg base CX0 4 g.cq5 g.cqG ["address"] (iqW K) := by
  refine g.eqy.ok iqZ (fun vs H Q E h => ?_) (fun cdv A outer s H vs Q E hr h => ?_)
  · obtain ⟨x, v, rfl, _⟩ := h; rfl
  · obtain ⟨x, v, rfl, hI, hn, k⟩ := h
    refine ⟨_, (aqd (aqo (aqj (nqi (K := K) rfl) (aqj (nqi (K := K) rfl) (bqB (nqs (K := K) rfl) (pv 0) dqN (bqR (aqn (v := uqC) rfl g.rq4 ⟨_, rfl⟩))) (bqe (aqa (aqf (sq8 g) (hr.mono (by decide)) rfl g.sqt g.pqK.kp g.sqo .nil pass0 (aqa (aq3 (aqw (K := K) rfl) (pv 0) (aqn (v := uqC) rfl g.rq4 ⟨_, rfl⟩) (fun _ _ => rfl)) aqb)) aqb))) (bqB (nqs (K := K) rfl) (pv 0) (bqR (aqn (v := lqc) rfl g.iqo ⟨_, rfl⟩)) dqN)))), ?_⟩
    obtain ⟨p, w, q, rfl, hp, hw, hq⟩ := qqg hI
    walk_at "rd"
    refine ⟨_, hp, fun p1 H1 s1 hp1 => ⟨_, _, .inr (s1.tup hp), rfl, ?_⟩⟩
    refine ⟨x.w, w, rfl, hw.mono s1, hn, fun u H2 s2 hu => ⟨by decide, fun p3 H3 hn3 s3 hp3 => ⟨_, _, (s2.trans s3).tup hp1, .of hp3, (show 4 ≤ sizeLine by decide), fun p4 H4 s4 hp4 => ⟨_, (((s1.trans s2).trans s3).trans s4).tup hp, fun p5 H5 s5 hp5 => ⟨_, _, s5.tup hp4, hp5, (show 6 ≤ sizeLine by decide), fun p6 H6 s6 hp6 => ?_⟩⟩⟩⟩⟩
    have sm : Same H H6 := ((((s1.trans s2).trans s3).trans s4).trans s5).trans s6
    exact k _ H6 sm (adK (x := x.gone) hp6 (hu.mono (((s3.trans s4).trans s5).trans s6)) (hq.mono sm))
theorem jqt (g : G K mg) : FnOk P w K mg base CX0 4 g.dqp g.cqY ["_law_script", "_law_first", "_law_whole", "_law_cells"] (kqd K) := by
  refine g.eq3.ok aqC (fun vs H Q E h => ?_) (fun cdv A outer s H vs Q E hr h => ?_)
  · obtain ⟨a, ns, i, wh, pc, cs, rfl, _⟩ := h; rfl
  · obtain ⟨a, ns, i, wh, pc, cs, rfl, hS, hC, hn, k⟩ := h
    refine ⟨_, (aqc (aqk (i := 4) aqC.nd rfl (Or.inl rfl) (aqf (aqT g) (hr.mono (by decide)) rfl g.aqS g.aqK.kp g.aqR .nil pass0 (aqa (pv 0) (aqa (pv 1) aqb))))
      (aqc (aqk (i := 5) aqC.nd rfl (Or.inl rfl) aqm)
      (aqc (aqk (i := 6) aqC.nd rfl (Or.inl rfl) aqN)
      (aqc (aqk (i := 7) aqC.nd rfl (Or.inl rfl) aqN)
      (aqH (aqW (PW.pt (lqY (bqg (pv 2)) (jqX (aqq eqE (aqj aqQ (pv 4) aqe) aqe (nomark _)))))
        (aqd (aqk (i := 5) aqC.nd rfl (Or.inl rfl) (aqf (kqN g) (hr.mono (by decide)) rfl g.hqd g.fqC.kp g.hqf .nil pass0 (aqa (aqj aq5 (pv 4) aqe) aqb)))) aqv)
      (aqH (aqW (aqq lqu (aqj aqQ (aqj aq5 (pv 4) aqe) aqe) aqe (nomark _))
        (aqc (aqk (i := 6) aqC.nd rfl (Or.inl rfl) (aqf (dqD g) (hr.mono (by decide)) rfl g.dqi g.cqM.kp g.dqk .nil pass0 (aqa (aqf (aqT g) (hr.mono (by decide)) rfl g.aqS g.aqK.kp g.aqR .nil pass0 (aqa (pv 0) (aqa (aqj (aqL (K := K)) (pv 1) aqe) aqb))) (aqa aqe aqb))))
      (aqd (aqW (aqq eqE (aqj aqQ (aqj aq5 (pv 4) aqe) aqe) aqe (nomark _))
        (aqd (aqk (i := 7) aqC.nd rfl (Or.inl rfl) (aqj aqQ (aqj aq5 (aqf (aqT g) (hr.mono (by decide)) rfl g.aqS g.aqK.kp g.aqR .nil pass0 (aqa (pv 0) (aqa (aqj (aqL (K := K)) (pv 1) aqe) aqb))) aqe) aqe))) aqv))) aqv)
      (aqH (aqk (i := 8) aqC.nd rfl (Or.inl rfl) (rqb (bq3 lqz (pv 5) aqm (nomark _)) (rqb (bq3 fqu (pv 6) aqN (nomark _)) (hqZ (bq3 eqE (aqj aqQ (aqj aq5 (pv 4) aqe) aqe) aqe (nomark _))))))
      (aqc (aqk (i := 9) aqC.nd rfl (Or.inl rfl) (aqf (nqF g) (hr.mono (by decide)) rfl g.kqT g.iqq.kp g.kq0 .nil pass0 (aqa (pv 3) (aqa (pv 8) (aqa (bq3 eqE (aqj aqQ (aqj aq5 (pv 4) aqe) aqe) aqe (nomark _)) aqb)))))
      (aqc (aqk (i := 10) aqC.nd rfl (Or.inl rfl) (aqf (iq6 g) (hr.mono (by decide)) rfl g.fq8 g.eqn.kp g.gqi .nil pass0 (aqa (aqf (aqT g) (hr.mono (by decide)) rfl g.aqS g.aqK.kp g.aqR .nil pass0 (aqa (pv 0) (aqa (aqj (aqL (K := K)) (pv 1) aqe) aqb))) aqb)))
      (aqd (aqo (bqe (aqa (pv 5) (aqa (pv 6) (aqa (pv 7) (aqa (pv 9) (aqa (pv 10) (aqa (aqf (mqE g) (hr.mono (by decide)) rfl g.kqq g.gq9.kp g.jqD .nil pass0 (aqa (aqf (aqT g) (hr.mono (by decide)) rfl g.aqS g.aqK.kp g.aqR .nil pass0 (aqa (pv 0) (aqa (aqj (aqL (K := K)) (pv 1) aqe) aqb))) aqb)) aqb)))))))))))))))))), ?_⟩
    walk_at "rd"
    refine ⟨a, ns, i, rfl, hS, ?_⟩
    walk_at "rd"
    generalize ns.getD i 0 = hd
    refine ⟨fun σ H1 => H1 = H ∧ ∃ sc : List Nat, σ = [some (.ref a), some (.int (i : Int)), some (.bl wh), some (.ref pc), some (.int hd), some (.str ⟨sc.toArray⟩), some .non, some .non, none, none, none] ∧ (wh = true → sc ≠ []) ∧ sc.length ≤ 8 ∧ (∀ c ∈ sc, isAln c = true) ∧ ∀ c ∈ sc.take 1, isLet c = true, ?_, ?_⟩
    · have put : ∀ l : List Nat, 0 < l.length → l.length ≤ 8 → (∀ c ∈ l, isAln c = true) → (∀ c ∈ l.take 1, isLet c = true) → ((H = H) ∧ ∃ sc : List Nat, [some (V.ref a), some (.int (i : Int)), some (.bl wh), some (.ref pc), some (.int hd), some (.str ⟨l.toArray⟩), some .non, some .non, none, none, none] = [some (V.ref a), some (.int (i : Int)), some (.bl wh), some (.ref pc), some (.int hd), some (.str ⟨sc.toArray⟩), some .non, some .non, none, none, none] ∧ (wh = true → sc ≠ []) ∧ sc.length ≤ 8 ∧ (∀ c ∈ sc, isAln c = true) ∧ ∀ c ∈ sc.take 1, isLet c = true) :=
        fun l h1 h2 h3 h4 => ⟨rfl, l, rfl, (fun _ z => by rw [z] at h1; cases h1), h2, h3, h4⟩
      refine ite2 (fun _ => ⟨⟨by decide, by decide⟩, _, rfl, put⟩) (fun hw => ⟨by decide, ite2 (fun _ => ⟨⟨by decide, by decide⟩, _, rfl, put⟩) (fun _ => ⟨rfl, [], rfl, fun z => absurd z hw, by decide, by simp, by simp⟩)⟩)
    rintro σ H1 ⟨rfl, sc, rfl, hw, hs1, hs2, hs3⟩
    walk_at "rd"
    refine ⟨fun σ H2 => H2 = H1 ∧ ∃ (ho : Option (List Nat)) (dr : Option Int), σ = [some (.ref a), some (.int (i : Int)), some (.bl wh), some (.ref pc), some (.int hd), some (.str ⟨sc.toArray⟩), some (otV ho), some (itV dr), none, none, none] ∧ (∀ l, ho = some l → (0 < l.length ∧ l.length ≤ 13) ∧ ∀ c ∈ l, isSg c = true) ∧ (∀ j, dr = some j → (0 ≤ j ∧ j ≤ 65535) ∧ ho ≠ none), ?_, ?_⟩
    · refine ⟨⟨by decide, by decide⟩, by decide, ite2 (fun _ => ?_) (fun _ => ⟨rfl, none, none, rfl, (fun _ z => by cases z), (fun _ z => by cases z)⟩)⟩
      refine ⟨a, ns, i + 1, by simp, hS, ?_⟩
      refine ⟨_, 12, rfl, by decide, by decide, fun l h1 h2 h3 => ?_⟩
      walk_at "rd"
      refine ⟨⟨by decide, by decide⟩, by decide, ite2 (fun _ => ?_) (fun _ => ⟨some l, none, ⟨rfl, rfl⟩, (fun l' z => by cases z; exact ⟨⟨h1, by omega⟩, h3⟩), (fun _ z => by cases z)⟩)⟩
      refine ⟨a, ns, i + 1, by simp, hS, ?_⟩
      walk_at "rd"
      have q0 := Int.emod_nonneg (ns.getD (i + 1) 0 / 7) (show (65536 : Int) ≠ 0 by decide)
      have q1 := Int.emod_lt_of_pos (ns.getD (i + 1) 0 / 7) (show (0 : Int) < 65536 by decide)
      refine ⟨⟨by decide, by decide⟩, by decide, some l, some _, ⟨rfl, rfl⟩, (fun l' z => by cases z; exact ⟨⟨h1, by omega⟩, h3⟩), (fun j z => by cases z; exact ⟨⟨q0, by omega⟩, by simp⟩)⟩
    rintro σ H2 ⟨rfl, ho, dr, rfl, hho, hdr⟩
    walk_at "rd"
    refine ⟨fun σ H3 => H3 = H2 ∧ ∃ rt : Bool, σ = [some (.ref a), some (.int (i : Int)), some (.bl wh), some (.ref pc), some (.int hd), some (.str ⟨sc.toArray⟩), some (otV ho), some (itV dr), some (.bl rt), none, none] ∧ (sc ≠ [] ∨ ho ≠ none → rt = true), ?_, ?_⟩
    · by_cases hsc : sc = []
      · subst hsc
        refine ite2 (fun z => absurd rfl z) (fun _ => ?_)
        cases ho with
        | some l => exact ite2 (fun _ => ⟨rfl, true, rfl, fun _ => rfl⟩) (fun z => absurd (Classical.not_not.mp z) (by simp [otV]))
        | none =>
          refine ite2 (fun z => absurd rfl z) (fun _ => ⟨⟨by decide, by decide⟩, by decide, rfl, _, rfl, fun z => ?_⟩)
          rcases z with z | z <;> exact absurd rfl z
      · refine ite2 (fun _ => ⟨rfl, true, rfl, fun _ => rfl⟩) (fun z => absurd (gqV.mp (Classical.not_not.mp z)) hsc)
    rintro σ H3 ⟨rfl, rt, rfl, hrt⟩
    walk_at "rd"
    refine ⟨⟨by decide, by decide⟩, by decide, pc, cs, rt, _, rfl, hC, hn, fun ss e' v H4 hl4 hs4 he4 s4 hv => ?_⟩
    walk_at "rd"
    refine ⟨a, ns, i + 2, by simp, s4.seq hS, _, rfl, fun q vq H5 hq s5 hvq => ?_⟩
    walk_at "rd"
    refine ⟨a, ns, i + 3, by simp, (s4.trans s5).seq hS, _, rfl, fun o ho5 => ⟨by decide, fun p6 H6 hn6 s6 hp6 => ?_⟩⟩
    refine k ⟨sc, ho, dr, rt, ss, e', q, o⟩ _ H6 ⟨⟨hs1, hs2, hs3⟩, (fun l e => ⟨⟨(hho l e).1.1, by have := (hho l e).1.2; omega⟩, (hho l e).2⟩), hdr, fun s hs => (hs4 s hs).1, hrt, he4, fun ps e p hp => ((hq ps e).2 p hp).1, fun l e => (ho5 l e).2⟩ ⟨fun s hs => (hs4 s hs).2, fun ps e => ⟨(hq ps e).1, fun p hp => ((hq ps e).2 p hp).2⟩, fun l e => (ho5 l e).1, fun l e => (hho l e).1.2⟩ (Nat.le_of_eq hl4) hw ((s4.trans s5).trans s6) ?_
    exact .tup hp6 (.cons (.str _) (.cons (mql _) (.cons (tqW _) (.cons (hv.mono (s5.trans s6).toT) (.cons (hvq.mono s6.toT) (.cons (mql _) .nil))))))
theorem lqs (g : G K mg) : FnOk P w K mg base CX0 4 g.eqS g.dq0 ["_law_address_here", "_law_bits"] (lqK K) := by
  refine g.gqo.ok aqy (fun vs H Q E h => ?_) (fun cdv A outer s H vs Q E hr h => ?_)
  · obtain ⟨x, v, q, n, rfl, _⟩ := h; rfl
  · obtain ⟨x, v, q, n, rfl, hI, wf, ti, hn, hb, hnn, k⟩ := h
    refine ⟨_, (aqc (uq9 (pv 0) (pq9 (n := 6) (K := K) rfl rfl (dqt (cqi (i := 2) aqy.nd rfl (Or.inl rfl)) (dqt (cqi (i := 3) aqy.nd rfl (Or.inl rfl)) (dqt (cqi (i := 4) aqy.nd rfl (Or.inl rfl)) (dqt (cqi (i := 5) aqy.nd rfl (Or.inl rfl)) (dqt (cqi (i := 6) aqy.nd rfl (Or.inl rfl)) (dqt (cqi (i := 7) aqy.nd rfl (Or.inl rfl)) nqo))))))))
      (aqH (aqk (i := 8) aqy.nd rfl (Or.inl rfl) (aqj (aqL (K := K)) (pv 2) (aq3 (aqw (K := K) rfl) (dqU (aqa aqm (aqa aqm aqb))) (bqL jqp rfl g.oq9 mqQ (aqa (bq3 eqE (pv 2) aqm (nomark _)) aqb)) (fun _ _ => rfl))))
      (aqH (aqW (aqq fqu (pv 3) aqN (nomark _))
        (aqd (aqk (i := 8) aqy.nd rfl (Or.inl rfl) (aqj (aqL (K := K)) (aqj (aqL (K := K)) (pv 8) aqm) (aqf (bqW g) (hr.mono (by decide)) rfl g.bqN g.bql.kp g.bqM .nil pass0 (aqa (pv 3) (aqa aqm (aqa (pv 1) aqb))))))) aqv)
      (aqH (aqW (aqq fqu (pv 4) aqN (nomark _))
        (aqd (aqk (i := 8) aqy.nd rfl (Or.inl rfl) (aqj (aqL (K := K)) (aqj (aqL (K := K)) (pv 8) aqm) (bqL iqB rfl g.pqt oqh (aqa (pv 4) aqb))))) aqv)
      (aqH (aqk (i := 8) aqy.nd rfl (Or.inl rfl) (aqj (aqL (K := K)) (pv 8) (aq3 (aqw (K := K) rfl) (dqU (aqa aqm (aqa aqm aqb))) (bqL jqp rfl g.oq9 mqQ (aqa (aq3 (aqw (K := K) rfl) (pv 5) aqe (fun _ _ => rfl)) aqb)) (fun _ _ => rfl))))
      (aqH (aqk (i := 8) aqy.nd rfl (Or.inl rfl) (aqj (aqL (K := K)) (pv 8) (dqf (K := K) rfl PySem.F.plainAttrs_str PySem.F.slot_str_join PySem.F.type_str_join (gqC (K := K) rfl) aqm (aqa (jqs (fx := ["_law_bits"]) (fr := [1]) rfl rfl (by decide +kernel) rfl (by decide +kernel) rfl (by decide +kernel) rfl (.cons rfl rfl rfl rfl .nil) rfl (jqr (K := K) rfl (aq3 (aqw (K := K) rfl) (pv 5) aqe (fun _ _ => rfl))) (fun _ _ _ => kq5) (fun _ _ _ => (aqf (bqW g) (hr.mono (by decide)) rfl g.bqN g.bql.kp g.bqM .nil pass0 (aqa (pv 0) (aqa aqm (aqa (pv 1) aqb)))))) aqb))))
      (aqH (aqk (i := 8) aqy.nd rfl (Or.inl rfl) (aqj (aqL (K := K)) (pv 8) (aq3 (aqw (K := K) rfl) (dqU (aqa aqm (aqa aqm aqb))) (bqL jqp rfl g.oq9 mqQ (aqa (mqH (aq3 (aqw (K := K) rfl) (pv 5) aqe (fun _ _ => rfl)) (hqZ (bq3 (sqz hr.units) (aq3 (aqw (K := K) rfl) (pv 5) aqe (fun _ _ => rfl)) (bqe aqb) (nomark _)))) aqb)) (fun _ _ => rfl))))
      (aqH (aqW (aqq fqu (pv 6) aqN (nomark _))
        (aqd (aqk (i := 8) aqy.nd rfl (Or.inl rfl) (aqj (aqL (K := K)) (pv 8) (aqf (hqY g) (hr.mono (by decide)) rfl g.fqa g.dqg.kp g.fqd .nil pass0 (aqa (pv 6) (aqa (pv 1) aqb)))))) aqv)
      (aqH (aqW (aqq fqu (pv 7) aqN (nomark _))
        (aqd (aqk (i := 8) aqy.nd rfl (Or.inl rfl) (aqj (aqL (K := K)) (aqj (aqL (K := K)) (pv 8) aqm) (aqf (bqW g) (hr.mono (by decide)) rfl g.bqN g.bql.kp g.bqM .nil pass0 (aqa (pv 7) (aqa aqm (aqa (pv 1) aqb))))))) aqv)
      (aqd (aqo (pv 8)))))))))))), ?_⟩
    have c1 : Str.ofString ":" = ⟨[58].toArray⟩ := by decide +kernel
    have c2 : Str.ofString "//" = ⟨[47, 47].toArray⟩ := by decide +kernel
    have c3 : Str.ofString "/" = ⟨[47].toArray⟩ := by decide +kernel
    have c4 : Str.ofString "#" = ⟨[35].toArray⟩ := by decide +kernel
    have eS : Str.ofString "!$'()*,;@&=+" = ⟨frS.toArray⟩ := by unfold frS; simp
    have eM : Str.ofString "!$'()*,;@&=+/?:" = ⟨frM.toArray⟩ := by unfold frM; simp
    rw [c1, c2, c3, c4, eS, eM]
    obtain ⟨px, w, vq, rfl, hpx, hwx, hqx⟩ := vq6 hI
    obtain ⟨pw, ps, rfl, hpw, hps⟩ := tqa (r := x.rooted) (e := x.ends) (ss := x.steps) hwx
    have npx := hb.ne hpx
    have npw := hb.ne hpw
    have nps := hb.ne hps
    have sl : (schT x.scheme).length ≤ 9 := by
      unfold schT
      split
      · simp
      · have := wf.sch.1; simp only [List.length_append, List.length_cons, List.length_nil]; omega
    have s128 : ∀ c ∈ schT x.scheme, c < 128 := by
      intro c hc
      unfold schT at hc
      split at hc
      · cases hc
      · rcases List.mem_append.mp hc with hc | hc
        · exact gqw (mqK (wf.sch.2.1 c hc))
        · rw [List.mem_singleton.mp hc]; decide
    walk_at "rd"
    refine ⟨px, _, rfl, .of hpx, rfl, _, _, rfl, _, _, rfl, _, _, rfl, _, _, rfl, _, _, rfl, _, _, rfl, rfl, ?_⟩
    obtain ⟨S, hSS⟩ : ∃ S : List Nat → St, S = fun t => [some (.ref px), some (.ref q), some (.str ⟨x.scheme.toArray⟩), some (otV x.house), some (itV x.door), some (.ref pw), some vq, some (otV x.mark), some (.str ⟨t.toArray⟩)] := ⟨_, rfl⟩
    refine ⟨fun σ H1 => SameBut q H H1 ∧ Bt H1 q n ∧ σ = S (schT x.scheme), ?_, ?_⟩
    · rw [hSS]
      refine ⟨by decide, fun pl H1 hn1 s1 hpl => ?_⟩
      walk_at "rd"
      by_cases hs : x.scheme = []
      · refine ⟨_, .str ⟨([] : List Nat).toArray⟩, .inl (.of hpl), ?_, ?_⟩
        · rw [hs, if_pos rfl]
          rfl
        walk_at "rd"
        refine ⟨aqh (by rw [hs]; decide), s1.but, hb.same s1, ?_⟩
        rw [hs]
        rfl
      · refine ⟨_, .str ⟨[58].toArray⟩, .inl (.of hpl), ?_, ?_⟩
        · rw [if_neg (fun z => hs (gqV.mp z))]
          rfl
        walk_at "rd"
        refine ⟨aqh (by have := wf.sch.1; simp; omega), s1.but, hb.same s1, ?_⟩
        unfold schT
        rw [if_neg hs]
    rintro σ H1 ⟨s1, b1, e1⟩
    rw [hSS] at e1
    subst e1
    walk_at "rd"
    refine ⟨fun σ H2 => ∃ h, HouW x.house h ∧ h.length ≤ 41 ∧ (∀ c ∈ h, c < 128) ∧ SameBut q H H2 ∧ Bt H2 q (n + 13) ∧ σ = S (schT x.scheme ++ h), ?_, ?_⟩
    · rw [hSS]
      cases hh : x.house with
      | none => exact ite2 (fun z => absurd rfl z) (fun _ => ⟨[], rfl, by decide, by simp, s1, b1.le (by omega), by simp⟩)
      | some l =>
        refine ite2 (fun _ => ?_) (fun z => absurd (Classical.not_not.mp z) (by simp [otV]))
        have hl := wf.hou l hh
        have hl2 := ti.hou l hh
        refine ⟨aqh (by omega), ?_⟩
        refine ⟨l, [], q, n, rfl, b1, by omega, by omega, hl.2, by decide, by decide, fun a H2 ha hal s2 b2 => ?_⟩
        walk_at "rd"
        refine ⟨aqh (by simp; omega), 47 :: 47 :: a, ⟨a, rfl, ha, fun z => by rw [z] at hl; exact absurd hl.1.1 (by decide), hl.1.2⟩, by simp; omega, ?_, s1.trans s2, b2.le (by omega), by simp⟩
        intro c hc
        rcases List.mem_cons.mp hc with rfl | hc
        · decide
        · rcases List.mem_cons.mp hc with rfl | hc
          · decide
          · exact iql (by simp) ha c hc
    rintro σ H2 ⟨h, hH, hhl, h128, s2, b2, e2⟩
    rw [hSS] at e2
    subst e2
    walk_at "rd"
    refine ⟨fun σ H3 => SameBut q H H3 ∧ Bt H3 q (n + 13) ∧ σ = S (schT x.scheme ++ (h ++ dooT x.door)), ?_, ?_⟩
    · rw [hSS]
      cases hd : x.door with
      | none => exact ite2 (fun z => absurd rfl z) (fun _ => ⟨s2, b2, by simp [dooT]⟩)
      | some i =>
        refine ite2 (fun _ => ?_) (fun z => absurd (Classical.not_not.mp z) (by simp [itV]))
        have hdi := (wf.doo i hd).1
        have hdl := nqX hdi.1 hdi.2
        refine ⟨aqh (by rw [List.length_append]; omega), i, rfl, lg hdi.1 hdi.2, aqh (by rw [oqg, dqd]; simp only [List.length_append, List.length_cons, List.length_nil]; omega), s2, b2, ?_⟩
        rw [oqg, kqZ]
        simp [dooT]
    rintro σ H3 ⟨s3, b3, e3⟩
    rw [hSS] at e3
    subst e3
    have dl : (dooT x.door).length ≤ 6 := by
      cases hh : x.door with
      | none => simp [dooT]
      | some i => have b := (wf.doo i hh).1; have := nqX b.1 b.2; simp only [dooT, List.length_cons]; omega
    have d128 : ∀ c ∈ dooT x.door, c < 128 := by
      intro c hc
      cases hh : x.door with
      | none => rw [hh] at hc; cases hc
      | some i =>
        rw [hh] at hc
        simp only [dooT, List.mem_cons] at hc
        rcases hc with rfl | hc
        · decide
        · have := sqU (wf.doo i hh).1.1 c hc; omega
    obtain ⟨t3, et3⟩ : ∃ t3, t3 = schT x.scheme ++ (h ++ dooT x.door) := ⟨_, rfl⟩
    have t3l : t3.length ≤ 56 := by rw [et3, List.length_append, List.length_append]; omega
    have t3c : ∀ c ∈ t3, c < 128 := by
      intro c hc
      rw [et3] at hc
      rcases List.mem_append.mp hc with hc | hc
      · exact s128 c hc
      · rcases List.mem_append.mp hc with hc | hc
        · exact h128 c hc
        · exact d128 c hc
    rw [← et3]
    walk_at "rd"
    refine ⟨fun σ H4 => SameBut q H H4 ∧ Bt H4 q (n + 13) ∧ σ = S (t3 ++ (if x.rooted then [47] else [])), ?_, ?_⟩
    · rw [hSS]
      refine ⟨by decide, fun pl H4 hn4 s4 hpl => ⟨_, _, .inr (.of ((s3.trans s4.but) _ _ npw hpw)), rfl, ?_⟩⟩
      walk_at "rd"
      cases hr : x.rooted
      · refine ⟨_, .str ⟨([] : List Nat).toArray⟩, .inl (.of hpl), rfl, ?_⟩
        walk_at "rd"
        exact ⟨aqh (by simp; omega), s3.trans s4.but, b3.same s4⟩
      · refine ⟨_, .str ⟨[47].toArray⟩, .inl (.of hpl), rfl, ?_⟩
        walk_at "rd"
        exact ⟨aqh (by simp; omega), s3.trans s4.but, b3.same s4⟩
    rintro σ H4 ⟨s4, b4, e4⟩
    rw [hSS] at e4
    subst e4
    obtain ⟨t4, et4⟩ : ∃ t4, t4 = t3 ++ (if x.rooted then [47] else []) := ⟨_, rfl⟩
    have t4l : t4.length ≤ 57 := by
      rw [et4, List.length_append]
      have : (if x.rooted then [47] else [] : List Nat).length ≤ 1 := by split <;> simp
      omega
    have t4c : ∀ c ∈ t4, c < 128 := by
      intro c hc
      rw [et4] at hc
      rcases List.mem_append.mp hc with hc | hc
      · exact t3c c hc
      · split at hc
        · rw [List.mem_singleton.mp hc]; decide
        · cases hc
    rw [← et4]
    walk_at "rd"
    refine ⟨fun σ H5 => ∃ ws, StWs x.steps ws ∧ (∀ w ∈ ws, w.length ≤ 27 ∧ ∀ c ∈ w, c < 128) ∧ SameBut q H H5 ∧ Bt H5 q (n + 13 + 9 * x.steps.length) ∧ σ = S (t4 ++ joinT 47 ws), ?_, ?_⟩
    · rw [hSS]
      refine ⟨_, _, .inr (.of (s4 _ _ npw hpw)), rfl, ps, rfl, ⟨_, .of (s4 _ _ nps hps)⟩, fun p hp => ?_⟩
      have hpn : p ≠ q := b4.ne0 hp
      have hHp : H p = none := s4.free hp hpn
      refine qqu (xs := x.steps.map fun l => V.str ⟨l.toArray⟩) (fun i ys H2 => ∃ ws : List (List Nat), ys = ws.map sV ∧ StWs (x.steps.take i) ws ∧ (∀ w ∈ ws, w.length ≤ 27 ∧ ∀ c ∈ w, c < 128) ∧ SameBut q H H2 ∧ Bt H2 q (n + 13 + 9 * i)) (aqh (by rw [List.length_map]; omega)) ⟨[], rfl, .nil, by simp, s4.upd hHp, b4.upd hpn⟩ ?_ ?_ ?_
      · rintro i ys H2 ⟨_, _, _, _, sb, _⟩
        exact .of (sb _ _ nps hps)
      · rintro i v ys H2 T hv ⟨ws, rfl, hws, hwl, sb, b⟩ hp2 hT
        rw [List.getElem?_map] at hv
        obtain ⟨s, hs, rfl⟩ := Option.map_eq_some_iff.mp hv
        have hsm := List.mem_of_getElem? hs
        have hso := wf.stp s hsm
        have hsl := ti.stp s hsm
        have hi : i < x.steps.length := (List.getElem?_eq_some_iff.mp hs).1
        walk_at "rd"
        refine ⟨s, frS, q, _, rfl, b, by omega, by omega, hso.2, lqF, sqY.1, fun a H3 ha hal s3 b3 => hT _ H3 (s3 _ _ hpn hp2) ⟨ws ++ [a], by rw [List.map_append]; rfl, by rw [List.take_add_one, hs]; exact hws.snoc ha, ?_, (sb.trans s3).upd hHp, (b3.le (by omega)).upd hpn⟩⟩
        intro w hw
        rcases List.mem_append.mp hw with hw | hw
        · exact hwl w hw
        · rw [List.mem_singleton.mp hw]
          exact ⟨by omega, iql sqY.2 ha⟩
      · rintro ys H2 ⟨ws, rfl, hws, hwl, sb, b⟩ hp2
        rw [List.length_map, List.take_of_length_le (Nat.le_refl _)] at hws
        rw [List.length_map] at b
        have hwn := hws.length
        have hj : (ws.map List.length).sum + ws.length ≤ (joinT 47 ws).length + 1 := jqf (sep := 47) ws
        have hjb := iqm (sep := 47) (m := 27) (ys := ws) fun s hs => (hwl s hs).1
        have hjm : ws.length * (27 + 1) ≤ 200 * 28 := Nat.mul_le_mul (by omega) (Nat.le_refl _)
        walk_at "rd"
        refine ⟨ws.map fun l => ⟨l.toArray⟩, by rw [List.map_map (f := fun l : List Nat => (⟨l.toArray⟩ : Str)) (g := V.str)]; exact .of hp2, ?_, ?_⟩
        · rw [lqf, List.length_map]
          omega
        rw [show (⟨#[47]⟩ : Str) = ⟨[47].toArray⟩ from rfl, iq8]
        walk_at "rd"
        exact ⟨aqh (by omega), ws, hws, hwl, sb, b, rfl⟩
    rintro σ H5 ⟨ws, hws, hwl, s5, b5, e5⟩
    rw [hSS] at e5
    subst e5
    have hwn := hws.length
    have hjb := iqm (sep := 47) (m := 27) (ys := ws) fun s hs => (hwl s hs).1
    have hjm : ws.length * (27 + 1) ≤ 200 * 28 := Nat.mul_le_mul (by omega) (Nat.le_refl _)
    obtain ⟨t5, et5⟩ : ∃ t5, t5 = t4 ++ joinT 47 ws := ⟨_, rfl⟩
    have t5l : t5.length ≤ 5700 := by rw [et5, List.length_append]; omega
    have t5c : ∀ c ∈ t5, c < 128 := by
      intro c hc
      rw [et5] at hc
      rcases List.mem_append.mp hc with hc | hc
      · exact t4c c hc
      · exact oqe (P := fun c => c < 128) (by decide) (fun s hs => (hwl s hs).2) c hc
    rw [← et5]
    walk_at "rd"
    refine ⟨fun σ H6 => SameBut q H H6 ∧ Bt H6 q (n + 13 + 9 * x.steps.length) ∧ σ = S (t5 ++ (if x.ends && !x.steps.isEmpty then [47] else [])), ?_, ?_⟩
    · rw [hSS]
      refine ⟨by decide, fun pl H6 hn6 s6 hpl => ⟨_, _, .inr (.of ((s5.trans s6.but) _ _ npw hpw)), rfl, _, rfl, ite2 (fun he => ?_) (fun he => ?_)⟩⟩
      · refine ⟨_, _, .inr (.of ((s5.trans s6.but) _ _ npw hpw)), rfl, Nat.zero_le _, fun pt H7 hn7 s7 hpt => ?_⟩
        have s67 := s6.trans s7
        refine ⟨.tuple (x.steps.map st), .tuple [], .tup ((s5.trans s67.but) _ _ nps hps) (nqW _), .tup hpt .nil, iqI wf.sg, by decide, ?_⟩
        rw [qqZ, show (x.steps.map st).isEmpty = x.steps.isEmpty by cases x.steps <;> rfl]
        walk_at "rd"
        cases hE : x.steps.isEmpty
        · refine ⟨_, .str ⟨[47].toArray⟩, .inl (.of (s7 _ _ hpl)), rfl, ?_⟩
          walk_at "rd"
          exact ⟨aqh (by simp; omega), s5.trans s67.but, b5.same s67, by simp [he]⟩
        · refine ⟨_, .str ⟨([] : List Nat).toArray⟩, .inl (.of (s7 _ _ hpl)), rfl, ?_⟩
          walk_at "rd"
          exact ⟨aqh (by simp; omega), s5.trans s67.but, b5.same s67, by simp⟩
      · refine ⟨_, .str ⟨([] : List Nat).toArray⟩, .inl (.of hpl), rfl, ?_⟩
        walk_at "rd"
        exact ⟨aqh (by simp; omega), s5.trans s6.but, b5.same s6, by simp [he]⟩
    rintro σ H6 ⟨s6, b6, e6⟩
    rw [hSS] at e6
    subst e6
    obtain ⟨t6, et6⟩ : ∃ t6, t6 = t5 ++ (if x.ends && !x.steps.isEmpty then [47] else []) := ⟨_, rfl⟩
    have t6l : t6.length ≤ 5701 := by
      rw [et6, List.length_append]
      have : (if x.ends && !x.steps.isEmpty then [47] else [] : List Nat).length ≤ 1 := by split <;> simp
      omega
    have t6c : ∀ c ∈ t6, c < 128 := by
      intro c hc
      rw [et6] at hc
      rcases List.mem_append.mp hc with hc | hc
      · exact t5c c hc
      · split at hc
        · rw [List.mem_singleton.mp hc]; decide
        · cases hc
    rw [← et6]
    walk_at "rd"
    refine ⟨fun σ H7 => ∃ qT, QueW x.quest qT ∧ (∀ c ∈ qT, c < 128) ∧ qT.length ≤ 200 ∧ SameBut q H H7 ∧ Bt H7 q (n + 13 + 9 * x.steps.length + 33) ∧ σ = S (t6 ++ qT), ?_, ?_⟩
    · rw [hSS]
      cases hq : x.quest with
      | none =>
        rw [hq] at hqx
        cases hqx
        exact ite2 (fun z => absurd rfl z) (fun _ => ⟨[], rfl, by simp, by simp, s6, b6.le (by omega), by simp⟩)
      | some pp =>
        rw [hq] at hqx
        have hne : vq ≠ .non := by
          obtain ⟨a1, a2, rfl, _⟩ := iqa hqx
          simp
        refine ite2 (fun _ => ?_) (fun z => absurd (Classical.not_not.mp z) hne)
        have hk := ti.que pp hq
        refine ⟨pp, vq, q, _, rfl, hqx.mono (hb.toT s6), b6, by omega, hk.1, fun p hp => ⟨wf.que pp hq p hp, hk.2 p hp⟩, fun qT H7 hQ qc ql s7 b7 => ?_⟩
        walk_at "rd"
        exact ⟨aqh (by omega), qT, hQ, qc, ql, s6.trans s7, b7, rfl⟩
    rintro σ H7 ⟨qT, hQ, qc, ql, s7, b7, e7⟩
    rw [hSS] at e7
    subst e7
    walk_at "rd"
    refine ⟨fun σ H8 => ∃ mT, MarW x.mark mT ∧ (∀ c ∈ mT, c < 128) ∧ mT.length ≤ 30 ∧ SameBut q H H8 ∧ Bt H8 q (n + 2000) ∧ σ = S (t6 ++ qT ++ mT), ?_, ?_⟩
    · rw [hSS]
      cases hm : x.mark with
      | none => exact ite2 (fun z => absurd rfl z) (fun _ => ⟨[], rfl, by simp, by simp, s7, b7.le (by omega), by simp⟩)
      | some l =>
        refine ite2 (fun _ => ?_) (fun z => absurd (Classical.not_not.mp z) (by simp [otV]))
        have hl := wf.mar l hm
        have hl2 := ti.mar l hm
        refine ⟨aqh (by rw [List.length_append]; omega), ?_⟩
        refine ⟨l, frM, q, _, rfl, b7, by omega, by omega, hl, pq6, sqQ.1, fun a H8 ha hal s8 b8 => ?_⟩
        walk_at "rd"
        refine ⟨aqh (by simp only [List.length_append, List.length_cons, List.length_nil]; omega), 35 :: a, ⟨a, rfl, ha⟩, ?_, by simp only [List.length_cons]; omega, s7.trans s8, b8.le (by omega), by simp⟩
        intro c hc
        rcases List.mem_cons.mp hc with rfl | hc
        · decide
        · exact iql sqQ.2 ha c hc
    rintro σ H8 ⟨mT, hM, mc, ml, s8, b8, e8⟩
    rw [hSS] at e8
    subst e8
    walk_at "rd"
    have hR := vqF wf hH (rqx fun i e => (wf.doo i e).1) (tqw (e := x.ends) hws fun s hs z => by have := (wf.stp s hs).1; rw [z] at this; cases this) hQ hM
    have eT : t6 ++ qT ++ mT = schT x.scheme ++ (h ++ (dooT x.door ++ ((if x.rooted then [47] else []) ++ ((joinT 47 ws ++ if x.ends && !x.steps.isEmpty then [47] else []) ++ (qT ++ mT))))) := by
      rw [et6, et5, et4, et3]
      simp only [List.append_assoc]
    rw [← eT] at hR
    refine k _ H8 hR ?_ (by simp only [List.length_append]; omega) s8 b8
    intro c hc
    rcases List.mem_append.mp hc with hc | hc
    · rcases List.mem_append.mp hc with hc | hc
      · exact t6c c hc
      · exact qc c hc
    · exact mc c hc
theorem lqt (g : G K mg) : FnOk P w K mg base (CXN P w base) 5 g.fqx g.eqX ["cursor", "must_be_rooted"] (hqE K g.aqs g.aqt) := by
  refine g.gq7.okn bqZ (fun vs H Q E h => ?_) (fun cdv A outer s H vs Q E hr h => ?_)
  · obtain ⟨p, t, i, must, rfl, _⟩ := h; rfl
  · obtain ⟨p, t, i, must, rfl, hcur, hi, hl, h128, k1, k2⟩ := h
    refine ⟨_, (aqH (aqk (i := 2) bqZ.nd rfl (Or.inl rfl) (dqb (pv 0) g.aqi g.aqA (aqE g) (hr.mono (by decide)) g.aqD .nil pass0 (aqa aqm aqb)))
      (aqH (aqW (PW.pt (hqt (bqg (pv 1)) (gqk (eq6 (bqg (pv 2))))))
        (aqd (aqo (bqe (aqa gqK (aqa (bqe aqb) (aqa gqK aqb)))))) aqv)
      (aqc (aqk (i := 3) bqZ.nd rfl (Or.inl rfl) (dqU aqb))
      (aqc (aqk (i := 4) bqZ.nd rfl (Or.inl rfl) (pv 2))
      (aqH (aqk (i := 5) bqZ.nd rfl (Or.inl rfl) (aqf (dvs := [.non]) (bqO g) (hr.mono (by decide)) rfl g.bq8 g.bqx.kp g.cql (.cons rfl .nil) aqJ (aqa (pv 0) (aqa (aqn (v := eqq) rfl g.eqj ⟨_, rfl⟩) aqb))))
      (aqc (jqb PassesOwn.leaving (aqq lqz (pv 5) aqm (nomark _))
      (aqc (dqP (dqf (K := K) rfl PySem.F.plainAttrs_list PySem.F.slot_list_append PySem.F.type_list_append cqx (pv 3) (aqa (pv 5) aqb)))
      (aqc (aqk (i := 4) bqZ.nd rfl (Or.inl rfl) (dqb (pv 0) g.aqi g.aqA (aqE g) (hr.mono (by decide)) g.aqD .nil pass0 (aqa aqm aqb)))
      (aqd (aqk (i := 5) bqZ.nd rfl (Or.inl rfl) (aqf (dvs := [.non]) (bqO g) (hr.mono (by decide)) rfl g.bq8 g.bqx.kp g.cql (.cons rfl .nil) aqJ (aqa (pv 0) (aqa (aqn (v := eqq) rfl g.eqj ⟨_, rfl⟩) aqb))))))))
      (aqd (aqo (bqe (aqa (pv 2) (aqa (bqL (eqB (K := K) rfl) rfl g.iqr hqC (aqa (pv 3) aqb)) (aqa (pv 4) aqb)))))))))))), ?_⟩
    have eF : eqq = .str ⟨frS.toArray⟩ := by
      show V.str (Str.ofString _) = _
      unfold frS; simp
    have e1 : Str.ofString "/" = ⟨[47].toArray⟩ := by decide +kernel
    rw [eF, e1]
    walk_at "rd"
    refine ⟨fun σ H1 => SameBut p H H1 ∧ ∃ (j : Nat) (r : Bool), σ = [some (.ref p), some (.bl must), some (.bl r), none, none, none] ∧ Cur H1 g.aqs p t j ∧ j ≤ t.length ∧ ((r = true ∧ (t.drop i).head? = some 47 ∧ j = i + 1) ∨ (r = false ∧ ¬ (t.drop i).head? = some 47 ∧ j = i)), ?_, ?_⟩
    · refine aqM hcur ⟨p, t, [47], i, rfl, hcur, hi, hl, fun hp H1 s1 c1 => ⟨s1, i + 1, true, rfl, c1, ?_, .inl ⟨rfl, take1.mp hp, rfl⟩⟩, fun hp => ⟨SameBut.refl _ _, i, false, rfl, hcur, hi, .inr ⟨rfl, fun z => hp (take1.mpr z), rfl⟩⟩⟩
      have := congrArg List.length hp
      rw [List.length_take, List.length_drop] at this
      simp only [List.length_singleton] at this
      omega
    rintro σ H1 ⟨s1, j, r, rfl, c1, hj, hr⟩
    walk_at "rd"
    refine ⟨fun σ H2 => H2 = H1 ∧ ¬ (must = true ∧ r = false) ∧ σ = [some (.ref p), some (.bl must), some (.bl r), none, none, none], ?_, ?_⟩
    · have fin : must = true → r = false → (∀ u H', SameBut p H H' → Cur H' g.aqs p t j → IsT H' (wayOf (true, [], true)) u → Q u H') := fun hm h0 u H' sb cu hu => by
        rcases hr with ⟨z, _⟩ | ⟨_, hh, rfl⟩
        · rw [h0] at z; cases z
        · exact k1 (true, [], true) 0 (by unfold wayM; rw [if_neg hh, if_pos hm]) H' sb cu u hu
      cases must with
      | true =>
        rw [if_pos rfl]
        cases r with
        | true => exact ⟨rfl, by simp, rfl⟩
        | false =>
          rw [if_pos rfl]
          exact ⟨by decide, fun pt Ha n1 sa hpt => ⟨by decide, fun pw Hb nb sb' hpw => fin rfl rfl _ Hb ((s1.trans sa.but).trans sb'.but) ((c1.same sa).same sb') (wayT' (ss := []) hpw (sb' _ _ hpt))⟩⟩
      | false =>
        rw [if_neg (by decide)]
        exact ⟨rfl, by simp, rfl⟩
    rintro σ H2 ⟨rfl, hmr, rfl⟩
    walk_at "rd"
    obtain ⟨tot, htot⟩ : ∃ tot, tot = stpF ((t.drop i).length + 1) (t.drop j) r := ⟨_, rfl⟩
    have ew : wayM must (t.drop i) = sh (j - i) (mp (fun x => (r, x)) tot) := by
      unfold wayM
      rcases hr with ⟨rfl, hh, rfl⟩ | ⟨rfl, hh, rfl⟩
      · rw [if_pos hh, htot, show i + 1 - i = 1 by omega, List.drop_drop]
      · rw [if_neg hh, if_neg (fun z => hmr ⟨z, rfl⟩), htot, Nat.sub_self, sh_0]
    have hij : i ≤ j := by rcases hr with ⟨_, _, rfl⟩ | ⟨_, _, rfl⟩ <;> omega
    have hk1 : ∀ x n, tot = .ok (x, n) → ∀ u H', SameBut p H H' → Cur H' g.aqs p t (j + n) → IsT H' (wayOf (r, x)) u → Q u H' := fun x n e u H' sb cu hu =>
      k1 (r, x) (j - i + n) (by rw [ew, e]; rfl) H' sb (by rw [show i + (j - i + n) = j + n by omega]; exact cu) u hu
    have hk2 : ∀ n, tot = .error n → ∀ d H', SameBut p H H' → H' d = some (.xd [("at", .int ((j + n : Nat) : Int))]) → E (.ref g.aqt) (some d) H' := fun n e d H' sb hx =>
      k2 (j - i + n) (by rw [ew, e]; rfl) d H' sb (by rw [hx, show i + (j - i + n) = j + n by omega])
    refine ⟨by decide, fun q H3 hq s3 hq3 => ?_⟩
    have hqp : q ≠ p := by obtain ⟨dx, hp⟩ := c1; exact (aqr hp hq).symm
    have c3 := c1.same s3
    have sb3 : SameBut p H H3 := s1.trans s3.but
    have hqH : H q = none := s1.free hq hqp
    obtain ⟨W, hW⟩ : ∃ W : Nat → St → Hp → Prop, W = fun m σ H' => ∃ (dn : List (List Nat)) (s : List Nat) (b n : Nat) (en : Bool), σ = [some (.ref p), some (.bl must), some (.bl r), some (.ref q), some (.bl en), some (.str ⟨s.toArray⟩)] ∧ txtM frS (t.drop (j + b)) none = .ok (s, n) ∧ j + b + n ≤ t.length ∧ dn.length ≤ b ∧ (t.drop (j + b)).length ≤ m ∧ Via tot b (fun x => (dn ++ x.1, x.2)) (stpF (m + 1) (t.drop (j + b)) en) ∧ H' q = some (.lst (dn.map sV)) ∧ SameBut p H H' ∧ Cur H' g.aqs p t (j + b + n) := ⟨_, rfl⟩
    have txn : ∀ {b n : Nat} {s : List Nat}, j + b ≤ t.length → txtM frS (t.drop (j + b)) none = .ok (s, n) → j + b + n ≤ t.length := fun {b n s} hb e => by
      have := (dqV e).1
      rw [List.length_drop] at this
      omega
    refine ⟨fun σ H4 => ∃ m, W m σ H4, ?_, ?_⟩
    · refine ⟨p, t, frS, j, none, rfl, c3, hj, hl, h128, lqF, fun s n e H4 s4 c4 => ⟨(t.drop i).length, ?_⟩, fun n e d H4 s4 hx => hk2 n ?_ d H4 (sb3.trans s4) hx⟩
      · rw [hW]
        refine ⟨[], s, 0, n, r, rfl, e, txn hj e, Nat.le_refl _, by simp only [List.length_drop]; omega, ?_, s4 _ _ hqp hq3, sb3.trans s4, c4⟩
        show Via tot 0 (fun x => x) _
        rw [htot]
        exact Via.refl
      · rw [htot]
        unfold stpF
        rw [e]
    rintro σ H4 ⟨m, hm⟩
    unfold L2.Later
    rw [L2.qqB]
    refine lqp W m hm ?_
    rintro m σ H5 hm
    rw [hW] at hm
    obtain ⟨dn, s, b, n, en, rfl, etx, hbn, hdn, hfu, via, hq5, sb5, c5⟩ := hm
    walk_at "rd"
    by_cases hs : s = []
    · refine ite2 (fun z => absurd (gqV.mpr hs) z) (fun _ => ?_)
      have e2 : stpF (m + 1) (t.drop (j + b)) en = .ok (([], en), n) := by
        conv => lhs; unfold stpF
        rw [etx]; exact if_pos hs
      have e3 := via.ok e2
      exact ⟨_, .inl (.of hq5), fun pt Ha sa hpt => ⟨by decide, fun pw Hb nb sb' hpw => hk1 _ _ e3 _ Hb ((sb5.trans sa.but).trans sb'.but) (by rw [← Nat.add_assoc]; exact (c5.same sa).same sb') (by rw [List.append_nil]; exact wayT' hpw (sb' _ _ hpt))⟩⟩
    · have hpos := (dqV etx).2.2 hs
      have hm0 : ∃ m', m = m' + 1 := by
        refine ⟨m - 1, ?_⟩
        rw [List.length_drop] at hfu
        omega
      obtain ⟨m', rfl⟩ := hm0
      refine ite2 (fun _ => ⟨_, fun _ _ h => h, ⟨_, .of hq5⟩, _, hq5, ?_, ?_⟩) (fun z => absurd (gqV.mp (Classical.not_not.mp z)) hs)
      · rw [List.length_map]
        exact Nat.lt_of_le_of_lt (show dn.length ≤ 100000 by omega) (by decide)
      have c6 : Cur (upd H5 q (.lst (dn.map sV ++ [sV s]))) g.aqs p t (j + b + n) := by
        obtain ⟨dx, hp⟩ := c5
        exact ⟨dx, by rw [aqu hqp.symm]; exact hp⟩
      have sb6 : SameBut p H (upd H5 q (.lst (dn.map sV ++ [sV s]))) := sb5.upd hqH
      have hq6 : (upd H5 q (.lst (dn.map sV ++ [sV s]))) q = some (.lst ((dn ++ [s]).map sV)) := by rw [aql, List.map_append]; rfl
      generalize upd H5 q (.lst (dn.map sV ++ [sV s])) = H6 at c6 sb6 hq6 ⊢
      have hdd : (t.drop (j + b)).drop n = t.drop (j + b + n) := List.drop_drop
      refine aqM c6 ⟨p, t, [47], j + b + n, rfl, c6, hbn, hl, fun hp H7 s7 c7 => ?_, fun hp => ?_⟩
      · have hh : ((t.drop (j + b)).drop n).head? = some 47 := by rw [hdd]; exact take1.mp hp
        have e2 : stpF (m' + 1 + 1) (t.drop (j + b)) en = sh (n + 1) (mp (fun x => (s :: x.1, x.2)) (stpF (m' + 1) (t.drop (j + (b + (n + 1)))) true)) := by
          conv => lhs; unfold stpF
          rw [etx]
          show (if s = [] then _ else _) = _
          rw [if_neg hs, if_pos hh, List.drop_drop, Nat.add_assoc j b (n + 1)]
        have via2 := via.step e2
        have hb7 : j + (b + (n + 1)) ≤ t.length := by
          have := congrArg List.length hp
          rw [List.length_take, List.length_drop] at this
          simp only [List.length_singleton] at this
          omega
        refine ⟨p, t, frS, j + (b + (n + 1)), none, rfl, by rw [show j + (b + (n + 1)) = j + b + n + 1 by omega]; exact c7, hb7, hl, h128, lqF, fun s' n' e' H8 s8 c8 => ⟨m', by omega, ?_⟩, fun n' e' d H8 s8 hx => hk2 (b + (n + 1) + n') (via2.err (by unfold stpF; rw [e'])) d H8 ((sb6.trans s7).trans s8) (by rw [hx, show j + (b + (n + 1)) + n' = j + (b + (n + 1) + n') by omega])⟩
        rw [hW]
        refine ⟨dn ++ [s], s', b + (n + 1), n', true, rfl, e', txn hb7 e', by rw [List.length_append, List.length_singleton]; omega, by rw [List.length_drop] at hfu ⊢; omega, ?_, (s7.trans s8) _ _ hqp hq6, (sb6.trans s7).trans s8, c8⟩
        simpa using via2
      · have hh : ¬ ((t.drop (j + b)).drop n).head? = some 47 := by rw [hdd]; exact fun z => hp (take1.mpr z)
        have e2 : stpF (m' + 1 + 1) (t.drop (j + b)) en = sh n (mp (fun x => (s :: x.1, x.2)) (stpF (m' + 1) (t.drop (j + (b + n))) false)) := by
          conv => lhs; unfold stpF
          rw [etx]
          show (if s = [] then _ else _) = _
          rw [if_neg hs, if_neg hh, List.drop_drop, Nat.add_assoc j b n]
        have via2 := via.step e2
        have hb7 : j + (b + n) ≤ t.length := by omega
        refine ⟨p, t, frS, j + (b + n), none, rfl, by rw [← Nat.add_assoc]; exact c6, hb7, hl, h128, lqF, fun s' n' e' H8 s8 c8 => ⟨m', by omega, ?_⟩, fun n' e' d H8 s8 hx => hk2 (b + n + n') (via2.err (by unfold stpF; rw [e'])) d H8 (sb6.trans s8) (by rw [hx, show j + (b + n) + n' = j + (b + n + n') by omega])⟩
        rw [hW]
        refine ⟨dn ++ [s], s', b + n, n', false, rfl, e', txn hb7 e', by rw [List.length_append, List.length_singleton]; omega, by rw [List.length_drop] at hfu ⊢; omega, ?_, s8 _ _ hqp hq6, sb6.trans s8, c8⟩
        simpa using via2
theorem fqV (g : G K mg) : FnOk P w K mg base (CXN P w base) 5 g.dq7 g.dqx ["cursor"] (kqp K g.aqs g.aqt) := by
  refine g.dq6.okn kqG (fun vs H Q E h => ?_) (fun cdv A outer s H vs Q E hr h => ?_)
  · obtain ⟨p, t, i, rfl, _⟩ := h; rfl
  · obtain ⟨p, t, i, rfl, hcur, hi, hl, h128, k1, k2⟩ := h
    refine ⟨_, (aqd (aqo (cqm (bqg (dqb (pv 0) g.aqi g.aqA (aqE g) (hr.mono (by decide)) g.aqD .nil pass0 (aqa aqm aqb))) (aqf (dvs := [.non]) (bqO g) (hr.mono (by decide)) rfl g.bq8 g.bqx.kp g.cql (.cons rfl .nil) aqJ (aqa (pv 0) (aqa (aqn (v := aq6) rfl g.bqD ⟨_, rfl⟩) aqb))) aqN))), ?_⟩
    have eF : aq6 = .str ⟨frQ.toArray⟩ := by
      show V.str (Str.ofString _) = _
      unfold frQ; simp
    have e1 : Str.ofString "=" = ⟨[61].toArray⟩ := by decide +kernel
    rw [eF, e1]
    walk_at "rd"
    refine aqM hcur ⟨p, t, [61], i, rfl, hcur, hi, hl, fun hp H1 s1 c1 => ⟨_, rfl, ?_⟩, fun hp => ⟨_, rfl, ?_⟩⟩
    · rw [if_pos rfl]
      have h1 := take1.mp hp
      have hi1 : i + 1 ≤ t.length := by
        have := congrArg List.length hp
        rw [List.length_take, List.length_drop] at this
        simp only [List.length_singleton] at this
        omega
      have em : valM (t.drop i) = sh 1 (mp some (txtM frQ (t.drop (i + 1)) none)) := by unfold valM; rw [if_pos h1, List.drop_drop]
      refine ⟨p, t, frQ, i + 1, none, rfl, c1, hi1, hl, h128, jq7, fun s n e H2 s2 c2 => k1 (some s) (1 + n) (by rw [em, e]; rfl) H2 (s1.trans s2) (by rw [← Nat.add_assoc]; exact c2), fun n e d H2 s2 hx => k2 (1 + n) (by rw [em, e]; rfl) d H2 (s1.trans s2) (by rw [hx, Nat.add_assoc])⟩
    · rw [if_neg (by decide)]
      exact k1 none 0 (by unfold valM; rw [if_neg (fun z => hp (take1.mpr z))]) H (SameBut.refl _ _) hcur
theorem kqL (g : G K mg) : FnOk P w K mg base (CXN P w base) 5 g.eqY g.eqf ["cursor"] (kqv K g.aqs g.aqt) := by
  refine g.gql.okn lqd (fun vs H Q E h => ?_) (fun cdv A outer s H vs Q E hr h => ?_)
  · obtain ⟨p, t, i, rfl, _⟩ := h; rfl
  · obtain ⟨p, t, i, rfl, hcur, hi, hl, h128, k1, k2⟩ := h
    refine ⟨_, (aqd (aqo (cqm (bqg (dqb (pv 0) g.aqi g.aqA (aqE g) (hr.mono (by decide)) g.aqD .nil pass0 (aqa aqm aqb))) (aqf (dvs := [.non]) (bqO g) (hr.mono (by decide)) rfl g.bq8 g.bqx.kp g.cql (.cons rfl .nil) aqJ (aqa (pv 0) (aqa (aqn (v := gqs) rfl g.fq6 ⟨_, rfl⟩) aqb))) aqN))), ?_⟩
    have eF : gqs = .str ⟨frM.toArray⟩ := by
      show V.str (Str.ofString _) = _
      unfold frM; simp
    have e1 : Str.ofString "#" = ⟨[35].toArray⟩ := by decide +kernel
    rw [eF, e1]
    walk_at "rd"
    refine aqM hcur ⟨p, t, [35], i, rfl, hcur, hi, hl, fun hp H1 s1 c1 => ⟨_, rfl, ?_⟩, fun hp => ⟨_, rfl, ?_⟩⟩
    · rw [if_pos rfl]
      have h1 := take1.mp hp
      have hi1 : i + 1 ≤ t.length := by
        have := congrArg List.length hp
        rw [List.length_take, List.length_drop] at this
        simp only [List.length_singleton] at this
        omega
      have em : marM (t.drop i) = sh 1 (mp some (txtM frM (t.drop (i + 1)) none)) := by unfold marM; rw [if_pos h1, List.drop_drop]
      refine ⟨p, t, frM, i + 1, none, rfl, c1, hi1, hl, h128, pq6, fun s n e H2 s2 c2 => k1 (some s) (1 + n) (by rw [em, e]; rfl) H2 (s1.trans s2) (by rw [← Nat.add_assoc]; exact c2), fun n e d H2 s2 hx => k2 (1 + n) (by rw [em, e]; rfl) d H2 (s1.trans s2) (by rw [hx, Nat.add_assoc])⟩
    · rw [if_neg (by decide)]
      exact k1 none 0 (by unfold marM; rw [if_neg (fun z => hp (take1.mpr z))]) H (SameBut.refl _ _) hcur
theorem dqH (g : G K mg) : FnOk P w K mg base (CXN P w base) 5 g.bqy g.aq2 ["cursor", "free", "most"] (fq5 K g.aqs g.aqt) := by
  refine g.bqE.okn dqY (fun vs H Q E h => ?_) (fun cdv A outer s H vs Q E hr h => ?_)
  · obtain ⟨p, t, fr, i, mo, rfl, _⟩ := h; rfl
  · obtain ⟨p, t, fr, i, mo, rfl, hcur, hi, hl, h128, hfl, k1, k2⟩ := h
    refine ⟨_, (aqc (aqk (i := 3) dqY.nd rfl (Or.inl rfl) (aqf (bqO g) (hr.mono (by decide)) rfl g.bq8 g.bqx.kp g.iqD .nil aqJ (aqa (pv 0) (aqa (pv 1) (aqa (pv 2) aqb)))))
      (aqc (aqW (aqq eqE (pv 3) aqm (nomark _))
        (aqd (eq5 eqh rfl g.bq4 g.cqL (aqI g) (hr.mono (by decide)) g.aqF rfl pass0 rfl (aqa (cqw (pv 0) rfl) aqb))) aqv)
      (aqd (aqo (pv 3))))), ?_⟩
    walk_at "rd"
    refine ⟨p, t, fr, i, mo, rfl, hcur, hi, hl, h128, hfl, fun s n e H1 s1 c1 => ?_, fun n e d H1 s1 hx => k2 n (by unfold filM; rw [e]) d H1 s1 hx⟩
    walk_at "rd"
    by_cases hs : s = []
    · rw [if_pos (gqV.mpr hs)]
      exact aqV c1 g.aqi g.aqp (eqe fun d H' sm hx => k2 n (by unfold filM; rw [e]; exact if_pos hs) d H' (s1.trans sm.but) hx)
    · rw [if_neg (fun z => hs (gqV.mp z))]
      exact k1 s n (by unfold filM; rw [e]; exact if_neg hs) H1 s1 c1
theorem qql (g : G K mg) : FnOk P w K mg base CX0 5 g.oqc g.lqe ["address"] (uqQ K) := by
  refine g.nq3.ok qqY (fun vs H Q E h => ?_) (fun cdv A outer s H vs Q E hr h => ?_)
  · obtain ⟨x, v, rfl, _⟩ := h; rfl
  · obtain ⟨x, v, rfl, hI, wf, sz, k⟩ := h
    refine ⟨_, (aqH (aqk (i := 1) qqY.nd rfl (Or.inl rfl) (cqm (bqg (aqf (nqM g) (hr.mono (by decide)) rfl g.kqX g.iqc.kp g.kqW .nil pass0 (aqa (pv 0) aqb))) (aqj (aqz (K := K) rfl) (aq3 (aqw (K := K) rfl) (pv 0) (aqn (v := lqg) rfl g.jqg ⟨_, rfl⟩) (fun _ _ => rfl)) aqm) aqm))
      (aqd (aqo (aqj (aqz (K := K) rfl) (aqj (aqz (K := K) rfl) (aqj (aqz (K := K) rfl) (aqj (aqz (K := K) rfl) (pv 1) (aqf (kqR g) (hr.mono (by decide)) rfl g.hqA g.fqE.kp g.hqm .nil pass0 (aqa (aq3 (aqw (K := K) rfl) (pv 0) (aqn (v := rqa) rfl g.nqE ⟨_, rfl⟩) (fun _ _ => rfl)) (aqa (aq3 (aqw (K := K) rfl) (pv 0) (aqn (v := sqR) rfl g.qq1 ⟨_, rfl⟩) (fun _ _ => rfl)) aqb)))) (aqf (lq5 g) (hr.mono (by decide)) rfl g.jqR g.gq3.kp g.jqB .nil pass0 (aqa (aq3 (aqw (K := K) rfl) (pv 0) (aqn (v := uqC) rfl g.rq4 ⟨_, rfl⟩) (fun _ _ => rfl)) aqb))) (aqf (iqg g) (hr.mono (by decide)) rfl g.fqO g.dqQ.kp g.fqQ .nil pass0 (aqa (aq3 (aqw (K := K) rfl) (pv 0) (aqn (v := lqc) rfl g.iqo ⟨_, rfl⟩) (fun _ _ => rfl)) aqb))) (aqf (lqL g) (hr.mono (by decide)) rfl g.iqH g.fqT.kp g.iqR .nil pass0 (aqa (aq3 (aqw (K := K) rfl) (pv 0) (aqn (v := vqI) rfl g.sqL ⟨_, rfl⟩) (fun _ _ => rfl)) aqb)))))), ?_⟩
    obtain ⟨p, w, q, rfl, hp, hwk, i4⟩ := qqg hI
    obtain ⟨pw, ps, rfl, hw, hs⟩ := qqE hwk
    have hlen := sz.all
    rw [Ad.shw] at hlen
    simp only [List.length_append] at hlen
    have c1 : Str.ofString ":" = ⟨[58].toArray⟩ := by decide +kernel
    rw [c1]
    walk_at "rd"
    refine ⟨fun σ H' => H' = H ∧ σ = [some (.ref p), some (.str ⟨(schT x.scheme).toArray⟩)], ?_, ?_⟩
    · refine ⟨p, x.scheme, _, rfl, hp, _, rfl, ?_⟩
      by_cases hh : x.scheme = []
      · refine ite2 (fun z => absurd hh (by simpa using z)) (fun _ => ⟨rfl, ?_⟩)
        rw [hh]; rfl
      · refine ite2 (fun _ => ?_) (fun z => absurd hh (by simpa using z))
        have e : schT x.scheme = x.scheme ++ [58] := by simp [schT, hh]
        refine ⟨_, _, .inr hp, rfl, ?_⟩
        rw [show (⟨#[58]⟩ : Str) = ⟨[58].toArray⟩ from rfl]
        walk_at "rd"
        rw [e, List.length_append] at hlen
        refine ⟨aqh (by simp at hlen ⊢; omega), ?_⟩
        rw [e]
    rintro σ H' ⟨rfl, rfl⟩
    walk_at "rd"
    refine ⟨_, _, .inr hp, rfl, _, _, .inr hp, rfl, x.house, x.door, rfl, fun l e => ⟨(wf.hou l e).1.2, (wf.hou l e).2⟩, wf.doo, fun H1 s1 => ?_⟩
    walk_at "rd"
    refine ⟨aqh (by simp; omega), _, _, .inr (s1.tup hp), rfl, x.rooted, x.ends, x.steps, pw, ps, rfl, s1.tup hw, s1.tup hs, fun s h => ⟨sz.stp s h, (wf.stp s h).2⟩, sz.num, by show x.wayT.length ≤ 90000; omega, fun H2 s2 => ?_⟩
    walk_at "rd"
    refine ⟨aqh (by show _ + x.wayT.length ≤ _; simp; omega), _, _, .inr ((s1.trans s2).tup hp), rfl, x.quest, q, rfl, i4.mono (s1.trans s2), fun ps e => ⟨(sz.que ps e).1, fun q hq => ⟨wf.que ps e q hq, (sz.que ps e).2 q hq⟩⟩, by omega, fun H3 s3 => ?_⟩
    walk_at "rd"
    refine ⟨aqh (by show _ + (queT x.quest).length ≤ _; simp [Ad.wayT] at hlen ⊢; omega), _, _, .inr (((s1.trans s2).trans s3).tup hp), rfl, x.mark, rfl, fun l e => ⟨sz.mar l e, wf.mar l e⟩, fun H4 s4 => ?_⟩
    walk_at "rd"
    refine ⟨aqh (by simp [Ad.wayT] at hlen ⊢; omega), ?_⟩
    have := k H4 (((s1.trans s2).trans s3).trans s4)
    rw [Ad.shw] at this
    simpa [Ad.wayT] using this
theorem oqb (g : G K mg) : FnOk P w K mg base CX0 5 g.lqS g.fd_plain ["address"] (rqW K) := by
  refine g.lqZ.ok lqE (fun vs H Q E h => ?_) (fun cdv A outer s H vs Q E hr h => ?_)
  · obtain ⟨x, v, rfl, _⟩ := h; rfl
  · obtain ⟨x, v, rfl, hI, wf, hn, k⟩ := h
    refine ⟨_, (aqc (aqk (i := 1) lqE.nd rfl (Or.inl rfl) (aq3 (aqw (K := K) rfl) (pv 0) (aqn (v := rqa) rfl g.nqE ⟨_, rfl⟩) (fun _ _ => rfl)))
      (aqH (aqk (i := 2) lqE.nd rfl (Or.inl rfl) (cqm (aqq dqR (pv 1) aqN (nomark _)) aqN (nqm (K := K) rfl PySem.F.plainAttrs_str PySem.F.slot_str_lower PySem.F.type_str_lower oqw (pv 1))))
      (aqd (aqo (aqf (iqX g) (hr.mono (by decide)) rfl g.fq4 g.eqy.kp g.gqv .nil pass0 (aqa (aqj (nqi (K := K) rfl) (bqe (aqa (nqm (K := K) rfl PySem.F.plainAttrs_str PySem.F.slot_str_lower PySem.F.type_str_lower oqw (aq3 (aqw (K := K) rfl) (pv 0) (aqn (v := lqg) rfl g.jqg ⟨_, rfl⟩) (fun _ _ => rfl))) (aqa (pv 2) aqb))) (bqB (nqs (K := K) rfl) (pv 0) (bqR (aqn (v := sqR) rfl g.qq1 ⟨_, rfl⟩)) dqN)) aqb)))))), ?_⟩
    obtain ⟨p, w, q, rfl, hp, hw, hq⟩ := qqg hI
    have low : ∀ l : List Nat, (l.map PyProof.Rows.lo1) = lowT l := fun l => rfl
    have hsc : ∀ c ∈ x.scheme, c < 128 := fun c hc => gqw (mqK (wf.sch.2.1 c hc))
    walk_at "rd"
    refine ⟨_, _, .inr hp, rfl, ?_⟩
    refine ⟨fun σ H1 => H1 = H ∧ σ = [some (.ref p), some (otV x.house), some (otV (x.house.map lowT))], ?_, ?_⟩
    · walk_at "rd"
      cases hh : x.house with
      | none => exact ite2 (fun _ => rfl) (fun z => absurd rfl z)
      | some l =>
        refine ite2 (fun z => absurd z (by simp [otV])) (fun _ => ?_)
        have hl := wf.hou l hh
        refine ⟨rfl, ?_⟩
        show rLower (.str ⟨l.toArray⟩) [] H _
        walk_at "rd"
        refine ⟨fun c hc => gqw (hl.2 c hc), by omega, ?_⟩
        rw [low]
        rfl
    rintro σ H1 ⟨rfl, rfl⟩
    walk_at "rd"
    refine ⟨_, _, .inr hp, rfl, ?_⟩
    walk_at "rd"
    rw [low]
    refine ⟨hsc, by have := wf.sch.1; omega, by decide, fun p2 H2 hn2 s2 hp2 => ⟨_, s2.tup hp, fun p3 H3 s3 hp3 => ⟨_, _, .of (s3 _ _ hp2), hp3, (show 6 ≤ sizeLine by decide), fun p4 H4 s4 hp4 => ?_⟩⟩⟩
    have sm := (s2.trans s3).trans s4
    refine ⟨{ x with scheme := lowT x.scheme, house := x.house.map lowT }, _, rfl, adK (x := { x with scheme := lowT x.scheme, house := x.house.map lowT }) hp4 (hw.mono sm) (hq.mono sm), hn, fun u H5 s5 hu => k u H5 (sm.trans s5) hu⟩
theorem jqk (g : G K mg) : FnOk P w K mg base (CXN P w base) 6 g.eqa g.dqs ["cursor"] (jqv K g.aqs g.aqt) := by
  refine g.fqq.okn kqO (fun vs H Q E h => ?_) (fun cdv A outer s H vs Q E hr h => ?_)
  · obtain ⟨p, t, i, rfl, _⟩ := h; rfl
  · obtain ⟨p, t, i, rfl, hcur, hi, hl, h128, k1, k2⟩ := h
    refine ⟨_, (aqc (aqW (eq6 (bqg (dqb (pv 0) g.aqi g.aqA (aqE g) (hr.mono (by decide)) g.aqD .nil pass0 (aqa aqm aqb))))
        (aqd (aqo aqN)) aqv)
      (aqd (aqo (aqf (dqH g) (hr.mono (by decide)) rfl g.cqI g.bqE.kp g.eqD .nil aqJ (aqa (pv 0) (aqa aqm (aqa (aqn (v := jqS) rfl g.gqq ⟨_, rfl⟩) aqb))))))), ?_⟩
    have e1 : Str.ofString "//" = ⟨[47, 47].toArray⟩ := by decide +kernel
    rw [e1]
    walk_at "rd"
    refine aqM hcur ⟨p, t, [47, 47], i, rfl, hcur, hi, hl, fun hp H1 s1 c1 => ⟨_, rfl, ?_⟩, fun hp => ⟨_, rfl, ?_⟩⟩
    · rw [if_neg (by decide)]
      have h1 : (t.drop i).take 2 = [47, 47] := hp
      have hi1 : i + 2 ≤ t.length := by
        have := congrArg List.length h1
        rw [List.length_take, List.length_drop] at this
        simp only [List.length_cons, List.length_nil] at this
        omega
      have em : houM (t.drop i) = sh 2 (mp some (filM [] (t.drop (i + 2)) (some 60))) := by unfold houM; rw [if_pos h1, List.drop_drop]
      refine ⟨p, t, [], i + 2, some 60, rfl, c1, hi1, hl, h128, by decide, fun s n e H2 s2 c2 => k1 (some s) (2 + n) (by rw [em, e]; rfl) H2 (s1.trans s2) (by rw [← Nat.add_assoc]; exact c2), fun n e d H2 s2 hx => k2 (2 + n) (by rw [em, e]; rfl) d H2 (s1.trans s2) (by rw [hx, Nat.add_assoc])⟩
    · rw [if_pos rfl]
      exact k1 none 0 (by unfold houM; exact if_neg hp) H (SameBut.refl _ _) hcur
theorem hqD (g : G K mg) : FnOk P w K mg base (CXN P w base) 6 g.cqC g.cqk ["cursor"] (hqj K g.aqs g.aqt) := by
  refine g.dqL.okn cqn (fun vs H Q E h => ?_) (fun cdv A outer s H vs Q E hr h => ?_)
  · obtain ⟨p, t, i, rfl, _⟩ := h; rfl
  · obtain ⟨p, t, i, rfl, hcur, hi, hl, h128, k1, k2⟩ := h
    refine ⟨_, (aqc (aqW (eq6 (bqg (dqb (pv 0) g.aqi g.aqA (aqE g) (hr.mono (by decide)) g.aqD .nil pass0 (aqa aqm aqb))))
        (aqd (aqo aqN)) aqv)
      (aqc (aqk (i := 1) cqn.nd rfl (Or.inl rfl) (aqf (dvs := [.non]) (bqO g) (hr.mono (by decide)) rfl g.bq8 g.bqx.kp g.cql (.cons rfl .nil) aqJ (aqa (pv 0) (aqa (aqn (v := aq6) rfl g.bqD ⟨_, rfl⟩) aqb))))
      (aqH (aqW (aqq eqE (pv 1) aqm (nomark _))
        (aqd (aqo (bqe aqb))) aqv)
      (aqH (aqk (i := 2) cqn.nd rfl (Or.inl rfl) (dqU (aqa (bqe (aqa (pv 1) (aqa (aqf (fqV g) (hr.mono (by decide)) rfl g.fqj g.dq6.kp g.fqJ .nil aqJ (aqa (pv 0) aqb)) aqb))) aqb)))
      (aqc (jqb PassesOwn.leaving (bqg (dqb (pv 0) g.aqi g.aqA (aqE g) (hr.mono (by decide)) g.aqD .nil pass0 (aqa aqm aqb)))
      (aqc (aqk (i := 1) cqn.nd rfl (Or.inl rfl) (aqf (dvs := [.non]) (dqH g) (hr.mono (by decide)) rfl g.cqI g.bqE.kp g.dqX (.cons rfl .nil) aqJ (aqa (pv 0) (aqa (aqn (v := aq6) rfl g.bqD ⟨_, rfl⟩) aqb))))
      (aqd (dqP (dqf (K := K) rfl PySem.F.plainAttrs_list PySem.F.slot_list_append PySem.F.type_list_append cqx (pv 2) (aqa (bqe (aqa (pv 1) (aqa (aqf (fqV g) (hr.mono (by decide)) rfl g.fqj g.dq6.kp g.fqJ .nil aqJ (aqa (pv 0) aqb)) aqb))) aqb))))))
      (aqd (aqo (bqL (eqB (K := K) rfl) rfl g.iqr hqC (aqa (pv 2) aqb))))))))), ?_⟩
    have eF : aq6 = .str ⟨frQ.toArray⟩ := by
      show V.str (Str.ofString _) = _
      unfold frQ; simp
    have e1 : Str.ofString "?" = ⟨[63].toArray⟩ := by decide +kernel
    have e2 : Str.ofString "&" = ⟨[38].toArray⟩ := by decide +kernel
    rw [eF, e1, e2]
    have pl : ∀ {j c : Nat}, (t.drop j).take [c].length = [c] → j + 1 ≤ t.length := fun {j c} hp => by
      have := congrArg List.length hp
      rw [List.length_take, List.length_drop] at this
      simp only [List.length_singleton] at this
      omega
    have tl : ∀ {j n : Nat} {s fr : List Nat}, j ≤ t.length → txtM fr (t.drop j) none = .ok (s, n) → j + n ≤ t.length := fun {j n s fr} hb e => by
      have := (dqV e).1
      rw [List.length_drop] at this
      omega
    have vl : ∀ {j n : Nat} {o : Option (List Nat)}, j ≤ t.length → valM (t.drop j) = .ok (o, n) → j + n ≤ t.length := fun {j n o} hb e => by
      have := sqI e
      rw [List.length_drop] at this
      omega
    walk_at "rd"
    refine aqM hcur ⟨p, t, [63], i, rfl, hcur, hi, hl, fun hp H1 s1 c1 => ⟨_, rfl, ?_⟩, fun hp => ⟨_, rfl, ?_⟩⟩
    · rw [if_neg (by decide)]
      have hi1 := pl hp
      have em : queM (t.drop i) = sh 1 (bdR (txtM frQ (t.drop (i + 1)) none) fun s n => if s = [] then .ok (some [], 0) else bdR (valM (t.drop (i + (1 + n)))) fun v m => mp (fun l => some ((s, v) :: l)) (prsF ((t.drop i).length + 1) (t.drop (i + (1 + n + m))))) := by
        unfold queM
        rw [if_pos (take1.mp hp)]
        simp only [List.drop_drop]
      refine ⟨p, t, frQ, i + 1, none, rfl, c1, hi1, hl, h128, jq7, fun s n e H2 s2 c2 => ?_, fun n e d H2 s2 hx => k2 (1 + n) (by rw [em, e]; rfl) d H2 (s1.trans s2) (by rw [hx, Nat.add_assoc])⟩
      have s12 := s1.trans s2
      have hi2 := tl hi1 e
      by_cases hs : s = []
      · refine ⟨fun _ _ => False, ?_, fun _ _ z => z.elim⟩
        rw [L2.jql, decide_eq_true (gqV.mpr hs)]
        refine ⟨_, rfl, ?_⟩
        rw [if_pos rfl]
        refine ⟨by decide, fun pt Ha n1 sa hp1 => k1 (some []) (1 + n) ?_ Ha (s12.trans sa.but) (by rw [← Nat.add_assoc]; exact c2.same sa) _ (.tup hp1 .nil)⟩
        rw [em, e]
        show sh 1 (sh n (if s = [] then _ else _)) = _
        rw [if_pos hs]
        rfl
      refine ⟨fun σ H' => H' = H2 ∧ σ = [some (.ref p), some (.str ⟨s.toArray⟩), none], ?_, ?_⟩
      · rw [L2.jql]
        refine ⟨_, rfl, ?_⟩
        rw [if_neg (by rw [decide_eq_false (fun z => hs (gqV.mp z))]; decide)]
        exact ⟨rfl, rfl⟩
      rintro σ H' ⟨rfl, rfl⟩
      have em2 : queM (t.drop i) = sh (1 + n) (bdR (valM (t.drop (i + (1 + n)))) fun v m => mp (fun l => some ((s, v) :: l)) (prsF ((t.drop i).length + 1) (t.drop (i + (1 + n + m))))) := by
        rw [em, e]
        show sh 1 (sh n (if s = [] then _ else _)) = _
        rw [if_neg hs, pqo]
      walk_at "rd"
      obtain ⟨W, hW⟩ : ∃ W : Nat → St → Hp → Prop, W = fun m σ H4 => ∃ (dn : List (List Nat × Option (List Nat))) (b : Nat) (q : Addr) (v1 : Option V) (vs : List V), σ = [some (.ref p), v1, some (.ref q)] ∧ Cur H4 g.aqs p t (i + b) ∧ i + b ≤ t.length ∧ dn.length ≤ b ∧ (t.drop (i + b)).length < m ∧ Via (queM (t.drop i)) b (fun l => some (dn ++ l)) (prsF m (t.drop (i + b))) ∧ H4 q = some (.lst vs) ∧ PrL H4 vs dn ∧ SameBut p H H4 ∧ H q = none ∧ q ≠ p := ⟨_, rfl⟩
      refine ⟨fun σ H4 => ∃ m, W m σ H4, ?_, ?_⟩
      · refine ⟨p, t, i + 1 + n, rfl, c2, hi2, hl, h128, fun o m e' H3 s3 c3 => ⟨by decide, fun p1 Ha n1 sa hp1 => ⟨by decide, fun q Hb nq sb hq => ⟨(t.drop i).length + 1, ?_⟩⟩⟩, fun m e' d H3 s3 hx => k2 (1 + n + m) (by rw [em2, ← Nat.add_assoc, e']; rfl) d H3 (s12.trans s3) (by rw [hx, show i + 1 + n + m = i + (1 + n + m) by omega])⟩
        rw [hW]
        have hi3 := vl hi2 e'
        have hqp : q ≠ p := by obtain ⟨dx, hp⟩ := c3.same sa; exact (aqr hp nq).symm
        have sbA : SameBut p H Ha := (s12.trans s3).trans sa.but
        have hk := (dqV e).2.2 hs
        refine ⟨[(s, o)], 1 + n + m, q, _, _, rfl, by rw [show i + (1 + n + m) = i + 1 + n + m by omega]; exact (c3.same sa).same sb, by omega, by show 1 ≤ _; omega, by simp only [List.length_drop]; omega, ?_, hq, ⟨rfl, fun i' a' y z1 z2 => ?_⟩, sbA.trans sb.but, sbA.free nq hqp, hqp⟩
        · show _ = sh _ (mp _ _)
          rw [em2, ← Nat.add_assoc, e']
          show sh (1 + n) (sh m (mp _ _)) = _
          rw [pqo]
          rfl
        · cases i' with
          | zero =>
            cases z1
            cases z2
            exact .tup (sb _ _ hp1) (.cons (.str _) (.cons (mql _) .nil))
          | succ j => cases z1
      rintro σ H4 ⟨m, hm⟩
      unfold L2.Later
      rw [L2.qqB]
      refine lqp W m hm ?_
      rintro m σ H5 hm
      rw [hW] at hm
      obtain ⟨dn, b, q, v1, vs, rfl, c5, hj5, hdn, hfu, via, hq5, hpl, sb5, hqH, hqp⟩ := hm
      have hdl : dn.length ≤ 100000 := by omega
      obtain ⟨m', rfl⟩ : ∃ m', m = m' + 1 := ⟨m - 1, by omega⟩
      walk_at "rd"
      refine aqM c5 ⟨p, t, [38], i + b, rfl, c5, hj5, hl, fun hp H6 s6 c6 => ⟨_, rfl, ?_⟩, fun hp => ⟨_, rfl, ?_⟩⟩
      · rw [if_pos rfl]
        have hi6 := pl hp
        have ep : prsF (m' + 1) (t.drop (i + b)) = sh 1 (bdR (filM frQ (t.drop (i + b + 1)) none) fun s n => bdR (valM (t.drop (i + b + (1 + n)))) fun v m => mp (fun l => (s, v) :: l) (prsF m' (t.drop (i + b + (1 + n + m))))) := by
          conv => lhs; unfold prsF
          rw [if_pos (take1.mp hp)]
          simp only [List.drop_drop]
        refine ⟨_, fun _ _ h => h, p, t, frQ, i + b + 1, none, rfl, c6, hi6, hl, h128, jq7, fun s2 n2 e6 H7 s7 c7 => ⟨⟨_, .of ((s6.trans s7) _ _ hqp hq5)⟩, ?_⟩, fun n2 e6 d H7 s7 hx => k2 (b + (1 + n2)) (via.err (by rw [ep, e6]; rfl)) d H7 ((sb5.trans s6).trans s7) (by rw [hx, show i + b + 1 + n2 = i + (b + (1 + n2)) by omega])⟩
        have hi7 := tl hi6 (kqm e6).1
        have hk2 := (dqV (kqm e6).1).2.2 (kqm e6).2
        refine ⟨p, t, i + b + 1 + n2, rfl, c7, hi7, hl, h128, fun o2 k3 e7 H8 s8 c8 => ⟨by decide, fun p1 Ha n1 sa hp1 => ⟨vs, sa _ _ (((s6.trans s7).trans s8) _ _ hqp hq5), ?_, m', Nat.lt_succ_self _, ?_⟩⟩, fun k3 e7 d H8 s8 hx => k2 (b + (1 + (n2 + k3))) (via.err ?_) d H8 (((sb5.trans s6).trans s7).trans s8) (by rw [hx, show i + b + 1 + n2 + k3 = i + (b + (1 + (n2 + k3))) by omega])⟩
        · rw [hpl.1]
          exact Nat.lt_of_le_of_lt hdl (by decide)
        · rw [hW]
          have hi8 := vl hi7 e7
          have hqa : Ha q = some (.lst vs) := sa _ _ (((s6.trans s7).trans s8) _ _ hqp hq5)
          refine ⟨dn ++ [(s2, o2)], b + (1 + n2 + k3), q, _, _, rfl, ?_, by omega, by rw [List.length_append, List.length_singleton]; omega, by rw [List.length_drop] at hfu ⊢; omega, ?_, aql, ?_, ?_, hqH, hqp⟩
          · obtain ⟨dx, hp⟩ := c8.same sa
            exact ⟨dx, by rw [aqu hqp.symm, show i + (b + (1 + n2 + k3)) = i + b + 1 + n2 + k3 by omega]; exact hp⟩
          · have := via.step (a := 1 + n2 + k3) (g := fun l => (s2, o2) :: l) (r' := prsF m' (t.drop (i + b + (1 + n2 + k3)))) (by
              rw [ep, e6]
              show sh 1 (sh n2 (bdR _ _)) = _
              rw [show i + b + (1 + n2) = i + b + 1 + n2 by omega, e7]
              show sh 1 (sh n2 (sh k3 _)) = _
              rw [pqo, pqo])
            rw [Nat.add_assoc i b] at this
            simpa using this
          · refine PrL.mono (PrL.snoc ((((hpl.mono (c5.toT s6)).mono (c6.toT s7)).mono (c7.toT s8)).mono sa.toT) ?_) (jq8 hqa)
            exact .tup hp1 (.cons (.str _) (.cons (mql _) .nil))
          · exact ((((sb5.trans s6).trans s7).trans s8).trans sa.but).upd hqH
        · rw [ep, e6]
          show sh 1 (sh n2 (bdR _ _)) = _
          rw [show i + b + (1 + n2) = i + b + 1 + n2 by omega, e7]
          rfl
      · rw [if_neg (by decide)]
        have ep : prsF (m' + 1) (t.drop (i + b)) = .ok ([], 0) := by
          unfold prsF
          rw [if_neg (fun z => hp (take1.mpr z))]
        have e3 := via.ok ep
        rw [List.append_nil] at e3
        refine ⟨vs, .inl (.of hq5), fun l Ha sa hla => k1 (some dn) b e3 Ha (sb5.trans sa.but) (c5.same sa) _ ?_⟩
        exact .tup hla (lqb (g := pD) hpl.1 fun i' a' y z1 z2 => (hpl.2 i' a' y z1 z2).mono sa.toT)
    · rw [if_pos rfl]
      exact k1 none 0 (by unfold queM; rw [if_neg (fun z => hp (take1.mpr z))]) H (SameBut.refl _ _) hcur _ .non
theorem lqm (g : G K mg) : FnOk P w K mg base (CXN P w base) 7 g.oqm g.lqA ["text"] (oqn K g.aqt) := by
  refine g.mqA.okn gqa (fun vs H Q E h => ?_) (fun cdv A outer s H vs Q E hr h => ?_)
  · obtain ⟨v, rfl, _⟩ := h; rfl
  · obtain ⟨v, rfl, h⟩ := h
    refine ⟨_, (aqc (aqW (eq6 (bqg (aqY oqi rfl g.cqT bq5 (aqa (pv 0) (aqa (nqq (v := .ty "str") rfl g.pqt oqh rfl) aqb)))))
        (aqd (eq5 eqh rfl g.bq4 g.cqL (aqI g) (hr.mono (by decide)) g.aqF rfl pass0 rfl (aqa aqe aqb))) aqv)
      (aqc (aqk (i := 1) gqa.nd rfl (Or.inl rfl) (tqM g.nqU (hqG g) (hr.mono (by decide)) rfl g.nqZ g.fqh .nil pass0 (aqa (pv 0) aqb)))
      (aqc (aqk (i := 2) gqa.nd rfl (Or.inl rfl) (aqf (kqf g) (hr.mono (by decide)) rfl g.gqN g.eq2.kp g.gqW .nil pass0 (aqa (pv 1) aqb)))
      (aqc (aqk (i := 3) gqa.nd rfl (Or.inl rfl) (aqf (jqk g) (hr.mono (by decide)) rfl g.hqW g.fqq.kp g.hqX .nil aqJ (aqa (pv 1) aqb)))
      (aqH (aqk (i := 4) gqa.nd rfl (Or.inl rfl) (cqm (aqq dqR (pv 3) aqN (nomark _)) aqN (aqf (kqK g) (hr.mono (by decide)) rfl g.iqQ g.fqZ.kp g.iqu .nil aqJ (aqa (pv 1) aqb))))
      (aqH (aqk (i := 5) gqa.nd rfl (Or.inl rfl) (aqf (lqt g) (hr.mono (by decide)) rfl g.jq2 g.gq7.kp g.jqu .nil aqJ (aqa (pv 1) (aqa (rqb (bq3 lqz (pv 2) aqm (nomark _)) (hqZ (bq3 fqu (pv 3) aqN (nomark _)))) aqb))))
      (aqc (aqk (i := 6) gqa.nd rfl (Or.inl rfl) (aqf (hqD g) (hr.mono (by decide)) rfl g.fqL g.dqL.kp g.fqN .nil aqJ (aqa (pv 1) aqb)))
      (aqc (aqk (i := 7) gqa.nd rfl (Or.inl rfl) (aqf (kqL g) (hr.mono (by decide)) rfl g.iqy g.gql.kp g.iqw .nil aqJ (aqa (pv 1) aqb)))
      (aqc (aqW (eq6 (bqg (fqz (pv 1) g.aqi g.dqO (fqK g) (hr.mono (by decide)) g.eqx .nil pass0)))
        (aqd (eq5 eqh rfl g.bq4 g.cqL (aqI g) (hr.mono (by decide)) g.aqF rfl pass0 rfl (aqa (cqw (pv 1) rfl) aqb))) aqv)
      (aqd (aqo (bqe (aqa (pv 2) (aqa (pv 3) (aqa (pv 4) (aqa (pv 5) (aqa (pv 6) (aqa (pv 7) aqb)))))))))))))))))), ?_⟩
    walk_at "rd"
    rcases h with ⟨ty, hty, hkit, kE⟩ | ⟨t, rfl, hl, h128, k1, k2⟩
    · refine ⟨_, _, _, _, rfl, hty, hkit, ?_⟩
      refine ⟨_, rfl, ?_⟩
      rw [if_pos rfl]
      exact eqe fun d H' sm hx => kE d H' sm hx
    refine ⟨_, _, _, _, rfl, .str _, gqZ K "str" (by decide) "str" (by decide), ?_⟩
    refine ⟨_, rfl, ?_⟩
    rw [if_neg (by decide)]
    intro p dx hp hdx hne
    have sb0 : SameBut p H (upd (upd H dx (.own p)) p (.ins g.aqs dx [])) := fun b o n e => by
      rw [aqu n, aqu (aqr e hdx)]
      exact e
    refine ⟨p, dx, t, rfl, aql, fun H1 s1 c1 => ⟨rfl, ?_⟩⟩
    have sb1 := sb0.trans s1
    have hl' : t.length ≤ 100000 := by omega
    refine ⟨p, t, rfl, c1, hl, fun H2 s2 c2 => ?_⟩
    have sb2 := sb1.trans s2
    refine ⟨p, t, schP t, rfl, c2, pq1 t, hl', h128, fun h n1 e1 H3 s3 c3 => ?_, fun n e d H3 s3 hx => k2 _ (uq5 e) d H3 ((sb2.trans s3).same hp) hx⟩
    have sb3 := sb2.trans s3
    have hi3 : schP t + n1 ≤ t.length := by have := sqv e1; have := pq1 t; rw [List.length_drop] at *; omega
    refine ⟨fun σ H4 => SameBut p H H4 ∧ ∃ d n2, dorM h (t.drop (schP t + n1)) = .ok (d, n2) ∧ Cur H4 g.aqs p t (schP t + n1 + n2) ∧ σ = [some (.str ⟨t.toArray⟩), some (.ref p), some (.str ⟨(schM t).toArray⟩), some (otV h), some (itV d), none, none, none], ?_, ?_⟩
    · cases hho : h with
      | none =>
        rw [if_pos (show otV none = V.non from rfl)]
        exact ⟨sb3, none, 0, by unfold dorM; rw [if_pos rfl], c3, rfl⟩
      | some l =>
        rw [if_neg (by simp [otV])]
        have ed : dorM (some l) (t.drop (schP t + n1)) = dooM (t.drop (schP t + n1)) := by unfold dorM; rw [if_neg (by simp)]
        rw [hho] at e1
        exact ⟨p, t, schP t + n1, rfl, c3, hi3, hl', h128, fun d n2 e2 H4 s4 c4 => ⟨sb3.trans s4, d, n2, ed.trans e2, c4, rfl⟩, fun n e d H4 s4 hx => k2 _ (wqm e1 (ed.trans e)) d H4 ((sb3.trans s4).same hp) hx⟩
    rintro σ H4 ⟨sb4, d, n2, e2, c4, rfl⟩
    have hi4 : schP t + n1 + n2 ≤ t.length := by have := (sqq e2).1; rw [List.length_drop] at this; omega
    walk_at "rd"
    obtain ⟨must, hmust⟩ : ∃ b : Bool, b = decide (schM t ≠ [] ∨ h ≠ none) := ⟨_, rfl⟩
    have hway : ∀ (b : Bool) (Q' : VK), b = must → (∀ w n3, wayM must (t.drop (schP t + n1 + n2)) = .ok (w, n3) → ∀ u H5, SameBut p H H5 → Cur H5 g.aqs p t (schP t + n1 + n2 + n3) → IsT H5 (wayOf w) u → Q' u H5) → hqE K g.aqs g.aqt [V.ref p, V.bl b] H4 Q' E := fun b Q' hb hk =>
      ⟨p, t, schP t + n1 + n2, must, by rw [hb], c4, hi4, hl', h128, fun w n3 e3 H5 s5 c5 u hu => hk w n3 e3 u H5 (sb4.trans s5) c5 hu, fun n e d H5 s5 hx => k2 _ (wqd e1 e2 (by rw [← hmust]; exact e)) d H5 ((sb4.trans s5).same hp) hx⟩
    refine ⟨fun σ H5 => ∃ w n3 u, wayM must (t.drop (schP t + n1 + n2)) = .ok (w, n3) ∧ SameBut p H H5 ∧ Cur H5 g.aqs p t (schP t + n1 + n2 + n3) ∧ IsT H5 (wayOf w) u ∧ σ = [some (.str ⟨t.toArray⟩), some (.ref p), some (.str ⟨(schM t).toArray⟩), some (otV h), some (itV d), some u, none, none], ?_, ?_⟩
    · refine ite2 (fun z => ?_) (fun z => ?_)
      · have hm : must = true := by rw [hmust]; exact decide_eq_true (.inl fun e => z (by rw [e]))
        exact hway true _ hm.symm (fun w n3 e3 u H5 sb c hu => ⟨w, n3, u, e3, sb, c, hu, rfl⟩)
      · have hs : schM t = [] := gqV.mp (Classical.not_not.mp z)
        have hm : must = !decide (otV h = V.non) := by
          rw [hmust]
          cases h with
          | none => simp [hs, otV]
          | some l => simp [otV]
        exact hway _ _ hm.symm (fun w n3 e3 u H5 sb c hu => ⟨w, n3, u, e3, sb, c, hu, rfl⟩)
    rintro σ H5 ⟨w, n3, u, e3, sb5, c5, hu, rfl⟩
    have e3' := e3
    rw [hmust] at e3'
    have hi5 : schP t + n1 + n2 + n3 ≤ t.length := by have := (pqm e3).1; rw [List.length_drop] at this; omega
    walk_at "rd"
    refine ⟨p, t, schP t + n1 + n2 + n3, rfl, c5, hi5, hl', h128, fun q n4 e4 H6 s6 c6 uq huq => ?_, fun n e d H6 s6 hx => k2 _ (vqT e1 e2 e3' e) d H6 ((sb5.trans s6).same hp) hx⟩
    have hi6 : schP t + n1 + n2 + n3 + n4 ≤ t.length := by have := (pqT e4).1; rw [List.length_drop] at this; omega
    refine ⟨p, t, schP t + n1 + n2 + n3 + n4, rfl, c6, hi6, hl', h128, fun m n5 e5 H7 s7 c7 => ?_, fun n e d H7 s7 hx => k2 _ (wqr e1 e2 e3' e4 e) d H7 (((sb5.trans s6).trans s7).same hp) hx⟩
    have er := sqE e1 e2 e3' e4 e5
    have sb7 := (sb5.trans s6).trans s7
    refine aqM c7 ⟨p, t, _, rfl, c7, hl', _, rfl, ?_⟩
    by_cases hend : schP t + n1 + n2 + n3 + n4 + n5 = t.length
    · rw [decide_eq_true hend, if_neg (by decide)]
      rw [if_pos hend] at er
      refine ⟨by decide, fun pr H8 _ s8 h8 => k1 _ er _ H8 ((sb7.same hp).trans s8) ?_⟩
      exact adT h8 ((((hu.mono (c5.toT s6)).mono (c6.toT s7))).mono s8.toT) ((huq.mono (c6.toT s7)).mono s8.toT)
    · rw [decide_eq_false hend, if_pos rfl]
      rw [if_neg hend] at er
      exact aqV c7 g.aqi g.aqp (eqe fun d H' sm hx => k2 _ er d H' ((sb7.trans sm.but).same hp) hx)
theorem dqr (g : G K mg) : FnOk P w K mg base (CXN P w base) 8 g.eqJ g.eqb ["text"] (kqJ K g.aqt) := by
  refine g.cqU.okn lqR (fun vs H Q E h => ?_) (fun cdv A outer s H vs Q E hr h => ?_)
  · obtain ⟨v, rfl, _⟩ := h; rfl
  · obtain ⟨v, rfl, h⟩ := h
    refine ⟨_, (aqd (aqo (aqf (qql g) (hr.mono (by decide)) rfl g.pqS g.nq3.kp g.pqF .nil pass0 (aqa (aqf (oqb g) (hr.mono (by decide)) rfl g.nqp g.lqZ.kp g.nqn .nil pass0 (aqa (aqf (lqm g) (hr.mono (by decide)) rfl g.oqk g.mqA.kp g.nqT .nil aqJ (aqa (pv 0) aqb)) aqb)) aqb)))), ?_⟩
    walk_at "rd"
    refine nqH ?_
    rcases h with ⟨k, hb, hE⟩ | ⟨x, hg, hQ⟩
    · exact .inl ⟨k, hb, hE⟩
    · refine .inr ⟨x, hg, fun u H1 s1 hu => ?_⟩
      obtain ⟨t, rfl, hl, h128, he⟩ := hg
      obtain ⟨l1, l2, l3⟩ := oqC he hl
      have wf := qqf he
      exact ⟨x, u, rfl, hu.k, wf, by omega, fun u2 H2 s2 hu2 => ⟨plainM x, u2, rfl, hu2, hqV wf, l3.sz (hqV wf), fun H3 s3 => hQ H3 ((s1.trans s2).trans s3)⟩⟩
theorem fqm (g : G K mg) : FnOk P w K mg base CX0 9 g.eq0 g.dq5 ["_law_thing", "_law_plainly"] (lqU K) := by
  refine g.dqJ.ok cqp (fun vs H Q E h => ?_) (fun cdv A outer s H vs Q E hr h => ?_)
  · obtain ⟨v, b, rfl, _⟩ := h; rfl
  · obtain ⟨v, b, rfl, h⟩ := h
    refine ⟨_, (aqc (aqk (i := 2) cqp.nd rfl (Or.inl rfl) aqN)
      (aqc (tql (i := 3) (vqw (bqg (pv 1)) (nqY (dqr g) (hr.mono (by decide)) rfl g.dqK g.cqU.kp g.dqG (aqa (pv 0) aqb) (fun _ _ h => h)) (nqY (lqm g) (hr.mono (by decide)) rfl g.oqk g.mqA.kp g.nqT (aqa (pv 0) aqb) (fun _ _ h => h)) (fun _ _ h => h)) rfl rfl rfl g.kqS g.kq2 cqp.nd rfl rfl (fun _ => (aqc (aqk (i := 2) cqp.nd rfl (Or.inl rfl) aqm)
      (aqc (aqW (PW.pt (hqt (bqg (aqY (jq9 (K := K) rfl) rfl g.cqT bq5 (aqa (pv 3) (aqa (aqn (v := .ref g.aqt) rfl g.bq4 rfl) aqb)))) (gqk (bqg (aqY (jq9 (K := K) rfl) rfl g.cqT bq5 (aqa (pv 3) (aqa (nqq (v := .ty "ValueError") rfl g.iqE lqG rfl) aqb)))))))
        (aqd (aqk (i := 2) cqp.nd rfl (Or.inl rfl) (sqf (K := K) rfl (pv 3) rfl))) aqv)
      (aqd (aqW (bqg (aqY (jq9 (K := K) rfl) rfl g.cqT bq5 (aqa (pv 3) (aqa (bqe (aqa (aqn (v := .ref g.gqD) rfl g.oqG rfl) (aqa (aqn (v := .ref g.gqz) rfl g.nqV rfl) (aqa (aqn (v := .ref g.dqj) rfl g.jq3 rfl) (aqa (aqn (v := .ref g.hq7) rfl g.qqm rfl) (aqa (aqn (v := .ref g.fqb) rfl g.mqZ rfl) aqb)))))) aqb))))
        (aqd (aqk (i := 2) cqp.nd rfl (Or.inl rfl) aqm)) aqv))))))
      (aqd (aqo (pv 2))))), ?_⟩
    walk_at "rd"
    cases b with
    | true =>
      rw [if_pos rfl]
      refine ⟨v, rfl, ?_⟩
      rcases h with ⟨n, hb, hQ⟩ | ⟨x, hg, hQ⟩
      · refine .inl ⟨n, hb, fun d H1 s1 hx => ⟨_, rfl, g.cqt, fun a ha => ?_⟩⟩
        refine ⟨_, _, _, aql, g.cqO, .cls g.bqV, ?_⟩
        rw [if_pos rfl]
        refine ⟨_, _, _, aql, g.cqO, .ty g.bqQ, ?_⟩
        rw [if_pos rfl]
        refine ⟨a, _, d, _, _, rfl, aql, (by rw [aqu (aqr hx ha)]; exact hx), g.eqm, (by rw [List.lookup_cons, beq_self_eq_true]), by decide, fun p H2 hn s2 hp => ?_⟩
        refine ⟨_, _, false, s2 _ _ aql, g.cqO, .tup (cs := [g.gqD, g.gqz, g.dqj, g.hq7, g.fqb]) hp g.aqx, ?_⟩
        rw [if_neg (by decide)]
        exact hQ H2 ((s1.trans (bqS ha)).trans s2)
      · exact .inr ⟨x, hg, fun H1 s1 => hQ H1 s1⟩
    | false =>
      rw [if_neg (by decide)]
      refine nqH ?_
      rcases h with ⟨n, hb, hQ⟩ | ⟨x, hg, hQ⟩
      · refine .inl ⟨n, hb, fun d H1 s1 hx => ⟨_, rfl, g.cqt, fun a ha => ?_⟩⟩
        refine ⟨_, _, _, aql, g.cqO, .cls g.bqV, ?_⟩
        rw [if_pos rfl]
        refine ⟨_, _, _, aql, g.cqO, .ty g.bqQ, ?_⟩
        rw [if_pos rfl]
        refine ⟨a, _, d, _, _, rfl, aql, (by rw [aqu (aqr hx ha)]; exact hx), g.eqm, (by rw [List.lookup_cons, beq_self_eq_true]), by decide, fun p H2 hn s2 hp => ?_⟩
        refine ⟨_, _, false, s2 _ _ aql, g.cqO, .tup (cs := [g.gqD, g.gqz, g.dqj, g.hq7, g.fqb]) hp g.aqx, ?_⟩
        rw [if_neg (by decide)]
        exact hQ H2 ((s1.trans (bqS ha)).trans s2)
      · exact .inr ⟨x, hg, fun u H1 s1 _ => hQ H1 s1⟩
theorem wqx (g : G K mg) : FnOk P w K mg base CX0 10 g.rqj g.mqt ["_law_script"] (oqj K) := by
  refine g.wqv.ok iqM (fun vs H Q E h => ?_) (fun cdv A outer s H vs Q E hr h => ?_)
  · obtain ⟨a, ns, rfl, _⟩ := h; rfl
  · obtain ⟨a, ns, rfl, hS, hn, k⟩ := h
    refine ⟨_, (aqH (aqk (i := 1) iqM.nd rfl (Or.inl rfl) (aqf (jqt g) (hr.mono (by decide)) rfl g.gqT g.eq3.kp g.gqP .nil pass0 (aqa (pv 0) (aqa aqe (aqa gqK (aqa (bqB (dqT (K := K) rfl) (pv 0) (bqR aqe) (bqR aqe)) aqb))))))
      (aqH (aqk (i := 2) iqM.nd rfl (Or.inl rfl) (aqf (lqs g) (hr.mono (by decide)) rfl g.iqF g.gqo.kp g.iqJ .nil pass0 (aqa (pv 1) (aqa (dqU (aqa (aqj (aqL (K := K)) aqe (aqj aqQ (aqf (aqT g) (hr.mono (by decide)) rfl g.aqS g.aqK.kp g.aqR .nil pass0 (aqa (pv 0) (aqa aqe aqb))) (aqj uq3 aqe aqe))) aqb)) aqb))))
      (aqH (aqk (i := 3) iqM.nd rfl (Or.inl rfl) (aqf (dqr g) (hr.mono (by decide)) rfl g.dqK g.cqU.kp g.dqG .nil passes0N (aqa (pv 2) aqb)))
      (aqc (kqi PassesOwn.never rfl (nq5 (K := K) rfl (aqj (aqL (K := K)) (bqB (dqT (K := K) rfl) (pv 0) (bqR aqe) (bqR aqe)) (dqU (aqa (aqf (aqT g) (hr.mono (by decide)) rfl g.aqS g.aqK.kp g.aqR .nil pass0 (aqa (pv 0) (aqa aqe aqb))) aqb)))) (cqi (i := 4) iqM.nd rfl (Or.inl rfl))
      (aqc (aqk (i := 5) iqM.nd rfl (Or.inl rfl) (aqf (mqY g) (hr.mono (by decide)) rfl g.jqw g.gq0.kp g.jq4 .nil pass0 (aqa (pv 2) (aqa (aqj aqQ (aqj fql (pv 4) aqe) aqe) aqb))))
      (aqc (aqk (i := 6) iqM.nd rfl (Or.inl rfl) (aqf (fqm g) (hr.mono (by decide)) rfl g.eqK g.dqJ.kp g.eqO .nil pass0 (aqa (pv 5) (aqa gqK aqb))))
      (aqH (aqW (PW.pt (lqY (aqq (sqF hr.units) (pv 6) aqm (nomark _)) (jqX (aqq (sqz hr.units) (aqf (fqm g) (hr.mono (by decide)) rfl g.eqK g.dqJ.kp g.eqO .nil pass0 (aqa (pv 5) (aqa gqK aqb))) (pv 6) (nomark _)))))
        (aqd (aqo gqK)) aqv)
      (aqd (aqW (PW.pt (hqt (aqq dqR (pv 6) aqN (nomark _)) (gqk (aqq lqz (aqf (dqr g) (hr.mono (by decide)) rfl g.dqK g.cqU.kp g.dqG .nil passes0N (aqa (pv 5) aqb)) (aqf (qql g) (hr.mono (by decide)) rfl g.pqS g.nq3.kp g.pqF .nil pass0 (aqa (aqf (oqb g) (hr.mono (by decide)) rfl g.nqp g.lqZ.kp g.nqn .nil pass0 (aqa (aqf (lqm g) (hr.mono (by decide)) rfl g.oqk g.mqA.kp g.nqT .nil passes0N (aqa (pv 5) aqb)) aqb)) aqb)) (nomark _)))))
        (aqd (aqo gqK)) aqv))))))
      (aqc (aqk (i := 7) iqM.nd rfl (Or.inl rfl) (aq3 (aqw (K := K) rfl) (dqU (aqa aqN (aqa aqe (aqa gqK (aqa (dqU (aqa (pv 2) aqb)) (aqa (bqe (aqa (pv 2) aqb)) aqb)))))) (aqj aqQ (aqf (aqT g) (hr.mono (by decide)) rfl g.aqS g.aqK.kp g.aqR .nil pass0 (aqa (pv 0) (aqa aqe aqb))) aqe) (fun _ _ => rfl)))
      (aqd (aqo (mqH (bq3 eqE (aqf (fqm g) (hr.mono (by decide)) rfl g.eqK g.dqJ.kp g.eqO .nil pass0 (aqa (pv 7) (aqa gqK aqb))) aqe (nomark _)) (hqZ (bq3 eqE (aqf (dqr g) (hr.mono (by decide)) rfl g.dqK g.cqU.kp g.dqG .nil passes0N (aqa (pv 2) aqb)) (pv 3) (nomark _))))))))))), ?_⟩
    walk_at "rd"
    refine ⟨fun σ H1 => Same H H1 ∧ ∃ (x : Ad) (v : V), σ = [some (.ref a), some v, none, none, none, none, none, none] ∧ x.Wf ∧ x.Tiny ∧ x.steps.length ≤ 30 ∧ IsT H1 x.data v, ?_, ?_⟩
    · refine ⟨_, hS, fun p0 n0 => ?_⟩
      have hc := vqj (ns := ns)
      rw [lqI]
      refine ⟨a, ns, 0, false, p0, _, rfl, (bqS n0).seq hS, .of aql, by omega, fun x v H1 wf ti hl _ s1 hv => ?_⟩
      exact ⟨(bqS n0).trans s1, x, v, rfl, wf, ti, by omega, hv⟩
    rintro σ H1 ⟨s1, x, v, rfl, wf, ti, hl, hv⟩
    walk_at "rd"
    refine ⟨fun σ H2 => Same H1 H2 ∧ ∃ t : List Nat, σ = [some (.ref a), some v, some (.str ⟨t.toArray⟩), none, none, none, none, none] ∧ RdW x t ∧ (∀ c ∈ t, c < 128), ?_, ?_⟩
    · refine ⟨a, ns, 8, rfl, s1.seq hS, ⟨by decide, by decide, by decide⟩, ?_⟩
      walk_at "rd"
      have m1 := Int.emod_nonneg (ns.getD 8 0) (show ((10 : Int) ^ Int.toNat 9) ≠ 0 by decide)
      have m2 := Int.emod_lt_of_pos (ns.getD 8 0) (show 0 < ((10 : Int) ^ Int.toNat 9) by decide)
      have m3 : ((10 : Int) ^ Int.toNat 9) = 1000000000 := by decide
      refine ⟨by decide, by decide, fun p H2 n2 s2 e2 => ?_⟩
      refine ⟨x, v, p, 1, rfl, hv.mono s2.toT, wf, ti, by omega, ⟨[1 + ns.getD 8 0 % 10 ^ Int.toNat 9], e2, by simp, fun b hb => by rw [List.mem_singleton.mp hb]; omega, by simp⟩, by decide, fun t H3 hR h128 _ s3 _ => ?_⟩
      exact ⟨(s2.but.trans s3).same n2, t, rfl, hR, h128⟩
    rintro σ H2 ⟨s2, t, rfl, hR, h128⟩
    have htl := uqK hR wf ti hl
    have hrd := rq3 hR.v wf
    have gd : GoodW (.str ⟨t.toArray⟩) x := ⟨t, rfl, by omega, h128, hrd⟩
    walk_at "rd"
    refine ⟨fun σ H3 => Same H1 H3 ∧ σ = [some (.ref a), some v, some (.str ⟨t.toArray⟩), some (.str ⟨(plainM x).shw.toArray⟩), none, none, none, none], ?_, ?_⟩
    · exact ⟨_, rfl, .inr ⟨x, gd, fun H3 s3 => ⟨s2.trans s3, rfl⟩⟩⟩
    rintro σ H3 ⟨s3, rfl⟩
    have s03 := s1.trans s3
    walk_at "rd"
    refine ⟨_, s03.seq hS, fun p0 n0 => ⟨a, ns, 8, rfl, (bqS n0).seq (s03.seq hS), by decide, fun p1 H4 n1 s4 hp1 => ?_⟩⟩
    have s34 := (bqS (o := .lst (cutV (ns.map V.int) (some 39) (some 43))) n0).trans s4
    refine .inl ⟨_, _, s4 _ _ aql, hp1, aqh (by rw [lqI, List.length_map]; have := rqG ns (some 39) (some 43); simp; omega), fun p2 H5 n2 s5 hp2 => ⟨p2, rfl, ⟨_, .of hp2⟩, ?_⟩⟩
    have s35 := s34.trans s5
    rw [lqI, show ([V.int (ns.getD 8 0)] : List V) = [ns.getD 8 0].map V.int from rfl, ← List.map_append] at hp2
    generalize cutA ns (some 39) (some 43) ++ [ns.getD 8 0] = cs at hp2
    refine pqp (xs := cs.map V.int) (fun i σ H' => Same H5 H' ∧ ∃ v4 v5 v6, σ = [some (.ref a), some v, some (.str ⟨t.toArray⟩), some (.str ⟨(plainM x).shw.toArray⟩), v4, v5, v6, none]) ⟨Same.refl _, _, _, _, rfl⟩ (fun i σ H' _ h => .of (h.1 _ _ hp2)) ?_ ?_
    · rintro i y σ H6 hy ⟨s6, v4, v5, v6, rfl⟩
      obtain ⟨c, rfl⟩ : ∃ c : Int, y = .int c := by
        rw [List.getElem?_map] at hy
        cases h : cs[i]? with
        | none => rw [h] at hy; cases hy
        | some c => rw [h] at hy; cases hy; exact ⟨c, rfl⟩
      walk_at "rd"
      refine ⟨.inr ⟨by decide, by decide⟩, by decide, t, _, rfl, Int.emod_nonneg _ (by decide), htl, h128, fun t' hl' h128' => ?_⟩
      cases hr : readM t' with
      | error n =>
        have bad : ∀ He, BadW K He (.str ⟨t'.toArray⟩) n := fun He => .inr ⟨t', rfl, hl', h128', hr⟩
        refine ⟨_, false, rfl, .inl ⟨n, bad _, fun H7 s7 => ?_⟩⟩
        refine ⟨fun σ H' => Same H5 H' ∧ ∃ v4 v5, σ = [some (.ref a), some v, some (.str ⟨t.toArray⟩), some (.str ⟨(plainM x).shw.toArray⟩), v4, v5, some (.int (n : Int)), none], ?_, ?_⟩
        · refine ⟨.int (n : Int), .str _, .int _, .str _, rfl, by decide +kernel, _, rfl, ?_⟩
          rw [show PyData.eqv (.int (n : Int)) (.str (Str.ofString "other")) = false from rfl, if_neg (by decide)]
          refine ⟨_, true, rfl, .inl ⟨n, bad _, fun H8 s8 => ⟨.int (n : Int), .int (n : Int), .int _, .int _, rfl, rfl, _, rfl, ?_⟩⟩⟩
          rw [show PyData.eqv (.int (n : Int)) (.int (n : Int)) = true by simp [PyData.eqv], if_neg (by decide)]
          exact ⟨(s6.trans s7).trans s8, _, _, rfl⟩
        rintro σ H8 ⟨s8, v4', v5', rfl⟩
        walk_at "rd"
        exact ⟨s8, _, _, _, rfl, rfl, rfl⟩
      | ok z =>
        have good : GoodW (.str ⟨t'.toArray⟩) z := ⟨t', rfl, hl', h128', hr⟩
        refine ⟨_, false, rfl, .inr ⟨z, good, fun H7 s7 => ?_⟩⟩
        refine ⟨fun σ H' => Same H5 H' ∧ ∃ v4, σ = [some (.ref a), some v, some (.str ⟨t.toArray⟩), some (.str ⟨(plainM x).shw.toArray⟩), v4, some (.str ⟨t'.toArray⟩), some .non, none], ?_, ?_⟩
        · refine ⟨.none, .str _, .non, .str _, rfl, by decide +kernel, _, rfl, ?_⟩
          rw [show PyData.eqv .none (.str (Str.ofString "other")) = false from rfl, if_neg (by decide)]
          refine ⟨_, true, rfl, .inr ⟨z, good, fun H8 s8 => ⟨.none, .none, .non, .non, rfl, rfl, _, rfl, ?_⟩⟩⟩
          rw [show PyData.eqv .none .none = true from rfl, if_neg (by decide)]
          exact ⟨(s6.trans s7).trans s8, _, rfl⟩
        rintro σ H8 ⟨s8, v4', rfl⟩
        walk_at "rd"
        obtain ⟨l1, l2, l3⟩ := oqC hr hl'
        have wz := qqf hr
        refine ⟨_, rfl, .inr ⟨z, good, fun H9 s9 => nqH (.inr ⟨z, good, fun u H10 s10 hu => ?_⟩)⟩⟩
        refine ⟨z, u, rfl, hu.k, wz, by omega, fun u2 H11 s11 hu2 => ⟨plainM z, u2, rfl, hu2, hqV wz, l3.sz (hqV wz), fun H12 s12 => ?_⟩⟩
        refine L2.pqA.mpr ⟨_, rfl, ?_⟩
        rw [decide_eq_true rfl, if_neg (by decide)]
        exact ⟨(((s8.trans s9).trans s10).trans s11).trans s12, _, _, _, rfl, rfl, rfl⟩
    · rintro σ H6 ⟨s6, v4, v5, v6, rfl⟩
      walk_at "rd"
      refine ⟨by decide, fun q1 G1 _ t1 h1 => ⟨by decide, fun q2 G2 _ t2 h2 => ⟨by decide, fun q3 G3 _ t3 h3 => ?_⟩⟩⟩
      have s3G : Same H3 G3 := (((s35.trans s6).trans t1).trans t2).trans t3
      refine ⟨a, ns, 7, rfl, (s03.trans s3G).seq hS, ?_⟩
      walk_at "rd"
      obtain ⟨j, hj, ej⟩ : ∃ j : Nat, j < 5 ∧ ns.getD 7 0 % 5 = (j : Int) := ⟨(ns.getD 7 0 % 5).toNat, by omega, by omega⟩
      have key : ∃ (u : V) (ty : Value), [V.non, V.int 7, V.bl true, V.ref q1, V.ref q2][j]? = some u ∧ TyOf K G3 u ty ∧ PySem.W.kitOne K ty (.type "str") = some false := by
        match j, hj with
        | 0, _ => exact ⟨_, _, rfl, .non, gqZ K "NoneType" (by decide) "str" (by decide)⟩
        | 1, _ => exact ⟨_, _, rfl, .int _, gqZ K "int" (by decide) "str" (by decide)⟩
        | 2, _ => exact ⟨_, _, rfl, .bl _, gqZ K "bool" (by decide) "str" (by decide)⟩
        | 3, _ => exact ⟨_, _, rfl, .lst ((t2.trans t3) _ _ h1), gqZ K "list" (by decide) "str" (by decide)⟩
        | 4, _ => exact ⟨_, _, rfl, .tup (t3 _ _ h2), gqZ K "tuple" (by decide) "str" (by decide)⟩
      obtain ⟨u, ty, e, y1, y2⟩ := key
      rw [ej]
      refine ⟨by decide, _, u, .inl (.of h3), cqs e, u, true, rfl, .inl ⟨0, .inl ⟨rfl, ty, y1, y2⟩, fun H7 s7 => ?_⟩⟩
      refine L2.pqn.mpr ⟨_, rfl, ?_⟩
      rw [if_pos (by decide)]
      refine ⟨_, rfl, .inr ⟨x, gd, fun H8 s8 => L2.jql.mpr ?_⟩⟩
      rw [decide_eq_true rfl]
      exact k H8
end
theorem wqc {l : PySem.W.OpenLaw} {w : World} {K : PySem.W.Frag} {h : Heap} {mg : Str → Option Value} {fa : Addr} (X : K.In h) (Gl : h.Ns mainGlobals mg) (hfa : mg "law" = some (.ref fa))
    {kC_Cursor : Addr} (aC_Cursor : PySem.W.nsIn K mainGlobals "Cursor" = some (some (.ref kC_Cursor)))
    {eC_NoAddress : Addr} (en_NoAddress : PySem.W.nsIn K mainGlobals "NoAddress" = some (some (.ref eC_NoAddress)))
    {eC_WayError : Addr} (en_WayError : PySem.W.nsIn K mainGlobals "WayError" = some (some (.ref eC_WayError)))
    {eC_NoValue : Addr} (en_NoValue : PySem.W.nsIn K mainGlobals "NoValue" = some (some (.ref eC_NoValue)))
    {eC_NoRow : Addr} (en_NoRow : PySem.W.nsIn K mainGlobals "NoRow" = some (some (.ref eC_NoRow)))
    {eC_NoPattern : Addr} (en_NoPattern : PySem.W.nsIn K mainGlobals "NoPattern" = some (some (.ref eC_NoPattern)))
    {eC_NoName : Addr} (en_NoName : PySem.W.nsIn K mainGlobals "NoName" = some (some (.ref eC_NoName)))
    {eC_NoBase : Addr} (en_NoBase : PySem.W.nsIn K mainGlobals "NoBase" = some (some (.ref eC_NoBase)))
    {f1 : Addr} {od1 an1 : Option Addr} {sl1 : Array (Option Value)} {oc1 kV1 dc1 pm1 cd1 ct1 : Value}
    (a1 : PySem.W.nsIn K mainGlobals "made_of" = some (some (.ref f1))) (l1 : K.lookup f1 = some ⟨oc1, od1, .func (PySem.W.fnOf "made_of" "made_of" (defArgs eqG) (defBody eqG) (defScope eqG) .none kV1 dc1 pm1 an1 cd1 ct1), sl1⟩)
    {f2 : Addr} {od2 an2 : Option Addr} {sl2 : Array (Option Value)} {oc2 kV2 dc2 pm2 cd2 ct2 : Value}
    (a2 : PySem.W.nsIn K mainGlobals "pair_of" = some (some (.ref f2))) (l2 : K.lookup f2 = some ⟨oc2, od2, .func (PySem.W.fnOf "pair_of" "pair_of" (defArgs eqz) (defBody eqz) (defScope eqz) .none kV2 dc2 pm2 an2 cd2 ct2), sl2⟩)
    {f3 : Addr} {od3 an3 : Option Addr} {sl3 : Array (Option Value)} {oc3 kV3 dc3 pm3 cd3 ct3 : Value}
    (a3 : PySem.W.nsIn K mainGlobals "figure_number" = some (some (.ref f3))) (l3 : K.lookup f3 = some ⟨oc3, od3, .func (PySem.W.fnOf "figure_number" "figure_number" (defArgs aq9) (defBody aq9) (defScope aq9) .none kV3 dc3 pm3 an3 cd3 ct3), sl3⟩)
    {f4 : Addr} {od4 an4 : Option Addr} {sl4 : Array (Option Value)} {oc4 kV4 dc4 pm4 cd4 ct4 : Value}
    (a4 : PySem.W.nsIn K mainGlobals "sign_numbered" = some (some (.ref f4))) (l4 : K.lookup f4 = some ⟨oc4, od4, .func (PySem.W.fnOf "sign_numbered" "sign_numbered" (defArgs bqc) (defBody bqc) (defScope bqc) .none kV4 dc4 pm4 an4 cd4 ct4), sl4⟩)
    {f5 : Addr} {od5 an5 : Option Addr} {sl5 : Array (Option Value)} {oc5 kV5 dc5 pm5 cd5 ct5 : Value}
    (a5 : PySem.W.nsIn K mainGlobals "is_whole" = some (some (.ref f5))) (l5 : K.lookup f5 = some ⟨oc5, od5, .func (PySem.W.fnOf "is_whole" "is_whole" (defArgs dqh) (defBody dqh) (defScope dqh) .none kV5 dc5 pm5 an5 cd5 ct5), sl5⟩)
    {f6 : Addr} {od6 an6 : Option Addr} {sl6 : Array (Option Value)} {oc6 kV6 dc6 pm6 cd6 ct6 : Value}
    (a6 : PySem.W.findIn K (.ref eC_NoAddress) "__init__" = some (some (.ref f6))) (i6 : PySem.W.isFn K (.ref f6) = true) (l6 : K.lookup f6 = some ⟨oc6, od6, .func (PySem.W.fnOf "__init__" "NoAddress.__init__" (defArgs aqG) (defBody aqG) (defScope aqG) .none kV6 dc6 pm6 an6 cd6 ct6), sl6⟩)
    {f7 : Addr} {od7 an7 : Option Addr} {sl7 : Array (Option Value)} {oc7 kV7 dc7 pm7 cd7 ct7 : Value}
    (a7 : PySem.W.findIn K (.ref kC_Cursor) "__init__" = some (some (.ref f7))) (i7 : PySem.W.isFn K (.ref f7) = true) (l7 : K.lookup f7 = some ⟨oc7, od7, .func (PySem.W.fnOf "__init__" "Cursor.__init__" (defArgs aqP) (defBody aqP) (defScope aqP) .none kV7 dc7 pm7 an7 cd7 ct7), sl7⟩)
    {f8 : Addr} {od8 an8 : Option Addr} {sl8 : Array (Option Value)} {oc8 kV8 dc8 pm8 cd8 ct8 : Value}
    (a8 : PySem.W.findIn K (.ref kC_Cursor) "at_end" = some (some (.ref f8))) (i8 : PySem.W.isFn K (.ref f8) = true) (l8 : K.lookup f8 = some ⟨oc8, od8, .func (PySem.W.fnOf "at_end" "Cursor.at_end" (defArgs bqa) (defBody bqa) (defScope bqa) .none kV8 dc8 pm8 an8 cd8 ct8), sl8⟩)
    {f9 : Addr} {od9 an9 : Option Addr} {sl9 : Array (Option Value)} {oc9 kV9 dc9 pm9 cd9 ct9 : Value}
    (a9 : PySem.W.findIn K (.ref kC_Cursor) "take" = some (some (.ref f9))) (i9 : PySem.W.isFn K (.ref f9) = true) (l9 : K.lookup f9 = some ⟨oc9, od9, .func (PySem.W.fnOf "take" "Cursor.take" (defArgs bqC) (defBody bqC) (defScope bqC) .none kV9 dc9 pm9 an9 cd9 ct9), sl9⟩)
    {f10 : Addr} {od10 an10 : Option Addr} {sl10 : Array (Option Value)} {oc10 kV10 dc10 pm10 cd10 ct10 : Value}
    (a10 : PySem.W.findIn K (.ref kC_Cursor) "passes" = some (some (.ref f10))) (i10 : PySem.W.isFn K (.ref f10) = true) (l10 : K.lookup f10 = some ⟨oc10, od10, .func (PySem.W.fnOf "passes" "Cursor.passes" (defArgs aq8) (defBody aq8) (defScope aq8) .none kV10 dc10 pm10 an10 cd10 ct10), sl10⟩)
    {f11 : Addr} {od11 an11 : Option Addr} {sl11 : Array (Option Value)} {oc11 kV11 dc11 pm11 cd11 ct11 : Value}
    (a11 : PySem.W.nsIn K mainGlobals "door_with" = some (some (.ref f11))) (l11 : K.lookup f11 = some ⟨oc11, od11, .func (PySem.W.fnOf "door_with" "door_with" (defArgs cqS) (defBody cqS) (defScope cqS) .none kV11 dc11 pm11 an11 cd11 ct11), sl11⟩)
    {f12 : Addr} {od12 an12 : Option Addr} {sl12 : Array (Option Value)} {oc12 kV12 dc12 pm12 cd12 ct12 : Value}
    (a12 : PySem.W.nsIn K mainGlobals "slashed" = some (some (.ref f12))) (l12 : K.lookup f12 = some ⟨oc12, od12, .func (PySem.W.fnOf "slashed" "slashed" (defArgs eqk) (defBody eqk) (defScope eqk) .none kV12 dc12 pm12 an12 cd12 ct12), sl12⟩)
    {f13 : Addr} {od13 an13 : Option Addr} {sl13 : Array (Option Value)} {oc13 kV13 dc13 pm13 cd13 ct13 : Value}
    (a13 : PySem.W.nsIn K mainGlobals "is_dot" = some (some (.ref f13))) (l13 : K.lookup f13 = some ⟨oc13, od13, .func (PySem.W.fnOf "is_dot" "is_dot" (defArgs fqA) (defBody fqA) (defScope fqA) .none kV13 dc13 pm13 an13 cd13 ct13), sl13⟩)
    {f14 : Addr} {od14 an14 : Option Addr} {sl14 : Array (Option Value)} {oc14 kV14 dc14 pm14 cd14 ct14 : Value}
    (a14 : PySem.W.nsIn K mainGlobals "go_up" = some (some (.ref f14))) (l14 : K.lookup f14 = some ⟨oc14, od14, .func (PySem.W.fnOf "go_up" "go_up" (defArgs gq8) (defBody gq8) (defScope gq8) .none kV14 dc14 pm14 an14 cd14 ct14), sl14⟩)
    {f15 : Addr} {od15 an15 : Option Addr} {sl15 : Array (Option Value)} {oc15 kV15 dc15 pm15 cd15 ct15 : Value}
    (a15 : PySem.W.nsIn K mainGlobals "_law_cell_at" = some (some (.ref f15))) (l15 : K.lookup f15 = some ⟨oc15, od15, .func (PySem.W.fnOf "_law_cell_at" "_law_cell_at" (defArgs bqk) (defBody bqk) (defScope bqk) .none kV15 dc15 pm15 an15 cd15 ct15), sl15⟩)
    {f16 : Addr} {od16 an16 : Option Addr} {sl16 : Array (Option Value)} {oc16 kV16 dc16 pm16 cd16 ct16 : Value}
    (a16 : PySem.W.nsIn K mainGlobals "_law_text" = some (some (.ref f16))) (l16 : K.lookup f16 = some ⟨oc16, od16, .func (PySem.W.fnOf "_law_text" "_law_text" (defArgs cqH) (defBody cqH) (defScope cqH) .none kV16 dc16 pm16 an16 cd16 ct16), sl16⟩)
    {f17 : Addr} {od17 an17 : Option Addr} {sl17 : Array (Option Value)} {oc17 kV17 dc17 pm17 cd17 ct17 : Value}
    (a17 : PySem.W.nsIn K mainGlobals "_law_scheme" = some (some (.ref f17))) (l17 : K.lookup f17 = some ⟨oc17, od17, .func (PySem.W.fnOf "_law_scheme" "_law_scheme" (defArgs bqG) (defBody bqG) (defScope bqG) .none kV17 dc17 pm17 an17 cd17 ct17), sl17⟩)
    {f18 : Addr} {od18 an18 : Option Addr} {sl18 : Array (Option Value)} {oc18 kV18 dc18 pm18 cd18 ct18 : Value}
    (a18 : PySem.W.nsIn K mainGlobals "_law_pair_of" = some (some (.ref f18))) (l18 : K.lookup f18 = some ⟨oc18, od18, .func (PySem.W.fnOf "_law_pair_of" "_law_pair_of" (defArgs bqn) (defBody bqn) (defScope bqn) .none kV18 dc18 pm18 an18 cd18 ct18), sl18⟩)
    {f19 : Addr} {od19 an19 : Option Addr} {sl19 : Array (Option Value)} {oc19 kV19 dc19 pm19 cd19 ct19 : Value}
    (a19 : PySem.W.nsIn K mainGlobals "_law_bent" = some (some (.ref f19))) (l19 : K.lookup f19 = some ⟨oc19, od19, .func (PySem.W.fnOf "_law_bent" "_law_bent" (defArgs cqQ) (defBody cqQ) (defScope cqQ) .none kV19 dc19 pm19 an19 cd19 ct19), sl19⟩)
    {f20 : Addr} {od20 an20 : Option Addr} {sl20 : Array (Option Value)} {oc20 kV20 dc20 pm20 cd20 ct20 : Value}
    (a20 : PySem.W.nsIn K mainGlobals "is_text" = some (some (.ref f20))) (l20 : K.lookup f20 = some ⟨oc20, od20, .func (PySem.W.fnOf "is_text" "is_text" (defArgs eqt) (defBody eqt) (defScope eqt) .none kV20 dc20 pm20 an20 cd20 ct20), sl20⟩)
    {f21 : Addr} {od21 an21 : Option Addr} {sl21 : Array (Option Value)} {oc21 kV21 dc21 pm21 cd21 ct21 : Value}
    (a21 : PySem.W.nsIn K mainGlobals "sign_of" = some (some (.ref f21))) (l21 : K.lookup f21 = some ⟨oc21, od21, .func (PySem.W.fnOf "sign_of" "sign_of" (defArgs eqp) (defBody eqp) (defScope eqp) .none kV21 dc21 pm21 an21 cd21 ct21), sl21⟩)
    {f22 : Addr} {od22 an22 : Option Addr} {sl22 : Array (Option Value)} {oc22 kV22 dc22 pm22 cd22 ct22 : Value}
    (a22 : PySem.W.nsIn K mainGlobals "written" = some (some (.ref f22))) (l22 : K.lookup f22 = some ⟨oc22, od22, .func (PySem.W.fnOf "written" "written" (defArgs eqF) (defBody eqF) (defScope eqF) .none kV22 dc22 pm22 an22 cd22 ct22), sl22⟩)
    {f23 : Addr} {od23 an23 : Option Addr} {sl23 : Array (Option Value)} {oc23 kV23 dc23 pm23 cd23 ct23 : Value}
    (a23 : PySem.W.findIn K (.ref kC_Cursor) "sees" = some (some (.ref f23))) (i23 : PySem.W.isFn K (.ref f23) = true) (l23 : K.lookup f23 = some ⟨oc23, od23, .func (PySem.W.fnOf "sees" "Cursor.sees" (defArgs bqH) (defBody bqH) (defScope bqH) .none kV23 dc23 pm23 an23 cd23 ct23), sl23⟩)
    {f24 : Addr} {od24 an24 : Option Addr} {sl24 : Array (Option Value)} {oc24 kV24 dc24 pm24 cd24 ct24 : Value}
    (a24 : PySem.W.nsIn K mainGlobals "steps_left" = some (some (.ref f24))) (l24 : K.lookup f24 = some ⟨oc24, od24, .func (PySem.W.fnOf "steps_left" "steps_left" (defArgs cqh) (defBody cqh) (defScope cqh) .none kV24 dc24 pm24 an24 cd24 ct24), sl24⟩)
    {f25 : Addr} {od25 an25 : Option Addr} {sl25 : Array (Option Value)} {oc25 kV25 dc25 pm25 cd25 ct25 : Value}
    (a25 : PySem.W.nsIn K mainGlobals "_law_step" = some (some (.ref f25))) (l25 : K.lookup f25 = some ⟨oc25, od25, .func (PySem.W.fnOf "_law_step" "_law_step" (defArgs cqR) (defBody cqR) (defScope cqR) .none kV25 dc25 pm25 an25 cd25 ct25), sl25⟩)
    {f26 : Addr} {od26 an26 : Option Addr} {sl26 : Array (Option Value)} {oc26 kV26 dc26 pm26 cd26 ct26 : Value}
    (a26 : PySem.W.nsIn K mainGlobals "_law_question" = some (some (.ref f26))) (l26 : K.lookup f26 = some ⟨oc26, od26, .func (PySem.W.fnOf "_law_question" "_law_question" (defArgs bqd) (defBody bqd) (defScope bqd) .none kV26 dc26 pm26 an26 cd26 ct26), sl26⟩)
    {f27 : Addr} {od27 an27 : Option Addr} {sl27 : Array (Option Value)} {oc27 kV27 dc27 pm27 cd27 ct27 : Value}
    (a27 : PySem.W.nsIn K mainGlobals "_law_mark" = some (some (.ref f27))) (l27 : K.lookup f27 = some ⟨oc27, od27, .func (PySem.W.fnOf "_law_mark" "_law_mark" (defArgs cqK) (defBody cqK) (defScope cqK) .none kV27 dc27 pm27 an27 cd27 ct27), sl27⟩)
    {f28 : Addr} {od28 an28 : Option Addr} {sl28 : Array (Option Value)} {oc28 kV28 dc28 pm28 cd28 ct28 : Value}
    (a28 : PySem.W.nsIn K mainGlobals "_law_written" = some (some (.ref f28))) (l28 : K.lookup f28 = some ⟨oc28, od28, .func (PySem.W.fnOf "_law_written" "_law_written" (defArgs bqo) (defBody bqo) (defScope bqo) .none kV28 dc28 pm28 an28 cd28 ct28), sl28⟩)
    {f29 : Addr} {od29 an29 : Option Addr} {sl29 : Array (Option Value)} {oc29 kV29 dc29 pm29 cd29 ct29 : Value}
    (a29 : PySem.W.nsIn K mainGlobals "is_scheme" = some (some (.ref f29))) (l29 : K.lookup f29 = some ⟨oc29, od29, .func (PySem.W.fnOf "is_scheme" "is_scheme" (defArgs cqN) (defBody cqN) (defScope cqN) .none kV29 dc29 pm29 an29 cd29 ct29), sl29⟩)
    {f30 : Addr} {od30 an30 : Option Addr} {sl30 : Array (Option Value)} {oc30 kV30 dc30 pm30 cd30 ct30 : Value}
    (a30 : PySem.W.nsIn K mainGlobals "taken_door" = some (some (.ref f30))) (l30 : K.lookup f30 = some ⟨oc30, od30, .func (PySem.W.fnOf "taken_door" "taken_door" (defArgs cqc) (defBody cqc) (defScope cqc) .none kV30 dc30 pm30 an30 cd30 ct30), sl30⟩)
    {f31 : Addr} {od31 an31 : Option Addr} {sl31 : Array (Option Value)} {oc31 kV31 dc31 pm31 cd31 ct31 : Value}
    (a31 : PySem.W.nsIn K mainGlobals "taken_pair" = some (some (.ref f31))) (l31 : K.lookup f31 = some ⟨oc31, od31, .func (PySem.W.fnOf "taken_pair" "taken_pair" (defArgs bq0) (defBody bq0) (defScope bq0) .none kV31 dc31 pm31 an31 cd31 ct31), sl31⟩)
    {f32 : Addr} {od32 an32 : Option Addr} {sl32 : Array (Option Value)} {oc32 kV32 dc32 pm32 cd32 ct32 : Value}
    (a32 : PySem.W.nsIn K mainGlobals "shown_house" = some (some (.ref f32))) (l32 : K.lookup f32 = some ⟨oc32, od32, .func (PySem.W.fnOf "shown_house" "shown_house" (defArgs bqF) (defBody bqF) (defScope bqF) .none kV32 dc32 pm32 an32 cd32 ct32), sl32⟩)
    {f33 : Addr} {od33 an33 : Option Addr} {sl33 : Array (Option Value)} {oc33 kV33 dc33 pm33 cd33 ct33 : Value}
    (a33 : PySem.W.nsIn K mainGlobals "shown_way" = some (some (.ref f33))) (l33 : K.lookup f33 = some ⟨oc33, od33, .func (PySem.W.fnOf "shown_way" "shown_way" (defArgs cqJ) (defBody cqJ) (defScope cqJ) .none kV33 dc33 pm33 an33 cd33 ct33), sl33⟩)
    {f34 : Addr} {od34 an34 : Option Addr} {sl34 : Array (Option Value)} {oc34 kV34 dc34 pm34 cd34 ct34 : Value}
    (a34 : PySem.W.nsIn K mainGlobals "shown_asked" = some (some (.ref f34))) (l34 : K.lookup f34 = some ⟨oc34, od34, .func (PySem.W.fnOf "shown_asked" "shown_asked" (defArgs bqI) (defBody bqI) (defScope bqI) .none kV34 dc34 pm34 an34 cd34 ct34), sl34⟩)
    {f35 : Addr} {od35 an35 : Option Addr} {sl35 : Array (Option Value)} {oc35 kV35 dc35 pm35 cd35 ct35 : Value}
    (a35 : PySem.W.nsIn K mainGlobals "shown_mark" = some (some (.ref f35))) (l35 : K.lookup f35 = some ⟨oc35, od35, .func (PySem.W.fnOf "shown_mark" "shown_mark" (defArgs cqg) (defBody cqg) (defScope cqg) .none kV35 dc35 pm35 an35 cd35 ct35), sl35⟩)
    {f36 : Addr} {od36 an36 : Option Addr} {sl36 : Array (Option Value)} {oc36 kV36 dc36 pm36 cd36 ct36 : Value}
    (a36 : PySem.W.nsIn K mainGlobals "gone" = some (some (.ref f36))) (l36 : K.lookup f36 = some ⟨oc36, od36, .func (PySem.W.fnOf "gone" "gone" (defArgs kqc) (defBody kqc) (defScope kqc) .none kV36 dc36 pm36 an36 cd36 ct36), sl36⟩)
    {f37 : Addr} {od37 an37 : Option Addr} {sl37 : Array (Option Value)} {oc37 kV37 dc37 pm37 cd37 ct37 : Value}
    (a37 : PySem.W.nsIn K mainGlobals "_law_way" = some (some (.ref f37))) (l37 : K.lookup f37 = some ⟨oc37, od37, .func (PySem.W.fnOf "_law_way" "_law_way" (defArgs dqm) (defBody dqm) (defScope dqm) .none kV37 dc37 pm37 an37 cd37 ct37), sl37⟩)
    {f38 : Addr} {od38 an38 : Option Addr} {sl38 : Array (Option Value)} {oc38 kV38 dc38 pm38 cd38 ct38 : Value}
    (a38 : PySem.W.nsIn K mainGlobals "_law_asked_text" = some (some (.ref f38))) (l38 : K.lookup f38 = some ⟨oc38, od38, .func (PySem.W.fnOf "_law_asked_text" "_law_asked_text" (defArgs aqO) (defBody aqO) (defScope aqO) .none kV38 dc38 pm38 an38 cd38 ct38), sl38⟩)
    {f39 : Addr} {od39 an39 : Option Addr} {sl39 : Array (Option Value)} {oc39 kV39 dc39 pm39 cd39 ct39 : Value}
    (a39 : PySem.W.nsIn K mainGlobals "taken_scheme" = some (some (.ref f39))) (l39 : K.lookup f39 = some ⟨oc39, od39, .func (PySem.W.fnOf "taken_scheme" "taken_scheme" (defArgs bqj) (defBody bqj) (defScope bqj) .none kV39 dc39 pm39 an39 cd39 ct39), sl39⟩)
    {f40 : Addr} {od40 an40 : Option Addr} {sl40 : Array (Option Value)} {oc40 kV40 dc40 pm40 cd40 ct40 : Value}
    {T40 : Addr} {ocT40 : Value} {odT40 : Option Addr} {nT40 : Nat} {slT40 : Array (Option Value)} {dt40_0 : Tok}
    (a40 : PySem.W.nsIn K mainGlobals "taken_text" = some (some (.ref f40))) (l40 : K.lookup f40 = some ⟨oc40, od40, .func (PySem.W.fnOf "taken_text" "taken_text" (defArgs bqv) (defBody bqv) (defScope bqv) (.ref T40) kV40 dc40 pm40 an40 cd40 ct40), sl40⟩)
    (d40 : K.lookup T40 = some ⟨ocT40, odT40, .seq #[.none] nT40, slT40⟩)
    {f41 : Addr} {od41 an41 : Option Addr} {sl41 : Array (Option Value)} {oc41 kV41 dc41 pm41 cd41 ct41 : Value}
    (a41 : PySem.W.nsIn K mainGlobals "shown_question" = some (some (.ref f41))) (l41 : K.lookup f41 = some ⟨oc41, od41, .func (PySem.W.fnOf "shown_question" "shown_question" (defArgs aqZ) (defBody aqZ) (defScope aqZ) .none kV41 dc41 pm41 an41 cd41 ct41), sl41⟩)
    {f42 : Addr} {od42 an42 : Option Addr} {sl42 : Array (Option Value)} {oc42 kV42 dc42 pm42 cd42 ct42 : Value}
    (a42 : PySem.W.nsIn K mainGlobals "with_way_gone" = some (some (.ref f42))) (l42 : K.lookup f42 = some ⟨oc42, od42, .func (PySem.W.fnOf "with_way_gone" "with_way_gone" (defArgs bqb) (defBody bqb) (defScope bqb) .none kV42 dc42 pm42 an42 cd42 ct42), sl42⟩)
    {f43 : Addr} {od43 an43 : Option Addr} {sl43 : Array (Option Value)} {oc43 kV43 dc43 pm43 cd43 ct43 : Value}
    (a43 : PySem.W.nsIn K mainGlobals "_law_address" = some (some (.ref f43))) (l43 : K.lookup f43 = some ⟨oc43, od43, .func (PySem.W.fnOf "_law_address" "_law_address" (defArgs bqm) (defBody bqm) (defScope bqm) .none kV43 dc43 pm43 an43 cd43 ct43), sl43⟩)
    {f44 : Addr} {od44 an44 : Option Addr} {sl44 : Array (Option Value)} {oc44 kV44 dc44 pm44 cd44 ct44 : Value}
    (a44 : PySem.W.nsIn K mainGlobals "_law_shown" = some (some (.ref f44))) (l44 : K.lookup f44 = some ⟨oc44, od44, .func (PySem.W.fnOf "_law_shown" "_law_shown" (defArgs cqd) (defBody cqd) (defScope cqd) .none kV44 dc44 pm44 an44 cd44 ct44), sl44⟩)
    {f45 : Addr} {od45 an45 : Option Addr} {sl45 : Array (Option Value)} {oc45 kV45 dc45 pm45 cd45 ct45 : Value}
    (a45 : PySem.W.nsIn K mainGlobals "taken_way" = some (some (.ref f45))) (l45 : K.lookup f45 = some ⟨oc45, od45, .func (PySem.W.fnOf "taken_way" "taken_way" (defArgs cqP) (defBody cqP) (defScope cqP) .none kV45 dc45 pm45 an45 cd45 ct45), sl45⟩)
    {f46 : Addr} {od46 an46 : Option Addr} {sl46 : Array (Option Value)} {oc46 kV46 dc46 pm46 cd46 ct46 : Value}
    (a46 : PySem.W.nsIn K mainGlobals "taken_value" = some (some (.ref f46))) (l46 : K.lookup f46 = some ⟨oc46, od46, .func (PySem.W.fnOf "taken_value" "taken_value" (defArgs bqz) (defBody bqz) (defScope bqz) .none kV46 dc46 pm46 an46 cd46 ct46), sl46⟩)
    {f47 : Addr} {od47 an47 : Option Addr} {sl47 : Array (Option Value)} {oc47 kV47 dc47 pm47 cd47 ct47 : Value}
    (a47 : PySem.W.nsIn K mainGlobals "taken_mark" = some (some (.ref f47))) (l47 : K.lookup f47 = some ⟨oc47, od47, .func (PySem.W.fnOf "taken_mark" "taken_mark" (defArgs bq1) (defBody bq1) (defScope bq1) .none kV47 dc47 pm47 an47 cd47 ct47), sl47⟩)
    {f48 : Addr} {od48 an48 : Option Addr} {sl48 : Array (Option Value)} {oc48 kV48 dc48 pm48 cd48 ct48 : Value}
    {T48 : Addr} {ocT48 : Value} {odT48 : Option Addr} {nT48 : Nat} {slT48 : Array (Option Value)} {dt48_0 : Tok}
    (a48 : PySem.W.nsIn K mainGlobals "taken_filled_text" = some (some (.ref f48))) (l48 : K.lookup f48 = some ⟨oc48, od48, .func (PySem.W.fnOf "taken_filled_text" "taken_filled_text" (defArgs aqB) (defBody aqB) (defScope aqB) (.ref T48) kV48 dc48 pm48 an48 cd48 ct48), sl48⟩)
    (d48 : K.lookup T48 = some ⟨ocT48, odT48, .seq #[.none] nT48, slT48⟩)
    {f49 : Addr} {od49 an49 : Option Addr} {sl49 : Array (Option Value)} {oc49 kV49 dc49 pm49 cd49 ct49 : Value}
    (a49 : PySem.W.nsIn K mainGlobals "show" = some (some (.ref f49))) (l49 : K.lookup f49 = some ⟨oc49, od49, .func (PySem.W.fnOf "show" "show" (defArgs jqF) (defBody jqF) (defScope jqF) .none kV49 dc49 pm49 an49 cd49 ct49), sl49⟩)
    {f50 : Addr} {od50 an50 : Option Addr} {sl50 : Array (Option Value)} {oc50 kV50 dc50 pm50 cd50 ct50 : Value}
    (a50 : PySem.W.nsIn K mainGlobals "plain" = some (some (.ref f50))) (l50 : K.lookup f50 = some ⟨oc50, od50, .func (PySem.W.fnOf "plain" "plain" (defArgs gqY) (defBody gqY) (defScope gqY) .none kV50 dc50 pm50 an50 cd50 ct50), sl50⟩)
    {f51 : Addr} {od51 an51 : Option Addr} {sl51 : Array (Option Value)} {oc51 kV51 dc51 pm51 cd51 ct51 : Value}
    (a51 : PySem.W.nsIn K mainGlobals "taken_house" = some (some (.ref f51))) (l51 : K.lookup f51 = some ⟨oc51, od51, .func (PySem.W.fnOf "taken_house" "taken_house" (defArgs bqJ) (defBody bqJ) (defScope bqJ) .none kV51 dc51 pm51 an51 cd51 ct51), sl51⟩)
    {f52 : Addr} {od52 an52 : Option Addr} {sl52 : Array (Option Value)} {oc52 kV52 dc52 pm52 cd52 ct52 : Value}
    (a52 : PySem.W.nsIn K mainGlobals "taken_question" = some (some (.ref f52))) (l52 : K.lookup f52 = some ⟨oc52, od52, .func (PySem.W.fnOf "taken_question" "taken_question" (defArgs aq0) (defBody aq0) (defScope aq0) .none kV52 dc52 pm52 an52 cd52 ct52), sl52⟩)
    {f53 : Addr} {od53 an53 : Option Addr} {sl53 : Array (Option Value)} {oc53 kV53 dc53 pm53 cd53 ct53 : Value}
    (a53 : PySem.W.nsIn K mainGlobals "read" = some (some (.ref f53))) (l53 : K.lookup f53 = some ⟨oc53, od53, .func (PySem.W.fnOf "read" "read" (defArgs jqU) (defBody jqU) (defScope jqU) .none kV53 dc53 pm53 an53 cd53 ct53), sl53⟩)
    {f54 : Addr} {od54 an54 : Option Addr} {sl54 : Array (Option Value)} {oc54 kV54 dc54 pm54 cd54 ct54 : Value}
    (a54 : PySem.W.nsIn K mainGlobals "plain_text" = some (some (.ref f54))) (l54 : K.lookup f54 = some ⟨oc54, od54, .func (PySem.W.fnOf "plain_text" "plain_text" (defArgs bq2) (defBody bq2) (defScope bq2) .none kV54 dc54 pm54 an54 cd54 ct54), sl54⟩)
    {f55 : Addr} {od55 an55 : Option Addr} {sl55 : Array (Option Value)} {oc55 kV55 dc55 pm55 cd55 ct55 : Value}
    (a55 : PySem.W.nsIn K mainGlobals "_law_place" = some (some (.ref f55))) (l55 : K.lookup f55 = some ⟨oc55, od55, .func (PySem.W.fnOf "_law_place" "_law_place" (defArgs bq9) (defBody bq9) (defScope bq9) .none kV55 dc55 pm55 an55 cd55 ct55), sl55⟩)
    {f56 : Addr} {od56 an56 : Option Addr} {sl56 : Array (Option Value)} {oc56 kV56 dc56 pm56 cd56 ct56 : Value}
    (a56 : PySem.W.nsIn K mainGlobals "law" = some (some (.ref f56))) (l56 : K.lookup f56 = some ⟨oc56, od56, .func (PySem.W.fnOf "law" "law" (defArgs nql) (defBody nql) (defScope nql) .none kV56 dc56 pm56 an56 cd56 ct56), sl56⟩)
    {jqi : Tok} (e_SIGNS : PySem.W.nsIn K mainGlobals "SIGNS" = some (some (.str (Str.ofString " !\"#$&'()*+,-./0123456789:;<=>?@ABCDEFGHIJKLMNOPQRSTUVWXYZ[\\]^_`abcdefghijklmnopqrstuvwxyz{|}~") jqi)))
    {gqg : Tok} (e_LETTERS : PySem.W.nsIn K mainGlobals "LETTERS" = some (some (.str (Str.ofString "abcdefghijklmnopqrstuvwxyzABCDEFGHIJKLMNOPQRSTUVWXYZ") gqg)))
    {aqU : Tok} (e_LETTERS_AND_FIGURES : PySem.W.nsIn K mainGlobals "LETTERS_AND_FIGURES" = some (some (.str (Str.ofString "abcdefghijklmnopqrstuvwxyzABCDEFGHIJKLMNOPQRSTUVWXYZ0123456789") aqU)))
    {fq7 : Tok} (e_FIGURES : PySem.W.nsIn K mainGlobals "FIGURES" = some (some (.str (Str.ofString "0123456789") fq7)))
    {jqT : Tok} (e_PLAIN : PySem.W.nsIn K mainGlobals "PLAIN" = some (some (.str (Str.ofString "abcdefghijklmnopqrstuvwxyzABCDEFGHIJKLMNOPQRSTUVWXYZ0123456789-_.") jqT)))
    {bqY : Tok} (e_FREE_IN_STEPS : PySem.W.nsIn K mainGlobals "FREE_IN_STEPS" = some (some (.str (Str.ofString "!$'()*,;@&=+") bqY)))
    {bqf : Tok} (e_FREE_IN_QUESTIONS : PySem.W.nsIn K mainGlobals "FREE_IN_QUESTIONS" = some (some (.str (Str.ofString "!$'()*,;@+/?:") bqf)))
    {bq6 : Tok} (e_FREE_IN_MARKS : PySem.W.nsIn K mainGlobals "FREE_IN_MARKS" = some (some (.str (Str.ofString "!$'()*,;@&=+/?:") bq6)))
    {cqu : Tok} (e_FIRST_NUMBER : PySem.W.nsIn K mainGlobals "FIRST_NUMBER" = some (some (.int 32 cqu)))
    {cq2 : Tok} (e_LAST_NUMBER : PySem.W.nsIn K mainGlobals "LAST_NUMBER" = some (some (.int 126 cq2)))
    {bqs : Tok} (e_NUMBER_LEFT_OUT : PySem.W.nsIn K mainGlobals "NUMBER_LEFT_OUT" = some (some (.int 37 bqs)))
    {cqb : Tok} (e_SMALL_FIGURES : PySem.W.nsIn K mainGlobals "SMALL_FIGURES" = some (some (.str (Str.ofString "0123456789abcdef") cqb)))
    {cqe : Tok} (e_GREAT_FIGURES : PySem.W.nsIn K mainGlobals "GREAT_FIGURES" = some (some (.str (Str.ofString "0123456789ABCDEF") cqe)))
    {hqT : Tok} (e_SCHEME : PySem.W.nsIn K mainGlobals "SCHEME" = some (some (.int 0 hqT)))
    {jqM : Tok} (e_HOUSE : PySem.W.nsIn K mainGlobals "HOUSE" = some (some (.int 1 jqM)))
    {lq9 : Tok} (e_DOOR : PySem.W.nsIn K mainGlobals "DOOR" = some (some (.int 2 lq9)))
    {qqO : Tok} (e_WAY : PySem.W.nsIn K mainGlobals "WAY" = some (some (.int 3 qqO)))
    {fqe : Tok} (e_QUESTION : PySem.W.nsIn K mainGlobals "QUESTION" = some (some (.int 4 fqe)))
    {mqe : Tok} (e_MARK : PySem.W.nsIn K mainGlobals "MARK" = some (some (.int 5 mqe)))
    {hqo : Tok} (e_ROOTED : PySem.W.nsIn K mainGlobals "ROOTED" = some (some (.int 0 hqo)))
    {jqL : Tok} (e_STEPS : PySem.W.nsIn K mainGlobals "STEPS" = some (some (.int 1 jqL)))
    {mqo : Tok} (e_ENDS : PySem.W.nsIn K mainGlobals "ENDS" = some (some (.int 2 mqo)))
    {bqK : Tok} (e_LONGEST_SCHEME : PySem.W.nsIn K mainGlobals "LONGEST_SCHEME" = some (some (.int 8 bqK)))
    {bq7 : Tok} (e_LONGEST_HOUSE : PySem.W.nsIn K mainGlobals "LONGEST_HOUSE" = some (some (.int 60 bq7)))
    {eqA : Tok} (e_LAST_DOOR : PySem.W.nsIn K mainGlobals "LAST_DOOR" = some (some (.int 65535 eqA)))
    {cqf : Tok} (e_FIRST_FIGURES : PySem.W.nsIn K mainGlobals "FIRST_FIGURES" = some (some (.str (Str.ofString "234567") cqf)))
    {lq7 : Tok} (e_STAY : PySem.W.nsIn K mainGlobals "STAY" = some (some (.str (Str.ofString ".") lq7)))
    {t_UP : Tok} (e_UP : PySem.W.nsIn K mainGlobals "UP" = some (some (.str (Str.ofString "..") t_UP)))
    (z_all : PySem.W.nsIn K mainGlobals "all" = some none)
    (z_ord : PySem.W.nsIn K mainGlobals "ord" = some none)
    (z_len : PySem.W.nsIn K mainGlobals "len" = some none)
    (z_int : PySem.W.nsIn K mainGlobals "int" = some none)
    (z_range : PySem.W.nsIn K mainGlobals "range" = some none)
    (z_isinstance : PySem.W.nsIn K mainGlobals "isinstance" = some none)
    (z_str : PySem.W.nsIn K mainGlobals "str" = some none)
    (z_tuple : PySem.W.nsIn K mainGlobals "tuple" = some none)
    (z_ValueError : PySem.W.nsIn K mainGlobals "ValueError" = some none)
    (ew1_WayError : PySem.W.typeIn K (.ref eC_WayError) = some (.type "type"))
    (ew2_WayError : PySem.W.subIn K (.ref eC_WayError) (.type "BaseException") = some true)
    (ew3_WayError : (PySem.W.clsIn K eC_WayError).isSome = true)
    (el0_NoAddress : PySem.W.findIn K (.ref eC_NoAddress) "__getattribute__" = some (some (.builtin "BaseException.__getattribute__")))
    (el1_NoAddress : PySem.W.findIn K (.ref eC_NoAddress) "__class__" = some (some (.builtin "object.__class__")))
    (el2_NoAddress : PySem.W.findIn K (.ref eC_NoAddress) "__getattr__" = some none)
    (el3_NoAddress : PySem.W.mroIn K eC_NoAddress (.type "object") = some true)
    (el4_NoAddress : PySem.W.mroIn K eC_NoAddress (.type "BaseException") = some true)
    (el5_NoAddress : (PySem.W.clsIn K eC_NoAddress).isSome = true)
    (ey_NoAddress : excInI K eC_NoAddress vErr vNew f6 = true)
    (ek_NoAddress : PySem.W.keepIn K (.ref eC_NoAddress) = true)
    (es_NoAddress : PySem.W.findIn K (.ref eC_NoAddress) "__setattr__" = some (some (.builtin "object.__setattr__")))
    (eo_NoAddress : overErr K eC_NoAddress = true)
    (eh_NoAddress : PySem.W.hasDictIn K eC_NoAddress = true)
    (ef_NoAddress_at : PySem.W.findIn K (.ref eC_NoAddress) "at" = some none)
    (eu_NoAddress_WayError : PySem.W.subIn K (.ref eC_NoAddress) (.ref eC_WayError) = some true)
    (ei_NoAddress_NoAddress : PySem.W.kitOne K (.ref eC_NoAddress) (.ref eC_NoAddress) = some true)
    (ei_NoAddress_ValueError : PySem.W.kitOne K (.ref eC_NoAddress) (.type "ValueError") = some true)
    (ea_NoAddress_NoBase_NoName_NoPattern_NoRow_NoValue : PySem.W.kitAny K (.ref eC_NoAddress) [.ref eC_NoBase, .ref eC_NoName, .ref eC_NoPattern, .ref eC_NoRow, .ref eC_NoValue] = some false)
    (pg_Cursor : PySem.W.plainGet K kC_Cursor Str.empty = true)
    (hd_Cursor : PySem.W.hasDictIn K kC_Cursor = true)
    (po_Cursor : PySem.W.plainOver K kC_Cursor = true)
    (sa_Cursor : PySem.W.findIn K (.ref kC_Cursor) "__setattr__" = some (some (.builtin "object.__setattr__")))
    (mk_Cursor : PySem.W.makesIn K kC_Cursor = true)
    (kc_Cursor : PySem.W.keepIn K (.ref kC_Cursor) = true)
    (nf_Cursor_text : PySem.W.findIn K (.ref kC_Cursor) "text" = some none)
    (nf_Cursor_place : PySem.W.findIn K (.ref kC_Cursor) "place" = some none)
    (kk : (PySem.W.keepIn K (.ref f1) && (PySem.W.keepIn K (.ref f2) && (PySem.W.keepIn K (.ref f3) && (PySem.W.keepIn K (.ref f4) && (PySem.W.keepIn K (.ref f5) && (PySem.W.keepIn K (.ref f6) && (PySem.W.keepIn K (.ref f7) && (PySem.W.keepIn K (.ref f8) && (PySem.W.keepIn K (.ref f9) && (PySem.W.keepIn K (.ref f10) && (PySem.W.keepIn K (.ref f11) && (PySem.W.keepIn K (.ref f12) && (PySem.W.keepIn K (.ref f13) && (PySem.W.keepIn K (.ref f14) && (PySem.W.keepIn K (.ref f15) && (PySem.W.keepIn K (.ref f16) && (PySem.W.keepIn K (.ref f17) && (PySem.W.keepIn K (.ref f18) && (PySem.W.keepIn K (.ref f19) && (PySem.W.keepIn K (.ref f20) && (PySem.W.keepIn K (.ref f21) && (PySem.W.keepIn K (.ref f22) && (PySem.W.keepIn K (.ref f23) && (PySem.W.keepIn K (.ref f24) && (PySem.W.keepIn K (.ref f25) && (PySem.W.keepIn K (.ref f26) && (PySem.W.keepIn K (.ref f27) && (PySem.W.keepIn K (.ref f28) && (PySem.W.keepIn K (.ref f29) && (PySem.W.keepIn K (.ref f30) && (PySem.W.keepIn K (.ref f31) && (PySem.W.keepIn K (.ref f32) && (PySem.W.keepIn K (.ref f33) && (PySem.W.keepIn K (.ref f34) && (PySem.W.keepIn K (.ref f35) && (PySem.W.keepIn K (.ref f36) && (PySem.W.keepIn K (.ref f37) && (PySem.W.keepIn K (.ref f38) && (PySem.W.keepIn K (.ref f39) && (PySem.W.keepIn K (.ref f40) && (PySem.W.keepIn K (.ref f41) && (PySem.W.keepIn K (.ref f42) && (PySem.W.keepIn K (.ref f43) && (PySem.W.keepIn K (.ref f44) && (PySem.W.keepIn K (.ref f45) && (PySem.W.keepIn K (.ref f46) && (PySem.W.keepIn K (.ref f47) && (PySem.W.keepIn K (.ref f48) && (PySem.W.keepIn K (.ref f49) && (PySem.W.keepIn K (.ref f50) && (PySem.W.keepIn K (.ref f51) && (PySem.W.keepIn K (.ref f52) && (PySem.W.keepIn K (.ref f53) && (PySem.W.keepIn K (.ref f54) && (PySem.W.keepIn K (.ref f55) && (PySem.W.keepIn K (.ref f56))))))))))))))))))))))))))))))))))))))))))))))))))))))))) = true)
    (cc : (PySem.W.codeIn K cd1 "made_of" && (PySem.W.codeIn K cd2 "pair_of" && (PySem.W.codeIn K cd3 "figure_number" && (PySem.W.codeIn K cd4 "sign_numbered" && (PySem.W.codeIn K cd5 "is_whole" && (PySem.W.codeIn K cd6 "NoAddress.__init__" && (PySem.W.codeIn K cd7 "Cursor.__init__" && (PySem.W.codeIn K cd8 "Cursor.at_end" && (PySem.W.codeIn K cd9 "Cursor.take" && (PySem.W.codeIn K cd10 "Cursor.passes" && (PySem.W.codeIn K cd11 "door_with" && (PySem.W.codeIn K cd12 "slashed" && (PySem.W.codeIn K cd13 "is_dot" && (PySem.W.codeIn K cd14 "go_up" && (PySem.W.codeIn K cd15 "_law_cell_at" && (PySem.W.codeIn K cd16 "_law_text" && (PySem.W.codeIn K cd17 "_law_scheme" && (PySem.W.codeIn K cd18 "_law_pair_of" && (PySem.W.codeIn K cd19 "_law_bent" && (PySem.W.codeIn K cd20 "is_text" && (PySem.W.codeIn K cd21 "sign_of" && (PySem.W.codeIn K cd22 "written" && (PySem.W.codeIn K cd23 "Cursor.sees" && (PySem.W.codeIn K cd24 "steps_left" && (PySem.W.codeIn K cd25 "_law_step" && (PySem.W.codeIn K cd26 "_law_question" && (PySem.W.codeIn K cd27 "_law_mark" && (PySem.W.codeIn K cd28 "_law_written" && (PySem.W.codeIn K cd29 "is_scheme" && (PySem.W.codeIn K cd30 "taken_door" && (PySem.W.codeIn K cd31 "taken_pair" && (PySem.W.codeIn K cd32 "shown_house" && (PySem.W.codeIn K cd33 "shown_way" && (PySem.W.codeIn K cd34 "shown_asked" && (PySem.W.codeIn K cd35 "shown_mark" && (PySem.W.codeIn K cd36 "gone" && (PySem.W.codeIn K cd37 "_law_way" && (PySem.W.codeIn K cd38 "_law_asked_text" && (PySem.W.codeIn K cd39 "taken_scheme" && (PySem.W.codeIn K cd40 "taken_text" && (PySem.W.codeIn K cd41 "shown_question" && (PySem.W.codeIn K cd42 "with_way_gone" && (PySem.W.codeIn K cd43 "_law_address" && (PySem.W.codeIn K cd44 "_law_shown" && (PySem.W.codeIn K cd45 "taken_way" && (PySem.W.codeIn K cd46 "taken_value" && (PySem.W.codeIn K cd47 "taken_mark" && (PySem.W.codeIn K cd48 "taken_filled_text" && (PySem.W.codeIn K cd49 "show" && (PySem.W.codeIn K cd50 "plain" && (PySem.W.codeIn K cd51 "taken_house" && (PySem.W.codeIn K cd52 "taken_question" && (PySem.W.codeIn K cd53 "read" && (PySem.W.codeIn K cd54 "plain_text" && (PySem.W.codeIn K cd55 "_law_place" && (PySem.W.codeIn K cd56 "law")))))))))))))))))))))))))))))))))))))))))))))))))))))))) = true) :
    ∃ fd : FuncData, (∀ (s : Shared) (v : Value), BindsTo s fd ⟨[v], []⟩ [("_law_script", v)]) ∧ ∀ base : Heap, K.In base → base.Ns mainGlobals mg → FnOk l.prog w K mg base CX0 10 fa fd ["_law_script"] (oqj K) := by
  simp only [Bool.and_eq_true] at kk cc
  obtain ⟨k1, k2, k3, k4, k5, k6, k7, k8, k9, k10, k11, k12, k13, k14, k15, k16, k17, k18, k19, k20, k21, k22, k23, k24, k25, k26, k27, k28, k29, k30, k31, k32, k33, k34, k35, k36, k37, k38, k39, k40, k41, k42, k43, k44, k45, k46, k47, k48, k49, k50, k51, k52, k53, k54, k55, k56⟩ := kk
  obtain ⟨c1, c2, c3, c4, c5, c6, c7, c8, c9, c10, c11, c12, c13, c14, c15, c16, c17, c18, c19, c20, c21, c22, c23, c24, c25, c26, c27, c28, c29, c30, c31, c32, c33, c34, c35, c36, c37, c38, c39, c40, c41, c42, c43, c44, c45, c46, c47, c48, c49, c50, c51, c52, c53, c54, c55, c56⟩ := cc
  have e := hfa.symm.trans (PySem.W.mg_of X Gl a56)
  have e2 : f56 = fa := by cases e; rfl
  subst e2
  let g : G K mg := {
    hqP := f1, gqB := _, fq3 := aqg (st := eqG) l1 c1 k1, hqk := PySem.W.mg_of X Gl a1,
    hqF := (aqg (st := eqG) l1 c1 k1).binds (ps := ["text", "signs"]) fun _ _ _ _ _ _ us hl => match us, hl with | [_, _], _ => rfl,
    hqu := f2, gqx := _, jqG := aqg (st := eqz) l2 c2 k2, lq6 := PySem.W.mg_of X Gl a2,
    mqk := (aqg (st := eqz) l2 c2 k2).binds (ps := ["sign"]) fun _ _ _ _ _ _ us hl => match us, hl with | [_], _ => rfl,
    cqX := f3, cqF := _, cqZ := aqg (st := aq9) l3 c3 k3, eqs := PySem.W.mg_of X Gl a3,
    eqo := (aqg (st := aq9) l3 c3 k3).binds (ps := ["figure"]) fun _ _ _ _ _ _ us hl => match us, hl with | [_], _ => rfl,
    cq9 := f4, cqB := _, eqw := aqg (st := bqc) l4 c4 k4, gqd := PySem.W.mg_of X Gl a4,
    gqj := (aqg (st := bqc) l4 c4 k4).binds (ps := ["number"]) fun _ _ _ _ _ _ us hl => match us, hl with | [_], _ => rfl,
    gqG := f5, fqI := _, iqc := aqg (st := dqh) l5 c5 k5, kqX := PySem.W.mg_of X Gl a5,
    kqW := (aqg (st := dqh) l5 c5 k5).binds (ps := ["address"]) fun _ _ _ _ _ _ us hl => match us, hl with | [_], _ => rfl,
    bqq := f6, bqi := _, dqW := aqg (st := aqG) l6 c6 k6,
    aqF := (aqg (st := aqG) l6 c6 k6).binds (ps := ["self", "at"]) fun _ _ _ _ _ _ us hl => match us, hl with | [_, _], _ => rfl,
    cqj := f7, bqU := _, eq7 := aqg (st := aqP) l7 c7 k7,
    fqh := (aqg (st := aqP) l7 c7 k7).binds (ps := ["self", "text"]) fun _ _ _ _ _ _ us hl => match us, hl with | [_, _], _ => rfl,
    cqW := f8, cqz := _, fq1 := aqg (st := bqa) l8 c8 k8, dqO := ⟨a8, i8, k8⟩,
    eqx := (aqg (st := bqa) l8 c8 k8).binds (ps := ["self"]) fun _ _ _ _ _ _ us hl => match us, hl with | [_], _ => rfl,
    dq9 := f9, dqo := _, hqR := aqg (st := bqC) l9 c9 k9, bqP := ⟨a9, i9, k9⟩,
    cqr := (aqg (st := bqC) l9 c9 k9).binds (ps := ["self"]) fun _ _ _ _ _ _ us hl => match us, hl with | [_], _ => rfl,
    dqe := f10, cqD := _, gqu := aqg (st := aq8) l10 c10 k10, aqA := ⟨a10, i10, k10⟩,
    aqD := (aqg (st := aq8) l10 c10 k10).binds (ps := ["self", "text"]) fun _ _ _ _ _ _ us hl => match us, hl with | [_, _], _ => rfl,
    fqk := f11, eqP := _, fqr := aqg (st := cqS) l11 c11 k11, hqb := PySem.W.mg_of X Gl a11,
    gq4 := (aqg (st := cqS) l11 c11 k11).binds (ps := ["door", "cursor"]) fun _ _ _ _ _ _ us hl => match us, hl with | [_, _], _ => rfl,
    hqs := f12, gqH := _, jqy := aqg (st := eqk) l12 c12 k12, lq8 := PySem.W.mg_of X Gl a12,
    mqp := (aqg (st := eqk) l12 c12 k12).binds (ps := ["rooted", "texts", "ends"]) fun _ _ _ _ _ _ us hl => match us, hl with | [_, _, _], _ => rfl,
    jqh := f13, hqg := _, lqw := aqg (st := fqA) l13 c13 k13, nqR := PySem.W.mg_of X Gl a13,
    nq9 := (aqg (st := fqA) l13 c13 k13).binds (ps := ["step"]) fun _ _ _ _ _ _ us hl => match us, hl with | [_], _ => rfl,
    lqH := f14, jqa := _, nqv := aqg (st := gq8) l14 c14 k14, pq3 := PySem.W.mg_of X Gl a14,
    qqU := (aqg (st := gq8) l14 c14 k14).binds (ps := ["left", "rooted"]) fun _ _ _ _ _ _ us hl => match us, hl with | [_, _], _ => rfl,
    dqz := f15, dqc := _, aqK := aqg (st := bqk) l15 c15 k15, aqS := PySem.W.mg_of X Gl a15,
    aqR := (aqg (st := bqk) l15 c15 k15).binds (ps := ["_law_script", "_law_k"]) fun _ _ _ _ _ _ us hl => match us, hl with | [_, _], _ => rfl,
    fqp := f16, eqT := _, cqM := aqg (st := cqH) l16 c16 k16, dqi := PySem.W.mg_of X Gl a16,
    dqk := (aqg (st := cqH) l16 c16 k16).binds (ps := ["_law_cell", "_law_most"]) fun _ _ _ _ _ _ us hl => match us, hl with | [_, _], _ => rfl,
    dq3 := f17, dqy := _, fqC := aqg (st := bqG) l17 c17 k17, hqd := PySem.W.mg_of X Gl a17,
    hqf := (aqg (st := bqG) l17 c17 k17).binds (ps := ["_law_cell"]) fun _ _ _ _ _ _ us hl => match us, hl with | [_], _ => rfl,
    dqw := f18, cq1 := _, eq1 := aqg (st := bqn) l18 c18 k18, gqM := PySem.W.mg_of X Gl a18,
    gqS := (aqg (st := bqn) l18 c18 k18).binds (ps := ["_law_sign", "_law_great"]) fun _ _ _ _ _ _ us hl => match us, hl with | [_, _], _ => rfl,
    fqF := f19, eqZ := _, gq0 := aqg (st := cqQ) l19 c19 k19, jqw := PySem.W.mg_of X Gl a19,
    jq4 := (aqg (st := cqQ) l19 c19 k19).binds (ps := ["_law_text_here", "_law_cell"]) fun _ _ _ _ _ _ us hl => match us, hl with | [_, _], _ => rfl,
    hqq := f20, gqF := _, kqg := aqg (st := eqt) l20 c20 k20, nqc := PySem.W.mg_of X Gl a20,
    mqh := (aqg (st := eqt) l20 c20 k20).binds (ps := ["thing"]) fun _ _ _ _ _ _ us hl => match us, hl with | [_], _ => rfl,
    hqw := f21, gqy := _, jqN := aqg (st := eqp) l21 c21 k21, mq4 := PySem.W.mg_of X Gl a21,
    mqX := (aqg (st := eqp) l21 c21 k21).binds (ps := ["figures"]) fun _ _ _ _ _ _ us hl => match us, hl with | [_], _ => rfl,
    hqU := f22, gqA := _, dqE := aqg (st := eqF) l22 c22 k22, eqC := PySem.W.mg_of X Gl a22,
    eqr := (aqg (st := eqF) l22 c22 k22).binds (ps := ["text"]) fun _ _ _ _ _ _ us hl => match us, hl with | [_], _ => rfl,
    eqd := f23, dqv := _, hqQ := aqg (st := bqH) l23 c23 k23, cqy := ⟨a23, i23, k23⟩,
    cq8 := (aqg (st := bqH) l23 c23 k23).binds (ps := ["self", "signs"]) fun _ _ _ _ _ _ us hl => match us, hl with | [_, _], _ => rfl,
    eqL := f24, dq4 := _, gqn := aqg (st := cqh) l24 c24 k24, iqz := PySem.W.mg_of X Gl a24,
    iqC := (aqg (st := cqh) l24 c24 k24).binds (ps := ["steps", "rooted"]) fun _ _ _ _ _ _ us hl => match us, hl with | [_, _], _ => rfl,
    fqt := f25, eqR := _, gq5 := aqg (st := cqR) l25 c25 k25, jqx := PySem.W.mg_of X Gl a25,
    jqo := (aqg (st := cqR) l25 c25 k25).binds (ps := ["_law_cell"]) fun _ _ _ _ _ _ us hl => match us, hl with | [_], _ => rfl,
    cq6 := f26, cqE := _, eqn := aqg (st := bqd) l26 c26 k26, fq8 := PySem.W.mg_of X Gl a26,
    gqi := (aqg (st := bqd) l26 c26 k26).binds (ps := ["_law_cell"]) fun _ _ _ _ _ _ us hl => match us, hl with | [_], _ => rfl,
    fqH := f27, eqQ := _, gq9 := aqg (st := cqK) l27 c27 k27, kqq := PySem.W.mg_of X Gl a27,
    jqD := (aqg (st := cqK) l27 c27 k27).binds (ps := ["_law_cell"]) fun _ _ _ _ _ _ us hl => match us, hl with | [_], _ => rfl,
    dqB := f28, cq4 := _, bql := aqg (st := bqo) l28 c28 k28, bqN := PySem.W.mg_of X Gl a28,
    bqM := (aqg (st := bqo) l28 c28 k28).binds (ps := ["_law_text_here", "_law_free", "_law_bits"]) fun _ _ _ _ _ _ us hl => match us, hl with | [_, _, _], _ => rfl,
    fqi := f29, eqU := _, gq2 := aqg (st := cqN) l29 c29 k29, jqm := PySem.W.mg_of X Gl a29,
    jqj := (aqg (st := cqN) l29 c29 k29).binds (ps := ["thing"]) fun _ _ _ _ _ _ us hl => match us, hl with | [_], _ => rfl,
    eqV := f30, dq2 := _, fqZ := aqg (st := cqc) l30 c30 k30, iqQ := PySem.W.mg_of X Gl a30,
    iqu := (aqg (st := cqc) l30 c30 k30).binds (ps := ["cursor"]) fun _ _ _ _ _ _ us hl => match us, hl with | [_], _ => rfl,
    eqW := f31, eqc := _, fq9 := aqg (st := bq0) l31 c31 k31, iqA := PySem.W.mg_of X Gl a31,
    iqN := (aqg (st := bq0) l31 c31 k31).binds (ps := ["cursor"]) fun _ _ _ _ _ _ us hl => match us, hl with | [_], _ => rfl,
    dqZ := f32, dqC := _, fqE := aqg (st := bqF) l32 c32 k32, hqA := PySem.W.mg_of X Gl a32,
    hqm := (aqg (st := bqF) l32 c32 k32).binds (ps := ["house", "door"]) fun _ _ _ _ _ _ us hl => match us, hl with | [_, _], _ => rfl,
    fqo := f33, eqN := _, gq3 := aqg (st := cqJ) l33 c33 k33, jqR := PySem.W.mg_of X Gl a33,
    jqB := (aqg (st := cqJ) l33 c33 k33).binds (ps := ["way"]) fun _ _ _ _ _ _ us hl => match us, hl with | [_], _ => rfl,
    dq1 := f34, dqq := _, fqv := aqg (st := bqI) l34 c34 k34, hqB := PySem.W.mg_of X Gl a34,
    hqr := (aqg (st := bqI) l34 c34 k34).binds (ps := ["name", "value"]) fun _ _ _ _ _ _ us hl => match us, hl with | [_, _], _ => rfl,
    eqM := f35, dq8 := _, fqT := aqg (st := cqg) l35 c35 k35, iqH := PySem.W.mg_of X Gl a35,
    iqR := (aqg (st := cqg) l35 c35 k35).binds (ps := ["mark"]) fun _ _ _ _ _ _ us hl => match us, hl with | [_], _ => rfl,
    oqp := f36, lqX := _, pqK := aqg (st := kqc) l36 c36 k36, sqt := PySem.W.mg_of X Gl a36,
    sqo := (aqg (st := kqc) l36 c36 k36).binds (ps := ["way"]) fun _ _ _ _ _ _ us hl => match us, hl with | [_], _ => rfl,
    gqJ := f37, fqs := _, iqq := aqg (st := dqm) l37 c37 k37, kqT := PySem.W.mg_of X Gl a37,
    kq0 := (aqg (st := dqm) l37 c37 k37).binds (ps := ["_law_cells", "_law_rooted", "_law_ends"]) fun _ _ _ _ _ _ us hl => match us, hl with | [_, _, _], _ => rfl,
    cqo := f38, bqT := _, dqg := aqg (st := aqO) l38 c38 k38, fqa := PySem.W.mg_of X Gl a38,
    fqd := (aqg (st := aqO) l38 c38 k38).binds (ps := ["_law_question_here", "_law_bits"]) fun _ _ _ _ _ _ us hl => match us, hl with | [_, _], _ => rfl,
    dqu := f39, cq0 := _, eq2 := aqg (st := bqj) l39 c39 k39, gqN := PySem.W.mg_of X Gl a39,
    gqW := (aqg (st := bqj) l39 c39 k39).binds (ps := ["cursor"]) fun _ _ _ _ _ _ us hl => match us, hl with | [_], _ => rfl,
    eqI := f40, dqa := _, iqt := T40, kqy := dt40_0, bqx := iqp (st := bqv) l40 c40 k40, bq8 := PySem.W.mg_of X Gl a40,
    iqD := (iqp (st := bqv) l40 c40 k40).binds (ps := ["cursor", "free", "most"]) (ds := []) d40 fun _ _ _ _ _ _ us hl => match us, hl with | [_, _, _], _ => ⟨_, rfl, rfl⟩,
    cql := (iqp (st := bqv) l40 c40 k40).binds (ps := ["cursor", "free", "most"]) (ds := [.none]) d40 fun _ _ _ _ _ _ us hl => by obtain ⟨x, y, rfl⟩ := qqr hl; exact ⟨_, rfl, rfl⟩,
    cqA := f41, cqq := _, dqQ := aqg (st := aqZ) l41 c41 k41, fqO := PySem.W.mg_of X Gl a41,
    fqQ := (aqg (st := aqZ) l41 c41 k41).binds (ps := ["question"]) fun _ _ _ _ _ _ us hl => match us, hl with | [_], _ => rfl,
    cq5 := f42, cqG := _, eqy := aqg (st := bqb) l42 c42 k42, fq4 := PySem.W.mg_of X Gl a42,
    gqv := (aqg (st := bqb) l42 c42 k42).binds (ps := ["address"]) fun _ _ _ _ _ _ us hl => match us, hl with | [_], _ => rfl,
    dqp := f43, cqY := _, eq3 := aqg (st := bqm) l43 c43 k43, gqT := PySem.W.mg_of X Gl a43,
    gqP := (aqg (st := bqm) l43 c43 k43).binds (ps := ["_law_script", "_law_first", "_law_whole", "_law_cells"]) fun _ _ _ _ _ _ us hl => match us, hl with | [_, _, _, _], _ => rfl,
    eqS := f44, dq0 := _, gqo := aqg (st := cqd) l44 c44 k44, iqF := PySem.W.mg_of X Gl a44,
    iqJ := (aqg (st := cqd) l44 c44 k44).binds (ps := ["_law_address_here", "_law_bits"]) fun _ _ _ _ _ _ us hl => match us, hl with | [_, _], _ => rfl,
    fqx := f45, eqX := _, gq7 := aqg (st := cqP) l45 c45 k45, jq2 := PySem.W.mg_of X Gl a45,
    jqu := (aqg (st := cqP) l45 c45 k45).binds (ps := ["cursor", "must_be_rooted"]) fun _ _ _ _ _ _ us hl => match us, hl with | [_, _], _ => rfl,
    dq7 := f46, dqx := _, dq6 := aqg (st := bqz) l46 c46 k46, fqj := PySem.W.mg_of X Gl a46,
    fqJ := (aqg (st := bqz) l46 c46 k46).binds (ps := ["cursor"]) fun _ _ _ _ _ _ us hl => match us, hl with | [_], _ => rfl,
    eqY := f47, eqf := _, gql := aqg (st := bq1) l47 c47 k47, iqy := PySem.W.mg_of X Gl a47,
    iqw := (aqg (st := bq1) l47 c47 k47).binds (ps := ["cursor"]) fun _ _ _ _ _ _ us hl => match us, hl with | [_], _ => rfl,
    bqy := f48, aq2 := _, equ := T48, fqY := dt48_0, bqE := iqp (st := aqB) l48 c48 k48, cqI := PySem.W.mg_of X Gl a48,
    eqD := (iqp (st := aqB) l48 c48 k48).binds (ps := ["cursor", "free", "most"]) (ds := []) d48 fun _ _ _ _ _ _ us hl => match us, hl with | [_, _, _], _ => ⟨_, rfl, rfl⟩,
    dqX := (iqp (st := aqB) l48 c48 k48).binds (ps := ["cursor", "free", "most"]) (ds := [.none]) d48 fun _ _ _ _ _ _ us hl => by obtain ⟨x, y, rfl⟩ := qqr hl; exact ⟨_, rfl, rfl⟩,
    oqc := f49, lqe := _, nq3 := aqg (st := jqF) l49 c49 k49, pqS := PySem.W.mg_of X Gl a49,
    pqF := (aqg (st := jqF) l49 c49 k49).binds (ps := ["address"]) fun _ _ _ _ _ _ us hl => match us, hl with | [_], _ => rfl,
    lqS := f50, fd_plain := _, lqZ := aqg (st := gqY) l50 c50 k50, nqp := PySem.W.mg_of X Gl a50,
    nqn := (aqg (st := gqY) l50 c50 k50).binds (ps := ["address"]) fun _ _ _ _ _ _ us hl => match us, hl with | [_], _ => rfl,
    eqa := f51, dqs := _, fqq := aqg (st := bqJ) l51 c51 k51, hqW := PySem.W.mg_of X Gl a51,
    hqX := (aqg (st := bqJ) l51 c51 k51).binds (ps := ["cursor"]) fun _ _ _ _ _ _ us hl => match us, hl with | [_], _ => rfl,
    cqC := f52, cqk := _, dqL := aqg (st := aq0) l52 c52 k52, fqL := PySem.W.mg_of X Gl a52,
    fqN := (aqg (st := aq0) l52 c52 k52).binds (ps := ["cursor"]) fun _ _ _ _ _ _ us hl => match us, hl with | [_], _ => rfl,
    oqm := f53, lqA := _, mqA := aqg (st := jqU) l53 c53 k53, oqk := PySem.W.mg_of X Gl a53,
    nqT := (aqg (st := jqU) l53 c53 k53).binds (ps := ["text"]) fun _ _ _ _ _ _ us hl => match us, hl with | [_], _ => rfl,
    eqJ := f54, eqb := _, cqU := aqg (st := bq2) l54 c54 k54, dqK := PySem.W.mg_of X Gl a54,
    dqG := (aqg (st := bq2) l54 c54 k54).binds (ps := ["text"]) fun _ _ _ _ _ _ us hl => match us, hl with | [_], _ => rfl,
    eq0 := f55, dq5 := _, dqJ := aqg (st := bq9) l55 c55 k55, eqK := PySem.W.mg_of X Gl a55,
    eqO := (aqg (st := bq9) l55 c55 k55).binds (ps := ["_law_thing", "_law_plainly"]) fun _ _ _ _ _ _ us hl => match us, hl with | [_, _], _ => rfl,
    rqj := f56, mqt := _, wqv := aqg (st := nql) l56 c56 k56, wqQ := PySem.W.mg_of X Gl a56,
    wqH := (aqg (st := nql) l56 c56 k56).binds (ps := ["_law_script"]) fun _ _ _ _ _ _ us hl => match us, hl with | [_], _ => rfl,
    jqi := jqi, nqL := PySem.W.mg_of X Gl e_SIGNS,
    gqg := gqg, mqg := PySem.W.mg_of X Gl e_LETTERS,
    aqU := aqU, dqI := PySem.W.mg_of X Gl e_LETTERS_AND_FIGURES,
    fq7 := fq7, jqq := PySem.W.mg_of X Gl e_FIGURES,
    jqT := jqT, nqu := PySem.W.mg_of X Gl e_PLAIN,
    bqY := bqY, eqj := PySem.W.mg_of X Gl e_FREE_IN_STEPS,
    bqf := bqf, bqD := PySem.W.mg_of X Gl e_FREE_IN_QUESTIONS,
    bq6 := bq6, fq6 := PySem.W.mg_of X Gl e_FREE_IN_MARKS,
    cqu := cqu, eq4 := PySem.W.mg_of X Gl e_FIRST_NUMBER,
    cq2 := cq2, hqK := PySem.W.mg_of X Gl e_LAST_NUMBER,
    bqs := bqs, dql := PySem.W.mg_of X Gl e_NUMBER_LEFT_OUT,
    cqb := cqb, bqX := PySem.W.mg_of X Gl e_SMALL_FIGURES,
    cqe := cqe, eql := PySem.W.mg_of X Gl e_GREAT_FIGURES,
    hqT := hqT, jqg := PySem.W.mg_of X Gl e_SCHEME,
    jqM := jqM, nqE := PySem.W.mg_of X Gl e_HOUSE,
    lq9 := lq9, qq1 := PySem.W.mg_of X Gl e_DOOR,
    qqO := qqO, rq4 := PySem.W.mg_of X Gl e_WAY,
    fqe := fqe, iqo := PySem.W.mg_of X Gl e_QUESTION,
    mqe := mqe, sqL := PySem.W.mg_of X Gl e_MARK,
    hqo := hqo, hqc := PySem.W.mg_of X Gl e_ROOTED,
    jqL := jqL, nqO := PySem.W.mg_of X Gl e_STEPS,
    mqo := mqo, qqL := PySem.W.mg_of X Gl e_ENDS,
    bqK := bqK, fqS := PySem.W.mg_of X Gl e_LONGEST_SCHEME,
    bq7 := bq7, gqq := PySem.W.mg_of X Gl e_LONGEST_HOUSE,
    eqA := eqA, kqe := PySem.W.mg_of X Gl e_LAST_DOOR,
    cqf := cqf, fqX := PySem.W.mg_of X Gl e_FIRST_FIGURES,
    lq7 := lq7, nq7 := PySem.W.mg_of X Gl e_STAY,
    t_UP := t_UP, c_UP := PySem.W.mg_of X Gl e_UP,
    uq1 := PySem.W.mg_none_of X Gl z_all,
    sqj := PySem.W.mg_none_of X Gl z_ord,
    iqS := PySem.W.mg_none_of X Gl z_len,
    oq9 := PySem.W.mg_none_of X Gl z_int,
    lqV := PySem.W.mg_none_of X Gl z_range,
    cqT := PySem.W.mg_none_of X Gl z_isinstance,
    pqt := PySem.W.mg_none_of X Gl z_str,
    iqr := PySem.W.mg_none_of X Gl z_tuple,
    iqE := PySem.W.mg_none_of X Gl z_ValueError,
    aqt := eC_NoAddress, bq4 := PySem.W.mg_of X Gl en_NoAddress,
    gqE := eC_WayError, kqS := PySem.W.mg_of X Gl en_WayError,
    fqb := eC_NoValue, mqZ := PySem.W.mg_of X Gl en_NoValue,
    hq7 := eC_NoRow, qqm := PySem.W.mg_of X Gl en_NoRow,
    dqj := eC_NoPattern, jq3 := PySem.W.mg_of X Gl en_NoPattern,
    gqz := eC_NoName, nqV := PySem.W.mg_of X Gl en_NoName,
    gqD := eC_NoBase, oqG := PySem.W.mg_of X Gl en_NoBase,
    kq2 := ⟨ew1_WayError, ew2_WayError, ew3_WayError⟩,
    cqO := ⟨el0_NoAddress, el1_NoAddress, el2_NoAddress, el3_NoAddress, el4_NoAddress, el5_NoAddress⟩,
    cqL := ⟨ey_NoAddress, i6, ek_NoAddress⟩,
    fq0 := ⟨es_NoAddress, eo_NoAddress, ef_NoAddress_at, eh_NoAddress⟩,
    eqm := ⟨⟨el0_NoAddress, el1_NoAddress, el2_NoAddress, el3_NoAddress, el4_NoAddress, el5_NoAddress⟩, ef_NoAddress_at, eh_NoAddress⟩,
    cqt := eu_NoAddress_WayError,
    bqV := ei_NoAddress_NoAddress,
    bqQ := ei_NoAddress_ValueError,
    aqx := ea_NoAddress_NoBase_NoName_NoPattern_NoRow_NoValue,
    aqs := kC_Cursor, aqi := ⟨pg_Cursor, hd_Cursor, po_Cursor, sa_Cursor⟩, nqZ := PySem.W.mg_of X Gl aC_Cursor,
    aq4 := nf_Cursor_text,
    aqp := nf_Cursor_place,
    nqU := ⟨mk_Cursor, a7, i7, kc_Cursor⟩ }
  exact ⟨g.mqt, fun s v => .of_eq rfl, fun base _ _ => wqx g⟩
theorem walk {l : PySem.W.OpenLaw} {q : Program} {loose : List Str} {XP : (Str → Option Value) → Heap → Prop} {YP : World → Heap → Prop} {d : DefRec} {K : Params → PySem.W.Frag} (hn : l.most = some 63) (hdf : d.params.defaults = [])
    (hY : ∀ (w : World) (h : Heap), YP w h → (K w.params).In h)
    (F : ∀ (w : World) (mg : Str → Option Value) (fa : Addr) (h : Heap), (K w.params).In h → h.Ns mainGlobals mg → mg d.name = some (.ref fa) →
      ∃ fd : FuncData, (∀ (s : Shared) (u : Value), BindsTo s fd ⟨[u], []⟩ [("_law_script", u)]) ∧ ∀ base : Heap, (K w.params).In base → base.Ns mainGlobals mg → FnOk l.prog w (K w.params) mg base CX0 10 fa fd ["_law_script"] (oqj (K w.params))) :
    PySem.W.WalkO q loose XP YP l.row.toRowW d [] (fun f vs => PySem.call f vs) :=
  L2.uqI (n := 63) (k := 10) (x := "_law_script") (CX := fun _ => CX0) (sp := fun w => oqj (K w.params)) hn (by decide) hdf ⟨rfl, by decide, by decide⟩ hY F (fun _ _ a ns hl _ hS => ⟨a, ns, rfl, hS, hl, fun _ => rfl⟩) fun _ _ _ _ _ z => z
end Wm
theorem PySem.W.Fast.tw13905419584166838334 : True := trivial
theorem PySem.W.Fast.tw5710175148753136531 : True := trivial
theorem PySem.W.Fast.tw8071117075762906438 : True := trivial
theorem PySem.W.Fast.tw17745599191344158999 : True := trivial
theorem PySem.W.Fast.tw3653834869193188036 : True := trivial
theorem PySem.W.Fast.tw9107837882691854835 : True := trivial
theorem PySem.W.Fast.tw16255462509042560362 : True := trivial
theorem PySem.W.Fast.tw16629271629105841355 : True := trivial
theorem PySem.W.Fast.tw4228840839133280075 : True := trivial
theorem PySem.W.Fast.tw5489335177129146127 : True := trivial
theorem PySem.W.Fast.tw10222507103249759253 : True := trivial
theorem PySem.W.Fast.tw18300870176948961185 : True := trivial
theorem PySem.W.Fast.tw11077947449670806428 : True := trivial
theorem PySem.W.Fast.tw5458478257948735683 : True := trivial
theorem PySem.W.Fast.tw2564699040236831300 : True := trivial
theorem PySem.W.Fast.tw14580332611458163839 : True := trivial
theorem PySem.W.Fast.tw15984519953928964458 : True := trivial
theorem PySem.W.Fast.tw7892503340883348159 : True := trivial
theorem PySem.W.Fast.tw418621966352972234 : True := trivial
theorem PySem.W.Fast.tw9679635538309687926 : True := trivial
theorem PySem.W.Fast.tw484350240411308696 : True := trivial
theorem PySem.W.Fast.tw8036952480348836903 : True := trivial
theorem PySem.W.Fast.tw5872811828697439007 : True := trivial
theorem PySem.W.Fast.tw4930606603327870880 : True := trivial
theorem PySem.W.Fast.tw9686805690632577944 : True := trivial
theorem PySem.W.Fast.tw16541970981302312531 : True := trivial
theorem PySem.W.Fast.tw4324933995639520636 : True := trivial
theorem PySem.W.Fast.tw15559749474715964230 : True := trivial
theorem PySem.W.Fast.tw2746793327076740307 : True := trivial
theorem PySem.W.Fast.tw10141557629588063774 : True := trivial
theorem PySem.W.Fast.tw9615691634942767253 : True := trivial
theorem PySem.W.Fast.tw140027031466236746 : True := trivial
theorem PySem.W.Fast.tw5787747524428186990 : True := trivial
theorem PySem.W.Fast.tw7868073390519925559 : True := trivial
theorem PySem.W.Fast.tw14968939891422575782 : True := trivial
theorem PySem.W.Fast.tw9106923743081595716 : True := trivial
theorem PySem.W.Fast.tw5395129561711134826 : True := trivial
theorem PySem.W.Fast.tw16132286278538337322 : True := trivial
theorem PySem.W.Fast.tw5552876606261540390 : True := trivial
theorem PySem.W.Fast.tw5078448664008660734 : True := trivial
theorem PySem.W.Fast.tw14987591639142475999 : True := trivial
theorem PySem.W.Fast.tw3990552691893914096 : True := trivial
theorem PySem.W.Fast.tw9389975170736334968 : True := trivial
theorem PySem.W.Fast.tw1475739759370393098 : True := trivial
theorem PySem.W.Fast.tw4207533412020090286 : True := trivial
theorem PySem.W.Fast.tw10730008057495056570 : True := trivial
theorem PySem.W.Fast.tw4354361453664988693 : True := trivial
theorem PySem.W.Fast.tw13721872929274850306 : True := trivial
theorem PySem.W.Fast.tw887142664212097622 : True := trivial
theorem PySem.W.Fast.tw11638162466424418859 : True := trivial
theorem PySem.W.Fast.tw11979665086746893223 : True := trivial
theorem PySem.W.Fast.tw12398106638799960365 : True := trivial
theorem PySem.W.Fast.tw16930564157431956835 : True := trivial
theorem PySem.W.Fast.tw7447018867619963975 : True := trivial
theorem PySem.W.Fast.tw18337898125888894030 : True := trivial
theorem PySem.W.Fast.tw3121238960208366804 : True := trivial
theorem PySem.W.Fast.tw2052979943385784566 : True := trivial
theorem PySem.W.Fast.tw5579085254451276926 : True := trivial
theorem PySem.W.Fast.tw11473812477920104752 : True := trivial
theorem PySem.W.Fast.tw5889569581907906511 : True := trivial
theorem PySem.W.Fast.tw17293659158768631174 : True := trivial
theorem PySem.W.Fast.tw17815671354799727362 : True := trivial
theorem PySem.W.Fast.tw3654431493535393426 : True := trivial
theorem PySem.W.Fast.tw15078858826986565109 : True := trivial
theorem PySem.W.Fast.tw18016552570191654021 : True := trivial
theorem PySem.W.Fast.tw13639555836524597454 : True := trivial
theorem PySem.W.Fast.tw1951309885796781556 : True := trivial
theorem PySem.W.Fast.tw6611077017899082062 : True := trivial
theorem PySem.W.Fast.tw14805002366235132435 : True := trivial
theorem PySem.W.Fast.tw16748663268981156905 : True := trivial
theorem PySem.W.Fast.tw556829267420702569 : True := trivial
theorem PySem.W.Fast.tw1021692020037509874 : True := trivial
theorem PySem.W.Fast.tw17534889748520700765 : True := trivial
theorem PySem.W.Fast.tw11852542486430229054 : True := trivial
theorem PySem.W.Fast.tw12740415917010544053 : True := trivial
theorem PySem.W.Fast.tw13879887541125213284 : True := trivial
theorem PySem.W.Fast.tw12838116495402832977 : True := trivial
theorem PySem.W.Fast.tw1925596865373757659 : True := trivial
theorem PySem.W.Fast.tw390660480486153246 : True := trivial
theorem PySem.W.Fast.tw4144754639571537763 : True := trivial
theorem PySem.W.Fast.tw6625429959857998750 : True := trivial
theorem PySem.W.Fast.tw13854189336812844324 : True := trivial
theorem PySem.W.Fast.tw13910246916979321188 : True := trivial
theorem PySem.W.Fast.tw2647886148649678757 : True := trivial
theorem PySem.W.Fast.tw12716840594891317254 : True := trivial
theorem PySem.W.Fast.tw3009948290047037753 : True := trivial
theorem PySem.W.Fast.tw11813466427408864684 : True := trivial
theorem PySem.W.Fast.tw4179060537959970039 : True := trivial
theorem PySem.W.Fast.tw17411367284546037085 : True := trivial
theorem PySem.W.Fast.tw10133725748009626135 : True := trivial
theorem PySem.W.Fast.tw11216668791314324947 : True := trivial
theorem PySem.W.Fast.tw8885537288367135574 : True := trivial
theorem PySem.W.Fast.tw3522542432438927934 : True := trivial
theorem PySem.W.Fast.tw347219521284622212 : True := trivial
theorem PySem.W.Fast.tw14717739124203756975 : True := trivial
theorem PySem.W.Fast.tw12403790236953003742 : True := trivial
theorem PySem.W.Fast.tw4716886040028057636 : True := trivial
theorem PySem.W.Fast.tw220480790997611851 : True := trivial
theorem PySem.W.Fast.tw11444809510527849308 : True := trivial
theorem PySem.W.Fast.tw6426420853702518753 : True := trivial
theorem PySem.W.Fast.tw13940882259329450941 : True := trivial
theorem PySem.W.Fast.tw8701243210164342152 : True := trivial
theorem PySem.W.Fast.tw14633200578616949075 : True := trivial
theorem PySem.W.Fast.tw12928727403430367817 : True := trivial
theorem PySem.W.Fast.tw14340156664605818663 : True := trivial
theorem PySem.W.Fast.tw8521562072390920435 : True := trivial
theorem PySem.W.Fast.tw17358069887771141979 : True := trivial
theorem PySem.W.Fast.tw11109257557191797020 : True := trivial
theorem PySem.W.Fast.tw17079480210573420346 : True := trivial
theorem PySem.W.Fast.tw11218648703767397790 : True := trivial
theorem PySem.W.Fast.tw13418387453317254453 : True := trivial
theorem PySem.W.Fast.tw7818974211437263076 : True := trivial
theorem PySem.W.Fast.tw8112837552055651895 : True := trivial
theorem PySem.W.Fast.tw4957451742781299839 : True := trivial
theorem PySem.W.Fast.tw11141206206962553551 : True := trivial
theorem PySem.W.Fast.tw1404459256236570596 : True := trivial
theorem PySem.W.Fast.tw10368545880993692890 : True := trivial
theorem PySem.W.Fast.tw7437354738288491327 : True := trivial
theorem PySem.W.Fast.tw10395825706274248297 : True := trivial
theorem PySem.W.Fast.tw16758590746229702309 : True := trivial
theorem PySem.W.Fast.tw4704720582151692026 : True := trivial
theorem PySem.W.Fast.tw11992137031826530753 : True := trivial
theorem PySem.W.Fast.tw12315041047003321351 : True := trivial
theorem PySem.W.Fast.tw6356849200535834759 : True := trivial
theorem PySem.W.Fast.tw6908893361377121448 : True := trivial
theorem PySem.W.Fast.tw11738963826405070165 : True := trivial
theorem PySem.W.Fast.tw2575305556719317728 : True := trivial
theorem PySem.W.Fast.tw14782337719207052858 : True := trivial
theorem PySem.W.Fast.tw14569529844791251241 : True := trivial
theorem PySem.W.Fast.tw13953640963336397553 : True := trivial
theorem PySem.W.Fast.tw6482232762825855418 : True := trivial
theorem PySem.W.Fast.tw4197239061457571162 : True := trivial
theorem PySem.W.Fast.tw4162876599319682872 : True := trivial
theorem PySem.W.Fast.tw8802718790912003586 : True := trivial
theorem PySem.W.Fast.tw7441433648433558546 : True := trivial
theorem PySem.W.Fast.tw2516457841007745547 : True := trivial
theorem PySem.W.Fast.tw7219559989725797285 : True := trivial
theorem PySem.W.Fast.tw10846626646652217963 : True := trivial
theorem PySem.W.Fast.tw16705528219070097373 : True := trivial
theorem PySem.W.Fast.tw17687348315230670968 : True := trivial
theorem PySem.W.Fast.tw3722402955806851764 : True := trivial
theorem PySem.W.Fast.tw3339786097878588373 : True := trivial
theorem PySem.W.Fast.tw284334434378021628 : True := trivial
open PySem PySem.W PyProof.Rows
set_option maxRecDepth 100000 in
set_option maxHeartbeats 0 in
theorem PySem.Challenge.cw_waymark_k43_plain_texts_refused_holds : PySem.Challenge.rw_waymark_k43_plain_texts_refused.Holds := by
  w_on; o_law; k_head; (case hw => w_witness2)
  k_fill
  refine Wm.walk (l := PySem.Challenge.rw_waymark_k43_plain_texts_refused) rfl rfl (fun w h Y => PySem.W.kIn_of Y) ?F
  case F =>
    intro w mg fa h KX G hmg
    refine' Wm.wqc (dt40_0 := 0) (dt48_0 := 0) KX G hmg ?aC_Cursor ?en_NoAddress ?en_WayError ?en_NoValue ?en_NoRow ?en_NoPattern ?en_NoName ?en_NoBase ?a1 ?l1 ?a2 ?l2 ?a3 ?l3 ?a4 ?l4 ?a5 ?l5 ?a6 ?i6 ?l6 ?a7 ?i7 ?l7 ?a8 ?i8 ?l8 ?a9 ?i9 ?l9 ?a10 ?i10 ?l10 ?a11 ?l11 ?a12 ?l12 ?a13 ?l13 ?a14 ?l14 ?a15 ?l15 ?a16 ?l16 ?a17 ?l17 ?a18 ?l18 ?a19 ?l19 ?a20 ?l20 ?a21 ?l21 ?a22 ?l22 ?a23 ?i23 ?l23 ?a24 ?l24 ?a25 ?l25 ?a26 ?l26 ?a27 ?l27 ?a28 ?l28 ?a29 ?l29 ?a30 ?l30 ?a31 ?l31 ?a32 ?l32 ?a33 ?l33 ?a34 ?l34 ?a35 ?l35 ?a36 ?l36 ?a37 ?l37 ?a38 ?l38 ?a39 ?l39 ?a40 ?l40 ?d40 ?a41 ?l41 ?a42 ?l42 ?a43 ?l43 ?a44 ?l44 ?a45 ?l45 ?a46 ?l46 ?a47 ?l47 ?a48 ?l48 ?d48 ?a49 ?l49 ?a50 ?l50 ?a51 ?l51 ?a52 ?l52 ?a53 ?l53 ?a54 ?l54 ?a55 ?l55 ?a56 ?l56 ?e_SIGNS ?e_LETTERS ?e_LETTERS_AND_FIGURES ?e_FIGURES ?e_PLAIN ?e_FREE_IN_STEPS ?e_FREE_IN_QUESTIONS ?e_FREE_IN_MARKS ?e_FIRST_NUMBER ?e_LAST_NUMBER ?e_NUMBER_LEFT_OUT ?e_SMALL_FIGURES ?e_GREAT_FIGURES ?e_SCHEME ?e_HOUSE ?e_DOOR ?e_WAY ?e_QUESTION ?e_MARK ?e_ROOTED ?e_STEPS ?e_ENDS ?e_LONGEST_SCHEME ?e_LONGEST_HOUSE ?e_LAST_DOOR ?e_FIRST_FIGURES ?e_STAY ?e_UP ?z_all ?z_ord ?z_len ?z_int ?z_range ?z_isinstance ?z_str ?z_tuple ?z_ValueError ?ew1_WayError ?ew2_WayError ?ew3_WayError ?el0_NoAddress ?el1_NoAddress ?el2_NoAddress ?el3_NoAddress ?el4_NoAddress ?el5_NoAddress ?ey_NoAddress ?ek_NoAddress ?es_NoAddress ?eo_NoAddress ?eh_NoAddress ?ef_NoAddress_at ?eu_NoAddress_WayError ?ei_NoAddress_NoAddress ?ei_NoAddress_ValueError ?ea_NoAddress_NoBase_NoName_NoPattern_NoRow_NoValue ?pg_Cursor ?hd_Cursor ?po_Cursor ?sa_Cursor ?mk_Cursor ?kc_Cursor ?nf_Cursor_text ?nf_Cursor_place ?kk ?cc
    (case aC_Cursor => k_is)
    (case en_NoAddress => first | k_is | kit_is | with_unfolding_all kernel_rfl | with_unfolding_all rfl)
    (case en_WayError => first | k_is | kit_is | with_unfolding_all kernel_rfl | with_unfolding_all rfl)
    (case en_NoValue => first | k_is | kit_is | with_unfolding_all kernel_rfl | with_unfolding_all rfl)
    (case en_NoRow => first | k_is | kit_is | with_unfolding_all kernel_rfl | with_unfolding_all rfl)
    (case en_NoPattern => first | k_is | kit_is | with_unfolding_all kernel_rfl | with_unfolding_all rfl)
    (case en_NoName => first | k_is | kit_is | with_unfolding_all kernel_rfl | with_unfolding_all rfl)
    (case en_NoBase => first | k_is | kit_is | with_unfolding_all kernel_rfl | with_unfolding_all rfl)
    (case a1 => k_is)
    (case l1 => k_is)
    (case a2 => k_is)
    (case l2 => k_is)
    (case a3 => k_is)
    (case l3 => k_is)
    (case a4 => k_is)
    (case l4 => k_is)
    (case a5 => k_is)
    (case l5 => k_is)
    (case a6 => k_is)
    (case i6 => k_is)
    (case l6 => k_is)
    (case a7 => k_is)
    (case i7 => k_is)
    (case l7 => k_is)
    (case a8 => k_is)
    (case i8 => k_is)
    (case l8 => k_is)
    (case a9 => k_is)
    (case i9 => k_is)
    (case l9 => k_is)
    (case a10 => k_is)
    (case i10 => k_is)
    (case l10 => k_is)
    (case a11 => k_is)
    (case l11 => k_is)
    (case a12 => k_is)
    (case l12 => k_is)
    (case a13 => k_is)
    (case l13 => k_is)
    (case a14 => k_is)
    (case l14 => k_is)
    (case a15 => k_is)
    (case l15 => k_is)
    (case a16 => k_is)
    (case l16 => k_is)
    (case a17 => k_is)
    (case l17 => k_is)
    (case a18 => k_is)
    (case l18 => k_is)
    (case a19 => k_is)
    (case l19 => k_is)
    (case a20 => k_is)
    (case l20 => k_is)
    (case a21 => k_is)
    (case l21 => k_is)
    (case a22 => k_is)
    (case l22 => k_is)
    (case a23 => k_is)
    (case i23 => k_is)
    (case l23 => k_is)
    (case a24 => k_is)
    (case l24 => k_is)
    (case a25 => k_is)
    (case l25 => k_is)
    (case a26 => k_is)
    (case l26 => k_is)
    (case a27 => k_is)
    (case l27 => k_is)
    (case a28 => k_is)
    (case l28 => k_is)
    (case a29 => k_is)
    (case l29 => k_is)
    (case a30 => k_is)
    (case l30 => k_is)
    (case a31 => k_is)
    (case l31 => k_is)
    (case a32 => k_is)
    (case l32 => k_is)
    (case a33 => k_is)
    (case l33 => k_is)
    (case a34 => k_is)
    (case l34 => k_is)
    (case a35 => k_is)
    (case l35 => k_is)
    (case a36 => k_is)
    (case l36 => k_is)
    (case a37 => k_is)
    (case l37 => k_is)
    (case a38 => k_is)
    (case l38 => k_is)
    (case a39 => k_is)
    (case l39 => k_is)
    (case a40 => k_is)
    (case l40 => k_is)
    (case d40 => k_is)
    (case a41 => k_is)
    (case l41 => k_is)
    (case a42 => k_is)
    (case l42 => k_is)
    (case a43 => k_is)
    (case l43 => k_is)
    (case a44 => k_is)
    (case l44 => k_is)
    (case a45 => k_is)
    (case l45 => k_is)
    (case a46 => k_is)
    (case l46 => k_is)
    (case a47 => k_is)
    (case l47 => k_is)
    (case a48 => k_is)
    (case l48 => k_is)
    (case d48 => k_is)
    (case a49 => k_is)
    (case l49 => k_is)
    (case a50 => k_is)
    (case l50 => k_is)
    (case a51 => k_is)
    (case l51 => k_is)
    (case a52 => k_is)
    (case l52 => k_is)
    (case a53 => k_is)
    (case l53 => k_is)
    (case a54 => k_is)
    (case l54 => k_is)
    (case a55 => k_is)
    (case l55 => k_is)
    (case a56 => k_is)
    (case l56 => k_is)
    (case e_SIGNS => k_is)
    (case e_LETTERS => k_is)
    (case e_LETTERS_AND_FIGURES => k_is)
    (case e_FIGURES => k_is)
    (case e_PLAIN => k_is)
    (case e_FREE_IN_STEPS => k_is)
    (case e_FREE_IN_QUESTIONS => k_is)
    (case e_FREE_IN_MARKS => k_is)
    (case e_FIRST_NUMBER => k_is)
    (case e_LAST_NUMBER => k_is)
    (case e_NUMBER_LEFT_OUT => k_is)
    (case e_SMALL_FIGURES => k_is)
    (case e_GREAT_FIGURES => k_is)
    (case e_SCHEME => k_is)
    (case e_HOUSE => k_is)
    (case e_DOOR => k_is)
    (case e_WAY => k_is)
    (case e_QUESTION => k_is)
    (case e_MARK => k_is)
    (case e_ROOTED => k_is)
    (case e_STEPS => k_is)
    (case e_ENDS => k_is)
    (case e_LONGEST_SCHEME => k_is)
    (case e_LONGEST_HOUSE => k_is)
    (case e_LAST_DOOR => k_is)
    (case e_FIRST_FIGURES => k_is)
    (case e_STAY => k_is)
    (case e_UP => k_is)
    (case z_all => k_is)
    (case z_ord => k_is)
    (case z_len => k_is)
    (case z_int => k_is)
    (case z_range => k_is)
    (case z_isinstance => k_is)
    (case z_str => k_is)
    (case z_tuple => k_is)
    (case z_ValueError => k_is)
    (case ew1_WayError => first | k_is | kit_is | with_unfolding_all kernel_rfl | with_unfolding_all rfl)
    (case ew2_WayError => first | k_is | kit_is | with_unfolding_all kernel_rfl | with_unfolding_all rfl)
    (case ew3_WayError => first | k_is | kit_is | with_unfolding_all kernel_rfl | with_unfolding_all rfl)
    (case el0_NoAddress => first | k_is | kit_is | with_unfolding_all kernel_rfl | with_unfolding_all rfl)
    (case el1_NoAddress => first | k_is | kit_is | with_unfolding_all kernel_rfl | with_unfolding_all rfl)
    (case el2_NoAddress => first | k_is | kit_is | with_unfolding_all kernel_rfl | with_unfolding_all rfl)
    (case el3_NoAddress => first | k_is | kit_is | with_unfolding_all kernel_rfl | with_unfolding_all rfl)
    (case el4_NoAddress => first | k_is | kit_is | with_unfolding_all kernel_rfl | with_unfolding_all rfl)
    (case el5_NoAddress => first | k_is | kit_is | with_unfolding_all kernel_rfl | with_unfolding_all rfl)
    (case ey_NoAddress => first | k_is | kit_is | with_unfolding_all kernel_rfl | with_unfolding_all rfl)
    (case ek_NoAddress => first | k_is | kit_is | with_unfolding_all kernel_rfl | with_unfolding_all rfl)
    (case es_NoAddress => first | k_is | kit_is | with_unfolding_all kernel_rfl | with_unfolding_all rfl)
    (case eo_NoAddress => first | k_is | kit_is | with_unfolding_all kernel_rfl | with_unfolding_all rfl)
    (case eh_NoAddress => first | k_is | kit_is | with_unfolding_all kernel_rfl | with_unfolding_all rfl)
    (case ef_NoAddress_at => first | k_is | kit_is | with_unfolding_all kernel_rfl | with_unfolding_all rfl)
    (case eu_NoAddress_WayError => first | k_is | kit_is | with_unfolding_all kernel_rfl | with_unfolding_all rfl)
    (case ei_NoAddress_NoAddress => first | k_is | kit_is | with_unfolding_all kernel_rfl | with_unfolding_all rfl)
    (case ei_NoAddress_ValueError => first | k_is | kit_is | with_unfolding_all kernel_rfl | with_unfolding_all rfl)
    (case ea_NoAddress_NoBase_NoName_NoPattern_NoRow_NoValue => first | k_is | kit_is | with_unfolding_all kernel_rfl | with_unfolding_all rfl)
    (case pg_Cursor => k_is)
    (case hd_Cursor => k_is)
    (case po_Cursor => k_is)
    (case sa_Cursor => k_is)
    (case mk_Cursor => k_is)
    (case kc_Cursor => k_is)
    (case nf_Cursor_text => k_is)
    (case nf_Cursor_place => k_is)
    (case kk => first | k_is | with_unfolding_all kernel_rfl | with_unfolding_all rfl)
    (case cc => first | k_is | with_unfolding_all kernel_rfl | with_unfolding_all rfl)
