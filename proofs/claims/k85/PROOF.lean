import PyProof.Rows.All
import Wide.All
import OpenK.AllK
import Wide.FinOn
import Lean
import PyProof.EqAt
import PyProof.EqKinds
import PyProof.TupleCall
import PySem.Challenge.RW_waymark_k85_links_come_back
set_option Elab.async false
set_option linter.all false
set_option maxRecDepth 100000
namespace L2
open PySem PySem.Spec PyProof.Rows
abbrev Key := Sum Int Str
def keyIs : Key → Value → Bool
 | .inl k, v => Value.isInt k v
 | .inr x, v => Value.isStrOf x v
def keyH (w : World) : Key → Int
 | .inl k => hashInt k
 | .inr x => hashStr w x
theorem bqd : ∀ {k : Key} {v : Value}, keyIs k v = true → (∃ i t, k = Sum.inl i ∧ v = Value.int i t) ∨ (∃ x t, k = Sum.inr x ∧ v = Value.str x t)
 | .inl i, v, h => by
  obtain ⟨t, e⟩ := Value.isInt_shape (k := i) (v := v) h
  exact .inl ⟨i, t, rfl, e⟩
 | .inr x, v, h => by
  obtain ⟨t, e⟩ := Value.isStrOf_shape (x := x) (v := v) h
  exact .inr ⟨x, t, rfl, e⟩
theorem sqh (a b : Int) : decide ((Sum.inl a : Key) = Sum.inl b) = (a == b) := by
 by_cases e : a = b
 ·subst e; simp
 ·have h : ¬ (Sum.inl a : Key) = Sum.inl b := fun q => e (Sum.inl.inj q)
  rw [decide_eq_false h]
  exact (beq_eq_false_iff_ne.mpr e).symm
theorem sq1 (a b : Str) : decide ((Sum.inr a : Key) = Sum.inr b) = decide (a = b) := by
 by_cases e : a = b
 ·subst e; simp
 ·have h : ¬ (Sum.inr a : Key) = Sum.inr b := fun q => e (Sum.inr.inj q)
  rw [decide_eq_false h, decide_eq_false e]
theorem sqs (a : Int) (b : Str) : decide ((Sum.inl a : Key) = Sum.inr b) = false := decide_eq_false (fun q => nomatch q)
theorem tqL (a : Str) (b : Int) : decide ((Sum.inr a : Key) = Sum.inl b) = false := decide_eq_false (fun q => nomatch q)
def mixKind (prog : Program) (w : World) : PySem.KeyKind prog w Key where
 is := keyIs
 hash := keyH w
 inj := fun v a b ha hb => by
  rcases bqd ha with ⟨i, t, rfl, rfl⟩ | ⟨x, t, rfl, rfl⟩
  ·rcases bqd hb with ⟨j, u, rfl, e⟩ | ⟨y, u, rfl, e⟩
   ·injection e with e1 _; rw [e1]
   ·exact nomatch e
  ·rcases bqd hb with ⟨j, u, rfl, e⟩ | ⟨y, u, rfl, e⟩
   ·exact nomatch e
   ·injection e with e1 _; rw [e1]
 byValue := fun k v h => by
  rcases bqd h with ⟨i, t, rfl, rfl⟩ | ⟨x, t, rfl, rfl⟩ <;> rfl
 pyHash := fun hv h => by
  rcases bqd hv with ⟨i, t, rfl, rfl⟩ | ⟨x, t, rfl, rfl⟩
  ·exact wpAny_pyHash_int h
  ·exact wpAny_pyHash_str h
 eqBool := fun hu hv h => by
  rcases bqd hu with ⟨i, t, rfl, rfl⟩ | ⟨x, t, rfl, rfl⟩
  ·rcases bqd hv with ⟨j, u, rfl, rfl⟩ | ⟨y, u, rfl, rfl⟩
   ·rw [sqh] at h; exact wpAny_eqBool_int h
   ·rw [sqs] at h; exact SeqAt.EqAt.int_str i t y u _ _ _ _ h
  ·rcases bqd hv with ⟨j, u, rfl, rfl⟩ | ⟨y, u, rfl, rfl⟩
   ·rw [tqL] at h; exact SeqAt.EqAt.str_int x t j u _ _ _ _ h
   ·rw [sq1] at h; exact wpAny_eqBool_str h
 «strs» := fun k x t v h => by
  rcases bqd h with ⟨i, u, rfl, e⟩ | ⟨y, u, rfl, e⟩
  ·exact nomatch e
  ·injection e with e1 _
   subst e1
   cases v <;> rfl
inductive V where
 | non | bl (b : Bool) | int (i : Int) | str (x : Str) | byt (b : Array UInt8) | flt (b : UInt64) | ref (a : Addr) | ty (n : String)
 deriving DecidableEq
def RelV : V → Value → Prop
 | .non, u => u = Value.none
 | .bl b, u => u = Value.bool b
 | .int i, u => ∃ t, u = Value.int i t
 | .str x, u => ∃ t, u = Value.str x t
 | .byt b, u => ∃ t, u = Value.bytes b t
 | .flt b, u => ∃ t, u = Value.float b t
 | .ref a, u => u = Value.ref a
 | .ty n, u => u = Value.type n
abbrev Vals : List V → List Value → Prop := Paired RelV
theorem Vals.length {xs : List V} {us : List Value} (r : Vals xs us) : xs.length = us.length := Paired.length r
theorem Vals.get : ∀ {xs : List V} {us : List Value} {i : Nat} {x : V}, Vals xs us → xs[i]? = some x → ∃ u, us[i]? = some u ∧ RelV x u
 | _, _, _, _, .nil, e => by simp at e
 | _, _, 0, _, .cons r _, e => by simp at e; subst e; exact ⟨_, rfl, r⟩
 | _, _, i + 1, x, .cons _ t, e => by
  obtain ⟨u, h1, h2⟩ := Vals.get (i := i) (x := x) t (by simpa using e)
  exact ⟨u, by simpa using h1, h2⟩
theorem Vals.append : ∀ {xs ys : List V} {us ws : List Value}, Vals xs us → Vals ys ws → Vals (xs ++ ys) (us ++ ws)
 | _, _, _, _, .nil, s => s
 | _, _, _, _, .cons r t, s => .cons r (Vals.append t s)
theorem Vals.take : ∀ {xs : List V} {us : List Value} (n : Nat), Vals xs us → Vals (xs.take n) (us.take n)
 | _, _, 0, _ => .nil
 | _, _, _ + 1, .nil => .nil
 | _, _, n + 1, .cons r t => .cons r (Vals.take n t)
theorem Vals.drop : ∀ {xs : List V} {us : List Value} (n : Nat), Vals xs us → Vals (xs.drop n) (us.drop n)
 | _, _, 0, r => r
 | _, _, _ + 1, .nil => .nil
 | _, _, n + 1, .cons _ t => Vals.drop n t
def RelO : Option V → Option Value → Prop
 | some v, some u => RelV v u
 | none, none => True
 | _, _ => False
def KV {κ : Type} : List (κ × V) → List (κ × Value) → Prop := Paired fun (p : κ × V) (q : κ × Value) => p.1 = q.1 ∧ RelV p.2 q.2
def kV : Key → V
 | .inl i => .int i
 | .inr x => .str x
inductive HO where
 | lst (xs : List V)
 | tup (xs : List V)
 | dK (kvs : List (Key × V)) | dT (kvs : List (List Key × V))
 | set (S : Int → Bool) (n : Nat)
 | ins (C dx : Addr) (fs : List (Str × V))
 | own (x : Addr)
 | xd (fs : List (Str × V))
 | met (f x : Addr)
 | rng (lo hi : Int)
 | frz (o : Obj) (u : HO)
 | tbl (ps : Array Value)
 | ext (φ : Heap → Prop)
abbrev Hp := Addr → Option HO
def upd (H : Hp) (a : Addr) (o : HO) : Hp := fun b => if b = a then some o else H b
theorem aqk {H : Hp} {a : Addr} {o : HO} : upd H a o a = some o := by unfold upd; rw [if_pos rfl]
theorem aqA {H : Hp} {a b : Addr} {o : HO} (h : b ≠ a) : upd H a o b = H b := by unfold upd; rw [if_neg h]
theorem qqG {H : Hp} {a : Addr} {o u : HO} : upd (upd H a o) a u = upd H a u := by
 funext b; unfold upd; split <;> rfl
theorem pqA {H : Hp} {a b : Addr} {o u : HO} (h : H a = some o) (h' : H b = some u) (d : o ≠ u) : a ≠ b := by
 intro e; subst e; rw [h] at h'; exact d (Option.some.inj h')
theorem aqx {H : Hp} {a b : Addr} {o : HO} (h : H a = some o) (h' : H b = none) : a ≠ b := by
 intro e; subst e; rw [h] at h'; cases h'
section
variable (P : Program) (w : World)
def ObjOk (H : Hp) (h : Heap) (a : Addr) : HO → Prop
 | .lst xs => xs.length ≤ sizeLine ∧ ∃ (its : List Value) (n : Nat), Vals xs its ∧ h.get? a = some { cls := .type "list", data := .seq its.toArray n }
 | .tup xs => xs.length ≤ sizeLine ∧ ∃ its : List Value, Vals xs its ∧ IsTup h a its.toArray
 | .dK kvs => kvs.length ≤ sizeLine ∧ (a == sysModules) = false ∧ ∃ vs, KV kvs vs ∧ h.DictOf (mixKind P w) a vs
 | .dT kvs => kvs.length ≤ sizeLine ∧ (a == sysModules) = false ∧ ∃ xs : List (List Key × Addr × Value),
   Paired (fun (p : List Key × V) (q : List Key × Addr × Value) => p.1 = q.1 ∧ H q.2.1 = some (.tup (p.1.map kV)) ∧ RelV p.2 q.2.2) kvs xs ∧
   ∃ o es ep, h.get? a = some o ∧ o.ExactDict ∧ o.data = .dict es ep ∧ es.toList = xs.map (entryOfKey (tupleKind (mixKind P w))) ∧ (xs.map (·.1)).Nodup
 | .set S n => h.SetOf (intKind P w) a S n
 | .ins C dx fs => H dx = some (.own a) ∧ fs.length ≤ 1000 ∧ dx ≠ a ∧ h.get? a = some (PySem.W.instObj C dx) ∧
   ∃ mA, h.Ns1 dx mA ∧ (∀ f, RelO (fs.lookup f) (mA f)) ∧ PySem.Within mA (fs.map (·.1))
 | .own _ => ∃ o, h.get? a = some o
 | .xd fs => ∃ mA, h.Ns1 a mA ∧ ∀ f, RelO (fs.lookup f) (mA f)
 | .rng lo hi => ∃ t u v, h.get? a = some { cls := .type "range", data := .fields #[.int lo t, .int hi u, .int 1 v] }
 | .frz o u => h.get? a = some o ∧ ObjOk H h a u
 | .tbl ps => h.get? a = some { cls := .none, data := .fields ps }
 | .met f x => h.get? a = some (PySem.W.methodObj (.ref f) (.ref x))
 | .ext φ => φ h ∧ (∃ o, h.get? a = some o) ∧ ∀ h1 h2 : Heap, φ h1 → (∀ o, h1.get? a = some o → h2.get? a = some o) → φ h2
def HOk (H : Hp) (h : Heap) : Prop := ∀ a o, H a = some o → ObjOk P w H h a o
end
section
variable {P : Program} {w : World} {H H' : Hp} {h h' : Heap} {a : Addr} {o : HO}
theorem ObjOk.lt (x : ObjOk P w H h a o) : a < h.objs.size := by
 cases o with
 | lst xs => obtain ⟨_, _, _, _, e⟩ := x; exact Heap.lt_size e
 | tup xs => obtain ⟨_, _, _, p⟩ := x; exact p.lt
 | dK kvs => obtain ⟨_, _, _, _, o, _, _, e, _⟩ := x; exact Heap.lt_size e
 | dT kvs => obtain ⟨_, _, _, _, o, _, _, e, _⟩ := x; exact Heap.lt_size e
 | set S n => obtain ⟨o, _, _, _, e, _⟩ := x; exact Heap.lt_size e
 | ins C dx fs => obtain ⟨_, _, _, e, _⟩ := x; exact Heap.lt_size e
 | own y => obtain ⟨_, e⟩ := x; exact Heap.lt_size e
 | xd fs => obtain ⟨_, ⟨_, _, _, e, _⟩, _⟩ := x; exact Heap.lt_size e
 | rng lo hi => obtain ⟨_, _, _, e⟩ := x; exact Heap.lt_size e
 | frz ob u => obtain ⟨e, _⟩ := x; exact Heap.lt_size e
 | tbl ps => exact Heap.lt_size (show h.get? a = some _ from x)
 | met f y => exact Heap.lt_size (show h.get? a = some _ from x)
 | ext φ => obtain ⟨_, ⟨_, e⟩, _⟩ := x; exact Heap.lt_size e
theorem Paired.mapP {α β : Type} {F G : α → β → Prop} : ∀ {l₁ : List α} {l₂ : List β}, Paired F l₁ l₂ → (∀ a b, F a b → G a b) → Paired G l₁ l₂
 | _, _, .nil, _ => .nil
 | _, _, .cons r t, f => .cons (f _ _ r) (Paired.mapP t f)
theorem ObjOk.stay (x : ObjOk P w H h a o) (k : ∀ b u, (b = a ∨ H b = some (.own a)) → h.get? b = some u → h'.get? b = some u)
  (ho : ∀ b, H b = some (.own a) → H' b = some (.own a)) (ht : ∀ b xs, H b = some (.tup xs) → H' b = some (.tup xs)) : ObjOk P w H' h' a o := by
 induction o with
 | lst xs => obtain ⟨z, its, n, r, e⟩ := x; exact ⟨z, its, n, r, k _ _ (.inl rfl) e⟩
 | tup xs => obtain ⟨z, its, r, ob, e, c⟩ := x; exact ⟨z, its, r, ob, k _ _ (.inl rfl) e, c⟩
 | dK kvs => obtain ⟨z, y, vs, r, ob, es, ep, e, c⟩ := x; exact ⟨z, y, vs, r, ob, es, ep, k _ _ (.inl rfl) e, c⟩
 | dT kvs =>
  obtain ⟨z, y, xs, r, ob, es, ep, e, c⟩ := x
  exact ⟨z, y, xs, Paired.mapP r fun p q z => ⟨z.1, ht _ _ z.2.1, z.2.2⟩, ob, es, ep, k _ _ (.inl rfl) e, c⟩
 | set S n => obtain ⟨ob, es, ep, t, e, c⟩ := x; exact ⟨ob, es, ep, t, k _ _ (.inl rfl) e, c⟩
 | ins C dx fs =>
  obtain ⟨d, z, ne, e, mA, ⟨od, es, ep, e2, c⟩, r⟩ := x
  exact ⟨ho _ d, z, ne, k _ _ (.inl rfl) e, mA, ⟨od, es, ep, k _ _ (.inr d) e2, c⟩, r⟩
 | own y => obtain ⟨ob, e⟩ := x; exact ⟨ob, k _ _ (.inl rfl) e⟩
 | xd fs => obtain ⟨mA, ⟨od, es, ep, e, c⟩, r⟩ := x; exact ⟨mA, ⟨od, es, ep, k _ _ (.inl rfl) e, c⟩, r⟩
 | rng lo hi => obtain ⟨t, u, v, e⟩ := x; exact ⟨t, u, v, k _ _ (.inl rfl) e⟩
 | frz ob u ih => obtain ⟨e, q⟩ := x; exact ⟨k _ _ (.inl rfl) e, ih q⟩
 | tbl ps =>
  have e : h.get? a = some { cls := .none, data := .fields ps } := x
  show h'.get? a = some { cls := .none, data := .fields ps }
  exact k a _ (.inl rfl) e
 | met f y =>
  have e : h.get? a = some (PySem.W.methodObj (.ref f) (.ref y)) := x
  show h'.get? a = some (PySem.W.methodObj (.ref f) (.ref y))
  exact k a _ (.inl rfl) e
 | ext φ => obtain ⟨p, ⟨o, e⟩, st⟩ := x; exact ⟨st _ _ p fun o q => k _ _ (.inl rfl) q, ⟨o, k _ _ (.inl rfl) e⟩, st⟩
theorem HOk.lt (x : HOk P w H h) (e : H a = some o) : a < h.objs.size := (x a o e).lt
theorem HOk.fresh (x : HOk P w H h) (e : h.objs.size ≤ a) : H a = none := by
 cases q : H a with
 | none => rfl
 | some u => exact absurd (Nat.lt_of_lt_of_le (x.lt q) e) (Nat.lt_irrefl _)
theorem HOk.kept (x : HOk P w H h) (k : ∀ b u, h.get? b = some u → h'.get? b = some u) : HOk P w H h' := fun a o e =>
 (x a o e).stay (fun b u _ q => k b u q) (fun _ q => q) fun _ _ q => q
theorem HOk.laid (x : HOk P w H h) (k : ∀ b u, h.get? b = some u → h'.get? b = some u) (hp : h.objs.size ≤ a) (new : ObjOk P w (upd H a o) h' a o) : HOk P w (upd H a o) h' := fun b u e => by
 have hn := x.fresh hp
 by_cases hb : b = a
 ·subst hb; rw [aqk] at e; cases e; exact new
 ·rw [aqA hb] at e
  exact (x b u e).stay (fun c v _ q => k c v q) (fun c q => by rw [aqA (aqx q hn)]; exact q) fun c xs q => by rw [aqA (aqx q hn)]; exact q
end
def Rd (H : Hp) (a : Addr) (u : HO) : Prop := H a = some u ∨ ∃ o, H a = some (.frz o u)
theorem Rd.ok {P : Program} {w : World} {H : Hp} {h : Heap} {a : Addr} {u : HO} (r : Rd H a u) (x : HOk P w H h) : ObjOk P w H h a u := by
 rcases r with r | ⟨o, r⟩
 ·exact x a u r
 ·obtain ⟨_, q⟩ := x a _ r
  exact q
def Mut : Option HO → Prop
 | some (.lst _) => True
 | some (.dK _) => True
 | some (.dT _) => True
 | some (.set _ _) => True
 | some (.ins _ _ _) => True
 | some (.ext _) => True
 | _ => False
section
variable {P : Program} {w : World} {H : Hp} {h h' : Heap} {x e : Addr} {o' : HO}
theorem HOk.write (ok : HOk P w H h) (mu : Mut (H x)) (he : e = x ∨ H e = some (.own x)) (k : ∀ b u, b ≠ e → h.get? b = some u → h'.get? b = some u) (heo : ∃ u, h'.get? e = some u)
  (new : ObjOk P w (upd H x o') h' x o') : HOk P w (upd H x o') h' := fun b u q => by
 have nown : ∀ c y, H c = some (.own y) → c ≠ x := fun c y r z => by subst z; rw [r] at mu; exact mu
 have ntup : ∀ c xs, H c = some (.tup xs) → c ≠ x := fun c xs r z => by subst z; rw [r] at mu; exact mu
 by_cases hb : b = x
 ·subst hb; rw [aqk] at q; cases q; exact new
 ·rw [aqA hb] at q
  by_cases hbe : b = e
  ·have q' : H b = some (.own x) := by
    rcases he with z | z
    ·exact absurd (hbe.trans z) hb
    ·rw [hbe]; exact z
   rw [q] at q'; cases q'
   obtain ⟨v, hv⟩ := heo
   exact ⟨v, by rw [hbe]; exact hv⟩
  ·refine (ok b u q).stay (fun c v hc r => k c v ?_ r) (fun c r => by rw [aqA (nown c b r)]; exact r) fun c xs r => by rw [aqA (ntup c xs r)]; exact r
   rcases hc with rfl | hc
   ·exact hbe
   ·rintro rfl
    rcases he with z | z
    ·exact nown c b hc z
    ·rw [hc] at z; cases z; exact hb rfl
end
structure Un (fs ex : List Addr) (H H' : Hp) (h h' : Heap) : Prop where
 keep : ∀ b o, h.get? b = some o → H b = none → b ∉ fs → b ∉ ex → h'.get? b = some o
 slot : ∀ b o, h.get? b = some o → H b = none → b ∈ fs → b ∉ ex → ∃ sl, h'.get? b = some { o with slots := sl }
 free : ∀ b o, h.get? b = some o → H b = none → b ∉ ex → H' b = none
 there : ∀ b o, h.get? b = some o → b ∉ ex → ∃ o', h'.get? b = some o'
 tups : ∀ b xs, H b = some (.tup xs) → H' b = some (.tup xs)
 frzs : ∀ b o u, H b = some (.frz o u) → H' b = some (.frz o u)
 tbls : ∀ b ps, H b = some (.tbl ps) → ∃ more, H' b = some (.tbl (ps ++ more))
section
variable {fs fs' ex ex' : List Addr} {H H1 H2 : Hp} {h h1 h2 h' : Heap} {a x e : Addr} {o : HO}
theorem Un.any (u : Un fs ex H H1 h h1) {b : Addr} {ob : Obj} (q : h.get? b = some ob) (n : H b = none) (hx : b ∉ ex) : ∃ sl, h1.get? b = some { ob with slots := sl } := by
 by_cases hb : b ∈ fs
 ·exact u.slot b ob q n hb hx
 ·exact ⟨ob.slots, u.keep b ob q n hb hx⟩
theorem Un.kept (k : ∀ b u, h.get? b = some u → h'.get? b = some u) : Un fs ex H H h h' :=
 ⟨fun b ob q _ _ _ => k b ob q, fun b ob q _ _ _ => ⟨ob.slots, k b ob q⟩, fun _ _ _ n _ => n, fun b ob q _ => ⟨ob, k b ob q⟩, fun _ _ q => q, fun _ _ _ q => q, fun _ ps q => ⟨#[], by rw [q]; simp⟩⟩
theorem Un.refl : Un fs ex H H h h := Un.kept fun _ _ q => q
theorem Un.laid (k : ∀ b u, h.get? b = some u → h'.get? b = some u) (hp : h.objs.size ≤ a) (hn : H a = none) : Un fs ex H (upd H a o) h h' where
 keep := fun b u q _ _ _ => k b u q
 slot := fun b u q _ _ _ => ⟨u.slots, k b u q⟩
 free := fun b u q n _ => by rw [aqA (Nat.ne_of_lt (Nat.lt_of_lt_of_le (Heap.lt_size q) hp))]; exact n
 there := fun b u q _ => ⟨u, k b u q⟩
 tups := fun b xs q => by rw [aqA (aqx q hn)]; exact q
 frzs := fun b u xs q => by rw [aqA (aqx q hn)]; exact q
 tbls := fun b ps q => ⟨#[], by rw [aqA (aqx q hn), q]; simp⟩
theorem Un.write (mu : Mut (H x)) (he : e = x ∨ H e = some (.own x)) (k : ∀ b u, b ≠ e → h.get? b = some u → h'.get? b = some u) (heo : ∃ u, h'.get? e = some u) : Un fs ex H (upd H x o) h h' := by
 have hx : ∀ b, H b = none → b ≠ x := fun b n z => by subst z; rw [n] at mu; exact mu
 have hb : ∀ b, H b = none → b ≠ e := fun b n z => by
  subst z
  rcases he with r | r
  ·exact hx b n r
  ·rw [n] at r; cases r
 have hm : ∀ b u, H b = some u → ¬ Mut (some u) → b ≠ x := fun b u q nm z => by subst z; rw [q] at mu; exact nm mu
 refine ⟨fun b u q n _ _ => k b u (hb b n) q, fun b u q n _ _ => ⟨u.slots, k b u (hb b n) q⟩, fun b u q n _ => by rw [aqA (hx b n)]; exact n, fun b u q _ => ?_,
  fun b xs q => by rw [aqA (hm b _ q fun z => z)]; exact q, fun b u xs q => by rw [aqA (hm b _ q fun z => z)]; exact q, fun b ps q => ⟨#[], by rw [aqA (hm b _ q fun z => z), q]; simp⟩⟩
 by_cases hbe : b = e
 ·subst hbe; exact heo
 ·exact ⟨u, k b u hbe q⟩
end
def trk (h : Heap) (H : Hp) : List Addr := (List.range h.objs.size).filter fun a => (H a).isSome
def hidT (h : Heap) (H : Hp) : Heap := PySem.W.hideAll h (trk h H)
theorem nqd (h : Heap) (H : Hp) : (hidT h H).objs.size = h.objs.size := PySem.W.hideAll_size _ _
theorem pq8 {h : Heap} {H : Hp} {b : Addr} {o : Obj} (e : h.get? b = some o) (n : H b = none) : (hidT h H).get? b = some o :=
 PySem.W.hideAll_get _ e fun hm => by
  have q : (H b).isSome = true := (List.mem_filter.mp hm).2
  rw [n] at q; simp at q
theorem rqZ {h : Heap} {H : Hp} {b : Addr} {o : Obj} (e : (hidT h H).get? b = some o) : h.get? b = some o ∧ H b = none := by
 have e' : h.get? b = some o := PySem.W.of_hideAll (trk h H) e
 refine ⟨e', ?_⟩
 cases q : H b with
 | none => rfl
 | some x =>
  have hm : b ∈ trk h H := List.mem_filter.mpr ⟨List.mem_range.mpr (Heap.lt_size e'), by simp [q]⟩
  have z : (hidT h H).get? b = none := PySem.W.hideAll_none (trk h H) hm
  rw [z] at e; cases e
def allNews (g h : Heap) (L : Addr) : List (Addr × Obj) := (List.range h.objs.size).filterMap fun a => if a = L ∨ (g.get? a).isSome = true then none else (h.get? a).map fun o => (a, o)
def rest (g h : Heap) (L d : Addr) : List (Addr × Obj) := (allNews g h L).filter fun p => decide (p.1 ≠ d)
structure Mod (K : PySem.W.Frag) (mg : Str → Option Value) (base : Heap) : Prop where
 kin : K.In base
 glob : base.Ns mainGlobals mg
 blt : ∃ mb, base.Ns builtinsNs mb ∧ ∀ x : Str, x ≠ "__name__" → mb x = bootBuiltins x
 nolimit : base.NoLimit
structure Cx where
 prog : Program
 w : World
 K : PySem.W.Frag
 mg : Str → Option Value
 base : Heap
 A : Around
 N : List Str
 s₀ : Shared
 H₀ : Hp
 env : Env
 outer : List Env
 stack : List Env
 ex : List Addr
 fn : Str → Bool
 calm : Bool
 pn : List (Addr × Obj)
 xe : Value → Shared → Prop
def frs (l : List Env) : List Addr := l.filterMap (·.frame)
abbrev Cx.fs (X : Cx) : List Addr := frs X.outer
def Vis (sc : Scope) (x : Str) : Prop := sc.names.lookup x = some .local ∨ sc.names.lookup x = some .cell ∨ sc.names.lookup x = some .free
def Loc (sc : Scope) (x : Str) : Prop := sc.names.lookup x = some .local ∨ sc.names.lookup x = some .cell
def Look (env : Env) (h : Heap) (m : Str → Option Value) (x : Str) (u : Value) : Prop :=
 (env.kindOf x = some .local ∧ m x = some u) ∨ ((env.kindOf x = some .cell ∨ env.kindOf x = some .free) ∧ ∃ c, env.cells.lookup x = some c ∧ h.IsCell c (some u))
structure Cx.Ok (X : Cx) : Prop where
 mod : Mod X.K X.mg X.base
 kind : X.env.scope.kind = .function
 glob : X.env.globals = mainGlobals
 blt : X.env.builtins = builtinsNs
 above : X.s₀.heap.objs.size ≤ X.env.locals
 inj : ∀ x y c, X.env.cells.lookup x = some c → X.env.cells.lookup y = some c → x = y
 has : ∀ x, (X.env.kindOf x = some .cell ∨ X.env.kindOf x = some .free) → ∃ c, X.env.cells.lookup x = some c
 cab : ∀ x c, X.fn x = true → X.env.cells.lookup x = some c → X.s₀.heap.objs.size ≤ c
 hd : X.calm = true → X.A.handled = none
 frames : X.A.frames = some X.stack
 stk : X.stack = X.outer ∨ (X.stack = X.env :: X.outer ∧ X.env.frame = some X.env.locals)
 exf : ∀ b ∈ X.ex, b ≠ X.env.locals ∧ ∀ x c, X.env.cells.lookup x = some c → c ≠ b
 bs : ∀ b o, X.base.get? b = some o → X.s₀.heap.get? b = some o ∧ X.H₀ b = none
 bsz : X.base.objs.size ≤ X.s₀.heap.objs.size
 noex : ∀ b o, X.base.get? b = some o → b ∉ X.ex
 exfs : ∀ b ∈ X.ex, b ∉ X.fs
 funs : X.s₀.heap.FunFrames X.base X.outer
 frf : ∀ b ∈ X.fs, X.H₀ b = none
structure Inv (X : Cx) (pins : List (Addr × Obj)) (σ : List (Option V)) (H : Hp) (s : Shared) : Prop where
 ok : X.Ok
 os : s.os = X.s₀.os
 bare : AllBare s.gens
 base : Un X.fs X.ex X.H₀ H X.s₀.heap s.heap
 loc : ∃ m, s.heap.Ns X.env.locals m ∧ ∀ (i : Nat) (x : Str) (v : V), X.N[i]? = some x → σ[i]? = some (some v) → Vis X.env.scope x → ∃ u, RelV v u ∧ Look X.env s.heap m x u
 cell : ∀ x c, X.env.cells.lookup x = some c → ∃ v, s.heap.IsCell c v
 free : H X.env.locals = none
 freeC : ∀ x c, X.env.cells.lookup x = some c → H c = none
 pin : ∀ p ∈ X.pn ++ pins, s.heap.get? p.1 = some p.2 ∧ H p.1 = none ∧ p.1 ≠ X.env.locals ∧ p.1 ∉ X.fs ∧ ∀ v, p.2.data ≠ .cell v
 hok : HOk X.prog X.w H s.heap
 len : σ.length = X.N.length
section
variable {X : Cx} {pins : List (Addr × Obj)} {σ : List (Option V)} {H H' : Hp} {s : Shared} {h' : Heap}
theorem Cx.Ok.nofr (ok : X.Ok) {b : Addr} {o : Obj} (e : X.base.get? b = some o) : b ∉ X.fs := fun hb => by
 have := (ok.funs.mem hb).1
 rw [e] at this; cases this
theorem Inv.bs (I : Inv X pins σ H s) : ∀ b o, X.base.get? b = some o → s.heap.get? b = some o ∧ H b = none := fun b o e =>
 ⟨I.base.keep b o (I.ok.bs b o e).1 (I.ok.bs b o e).2 (I.ok.nofr e) (I.ok.noex b o e), I.base.free b o (I.ok.bs b o e).1 (I.ok.bs b o e).2 (I.ok.noex b o e)⟩
theorem Inv.bk (I : Inv X pins σ H s) : ∀ b o, X.base.get? b = some o → s.heap.get? b = some o := fun b o e => (I.bs b o e).1
theorem Inv.mod (I : Inv X pins σ H s) : Mod X.K X.mg X.base := I.ok.mod
theorem Inv.kIn (I : Inv X pins σ H s) : X.K.In s.heap := I.ok.mod.kin.keeps I.bk
theorem Inv.lt (I : Inv X pins σ H s) : X.env.locals < s.heap.objs.size := let ⟨_, hn, _⟩ := I.loc; hn.lt
theorem Inv.sz (I : Inv X pins σ H s) : X.s₀.heap.objs.size ≤ s.heap.objs.size := Nat.le_trans I.ok.above (Nat.le_of_lt I.lt)
theorem Inv.nofs (I : Inv X pins σ H s) {a : Addr} (h : s.heap.objs.size ≤ a) : a ∉ X.fs := fun hb => by
 obtain ⟨_, o, ho, _⟩ := I.ok.funs.mem hb
 exact absurd (Nat.lt_of_lt_of_le (Heap.lt_size ho) (Nat.le_trans I.sz h)) (Nat.lt_irrefl _)
theorem Inv.cne (I : Inv X pins σ H s) : ∀ x c, X.env.cells.lookup x = some c → c ≠ X.env.locals := fun x c e z => by
 obtain ⟨v, o, ho, hd⟩ := I.cell x c e
 obtain ⟨m, ⟨o', es, ep, ho', hd', _⟩, _⟩ := I.loc
 rw [z, ho'] at ho; cases ho; rw [hd'] at hd; cases hd
theorem Inv.funs (I : Inv X pins σ H s) : s.heap.FunFrames X.base X.outer := by
 have all : ∀ (l : List Env), (∀ b ∈ frs l, b ∈ X.fs) → X.s₀.heap.FunFrames X.base l → s.heap.FunFrames X.base l := by
  intro l
  induction l with
  | nil => intro _ _; trivial
  | cons env r ih =>
   intro hs hl
   obtain ⟨hk, ⟨L, o, hf, hn, ho, hd⟩, hr⟩ := hl
   have hL : L ∈ X.fs := hs L (by unfold frs; rw [List.filterMap_cons, hf]; exact List.mem_cons_self)
   obtain ⟨sl, e⟩ := I.base.slot L o ho (I.ok.frf L hL) hL fun z => I.ok.exfs L z hL
   exact ⟨hk, ⟨L, _, hf, hn, e, hd⟩, ih (fun b hb => hs b (by unfold frs; rw [List.filterMap_cons, hf]; exact List.mem_cons_of_mem _ hb)) hr⟩
 exact all X.outer (fun _ hb => hb) I.ok.funs
theorem Inv.stack (I : Inv X pins σ H s) : s.heap.FunFrames X.base X.stack := by
 rcases I.ok.stk with e | ⟨e, hf⟩
 ·rw [e]; exact I.funs
 ·rw [e]
  obtain ⟨m, hn, _⟩ := I.loc
  refine .cons (by rw [I.ok.kind]; decide) hf hn ?_ I.funs
  exact Heap.get?_none_of_le (Nat.le_trans I.ok.bsz I.ok.above)
theorem Inv.stkSub (I : Inv X pins σ H s) : ∀ b ∈ frs X.stack, b ∈ X.env.locals :: X.fs := fun b hb => by
 rcases I.ok.stk with e | ⟨e, hf⟩
 ·rw [e] at hb; exact List.mem_cons_of_mem _ hb
 ·rw [e] at hb
  unfold frs at hb
  rw [List.filterMap_cons, hf] at hb
  exact hb
theorem Inv.stkFree (I : Inv X pins σ H s) : ∀ b ∈ frs X.stack, H b = none := fun b hb => by
 rcases List.mem_cons.mp (I.stkSub b hb) with e | hb
 ·rw [e]; exact I.free
 ·obtain ⟨_, o, ho, _⟩ := I.ok.funs.mem hb
  exact I.base.free b o ho (I.ok.frf b hb) fun z => I.ok.exfs b z hb
theorem Inv.step {g' : Array GenState} {t' : Nat} {d' : Drawn} {ch : List Addr} (I : Inv X pins σ H s)
  (hch : ∀ b ∈ ch, (b ∈ X.ex ∨ X.s₀.heap.objs.size ≤ b) ∧ b ≠ X.env.locals ∧ (∀ x c, X.env.cells.lookup x = some c → c ≠ b) ∧ ∀ p ∈ X.pn ++ pins, p.1 ≠ b)
  (keep : ∀ b o, b ≠ X.env.locals → b ∉ X.fs → b ∉ ch → s.heap.get? b = some o → H b = none → h'.get? b = some o)
  (slot : ∀ b o, b ≠ X.env.locals → b ∈ X.fs → b ∉ ch → s.heap.get? b = some o → H b = none → ∃ sl, h'.get? b = some { o with slots := sl }) (free : ∀ b o, b ∉ ch → s.heap.get? b = some o → H b = none → H' b = none)
  (there : ∀ b o, b ∉ ch → s.heap.get? b = some o → ∃ o', h'.get? b = some o')
  (tups : ∀ b xs, H b = some (.tup xs) → H' b = some (.tup xs)) (frzs : ∀ b o u, H b = some (.frz o u) → H' b = some (.frz o u)) (tbls : ∀ b ps, H b = some (.tbl ps) → ∃ more, H' b = some (.tbl (ps ++ more)))
  (ns : ∀ m, s.heap.Ns X.env.locals m → h'.Ns X.env.locals m) (hok : HOk X.prog X.w H' h') (hg : AllBare g') :
  Inv X pins σ H' { s with heap := h', gens := g', drawn := d', toks := t' } := by
 have neL : ∀ b o, X.s₀.heap.get? b = some o → b ≠ X.env.locals := fun b o e => Nat.ne_of_lt (Nat.lt_of_lt_of_le (Heap.lt_size e) I.ok.above)
 have neC : ∀ b o, X.s₀.heap.get? b = some o → b ∉ X.ex → b ∉ ch := fun b o e hx hb => by
  rcases (hch b hb).1 with z | z
  ·exact hx z
  ·exact absurd (Nat.lt_of_lt_of_le (Heap.lt_size e) z) (Nat.lt_irrefl _)
 have cellK : ∀ x c, X.env.cells.lookup x = some c → ∀ v, s.heap.IsCell c v → h'.IsCell c v := fun x c e v ⟨o, ho, hd⟩ => by
  have nch : c ∉ ch := fun z => (hch c z).2.2.1 x c e rfl
  by_cases hc : c ∈ X.fs
  ·obtain ⟨sl, q⟩ := slot c o (I.cne x c e) hc nch ho (I.freeC x c e)
   exact ⟨_, q, hd⟩
  ·exact ⟨o, keep c o (I.cne x c e) hc nch ho (I.freeC x c e), hd⟩
 refine ⟨I.ok, I.os, hg, ⟨fun b o e n hb hx => ?_, fun b o e n hb hx => ?_, fun b o e n hx => ?_, fun b o e hx => ?_, fun b xs e => tups b xs (I.base.tups b xs e), fun b o xs e => frzs b o xs (I.base.frzs b o xs e), fun b ps e => ?_⟩, ?_, fun x c e => ?_, ?_, fun x c e => ?_, fun p hp => ?_, hok, I.len⟩
 ·exact keep b o (neL b o e) hb (neC b o e hx) (I.base.keep b o e n hb hx) (I.base.free b o e n hx)
 ·obtain ⟨sl, e1⟩ := I.base.slot b o e n hb hx
  obtain ⟨sl', e2⟩ := slot b _ (neL b o e) hb (neC b o e hx) e1 (I.base.free b o e n hx)
  exact ⟨sl', e2⟩
 ·obtain ⟨o', e1⟩ := I.base.there b o e hx
  exact free b o' (neC b o e hx) e1 (I.base.free b o e n hx)
 ·obtain ⟨o', e1⟩ := I.base.there b o e hx
  exact there b o' (neC b o e hx) e1
 ·obtain ⟨m1, e1⟩ := I.base.tbls b ps e
  obtain ⟨m2, e2⟩ := tbls b _ e1
  exact ⟨m1 ++ m2, by rw [e2, Array.append_assoc]⟩
 ·obtain ⟨m, hn, hl⟩ := I.loc
  refine ⟨m, ns m hn, fun i x v e1 e2 e3 => ?_⟩
  obtain ⟨u, r, l⟩ := hl i x v e1 e2 e3
  refine ⟨u, r, ?_⟩
  rcases l with l | ⟨k, c, e, z⟩
  ·exact .inl l
  ·exact .inr ⟨k, c, e, cellK x c e _ z⟩
 ·obtain ⟨v, z⟩ := I.cell x c e
  exact ⟨v, cellK x c e v z⟩
 ·obtain ⟨m, ⟨o, _, _, ho, _⟩, _⟩ := I.loc
  exact free _ o (fun z => (hch _ z).2.1 rfl) ho I.free
 ·obtain ⟨v, o, ho, hd⟩ := I.cell x c e
  exact free c o (fun z => (hch c z).2.2.1 x c e rfl) ho (I.freeC x c e)
 ·obtain ⟨e, n, ne, nf, d⟩ := I.pin p hp
  have nch : p.1 ∉ ch := fun z => (hch p.1 z).2.2.2 p hp rfl
  exact ⟨keep p.1 p.2 ne nf nch e n, free p.1 p.2 nch e n, ne, nf, d⟩
theorem Inv.un {t' : Nat} (I : Inv X pins σ H s) (u : Un X.fs [] H H' s.heap h') (hok : HOk X.prog X.w H' h') : Inv X pins σ H' { s with heap := h', toks := t' } := by
 obtain ⟨m, ⟨o, es, ep, ho, r⟩, _⟩ := id I.loc
 obtain ⟨sl, hL⟩ := u.any ho I.free (by simp)
 exact I.step (g' := s.gens) (d' := s.drawn) (ch := []) (fun _ z => nomatch z) (fun b o _ hb _ e n => u.keep b o e n hb (by simp)) (fun b o _ hb _ e n => u.slot b o e n hb (by simp)) (fun b o _ e n => u.free b o e n (by simp)) (fun b o _ e => u.there b o e (by simp)) u.tups u.frzs u.tbls (fun m' hm => by
  obtain ⟨o', es', ep', ho', r'⟩ := hm
  rw [ho] at ho'; cases ho'
  exact ⟨_, es', ep', hL, r'⟩) hok I.bare
theorem Inv.call {g' : Array GenState} {t' : Nat} {d' : Drawn} {ch : List Addr} (I : Inv X pins σ H s) (u : Un (frs X.stack) ch H H' s.heap h') (hok : HOk X.prog X.w H' h') (hg : AllBare g')
  (hch : ∀ b ∈ ch, (b ∈ X.ex ∨ X.s₀.heap.objs.size ≤ b) ∧ b ≠ X.env.locals ∧ (∀ x c, X.env.cells.lookup x = some c → c ≠ b) ∧ ∀ p ∈ X.pn ++ pins, p.1 ≠ b) :
  Inv X pins σ H' { s with heap := h', gens := g', drawn := d', toks := t' } := by
 obtain ⟨m, ⟨o, es, ep, ho, r⟩, _⟩ := id I.loc
 obtain ⟨sl, hL⟩ := u.any ho I.free fun z => (hch _ z).2.1 rfl
 exact I.step (ch := ch) hch (fun b o hL hb hc e n => u.keep b o e n (fun z => (List.mem_cons.mp (I.stkSub b z)).elim hL hb) hc) (fun b o _ _ hc e n => u.any e n hc) (fun b o hc e n => u.free b o e n hc) (fun b o hc e => u.there b o e hc) u.tups u.frzs u.tbls (fun m' hm => by
  obtain ⟨o', es', ep', ho', r'⟩ := hm
  rw [ho] at ho'; cases ho'
  exact ⟨_, es', ep', hL, r'⟩) hok hg
theorem Inv.turned {t' : Nat} {it : Addr} (I : Inv X pins σ H s) (k : ∀ b o, b ≠ it → s.heap.get? b = some o → h'.get? b = some o) (hn : H it = none) (hL : it ≠ X.env.locals)
  (h1 : it ∈ X.ex ∨ X.s₀.heap.objs.size ≤ it) (h2 : ∀ x c, X.env.cells.lookup x = some c → c ≠ it) (h3 : ∀ p ∈ X.pn ++ pins, p.1 ≠ it) : Inv X pins σ H { s with heap := h', toks := t' } := by
 have nit : ∀ b u, H b = some u → b ≠ it := fun b u e z => by rw [z, hn] at e; cases e
 refine I.step (g' := s.gens) (d' := s.drawn) (ch := [it]) (fun b hb => ?_) (fun b o _ _ hc e _ => k b o (fun z => hc (by simp [z])) e) (fun b o _ _ hc e _ => ⟨o.slots, k b o (fun z => hc (by simp [z])) e⟩) (fun _ _ _ _ n => n)
  (fun b o hc e => ⟨o, k b o (fun z => hc (by simp [z])) e⟩) (fun _ _ e => e) (fun _ _ _ e => e) (fun b ps e => ⟨#[], by rw [e]; simp⟩) (fun m hm => ?_) (fun b u e => ?_) I.bare
 ·have e : b = it := by simpa using hb
  subst e
  exact ⟨h1, hL, h2, h3⟩
 ·obtain ⟨o, es, ep, ho, r⟩ := hm
  exact ⟨o, es, ep, k _ o (Ne.symm hL) ho, r⟩
 ·refine (I.hok b u e).stay (fun c v hc q => k c v ?_ q) (fun _ q => q) fun _ _ q => q
  rcases hc with z | z
  ·rw [z]; exact nit b u e
  ·exact nit c _ z
theorem Inv.tok (I : Inv X pins σ H s) (t : Nat) : Inv X pins σ H { s with toks := t } := I.un (h' := s.heap) (t' := t) Un.refl I.hok
theorem Inv.kept {t' : Nat} (I : Inv X pins σ H s) (k : ∀ b u, s.heap.get? b = some u → h'.get? b = some u) : Inv X pins σ H { s with heap := h', toks := t' } := I.un (Un.kept k) (I.hok.kept k)
theorem Inv.laid {a : Addr} {o : HO} {t' : Nat} (I : Inv X pins σ H s) (k : ∀ b u, s.heap.get? b = some u → h'.get? b = some u) (hp : s.heap.objs.size ≤ a) (new : ObjOk X.prog X.w (upd H a o) h' a o) :
  Inv X pins σ (upd H a o) { s with heap := h', toks := t' } := I.un (Un.laid k hp (I.hok.fresh hp)) (I.hok.laid k hp new)
theorem Inv.write {x e : Addr} {o : HO} {t' : Nat} (I : Inv X pins σ H s) (mu : Mut (H x)) (he : e = x ∨ H e = some (.own x)) (k : ∀ b u, b ≠ e → s.heap.get? b = some u → h'.get? b = some u) (heo : ∃ u, h'.get? e = some u)
  (new : ObjOk X.prog X.w (upd H x o) h' x o) : Inv X pins σ (upd H x o) { s with heap := h', toks := t' } := I.un (Un.write mu he k heo) (I.hok.write mu he k heo new)
theorem Inv.pins_of {pins' : List (Addr × Obj)} (I : Inv X pins σ H s) (h : ∀ p ∈ pins', s.heap.get? p.1 = some p.2 ∧ H p.1 = none ∧ p.1 ≠ X.env.locals ∧ p.1 ∉ X.fs ∧ ∀ v, p.2.data ≠ .cell v) : Inv X pins' σ H s :=
 ⟨I.ok, I.os, I.bare, I.base, I.loc, I.cell, I.free, I.freeC, fun p hp => (List.mem_append.mp hp).elim (fun z => I.pin p (List.mem_append_left _ z)) (h p), I.hok, I.len⟩
theorem lq9 {N : List Str} (hN : N.Nodup) {i j : Nat} {x : Str} (a : N[i]? = some x) (b : N[j]? = some x) : i = j := by
 obtain ⟨h1, e1⟩ := List.getElem?_eq_some_iff.mp a
 obtain ⟨h2, e2⟩ := List.getElem?_eq_some_iff.mp b
 exact (List.getElem_inj hN).mp (e1.trans e2.symm)
theorem oqj {M : Model} {A : Around} {E : Value → Shared → Prop} {i : Nat} {x : Str} {v : V} {u : Value} {Q : Unit → Shared → Prop} (I : Inv X pins σ H s) (hN : X.N.Nodup) (hi : X.N[i]? = some x) (hx : Loc X.env.scope x) (r : RelV v u)
  (h : ∀ s', Inv X pins (σ.set i (some v)) H s' → (∃ a, Heap.SameBut a s.heap s'.heap ∧ (a = X.env.locals ∨ X.env.cells.lookup x = some a)) → Q () s') (hf : X.fn x = true ∨ X.env.scope.names.lookup x = some .local := by first | exact .inl rfl | exact .inr rfl | assumption) : wpAny M A (storeName X.env x u) Q E s := by
 obtain ⟨m, hn, hl⟩ := id I.loc
 have hcls : (X.env.scope.kind == .class || (X.env.scope.kind == .module && X.env.locals != X.env.globals)) = false := by rw [I.ok.kind]; rfl
 have hiσ : i < σ.length := by rw [I.len]; exact (List.getElem?_eq_some_iff.mp hi).1
 have cne := I.cne
 have tracked : ∀ {a : Addr} {h' : Heap}, (∃ o, s.heap.get? a = some o ∧ H a = none) → Heap.SameBut a s.heap h' → HOk X.prog X.w H h' := fun {a h'} ha hs b ob e => by
  obtain ⟨_, _, hfree⟩ := ha
  refine (I.hok b ob e).stay (fun c w' hc q => (hs.2 c ?_).trans q) (fun _ q => q) fun _ _ q => q
  rintro rfl
  rcases hc with rfl | hc
  ·rw [hfree] at e; cases e
  ·rw [hfree] at hc; cases hc
 rcases hx with hk | hk
 ·refine wpAny_storeName_local hk hn (fun h' hn' hs => ?_) hcls
  obtain ⟨oL, _, _, hoL, _⟩ := id hn
  refine h _ ⟨I.ok, I.os, I.bare, ⟨fun b o e n hb hx => ?_, fun b o e n hb hx => ?_, I.base.free, fun b o e hx => ?_, I.base.tups, I.base.frzs, I.base.tbls⟩, ⟨_, hn', fun j y v' e1 e2 e3 => ?_⟩, fun y c e => ?_, I.free, I.freeC, fun p hp => ?_, tracked ⟨oL, hoL, I.free⟩ hs, by simpa using I.len⟩ ⟨_, hs, .inl rfl⟩
  ·exact (hs.2 b (Nat.ne_of_lt (Nat.lt_of_lt_of_le (Heap.lt_size e) I.ok.above))).trans (I.base.keep b o e n hb hx)
  ·obtain ⟨sl, e1⟩ := I.base.slot b o e n hb hx
   exact ⟨sl, (hs.2 b (Nat.ne_of_lt (Nat.lt_of_lt_of_le (Heap.lt_size e) I.ok.above))).trans e1⟩
  ·obtain ⟨o', e1⟩ := I.base.there b o e hx
   exact ⟨o', (hs.2 b (Nat.ne_of_lt (Nat.lt_of_lt_of_le (Heap.lt_size e) I.ok.above))).trans e1⟩
  ·by_cases hj : j = i
   ·subst hj
    rw [hi] at e1; cases e1
    rw [List.getElem?_set_self hiσ] at e2
    cases e2
    exact ⟨u, r, .inl ⟨hk, by simp⟩⟩
   ·rw [List.getElem?_set_ne (Ne.symm hj)] at e2
    obtain ⟨u', r', q⟩ := hl j y v' e1 e2 e3
    refine ⟨u', r', ?_⟩
    rcases q with ⟨k, e⟩ | ⟨k, c, e, z⟩
    ·refine .inl ⟨k, ?_⟩
     have : y ≠ x := fun e => hj (lq9 hN e1 (e ▸ hi))
     simp [this, e]
    ·exact .inr ⟨k, c, e, z.sameBut hs (cne y c e)⟩
  ·obtain ⟨w', z⟩ := I.cell y c e
   exact ⟨w', z.sameBut hs (cne y c e)⟩
  ·obtain ⟨e, n, ne, nf, d⟩ := I.pin p hp
   exact ⟨(hs.2 p.1 ne).trans e, n, ne, nf, d⟩
 ·have hfn : X.fn x = true := by
   rcases hf with z | z
   ·exact z
   ·rw [z] at hk; cases hk
  obtain ⟨c, hc⟩ := I.ok.has x (.inl hk)
  obtain ⟨w', z⟩ := I.cell x c hc
  refine wpAny_storeName_cell I.ok.kind hk hc z (fun h' hc' hs => ?_)
  obtain ⟨oc, hoc, hocd⟩ := id z
  refine h { s with heap := h' } ⟨I.ok, I.os, I.bare, ⟨fun b o e n hb hx => ?_, fun b o e n hb hx => ?_, I.base.free, fun b o e hx => ?_, I.base.tups, I.base.frzs, I.base.tbls⟩, ⟨m, hn.sameBut hs (Ne.symm (cne x c hc)), fun j y v' e1 e2 e3 => ?_⟩, fun y c' e => ?_, I.free, I.freeC, fun p hp => ?_, tracked ⟨oc, hoc, I.freeC x c hc⟩ hs, by simpa using I.len⟩ ⟨c, hs, .inr hc⟩
  ·exact (hs.2 b (Nat.ne_of_lt (Nat.lt_of_lt_of_le (Heap.lt_size e) (I.ok.cab x c hfn hc)))).trans (I.base.keep b o e n hb hx)
  ·obtain ⟨sl, e1⟩ := I.base.slot b o e n hb hx
   exact ⟨sl, (hs.2 b (Nat.ne_of_lt (Nat.lt_of_lt_of_le (Heap.lt_size e) (I.ok.cab x c hfn hc)))).trans e1⟩
  ·obtain ⟨o', e1⟩ := I.base.there b o e hx
   exact ⟨o', (hs.2 b (Nat.ne_of_lt (Nat.lt_of_lt_of_le (Heap.lt_size e) (I.ok.cab x c hfn hc)))).trans e1⟩
  ·by_cases hj : j = i
   ·subst hj
    rw [hi] at e1; cases e1
    rw [List.getElem?_set_self hiσ] at e2
    cases e2
    exact ⟨u, r, .inr ⟨.inl hk, c, hc, hc'⟩⟩
   ·rw [List.getElem?_set_ne (Ne.symm hj)] at e2
    obtain ⟨u', r', q⟩ := hl j y v' e1 e2 e3
    refine ⟨u', r', ?_⟩
    rcases q with q | ⟨k, c', e, z'⟩
    ·exact .inl q
    ·refine .inr ⟨k, c', e, z'.sameBut hs ?_⟩
     rintro rfl
     exact hj (lq9 hN e1 (I.ok.inj _ _ _ e hc ▸ hi))
  ·by_cases hcc : c' = c
   ·subst hcc; exact ⟨_, hc'⟩
   ·obtain ⟨w2, z2⟩ := I.cell y c' e
    exact ⟨w2, z2.sameBut hs hcc⟩
  ·obtain ⟨e, n, ne, nf, d⟩ := I.pin p hp
   refine ⟨(hs.2 p.1 ?_).trans e, n, ne, nf, d⟩
   intro q
   rw [q, hoc] at e
   have q' : oc = p.2 := Option.some.inj e
   exact d w' (by rw [← q']; exact hocd)
theorem lq4 {M : Model} {A : Around} {E : Value → Shared → Prop} {i : Nat} {x : Str} {v : V} {u : Value} {Q : Unit → Shared → Prop} (I : Inv X pins σ H s) (hN : X.N.Nodup) (hi : X.N[i]? = some x) (hx : Loc X.env.scope x) (r : RelV v u)
  (h : ∀ s', Inv X pins (σ.set i (some v)) H s' → Q () s') (hf : X.fn x = true ∨ X.env.scope.names.lookup x = some .local := by first | exact .inl rfl | exact .inr rfl | assumption) : wpAny M A (storeName X.env x u) Q E s :=
 oqj I hN hi hx r (fun s' I' _ => h s' I') hf
end
abbrev XK := Value → Option Addr → Hp → Prop
abbrev St := List (Option V)
abbrev VK := V → Hp → Prop
abbrev TE := St → Hp → VK → Prop
abbrev TT := St → Hp → (Bool → Hp → Prop) → Prop
abbrev TA := St → Hp → (List V → Hp → Prop) → Prop
structure Ends where
 nx : St → Hp → Prop
 rt : VK
 bk : St → Hp → Prop := fun _ _ => False
 ct : St → Hp → Prop := fun _ _ => False
abbrev TS := Ends → St → Hp → Prop
def EP (X : Cx) (pins : List (Addr × Obj)) (σ : St) (Q : VK) (u : Value) (s' : Shared) : Prop := ∃ v H', Inv X pins σ H' s' ∧ RelV v u ∧ Q v H'
def TP (X : Cx) (pins : List (Addr × Obj)) (σ : St) (Q : Bool → Hp → Prop) (b : Bool) (s' : Shared) : Prop := ∃ H', Inv X pins σ H' s' ∧ Q b H'
def AP (X : Cx) (pins : List (Addr × Obj)) (σ : St) (Q : List V → Hp → Prop) (us : List Value) (s' : Shared) : Prop := ∃ vs H', Inv X pins σ H' s' ∧ Vals vs us ∧ Q vs H'
def SP (X : Cx) (pins : List (Addr × Obj)) (D : Ends) (f : Flow) (s' : Shared) : Prop :=
 match f with
 | .next => ∃ σ' H', Inv X pins σ' H' s' ∧ D.nx σ' H'
 | .brk => ∃ σ' H', Inv X pins σ' H' s' ∧ D.bk σ' H'
 | .cont => ∃ σ' H', Inv X pins σ' H' s' ∧ D.ct σ' H'
 | .ret u => ∃ v σ' H', Inv X pins σ' H' s' ∧ RelV v u ∧ D.rt v H'
def PE (X : Cx) (e : Expr) (t : TE) : Prop :=
 ∀ (pins : List (Addr × Obj)) (s : Shared) (σ : St) (H : Hp) (Q : VK), Inv X pins σ H s → t σ H Q → wpAny (model X.prog X.w) X.A (eval e X.env) (EP X pins σ Q) X.xe s
def PT (X : Cx) (e : Expr) (t : TT) : Prop :=
 ∀ (pins : List (Addr × Obj)) (s : Shared) (σ : St) (H : Hp) (Q : Bool → Hp → Prop), Inv X pins σ H s → t σ H Q → wpAny (model X.prog X.w) X.A (isTrue e X.env (eval e X.env)) (TP X pins σ Q) X.xe s
def PW (X : Cx) (e : Expr) (t : TT) : Prop :=
 ∀ (whole : Sem Value) (pins : List (Addr × Obj)) (s : Shared) (σ : St) (H : Hp) (Q : Bool → Hp → Prop), Inv X pins σ H s → t σ H Q → wpAny (model X.prog X.w) X.A (isTrue e X.env whole) (TP X pins σ Q) X.xe s
theorem PW.pt {X : Cx} {e : Expr} {t : TT} (h : PW X e t) : PT X e t := h _
def PA (X : Cx) (es : List Expr) (t : TA) : Prop :=
 ∀ (pos : Pos) (pins : List (Addr × Obj)) (s : Shared) (σ : St) (H : Hp) (Q : List V → Hp → Prop), Inv X pins σ H s → t σ H Q → wpAny (model X.prog X.w) X.A (spliced (backTo pos (starEach es X.env))) (AP X pins σ Q) X.xe s
def PS (X : Cx) (st : Stmt) (t : TS) : Prop :=
 ∀ (pins : List (Addr × Obj)) (s : Shared) (σ : St) (H : Hp) (D : Ends), Inv X pins σ H s → t D σ H → wpAny (model X.prog X.w) X.A (exec st X.env) (SP X pins D) X.xe s
def PSs (X : Cx) (st : List Stmt) (t : TS) : Prop :=
 ∀ (pins : List (Addr × Obj)) (s : Shared) (σ : St) (H : Hp) (D : Ends), Inv X pins σ H s → t D σ H → wpAny (model X.prog X.w) X.A (execs st X.env) (SP X pins D) X.xe s
theorem thn {α : Type} {t : Sem α} {Q Q' : α → Shared → Prop} {M : Model} {A : Around} {E : Value → Shared → Prop} {s : Shared} (h : wpAny M A t Q E s) (hQ : ∀ a s, Q a s → Q' a s) : wpAny M A t Q' E s := wpAny_mono h hQ fun _ _ x => x
section
variable {X : Cx}
theorem bin {a b : Expr} {ta tb : TE} (ha : PE X a ta) (hb : PE X b tb) {pins : List (Addr × Obj)} {s : Shared} {σ : St} {H : Hp} {R : V → V → Hp → Prop} (I : Inv X pins σ H s) (h : ta σ H fun x H1 => tb σ H1 fun y H2 => R x y H2)
  {α : Type} {Q : α → Shared → Prop} {f : Value → Value → Sem α}
  (hf : ∀ v u s2 x y H2, Inv X pins σ H2 s2 → RelV x v → RelV y u → R x y H2 → wpAny (model X.prog X.w) X.A (f v u) Q X.xe s2) :
  wpAny (model X.prog X.w) X.A (eval a X.env) (fun v s₁ => wpAny (model X.prog X.w) X.A (eval b X.env) (fun u s₂ => wpAny (model X.prog X.w) X.A (f v u) Q X.xe s₂) X.xe s₁) X.xe s := by
 refine thn (ha pins s σ H _ I h) fun v s1 W' => ?_
 obtain ⟨x, H1, I1, r1, q1⟩ := W'
 refine thn (hb pins s1 σ H1 _ I1 q1) fun u s2 W' => ?_
 obtain ⟨y, H2, I2, r2, q2⟩ := W'
 exact hf v u s2 x y H2 I2 r1 r2 q2
def tVar (i : Nat) : TE := fun σ H Q => ∃ v, σ[i]? = some (some v) ∧ Q v H
def tC (v : V) : TE := fun _ H Q => Q v H
theorem sqD {i : Nat} {x : Str} {pos : Pos} (hN : X.N[i]? = some x) (hv : Vis X.env.scope x) (hd : (x == ("__debug__" : Str)) = false := by decide) (hcd : (x == ("__classdict__" : Str)) = false := by decide) : PE X (.Name x pos) (tVar i) := by
 intro pins s σ H Q I h
 obtain ⟨v, e, h⟩ := h
 obtain ⟨m, hn, hl⟩ := I.loc
 obtain ⟨u, r, l⟩ := hl i x v hN e hv
 have fin : EP X pins σ Q u s := ⟨v, H, I, r, h⟩
 rcases l with ⟨hk, hm⟩ | ⟨hk, c, hc, hcell⟩
 ·exact wpAny_Name (wpAny_loadName_local I.ok.kind hk hn hm fin) hd
 ·rcases hk with hk | hk
  ·exact wpAny_Name (wpAny_loadName_cell I.ok.kind hk hc hcell fin) hd
  ·exact wpAny_Name (wpAny_loadName_free I.ok.kind hk hc hcell fin hcd) hd
theorem aqg {i j pos} : PE X (.Constant (.int i) j pos) (tC (.int i)) := fun _ _ _ H _ I h => wpAny_Constant_int ⟨.int i, H, I.tok _, ⟨_, rfl⟩, h⟩
theorem dq4 {b j pos} : PE X (.Constant (.bool b) j pos) (tC (.bl b)) := fun _ _ _ H _ I h => Constant_bool ⟨.bl b, H, I, rfl, h⟩
theorem aqB {j pos} : PE X (.Constant .none j pos) (tC .non) := fun _ _ _ H _ I h => Constant_none ⟨.non, H, I, rfl, h⟩
theorem aqn {x j pos} : PE X (.Constant (.str x) j pos) (tC (.str x)) := fun _ _ _ H _ I h => Calls.Constant_str ⟨.str x, H, I.tok _, ⟨_, rfl⟩, h⟩
def Gl (X : Cx) (x : Str) : Prop := X.env.kindOf x = some .globalImplicit
theorem kq3 {E : Value → Shared → Prop} {pins : List (Addr × Obj)} {s : Shared} {σ : St} {H : Hp} {x : Str} {u : Value} {pos : Pos} {Q : Value → Shared → Prop} (I : Inv X pins σ H s) (hg : Gl X x) (hm : X.mg x = some u) (h : Q u s)
  (hd : (x == ("__debug__" : Str)) = false := by decide) : wpAny (model X.prog X.w) X.A (eval (.Name x pos) X.env) Q E s :=
 Calls.Name_function_global I.ok.kind hg (Calls.loadGlobal_global (by rw [I.ok.glob]; exact I.mod.glob.keeps I.bk) hm h) hd
theorem mqi {E : Value → Shared → Prop} {pins : List (Addr × Obj)} {s : Shared} {σ : St} {H : Hp} {x : Str} {u : Value} {pos : Pos} {Q : Value → Shared → Prop} (I : Inv X pins σ H s) (hg : Gl X x) (hm : X.mg x = none) (hv : bootBuiltins x = some u) (h : Q u s)
  (hn : x ≠ "__name__" := by decide) (hd : (x == ("__debug__" : Str)) = false := by decide) : wpAny (model X.prog X.w) X.A (eval (.Name x pos) X.env) Q E s := by
 obtain ⟨mb, h1, h2⟩ := I.mod.blt
 exact Calls.Name_function_global I.ok.kind hg (Calls.loadGlobal_builtin (by rw [I.ok.glob]; exact I.mod.glob.keeps I.bk) hm (by rw [I.ok.blt]; exact h1.keeps I.bk) ((h2 x hn).trans hv) h) hd
theorem aqe {x : Str} {v : V} {u : Value} {pos : Pos} (hg : Gl X x) (hm : X.mg x = some u) (r : RelV v u) (hd : (x == ("__debug__" : Str)) = false := by decide) : PE X (.Name x pos) (tC v) :=
 fun _ _ _ H _ I h => kq3 I hg hm ⟨v, H, I, r, h⟩ hd
theorem iqU {x : Str} {v : V} {u : Value} {pos : Pos} (hg : Gl X x) (hm : X.mg x = none) (hv : bootBuiltins x = some u) (r : RelV v u) (hn : x ≠ "__name__" := by decide) (hd : (x == ("__debug__" : Str)) = false := by decide) : PE X (.Name x pos) (tC v) :=
 fun _ _ _ H _ I h => mqi I hg hm hv ⟨v, H, I, r, h⟩ hn hd
variable {a b : Expr} {ta tb : TE} {pos : Pos}
def PC (X : Cx) (op : CmpOp) (a b : Expr) (t : TE) : Prop :=
 ∀ (pins : List (Addr × Obj)) (s : Shared) (σ : St) (H : Hp) (Q : VK), Inv X pins σ H s → t σ H Q →
  wpAny (model X.prog X.w) X.A (eval a X.env) (fun v s₁ => wpAny (model X.prog X.w) X.A (eval b X.env) (fun u s₂ => wpAny (model X.prog X.w) X.A (compareOp op v u) (EP X pins σ Q) X.xe s₂) X.xe s₁) X.xe s
def tB (t : TE) : TT := fun σ H Q => t σ H fun x H1 => ∃ c, x = .bl c ∧ Q c H1
theorem uqb {op : CmpOp} {t : TE} (h : PC X op a b t) (h1 : behindInMarks op b = false := by first | exact nobehind _ (by decide) (by decide) | rfl) : PT X (.Compare a [op] [b] pos) (tB t) := by
 intro pins s σ H Q I hw
 refine wpAny_isTrue_Compare1 (thn (h pins s σ H _ I hw) fun v s1 h1 => thn h1 fun u s2 h2 => thn h2 fun c s3 W' => ?_) h1
 obtain ⟨x, H1, I1, r1, q1⟩ := W'
 obtain ⟨d, rfl, q⟩ := q1
 cases r1
 exact wpAny_truthy_bool ⟨H1, I1, q⟩
theorem aqH {e : Expr} {t : TE} (h : PE X e t) (he : ∀ whole, isTrue e X.env whole = (do let v ← whole; standAt e.pos; holding [v] (truthy v)) := by intro _; rfl) : PT X e (tB t) := by
 intro pins s σ H Q I hw
 refine isTrue_plain (thn (h pins s σ H _ I hw) fun v s1 W' => ?_) (he _)
 obtain ⟨x, H1, I1, r1, q1⟩ := W'
 obtain ⟨d, rfl, q⟩ := q1
 cases r1
 exact wpAny_truthy_bool ⟨H1, I1, q⟩
variable {tA tB' : TT} {rest : List Expr}
def tAnd (t u : TT) : TT := fun σ H Q => t σ H fun c H1 => if c = true then u σ H1 Q else Q false H1
def tOr (t u : TT) : TT := fun σ H Q => t σ H fun c H1 => if c = true then Q true H1 else u σ H1 Q
def tNot (t : TT) : TT := fun σ H Q => t σ H fun c H1 => Q (!c) H1
theorem dqy (ha : PT X a tA) : PW X (.BoolOp .And [a] pos) tA := by
 intro wh pins s σ H Q I h
 refine isTrue_and (thn (ha pins s σ H Q I h) fun c s1 e => ?_)
 cases c with
 | true => exact isTrue_and_nil e
 | false => exact e
theorem cq4 (ha : PT X a tA) : PW X (.BoolOp .Or [a] pos) tA := by
 intro wh pins s σ H Q I h
 refine isTrue_or (thn (ha pins s σ H Q I h) fun c s1 e => ?_)
 cases c with
 | false => exact isTrue_or_nil e
 | true => exact e
theorem eq5 (ha : PT X a tA) (hb : PW X (.BoolOp .And (b :: rest) pos) tB') : PW X (.BoolOp .And (a :: b :: rest) pos) (tAnd tA tB') := by
 intro wh pins s σ H Q I h
 refine isTrue_and (thn (ha pins s σ H _ I h) fun c s1 W' => ?_)
 obtain ⟨H1, I1, q1⟩ := W'
 cases c with
 | true => exact hb wh pins s1 σ H1 Q I1 q1
 | false => exact ⟨H1, I1, q1⟩
theorem eqW (ha : PT X a tA) (hb : PW X (.BoolOp .Or (b :: rest) pos) tB') : PW X (.BoolOp .Or (a :: b :: rest) pos) (tOr tA tB') := by
 intro wh pins s σ H Q I h
 refine isTrue_or (thn (ha pins s σ H _ I h) fun c s1 W' => ?_)
 obtain ⟨H1, I1, q1⟩ := W'
 cases c with
 | true => exact ⟨H1, I1, q1⟩
 | false => exact hb wh pins s1 σ H1 Q I1 q1
theorem bqY (ha : PT X a tA) : PT X (.UnaryOp .Not a pos) (tNot tA) := by
 intro pins s σ H Q I h
 exact isTrue_not (ha pins s σ H (fun c H1 => Q (!c) H1) I h)
def tAndV (ta tb : TE) : TE := fun σ H Q => ta σ H fun x H1 => ∃ c, x = .bl c ∧ if c = true then tb σ H1 Q else Q (.bl false) H1
def tOrV (ta tb : TE) : TE := fun σ H Q => ta σ H fun x H1 => ∃ c, x = .bl c ∧ if c = true then Q (.bl true) H1 else tb σ H1 Q
def tNotV (ta : TE) : TE := fun σ H Q => ta σ H fun x H1 => ∃ c, x = .bl c ∧ Q (.bl (!c)) H1
theorem eq2 {op} {t : TE} (h : PE X a t) : PE X (.BoolOp op [a] pos) t := fun pins s σ H Q I hw => BoolOp_one (h pins s σ H Q I hw)
theorem kqB (ha : PE X a ta) (hb : PE X (.BoolOp .And (b :: rest) pos) tb) : PE X (.BoolOp .And (a :: b :: rest) pos) (tAndV ta tb) := by
 intro pins s σ H Q I h
 refine BoolOp_and (thn (ha pins s σ H _ I h) fun v s1 W' => ?_)
 obtain ⟨x, H1, I1, r1, q1⟩ := W'
 obtain ⟨c, rfl, q1⟩ := q1
 cases r1
 refine wpAny_truthy_bool ?_
 cases c with
 | true => exact hb pins s1 σ H1 Q I1 q1
 | false => exact ⟨.bl false, H1, I1, rfl, q1⟩
theorem mqo (ha : PE X a ta) (hb : PE X (.BoolOp .Or (b :: rest) pos) tb) : PE X (.BoolOp .Or (a :: b :: rest) pos) (tOrV ta tb) := by
 intro pins s σ H Q I h
 refine BoolOp_or (thn (ha pins s σ H _ I h) fun v s1 W' => ?_)
 obtain ⟨x, H1, I1, r1, q1⟩ := W'
 obtain ⟨c, rfl, q1⟩ := q1
 cases r1
 refine wpAny_truthy_bool ?_
 cases c with
 | false => exact hb pins s1 σ H1 Q I1 q1
 | true => exact ⟨.bl true, H1, I1, rfl, q1⟩
theorem tqF (ha : PE X a ta) : PE X (.UnaryOp .Not a pos) (tNotV ta) := by
 intro pins s σ H Q I h
 refine UnaryOp_ (thn (ha pins s σ H _ I h) fun v s1 W' => ?_)
 obtain ⟨x, H1, I1, r1, q1⟩ := W'
 obtain ⟨c, rfl, q1⟩ := q1
 cases r1
 exact not_of (wpAny_truthy_bool ⟨.bl (!c), H1, I1, rfl, q1⟩)
def tIf (t : TT) (ta tb : TE) : TE := fun σ H Q => t σ H fun c H1 => if c = true then ta σ H1 Q else tb σ H1 Q
theorem aqJ {c : Expr} (hc : PT X c tA) (ha : PE X a ta) (hb : PE X b tb) : PE X (.IfExp c a b pos) (tIf tA ta tb) := by
 intro pins s σ H Q I h
 refine wpAny_IfExp (thn (hc pins s σ H _ I h) fun d s1 W' => ?_)
 obtain ⟨H1, I1, q1⟩ := W'
 cases d with
 | true => exact ha pins s1 σ H1 Q I1 q1
 | false => exact hb pins s1 σ H1 Q I1 q1
end
def SqL (K : PySem.W.Frag) (H : Hp) (a : Addr) (xs : List V) : Prop :=
 Rd H a (.lst xs) ∨
  ∃ (o : Obj) (its : Array Value) (n : Nat), K.lookup a = some o ∧ o.cls = .type "list" ∧ o.dict = none ∧ o.data = .seq its n ∧ its.size ≤ sizeLine ∧ Vals xs its.toList
def SqT (K : PySem.W.Frag) (H : Hp) (a : Addr) (xs : List V) : Prop :=
 Rd H a (.tup xs) ∨
  ∃ (o : Obj) (its : Array Value) (n : Nat), K.lookup a = some o ∧ o.cls = .type "tuple" ∧ o.data = .seq its n ∧ its.size ≤ sizeLine ∧ Vals xs its.toList
def absV : Value → Option V
 | .none => some .non
 | .bool b => some (.bl b)
 | .int i _ => some (.int i)
 | .str x _ => some (.str x)
 | .bytes b _ => some (.byt b)
 | .float b _ => some (.flt b)
 | .ref a => some (.ref a)
 | .type n => some (.ty n)
 | _ => none
theorem RelV.abs {x : V} {u : Value} (r : RelV x u) : absV u = some x := by
 cases x with
 | non => cases r; rfl
 | bl _ => cases r; rfl
 | int _ => obtain ⟨t, rfl⟩ := r; rfl
 | str _ => obtain ⟨t, rfl⟩ := r; rfl
 | byt _ => obtain ⟨t, rfl⟩ := r; rfl
 | flt _ => obtain ⟨t, rfl⟩ := r; rfl
 | ref _ => cases r; rfl
 | ty _ => cases r; rfl
theorem RelV.inj {x y : V} {u : Value} (r : RelV x u) (q : RelV y u) : x = y := Option.some.inj (r.abs.symm.trans q.abs)
theorem Vals.inj : ∀ {xs ys : List V} {us : List Value}, Vals xs us → Vals ys us → xs = ys
 | _, _, _, .nil, .nil => rfl
 | _, _, _, .cons r t, .cons r' t' => by rw [r.inj r', Vals.inj t t']
section
variable {X : Cx} {pins : List (Addr × Obj)} {σ : St} {H : Hp} {s : Shared} {a : Addr} {xs ys : List V}
theorem SqL.of {K : PySem.W.Frag} (h : H a = some (.lst xs)) : SqL K H a xs := .inl (.inl h)
theorem SqT.of {K : PySem.W.Frag} (h : H a = some (.tup xs)) : SqT K H a xs := .inl (.inl h)
theorem Inv.list (I : Inv X pins σ H s) (h : SqL X.K H a xs) : ∃ its : List Value, Vals xs its ∧ PlainL s.heap a its.toArray ∧ xs.length ≤ sizeLine := by
 rcases h with h | ⟨o, its, n, hk, hc, hd, hs, hz, r⟩
 ·obtain ⟨z, its, n, r, e⟩ := h.ok I.hok
  exact ⟨its, r, ⟨_, n, e, rfl, rfl, rfl⟩, z⟩
 ·refine ⟨its.toList, r, ⟨o, n, I.kIn a o hk, hc, hd, by simpa using hs⟩, ?_⟩
  have e := r.length
  simp only [Array.length_toList] at e
  lia
theorem Inv.tuple (I : Inv X pins σ H s) (h : SqT X.K H a xs) : ∃ its : List Value, Vals xs its ∧ IsTup s.heap a its.toArray ∧ xs.length ≤ sizeLine := by
 rcases h with h | ⟨o, its, n, hk, hc, hs, hz, r⟩
 ·obtain ⟨z, its, r, p⟩ := h.ok I.hok
  exact ⟨its, r, p, z⟩
 ·refine ⟨its.toList, r, ⟨o, I.kIn a o hk, hc, n, by simpa using hs⟩, ?_⟩
  have e := r.length
  simp only [Array.length_toList] at e
  lia
theorem Inv.tuple_inj (I : Inv X pins σ H s) (h : SqT X.K H a xs) (h' : SqT X.K H a ys) : xs = ys := by
 obtain ⟨its, r, ⟨o, e, _, n, d⟩, _⟩ := I.tuple h
 obtain ⟨its', r', ⟨o', e', _, n', d'⟩, _⟩ := I.tuple h'
 rw [e] at e'; cases e'
 rw [d] at d'
 injection d' with d1 _
 have : its = its' := by simpa using congrArg Array.toList d1
 subst this
 exact r.inj r'
end
abbrev Cx.wish (X : Cx) (E : Value → Shared → Prop) : Cx := { X with xe := E }
abbrev Cx.nox (X : Cx) : Cx := X.wish fun _ _ => False
theorem Cx.Ok.wish {X : Cx} (ok : X.Ok) (E : Value → Shared → Prop) : (X.wish E).Ok :=
 ⟨ok.mod, ok.kind, ok.glob, ok.blt, ok.above, ok.inj, ok.has, ok.cab, ok.hd, ok.frames, ok.stk, ok.exf, ok.bs, ok.bsz, ok.noex, ok.exfs, ok.funs, ok.frf⟩
theorem Cx.Ok.unwish {X : Cx} {E : Value → Shared → Prop} (ok : (X.wish E).Ok) : X.Ok :=
 ⟨ok.mod, ok.kind, ok.glob, ok.blt, ok.above, ok.inj, ok.has, ok.cab, ok.hd, ok.frames, ok.stk, ok.exf, ok.bs, ok.bsz, ok.noex, ok.exfs, ok.funs, ok.frf⟩
section
variable {X : Cx} {pins : List (Addr × Obj)} {σ : St} {H : Hp} {s : Shared} {E : Value → Shared → Prop}
theorem Inv.wish (I : Inv X pins σ H s) (E : Value → Shared → Prop) : Inv (X.wish E) pins σ H s := ⟨I.ok.wish E, I.os, I.bare, I.base, I.loc, I.cell, I.free, I.freeC, I.pin, I.hok, I.len⟩
theorem Inv.unwish (I : Inv (X.wish E) pins σ H s) : Inv X pins σ H s := ⟨I.ok.unwish, I.os, I.bare, I.base, I.loc, I.cell, I.free, I.freeC, I.pin, I.hok, I.len⟩
theorem SP.unwish {D : Ends} {f : Flow} {s' : Shared} (h : SP (X.wish E) pins D f s') : SP X pins D f s' := by
 cases f with
 | next => obtain ⟨σ', H', I, q⟩ := h; exact ⟨σ', H', I.unwish, q⟩
 | brk => obtain ⟨σ', H', I, q⟩ := h; exact ⟨σ', H', I.unwish, q⟩
 | cont => obtain ⟨σ', H', I, q⟩ := h; exact ⟨σ', H', I.unwish, q⟩
 | ret u => obtain ⟨v, σ', H', I, r, q⟩ := h; exact ⟨v, σ', H', I.unwish, r, q⟩
theorem PSs.nox {st : List Stmt} {t : TS} (h : PSs X.nox st t) : PSs X st t := fun pins s σ H D I hw =>
 wpAny_mono (h pins s σ H D (I.wish _) hw) (fun _ _ q => q.unwish) fun _ _ z => False.elim z
end
section
variable {X : Cx} {st : Stmt} {rest : List Stmt} {t u : TS} {e : Expr} {te : TE} {pos : Pos}
def tNext : TS := fun D σ H => D.nx σ H
def tSeq (t u : TS) : TS := fun D σ H => t { D with nx := u D } σ H
theorem aqp : PSs X [] tNext := fun _ _ σ H _ I h => wpAny_execs_nil ⟨σ, H, I, h⟩
theorem aqc (h1 : PS X st t) (h2 : PSs X rest u) : PSs X (st :: rest) (tSeq t u) := by
 intro pins s σ H D I h
 refine wpAny_execs_cons (thn (h1 pins s σ H { D with nx := u D } I h) fun f s1 q => ?_)
 cases f with
 | next =>
  obtain ⟨σ', H', I', q⟩ := q
  exact h2 pins s1 σ' H' D I' q
 | ret v => exact q
 | brk => exact q
 | cont => exact q
theorem aqd (h1 : PS X st t) : PSs X [st] t := by
 intro pins s σ H D I h
 refine wpAny_execs_cons (thn (h1 pins s σ H D I h) fun f s1 q => ?_)
 cases f with
 | next => exact wpAny_execs_nil q
 | ret v => exact q
 | brk => exact q
 | cont => exact q
def tBreak : TS := fun D σ H => D.bk σ H
theorem Inv.quiet {pins : List (Addr × Obj)} {σ : St} {H : Hp} {s : Shared} (I : Inv X pins σ H s) : interactive X.env = false := by simp [interactive, I.ok.kind]
def tDrop (te : TE) : TS := fun D σ H => te σ H fun _ H1 => D.nx σ H1
theorem dqa (he : PE X e te) (hs : swapsWith e none pos.line X.env = pure false := by rfl) : PS X (.Expr e pos) (tDrop te) := by
 intro pins s σ H D I h
 exact wpAny_Expr_any (thn (he pins s σ H _ I h) fun v s1 ⟨x, H1, I1, r1, q1⟩ => ⟨σ, H1, I1, q1⟩) I.quiet hs
def tRet (te : TE) : TS := fun D σ H => te σ H D.rt
theorem aqh (he : PE X e te) : PS X (.Return (some e) pos) (tRet te) := by
 intro pins s σ H D I h
 exact wpAny_Return_some (thn (he pins s σ H _ I h) fun v s1 ⟨x, H1, I1, r1, q1⟩ => ⟨x, σ, H1, I1, r1, q1⟩)
def tIfS (c : TT) (t u : TS) : TS := fun D σ H => c σ H fun b H1 => if b = true then t D σ H1 else u D σ H1
theorem aqK {c : Expr} {a b : List Stmt} {tc : TT} (hc : PT X c tc) (ha : PSs X a t) (hb : PSs X b u) : PS X (.If c a b pos) (tIfS tc t u) := by
 intro pins s σ H D I h
 refine wpAny_If (thn (hc pins s σ H _ I h) fun d s1 W' => ?_)
 obtain ⟨H1, I1, q1⟩ := W'
 cases d with
 | true => exact ha pins s1 σ H1 D I1 q1
 | false => exact hb pins s1 σ H1 D I1 q1
def tNever : TS := fun _ _ _ => False
theorem bqa : PS X st tNever := fun _ _ _ _ _ _ h => h.elim
end
abbrev TG := V → St → Hp → (St → Hp → Prop) → Prop
abbrev TGs := List V → St → Hp → (St → Hp → Prop) → Prop
def PG (X : Cx) (target : Expr) (t : TG) : Prop :=
 ∀ (pins : List (Addr × Obj)) (s : Shared) (σ : St) (H : Hp) (v : V) (u : Value) (Q : St → Hp → Prop), Inv X pins σ H s → RelV v u → t v σ H Q →
  wpAny (model X.prog X.w) X.A (assign target X.env u) (fun _ s' => ∃ σ' H', Inv X pins σ' H' s' ∧ Q σ' H') X.xe s
def PGs (X : Cx) (ts : List Expr) (t : TGs) : Prop :=
 ∀ (pins : List (Addr × Obj)) (s : Shared) (σ : St) (H : Hp) (vs : List V) (us : List Value) (Q : St → Hp → Prop), Inv X pins σ H s → Vals vs us → t vs σ H Q →
  wpAny (model X.prog X.w) X.A (assignInOrder ((assignEach ts X.env).map (·.2)) us) (fun _ s' => ∃ σ' H', Inv X pins σ' H' s' ∧ Q σ' H') X.xe s
abbrev TSet := V → V → V → Hp → (Hp → Prop) → Prop
section
variable {X : Cx} {pos : Pos}
def gName (i : Nat) : TG := fun v σ H Q => Q (σ.set i (some v)) H
theorem dqE {i : Nat} {x : Str} (hN : X.N.Nodup) (hi : X.N[i]? = some x) (hx : Loc X.env.scope x) (hf : X.fn x = true ∨ X.env.scope.names.lookup x = some .local := by first | exact .inl rfl | exact .inr rfl | assumption) : PG X (.Name x pos) (gName i) := by
 intro pins s σ H v u Q I r h
 exact wpAny_assign_Name (lq4 I hN hi hx r (fun s' I' => ⟨_, H, I', h⟩) hf)
def gNil : TGs := fun vs σ H Q => vs = [] ∧ Q σ H
def gCons (t : TG) (u : TGs) : TGs := fun vs σ H Q => ∃ v r, vs = v :: r ∧ t v σ H fun σ' H' => u r σ' H' Q
theorem rqp : PGs X [] gNil := by
 intro pins s σ H vs us Q I r h
 obtain ⟨e, h⟩ := h
 subst e
 cases r
 exact assignInOrder_nil ⟨σ, H, I, h⟩
theorem mqf {e : Expr} {es : List Expr} {t : TG} {u : TGs} (h1 : PG X e t) (h2 : PGs X es u)
  (hs : (assignEach (e :: es) X.env).map (·.2) = assign e X.env :: (assignEach es X.env).map (·.2) := by rfl) : PGs X (e :: es) (gCons t u) := by
 intro pins s σ H vs us Q I r h
 obtain ⟨v, vr, e1, h⟩ := h
 subst e1
 cases r with
 | cons r rr =>
  rw [hs]
  refine assignInOrder_cons (thn (h1 pins s σ H _ _ _ I r h) fun _ s1 W' => ?_)
  obtain ⟨σ1, H1, I1, q1⟩ := W'
  exact h2 pins s1 σ1 H1 _ _ Q I1 rr q1
def gTup (K : PySem.W.Frag) (n : Nat) (t : TGs) : TG := fun v σ H Q => ∃ a xs, v = .ref a ∧ SqT K H a xs ∧ xs.length = n ∧ t xs σ H Q
theorem tqA {es : List Expr} {k : Nat} {t : TGs} {n : Nat} (hc : X.calm = true) (h : PGs X es t)
  (hn : (assignEach es X.env).length = n := by rfl) (hst : (assignEach es X.env).findIdx? (·.1) = none := by rfl) : PG X (.Tuple es k pos) (gTup X.K n t) := by
 intro pins s σ H v u Q I r hw
 obtain ⟨a, xs, e1, hq, hl, hw⟩ := hw
 subst e1
 cases r
 obtain ⟨its, rv, ht, hz⟩ := I.tuple hq
 refine assign_Tuple_tuple (I.ok.hd hc) ht (by simp [hn, ← hl, rv.length]) hst fun h' hx => ?_
 have I1 : Inv X pins σ H { s with heap := h' } := I.kept (t' := s.toks) fun b o e => hx b o (Nat.ne_of_lt (Heap.lt_size e)) e
 exact h pins _ σ H xs _ Q I1 (by simpa using rv) hw
def gSub (to ti : TE) (t : TSet) : TG := fun v σ H Q => to σ H fun o H1 => ti σ H1 fun i H2 => t o i v H2 fun H3 => Q σ H3
def tAsg (te : TE) (g : TG) : TS := fun D σ H => te σ H fun x H1 => g x σ H1 D.nx
theorem aqj {i : Nat} {x : Str} {e : Expr} {te : TE} {pos' : Pos} (hN : X.N.Nodup) (hi : X.N[i]? = some x) (hx : Loc X.env.scope x) (he : PE X e te) (hs : swapsWith e (some (.Name x pos')) pos.line X.env = pure false := by rfl) (hf : X.fn x = true ∨ X.env.scope.names.lookup x = some .local := by first | exact .inl rfl | exact .inr rfl | assumption) :
  PS X (.Assign [.Name x pos'] e pos) (tAsg te (gName i)) := by
 intro pins s σ H D I h
 refine wpAny_Assign_Name (thn (he pins s σ H _ I h) fun v s1 W' => ?_) hs
 obtain ⟨y, H1, I1, r1, q1⟩ := W'
 exact lq4 I1 hN hi hx r1 (fun s2 I2 => ⟨_, H1, I2, q1⟩) hf
def tPar (i j : Nat) (ta : TA) : TS := fun D σ H => ta σ H fun vs H1 => ∃ v w, vs = [v, w] ∧ D.nx ((σ.set i (some v)).set j (some w)) H1
end
section
variable {X : Cx} {pos : Pos}
def tWhile (c : TT) (tb : TS) : TS := fun D σ H => ∃ W : Nat → St → Hp → Prop, (∃ m, W m σ H) ∧ ∀ m σ H, W m σ H →
 c σ H fun b H1 => if b = true then ∃ N : St → Hp → Prop, (∀ σ' H', N σ' H' → ∃ m', m' < m ∧ W m' σ' H') ∧ tb { D with nx := N, ct := N, bk := D.nx } σ H1 else D.nx σ H1
theorem fqn {c : Expr} {body : List Stmt} {tc : TT} {tb : TS} (hp : PassesOwn (model X.prog X.w) X.A X.env X.xe) (hc : PT X c tc) (hb : PSs X body tb) : PS X (.While c body [] pos) (tWhile tc tb) := by
 intro pins s σ H D I h
 obtain ⟨W, ⟨m0, w0⟩, turn⟩ := h
 refine wpAny_While (codeAny_whileLoop (fun n s' => ∃ σ' H', Inv X pins σ' H' s' ∧ W n σ' H') ?_ m0 ⟨σ, H, I, w0⟩)
 rintro n s1 ⟨σ1, H1, I1, w1⟩
 refine wpAny_passesOwn hp (thn (hc pins s1 σ1 H1 _ I1 (turn n σ1 H1 w1)) fun b s2 W' => ?_)
 obtain ⟨H2, I2, q2⟩ := W'
 cases b with
 | true =>
  obtain ⟨N, hN, q2⟩ := q2
  rw [if_pos rfl]
  refine wpAny_passesOwn hp (thn (hb pins s2 σ1 H2 _ I2 q2) fun f s3 q3 => ?_)
  cases f with
  | next =>
   obtain ⟨σ3, H3, I3, n3⟩ := q3
   obtain ⟨m', hm, w3⟩ := hN σ3 H3 n3
   exact ⟨m', hm, σ3, H3, I3, w3⟩
  | cont =>
   obtain ⟨σ3, H3, I3, n3⟩ := q3
   obtain ⟨m', hm, w3⟩ := hN σ3 H3 n3
   exact ⟨m', hm, σ3, H3, I3, w3⟩
  | brk => exact q3
  | ret v => exact q3
 | false =>
  rw [if_neg Bool.false_ne_true]
  exact wpAny_execs_nil ⟨σ1, H2, I2, q2⟩
end
structure It where
 go : Nat → Hp → Prop
 yld : Nat → Hp → V → Hp → Prop
 stop : Nat → Hp → Prop
def FpOk (X : Cx) (pins : List (Addr × Obj)) (H : Hp) (b : Addr) : Prop :=
 H b = none ∧ b ≠ X.env.locals ∧ b ∉ X.fs ∧ (b ∈ X.ex ∨ X.s₀.heap.objs.size ≤ b) ∧ (∀ x c, X.env.cells.lookup x = some c → c ≠ b) ∧ ∀ p ∈ X.pn ++ pins, p.1 ≠ b
theorem Inv.fpOk {X : Cx} {pins : List (Addr × Obj)} {σ : St} {H H' : Hp} {s : Shared} {b : Addr} (I : Inv X pins σ H s) (hb : s.heap.objs.size ≤ b) (hn : H' b = none) : FpOk X pins H' b := by
 refine ⟨hn, Nat.ne_of_gt (Nat.lt_of_lt_of_le I.lt hb), I.nofs hb, .inr (Nat.le_trans I.sz hb), fun x c e z => ?_, fun p hp z => ?_⟩
 ·obtain ⟨v, q⟩ := I.cell x c e
  exact absurd (Nat.lt_of_lt_of_le q.lt (by rw [z]; exact hb)) (Nat.lt_irrefl _)
 ·exact absurd (Nat.lt_of_lt_of_le (Heap.lt_size (I.pin p hp).1) (by rw [z]; exact hb)) (Nat.lt_irrefl _)
structure Turn (P : Program) (w : World) (K : PySem.W.Frag) (tg : Expr) (J : It) (fp : List Addr) (it : Addr) (tn : Nat → Heap → Prop) : Prop where
 mem : it ∈ fp
 obj : ∀ i h, tn i h → ∀ b ∈ fp, ∃ o, h.get? b = some o ∧ ∀ v, o.data ≠ .cell v
 keep : ∀ i h h', tn i h → (∀ b ∈ fp, ∀ o, h.get? b = some o → h'.get? b = some o) → tn i h'
 item : ∀ (X : Cx), X.prog = P → X.w = w → X.K = K → X.calm = true → ∀ (i : Nat) (pins : List (Addr × Obj)) (s : Shared) (σ : St) (H : Hp) (E : Value → Shared → Prop), Inv X pins σ H s → (∀ b ∈ fp, FpOk X pins H b) → tn i s.heap → J.go i H →
  wpAny (model P w) X.A (pyNext (.ref it)) (fun r s1 => ∃ u, r = some u ∧
   wpAny (model P w) X.A (letOwnedTupleGo tg (.ref it) u) (fun _ s2 => ∃ x H', Inv X pins σ H' s2 ∧ RelV x u ∧ J.yld i H x H' ∧ tn (i + 1) s2.heap ∧ ∀ b ∈ fp, H' b = none) E s1) E s
 done : ∀ (X : Cx), X.prog = P → X.w = w → X.K = K → X.calm = true → ∀ (i : Nat) (pins : List (Addr × Obj)) (s : Shared) (σ : St) (H : Hp) (E : Value → Shared → Prop), Inv X pins σ H s → (∀ b ∈ fp, FpOk X pins H b) → tn i s.heap → J.stop i H →
  wpAny (model P w) X.A (pyNext (.ref it)) (fun r s1 => r = none ∧ Inv X pins σ H s1) E s
 self : ∀ (A : Around) (i : Nat) (s : Shared) (Q : Value → Shared → Prop) (E : Value → Shared → Prop), tn i s.heap → Q (.ref it) s → wpAny (model P w) A (pyIter (.ref it)) Q E s
abbrev TI := St → Hp → (It → Hp → Prop) → Prop
def PIE (X : Cx) (pins : List (Addr × Obj)) (σ : St) (tg : Expr) (R : It → Hp → Prop) (itv : Value) (s2 : Shared) : Prop :=
 ∃ (it : Addr) (fp : List Addr) (tn : Nat → Heap → Prop) (J : It) (H' : Hp), itv = .ref it ∧ Inv X pins σ H' s2 ∧ Turn X.prog X.w X.K tg J fp it tn ∧ tn 0 s2.heap ∧ (∀ b ∈ fp, FpOk X pins H' b) ∧ R J H'
def PI (X : Cx) (tg iter : Expr) (wi : TI) : Prop :=
 ∀ (pins : List (Addr × Obj)) (s : Shared) (σ : St) (H : Hp) (R : It → Hp → Prop), Inv X pins σ H s → wi σ H R →
  wpAny (model X.prog X.w) X.A (eval iter X.env) (fun v s1 => wpAny (model X.prog X.w) X.A (pyIter v) (PIE X pins σ tg R) X.xe s1) X.xe s
theorem pqZ {M : Model} {A : Around} {E : Value → Shared → Prop} {s : Shared} {tg : Expr} {it : Addr} {u : Value} {o : Obj} {n : String} {vs : Array Value} {Q : Unit → Shared → Prop} (ho : s.heap.get? it = some o) (hc : o.cls = .type n) (hd : o.data = .fields vs)
  (hn : ["enumerate", "zip", "dict_itemiterator", "dict_reverseitemiterator", "odict_iterator", "itertools.zip_longest", "itertools.pairwise"].contains n = false) (hQ : Q () s) : wpAny M A (letOwnedTupleGo tg (.ref it) u) Q E s := by
 unfold letOwnedTupleGo
 cases tg <;> first
  | exact wpAny_pure hQ
  | (cases u <;> first
    | exact wpAny_pure hQ
    | (refine wpAny_bind (wpAny_load ho ?_)
       rw [hc, hd]
       show wpAny M A (if (["enumerate", "zip", "dict_itemiterator", "dict_reverseitemiterator", "odict_iterator", "itertools.zip_longest", "itertools.pairwise"].contains n && vs[0]? == some (rawInt _)) = true then _ else _) Q E s
       rw [if_neg (by intro h; rw [hn, Bool.false_and] at h; cases h)]
       exact wpAny_pure hQ))
def Itl (K : PySem.W.Frag) (a : Addr) : It :=
 ⟨fun i H => ∃ xs x, SqL K H a xs ∧ xs[i]? = some x, fun i H x H' => H' = H ∧ ∀ xs, SqL K H a xs → xs[i]? = some x, fun i H => ∃ xs, SqL K H a xs ∧ xs.length ≤ i⟩
def Itt (K : PySem.W.Frag) (a : Addr) : It :=
 ⟨fun i H => ∃ xs x, SqT K H a xs ∧ xs[i]? = some x, fun i H x H' => H' = H ∧ ∀ xs, SqT K H a xs → xs[i]? = some x, fun i H => ∃ xs, SqT K H a xs ∧ xs.length ≤ i⟩
def Itr (lo : Int) (n : Nat) : It := ⟨fun i _ => i < n, fun i H x H' => H' = H ∧ x = .int (lo + i), fun i _ => n ≤ i⟩
theorem mq2 {P : Program} {w : World} {K : PySem.W.Frag} {tg : Expr} (a it : Addr) : Turn P w K tg (Itt K a) [it] it (fun i h => h.IsTupleIter it a i) where
 mem := by simp
 obj := fun i h st b hb => by
  have e : b = it := by simpa using hb
  subst e
  obtain ⟨o, e, c, d⟩ := st
  exact ⟨o, e, fun v z => by rw [d] at z; cases z⟩
 keep := fun i h h' st k => st.at fun o e => k it (by simp) o e
 item := by
  intro X hP hw hK hc i pins s σ H E I hf st hg
  subst hP hw hK
  obtain ⟨xs, x, hq, hx⟩ := hg
  obtain ⟨its, rv, p, hz⟩ := I.tuple hq
  obtain ⟨u, hu, ru⟩ := rv.get hx
  obtain ⟨f0, f1, f2, f3, f4, f5⟩ := hf it (by simp)
  refine wpAny_pyNext_tuple_item st (show s.heap.IsTuple a its.toArray from p) (x := u) (by simpa using hu) fun h' st' sb => ?_
  have I1 : Inv X pins σ H { s with heap := h' } := I.turned (t' := s.toks) (fun b o hb e => (sb.2 b hb).trans e) f0 f1 f3 f4 f5
  obtain ⟨o, e, c, d⟩ := id st'
  exact ⟨u, rfl, pqZ (s := { s with heap := h' }) e c d (by decide) ⟨x, H, I1, ru, ⟨rfl, fun ys hy => by rw [I.tuple_inj hy hq]; exact hx⟩, st', fun b hb => (hf b hb).1⟩⟩
 done := by
  intro X hP hw hK hc i pins s σ H E I hf st hg
  subst hP hw hK
  obtain ⟨xs, hq, hx⟩ := hg
  obtain ⟨its, rv, p, hz⟩ := I.tuple hq
  obtain ⟨f0, f1, f2, f3, f4, f5⟩ := hf it (by simp)
  have hl := rv.length
  exact wpAny_pyNext_tuple_end (I.ok.hd hc) st (show s.heap.IsTuple a its.toArray from p) (by simp; lia) fun h' eb => ⟨rfl, I.turned (t' := s.toks) (fun b o hb e => eb b o hb e) f0 f1 f3 f4 f5⟩
 self := fun _ _ _ _ _ st h => wpAny_pyIter_tupleiter st h
theorem mqD {P : Program} {w : World} {K : PySem.W.Frag} {tg : Expr} (it : Addr) (lo : Int) (n : Nat) : Turn P w K tg (Itr lo n) [it] it (fun i h => IsRangeIter h it (lo + (i : Nat) * 1) ((n : Int) - (i : Nat)) 1) where
 mem := by simp
 obj := fun i h st b hb => by
  have e : b = it := by simpa using hb
  subst e
  exact ⟨_, st, fun v z => by
   have z' : Data.fields _ = Data.cell v := z
   cases z'⟩
 keep := fun i h h' st k => k it (by simp) _ st
 item := by
  intro X hP hw hK hc i pins s σ H E I hf st hg
  subst hP hw hK
  obtain ⟨f0, f1, f2, f3, f4, f5⟩ := hf it (by simp)
  have W := Walks.range (prog := X.prog) (w := X.w) (I.ok.hd hc) it lo 1 n
  refine W.item i s _ _ hg st fun v h' tk hv st' kk => ?_
  obtain ⟨t, rfl⟩ := hv
  have I1 : Inv X pins σ H { s with heap := h', toks := tk } := I.turned (fun b o hb e => kk b o (by simpa using hb) e) f0 f1 f3 f4 f5
  refine ⟨_, rfl, pqZ (s := { s with heap := h', toks := tk }) (n := "range_iterator") st' rfl rfl (by decide) ⟨.int (lo + i), H, I1, ⟨t, ?_⟩, ⟨rfl, rfl⟩, st', fun b hb => (hf b hb).1⟩⟩
  rw [Int.mul_one]
 done := by
  intro X hP hw hK hc i pins s σ H E I hf st hg
  subst hP hw hK
  obtain ⟨f0, f1, f2, f3, f4, f5⟩ := hf it (by simp)
  exact wpAny_pyNext_range_end (I.ok.hd hc) st (by have : n ≤ i := hg; lia) fun h' eb => ⟨rfl, I.turned (t' := s.toks) (fun b o hb e => eb b o hb e) f0 f1 f3 f4 f5⟩
 self := fun _ _ _ _ _ st h => wpAny_pyIter_rangeiter st h
section
variable {X : Cx} {tg : Expr}
def iList (K : PySem.W.Frag) (tl : TE) : TI := fun σ H R => tl σ H fun x H1 => ∃ a, x = .ref a ∧ (∃ xs, SqL K H1 a xs) ∧ R (Itl K a) H1
def iTup (K : PySem.W.Frag) (tl : TE) : TI := fun σ H R => tl σ H fun x H1 => ∃ a, x = .ref a ∧ (∃ xs, SqT K H1 a xs) ∧ R (Itt K a) H1
theorem tqo {l : Expr} {tl : TE} (hl : PE X l tl) : PI X tg l (iTup X.K tl) := by
 intro pins s σ H R I h
 refine thn (hl pins s σ H _ I h) fun v s1 W' => ?_
 obtain ⟨x, H1, I1, r1, q1⟩ := W'
 obtain ⟨a, e, ⟨xs, hq⟩, q⟩ := q1
 subst e
 cases r1
 obtain ⟨its, rv, p, hz⟩ := I1.tuple hq
 refine wpAny_pyIter_tuple (show s1.heap.IsTuple a its.toArray from p) ?_
 refine ⟨s1.heap.objs.size, [s1.heap.objs.size], _, _, H1, rfl, I1.kept (t' := s1.toks) fun b o e => Heap.get?_push_of_some _ e, mq2 a _, ⟨_, Heap.get?_push_size _ rfl, rfl, rfl⟩, fun b hb => ?_, q⟩
 have e : b = s1.heap.objs.size := by simpa using hb
 subst e
 exact I1.fpOk (Nat.le_refl _) (I1.hok.fresh (Nat.le_refl _))
theorem oq4 {pins : List (Addr × Obj)} {σ : St} {H : Hp} {s : Shared} {R : It → Hp → Prop} {E : Value → Shared → Prop} {lo hi : Int} {t u v : Tok} {tk : Nat} (I : Inv X pins σ H s) (h1 : -(2 ^ 62) ≤ lo) (h2 : lo < 2 ^ 62) (h3 : -(2 ^ 62) ≤ hi) (h4 : hi < 2 ^ 62)
  (q : R (Itr lo (hi - lo).toNat) H) : wpAny (model X.prog X.w) X.A (pyIter (.ref s.heap.objs.size)) (PIE X pins σ tg R) E { s with heap := s.heap.push { cls := .type "range", data := .fields #[.int lo t, .int hi u, .int 1 v] }, toks := tk } := by
 refine wpAny_pyIter_range (IsRange.new ..) (small_one h1 h2 h3 h4) ?_
 have I1 : Inv X pins σ H { s with heap := s.heap.push { cls := .type "range", data := .fields #[.int lo t, .int hi u, .int 1 v] }, toks := tk } := I.kept fun b o e => Heap.get?_push_of_some _ e
 refine ⟨(s.heap.push { cls := .type "range", data := .fields #[.int lo t, .int hi u, .int 1 v] }).objs.size, [(s.heap.push { cls := .type "range", data := .fields #[.int lo t, .int hi u, .int 1 v] }).objs.size], _, _, H, rfl,
  I1.kept (t' := tk) fun b o e => Heap.get?_push_of_some _ e, mqD _ lo (hi - lo).toNat, ?_, fun b hb => ?_, q⟩
 ·have e1 : lo + ((0 : Nat) : Int) * 1 = lo := by simp
  have e2 : (((hi - lo).toNat : Nat) : Int) - ((0 : Nat) : Int) = Builtin.Range.rangeSize lo hi 1 := by rw [rangeSize_one]; split <;> lia
  show IsRangeIter _ _ (lo + ((0 : Nat) : Int) * 1) ((((hi - lo).toNat : Nat) : Int) - ((0 : Nat) : Int)) 1
  rw [e1, e2]
  exact Heap.get?_push_size _ rfl
 ·have e : b = (s.heap.push { cls := .type "range", data := .fields #[.int lo t, .int hi u, .int 1 v] }).objs.size := by simpa using hb
  subst e
  exact I1.fpOk (Nat.le_refl _) (I1.hok.fresh (Nat.le_refl _))
def iRng1 (ta : TA) : TI := fun σ H R => ta σ H fun vs H1 => ∃ j : Int, vs = [.int j] ∧ -(2 ^ 62) ≤ j ∧ j < 2 ^ 62 ∧ R (Itr 0 j.toNat) H1
theorem cqZ {a : Expr} {ta : TA} {p pos : Pos} (hg : Gl X "range") (hm : X.mg "range" = none) (ha : PA X [a] ta) (hs : starEach [a] X.env = [(false, eval a X.env)] := by rfl) : PI X tg (.Call (.Name "range" p) [a] [] pos) (iRng1 ta) := by
 intro pins s σ H R I h
 refine Call_ (mqi I hg hm boot_range (PyProof.Rows.callWith_type1 (thn (ha pos pins s σ H _ I h) fun us s1 W' => ?_) hs rfl))
 obtain ⟨vs, H1, I1, r1, q1⟩ := W'
 obtain ⟨j, e, q1, q2, q⟩ := q1
 subst e
 cases r1 with
 | cons r rr =>
  cases rr
  obtain ⟨t, rfl⟩ := r
  exact call_range_1 (oq4 I1 (by lia) (by lia) q1 q2 (by simpa using q))
def tFor (wi : TI) (g : TG) (tb : TS) : TS := fun D σ H => wi σ H fun J H1 => ∃ W : Nat → Nat → St → Hp → Prop, (∃ m, W 0 m σ H1) ∧ ∀ i m σ H, W i m σ H →
 (J.stop i H ∧ D.nx σ H) ∨ (J.go i H ∧ ∃ N : St → Hp → Prop, (∀ σ' H', N σ' H' → ∃ m', m' < m ∧ W (i + 1) m' σ' H') ∧ ∀ x H', J.yld i H x H' → g x σ H' fun σ2 H2 => tb { D with nx := N, ct := N, bk := D.nx } σ2 H2)
def pinsAt (fp : List Addr) (h : Heap) : List (Addr × Obj) := fp.filterMap fun b => (h.get? b).map fun o => (b, o)
theorem cqG {fp : List Addr} {h : Heap} {b : Addr} {o : Obj} (hb : b ∈ fp) (e : h.get? b = some o) : (b, o) ∈ pinsAt fp h := List.mem_filterMap.mpr ⟨b, hb, by rw [e]; rfl⟩
theorem oqn {fp : List Addr} {h : Heap} {p : Addr × Obj} (hp : p ∈ pinsAt fp h) : p.1 ∈ fp ∧ h.get? p.1 = some p.2 := by
 obtain ⟨b, hb, e⟩ := List.mem_filterMap.mp hp
 cases q : h.get? b with
 | none => rw [q] at e; cases e
 | some o =>
  rw [q] at e
  have e' : (b, o) = p := Option.some.inj e
  subst e'
  exact ⟨hb, q⟩
theorem Inv.pinned {pins : List (Addr × Obj)} {σ : St} {H : Hp} {s : Shared} {fp : List Addr} (I : Inv X pins σ H s) (hf : ∀ b ∈ fp, FpOk X pins H b) (ho : ∀ b ∈ fp, ∃ o, s.heap.get? b = some o ∧ ∀ v, o.data ≠ .cell v) : Inv X (pins ++ pinsAt fp s.heap) σ H s :=
 I.pins_of fun p hp => (List.mem_append.mp hp).elim (fun z => I.pin p (List.mem_append_right _ z)) fun z => by
  obtain ⟨hb, e⟩ := oqn z
  obtain ⟨f0, f1, f2, _⟩ := hf p.1 hb
  obtain ⟨o, e', d⟩ := ho p.1 hb
  rw [e] at e'; cases e'
  exact ⟨e, f0, f1, f2, d⟩
theorem Inv.unpinned {pins pl : List (Addr × Obj)} {σ : St} {H : Hp} {s : Shared} (I : Inv X (pins ++ pl) σ H s) : Inv X pins σ H s := I.pins_of fun p hp => I.pin p (List.mem_append_right _ (List.mem_append_left _ hp))
theorem iqC {iter : Expr} {body : List Stmt} {wi : TI} {g : TG} {tb : TS} {pos : Pos} (hp : PassesOwn (model X.prog X.w) X.A X.env X.xe) (hc : X.calm = true) (hi : PI X tg iter wi) (hg : PG X tg g) (hb : PSs X body tb)
  (hs : ∀ x, foldedSetIterable iter X.env x = pure x := by intro _; rfl) : PS X (.For tg iter body [] pos) (tFor wi g tb) := by
 intro pins s σ H D I h
 refine wpAny_For (thn (hi pins s σ H _ I h) fun v s1 h1 => thn h1 fun itv s2 h2 => ?_) hs
 obtain ⟨it, fp, tn, J, H2, e, I2, T, st2, f2, W, ⟨m0, w0⟩, turn⟩ := h2
 subst e
 have stat : ∀ {H' : Hp}, (∀ b ∈ fp, H' b = none) → ∀ b ∈ fp, FpOk X pins H' b := fun hn b hb => ⟨hn b hb, (f2 b hb).2⟩
 refine codeAny_forLoop_any (fun n s' => ∃ i σ' H', Inv X pins σ' H' s' ∧ tn i s'.heap ∧ (∀ b ∈ fp, H' b = none) ∧ W i n σ' H') ?_ m0 ⟨0, σ, H2, I2, st2, fun b hb => (f2 b hb).1, w0⟩
 rintro n s3 ⟨i, σ3, H3, I3, st3, fr3, w3⟩
 rcases turn i n σ3 H3 w3 with ⟨stop, qn⟩ | ⟨go, N, hN, step⟩
 ·refine wpAny_passesOwn hp (thn (T.done X rfl rfl rfl hc i pins s3 σ3 H3 X.xe I3 (stat fr3) st3 stop) fun r s4 W' => ?_)
  obtain ⟨hr, I4⟩ := W'
  subst hr
  exact wpAny_execs_nil ⟨σ3, H3, I4, qn⟩
 ·refine wpAny_passesOwn hp (thn (T.item X rfl rfl rfl hc i pins s3 σ3 H3 X.xe I3 (stat fr3) st3 go) fun r s4 W' => ?_)
  obtain ⟨u, hr, h4⟩ := W'
  subst hr
  refine wpAny_passesOwn hp (thn h4 fun _ s5 W' => ?_)
  obtain ⟨x, H5, I5, r5, y5, st5, fr5⟩ := W'
  have I5' := I5.pinned (stat fr5) (T.obj _ _ st5)
  refine wpAny_passesOwn hp (thn (hg _ s5 σ3 H5 x u _ I5' r5 (step x H5 y5)) fun _ s6 W' => ?_)
  obtain ⟨σ6, H6, I6, q6⟩ := W'
  refine wpAny_passesOwn hp (thn (hb _ s6 σ6 H6 _ I6 q6) fun f s7 q7 => ?_)
  have again : ∀ {σ7 : St} {H7 : Hp}, Inv X (pins ++ pinsAt fp s5.heap) σ7 H7 s7 → N σ7 H7 → ∃ m, m < n ∧ ∃ i σ' H', Inv X pins σ' H' s7 ∧ tn i s7.heap ∧ (∀ b ∈ fp, H' b = none) ∧ W i m σ' H' := fun {σ7 H7} I7 n7 => by
   obtain ⟨m', hm, w7⟩ := hN σ7 H7 n7
   refine ⟨m', hm, i + 1, σ7, H7, I7.unpinned, T.keep _ _ _ st5 fun b hb o e => (I7.pin (b, o) (List.mem_append_right _ (List.mem_append_right _ (cqG hb e)))).1, fun b hb => ?_, w7⟩
   obtain ⟨o, e, d⟩ := T.obj _ _ st5 b hb
   exact (I7.pin (b, o) (List.mem_append_right _ (List.mem_append_right _ (cqG hb e)))).2.1
  cases f with
  | next => obtain ⟨σ7, H7, I7, n7⟩ := q7; exact again I7 n7
  | cont => obtain ⟨σ7, H7, I7, n7⟩ := q7; exact again I7 n7
  | brk => obtain ⟨σ7, H7, I7, q7⟩ := q7; exact ⟨σ7, H7, I7.unpinned, q7⟩
  | ret v => obtain ⟨x7, σ7, H7, I7, r7, q7⟩ := q7; exact ⟨x7, σ7, H7, I7.unpinned, r7, q7⟩
end
theorem rqr {K : PySem.W.Frag} {a : Addr} {xs : List V} {g : TG} {tb : TS} {D : Ends} {σ : St} {H : Hp} (Pv : Nat → St → Hp → Prop) (h0 : Pv 0 σ H) (hl : ∀ i σ H, i ≤ xs.length → Pv i σ H → SqT K H a xs)
  (hs : ∀ i x σ H, xs[i]? = some x → Pv i σ H → g x σ H fun σ2 H2 => tb { D with nx := Pv (i + 1), ct := Pv (i + 1), bk := D.nx } σ2 H2) (hd : ∀ σ H, Pv xs.length σ H → D.nx σ H) :
  ∃ W : Nat → Nat → St → Hp → Prop, (∃ m, W 0 m σ H) ∧ ∀ i m σ H, W i m σ H →
   ((Itt K a).stop i H ∧ D.nx σ H) ∨ ((Itt K a).go i H ∧ ∃ N : St → Hp → Prop, (∀ σ' H', N σ' H' → ∃ m', m' < m ∧ W (i + 1) m' σ' H') ∧ ∀ x H', (Itt K a).yld i H x H' → g x σ H' fun σ2 H2 => tb { D with nx := N, ct := N, bk := D.nx } σ2 H2) := by
 refine ⟨fun i m σ H => m = xs.length - i ∧ i ≤ xs.length ∧ Pv i σ H, ⟨xs.length, by simp, Nat.zero_le _, h0⟩, ?_⟩
 rintro i m σ H ⟨rfl, hi, p⟩
 have q := hl i σ H hi p
 by_cases hlt : i < xs.length
 ·refine .inr ⟨⟨xs, xs[i], q, by simp [hlt]⟩, Pv (i + 1), fun σ' H' p' => ⟨xs.length - (i + 1), by lia, rfl, hlt, p'⟩, fun x H' y => ?_⟩
  obtain ⟨e, y⟩ := y
  subst e
  exact hs i x σ _ (y xs q) p
 ·have e : i = xs.length := by lia
  subst e
  exact .inl ⟨⟨xs, q, Nat.le_refl _⟩, hd σ H p⟩
theorem oqu {lo : Int} {n : Nat} {g : TG} {tb : TS} {D : Ends} {σ : St} {H : Hp} (Pv : Nat → St → Hp → Prop) (h0 : Pv 0 σ H)
  (hs : ∀ i σ H, i < n → Pv i σ H → g (.int (lo + i)) σ H fun σ2 H2 => tb { D with nx := Pv (i + 1), ct := Pv (i + 1), bk := D.nx } σ2 H2) (hd : ∀ σ H, Pv n σ H → D.nx σ H) :
  ∃ W : Nat → Nat → St → Hp → Prop, (∃ m, W 0 m σ H) ∧ ∀ i m σ H, W i m σ H →
   ((Itr lo n).stop i H ∧ D.nx σ H) ∨ ((Itr lo n).go i H ∧ ∃ N : St → Hp → Prop, (∀ σ' H', N σ' H' → ∃ m', m' < m ∧ W (i + 1) m' σ' H') ∧ ∀ x H', (Itr lo n).yld i H x H' → g x σ H' fun σ2 H2 => tb { D with nx := N, ct := N, bk := D.nx } σ2 H2) := by
 refine ⟨fun i m σ H => m = n - i ∧ i ≤ n ∧ Pv i σ H, ⟨n, by simp, Nat.zero_le _, h0⟩, ?_⟩
 rintro i m σ H ⟨rfl, hi, p⟩
 by_cases hlt : i < n
 ·refine .inr ⟨hlt, Pv (i + 1), fun σ' H' p' => ⟨n - (i + 1), by lia, rfl, hlt, p'⟩, fun x H' y => ?_⟩
  obtain ⟨e, y⟩ := y
  subst e y
  exact hs i σ _ hlt p
 ·have e : i = n := by lia
  subst e
  exact .inl ⟨Nat.le_refl _, hd σ H p⟩
abbrev R2 := V → V → Hp → VK → Prop
def OpR (X : Cx) (f : Value → Value → Sem Value) (r : R2) : Prop :=
 ∀ (pins : List (Addr × Obj)) (s : Shared) (σ : St) (H : Hp) (x y : V) (v u : Value) (Q : VK), Inv X pins σ H s → RelV x v → RelV y u → r x y H Q →
  wpAny (model X.prog X.w) X.A (f v u) (EP X pins σ Q) X.xe s
def UnR (X : Cx) (f : Value → Sem Value) (r : V → Hp → VK → Prop) : Prop :=
 ∀ (pins : List (Addr × Obj)) (s : Shared) (σ : St) (H : Hp) (x : V) (v : Value) (Q : VK), Inv X pins σ H s → RelV x v → r x H Q →
  wpAny (model X.prog X.w) X.A (f v) (EP X pins σ Q) X.xe s
def CallR (X : Cx) (f : Value) (r : List V → Hp → VK → Prop) : Prop :=
 ∀ (pins : List (Addr × Obj)) (s : Shared) (σ : St) (H : Hp) (xs : List V) (us : List Value) (Q : VK), Inv X pins σ H s → Vals xs us → r xs H Q →
  wpAny (model X.prog X.w) X.A (call f us) (EP X pins σ Q) X.xe s
def tOp (r : R2) (ta tb : TE) : TE := fun σ H Q => ta σ H fun x H1 => tb σ H1 fun y H2 => r x y H2 Q
def tUn (r : V → Hp → VK → Prop) (ta : TE) : TE := fun σ H Q => ta σ H fun x H1 => r x H1 Q
def rI (C : Int → Int → Prop) (g : Int → Int → V) : R2 := fun x y H Q => ∃ i j, x = .int i ∧ y = .int j ∧ C i j ∧ Q (g i j) H
def rI0 (g : Int → Int → V) : R2 := fun x y H Q => ∃ i j, x = .int i ∧ y = .int j ∧ Q (g i j) H
def rU (g : Int → V) : V → Hp → VK → Prop := fun x H Q => ∃ i, x = .int i ∧ Q (g i) H
section
variable {X : Cx} {a b c : Expr} {ta tb tc : TE} {pos : Pos}
theorem binT (ha : PE X a ta) (hb : PE X b tb) {pins : List (Addr × Obj)} {s : Shared} {σ : St} {H : Hp} {R : V → V → Hp → Prop} (I : Inv X pins σ H s)
  (h : ta σ H fun x H1 => tb σ H1 fun y H2 => R x y H2) {Q : Value → Shared → Prop} {f : Value → Value → Sem Value}
  (hf : ∀ v u s2 x y H2, Inv X pins σ H2 s2 → RelV x v → RelV y u → R x y H2 → wpAny (model X.prog X.w) X.A (f v u) Q X.xe s2) :
  wpAny (model X.prog X.w) X.A (eval a X.env) (fun v s₁ => wpAny (model X.prog X.w) X.A (eval b X.env) (fun u s₂ => wpAny (model X.prog X.w) X.A (f v u) Q X.xe s₂) X.xe s₁) X.xe s := by
 refine thn (ha pins s σ H _ I h) fun v s1 W' => ?_
 obtain ⟨x, H1, I1, r1, q1⟩ := W'
 refine thn (hb pins s1 σ H1 _ I1 q1) fun u s2 W' => ?_
 obtain ⟨y, H2, I2, r2, q2⟩ := W'
 exact hf v u s2 x y H2 I2 r1 r2 q2
theorem aqm {op : Operator} {r : R2} (ho : OpR X (binaryOp op) r) (ha : PE X a ta) (hb : PE X b tb) : PE X (.BinOp a op b pos) (tOp r ta tb) := by
 intro pins s σ H Q I h
 exact wpAny_BinOp (binT ha hb I h fun v u s2 x y H2 I2 rx ry q => ho pins s2 σ H2 x y v u Q I2 rx ry q)
theorem pqm {op : UnaryOp} {r : V → Hp → VK → Prop} (ho : UnR X (unaryOp op) r) (ha : PE X a ta) : PE X (.UnaryOp op a pos) (tUn r ta) := by
 intro pins s σ H Q I h
 exact UnaryOp_ (thn (ha pins s σ H _ I h) fun v s1 ⟨x, H1, I1, r1, q1⟩ => ho pins s1 σ H1 x v Q I1 r1 q1)
theorem opI {f : Value → Value → Sem Value} {C : Int → Int → Prop} {g : Int → Int → Int}
  (rule : ∀ (i j : Int) (t u : Tok) (s : Shared) (Q : Value → Shared → Prop) (E : Value → Shared → Prop), C i j → Q (.int (g i j) s.toks) { s with toks := s.toks + 1 } → wpAny (model X.prog X.w) X.A (f (.int i t) (.int j u)) Q E s) :
  OpR X f (rI C fun i j => .int (g i j)) := by
 intro pins s σ H x y v u Q I rx ry h
 obtain ⟨i, j, rfl, rfl, hc, q⟩ := h
 obtain ⟨t, rfl⟩ := rx
 obtain ⟨t', rfl⟩ := ry
 exact rule i j t t' s _ _ hc ⟨.int (g i j), H, I.tok _, ⟨_, rfl⟩, q⟩
theorem opI0 {f : Value → Value → Sem Value} {g : Int → Int → Int}
  (rule : ∀ (i j : Int) (t u : Tok) (s : Shared) (Q : Value → Shared → Prop) (E : Value → Shared → Prop), Q (.int (g i j) s.toks) { s with toks := s.toks + 1 } → wpAny (model X.prog X.w) X.A (f (.int i t) (.int j u)) Q E s) :
  OpR X f (rI0 fun i j => .int (g i j)) := by
 intro pins s σ H x y v u Q I rx ry h
 obtain ⟨i, j, rfl, rfl, q⟩ := h
 obtain ⟨t, rfl⟩ := rx
 obtain ⟨t', rfl⟩ := ry
 exact rule i j t t' s _ _ ⟨.int (g i j), H, I.tok _, ⟨_, rfl⟩, q⟩
theorem opB0 {f : Value → Value → Sem Value} {g : Int → Int → Bool}
  (rule : ∀ (i j : Int) (t u : Tok) (s : Shared) (Q : Value → Shared → Prop) (E : Value → Shared → Prop), Q (.bool (g i j)) s → wpAny (model X.prog X.w) X.A (f (.int i t) (.int j u)) Q E s) :
  OpR X f (rI0 fun i j => .bl (g i j)) := by
 intro pins s σ H x y v u Q I rx ry h
 obtain ⟨i, j, rfl, rfl, q⟩ := h
 obtain ⟨t, rfl⟩ := rx
 obtain ⟨t', rfl⟩ := ry
 exact rule i j t t' s _ _ ⟨.bl (g i j), H, I, rfl, q⟩
def CDiv (i j : Int) : Prop := 0 < j ∧ j < 1073741824
def CMul (i j : Int) : Prop := (-(2 ^ 64) < i ∧ i < 2 ^ 64) ∨ (-(2 ^ 64) < j ∧ j < 2 ^ 64)
theorem CMul.ok {i j : Int} (h : CMul i j) : IntMulOk i j := by
 rcases h with ⟨h1, h2⟩ | ⟨h1, h2⟩
 ·exact .of_left (intBits_le_64 h1 h2)
 ·exact .of_right (intBits_le_64 h1 h2)
theorem tqm : OpR X (binaryOp .Add) (rI0 fun i j => .int (i + j)) := opI0 fun _ _ _ _ _ _ _ q => add_int q
theorem oqg : OpR X (binaryOp .Sub) (rI0 fun i j => .int (i - j)) := opI0 fun _ _ _ _ _ _ _ q => sub_int q
theorem tqD : OpR X (binaryOp .Mult) (rI CMul fun i j => .int (i * j)) := opI fun _ _ _ _ _ _ _ hc q => mul_int q hc.ok
theorem aqT : OpR X (binaryOp .FloorDiv) (rI CDiv fun i j => .int (i / j)) := opI fun i j _ _ _ _ _ hc q => by
 have h1 : (0 : Int) < j := hc.1
 have h2 : j < 1073741824 := hc.2
 exact floordiv_int (by lia) (by rw [Int.fdiv_eq_ediv_of_nonneg i (by lia)]; exact q) (.inl (PyProof.noPylong_small (by lia)))
theorem aqW : OpR X (binaryOp .Mod) (rI (fun _ j => 0 < j) fun i j => .int (i % j)) := opI fun i j _ _ _ _ _ hc q => by
 have h1 : (0 : Int) < j := hc
 exact mod_int' (by lia) (by rw [Int.fmod_eq_emod_of_nonneg i (by lia)]; exact q)
theorem unI {f : Value → Sem Value} {g : Int → Int}
  (rule : ∀ (i : Int) (t : Tok) (s : Shared) (Q : Value → Shared → Prop) (E : Value → Shared → Prop), Q (.int (g i) s.toks) { s with toks := s.toks + 1 } → wpAny (model X.prog X.w) X.A (f (.int i t)) Q E s) :
  UnR X f (rU fun i => .int (g i)) := by
 intro pins s σ H x v Q I rx h
 obtain ⟨i, rfl, q⟩ := h
 obtain ⟨t, rfl⟩ := rx
 exact rule i t s _ _ ⟨.int (g i), H, I.tok _, ⟨_, rfl⟩, q⟩
theorem lqH : UnR X (unaryOp .USub) (rU fun i => .int (-i)) := unI fun _ _ _ _ _ q => neg_int q
end
def scal : V → V → Bool
 | .non, .non => true | .non, .int _ => true | .int _, .non => true | .non, .bl _ => true | .bl _, .non => true | .non, .str _ => true | .str _, .non => true
 | .int _, .int _ => true | .bl _, .bl _ => true | .str _, .str _ => true | .byt _, .byt _ => true
 | .int _, .str _ => true | .str _, .int _ => true | .bl _, .str _ => true | .str _, .bl _ => true
 | _, _ => false
def rEq : R2 := fun x y H Q => scal x y = true ∧ Q (.bl (decide (x = y))) H
def rNe : R2 := fun x y H Q => scal x y = true ∧ Q (.bl (!decide (x = y))) H
theorem nqa {i j : Int} : decide (V.int i = V.int j) = (i == j) := by
 rw [Bool.eq_iff_iff]
 simp
theorem qqa {i j : Bool} : decide (V.bl i = V.bl j) = (i == j) := by
 rw [Bool.eq_iff_iff]
 simp
theorem nqO {i j : Str} : decide (V.str i = V.str j) = (i == j) := by
 rw [Bool.eq_iff_iff]
 simp
theorem mq9 {i j : Array UInt8} : decide (V.byt i = V.byt j) = (i.toList == j.toList) := by
 rw [Bool.eq_iff_iff]
 cases i
 cases j
 simp
section
variable {X : Cx} {a b c : Expr} {ta tb tc : TE} {pos : Pos}
theorem aqN {pins : List (Addr × Obj)} {σ : St} {H : Hp} {s : Shared} {Q : VK} {k k' : Bool} (I : Inv X pins σ H s) (q : Q (.bl k) H) (e : k = k') : EP X pins σ Q (.bool k') s := by
 subst e
 exact ⟨.bl k, H, I, rfl, q⟩
theorem cq2 : OpR X (compareOp .Eq) rEq := by
 intro pins s σ H x y v u Q I rx ry h
 obtain ⟨hs, q⟩ := h
 cases x with
 | non =>
  cases rx
  cases y with
  | non => cases ry; exact PySem.EqNone.eq_none_none (aqN I q (by simp))
  | bl j => cases ry; exact PySem.EqNone.eq_none_bool (aqN I q (by simp))
  | int j => obtain ⟨t', rfl⟩ := ry; exact PySem.EqNone.eq_none_int (aqN I q (by simp))
  | str j => obtain ⟨t', rfl⟩ := ry; exact PySem.EqNone.eq_none_str (aqN I q (by simp))
  | _ => exact absurd (show false = true from hs) Bool.false_ne_true
 | bl i =>
  cases rx
  cases y with
  | non => cases ry; exact PySem.EqNone.eq_bool_none (aqN I q (by simp))
  | bl j => cases ry; exact eq_bool (aqN I q qqa)
  | str j => obtain ⟨t', rfl⟩ := ry; exact PySem.EqMixed.eq_bool_str (aqN I q (by simp))
  | _ => exact absurd (show false = true from hs) Bool.false_ne_true
 | int i =>
  obtain ⟨t, rfl⟩ := rx
  cases y with
  | non => cases ry; exact PySem.EqNone.eq_int_none (aqN I q (by simp))
  | int j => obtain ⟨t', rfl⟩ := ry; exact eq_int (aqN I q nqa)
  | str j => obtain ⟨t', rfl⟩ := ry; exact PySem.EqMixed.eq_int_str (aqN I q (by simp))
  | _ => exact absurd (show false = true from hs) Bool.false_ne_true
 | str i =>
  obtain ⟨t, rfl⟩ := rx
  cases y with
  | non => cases ry; exact PySem.EqNone.eq_str_none (aqN I q (by simp))
  | bl j => cases ry; exact PySem.EqMixed.eq_str_bool (aqN I q (by simp))
  | int j => obtain ⟨t', rfl⟩ := ry; exact PySem.EqMixed.eq_str_int (aqN I q (by simp))
  | str j => obtain ⟨t', rfl⟩ := ry; exact eq_str (aqN I q nqO)
  | _ => exact absurd (show false = true from hs) Bool.false_ne_true
 | byt i =>
  obtain ⟨t, rfl⟩ := rx
  cases y with
  | byt j => obtain ⟨t', rfl⟩ := ry; exact PySem.W.eq_bytes (aqN I q mq9)
  | _ => exact absurd (show false = true from hs) Bool.false_ne_true
 | _ => cases y <;> exact absurd (show false = true from hs) Bool.false_ne_true
theorem eqS : OpR X (compareOp .NotEq) rNe := by
 intro pins s σ H x y v u Q I rx ry h
 obtain ⟨hs, q⟩ := h
 cases x with
 | non =>
  cases rx
  cases y with
  | non => cases ry; exact PySem.EqNone.ne_none_none (aqN I q (by simp))
  | bl j => cases ry; exact PySem.EqNone.ne_none_bool (aqN I q (by simp))
  | int j => obtain ⟨t', rfl⟩ := ry; exact PySem.EqNone.ne_none_int (aqN I q (by simp))
  | str j => obtain ⟨t', rfl⟩ := ry; exact PySem.EqNone.ne_none_str (aqN I q (by simp))
  | _ => exact absurd (show false = true from hs) Bool.false_ne_true
 | bl i =>
  cases rx
  cases y with
  | non => cases ry; exact PySem.EqNone.ne_bool_none (aqN I q (by simp))
  | bl j => cases ry; exact ne_bool (aqN I q (congrArg not qqa))
  | str j => obtain ⟨t', rfl⟩ := ry; exact PySem.EqMixed.ne_bool_str (aqN I q (by simp))
  | _ => exact absurd (show false = true from hs) Bool.false_ne_true
 | int i =>
  obtain ⟨t, rfl⟩ := rx
  cases y with
  | non => cases ry; exact PySem.EqNone.ne_int_none (aqN I q (by simp))
  | int j => obtain ⟨t', rfl⟩ := ry; exact ne_int (aqN I q (congrArg not nqa))
  | str j => obtain ⟨t', rfl⟩ := ry; exact PySem.EqMixed.ne_int_str (aqN I q (by simp))
  | _ => exact absurd (show false = true from hs) Bool.false_ne_true
 | str i =>
  obtain ⟨t, rfl⟩ := rx
  cases y with
  | non => cases ry; exact PySem.EqNone.ne_str_none (aqN I q (by simp))
  | bl j => cases ry; exact PySem.EqMixed.ne_str_bool (aqN I q (by simp))
  | int j => obtain ⟨t', rfl⟩ := ry; exact PySem.EqMixed.ne_str_int (aqN I q (by simp))
  | str j => obtain ⟨t', rfl⟩ := ry; exact ne_str (aqN I q (congrArg not nqO))
  | _ => exact absurd (show false = true from hs) Bool.false_ne_true
 | byt i =>
  obtain ⟨t, rfl⟩ := rx
  cases y with
  | byt j => obtain ⟨t', rfl⟩ := ry; exact PySem.W.ne_bytes (aqN I q (congrArg not mq9))
  | _ => exact absurd (show false = true from hs) Bool.false_ne_true
 | _ => cases y <;> exact absurd (show false = true from hs) Bool.false_ne_true
theorem pqT : OpR X (compareOp .Lt) (rI0 fun i j => .bl (decide (i < j))) := opB0 fun _ _ _ _ _ _ _ q => lt_int q
theorem tq1 : OpR X (compareOp .LtE) (rI0 fun i j => .bl (decide (i ≤ j))) := opB0 fun _ _ _ _ _ _ _ q => le_int q
theorem jqE : OpR X (compareOp .Gt) (rI0 fun i j => .bl (decide (j < i))) := opB0 fun _ _ _ _ _ _ _ q => gt_int q
theorem nq2 : OpR X (compareOp .In) (fun x y H Q => ∃ i j, x = .str i ∧ y = .str j ∧ Q (.bl (!(Builtin.Str.occurrences j i 0 j.length 1).isEmpty)) H) := by
 intro pins s σ H x y v u Q I rx ry h
 obtain ⟨i, j, rfl, rfl, q⟩ := h
 obtain ⟨t, rfl⟩ := rx
 obtain ⟨t', rfl⟩ := ry
 exact in_str (aqN I q rfl)
theorem sqX : OpR X (compareOp .Is) (fun x y H Q => y = .non ∧ Q (.bl (decide (x = .non))) H) := by
 intro pins s σ H x y v u Q I rx ry h
 obtain ⟨rfl, q⟩ := h
 cases ry
 refine is_none_gen (aqN I q ?_)
 cases x <;> first
  | (cases rx; rfl)
  | (obtain ⟨t, rfl⟩ := rx; rfl)
theorem qq8 : OpR X (compareOp .IsNot) (fun x y H Q => y = .non ∧ Q (.bl (!decide (x = .non))) H) := by
 intro pins s σ H x y v u Q I rx ry h
 obtain ⟨rfl, q⟩ := h
 cases ry
 refine isnot_none_gen (aqN I q ?_)
 cases x <;> first
  | (cases rx; rfl)
  | (obtain ⟨t, rfl⟩ := rx; rfl)
theorem nomark (b : Expr) {op : CmpOp} (h : op ≠ .In := by decide) (h2 : op ≠ .NotIn := by decide) : behindInMarks op b = false := by
 have e1 : (op == CmpOp.In) = false := by cases op <;> first | rfl | exact absurd rfl h
 have e2 : (op == CmpOp.NotIn) = false := by cases op <;> first | rfl | exact absurd rfl h2
 cases b <;> simp [behindInMarks, e1, e2]
theorem bqj {op : CmpOp} {r : R2} (ho : OpR X (compareOp op) r) (ha : PE X a ta) (hb : PE X b tb) (hm : behindInMarks op b = false) : PE X (.Compare a [op] [b] pos) (tOp r ta tb) := by
 intro pins s σ H Q I h
 exact wpAny_Compare1 (binT ha hb I h fun v u s2 x y H2 I2 rx ry q => ho pins s2 σ H2 x y v u Q I2 rx ry q) hm
def tTest (t : TE) : TT := fun σ H Q => t σ H fun x H' => ∃ k, x = .bl k ∧ Q k H'
theorem aqi {op : CmpOp} {r : R2} (ho : OpR X (compareOp op) r) (ha : PE X a ta) (hb : PE X b tb) (hm : behindInMarks op b = false) : PT X (.Compare a [op] [b] pos) (tTest (tOp r ta tb)) := by
 intro pins s σ H Q I h
 refine wpAny_isTrue_Compare1 (thn (ha pins s σ H _ I h) fun v s1 ⟨x, H1, I1, r1, q1⟩ => thn (hb pins s1 σ H1 _ I1 q1) fun u s2 ⟨y, H2, I2, r2, q2⟩ =>
  thn (ho pins s2 σ H2 x y v u _ I2 r1 r2 q2) fun c s3 ⟨z, H3, I3, r3, k, e, q3⟩ => ?_) hm
 subst e
 cases r3
 exact wpAny_truthy_bool ⟨H3, I3, q3⟩
def tChain (r r' : R2) (ta tb tc : TE) : TE := fun σ H Q => ta σ H fun x H1 => tb σ H1 fun y H2 => r x y H2 fun z H3 => ∃ k, z = .bl k ∧
 (if k = true then tc σ H3 fun w' H4 => r' y w' H4 Q else Q (.bl false) H3)
theorem line63 : (sizeLine : Nat) < 2 ^ 63 := by rw [sizeLine_eq]; decide
theorem mqB : OpR X (binaryOp .Add) (fun x y H Q => ∃ i j, x = .str i ∧ y = .str j ∧ i.length + j.length ≤ sizeLine ∧ Q (.str (i ++ j)) H) := by
 intro pins s σ H x y v u Q I rx ry h
 obtain ⟨i, j, rfl, rfl, hz, q⟩ := h
 obtain ⟨t, rfl⟩ := rx
 obtain ⟨t', rfl⟩ := ry
 exact add_str (fun t' tk => ⟨.str (i ++ j), H, I.tok _, ⟨_, rfl⟩, q⟩) hz
theorem vals1 {x : V} {us : List Value} (r : Vals [x] us) : ∃ u, us = [u] ∧ RelV x u := by
 cases r with
 | cons r1 r2 => cases r2; exact ⟨_, rfl, r1⟩
theorem vals2 {x y : V} {us : List Value} (r : Vals [x, y] us) : ∃ u w', us = [u, w'] ∧ RelV x u ∧ RelV y w' := by
 cases r with
 | cons r1 r2 =>
  cases r2 with
  | cons r3 r4 => cases r4; exact ⟨_, _, rfl, r1, r3⟩
theorem oqq (hc : X.calm = true) : CallR X (.builtin "min") (fun xs H Q => ∃ i j, xs = [.int i, .int j] ∧ Q (.int (if j < i then j else i)) H) := by
 intro pins s σ H xs us Q I r h
 obtain ⟨i, j, rfl, q⟩ := h
 obtain ⟨u, w', rfl, ⟨t, rfl⟩, ⟨t', rfl⟩⟩ := vals2 r
 refine min_two_ints (I.ok.hd hc) fun h' tk k => ⟨_, H, I.kept k, ?_, q⟩
 by_cases hj : j < i
 ·rw [if_pos hj, if_pos hj]; exact ⟨_, rfl⟩
 ·rw [if_neg hj, if_neg hj]; exact ⟨_, rfl⟩
theorem kqc : CallR X (.type "int") (fun xs H Q => (∃ i, xs = [.int i] ∧ Q (.int i) H) ∨ ∃ k, xs = [.bl k] ∧ Q (.int (if k then 1 else 0)) H) := by
 intro pins s σ H xs us Q I r h
 rcases h with ⟨i, rfl, q⟩ | ⟨k, rfl, q⟩
 ·obtain ⟨u, rfl, t, rfl⟩ := vals1 r
  exact call_int_int ⟨.int i, H, I, ⟨_, rfl⟩, q⟩
 ·obtain ⟨u, rfl, r1⟩ := vals1 r
  cases r1
  exact call_int_bool ⟨.int (if k then 1 else 0), H, I.tok _, ⟨_, rfl⟩, q⟩
theorem jq1 : CallR X (.type "str") (fun xs H Q => ∃ i, xs = [.int i] ∧ i.natAbs.log2 < 1920 ∧ Q (.str (toString i)) H) := by
 intro pins s σ H xs us Q I r h
 obtain ⟨i, rfl, hz, q⟩ := h
 obtain ⟨u, rfl, t, rfl⟩ := vals1 r
 exact PySem.P.str_of_int hz ⟨.str _, H, I.tok _, ⟨_, rfl⟩, q⟩
theorem pq1 : CallR X (.builtin "ord") (fun xs H Q => ∃ x, xs = [.str x] ∧ x.length = 1 ∧ Q (.int (x.cps.getD 0 0 : Nat)) H) := by
 intro pins s σ H xs us Q I r h
 obtain ⟨x, rfl, hz, q⟩ := h
 obtain ⟨u, rfl, t, rfl⟩ := vals1 r
 exact ord_of_one hz ⟨.int _, H, I.tok _, ⟨_, rfl⟩, q⟩
end
structure ObjM (h : Heap) (x dx C : Addr) (mA : Str → Option Value) : Prop where
 obj : h.get? x = some (PySem.W.instObj C dx)
 ns : h.Ns1 dx mA
 ne : dx ≠ x
theorem oqw {h : Heap} {dx : Addr} {mA : Str → Option Value} (n : h.Ns1 dx mA) : ∃ od, h.get? dx = some od ∧ ∀ name, PySem.W.lookIn name od = some (mA name) := by
 obtain ⟨o, es, ep, ho, hd, hk, _, hm⟩ := n
 refine ⟨o, ho, fun name => ?_⟩
 have e := hm name
 unfold nsFind findBy at e
 rw [← Array.find?_toList] at e
 unfold PySem.W.lookIn
 rw [hd]
 dsimp only
 split
 ·rename_i y q
  rw [q] at e
  exact congrArg some e
 ·rename_i q
  rw [q] at e
  have a : es.toList.any (·.refKey) = false := by
   rw [List.any_eq_false]
   intro y hy
   obtain ⟨z, t, hkey⟩ := hk y (Array.mem_toList_iff.mp hy)
   simp [DictEntry.refKey, hkey]
  have a' : ¬ es.toList.any (·.refKey) = true := by rw [a]; exact Bool.false_ne_true
  rw [if_neg a']
  exact congrArg some e
theorem ObjM.look {h : Heap} {x dx C : Addr} {mA : Str → Option Value} (I : ObjM h x dx C mA) : ∃ od, PySem.W.InstAt h x (PySem.W.instObj C dx) C (some od) ∧ ∀ name, PySem.W.lookIn name od = some (mA name) :=
 let ⟨od, ho, hl⟩ := oqw I.ns
 ⟨od, ⟨I.obj, rfl, rfl, ho⟩, hl⟩
section
variable {prog : Program} {w : World} {A : Around} {E : Value → Shared → Prop} {s : Shared} {K : PySem.W.Frag} {x dx C f : Addr} {mA : Str → Option Value} {name : Str} {v : Value}
theorem rql {expr : Bool} {Q : Value → Shared → Prop} (X : K.In s.heap) (I : ObjM s.heap x dx C mA) (hg : PySem.W.plainGet K C name = true) (hh : PySem.W.hasDictIn K C = true)
  (ha : PySem.W.findIn K (.ref C) name = some none) (hv : mA name = some v) (hv' : PySem.W.handedIn v = true) (h : Q v { s with toks := s.toks + 1 }) :
  wpAny (model prog w) A (getAttr (.ref x) name expr) Q E s := by
 obtain ⟨od, J, hl⟩ := I.look
 exact PySem.W.get_value X J (PySem.W.plainGet_of hg).1 (PySem.W.findObj_own hh ha rfl (by rw [hl, hv])) hv' h
theorem oqU {pl : Sem Bool} {Q : Value × List Value → Shared → Prop} (X : K.In s.heap) (I : ObjM s.heap x dx C mA) (hg : PySem.W.plainGet K C name = true)
  (hf : PySem.W.findIn K (.ref C) name = some (some (.ref f))) (ht : PySem.W.isFn K (.ref f) = true) (hv : mA name = none) (h : Q (.ref f, [.ref x]) s) :
  wpAny (model prog w) A (getMethod (.ref x) name pl) Q E s := by
 obtain ⟨od, J, hl⟩ := I.look
 exact PySem.W.method_fn X J (PySem.W.plainGet_of hg).1 (PySem.W.plainGet_of hg).2 hf (beq_iff_eq.mp ht) (by show (PySem.W.lookIn name od).map (·.isSome) = some false; rw [hl, hv]; rfl) h
theorem rqM {ns : List Str} {Q : Unit → Shared → Prop} (X : K.In s.heap) (I : ObjM s.heap x dx C mA)
  (hs : PySem.W.findIn K (.ref C) "__setattr__" = some (some (.builtin "object.__setattr__"))) (hp : PySem.W.plainOver K C = true) (ht : PySem.W.takerIn K C name = some none) (hh : PySem.W.hasDictIn K C = true)
  (hw : PySem.Within mA ns) (hsz : ns.length ≤ sizeLine)
  (h : ∀ h', ObjM h' x dx C (fun y => if y = name then some v else mA y) → Heap.SameBut dx s.heap h' → Q () { s with heap := h', toks := s.toks + 2 }) :
  wpAny (model prog w) A (setAttr (.ref x) name v) Q E s := by
 obtain ⟨od, J, hl⟩ := I.look
 refine PySem.W.set_plain X J hs (PySem.W.osa_open (s := { s with toks := s.toks + 1 }) (r := none) X J hp ht fun b => ?_)
 obtain ⟨cd, hc, hd'⟩ := PySem.W.any_some hh
 have hx : s.heap.get? x = some ⟨.ref C, some dx, .plain, #[]⟩ := I.obj
 refine wpAny_bind (wpAny_pure (wpAny_bind (wpAny_bind (wpAny_loadPart hx (wpAny_bind (PySem.W.Looks.here (s := { s with toks := s.toks + 1 }) (PySem.W.looks_clsIn X hc) ?_))))))
 rw [hd']
 refine wpAny_pure (a := some dx) (wpAny_bind (wpAny_pure (wpAny_bind ?_)))
 refine wpAny_nsSet1 (s := { s with toks := s.toks + 1 }) I.ns fun h' hn2 hs2 => ?_
 obtain ⟨oD, esD, epD, hoD, hdD, hcD⟩ := hn2.count (PySem.Within.cons name v hw)
 refine wpAny_bind (wpAny_lookBehind hoD (by rw [hdD]; exact pastItsLine_dict (Nat.le_trans hcD (by rw [List.length_cons]; lia))) ?_)
 exact wpAny_pure (h _ ⟨(hs2.2 _ (Ne.symm I.ne)).trans I.obj, hn2, I.ne⟩ hs2)
theorem pqR {R : Result → Shared → Prop} {vs : List Value} {kw : List (Str × Value)} (X : K.In s.heap) (hm : PySem.W.makesIn K C = true)
  (hi : PySem.W.findIn K (.ref C) "__init__" = some (some (.ref f))) (hf : PySem.W.typeIn K (.ref f) = some (.type "function"))
  (h : codeAny (model prog w) (A.under (.builtin "type.__call__" ⟨.ref C :: vs, kw⟩)) (.call (.ref f) ⟨.ref (s.heap.objs.size + 1) :: vs, kw⟩) (PySem.W.InitBack (s.heap.objs.size + 1) R)
   { s with heap := (s.heap.push PySem.W.emptyDict).push (PySem.W.instObj C s.heap.objs.size) }) :
  codeAny (model prog w) A (.call (.ref C) ⟨vs, kw⟩) R s := by
 obtain ⟨hh, g, d, t, os⟩ := s
 exact PySem.W.make_core (PySem.W.makes_of X hm) (PySem.W.looks_findIn X hi) (fun self => PySem.W.bind_fn X self hf) (.inl rfl) h
end
def putF (f : Str) (v : V) : List (Str × V) → List (Str × V)
 | [] => [(f, v)]
 | (g, x) :: r => if g = f then (g, v) :: r else (g, x) :: putF f v r
theorem hqn (f g : Str) (v : V) : ∀ fs : List (Str × V), (putF f v fs).lookup g = if g = f then some v else fs.lookup g
 | [] => by
  show List.lookup g [(f, v)] = _
  by_cases h : g = f
  ·have hb : (g == f) = true := beq_iff_eq.mpr h
   simp only [List.lookup, hb, if_pos h]
  ·have hb : (g == f) = false := beq_eq_false_iff_ne.mpr h
   simp only [List.lookup, hb, if_neg h]
 | (k, x) :: r => by
  have ih := hqn f g v r
  rw [show putF f v ((k, x) :: r) = (if k = f then (k, v) :: r else (k, x) :: putF f v r) from rfl]
  by_cases hk : k = f
  ·rw [if_pos hk]
   by_cases h : g = k
   ·have hb : (g == k) = true := beq_iff_eq.mpr h
    simp only [List.lookup, hb, if_pos (h.trans hk)]
   ·have hb : (g == k) = false := beq_eq_false_iff_ne.mpr h
    simp only [List.lookup, hb, if_neg (fun e : g = f => h (e.trans hk.symm))]
  ·rw [if_neg hk]
   by_cases h : g = k
   ·have hb : (g == k) = true := beq_iff_eq.mpr h
    simp only [List.lookup, hb, if_neg (fun e : g = f => hk (h.symm.trans e))]
   ·have hb : (g == k) = false := beq_eq_false_iff_ne.mpr h
    simp only [List.lookup, hb]
    exact ih
theorem hqS (f : Str) (v : V) : ∀ fs : List (Str × V), f ∈ (putF f v fs).map (·.1) ∧ ∀ g, g ∈ fs.map (·.1) → g ∈ (putF f v fs).map (·.1)
 | [] => ⟨by simp [putF], fun g h => by simp at h⟩
 | (k, x) :: r => by
  obtain ⟨i1, i2⟩ := hqS f v r
  rw [show putF f v ((k, x) :: r) = (if k = f then (k, v) :: r else (k, x) :: putF f v r) from rfl]
  by_cases hk : k = f
  ·rw [if_pos hk]
   subst hk
   exact ⟨by simp, fun g h => by simpa using h⟩
  ·rw [if_neg hk]
   refine ⟨?_, fun g h => ?_⟩
   ·rw [List.map_cons]
    exact List.mem_cons_of_mem _ i1
   ·rw [List.map_cons] at h ⊢
    rcases List.mem_cons.mp h with e | e
    ·exact List.mem_cons.mpr (.inl e)
    ·exact List.mem_cons_of_mem _ (i2 g e)
theorem hqI (f : Str) (v : V) : ∀ fs : List (Str × V), (putF f v fs).length ≤ fs.length + 1
 | [] => by simp [putF]
 | (k, x) :: r => by
  have ih := hqI f v r
  rw [show putF f v ((k, x) :: r) = (if k = f then (k, v) :: r else (k, x) :: putF f v r) from rfl]
  by_cases hk : k = f
  ·rw [if_pos hk, List.length_cons, List.length_cons]; lia
  ·rw [if_neg hk, List.length_cons, List.length_cons]; lia
theorem RelO.some_of {v : V} {o : Option Value} (r : RelO (some v) o) : ∃ u, o = some u ∧ RelV v u := by
 cases o with
 | none => exact (show False from r).elim
 | some u => exact ⟨u, rfl, r⟩
theorem RelO.none_of {o : Option Value} (r : RelO none o) : o = none := by
 cases o with
 | none => rfl
 | some u => exact (show False from r).elim
theorem mq6 {v : V} {u : Value} (r : RelV v u) : PySem.W.handedIn u = true := by
 cases v with
 | non => cases (show u = Value.none from r); rfl
 | bl b => cases (show u = Value.bool b from r); rfl
 | int i => obtain ⟨t, e⟩ := (show ∃ t, u = Value.int i t from r); cases e; rfl
 | str x => obtain ⟨t, e⟩ := (show ∃ t, u = Value.str x t from r); cases e; rfl
 | byt b => obtain ⟨t, e⟩ := (show ∃ t, u = Value.bytes b t from r); cases e; rfl
 | flt b => obtain ⟨t, e⟩ := (show ∃ t, u = Value.float b t from r); cases e; rfl
 | ref a => cases (show u = Value.ref a from r); rfl
 | ty n => cases (show u = Value.type n from r); rfl
section
variable {P : Program} {w : World} {H H' : Hp} {h h' : Heap} {a C dx : Addr} {fs fs' : List (Str × V)}
theorem jqA (hok : HOk P w H h) (e : H a = some (.ins C dx fs)) : ∃ mA, ObjM h a dx C mA ∧ (∀ f, RelO (fs.lookup f) (mA f)) ∧ PySem.Within mA (fs.map (·.1)) ∧ fs.length ≤ 1000 ∧ H dx = some (.own a) := by
 obtain ⟨d, z, ne, ob, mA, n, r, q⟩ := (show ObjOk P w H h a (.ins C dx fs) from hok a _ e)
 exact ⟨mA, ⟨ob, n, ne⟩, r, q, z, d⟩
end
structure Cls (K : PySem.W.Frag) (C : Addr) : Prop where
 pg : PySem.W.plainGet K C Str.empty = true
 hd : PySem.W.hasDictIn K C = true
 po : PySem.W.plainOver K C = true
 sa : PySem.W.findIn K (.ref C) "__setattr__" = some (some (.builtin "object.__setattr__"))
theorem Cls.get {K : PySem.W.Frag} {C : Addr} (c : Cls K C) (f : Str) : PySem.W.plainGet K C f = true := c.pg
def NoAttr (K : PySem.W.Frag) (C : Addr) (f : Str) : Prop := PySem.W.findIn K (.ref C) f = some none
theorem NoAttr.taker {K : PySem.W.Frag} {C : Addr} {f : Str} (n : NoAttr K C f) : PySem.W.takerIn K C f = some none := by
 unfold PySem.W.takerIn
 rw [show PySem.W.findIn K (.ref C) f = some none from n]
 rfl
structure Con (K : PySem.W.Frag) (C : Addr) (f : Str) (v : V) (u : Value) : Prop where
 at_ : PySem.W.findIn K (.ref C) f = some (some u)
 rel : RelV v u
 get : PySem.W.specialIn K u "__get__" = some none
 cp : PySem.W.copiedNames.contains f = false
structure Meth (K : PySem.W.Frag) (C : Addr) (m : Str) (f : Addr) : Prop where
 at_ : PySem.W.findIn K (.ref C) m = some (some (.ref f))
 fn : PySem.W.isFn K (.ref f) = true
 kp : PySem.W.keepIn K (.ref f) = true
section
variable {X : Cx} {pins : List (Addr × Obj)} {σ : St} {H : Hp} {s : Shared} {a C dx : Addr} {fs : List (Str × V)} {f : Str} {v : V} {A : Around} {E : Value → Shared → Prop}
theorem mqm {b : Bool} {Q : Value → Shared → Prop} (I : Inv X pins σ H s) (e : H a = some (.ins C dx fs)) (c : Cls X.K C) (n : NoAttr X.K C f) (l : fs.lookup f = some v)
  (h : ∀ u s', Inv X pins σ H s' → RelV v u → Q u s') : wpAny (model X.prog X.w) A (getAttr (.ref a) f b) Q E s := by
 obtain ⟨mA, O, r, _, _, _⟩ := jqA I.hok e
 obtain ⟨u, hu, ru⟩ := RelO.some_of (v := v) (o := mA f) (by rw [← l]; exact r f)
 exact rql I.kIn O (c.get f) c.hd n hu (mq6 ru) (h u _ (I.tok _) ru)
theorem fqU {m : Str} {g : Addr} {pl : Sem Bool} {Q : Value × List Value → Shared → Prop} (I : Inv X pins σ H s) (e : H a = some (.ins C dx fs)) (c : Cls X.K C) (k : Meth X.K C m g) (l : fs.lookup m = none)
  (h : Q (.ref g, [.ref a]) s) : wpAny (model X.prog X.w) A (getMethod (.ref a) m pl) Q E s := by
 obtain ⟨mA, O, r, _, _, _⟩ := jqA I.hok e
 have hn : mA m = none := RelO.none_of (by rw [← l]; exact r m)
 exact oqU I.kIn O (c.get m) k.at_ k.fn hn h
theorem mqv {y : V} {u : Value} {Q : Unit → Shared → Prop} (I : Inv X pins σ H s) (e : H a = some (.ins C dx fs)) (c : Cls X.K C) (n : NoAttr X.K C f) (hl : fs.length < 1000) (ry : RelV y u)
  (h : ∀ s', Inv X pins σ (upd H a (.ins C dx (putF f y fs))) s' → Q () s') : wpAny (model X.prog X.w) A (setAttr (.ref a) f u) Q E s := by
 obtain ⟨mA, O, r, wi, _, ho⟩ := jqA I.hok e
 have hz : (fs.map (·.1)).length ≤ sizeLine := by rw [List.length_map, sizeLine_eq]; lia
 refine rqM I.kIn O c.sa c.po n.taker c.hd wi hz fun h' O' sb => h _ ?_
 have hd : ∃ o, h'.get? dx = some o := let ⟨o, _, _, e', _⟩ := O'.ns; ⟨o, e'⟩
 refine I.write (x := a) (e := dx) (by rw [e]; exact True.intro) (.inr ho) (fun b q hb z => (sb.2 b hb).trans z) hd ?_
 refine ⟨by rw [aqA O.ne]; exact ho, ?_, O.ne, O'.obj, _, O'.ns, fun g => ?_, fun g hg => ?_⟩
 ·have := hqI f y fs; lia
 ·show RelO ((putF f y fs).lookup g) (if g = f then some u else mA g)
  rw [hqn]
  by_cases q : g = f
  ·rw [if_pos q, if_pos q]; exact ry
  ·rw [if_neg q, if_neg q]; exact r g
 ·by_cases q : g = f
  ·rw [q]; exact (hqS f y fs).1
  ·refine (hqS f y fs).2 g (wi g fun z => hg ?_)
   show (if g = f then some u else mA g) = none
   rw [if_neg q]; exact z
theorem Inv.made (I : Inv X pins σ H s) : Inv X pins σ (upd (upd H s.heap.objs.size (.own (s.heap.objs.size + 1))) (s.heap.objs.size + 1) (.ins C s.heap.objs.size []))
  { s with heap := (s.heap.push PySem.W.emptyDict).push (PySem.W.instObj C s.heap.objs.size) } := by
 have e1 : (s.heap.push PySem.W.emptyDict).get? s.heap.objs.size = some PySem.W.emptyDict := Heap.get?_push_size s.heap rfl
 have e2 : ((s.heap.push PySem.W.emptyDict).push (PySem.W.instObj C s.heap.objs.size)).get? (s.heap.objs.size + 1) = some (PySem.W.instObj C s.heap.objs.size) := by
  have := Heap.get?_push_size (s.heap.push PySem.W.emptyDict) (o := PySem.W.instObj C s.heap.objs.size) rfl
  rwa [Heap.size_push] at this
 have e3 : (s.heap.push PySem.W.emptyDict).Ns s.heap.objs.size (fun _ => none) := ⟨PySem.W.emptyDict, #[], _, e1, rfl, (fun e he => absurd he (by simp)), fun _ => rfl⟩
 have I1 := I.laid (a := s.heap.objs.size) (o := .own (s.heap.objs.size + 1)) (h' := s.heap.push PySem.W.emptyDict) (t' := s.toks) (fun b u q => Heap.get?_push_of_some _ q) (Nat.le_refl _) ⟨_, e1⟩
 refine I1.laid (a := s.heap.objs.size + 1) (o := .ins C s.heap.objs.size []) (t' := s.toks) (fun b u q => Heap.get?_push_of_some _ q) (Nat.le_of_eq (Heap.size_push _ _)) ?_
 have ne : s.heap.objs.size ≠ s.heap.objs.size + 1 := Nat.ne_of_lt (Nat.lt_succ_self _)
 refine ⟨by rw [aqA ne, aqk], Nat.zero_le _, ne, e2, fun _ => none, (Heap.Ns1.of_empty e3).at fun o q => Heap.get?_push_of_some _ q, fun _ => True.intro, fun y hy => absurd rfl hy⟩
theorem rq0 {prog : Program} {w : World} {env : Env} {e : Expr} {f : Str} {pos : Pos} {s : Shared} {Q : Value → Shared → Prop} (hb : attributeBase e f env (eval e env) = eval e env)
  (h : wpAny (model prog w) A (eval e env) (fun o s₁ => wpAny (model prog w) A (getAttr o f true) Q E s₁) E s) : wpAny (model prog w) A (eval (.Attribute e f pos) env) Q E s :=
 Attribute_any_ h (by rw [arm_eval_Attribute, hb])
end
def tFld (K : PySem.W.Frag) (ta : TE) (f : Str) : TE := fun σ H Q => ta σ H fun x H1 => ∃ a C dx fs v, x = .ref a ∧ H1 a = some (.ins C dx fs) ∧ Cls K C ∧ NoAttr K C f ∧ fs.lookup f = some v ∧ Q v H1
def sFld (K : PySem.W.Frag) (ta tv : TE) (f : Str) : TS := fun D σ H => tv σ H fun y H1 => ta σ H1 fun x H2 => ∃ a C dx fs, x = .ref a ∧ H2 a = some (.ins C dx fs) ∧ Cls K C ∧ NoAttr K C f ∧ fs.length < 1000 ∧
 D.nx σ (upd H2 a (.ins C dx (putF f y fs)))
section
variable {X : Cx} {o e value : Expr} {f : Str} {pos pos' tpos : Pos} {ta tv : TE}
theorem bqR (he : PE X e ta) (hb : attributeBase e f X.env (eval e X.env) = eval e X.env) : PE X (.Attribute e f pos) (tFld X.K ta f) := by
 intro pins s σ H Q I h
 refine rq0 hb (thn (he pins s σ H _ I h) fun u s1 W' => ?_)
 obtain ⟨x, H1, I1, rx, a, C, dx, fs, v, ex, ea, c, n, l, q⟩ := W'
 subst ex
 obtain rfl : u = Value.ref a := rx
 exact mqm I1 ea c n l fun u' s2 I2 ru => ⟨v, H1, I2, ru, q⟩
theorem gq9 (ha : PE X o ta) (hv : PE X value tv) (hs : swapsWith value (some (.Attribute o f pos')) pos.line X.env = pure false) : PS X (.Assign [.Attribute o f pos'] value pos) (sFld X.K ta tv f) := by
 intro pins s σ H D I h
 refine plainObj_wpAny_Assign_Attribute (thn (hv pins s σ H _ I h) fun u s1 ⟨y, H1, I1, ry, q⟩ => thn (ha pins s1 σ H1 _ I1 q) fun ov s2 W' => ?_) hs
 obtain ⟨x, H2, I2, rx, a, C, dx, fs, ex, ea, c, n, l, q2⟩ := W'
 subst ex
 obtain rfl : ov = Value.ref a := rx
 exact mqv I2 ea c n l ry fun s3 I3 => ⟨σ, _, I3, q2⟩
theorem rqj {pl : Sem Bool} {m : Str} {apos : Pos} {args : List Expr} {pins : List (Addr × Obj)} {s : Shared} {σ : St} {H : Hp} {Q : Value → Shared → Prop} {te : TE} (he : PE X e te) (I : Inv X pins σ H s)
  (h : te σ H fun x H1 => ∃ a C dx fs g, x = .ref a ∧ H1 a = some (.ins C dx fs) ∧ Cls X.K C ∧ Meth X.K C m g ∧ fs.lookup m = none ∧
   ∀ s1, Inv X pins σ H1 s1 → wpAny (model X.prog X.w) X.A (callWith pos (.ref g) [.ref a] (backTo pos (starEach args X.env)) (backToKw pos (keywordEach [] X.env))) Q X.xe s1)
  (ht : eval (.Call (.Attribute e m apos) args [] pos) X.env = (do
   let ov ← eval e X.env
   standAt apos.atName
   let (f, first) ← holding [ov] (getMethod ov m pl)
   callWith pos f first (backTo pos (starEach args X.env)) (backToKw pos (keywordEach [] X.env)))) :
  wpAny (model X.prog X.w) X.A (eval (.Call (.Attribute e m apos) args [] pos) X.env) Q X.xe s := by
 refine PySem.W.methodCall_KW (pl := pl) (thn (he pins s σ H _ I h) fun u s1 W' => ?_) ht
 obtain ⟨x, H1, I1, rx, a, C, dx, fs, g, ex, ea, c, k, l, q⟩ := W'
 subst ex
 obtain rfl : u = Value.ref a := rx
 exact fqU I1 ea c k l (q s1 I1)
end
section
variable {X : Cx} {pins : List (Addr × Obj)} {σ : St} {H : Hp} {s : Shared} {A : Around} {E : Value → Shared → Prop} {Q : Value → Shared → Prop} {c : Value} {b : Bool}
inductive TyOf (K : PySem.W.Frag) (H : Hp) : V → Value → Prop where
 | non : TyOf K H .non (.type "NoneType")
 | bl (x : Bool) : TyOf K H (.bl x) (.type "bool")
 | int (i : Int) : TyOf K H (.int i) (.type "int")
 | str (x : Str) : TyOf K H (.str x) (.type "str")
 | flt (x : UInt64) : TyOf K H (.flt x) (.type "float")
 | lst {a : Addr} {xs : List V} (e : H a = some (.lst xs)) : TyOf K H (.ref a) (.type "list")
 | frz {a : Addr} {o : Obj} {xs : List V} (e : H a = some (.frz o (.lst xs))) : TyOf K H (.ref a) (.type "list")
 | tup {a : Addr} {xs : List V} (e : H a = some (.tup xs)) : TyOf K H (.ref a) (.type "tuple")
 | dK {a : Addr} {kvs : List (Key × V)} (e : H a = some (.dK kvs)) : TyOf K H (.ref a) (.type "dict")
 | dT {a : Addr} {kvs : List (List Key × V)} (e : H a = some (.dT kvs)) : TyOf K H (.ref a) (.type "dict")
 | ins {a C dx : Addr} {fs : List (Str × V)} (e : H a = some (.ins C dx fs)) (cl : Cls K C) (ha : PySem.W.findIn K (.ref C) "__class__" = some (some (.builtin "object.__class__")))
   (hn : PySem.W.specialIn K (.builtin "object.__class__") "__get__" = some (some (.builtin "getset_descriptor.__get__"))) (htk : PySem.W.takesIn K (.builtin "object.__class__") = some true)
   (hm : PySem.W.mroIn K C (.type "object") = some true) : TyOf K H (.ref a) (.ref C)
theorem oqL {x : V} {u t : Value} (I : Inv X pins σ H s) (rx : RelV x u) (ty : TyOf X.K H x t) (e : PySem.W.kitOne X.K t c = some b) (h : ∀ tk, Q (.bool b) { s with toks := tk }) :
  wpAny (model X.prog X.w) A (call (.builtin "isinstance") [u, c]) Q E s := by
 cases ty with
 | non => cases (show u = Value.none from rx); exact PySem.W.kia_one PySem.W.kitx_none I.kIn True.intro e (fun z => nomatch z) h
 | bl y => cases (show u = Value.bool y from rx); exact PySem.W.kia_one PySem.W.kitx_bool I.kIn True.intro e (fun z => nomatch z) h
 | int i => obtain ⟨t, q⟩ := (show ∃ t, u = Value.int i t from rx); cases q; exact PySem.W.kia_one PySem.W.kitx_int I.kIn True.intro e (fun z => nomatch z) h
 | str y => obtain ⟨t, q⟩ := (show ∃ t, u = Value.str y t from rx); cases q; exact PySem.W.kia_one PySem.W.kitx_str I.kIn True.intro e (fun z => nomatch z) h
 | flt y => obtain ⟨t, q⟩ := (show ∃ t, u = Value.float y t from rx); cases q; exact PySem.W.kia_one PySem.W.kitx_float I.kIn True.intro e (fun z => nomatch z) h
 | @lst a xs ea =>
  cases (show u = Value.ref a from rx)
  obtain ⟨_, _, n, _, h1⟩ := (show ObjOk X.prog X.w H s.heap a (.lst xs) from I.hok a _ ea)
  exact PySem.W.kia_one PySem.W.kitx_list I.kIn ⟨_, h1, rfl⟩ e (fun z => nomatch z) h
 | @frz a ob xs ea =>
  cases (show u = Value.ref a from rx)
  obtain ⟨_, _, _, n, _, h1⟩ := (show ObjOk X.prog X.w H s.heap a (.frz ob (.lst xs)) from I.hok a _ ea)
  exact PySem.W.kia_one PySem.W.kitx_list I.kIn ⟨_, h1, rfl⟩ e (fun z => nomatch z) h
 | @tup a xs ea =>
  cases (show u = Value.ref a from rx)
  obtain ⟨_, _, _, p⟩ := (show ObjOk X.prog X.w H s.heap a (.tup xs) from I.hok a _ ea)
  obtain ⟨o, h1, h2, _⟩ := p
  exact PySem.W.kia_one PySem.W.kitx_tuple I.kIn ⟨o, h1, h2⟩ e (fun z => nomatch z) h
 | @dK a kvs ea =>
  cases (show u = Value.ref a from rx)
  obtain ⟨_, _, vs, _, p⟩ := (show ObjOk X.prog X.w H s.heap a (.dK kvs) from I.hok a _ ea)
  obtain ⟨o, es, ep, h1, h2, _⟩ := p
  exact PySem.W.kia_one PySem.W.kitx_dict I.kIn ⟨o, h1, h2.1⟩ e (fun z => nomatch z) h
 | @dT a kvs ea =>
  cases (show u = Value.ref a from rx)
  obtain ⟨_, _, xs, _, o, es, ep, h1, h2, _⟩ := (show ObjOk X.prog X.w H s.heap a (.dT kvs) from I.hok a _ ea)
  exact PySem.W.kia_one PySem.W.kitx_dict I.kIn ⟨o, h1, h2.1⟩ e (fun z => nomatch z) h
 | @ins a C dx fs ea cl ha hn htk hm =>
  cases (show u = Value.ref a from rx)
  obtain ⟨mA, O, _⟩ := jqA I.hok ea
  obtain ⟨od, J, _⟩ := O.look
  exact PySem.W.kia_one (PySem.W.kitx_own (cl.get _) cl.hd ha hn htk hm) I.kIn J e (fun z => nomatch z) h
end
structure Room (k : Nat) (A : Around) : Prop where
 hd : A.handled = none
 dp : A.depth + 3 * k + 5 < recursionLimit
 un : A.units + 16 * k + 200 < cLine
theorem Room.mono {j k : Nat} {A : Around} (r : Room k A) (h : j ≤ k) : Room j A := ⟨r.hd, by have := r.dp; lia, by have := r.un; lia⟩
theorem Room.deeper {k : Nat} {A : Around} (r : Room (k + 1) A) (env : Env) : Room k (A.deeper env) :=
 ⟨r.hd, by have := r.dp; show A.depth + 1 + 3 * k + 5 < _; lia, by have := r.un; show A.units + 3 + 16 * k + 200 < _; lia⟩
theorem mqs {A : Around} {C : Addr} {us : List Value} {kw : List (Str × Value)} : (A.under (.builtin "type.__call__" ⟨.ref C :: us, kw⟩)).depth = A.depth + 1 := by
 first | rfl | simp [Around.under, Code.weight, Code.isCreation, Code.isGuard, Code.isCaller, Code.frames, Code.isFrame, guardIds]
theorem mqM {A : Around} {C : Addr} {us : List Value} {kw : List (Str × Value)} : (A.under (.builtin "type.__call__" ⟨.ref C :: us, kw⟩)).units = A.units + 1 := by
 first | rfl | simp [Around.under, Code.cUnits, Code.frames, Code.isFrame]
theorem Room.make {k : Nat} {A : Around} (r : Room (k + 1) A) (C : Addr) (us : List Value) (kw : List (Str × Value)) : Room k (A.under (.builtin "type.__call__" ⟨.ref C :: us, kw⟩)) :=
 ⟨r.hd, by have := r.dp; rw [mqs]; lia, by have := r.un; rw [mqM]; lia⟩
theorem Room.depth {k : Nat} {A : Around} (r : Room k A) : A.depth < recursionLimit := by have := r.dp; lia
theorem Room.units {k : Nat} {A : Around} (r : Room k A) : A.units + 64 < cLine := by have := r.un; lia
def tNil : TA := fun _ H Q => Q [] H
def tCons (ta : TE) (tr : TA) : TA := fun σ H Q => ta σ H fun x H1 => tr σ H1 fun xs H2 => Q (x :: xs) H2
section
variable {X : Cx} {e : Expr} {es : List Expr} {te : TE} {t : TA} {pos : Pos}
theorem aqb : PA X [] tNil := fun _ _ _ _ H Q I h => Calls.spliced_nil ⟨[], H, I, .nil, h⟩
theorem aqa (ha : PE X e te) (hr : PA X es t) (hs : starEach (e :: es) X.env = (false, eval e X.env) :: starEach es X.env := by rfl) : PA X (e :: es) (tCons te t) := by
 intro pos pins s σ H Q I h
 rw [hs]
 show wpAny _ _ (spliced ((false, eval e X.env) :: backTo pos (starEach es X.env))) _ _ s
 refine Calls.spliced_cons (thn (ha pins s σ H _ I h) fun u s1 W' => ?_)
 obtain ⟨x, H1, I1, r1, q1⟩ := W'
 exact thn (hr pos pins s1 σ H1 _ I1 q1) fun us s2 ⟨xs, H2, I2, r2, q2⟩ => ⟨x :: xs, H2, I2, .cons r1 r2, q2⟩
def tTup (t : TA) : TE := fun σ H Q => t σ H fun xs H1 => xs.length ≤ sizeLine ∧ ∀ p, H1 p = none → Q (.ref p) (upd H1 p (.tup xs))
def tLst (t : TA) : TE := fun σ H Q => t σ H fun xs H1 => xs.length ≤ sizeLine ∧ ∀ p, H1 p = none → Q (.ref p) (upd H1 p (.lst xs))
theorem tqI (h : PA X es t) : PE X (.List es pos) (tLst t) := by
 intro pins s σ H Q I hq
 refine wpAny_List_spliced (thn (h pos pins s σ H _ I hq) fun us s1 ⟨xs, H1, I1, r, z, q⟩ => ⟨by rw [← r.length]; exact z, ?_⟩)
 have hf : H1 s1.heap.objs.size = none := I1.hok.fresh (Nat.le_refl _)
 refine ⟨.ref s1.heap.objs.size, upd H1 s1.heap.objs.size (.lst xs), I1.laid (t' := s1.toks) (fun b u e => Heap.get?_push_of_some _ e) (Nat.le_refl _) ?_, rfl, q _ hf⟩
 exact ⟨z, us, 0, r, Heap.get?_push_size _ rfl⟩
end
abbrev Sp := List V → Hp → VK → XK → Prop
abbrev CXT := List Env → Hp → Shared → XK → Value → Shared → Prop
structure Env0 (P : Program) (w : World) (K : PySem.W.Frag) (mg : Str → Option Value) (base : Heap) (A : Around) (outer : List Env) (s : Shared) (H : Hp) : Prop where
 frames : A.frames = some outer
 mod : Mod K mg base
 bs : ∀ b o, base.get? b = some o → s.heap.get? b = some o ∧ H b = none
 bsz : base.objs.size ≤ s.heap.objs.size
 funs : s.heap.FunFrames base outer
 frf : ∀ b ∈ frs outer, H b = none
 hok : HOk P w H s.heap
 bare : AllBare s.gens
def CE (outer : List Env) (P : Program) (w : World) (H : Hp) (s : Shared) (Q : VK) (u : Value) (s' : Shared) : Prop :=
 ∃ v H', s'.os = s.os ∧ AllBare s'.gens ∧ Un (frs outer) [] H H' s.heap s'.heap ∧ HOk P w H' s'.heap ∧ RelV v u ∧ Q v H'
def CR (CX : CXT) (outer : List Env) (P : Program) (w : World) (H : Hp) (s : Shared) (Q : VK) (E : XK) (r : Result) (s' : Shared) : Prop :=
 match r with
 | .ok (.ret u) => CE outer P w H s Q u s'
 | .ok _ => False
 | .error e => CX outer H s E e s'
structure FnOk (P : Program) (w : World) (K : PySem.W.Frag) (mg : Str → Option Value) (base : Heap) (CX : CXT) (k : Nat) (f : Addr) (fd : FuncData) (ps : List Str) (sp : Sp) : Prop where
 len : ∀ vs H Q E, sp vs H Q E → vs.length = ps.length
 run : ∀ (A : Around) (outer : List Env) (s : Shared) (H : Hp) (args : Args) (us : List Value) (vs : List V) (Q : VK) (E : XK), Room k A → Env0 P w K mg base A outer s H → BindsTo s fd args (ps.zip us) → Vals vs us → sp vs H Q E →
  codeAny (model P w) A (.call (.ref f) args) (CR CX outer P w H s Q E) s
theorem Env0.make {P : Program} {w : World} {K : PySem.W.Frag} {mg : Str → Option Value} {base : Heap} {A : Around} {outer : List Env} {s : Shared} {H : Hp} (e : Env0 P w K mg base A outer s H) (C : Addr) (us : List Value) (kw : List (Str × Value)) :
  Env0 P w K mg base (A.under (.builtin "type.__call__" ⟨.ref C :: us, kw⟩)) outer s H := ⟨by first | exact e.frames | (simpa [Around.under, Code.envs, Code.isFrame, pushEnvs] using e.frames), e.mod, e.bs, e.bsz, e.funs, e.frf, e.hok, e.bare⟩
section
variable {X : Cx} {pins : List (Addr × Obj)} {σ : St} {H : Hp} {s s' : Shared}
theorem Inv.env0 (I : Inv X pins σ H s) : Env0 X.prog X.w X.K X.mg X.base X.A X.stack s H :=
 ⟨I.ok.frames, I.ok.mod, I.bs, Nat.le_trans I.ok.bsz I.sz, I.stack, I.stkFree, I.hok, I.bare⟩
theorem Inv.after {Q : VK} {u : Value} (I : Inv X pins σ H s) (h : CE X.stack X.prog X.w H s Q u s') : EP X pins σ Q u s' := by
 obtain ⟨v, H', os, bare, un, hok, r, q⟩ := h
 obtain ⟨hh, g, d, t, os'⟩ := s'
 obtain rfl : os' = s.os := os
 exact ⟨v, H', I.call (h' := hh) (g' := g) (d' := d) (t' := t) (ch := []) un hok bare (fun b z => absurd z (by simp)), r, q⟩
end
def tCall (sp : Sp) (dvs : List V) (E : XK) (t : TA) : TE := fun σ H Q => t σ H fun vs H1 => sp (vs ++ dvs) H1 Q E
def tMeth (C : Addr) (m : Str) (sp : Sp) (dvs : List V) (E : XK) (ta : TE) (t : TA) : TE := fun σ H Q => ta σ H fun x H1 => ∃ a dx fs, x = .ref a ∧ H1 a = some (.ins C dx fs) ∧ fs.lookup m = none ∧
 t σ H1 fun vs H2 => sp (x :: (vs ++ dvs)) H2 Q E
def tMake (C : Addr) (sp : Sp) (dvs : List V) (E : XK) (t : TA) : TE := fun σ H Q => t σ H fun vs H1 => ∀ x dx, H1 x = none → H1 dx = none → dx ≠ x →
 sp (.ref x :: (vs ++ dvs)) (upd (upd H1 dx (.own x)) x (.ins C dx [])) (fun v H2 => v = .non ∧ Q (.ref x) H2) E
def Binds (K : PySem.W.Frag) (fd : FuncData) (ps : List Str) (ds : List Value) : Prop :=
 ∀ (s : Shared) (us : List Value), K.In s.heap → (us ++ ds).length = ps.length → BindsTo s fd ⟨us, []⟩ (ps.zip (us ++ ds))
theorem Binds.all {K : PySem.W.Frag} {fd : FuncData} {ps : List Str} (h : ∀ us : List Value, us.length = ps.length → bindArgs fd ⟨us, []⟩ = pure (ps.zip us)) : Binds K fd ps [] := fun s us _ hl => by
 rw [List.append_nil] at hl ⊢
 exact .of_eq (h us hl)
def Passes (CX : CXT) (X : Cx) (E : XK) : Prop := ∀ (pins : List (Addr × Obj)) (σ : St) (H : Hp) (s : Shared) (e : Value) (s' : Shared), Inv X pins σ H s → CX X.stack H s E e s' → X.xe e s'
section
variable {X : Cx} {CX : CXT} {k : Nat} {f C : Addr} {fd : FuncData} {ps : List Str} {sp : Sp} {dvs : List V} {ds : List Value} {E : XK} {x m : Str} {p pos apos : Pos} {e o : Expr} {es : List Expr} {ta : TE} {t : TA}
theorem mq8 {pins : List (Addr × Obj)} {σ : St} {H : Hp} {s : Shared} {Q : VK} {us : List Value} {vs : List V} (F : FnOk X.prog X.w X.K X.mg X.base CX k f fd ps sp) (hr : Room k X.A) (hb : Binds X.K fd ps ds) (hd : Vals dvs ds) (hx : Passes CX X E)
  (I : Inv X pins σ H s) (r : Vals vs us) (h : sp (vs ++ dvs) H Q E) : wpAny (model X.prog X.w) X.A (call (.ref f) us) (EP X pins σ Q) X.xe s := by
 have r2 : Vals (vs ++ dvs) (us ++ ds) := r.append hd
 have hl : (us ++ ds).length = ps.length := by rw [← r2.length]; exact F.len _ _ _ _ h
 refine wpAny_call (codeAny_mono (F.run X.A X.stack s H ⟨us, []⟩ (us ++ ds) (vs ++ dvs) Q E hr I.env0 (hb s us I.kIn hl) r2 h) fun r s' hq => ?_)
 cases r with
 | error e => exact hx pins σ H s e s' I hq
 | ok fl =>
  cases fl with
  | ret u => exact I.after hq
  | next => exact False.elim hq
  | brk => exact False.elim hq
  | cont => exact False.elim hq
theorem dqM (F : FnOk X.prog X.w X.K X.mg X.base CX k f fd ps sp) (hr : Room k X.A) (hg : Gl X x) (hm : X.mg x = some (.ref f)) (hk : PySem.W.keepIn X.K (.ref f) = true) (hb : Binds X.K fd ps ds) (hd : Vals dvs ds) (hx : Passes CX X E)
  (ha : PA X (e :: es) t) (hdb : (x == ("__debug__" : Str)) = false := by decide) (he : starEach (e :: es) X.env = (false, eval e X.env) :: starEach es X.env := by rfl) (hpl : (backTo pos (starEach es X.env)).any (·.1) = false := by rfl) :
  PE X (.Call (.Name x p) (e :: es) [] pos) (tCall sp dvs E t) := by
 intro pins s σ H Q I h
 refine wpAny_Call_Name_kw (kq3 I hg hm ?_ hdb)
 refine PySem.W.callWith_K (h₀ := X.base) I.ok.mod.kin hk (thn (ha pos pins s σ H _ I h) fun us s1 ⟨vs, H1, I1, r, q⟩ => ⟨I1.kIn, ?_⟩) he hpl
 exact mq8 F hr hb hd hx I1 r q
theorem aqX {pl : Sem Bool} (he : PE X o ta) (c : Cls X.K C) (hm : Meth X.K C m f) (F : FnOk X.prog X.w X.K X.mg X.base CX k f fd ps sp) (hr : Room k X.A) (hb : Binds X.K fd ps ds) (hd : Vals dvs ds) (hx : Passes CX X E) (ha : PA X (e :: es) t)
  (hst : starEach (e :: es) X.env = (false, eval e X.env) :: starEach es X.env := by rfl) (hpl : (backTo pos (starEach es X.env)).any (·.1) = false := by rfl)
  (ht : eval (.Call (.Attribute o m apos) (e :: es) [] pos) X.env = (do
   let ov ← eval o X.env
   standAt apos.atName
   let (f, first) ← holding [ov] (getMethod ov m pl)
   callWith pos f first (backTo pos (starEach (e :: es) X.env)) (backToKw pos (keywordEach [] X.env))) := by rfl) :
  PE X (.Call (.Attribute o m apos) (e :: es) [] pos) (tMeth C m sp dvs E ta t) := by
 intro pins s σ H Q I h
 refine PySem.W.methodCall_KW (pl := pl) (thn (he pins s σ H _ I h) fun u s1 W' => ?_) ht
 obtain ⟨x, H1, I1, rx, a, dx, fs, ex, ea, l, q⟩ := W'
 subst ex
 obtain rfl : u = Value.ref a := rx
 refine fqU I1 ea c hm l ?_
 refine PySem.W.callWith_K (first := [.ref a]) (h₀ := X.base) I.ok.mod.kin hm.kp (thn (ha pos pins s1 σ H1 _ I1 q) fun us s2 ⟨vs, H2, I2, r, q2⟩ => ⟨I2.kIn, ?_⟩) hst hpl
 exact mq8 (us := .ref a :: us) (vs := .ref a :: vs) F hr hb hd hx I2 (.cons rfl r) q2
theorem dqv {pl : Sem Bool} (he : PE X o ta) (c : Cls X.K C) (hm : Meth X.K C m f) (F : FnOk X.prog X.w X.K X.mg X.base CX k f fd ps sp) (hr : Room k X.A) (hb : Binds X.K fd ps ds) (hd : Vals dvs ds) (hx : Passes CX X E)
  (ht : eval (.Call (.Attribute o m apos) [] [] pos) X.env = (do
   let ov ← eval o X.env
   standAt apos.atName
   let (f, first) ← holding [ov] (getMethod ov m pl)
   callWith pos f first (backTo pos (starEach [] X.env)) (backToKw pos (keywordEach [] X.env))) := by rfl) :
  PE X (.Call (.Attribute o m apos) [] [] pos) (tMeth C m sp dvs E ta tNil) := by
 intro pins s σ H Q I h
 refine PySem.W.methodCall_KW (pl := pl) (thn (he pins s σ H _ I h) fun u s1 W' => ?_) ht
 obtain ⟨x, H1, I1, rx, a, dx, fs, ex, ea, l, q⟩ := W'
 subst ex
 obtain rfl : u = Value.ref a := rx
 refine fqU I1 ea c hm l ?_
 exact PySem.W.callWith_K0 (first := [.ref a]) I1.kIn hm.kp (mq8 (us := [.ref a]) (vs := [.ref a]) F hr hb hd hx I1 (.cons rfl .nil) q)
structure Mk (K : PySem.W.Frag) (C f : Addr) : Prop where
 makes : PySem.W.makesIn K C = true
 init : PySem.W.findIn K (.ref C) "__init__" = some (some (.ref f))
 fn : PySem.W.isFn K (.ref f) = true
 kp : PySem.W.keepIn K (.ref C) = true
theorem oq0 {pins : List (Addr × Obj)} {σ : St} {H : Hp} {s : Shared} {Q : VK} {us : List Value} {vs : List V} (M : Mk X.K C f) (F : FnOk X.prog X.w X.K X.mg X.base CX k f fd ps sp) (hr : Room (k + 1) X.A) (hb : Binds X.K fd ps ds) (hd : Vals dvs ds)
  (hx : Passes CX X E) (I : Inv X pins σ H s) (r : Vals vs us)
  (h : ∀ x dx, H x = none → H dx = none → dx ≠ x → sp (.ref x :: (vs ++ dvs)) (upd (upd H dx (.own x)) x (.ins C dx [])) (fun v H2 => v = .non ∧ Q (.ref x) H2) E) :
  wpAny (model X.prog X.w) X.A (call (.ref C) us) (EP X pins σ Q) X.xe s := by
 have hq := h (s.heap.objs.size + 1) s.heap.objs.size (I.hok.fresh (Nat.le_succ _)) (I.hok.fresh (Nat.le_refl _)) (Nat.ne_of_lt (Nat.lt_succ_self _))
 have I2 := Inv.made (C := C) I
 have r2 : Vals (V.ref (s.heap.objs.size + 1) :: (vs ++ dvs)) (Value.ref (s.heap.objs.size + 1) :: (us ++ ds)) := .cons rfl (r.append hd)
 have hl : (Value.ref (s.heap.objs.size + 1) :: us ++ ds).length = ps.length := by
  have e := r2.length
  rw [F.len _ _ _ _ hq] at e
  exact e.symm
 refine wpAny_call (pqR (f := f) I.kIn M.makes M.init (beq_iff_eq.mp M.fn) (codeAny_mono (F.run _ X.stack _ _ ⟨Value.ref (s.heap.objs.size + 1) :: us, []⟩ (Value.ref (s.heap.objs.size + 1) :: (us ++ ds)) _ _ E (hr.make C us [])
  (I2.env0.make C us []) (hb _ (Value.ref (s.heap.objs.size + 1) :: us) I2.kIn hl) r2 hq) fun r s' hq' => ?_))
 cases r with
 | error e => exact hx pins σ _ _ e s' I2 hq'
 | ok fl =>
  cases fl with
  | ret u =>
   obtain ⟨v, H', I3, rv, ev, q3⟩ := I2.after hq'
   subst ev
   exact ⟨rv, ⟨V.ref (s.heap.objs.size + 1), H', I3, rfl, q3⟩⟩
  | next => exact False.elim hq'
  | brk => exact False.elim hq'
  | cont => exact False.elim hq'
theorem lqw (M : Mk X.K C f) (F : FnOk X.prog X.w X.K X.mg X.base CX k f fd ps sp) (hr : Room (k + 1) X.A) (hg : Gl X x) (hm : X.mg x = some (.ref C)) (hb : Binds X.K fd ps ds) (hd : Vals dvs ds) (hx : Passes CX X E)
  (ha : PA X (e :: es) t) (hdb : (x == ("__debug__" : Str)) = false := by decide) (he : starEach (e :: es) X.env = (false, eval e X.env) :: starEach es X.env := by rfl) (hpl : (backTo pos (starEach es X.env)).any (·.1) = false := by rfl) :
  PE X (.Call (.Name x p) (e :: es) [] pos) (tMake C sp dvs E t) := by
 intro pins s σ H Q I h
 refine wpAny_Call_Name_kw (kq3 I hg hm ?_ hdb)
 refine PySem.W.callWith_K (h₀ := X.base) I.ok.mod.kin M.kp (thn (ha pos pins s σ H _ I h) fun us s1 ⟨vs, H1, I1, r, q⟩ => ⟨I1.kIn, ?_⟩) he hpl
 exact oq0 M F hr hb hd hx I1 r q
end
section
variable {X : Cx} {CX : CXT} {k : Nat} {f C : Addr} {fd : FuncData} {ps ks : List Str} {sp : Sp} {E : XK} {x m : Str} {p pos apos kpos : Pos} {e o : Expr} {es : List Expr} {kws : List Keyword} {te ta : TE} {t tk : TA} {nm : Option Str}
structure KBinds (K : PySem.W.Frag) (fd : FuncData) (ps ks : List Str) (g : List Value → List Value → List Value) (gV : List V → List V → List V) : Prop where
 to : ∀ (s : Shared) (us ws : List Value), K.In s.heap → (g us ws).length = ps.length → BindsTo s fd ⟨us, ks.zip ws⟩ (ps.zip (g us ws))
 rel : ∀ {vs : List V} {us : List Value} {zs : List V} {ws : List Value}, Vals vs us → Vals zs ws → Vals (gV vs zs) (g us ws)
variable {g : List Value → List Value → List Value} {gV : List V → List V → List V}
end
structure FnScope (N P : List Str) (sc : Scope) : Prop where
 kind : sc.kind = .function
 co : sc.isCoroutine = false
 gen : sc.isGenerator = false
 nd : N.Nodup
 pre : N.take P.length = P
 par : ∀ x ∈ P, sc.names.lookup x = some .local ∨ sc.names.lookup x = some .cell
 nofree : ∀ y ∈ sc.names, y.2 ≠ .free
theorem jqO {kindOf : Str → Option NameKind} {x : Str} : ∀ {binds : List (Str × Value)} {m : Str → Option Value}, (∀ v, (x, v) ∉ binds) → bindL kindOf binds m x = m x
 | [], _, _ => rfl
 | (n, v) :: r, m, h => by
  unfold bindL
  rw [jqO fun w hw => h w (List.mem_cons_of_mem _ hw)]
  split
  ·have : x ≠ n := by rintro rfl; exact h v List.mem_cons_self
   simp [this]
  ·rfl
theorem kqD {kindOf : Str → Option NameKind} {x : Str} : ∀ {binds : List (Str × Value)} {m : Str → Option Value}, (∀ v, (x, v) ∉ binds) → bindC kindOf binds m x = m x
 | [], _, _ => rfl
 | (n, v) :: r, m, h => by
  unfold bindC
  rw [kqD fun w hw => h w (List.mem_cons_of_mem _ hw)]
  split
  ·rfl
  ·have : x ≠ n := by rintro rfl; exact h v List.mem_cons_self
   simp [this]
theorem kqq {kindOf : Str → Option NameKind} {x : Str} {v : Value} : ∀ {P : List Str} {vs : List Value} {i : Nat} {m : Str → Option Value}, P.Nodup → P[i]? = some x → vs[i]? = some v → kindOf x = some .local →
  bindL kindOf (P.zip vs) m x = some v
 | [], _, _, _, _, h, _, _ => by simp at h
 | _ :: _, [], _, _, _, _, h, _ => by simp at h
 | p :: P, w :: vs, 0, m, nd, h1, h2, hk => by
  simp at h1 h2; subst h1; subst h2
  show bindL kindOf ((p, w) :: P.zip vs) m p = _
  unfold bindL
  rw [jqO fun v hv => (List.nodup_cons.mp nd).1 (List.of_mem_zip hv).1, if_pos hk]
  simp
 | p :: P, w :: vs, i + 1, m, nd, h1, h2, hk => by
  show bindL kindOf ((p, w) :: P.zip vs) m x = _
  unfold bindL
  exact kqq (i := i) (List.nodup_cons.mp nd).2 (by simpa using h1) (by simpa using h2) hk
theorem kqi {kindOf : Str → Option NameKind} {x : Str} {v : Value} : ∀ {P : List Str} {vs : List Value} {i : Nat} {m : Str → Option Value}, P.Nodup → P[i]? = some x → vs[i]? = some v → kindOf x ≠ some .local →
  bindC kindOf (P.zip vs) m x = some v
 | [], _, _, _, _, h, _, _ => by simp at h
 | _ :: _, [], _, _, _, _, h, _ => by simp at h
 | p :: P, w :: vs, 0, m, nd, h1, h2, hk => by
  simp at h1 h2; subst h1; subst h2
  show bindC kindOf ((p, w) :: P.zip vs) m p = _
  unfold bindC
  rw [kqD fun v hv => (List.nodup_cons.mp nd).1 (List.of_mem_zip hv).1, if_neg hk]
  simp
 | p :: P, w :: vs, i + 1, m, nd, h1, h2, hk => by
  show bindC kindOf ((p, w) :: P.zip vs) m x = _
  unfold bindC
  exact kqi (i := i) (List.nodup_cons.mp nd).2 (by simpa using h1) (by simpa using h2) hk
def start (N : List Str) (vs : List V) : St := vs.map some ++ List.replicate (N.length - vs.length) none
def cxOf (CX : CXT) (P : Program) (w : World) (K : PySem.W.Frag) (mg : Str → Option Value) (base : Heap) (N : List Str) (qual : Str) (scope : Scope) (f : Addr) (cd : Value) (A : Around) (outer : List Env) (s : Shared) (H : Hp) (E : XK) : Cx where
 prog := P
 w := w
 K := K
 mg := mg
 base := base
 A := A.deeper (envOfC qual scope s.heap.objs.size f cd)
 N := N
 s₀ := s
 H₀ := H
 env := envOfC qual scope s.heap.objs.size f cd
 outer := outer
 stack := envOfC qual scope s.heap.objs.size f cd :: outer
 ex := []
 calm := true
 fn := fun _ => true
 pn := []
 xe := fun e s' => wpAny (model P w) (A.deeper (envOfC qual scope s.heap.objs.size f cd)) (leaving (envOfC qual scope s.heap.objs.size f cd) e) (fun _ s'' => CX outer H s E e s'') (fun e' s'' => CX outer H s E e' s'') s'
theorem mqc {sc : Scope} {n : Nat} {x : Str} (h : sc.names.lookup x = some .cell) : ∃ c, (cellsFrom n sc.names []).lookup x = some c := by
 have q := PySem.W.cellsFrom_some sc.names n [] (.inl h)
 exact Option.isSome_iff_exists.mp q
theorem oqC {CX : CXT} {P : Program} {w : World} {K : PySem.W.Frag} {mg : Str → Option Value} {base : Heap} {N ps : List Str} {qual : Str} {scope : Scope} {f : Addr} {cd : Value} {A : Around} {outer : List Env} {s s1 : Shared} {H : Hp} {E : XK} {us : List Value} {vs : List V}
  (S : FnScope N ps scope) (hd : A.handled = none) (e0 : Env0 P w K mg base A outer s H) (hl : vs.length = ps.length) (r : Vals vs us)
  (x : InCallC s s.heap.objs.size (bindL (envOfC qual scope s.heap.objs.size f cd).kindOf (ps.zip us) fun _ => none) (cellsFrom (s.heap.objs.size + 1) scope.names []) (bindC (envOfC qual scope s.heap.objs.size f cd).kindOf (ps.zip us) fun _ => none) s1) :
  Inv (cxOf CX P w K mg base N qual scope f cd A outer s H E) [] (start N vs) H s1 := by
 have hpl : ps.length ≤ N.length := by have := congrArg List.length S.pre; rw [List.length_take] at this; lia
 obtain ⟨h1, tk, rfl, hk⟩ := x.done
 have noA : ∀ b : Addr, b ∉ (cxOf CX P w K mg base N qual scope f cd A outer s H E).ex := fun b z => absurd (show b ∈ ([] : List Addr) from z) (by simp)
 refine ⟨⟨e0.mod, S.kind, rfl, rfl, Nat.le_refl _, fun y z c h1 h2 => ?_, fun y hy => ?_, fun y c _ h => ?_, fun _ => hd, Around.frames_deeper e0.frames, .inr ⟨rfl, rfl⟩, fun b z => absurd z (noA b), e0.bs, e0.bsz, fun b _ _ => noA b, fun b z => absurd z (noA b), e0.funs, e0.frf⟩,
  rfl, e0.bare, Un.kept hk, ⟨_, x.toInCall.ns, fun i y v h1 h2 h3 => ?_⟩, fun y c h => ⟨_, x.cell y c h⟩, e0.hok.fresh (Nat.le_refl _), fun y c h => ?_, fun p hp => absurd (show p ∈ ([] : List (Addr × Obj)) from hp) (by simp), e0.hok.kept hk, ?_⟩
 ·exact name_of_addr x.apart (PySem.mem_of_lookup h1) (PySem.mem_of_lookup h2)
 ·have hy : scope.names.lookup y = some .cell ∨ scope.names.lookup y = some .free := hy
  rcases hy with hy | hy
  ·exact mqc hy
  ·exact absurd rfl (S.nofree _ (PySem.mem_of_lookup hy))
 ·exact Nat.le_of_lt (x.above y c (PySem.mem_of_lookup h))
 ·have hi : i < vs.length := by
   unfold start at h2
   by_cases hi : i < vs.length
   ·exact hi
   ·rw [List.getElem?_append_right (by simpa using hi)] at h2
    rw [List.getElem?_replicate] at h2
    split at h2 <;> cases h2
  have ha : vs[i]? = some v := by
   unfold start at h2
   rw [List.getElem?_append_left (by simpa using hi), List.getElem?_map] at h2
   cases e : vs[i]? with
   | none => rw [e] at h2; cases h2
   | some a => rw [e] at h2; cases h2; rfl
  obtain ⟨u, hu, rv⟩ := r.get ha
  have hp : ps[i]? = some y := by
   rw [← S.pre, List.getElem?_take_of_lt (by lia)]; exact h1
  have ndP : ps.Nodup := by rw [← S.pre]; exact S.nd.sublist (List.take_sublist _ _)
  refine ⟨u, rv, ?_⟩
  rcases S.par y (List.mem_of_getElem? hp) with k | k
  ·exact .inl ⟨k, kqq ndP hp hu k⟩
  ·obtain ⟨c, e⟩ := mqc (n := s.heap.objs.size + 1) k
   refine .inr ⟨.inl k, c, e, ?_⟩
   have q := x.cell y c e
   rw [kqi ndP hp hu (by show scope.names.lookup y ≠ _; rw [k]; decide)] at q
   exact q
 ·exact e0.hok.fresh (Nat.le_of_lt (x.above y c (PySem.mem_of_lookup h)))
 ·unfold start
  show _ = N.length
  rw [List.length_append, List.length_map, List.length_replicate]
  lia
theorem tqv {CX : CXT} {P : Program} {w : World} {K : PySem.W.Frag} {mg : Str → Option Value} {base : Heap} {k : Nat} {f : Addr} {name qual : Str} {params : Arguments} {body : List Stmt} {scope : Scope} {dV kV doc pm cdv ct oc : Value} {an od : Option Addr}
  {osl : Array (Option Value)} {N ps : List Str} {sp : Sp} (lk : K.lookup f = some ⟨oc, od, .func (PySem.W.fnOf name qual params body scope dV kV doc pm an cdv ct), osl⟩) (hcd : PySem.W.codeIn K cdv qual = true) (S : FnScope N ps scope)
  (len : ∀ vs H Q E, sp vs H Q E → vs.length = ps.length)
  (hbody : ∀ (A : Around) (outer : List Env) (s : Shared) (H : Hp) (vs : List V) (Q : VK) (E : XK), Room k (A.deeper (envOfC qual scope s.heap.objs.size f cdv)) → sp vs H Q E →
   ∃ t, PSs (cxOf CX P w K mg base N qual scope f cdv A outer s H E) body t ∧ t { nx := fun _ H' => Q .non H', rt := Q } (start N vs) H) :
  FnOk P w K mg base CX (k + 1) f (PySem.W.fnOf name qual params body scope dV kV doc pm an cdv ct) ps sp := by
 refine ⟨len, fun A outer s H args us vs Q E hr e0 hb r hsp => ?_⟩
 have hl := len _ _ _ _ hsp
 have KX : K.In s.heap := e0.mod.kin.keeps fun b o e => (e0.bs b o e).1
 have lim : s.heap.NoLimit := e0.mod.nolimit.keeps fun b o e => (e0.bs b o e).1
 have hkind : ∀ y ∈ ps.zip us, scope.names.lookup y.1 = some .local ∨ (scope.names.lookup y.1 = some .cell ∧ ((cellsFrom (s.heap.objs.size + 1) scope.names []).lookup y.1).isSome = true) := fun ⟨n, v⟩ hy => by
  rcases S.par n (List.of_mem_zip hy).1 with q | q
  ·exact .inl q
  ·exact .inr ⟨q, PySem.W.cellsFrom_some _ _ _ (.inl q)⟩
 refine codeAny_call_function hr.depth (KX _ _ lk) rfl S.co S.gen rfl (PySem.W.codeRec_of KX hcd) (hb _ _ _ _ ?_)
 refine wpAny_newFunctionEnv_cells S.kind hkind fun env he s1 x => ?_
 subst he
 refine ⟨lim.keeps x.toInCall.keep, codeAny_func ?_⟩
 obtain ⟨t, ht, hq⟩ := hbody A outer s H vs Q E (hr.deeper _) hsp
 have I : Inv (cxOf CX P w K mg base N qual scope f cdv A outer s H E) [] (start N vs) H s1 := oqC S hr.hd e0 hl r x
 refine wpAny_mono (ht [] s1 (start N vs) H _ I hq) (fun fl s' hs => ?_) fun e s' hs => hs
 have fin : ∀ {σ' : St} {H' : Hp} {v : V} {u : Value}, Inv (cxOf CX P w K mg base N qual scope f cdv A outer s H E) [] σ' H' s' → RelV v u → Q v H' → CE outer P w H s Q u s' :=
  fun {σ' H' v u} J rv q => ⟨v, H', J.os, J.bare, J.base, J.hok, rv, q⟩
 cases fl with
 | ret u =>
  obtain ⟨v, σ', H', J, rv, q⟩ := hs
  exact fin J rv q
 | next =>
  obtain ⟨σ', H', J, q⟩ := hs
  exact fin (v := V.non) (u := Value.none) J rfl q
 | brk =>
  obtain ⟨_, _, _, q⟩ := hs
  exact False.elim q
 | cont =>
  obtain ⟨_, _, _, q⟩ := hs
  exact False.elim q
section
variable {X : Cx} {x : Str} {p pos : Pos} {e : Expr} {es : List Expr} {t : TA} {id T : String} {r : List V → Hp → VK → Prop}
def tCB (r : List V → Hp → VK → Prop) (t : TA) : TE := fun σ H Q => t σ H fun vs H1 => r vs H1 Q
theorem aqD (hc : CallR X (.builtin id) r) (hg : Gl X x) (hm : X.mg x = none) (hv : bootBuiltins x = some (.builtin id)) (ha : PA X (e :: es) t) (hn : x ≠ "__name__" := by decide) (hdb : (x == ("__debug__" : Str)) = false := by decide)
  (he : starEach (e :: es) X.env = (false, eval e X.env) :: starEach es X.env := by rfl) (hpl : (backTo pos (starEach es X.env)).any (·.1) = false := by rfl) : PE X (.Call (.Name x p) (e :: es) [] pos) (tCB r t) := by
 intro pins s σ H Q I h
 refine wpAny_Call_Name_kw (mqi I hg hm hv ?_ hn hdb)
 exact PyProof.Rows.callWith_builtin1 (thn (ha pos pins s σ H _ I h) fun us s1 ⟨vs, H1, I1, r1, q1⟩ => hc pins s1 σ H1 vs us Q I1 r1 q1) he hpl
theorem bq3 (hc : CallR X (.type T) r) (hg : Gl X x) (hm : X.mg x = none) (hv : bootBuiltins x = some (.type T)) (ha : PA X (e :: es) t) (hn : x ≠ "__name__" := by decide) (hdb : (x == ("__debug__" : Str)) = false := by decide)
  (he : starEach (e :: es) X.env = (false, eval e X.env) :: starEach es X.env := by rfl) (hpl : (backTo pos (starEach es X.env)).any (·.1) = false := by rfl) : PE X (.Call (.Name x p) (e :: es) [] pos) (tCB r t) := by
 intro pins s σ H Q I h
 refine wpAny_Call_Name_kw (mqi I hg hm hv ?_ hn hdb)
 exact PyProof.Rows.callWith_type1 (thn (ha pos pins s σ H _ I h) fun us s1 ⟨vs, H1, I1, r1, q1⟩ => hc pins s1 σ H1 vs us Q I1 r1 q1) he hpl
end
end L2
namespace HT
open PySem PyProof.Rows
section
open PySem.SeqAt
open PySem.AutoSeq1 (wpAny_loadPart')
open PySem.MeetsSeq PySem.MeetsSeq2 PySem.MeetsSeq3
end
section
variable {prog : Program} {w : World} {A : Around} {E : Value → Shared → Prop} {s : Shared}
theorem cat_tup {t b : Addr} {vs ws : List Value} {Q : Value → Shared → Prop} (ht : IsTup s.heap t vs.toArray) (hb : IsTup s.heap b ws.toArray) (hv : vs ≠ [])
  (h1 : ws = [] → Q (.ref t) s) (h2 : ws ≠ [] → Q (.ref s.heap.objs.size) { s with heap := s.heap.push { cls := .type "tuple", data := .seq (vs ++ ws).toArray } })
  (hsz : vs.length + ws.length ≤ sizeLine) : wpAny (model prog w) A (binaryOp .Add (.ref t) (.ref b)) Q E s := by
 obtain ⟨⟨cls, dd, data, sl⟩, ho, hc, n, hd⟩ := id ht
 obtain ⟨⟨cls2, dd2, data2, sl2⟩, ho2, hc2, n2, hd2⟩ := id hb
 simp only at hc hd hc2 hd2
 subst hc hd hc2 hd2
 have e : vs.toArray ++ ws.toArray = (vs ++ ws).toArray := by simp
 by_cases hw : ws = []
 ·exact concat_meets ⟨_, ho, rfl⟩ ⟨_, ho2, rfl⟩ noFill_tuple_add seq_tuple_add PySem.F.slot_tuple_add PySem.F.entry_tuple_add (PySem.F.args_tuple_add_2 _ _)
   (tuple_addW1 t b vs.toArray ws.toArray n n2 dd dd2 sl sl2 (by simpa using hv) (by simp [hw])) ⟨ho, ho2, h1 hw⟩
 ·refine concat_meets ⟨_, ho, rfl⟩ ⟨_, ho2, rfl⟩ noFill_tuple_add seq_tuple_add PySem.F.slot_tuple_add PySem.F.entry_tuple_add (PySem.F.args_tuple_add_2 _ _)
   (tuple_addW2 t b vs.toArray ws.toArray n n2 dd dd2 sl sl2 (by simpa using hv) (by simpa using hw) (by rw [List.size_toArray, List.size_toArray]; exact hsz)) ⟨ho, ho2, ?_⟩
  rw [e]
  exact h2 hw
def sIx (n d : Nat) : Option Int → Nat
 | none => d
 | some v => if v < 0 then (v + (n : Int)).toNat else min v.toNat n
theorem sIx_nat (n d k : Nat) : sIx n d (some (k : Int)) = min k n := by
 show (if (k : Int) < 0 then ((k : Int) + (n : Int)).toNat else min (k : Int).toNat n) = min k n
 rw [if_neg (by lia), Int.toNat_natCast]
theorem sqN (n d : Nat) (hd : d ≤ n) (o : Option Int) : sIx n d o ≤ n := by
 cases o with
 | none => exact hd
 | some v =>
  show (if v < 0 then (v + (n : Int)).toNat else min v.toNat n) ≤ n
  by_cases hv : v < 0
  ·rw [if_pos hv]; lia
  ·rw [if_neg hv]; exact Nat.min_le_right _ _
theorem nqu (v : Int) (n d : Nat) : (if v < 0 then max (v + (n : Int)) 0 else min v (n : Int)) = ((sIx n d (some v) : Nat) : Int) := by
 show (if v < 0 then max (v + (n : Int)) 0 else min v (n : Int)) = (((if v < 0 then (v + (n : Int)).toNat else min v.toNat n) : Nat) : Int)
 by_cases hv : v < 0
 ·simp only [if_pos hv]; lia
 ·simp only [if_neg hv]; lia
theorem mqE (lo hi : Option Int) (n : Nat) : Builtin.Slice.sliceAdjust lo hi 1 (n : Int) = (((sIx n 0 lo : Nat) : Int), ((sIx n n hi : Nat) : Int)) := by
 have h1 : ¬ ((1 : Int) < 0) := by lia
 unfold Builtin.Slice.sliceAdjust
 simp only [h1, if_false]
 refine Prod.ext ?_ ?_
 ·cases lo with
  | none => rfl
  | some v => exact nqu v n 0
 ·cases hi with
  | none => rfl
  | some v => exact nqu v n n
theorem mqN (i j : Nat) : Builtin.Slice.slicePlaces (i : Int) (j : Int) 1 = j - i := by
 unfold Builtin.Slice.slicePlaces
 have h1 : (1 : Int) > 0 := by lia
 simp only [h1, if_true, Int.ediv_one]
 split <;> lia
theorem iqD {v : Value} {o : Option Int} {Q : Option Int → Shared → Prop} (p : IsPart v o) (h : Q o s) : wpAny (model prog w) A (Builtin.Slice.slicePartIndex v) Q E s := by
 cases p with
 | none => exact slicePart_none h
 | int i t => exact slicePart_int h
theorem dq1 {sl : Addr} {vl vu : Value} {lo hi : Option Int} {n : Nat} {Q : Int × Int × Nat → Shared → Prop} (hs : s.heap.IsSliceOf sl vl vu .none) (pl : IsPart vl lo) (pu : IsPart vu hi)
  (h : Q (((sIx n 0 lo : Nat) : Int), 1, sIx n n hi - sIx n 0 lo) s) : wpAny (model prog w) A (Builtin.Slice.sliceApplied (.ref sl) (pure (n : Int))) Q E s := by
 obtain ⟨os, hos, hcs, hds⟩ := id hs
 unfold Builtin.Slice.sliceApplied Builtin.Slice.sliceFields
 refine wpAny_bind (wpAny_bind (wpAny_field hos hds (x := vl) rfl (wpAny_bind (wpAny_field hos hds (x := vu) rfl (wpAny_bind (wpAny_field hos hds (x := .none) rfl (wpAny_pure ?_)))))))
 refine wpAny_bind (slicePart_none ?_)
 show wpAny _ _ (if ((1 : Int) == 0) = true then _ else _) _ _ s
 rw [if_neg (by decide)]
 refine wpAny_bind (iqD pl (wpAny_bind (iqD pu (wpAny_bind (wpAny_pure ?_)))))
 show wpAny _ _ (match Builtin.Slice.sliceAdjust lo hi 1 (n : Int) with | (lo, hi) => pure (lo, (1 : Int), Builtin.Slice.slicePlaces lo hi 1)) _ _ s
 rw [mqE lo hi n]
 show wpAny _ _ (pure (((sIx n 0 lo : Nat) : Int), (1 : Int), Builtin.Slice.slicePlaces ((sIx n 0 lo : Nat) : Int) ((sIx n n hi : Nat) : Int) 1)) _ _ s
 rw [mqN]
 exact wpAny_pure h
theorem oqW (xs : Array Value) (i k : Nat) : ((List.range k).filterMap fun (m : Nat) => xs[((i : Int) + (m : Int) * 1).toNat]?).toArray = ((xs.toList.drop i).take k).toArray := by
 have e : (fun (m : Nat) => xs[((i : Int) + (m : Int) * 1).toNat]?) = fun m => xs[i + m]? := by
  funext m
  have : ((i : Int) + (m : Int) * 1).toNat = i + m := by lia
  rw [this]
 rw [e]
 have := pick_run xs i k
 rw [List.filterMap_map] at this
 have e2 : ((fun x => xs[x]?) ∘ fun x => i + x) = fun m => xs[i + m]? := rfl
 rw [e2] at this
 rw [this]
theorem getItem_tuple_cut {t sl : Addr} {items : Array Value} {vl vu : Value} {lo hi : Option Int} {Q : Value → Shared → Prop} (ht : IsTup s.heap t items) (hs : s.heap.IsSliceOf sl vl vu .none) (pl : IsPart vl lo) (pu : IsPart vu hi)
  (hw : ¬ (sIx items.size 0 lo = 0 ∧ sIx items.size items.size hi = items.size))
  (h : Q (.ref s.heap.objs.size) { s with heap := s.heap.push { cls := .type "tuple", data := .seq ((items.toList.drop (sIx items.size 0 lo)).take (sIx items.size items.size hi - sIx items.size 0 lo)).toArray } })
  (hsz : items.size ≤ sizeLine) : wpAny (model prog w) A (getItem (.ref t) (.ref sl)) Q E s := by
 have htake : sizeOk (.seq ((items.toList.drop (sIx items.size 0 lo)).take (sIx items.size items.size hi - sIx items.size 0 lo)).toArray) := by
  show ((items.toList.drop (sIx items.size 0 lo)).take (sIx items.size items.size hi - sIx items.size 0 lo)).toArray.size ≤ sizeLine
  rw [List.size_toArray, List.length_take, List.length_drop, Array.length_toList]
  lia
 have hj : sIx items.size items.size hi ≤ items.size := sqN _ _ (Nat.le_refl _) hi
 obtain ⟨os, hos, hcs, hds⟩ := id hs
 have hTs : s.TypeIs (.ref sl) "slice" := ⟨os, hos, hcs⟩
 unfold getItem
 try with_reducible refine wpAny_holding ?_
 first | refine wpAny_bind (wpAny_pure ?_) | skip
 refine wpAny_bind (wpAny_sequenceKey ht.typeIs (by decide) ?_)
 refine wpAny_bind (wpAny_callSpecial?_slot (name := Str.ofString "__getitem__") ht.typeIs PyProof.Rows.slot_tuple_getitem
  (wpAny_call_entry PyProof.Rows.slot_tuple_getitem ht.typeIs entry_tuple_getitem ?_ (args_tuple_getitem _ _)))
 show wpAny _ _ (Builtin.Tuple.tupleItemsOf (.ref t) >>= _) _ _ s
 refine wpAny_bind (tupleItemsOf_ ht ?_)
 refine wpAny_bind (wpAny_typeOf hTs ?_)
 rw [if_pos (by decide)]
 refine wpAny_bind (dq1 hs pl pu ?_)
 have hno : ¬ ((((sIx items.size 0 lo : Nat) : Int) == 0 && (1 : Int) == 1 && (sIx items.size items.size hi - sIx items.size 0 lo) == items.size) = true) := by
  intro q
  rw [Bool.and_eq_true, Bool.and_eq_true] at q
  have q1 : ((sIx items.size 0 lo : Nat) : Int) = 0 := eq_of_beq q.1.1
  have q2 : sIx items.size items.size hi - sIx items.size 0 lo = items.size := eq_of_beq q.2
  exact hw ⟨by lia, by lia⟩
 show wpAny _ _ (if (((sIx items.size 0 lo : Nat) : Int) == 0 && (1 : Int) == 1 && (sIx items.size items.size hi - sIx items.size 0 lo) == items.size) = true then _ else _) _ _ s
 rw [if_neg hno, oqW]
 first
  | exact wpAny_bind (m := Builtin.Tuple.tupleExact _) (wpAny_newObj_type (wpAny_pure ⟨_, rfl, wpAny_pure h⟩) htake)
  | exact wpAny_bind (m := Builtin.Tuple.tupleExact _) (wpAny_newObj_type (wpAny_bind (wpAny_pure (wpAny_pure ⟨_, rfl, wpAny_pure h⟩))) htake)
  | exact wpAny_bind (wpAny_bind (m := Builtin.Tuple.tupleExact _) (wpAny_newObj_type (wpAny_pure (wpAny_pure ⟨_, rfl, wpAny_pure h⟩)) htake))
  | exact wpAny_bind (wpAny_bind (m := Builtin.Tuple.tupleExact _) (wpAny_newObj_type (wpAny_pure ⟨_, rfl, wpAny_pure h⟩) htake))
end
end HT
namespace L2
open PySem PySem.Spec PyProof.Rows
abbrev TO := St → Hp → (Option Int → Hp → Prop) → Prop
def PO (X : Cx) (e : Option Expr) (t : TO) : Prop :=
 ∀ (pins : List (Addr × Obj)) (s : Shared) (σ : St) (H : Hp) (Q : Option Int → Hp → Prop), Inv X pins σ H s → t σ H Q →
  wpAny (model X.prog X.w) X.A (evalPart e X.env) (fun u s' => ∃ o H', Inv X pins σ H' s' ∧ IsPart u o ∧ Q o H') X.xe s
def tNoPart : TO := fun _ H Q => Q none H
def tPart (t : TE) : TO := fun σ H Q => t σ H fun x H1 => ∃ i, x = .int i ∧ Q (some i) H1
section
variable {X : Cx} {e : Expr} {te : TE} {lo hi : Option Expr} {tl th : TO} {pos p2 : Pos}
theorem bq1 : PO X none tNoPart := by
 intro pins s σ H Q I h
 rw [evalPart_none]
 exact wpAny_pure ⟨none, H, I, .none, h⟩
theorem bqC (h : PE X e te) : PO X (some e) (tPart te) := by
 intro pins s σ H Q I hw
 rw [evalPart_some]
 refine thn (h pins s σ H _ I hw) fun u s1 W' => ?_
 obtain ⟨x, H1, I1, r1, q1⟩ := W'
 obtain ⟨i, rfl, q⟩ := q1
 obtain ⟨t, rfl⟩ := r1
 exact ⟨some i, H1, I1, .int i t, q⟩
def SlR (X : Cx) (r : V → Option Int → Option Int → Hp → VK → Prop) : Prop :=
 ∀ (pins : List (Addr × Obj)) (s : Shared) (σ : St) (H : Hp) (x : V) (v vl vu : Value) (lo hi : Option Int) (sl : Addr) (Q : VK), Inv X pins σ H s → RelV x v → s.heap.IsSliceOf sl vl vu .none → IsPart vl lo → IsPart vu hi → r x lo hi H Q →
  ∃ T id, typeLookup (.type T) "__getitem__" = pure (some (.builtin id)) ∧ s.TypeIs v T ∧ wpAny (model X.prog X.w) X.A (getItem v (.ref sl)) (EP X pins σ Q) X.xe s
theorem SlR.or {r r' : V → Option Int → Option Int → Hp → VK → Prop} (h : SlR X r) (h' : SlR X r') : SlR X (fun x lo hi H Q => r x lo hi H Q ∨ r' x lo hi H Q) := by
 intro pins s σ H x v vl vu lo hi sl Q I rx hs pl pu q
 rcases q with q | q
 ·exact h pins s σ H x v vl vu lo hi sl Q I rx hs pl pu q
 ·exact h' pins s σ H x v vl vu lo hi sl Q I rx hs pl pu q
def tSl (r : V → Option Int → Option Int → Hp → VK → Prop) (te : TE) (tl th : TO) : TE := fun σ H Q => te σ H fun x H1 => tl σ H1 fun l H2 => th σ H2 fun u H3 => r x l u H3 Q
theorem aq9 {r : V → Option Int → Option Int → Hp → VK → Prop} (hr : SlR X r) (he : PE X e te) (hl : PO X lo tl) (hu : PO X hi th) : PE X (.Subscript e (.Slice lo hi none p2) pos) (tSl r te tl th) := by
 intro pins s σ H Q I h
 refine Subscript_ (thn (he pins s σ H _ I h) fun v s1 W' => ?_)
 obtain ⟨x, H1, I1, r1, q1⟩ := W'
 refine wpAny_Slice (thn (hl pins s1 σ H1 _ I1 q1) fun vl s2 ⟨l, H2, I2, pl, q2⟩ => thn (hu pins s2 σ H2 _ I2 q2) fun vu s3 W' => ?_)
 obtain ⟨u, H3, I3, pu, q3⟩ := W'
 rw [evalPart_none]
 refine wpAny_pure ?_
 have I4 : Inv X pins σ H3 { s3 with heap := s3.heap.push { cls := .type "slice", data := .fields #[vl, vu, .none] } } := I3.kept (t' := s3.toks) fun b ob q => Heap.get?_push_of_some _ q
 obtain ⟨T, id, hT, ht, hg⟩ := hr pins { s3 with heap := s3.heap.push { cls := .type "slice", data := .fields #[vl, vu, .none] } } σ H3 x v vl vu l u s3.heap.objs.size Q I4 r1 (Heap.IsSliceOf.new ..) pl pu q3
 show wpAny (model X.prog X.w) X.A (subscriptTail e (.Slice lo hi none p2) v (.ref s3.heap.objs.size)) (EP X pins σ Q) X.xe { s3 with heap := s3.heap.push { cls := .type "slice", data := .fields #[vl, vu, .none] } }
 exact tail_any (ops := [.ref s3.heap.objs.size, v]) ht hT hg (by with_unfolding_all rfl)
def cutV (xs : List V) (lo hi : Option Int) : List V := (xs.drop (HT.sIx xs.length 0 lo)).take (HT.sIx xs.length xs.length hi - HT.sIx xs.length 0 lo)
theorem gq4 (xs : List V) (lo hi : Option Int) : (cutV xs lo hi).length ≤ xs.length := by
 unfold cutV
 rw [List.length_take, List.length_drop]
 lia
def rSlT (K : PySem.W.Frag) : V → Option Int → Option Int → Hp → VK → Prop := fun x lo hi H Q => ∃ a xs, x = .ref a ∧ SqT K H a xs ∧
 ¬ (HT.sIx xs.length 0 lo = 0 ∧ HT.sIx xs.length xs.length hi = xs.length) ∧ ∀ p, H p = none → Q (.ref p) (upd H p (.tup (cutV xs lo hi)))
theorem sqV : SlR X (rSlT X.K) := by
 intro pins s σ H x v vl vu lo hi sl Q I rx hs pl pu h
 obtain ⟨a, xs, rfl, hx, hw, q⟩ := h
 cases rx
 obtain ⟨its, r, ht, hz⟩ := I.tuple hx
 have hlen : its.toArray.size = xs.length := by rw [List.size_toArray]; exact r.length.symm
 refine ⟨"tuple", _, PyProof.Rows.slot_tuple_getitem.lookup, ht.typeIs, ?_⟩
 refine HT.getItem_tuple_cut ht hs pl pu (by rw [hlen]; exact hw) ?_ (by rw [hlen]; exact hz)
 rw [hlen]
 refine ⟨.ref s.heap.objs.size, _, I.laid (t' := s.toks) (o := .tup (cutV xs lo hi)) (fun b ob q => Heap.get?_push_of_some _ q) (Nat.le_refl _) ?_, rfl, q _ (I.hok.fresh (Nat.le_refl _))⟩
 exact ⟨Nat.le_trans (gq4 xs lo hi) hz, _, (r.drop (HT.sIx xs.length 0 lo)).take (HT.sIx xs.length xs.length hi - HT.sIx xs.length 0 lo), IsTup.new _ _⟩
def rCatT (K : PySem.W.Frag) : R2 := fun x y H Q => ∃ a b xs ys, x = .ref a ∧ y = .ref b ∧ SqT K H a xs ∧ SqT K H b ys ∧ xs ≠ [] ∧ xs.length + ys.length ≤ sizeLine ∧
 (ys = [] → Q (.ref a) H) ∧ (ys ≠ [] → ∀ p, H p = none → Q (.ref p) (upd H p (.tup (xs ++ ys))))
theorem Vals.nil_iff {xs : List V} {us : List Value} (r : Vals xs us) : us = [] ↔ xs = [] := by
 cases r with
 | nil => simp
 | cons _ _ => simp
theorem nqF : OpR X (binaryOp .Add) (rCatT X.K) := by
 intro pins s σ H x y v u Q I rx ry h
 obtain ⟨a, b, xs, ys, rfl, rfl, ha, hb, hx, hz, q1, q2⟩ := h
 cases rx
 cases ry
 obtain ⟨its, r1, p1, _⟩ := I.tuple ha
 obtain ⟨its2, r2, p2, _⟩ := I.tuple hb
 refine HT.cat_tup p1 p2 (fun z => hx (r1.nil_iff.mp z)) (fun z => ⟨.ref a, H, I, rfl, q1 (r2.nil_iff.mp z)⟩) (fun z => ?_) (by rw [← r1.length, ← r2.length]; exact hz)
 refine ⟨.ref s.heap.objs.size, _, I.laid (t' := s.toks) (o := .tup (xs ++ ys)) (fun b ob q => Heap.get?_push_of_some _ q) (Nat.le_refl _) ?_, rfl, q2 (fun w => z (r2.nil_iff.mpr w)) _ (I.hok.fresh (Nat.le_refl _))⟩
 exact ⟨by rw [List.length_append]; exact hz, _, r1.append r2, IsTup.new _ _⟩
end
def ixN (n : Nat) (i : Int) : Option Nat := if 0 ≤ i then (if i < n then some i.toNat else none) else if -(n : Int) ≤ i then some (i + n).toNat else none
def atI {α : Type} (xs : List α) (i : Int) : Option α := (ixN xs.length i).bind fun j => xs[j]?
theorem qqu {n : Nat} {i : Int} {j : Nat} (h : ixN n i = some j) : seqIndex? i n = some j ∧ j < n ∧ -(n : Int) ≤ i ∧ i < n := by
 unfold ixN at h
 by_cases h0 : 0 ≤ i
 ·rw [if_pos h0] at h
  by_cases h1 : i < n
  ·rw [if_pos h1] at h
   have e : i.toNat = j := Option.some.inj h
   exact ⟨by rw [seqIndex_of h0 h1, e], by lia, by lia, h1⟩
  ·rw [if_neg h1] at h; cases h
 ·rw [if_neg h0] at h
  by_cases h1 : -(n : Int) ≤ i
  ·rw [if_pos h1] at h
   have e : (i + n).toNat = j := Option.some.inj h
   exact ⟨by rw [seqIndex_neg (by lia) h1, e], by lia, h1, by lia⟩
  ·rw [if_neg h1] at h; cases h
theorem kq5 {α : Type} {xs : List α} {i : Int} {v : α} (h : atI xs i = some v) : ∃ j, seqIndex? i xs.length = some j ∧ xs[j]? = some v ∧ j < xs.length ∧ -(xs.length : Int) ≤ i ∧ i < xs.length := by
 unfold atI at h
 cases e : ixN xs.length i with
 | none => rw [e] at h; cases h
 | some j =>
  rw [e] at h
  obtain ⟨h1, h2, h3, h4⟩ := qqu e
  exact ⟨j, h1, h, h2, h3, h4⟩
theorem aqC {α : Type} {xs : List α} {j : Nat} {v : α} (h : xs[j]? = some v) : atI xs (j : Int) = some v := by
 have hj : j < xs.length := (List.getElem?_eq_some_iff.mp h).1
 have e : ixN xs.length (j : Int) = some j := by
  unfold ixN
  rw [if_pos (by lia), if_pos (by lia)]; simp
 unfold atI; rw [e]; exact h
def PlainIx (b : Expr) : Prop := ∀ o i, subscripted b false o i = operate [o, i] (getItem o i)
def IxR (X : Cx) (r : R2) : Prop :=
 ∀ (value slice : Expr) (pins : List (Addr × Obj)) (s : Shared) (σ : St) (H : Hp) (x y : V) (v u : Value) (Q : VK), Inv X pins σ H s → RelV x v → RelV y u → r x y H Q →
  subscripted slice false v u = operate [v, u] (getItem v u) → wpAny (model X.prog X.w) X.A (subscriptTail value slice v u) (EP X pins σ Q) X.xe s
def MtR (X : Cx) (id : String) (r : V → List V → Hp → VK → Prop) : Prop :=
 ∀ (pins : List (Addr × Obj)) (s : Shared) (σ : St) (H : Hp) (x : V) (xs : List V) (v : Value) (us : List Value) (Q : VK), Inv X pins σ H s → RelV x v → Vals xs us → r x xs H Q →
  wpAny (model X.prog X.w) X.A (call (.builtin id) (v :: us)) (EP X pins σ Q) X.xe s
section
variable {X : Cx} {a b : Expr} {ta tb : TE} {pos : Pos}
theorem IxR.or {r r' : R2} (h : IxR X r) (h' : IxR X r') : IxR X (fun x y H Q => r x y H Q ∨ r' x y H Q) := by
 intro value slice pins s σ H x y v u Q I rx ry q hs
 rcases q with q | q
 ·exact h value slice pins s σ H x y v u Q I rx ry q hs
 ·exact h' value slice pins s σ H x y v u Q I rx ry q hs
theorem aqt {r : R2} (hr : IxR X r) (ha : PE X a ta) (hb : PE X b tb) (hs : PlainIx b) : PE X (.Subscript a b pos) (tOp r ta tb) := by
 intro pins s σ H Q I h
 exact Subscript_ (binT ha hb I h fun v u s2 x y H2 I2 rx ry q => hr a b pins s2 σ H2 x y v u Q I2 rx ry q (hs _ _))
def rIxL (K : PySem.W.Frag) : R2 := fun x y H Q => ∃ p xs i v, x = .ref p ∧ y = .int i ∧ SqL K H p xs ∧ atI xs i = some v ∧ Q v H
def rIxT (K : PySem.W.Frag) : R2 := fun x y H Q => ∃ p xs i v, x = .ref p ∧ y = .int i ∧ SqT K H p xs ∧ atI xs i = some v ∧ Q v H
def rIxS : R2 := fun x y H Q => ∃ z i c, x = .str z ∧ y = .int i ∧ z.length ≤ sizeLine ∧ atI z.cps.toList i = some c ∧ Q (.str ⟨#[c]⟩) H
theorem rqx : IxR X (rIxL X.K) := by
 intro value slice pins s σ H x y v u Q I rx ry h hs
 obtain ⟨p, xs, i, z, rfl, rfl, hq, he, q⟩ := h
 cases rx
 obtain ⟨t, rfl⟩ := ry
 obtain ⟨its, r, pl, hz⟩ := I.list hq
 obtain ⟨j, h1, h2, h3, h4, h5⟩ := kq5 he
 obtain ⟨w, ew, rw'⟩ := r.get h2
 have hl := r.length
 have hn := line63
 have fin : EP X pins σ Q w s := ⟨z, H, I, rw', q⟩
 by_cases h0 : 0 ≤ i
 ·have hj : i.toNat = j := by
   rw [seqIndex_of h0 h5] at h1
   exact Option.some.inj h1
  exact item_listR pl.isList h0 (by lia) (by rw [hj]; simpa using ew) fin hs
 ·have hj : (i + (its.toArray.size : Int)).toNat = j := by
   rw [seqIndex_neg (by lia) h4] at h1
   rw [List.size_toArray, ← hl]
   exact Option.some.inj h1
  exact subscriptTail_builtinR (x := w) pl.isList.typeIs slot_list_getitem.lookup
   (wpAny_getItem_list_neg (Q := fun r s' => r = w ∧ EP X pins σ Q r s') pl.isList (by lia) (by rw [List.size_toArray] <;> lia) (by lia) (by rw [hj]; simpa using ew) ⟨rfl, fin⟩) hs
theorem tqt : IxR X (rIxT X.K) := by
 intro value slice pins s σ H x y v u Q I rx ry h hs
 obtain ⟨p, xs, i, z, rfl, rfl, hq, he, q⟩ := h
 cases rx
 obtain ⟨t, rfl⟩ := ry
 obtain ⟨its, r, pl, hz⟩ := I.tuple hq
 obtain ⟨j, h1, h2, h3, h4, h5⟩ := kq5 he
 obtain ⟨w, ew, rw'⟩ := r.get h2
 have hl := r.length
 have hn := line63
 have fin : EP X pins σ Q w s := ⟨z, H, I, rw', q⟩
 exact subscriptTail_builtinR (x := w) pl.typeIs slot_tuple_getitem.lookup
  (getItem_tuple (j := j) (Q := fun r s' => r = w ∧ EP X pins σ Q r s') pl (by lia) (by lia) (by rw [List.size_toArray, ← hl]; exact h1) (by simpa using ew) ⟨rfl, fin⟩) hs
theorem sqH : IxR X rIxS := by
 intro value slice pins s σ H x y v u Q I rx ry h hs
 obtain ⟨z, i, c, rfl, rfl, hz, he, q⟩ := h
 obtain ⟨t, rfl⟩ := rx
 obtain ⟨t', rfl⟩ := ry
 obtain ⟨j, h1, h2, h3, h4, h5⟩ := kq5 he
 have hl : z.cps.toList.length = z.length := by simp [Str.length]
 rw [hl] at h1 h4 h5
 have hn := line63
 exact tail_any (typeIs_str s z t) slot_str_getitem.lookup (getItem_str (c := c) (by
  have e1 : decide (i < -(2 ^ 63 : Int)) = false := decide_eq_false (by lia)
  have e2 : decide (i ≥ 2 ^ 63) = false := decide_eq_false (by lia)
  rw [e1, e2, Bool.or_false]) (by rw [h1]; simpa using h2) ⟨.str ⟨#[c]⟩, H, I.tok _, ⟨_, rfl⟩, q⟩) hs
def rIx (K : PySem.W.Frag) : R2 := fun x y H Q => rIxL K x y H Q ∨ rIxT K x y H Q ∨ rIxS x y H Q
theorem sqz : IxR X (rIx X.K) := rqx.or (tqt.or sqH)
def rSetL : V → V → V → Hp → (Hp → Prop) → Prop := fun o i v H Q => ∃ p xs k j, o = .ref p ∧ i = .int k ∧ H p = some (.lst xs) ∧ ixN xs.length k = some j ∧ Q (upd H p (.lst (xs.set j v)))
theorem jqG (lo hi : Option Int) (n : Nat) : (sliceBounds lo hi none n).1 = ((HT.sIx n 0 lo : Nat) : Int) ∧ (sliceBounds lo hi none n).2.1 = ((HT.sIx n n hi : Nat) : Int) ∧ (sliceBounds lo hi none n).2.2 = 1 := by
 refine ⟨?_, ?_, rfl⟩
 ·cases lo with
  | none => simp [sliceBounds, HT.sIx]
  | some i =>
   simp only [sliceBounds, HT.sIx, Option.getD_none, show (1 : Int) > 0 by decide, if_true]
   by_cases h : i < 0
   ·simp only [h, if_true] <;> lia
   ·simp only [h, if_false] <;> lia
 ·cases hi with
  | none => simp [sliceBounds, HT.sIx]
  | some i =>
   simp only [sliceBounds, HT.sIx, Option.getD_none, show (1 : Int) > 0 by decide, if_true]
   by_cases h : i < 0
   ·simp only [h, if_true] <;> lia
   ·simp only [h, if_false] <;> lia
theorem jqx (its : List Value) (lo hi : Option Int) : slicePick its.toArray lo hi none = ((its.drop (HT.sIx its.length 0 lo)).take (HT.sIx its.length its.length hi - HT.sIx its.length 0 lo)).toArray := by
 obtain ⟨h1, h2, h3⟩ := jqG lo hi its.toArray.size
 unfold slicePick
 rw [h1, h2, h3]
 simp only [sliceRange_one, pick_run, List.size_toArray] <;> rfl
def rSlL (K : PySem.W.Frag) : V → Option Int → Option Int → Hp → VK → Prop := fun x lo hi H Q => ∃ a xs, x = .ref a ∧ SqL K H a xs ∧ ∀ p, H p = none → Q (.ref p) (upd H p (.lst (cutV xs lo hi)))
theorem rqR : SlR X (rSlL X.K) := by
 intro pins s σ H x v vl vu lo hi sl Q I rx hs pl pu h
 obtain ⟨a, xs, rfl, hx, q⟩ := h
 cases rx
 obtain ⟨its, r, ht, hz⟩ := I.list hx
 have hlen := r.length
 refine ⟨"list", _, slot_list_getitem.lookup, ht.isList.typeIs, ?_⟩
 refine wpAny_getItem_list_slice ht.isList hs pl pu .none (by simp) ?_ (by rw [List.size_toArray] <;> lia)
 rw [jqx, ← hlen]
 refine ⟨.ref s.heap.objs.size, _, I.laid (t' := s.toks) (o := .lst (cutV xs lo hi)) (fun b ob q => Heap.get?_push_of_some _ q) (Nat.le_refl _) ?_, rfl, q _ (I.hok.fresh (Nat.le_refl _))⟩
 exact ⟨Nat.le_trans (gq4 xs lo hi) hz, _, 0, (r.drop (HT.sIx xs.length 0 lo)).take (HT.sIx xs.length xs.length hi - HT.sIx xs.length 0 lo), Heap.get?_push_size _ rfl⟩
def flatV : V → Bool
 | .non => true
 | .bl _ => true
 | .int _ => true
 | .str _ => true
 | _ => false
def eqV : V → V → Bool
 | .non, .non => true
 | .bl a, .bl b => a == b
 | .bl a, .int b => (if a then 1 else 0) == b
 | .int a, .bl b => a == (if b then 1 else 0)
 | .int a, .int b => a == b
 | .str a, .str b => a == b
 | _, _ => false
theorem sqU {A : Around} {s : Shared} {y x : V} {u v : Value} (ry : RelV y u) (rx : RelV x v) (fy : flatV y = true) (fx : flatV x = true) : SeqAt.EqAt A s u v (eqV y x) := by
 cases y with
 | non =>
  cases ry
  cases x with
  | non => cases rx; exact SeqAt.EqAt.same _
  | bl b => cases rx; exact SeqAt.EqAt.none_bool b
  | int b => obtain ⟨t, rfl⟩ := rx; exact SeqAt.EqAt.none_int b t
  | str b => obtain ⟨t, rfl⟩ := rx; exact SeqAt.EqAt.none_str b t
  | _ => exact absurd (show false = true from fx) Bool.false_ne_true
 | bl a =>
  cases ry
  cases x with
  | non => cases rx; exact SeqAt.EqAt.bool_none a
  | bl b => cases rx; exact SeqAt.EqAt.bool_bool a b
  | int b => obtain ⟨t, rfl⟩ := rx; exact SeqAt.EqAt.bool_int a b t
  | str b => obtain ⟨t, rfl⟩ := rx; exact SeqAt.EqAt.bool_str a b t
  | _ => exact absurd (show false = true from fx) Bool.false_ne_true
 | int a =>
  obtain ⟨t', rfl⟩ := ry
  cases x with
  | non => cases rx; exact SeqAt.EqAt.int_none a t'
  | bl b => cases rx; exact SeqAt.EqAt.int_bool a t' b
  | int b => obtain ⟨t, rfl⟩ := rx; exact SeqAt.EqAt.int_int a t' b t
  | str b => obtain ⟨t, rfl⟩ := rx; exact SeqAt.EqAt.int_str a t' b t
  | _ => exact absurd (show false = true from fx) Bool.false_ne_true
 | str a =>
  obtain ⟨t', rfl⟩ := ry
  cases x with
  | non => cases rx; exact SeqAt.EqAt.str_none a t'
  | bl b => cases rx; exact SeqAt.EqAt.str_bool a t' b
  | int b => obtain ⟨t, rfl⟩ := rx; exact SeqAt.EqAt.str_int a t' b t
  | str b => obtain ⟨t, rfl⟩ := rx; exact SeqAt.EqAt.str_str a t' b t
  | _ => exact absurd (show false = true from fx) Bool.false_ne_true
 | _ => exact absurd (show false = true from fy) Bool.false_ne_true
def eqU (x : V) (u : Value) : Bool := match u with
 | .none => eqV .non x
 | .bool b => eqV (.bl b) x
 | .int i _ => eqV (.int i) x
 | .str z _ => eqV (.str z) x
 | _ => false
theorem qqt {x y : V} {u : Value} (r : RelV y u) (f : flatV y = true) : eqU x u = eqV y x := by
 cases y with
 | non => cases r; rfl
 | bl b => cases r; rfl
 | int i => obtain ⟨t, rfl⟩ := r; rfl
 | str z => obtain ⟨t, rfl⟩ := r; rfl
 | _ => exact absurd (show false = true from f) Bool.false_ne_true
theorem kq0 {x : V} : ∀ {xs : List V} {us : List Value}, Vals xs us → xs.all flatV = true → us.any (eqU x) = xs.any fun y => eqV y x
 | _, _, .nil, _ => rfl
 | y :: xs, u :: us, .cons r t, f => by
  rw [List.all_cons, Bool.and_eq_true] at f
  rw [List.any_cons, List.any_cons, qqt r f.1, kq0 t f.2]
theorem jqu {A : Around} {s : Shared} {x : V} {v : Value} (rx : RelV x v) (fx : flatV x = true) : ∀ {xs : List V} {us : List Value}, Vals xs us → xs.all flatV = true → ∀ u ∈ us, SeqAt.EqAt A s u v (eqU x u)
 | _, _, .nil, _ => fun u hu => by cases hu
 | y :: xs, u :: us, .cons r t, f => fun u' hu => by
  rw [List.all_cons, Bool.and_eq_true] at f
  rcases List.mem_cons.mp hu with rfl | hu
  ·rw [qqt r f.1]; exact sqU r rx f.1 fx
  ·exact jqu rx fx t f.2 u' hu
def inV (x : V) (xs : List V) : Bool := xs.any fun y => eqV y x
def rIn (K : PySem.W.Frag) (neg : Bool) : R2 := fun x y H Q => ∃ p xs, y = .ref p ∧ (SqL K H p xs ∨ SqT K H p xs) ∧ flatV x = true ∧ xs.all flatV = true ∧ Q (.bl (if neg then !inV x xs else inV x xs)) H
theorem oqI : OpR X (compareOp .In) (rIn X.K false) := by
 intro pins s σ H x y v u Q I rx ry h
 obtain ⟨p, xs, rfl, hq, fx, fs, q⟩ := h
 cases ry
 rcases hq with hq | hq
 ·obtain ⟨its, r, pl, hz⟩ := I.list hq
  refine SeqAt.in_listAt (eqU x) pl.isList (fun w hw => jqu rx fx r fs w (by simpa using hw)) ⟨.bl _, H, I, rfl, ?_⟩
  rw [show its.toArray.any (eqU x) = its.any (eqU x) by simp, kq0 r fs]
  exact q
 ·obtain ⟨its, r, pl, hz⟩ := I.tuple hq
  refine SeqAt.in_tupleAt (eqU x) pl (fun w hw => jqu rx fx r fs w (by simpa using hw)) ⟨.bl _, H, I, rfl, ?_⟩
  rw [show its.toArray.any (eqU x) = its.any (eqU x) by simp, kq0 r fs]
  exact q
theorem jqC : CallR X (.builtin "len") (fun xs H Q => ∃ p ys, xs = [.ref p] ∧ (SqL X.K H p ys ∨ SqT X.K H p ys) ∧ Q (.int ys.length) H) := by
 intro pins s σ H xs us Q I r h
 obtain ⟨p, ys, rfl, hq, q⟩ := h
 obtain ⟨u, rfl, rx⟩ := vals1 r
 cases rx
 have hn := line63
 rcases hq with hq | hq
 ·obtain ⟨its, r', pl, hz⟩ := I.list hq
  have hlen := r'.length
  exact Calls.call_len_list pl.isList (by simp only [List.size_toArray] <;> lia) ⟨.int ys.length, H, I.tok _, ⟨s.toks + 1, by rw [List.size_toArray, hlen]⟩, q⟩
 ·obtain ⟨its, r', pl, hz⟩ := I.tuple hq
  have hlen := r'.length
  exact len_tuple pl (by simp only [List.size_toArray] <;> lia) ⟨.int ys.length, H, I.tok _, ⟨s.toks + 1, by rw [List.size_toArray, hlen]⟩, q⟩
theorem kqQ : CallR X (.builtin "len") (fun xs H Q => ∃ z, xs = [.str z] ∧ z.length ≤ sizeLine ∧ Q (.int z.length) H) := by
 intro pins s σ H xs us Q I r h
 obtain ⟨z, rfl, hz, q⟩ := h
 obtain ⟨u, rfl, t, rfl⟩ := vals1 r
 have hn := line63
 exact len_str (by lia) ⟨.int z.length, H, I.tok _, ⟨_, rfl⟩, q⟩
theorem fqu : CallR X (.type "tuple") (fun xs H Q => ∃ p ys, xs = [.ref p] ∧ ((SqL X.K H p ys ∧ ∀ l, H l = none → Q (.ref l) (upd H l (.tup ys))) ∨ (SqT X.K H p ys ∧ Q (.ref p) H))) := by
 intro pins s σ H xs us Q I r h
 obtain ⟨p, ys, rfl, h⟩ := h
 obtain ⟨u, rfl, rx⟩ := vals1 r
 cases rx
 rcases h with ⟨hq, q⟩ | ⟨hq, q⟩
 ·obtain ⟨its, r', pl, hz⟩ := I.list hq
  have hlen := r'.length
  refine call_tuple_list pl.isList (fun h' kp => ?_) (by simp only [List.size_toArray] <;> lia)
  have I1 : Inv X pins σ H { s with heap := h' } := I.kept (t' := s.toks) kp
  have I2 : Inv X pins σ (upd H h'.objs.size (.tup ys)) { s with heap := h'.push { cls := .type "tuple", data := .seq its.toArray } } :=
   I1.laid (t' := s.toks) (fun b o e => Heap.get?_push_of_some _ e) (Nat.le_refl _) (show ObjOk X.prog X.w _ _ _ (.tup ys) from ⟨hz, its, r', IsTup.new _ _⟩)
  exact ⟨.ref h'.objs.size, _, I2, rfl, q _ (I1.hok.fresh (Nat.le_refl _))⟩
 ·obtain ⟨its, r', pl, hz⟩ := I.tuple hq
  exact call_tuple_same pl ⟨.ref p, H, I, rfl, q⟩
def tyV (K : PySem.W.Frag) (T : String) (x : V) (H : Hp) : Prop := match x with
 | .str _ => T = "str"
 | .int _ => T = "int"
 | .ref p => (T = "list" ∧ ∃ xs, SqL K H p xs) ∨ (T = "tuple" ∧ ∃ o, K.lookup p = some o ∧ o.cls = .type "tuple" ∧ o.dict = none) ∨
   (T = "dict" ∧ ((∃ kvs, H p = some (.dK kvs)) ∨ ∃ kvs, H p = some (.dT kvs))) ∨ (T = "set" ∧ ∃ S n, H p = some (.set S n))
 | _ => False
theorem qqj {pins : List (Addr × Obj)} {σ : St} {H : Hp} {s : Shared} {T : String} {x : V} {v : Value} (I : Inv X pins σ H s) (r : RelV x v) (ty : tyV X.K T x H) :
  s.TypeIs v T ∧ ∀ a, v = .ref a → ∃ ob, s.heap.get? a = some ob ∧ ob.dict = none := by
 cases x with
 | str z =>
  obtain ⟨t, rfl⟩ := r
  cases (show T = "str" from ty)
  exact ⟨typeIs_str s z t, fun _ e => nomatch e⟩
 | int i =>
  obtain ⟨t, rfl⟩ := r
  cases (show T = "int" from ty)
  exact ⟨typeIs_int s i t, fun _ e => nomatch e⟩
 | ref p =>
  cases r
  rcases ty with ⟨rfl, xs, hq⟩ | ⟨rfl, o, hk, hc, hd⟩ | ⟨rfl, hk⟩ | ⟨rfl, S, n, hk⟩
  ·obtain ⟨its, _, pl, _⟩ := I.list hq
   refine ⟨pl.isList.typeIs, fun a e => ?_⟩
   cases e
   obtain ⟨o, n, e, c, hd, _⟩ := pl
   exact ⟨o, e, hd⟩
  ·refine ⟨⟨o, I.kIn p o hk, hc⟩, fun a e => ?_⟩
   cases e
   exact ⟨o, I.kIn _ o hk, hd⟩
  ·have z : ∃ o, s.heap.get? p = some o ∧ o.ExactDict := by
    rcases hk with ⟨kvs, hk⟩ | ⟨kvs, hk⟩
    ·obtain ⟨_, _, _, _, o, _, _, e, ex, _⟩ := I.hok p _ hk
     exact ⟨o, e, ex⟩
    ·obtain ⟨_, _, _, _, o, _, _, e, ex, _⟩ := I.hok p _ hk
     exact ⟨o, e, ex⟩
   obtain ⟨o, e, ex⟩ := z
   refine ⟨⟨o, e, ex.1⟩, fun a e2 => ?_⟩
   cases e2
   exact ⟨o, e, ex.2.1⟩
  ·obtain ⟨o, _, _, _, e, ex, _⟩ := I.hok p _ hk
   refine ⟨⟨o, e, ex.1⟩, fun a e2 => ?_⟩
   cases e2
   exact ⟨o, e, ex.2.1⟩
 | _ => exact False.elim ty
def tBM0 (K : PySem.W.Frag) (T : String) (r : V → List V → Hp → VK → Prop) (to : TE) : TE := fun σ H Q => to σ H fun x H1 => tyV K T x H1 ∧ r x [] H1 Q
def tBM (K : PySem.W.Frag) (T : String) (r : V → List V → Hp → VK → Prop) (to : TE) (t : TA) : TE := fun σ H Q => to σ H fun x H1 => tyV K T x H1 ∧ t σ H1 fun xs H2 => r x xs H2 Q
variable {o e : Expr} {es : List Expr} {to : TE} {t : TA} {name : Str} {apos cpos : Pos} {T id : String} {r : V → List V → Hp → VK → Prop}
theorem sq3 (pa : PlainAttrs T) (slot : Slot T name id) (hty : typeOf (.builtin id) = pure (.type "method_descriptor")) (hm : MtR X id r) (ho : PE X o to)
  (hbase : attributeBase o name X.env (eval o X.env) = eval o X.env := by rfl) (hline : (apos.endLine == cpos.line) = true := by rfl) : PE X (.Call (.Attribute o name apos) [] [] cpos) (tBM0 X.K T r to) := by
 intro pins s σ H Q I h
 refine wpAny_Call_method0_late hbase hline (thn (ho pins s σ H _ I h) fun v s1 W' => ?_)
 obtain ⟨x, H1, I1, r1, ty, q1⟩ := W'
 obtain ⟨h1, h2⟩ := qqj I1 r1 ty
 exact ⟨T, id, pa, slot, hty, h1, h2, Calls.callWith_builtin rfl (PySem.evalArgs_none (hm pins s1 σ H1 x [] v [] Q I1 r1 .nil q1))⟩
theorem tqR (pa : PlainAttrs T) (slot : Slot T name id) (hty : typeOf (.builtin id) = pure (.type "method_descriptor")) (hm : MtR X id r) (ho : PE X o to) (ha : PA X (e :: es) t)
  (hbase : attributeBase o name X.env (eval o X.env) = eval o X.env := by rfl)
  (hfew : ((backTo cpos (starEach (e :: es) X.env)).all (fun x => !x.1) && (backToKw cpos (keywordEach [] X.env)).all (fun x => x.1.isSome)
   && decide ((e :: es).length + ([] : List Keyword).length + (if ([] : List Keyword).isEmpty then 0 else 1) < 30)) = true := by rfl)
  (hline : (apos.endLine == cpos.line) = true := by rfl) (hs : starEach (e :: es) X.env = (false, eval e X.env) :: starEach es X.env := by rfl) (hplain : (backTo cpos (starEach es X.env)).any (·.1) = false := by rfl) :
  PE X (.Call (.Attribute o name apos) (e :: es) [] cpos) (tBM X.K T r to t) := by
 intro pins s σ H Q I h
 refine wpAny_Call_method_late hbase hfew hline rfl (thn (ho pins s σ H _ I h) fun v s1 W' => ?_)
 obtain ⟨x, H1, I1, r1, ty, q1⟩ := W'
 obtain ⟨h1, h2⟩ := qqj I1 r1 ty
 refine ⟨T, id, pa, slot, hty, h1, h2, ?_⟩
 have hA := ha cpos pins s1 σ H1 _ I1 q1
 rw [hs] at hA ⊢
 refine Calls.callWith_builtin (by show (false || (backTo cpos (starEach es X.env)).any (·.1)) = false; rw [hplain] <;> rfl) (Calls.evalArgs_plain ?_)
 exact thn hA fun us s2 ⟨vs, H2, I2, r2, q2⟩ => hm pins s2 σ H2 x vs v us Q I2 r1 r2 q2
end
def MtM (X : Cx) (id : String) (r : V → List V → Hp → VK → Prop) : Prop :=
 ∀ (pins : List (Addr × Obj)) (s : Shared) (σ : St) (H : Hp) (x : V) (xs : List V) (v : Value) (us : List Value) (Q : VK), Inv X pins σ H s → RelV x v → Vals xs us → r x xs H Q →
  wpAny (model X.prog X.w) X.A (call (.builtin id) (v :: us)) (EP X pins σ Q) X.xe s
theorem Vals.one : ∀ {x : V} {us : List Value}, Vals [x] us → ∃ u, us = [u] ∧ RelV x u
 | _, _, .cons r .nil => ⟨_, rfl, r⟩
theorem Vals.zero : ∀ {us : List Value}, Vals [] us → us = []
 | _, .nil => rfl
theorem Vals.dropLast {xs : List V} {us : List Value} (h : Vals xs us) : Vals xs.dropLast us.dropLast := by
 induction h with
 | nil => exact .nil
 | cons r t ih =>
  cases t with
  | nil => exact .nil
  | cons q t' => exact .cons r ih
theorem Vals.rep {xs : List V} {us : List Value} (h : Vals xs us) : ∀ k : Nat, Vals (List.replicate k xs).flatten (List.replicate k us).flatten
 | 0 => .nil
 | k + 1 => by
  rw [List.replicate_succ, List.replicate_succ, List.flatten_cons, List.flatten_cons]
  exact Vals.append h (Vals.rep h k)
theorem mqn {α : Type} (l : List α) : l.eraseIdx (l.length - 1) = l.dropLast := by
 induction l with
 | nil => rfl
 | cons a r ih =>
  cases r with
  | nil => rfl
  | cons b r =>
   have e : (a :: b :: r).length - 1 = ((b :: r).length - 1) + 1 := by
    have h1 : (a :: b :: r).length = r.length + 2 := rfl
    have h2 : (b :: r).length = r.length + 1 := rfl
    lia
   rw [e, List.eraseIdx_cons_succ, ih]
   all_goals rfl
theorem hqr (its : List Value) : ∀ (k : Nat) (acc : List Value),
  List.foldl (fun x1 x2 => x1 ++ x2) acc.toArray (List.replicate k its.toArray) = (acc ++ (List.replicate k its).flatten).toArray
 | 0, acc => by simp
 | k + 1, acc => by
  have e : acc.toArray ++ its.toArray = (acc ++ its).toArray := by simp
  have e2 : (acc ++ its) ++ (List.replicate k its).flatten = acc ++ (List.replicate (k + 1) its).flatten := by
   rw [List.replicate_succ, List.flatten_cons, List.append_assoc]
  rw [← e2, ← hqr its k (acc ++ its), ← e, List.replicate_succ, List.foldl_cons]
section
variable {X : Cx} {pins : List (Addr × Obj)} {σ : St} {H : Hp} {s : Shared} {l b : Addr} {xs ys zs : List V}
theorem Inv.lset {its its' : List Value} {n : Nat} {f : Array Value → Array Value} {t' : Nat} (I : Inv X pins σ H s) (hH : H l = some (.lst xs))
  (e : s.heap.get? l = some { cls := .type "list", data := .seq its.toArray n }) (hf : f its.toArray = its'.toArray) (hv : Vals ys its') (hz : ys.length ≤ sizeLine) :
  Inv X pins σ (upd H l (.lst ys)) { s with heap := s.heap.update l (Obj.mapSeq f), toks := t' } := by
 have q := PySem.IsL.update e f
 rw [hf] at q
 refine I.write (x := l) (e := l) (by rw [hH]; exact trivial) (.inl rfl) (fun b' u hb hu => (Heap.get?_update_other s.heap (Obj.mapSeq f) (Ne.symm hb)).trans hu) ⟨_, q⟩ ?_
 exact ⟨hz, its', _, hv, q⟩
theorem Inv.lnew {its : List Value} {t' : Nat} (I : Inv X pins σ H s) (hv : Vals ys its) (hz : ys.length ≤ sizeLine) :
  Inv X pins σ (upd H s.heap.objs.size (.lst ys)) { s with heap := s.heap.push { cls := .type "list", data := .seq its.toArray }, toks := t' } :=
 I.laid (fun _ _ q => Heap.get?_push_of_some _ q) (Nat.le_refl _) ⟨hz, its, 0, hv, Heap.get?_push_size _ rfl⟩
theorem Inv.fresh (I : Inv X pins σ H s) : H s.heap.objs.size = none := I.hok.fresh (Nat.le_refl _)
theorem Inv.lstM (I : Inv X pins σ H s) (hH : H l = some (.lst xs)) : xs.length ≤ sizeLine ∧ ∃ (its : List Value) (n : Nat), Vals xs its ∧ xs.length = its.length ∧ s.heap.get? l = some { cls := .type "list", data := .seq its.toArray n } := by
 obtain ⟨z, its, n, r, e⟩ := I.hok l _ hH
 exact ⟨z, its, n, r, r.length, e⟩
end
section
variable {X : Cx}
def rAppend : V → List V → Hp → VK → Prop := fun x vs H Q => ∃ l xs y, x = .ref l ∧ vs = [y] ∧ H l = some (.lst xs) ∧ xs.length < sizeLine ∧ Q .non (upd H l (.lst (xs ++ [y])))
theorem cqn : MtM X "list.append" rAppend := by
 intro pins s σ H x vs v us Q I rx rv h
 obtain ⟨l, xs, y, rfl, rfl, hH, hz, q⟩ := h
 cases rx
 obtain ⟨u, rfl, ru⟩ := rv.one
 obtain ⟨z, its, n, r, hl, e⟩ := I.lstM hH
 refine call_meets F.slot_list_append ⟨_, e, rfl⟩ F.entry_list_append (F.args_list_append_2 _ _) (PySem.list_append l its.toArray n u (by rw [List.size_toArray]; lia)) ⟨e, ?_⟩
 refine ⟨.non, _, I.lset (its' := its ++ [u]) hH e (by simp) (r.append (.cons ru .nil)) ?_, rfl, q⟩
 rw [List.length_append, List.length_singleton]
 lia
def rPop : V → List V → Hp → VK → Prop := fun x vs H Q => ∃ l xs y, x = .ref l ∧ vs = [] ∧ H l = some (.lst xs) ∧ xs[xs.length - 1]? = some y ∧ Q y (upd H l (.lst xs.dropLast))
theorem tqw : MtM X "list.pop" rPop := by
 intro pins s σ H x vs v us Q I rx rv h
 obtain ⟨l, xs, y, rfl, rfl, hH, hy, q⟩ := h
 cases rx
 have hus := rv.zero
 subst hus
 obtain ⟨z, its, n, r, hl, e⟩ := I.lstM hH
 obtain ⟨u, hu, ru⟩ := r.get hy
 have hy' : its.toArray[its.toArray.size - 1]? = some u := by
  show its.toArray[its.length - 1]? = some u
  rw [← Array.getElem?_toList, ← hl]
  exact hu
 refine call_meets F.slot_list_pop ⟨_, e, rfl⟩ F.entry_list_pop (F.args_list_pop_1 _) (MeetsSeq.list_pop_last l its.toArray n u hy' (by rw [List.size_toArray]; lia)) ⟨e, ?_⟩
 refine ⟨y, _, I.lset (its' := its.dropLast) hH e ?_ r.dropLast ?_, ru, q⟩
 ·show its.toArray.eraseIdxIfInBounds (its.toArray.size - 1) = its.dropLast.toArray
  rw [List.size_toArray, List.eraseIdxIfInBounds_toArray, mqn]
 ·rw [List.length_dropLast]
  lia
def rPopAt : V → List V → Hp → VK → Prop := fun x vs H Q => ∃ l xs i k y, x = .ref l ∧ vs = [.int i] ∧ H l = some (.lst xs) ∧ -(2 ^ 63) ≤ i ∧ i < 2 ^ 63 ∧ seqIndex? i xs.length = some k ∧ xs[k]? = some y ∧ Q y (upd H l (.lst (xs.eraseIdx k)))
def rReverse : V → List V → Hp → VK → Prop := fun x vs H Q => ∃ l xs, x = .ref l ∧ vs = [] ∧ H l = some (.lst xs) ∧ Q .non (upd H l (.lst xs.reverse))
def rCat : R2 := fun x y H Q => ∃ l b xs zs, x = .ref l ∧ y = .ref b ∧ H l = some (.lst xs) ∧ H b = some (.lst zs) ∧ xs.length + zs.length ≤ sizeLine ∧ ∀ p, H p = none → Q (.ref p) (upd H p (.lst (xs ++ zs)))
theorem tqh : OpR X (binaryOp .Add) rCat := by
 intro pins s σ H x y v u Q I rx ry h
 obtain ⟨l, b, xs, zs, rfl, rfl, hH, hB, hz, q⟩ := h
 cases rx
 cases ry
 obtain ⟨z, its, n, r, hl, e⟩ := I.lstM hH
 obtain ⟨z2, its2, n2, r2, hl2, e2⟩ := I.lstM hB
 refine PySem.P.add_list e e2 ?_ (by rw [List.size_toArray, List.size_toArray]; lia)
 have ea : its.toArray ++ its2.toArray = (its ++ its2).toArray := by simp
 rw [ea]
 exact ⟨.ref _, _, I.lnew (t' := s.toks) (r.append r2) (by rw [List.length_append]; lia), rfl, q _ I.fresh⟩
theorem nql {α : Type} (xs : List α) (k : Nat) : (List.replicate k xs).flatten.length = k * xs.length := by
 induction k with
 | zero => simp
 | succ k ih => rw [List.replicate_succ, List.flatten_cons, List.length_append, ih, Nat.succ_mul, Nat.add_comm]
end
section
variable {prog : Program} {w : World} {A : Around} {E : Value → Shared → Prop} {s : Shared}
set_option maxRecDepth 100000 in
end
section
variable {X : Cx}
end
end L2
namespace Att
open PySem PySem.W PySem.Calls PyProof.Rows
theorem hqD {P : Params} {h : Heap} : ∀ (ns : List Int) (vs : List Value), WellAll P h vs (ns.map WData.int) → IntsAre vs ns := by
 intro ns
 induction ns with
 | nil =>
  intro vs w
  rw [List.map_nil] at w
  cases w
  exact .nil
 | cons n ns ih =>
  intro vs w
  rw [List.map_cons] at w
  cases w with
  | cons a b =>
   cases a
   exact .cons _ _ (ih _ b)
theorem oqv {l : OpenLaw} {n : Nat} (hn : l.most = some n) {P : Params} {h : Heap} {args : List WData} {vals : List Value}
  (hpre : l.row.toRowW.claim.pre args = true) (hwl : WellAll P h vals args) :
  ∃ a vs ns, vals = [Value.ref a] ∧ args = [WData.list (ns.map WData.int)] ∧ h.get? a = some { cls := .type "list", data := .seq vs.toArray } ∧ IntsAre vs ns ∧ ns.length ≤ n := by
 have hsh : WShape.hasAll [] args [.list .int] = true := (pre_splitW hpre).1
 have hc : l.pre.holds [] { args := args } = true := (pre_splitW hpre).2
 obtain ⟨d, r, rfl, h1, h2⟩ := hasAllW_cons hsh
 obtain rfl := hasAllW_nil h2
 obtain ⟨xs, rfl, h3⟩ := hasW_list h1
 obtain ⟨ns, rfl⟩ := items_int h3
 have hlen : ns.length ≤ n := by
  unfold OpenLaw.pre at hc
  have h4 : (WTm.not (.lt (.lit (.int (n : Int))) (.len (.arg 0)))).holds [] { args := [.list (ns.map .int)] } = true := by
   have h4 := (holds_andW hc).1
   rw [hn] at h4
   exact h4
  have h5 := condW_of h4 (w_not (w_lt w_lit (w_len_list (w_arg rfl))))
  rw [List.length_map] at h5
  refine Nat.le_of_not_lt fun q => ?_
  have q' : (n : Int) < ((ns.length : Nat) : Int) := by lia
  first
   | (rw [decide_eq_true q'] at h5; exact absurd h5 (by decide))
   | (simp at h5; lia)
 cases hwl with
 | cons w1 w2 =>
  cases w2
  cases w1 with
  | list ho hall => exact ⟨_, _, ns, rfl, rfl, ho, hqD ns _ hall, hlen⟩
theorem nqT (l : OpenLaw) (args : List WData) : l.row.toRowW.claim.post args (.bool true) args = true :=
 postW_of (r := l.row.toRowW) (X := (true == true))
  (show WShape.has [] (.bool true) .bool = true by first | rfl | decide | simp [WShape.has, WShape.arms, WShape.armsAll])
  (show (WTm.eq .res (.lit (.bool true))).value [] { args := args, res := some (.bool true), after := args } = some (.bool (true == true)) from w_eq_bool (w_res rfl) w_lit) rfl
theorem attach_call {l : OpenLaw} {n : Nat} {q : Program} {loose : List Str} {XP : (Str → Option Value) → Heap → Prop} {YP : World → Heap → Prop} {d : DefRec}
  (hn : l.most = some n) (hdf : d.params.defaults = [])
  (call : ∀ (w : World) (s₀ s₁ : Shared) (mg mb : Str → Option Value) (fa : Addr) (o : Obj) (pm cd doc : Value) (a : Addr) (vs : List Value) (ns : List Int),
   Ground q loose [] XP w s₀ mg mb s₁.heap → YP w s₁.heap →
   s₁.heap.get? fa = some o → o.data = .func (docDef d.name d.params d.body d.scope pm cd doc) → s₁.heap.CodeRec cd d.name → mg d.name = some (.ref fa) →
   s₁.heap.get? a = some { cls := .type "list", data := .seq vs.toArray } → IntsAre vs ns → ns.length ≤ n → s₁.gens = #[] →
   codeAny (model l.prog w) callerA (.call (.ref fa) ⟨[.ref a], []⟩) (fun r s' => r = .ok (.ret (.bool true)) ∧ OldK s₁.heap s'.heap ∧ s'.os = s₁.os ∧ AllBare s'.gens) s₁) :
  WalkO q loose XP YP l.row.toRowW d [] (fun f vs => PySem.call f vs) := by
 intro w s₀ s₁ mg mb G Y fa o pm cd doc dV kV ho hd hcd hD hmg hg args vals as hpre hlay hrd hwl hlo
 obtain rfl : dV = .none := Dflts.none hD hdf
 obtain rfl : kV = .none := Dflts.noKw hD
 obtain ⟨a, vs, ns, rfl, rfl, hobj, hints, hlen⟩ := oqv hn hpre hwl
 refine enter_call (codeAny_mono (call w s₀ s₁ mg mb fa o pm cd doc a vs ns G Y ho (fd_plain hd) hcd hmg hobj hints hlen hg) fun r s' hq => ?_)
 obtain ⟨rfl, h2, h3, h4⟩ := hq
 exact ⟨.inl ⟨.bool true, .bool true, [], rfl, fun _ => rfl, .bool true, nqT l _, fun _ => ⟨List.Pairwise.nil, fun _ hm => (nomatch hm)⟩⟩, h2, h3, h4⟩
section
variable {prog : Program} {w : World} {A : Around} {E : Value → Shared → Prop} {s : Shared} {K : Frag}
def ledger (h : Heap) (L d : Addr) : List (Addr × Obj) := (List.range h.objs.size).filterMap fun a => if a = L ∨ a = d then none else (h.get? a).map fun o => (a, o)
end
end Att
namespace L2
open PySem PySem.Spec PyProof.Rows
theorem jqI : ∀ {vs : List Value} {ns : List Int}, IntsAre vs ns → Vals (ns.map V.int) vs
 | _, _, .nil => .nil
 | _, _, .cons n t h => .cons ⟨t, rfl⟩ (jqI h)
def Only (H : Hp) : Prop := ∀ b, H b = none ∨ ∃ o xs, H b = some (.frz o (.lst xs))
theorem pqJ {P : Program} {w : World} {K : PySem.W.Frag} {mg mb : Str → Option Value} {CX : CXT} {k : Nat} {fa a : Addr} {fd : FuncData} {x : Str} {sp : Sp} {s₁ : Shared} {vs : List Value} {ns : List Int}
  (KX : K.In s₁.heap) (hns : s₁.heap.Ns mainGlobals mg) (hb : s₁.heap.Ns builtinsNs mb) (hbb : ∀ x : Str, x ≠ "__name__" → mb x = bootBuiltins x) (hlim : s₁.heap.NoLimit) (hg : s₁.gens = #[])
  (ha : s₁.heap.get? a = some { cls := .type "list", data := .seq vs.toArray }) (hi : IntsAre vs ns) (hl : ns.length ≤ sizeLine) (hr : Room k callerA)
  (F : ∀ base : Heap, K.In base → base.Ns mainGlobals mg → FnOk P w K mg base CX k fa fd [x] sp) (hbind : ∀ (s : Shared) (u : Value), BindsTo s fd ⟨[u], []⟩ [(x, u)])
  (hsp : ∀ H : Hp, Only H → SqL K H a (ns.map V.int) → sp [.ref a] H (fun v _ => v = .bl true) fun _ _ _ => False)
  (hCX : ∀ H e s', CX [] H s₁ (fun _ _ _ => False) e s' → False) :
  codeAny (model P w) callerA (.call (.ref fa) ⟨[.ref a], []⟩) (fun r s' => r = .ok (.ret (.bool true)) ∧ OldK s₁.heap s'.heap ∧ s'.os = s₁.os ∧ AllBare s'.gens) s₁ := by
 have rv := jqI hi
 have lenV := hi.length
 have core : ∀ H : Hp, Only H → SqL K H a (ns.map V.int) → HOk P w H s₁.heap → (∀ b, H b ≠ none → b = a) → (H a ≠ none → K.lookup a = none) →
   codeAny (model P w) callerA (.call (.ref fa) ⟨[.ref a], []⟩) (fun r s' => r = .ok (.ret (.bool true)) ∧ OldK s₁.heap s'.heap ∧ s'.os = s₁.os ∧ AllBare s'.gens) s₁ := by
  intro H hO hS hok hA hK
  have base_of : ∀ {b : Addr} {o : Obj}, s₁.heap.get? b = some o → H b = none → (hidT s₁.heap H).get? b = some o := fun e n => pq8 e n
  have noA : ∀ {b : Addr} {o : Obj} {es : Array DictEntry} {ep : Nat}, s₁.heap.get? b = some o → o.data = .dict es ep → H b = none := fun {b o es ep} e d => by
   cases q : H b with
   | none => rfl
   | some u =>
    have e' : b = a := hA b (by rw [q]; simp)
    subst e'
    rw [ha] at e; cases e
    have d' : Data.seq vs.toArray _ = Data.dict es ep := d
    cases d'
  have nsK : ∀ {b : Addr} {m : Str → Option Value}, s₁.heap.Ns b m → (hidT s₁.heap H).Ns b m := fun {b m} ⟨o, es, ep, e, d, r⟩ => ⟨o, es, ep, base_of e (noA e d), d, r⟩
  have hKb : K.In (hidT s₁.heap H) := fun b o e => base_of (KX b o e) (by
   cases q : H b with
   | none => rfl
   | some u =>
    have e' : b = a := hA b (by rw [q]; simp)
    subst e'
    rw [hK (by rw [q]; simp)] at e; cases e)
  have hM : Mod K mg (hidT s₁.heap H) := ⟨hKb, nsK hns, ⟨mb, nsK hb, hbb⟩, let ⟨mc, h1, h2⟩ := hlim; ⟨mc, nsK h1, h2⟩⟩
  have e0 : Env0 P w K mg (hidT s₁.heap H) callerA [] s₁ H := ⟨rfl, hM, fun b o e => rqZ e, Nat.le_of_eq (nqd _ _), trivial, fun b hb => absurd (show b ∈ ([] : List Addr) from hb) (by simp), hok, .of_eq hg⟩
  refine codeAny_mono ((F _ hKb (nsK hns)).run callerA [] s₁ H ⟨[.ref a], []⟩ [.ref a] [.ref a] _ _ hr e0 (hbind s₁ (.ref a)) (.cons rfl .nil) (hsp H hO hS)) fun r s' h => ?_
  cases r with
  | error e => exact (hCX H e s' h).elim
  | ok fl =>
   cases fl with
   | next => exact False.elim h
   | brk => exact False.elim h
   | cont => exact False.elim h
   | ret u =>
    obtain ⟨v, H', os, bare, un, hok', r', q⟩ := h
    have q' : v = .bl true := q
    subst q'
    obtain rfl : u = Value.bool true := r'
    refine ⟨rfl, OldK.of_keep fun b o e => ?_, os, bare⟩
    cases q : H b with
    | none => exact un.keep b o e q (by intro z; exact absurd (show b ∈ ([] : List Addr) from z) (by simp)) (by simp)
    | some u =>
     rcases hO b with z | ⟨ob, xs, z⟩
     ·rw [q] at z; cases z
     ·have z2 := un.frzs b ob _ z
      obtain ⟨e1, _⟩ := hok b _ z
      obtain ⟨e2, _⟩ := hok' b _ z2
      rw [e] at e1; cases e1
      exact e2
 cases hk : K.lookup a with
 | some o =>
  have e := KX a o hk
  rw [ha] at e
  cases e
  refine core (fun _ => none) (fun _ => .inl rfl) (.inr ⟨_, vs.toArray, _, hk, rfl, rfl, rfl, by rw [List.size_toArray, lenV]; exact hl, by simpa using rv⟩) (fun b u z => by have z' : (none : Option HO) = some u := z; cases z') (fun b z => absurd rfl z) fun z => absurd rfl z
 | none =>
  refine core (fun b => if b = a then some (.frz { cls := .type "list", data := .seq vs.toArray } (.lst (ns.map V.int))) else none) (fun b => ?_) (.inl (.inr ⟨{ cls := .type "list", data := .seq vs.toArray }, if_pos rfl⟩)) (fun b u z => ?_) (fun b z => ?_) fun _ => hk
  ·by_cases hb : b = a
   ·exact .inr ⟨_, _, if_pos hb⟩
   ·exact .inl (if_neg hb)
  ·by_cases hb : b = a
   ·have z' := (if_pos hb).symm.trans z
    cases z'
    subst hb
    exact ⟨ha, by rw [List.length_map]; exact hl, vs, _, rv, ha⟩
   ·have z' := (if_neg hb).symm.trans z
    cases z'
  ·by_cases hb : b = a
   ·exact hb
   ·exact absurd (if_neg hb) z
abbrev KOf {K : PySem.W.Frag} {h : Heap} (_ : K.In h) : PySem.W.Frag := K
theorem qqL {l : PySem.W.OpenLaw} {n k : Nat} {q : Program} {loose : List Str} {XP : (Str → Option Value) → Heap → Prop} {YP : World → Heap → Prop} {d : DefRec} {K : Params → PySem.W.Frag} {CX : World → CXT} {sp : World → Sp} {x : Str}
  (hn : l.most = some n) (hn2 : n ≤ sizeLine) (hdf : d.params.defaults = []) (hr : Room k callerA)
  (hY : ∀ (w : World) (h : Heap), YP w h → (K w.params).In h)
  (F : ∀ (w : World) (mg : Str → Option Value) (fa : Addr) (h : Heap), (K w.params).In h → h.Ns mainGlobals mg → mg d.name = some (.ref fa) →
   ∃ fd : FuncData, (∀ (s : Shared) (u : Value), BindsTo s fd ⟨[u], []⟩ [(x, u)]) ∧
    ∀ base : Heap, (K w.params).In base → base.Ns mainGlobals mg → FnOk l.prog w (K w.params) mg base (CX w) k fa fd [x] (sp w))
  (hsp : ∀ (w : World) (H : Hp) (a : Addr) (ns : List Int), ns.length ≤ n → Only H → SqL (K w.params) H a (ns.map V.int) → sp w [.ref a] H (fun v _ => v = .bl true) fun _ _ _ => False)
  (hCX : ∀ (w : World) (H : Hp) (s : Shared) (e : Value) (s' : Shared), CX w [] H s (fun _ _ _ => False) e s' → False) :
  PySem.W.WalkO q loose XP YP l.row.toRowW d [] (fun f vs => PySem.call f vs) := by
 refine Att.attach_call hn hdf fun w s₀ s₁ mg mb fa o pm cd doc a vs ns G Y ho hd hcd hmg hobj hints hlen hg => ?_
 have KX := hY w _ Y
 obtain ⟨fd, hb, hF⟩ := F w mg fa _ KX G.T.g hmg
 exact pqJ KX G.T.g G.T.b G.T.builtins G.T.nolimit hg hobj hints (Nat.le_trans hlen hn2) hr hF hb (fun H hO hS => hsp w H a ns hlen hO hS) fun H e s' => hCX w H s₁ e s'
def inClass (s : Stmt) (j : Nat) : Stmt := match s with
 | .ClassDef _ _ _ body _ _ _ _ _ _ _ => body.getD j (.Pass ⟨0, 0, 0, 0⟩)
 | _ => .Pass ⟨0, 0, 0, 0⟩
def defArgs (s : Stmt) : Arguments := match s with
 | .FunctionDef _ a _ _ _ _ _ _ _ _ => a
 | _ => { posonlyargs := [], args := [], vararg := none, kwonlyargs := [], kw_defaults := [], kwarg := none, defaults := [] }
def defBody (s : Stmt) : List Stmt := match s with
 | .FunctionDef _ _ b _ _ _ _ _ _ _ => b
 | _ => []
def defScope (s : Stmt) : Scope := match s with
 | .FunctionDef _ _ _ _ _ _ sc _ _ _ => sc
 | _ => { kind := .function, names := [], isGenerator := false, isCoroutine := false }
abbrev CX0 : CXT := fun _ _ _ _ _ _ => False
abbrev E0 : XK := fun _ _ _ => False
theorem pass0 {X : Cx} : Passes CX0 X E0 := fun _ _ _ _ _ _ _ h => h.elim
structure Fun (K : PySem.W.Frag) (x qual : Str) (st : Stmt) (f : Addr) (fd : FuncData) : Prop where
 ex : ∃ (oc : Value) (od : Option Addr) (kV doc pm : Value) (an : Option Addr) (cdv ct : Value) (osl : Array (Option Value)),
  fd = PySem.W.fnOf x qual (defArgs st) (defBody st) (defScope st) .none kV doc pm an cdv ct ∧ K.lookup f = some ⟨oc, od, .func fd, osl⟩ ∧ PySem.W.codeIn K cdv qual = true
 kp : PySem.W.keepIn K (.ref f) = true
section
variable {P : Program} {w : World} {K : PySem.W.Frag} {mg : Str → Option Value} {base : Heap}
theorem Fun.ok {x qual : Str} {st : Stmt} {f : Addr} {fd : FuncData} {N ps : List Str} {k : Nat} {sp : Sp} (F : Fun K x qual st f fd) (S : FnScope N ps (defScope st)) (len : ∀ vs H Q E, sp vs H Q E → vs.length = ps.length)
  (hbody : ∀ (cdv : Value) (A : Around) (outer : List Env) (s : Shared) (H : Hp) (vs : List V) (Q : VK) (E : XK), Room k (A.deeper (envOfC qual (defScope st) s.heap.objs.size f cdv)) → sp vs H Q E →
   ∃ t, PSs (cxOf CX0 P w K mg base N qual (defScope st) f cdv A outer s H E).nox (defBody st) t ∧ t { nx := fun _ H' => Q .non H', rt := Q } (start N vs) H) : FnOk P w K mg base CX0 (k + 1) f fd ps sp := by
 obtain ⟨oc, od, kV, doc, pm, an, cdv, ct, osl, rfl, lk, hcd⟩ := F.ex
 refine tqv lk hcd S len fun A outer s H vs Q E hr hsp => ?_
 obtain ⟨t, h, q⟩ := hbody cdv A outer s H vs Q E hr hsp
 exact ⟨t, h.nox, q⟩
theorem Fun.binds {x qual : Str} {st : Stmt} {f : Addr} {fd : FuncData} {ps : List Str} (F : Fun K x qual st f fd)
  (h : ∀ (kV doc pm : Value) (an : Option Addr) (cdv ct : Value) (us : List Value), us.length = ps.length → bindArgs (PySem.W.fnOf x qual (defArgs st) (defBody st) (defScope st) .none kV doc pm an cdv ct) ⟨us, []⟩ = pure (ps.zip us)) : Binds K fd ps [] := by
 obtain ⟨oc, od, kV, doc, pm, an, cdv, ct, osl, rfl, lk, hcd⟩ := F.ex
 exact .all (h kV doc pm an cdv ct)
theorem eqi {x qual : Str} {st : Stmt} {f : Addr} {oc : Value} {od an : Option Addr} {osl : Array (Option Value)} {kV doc pm cdv ct : Value} (l : K.lookup f = some ⟨oc, od, .func (PySem.W.fnOf x qual (defArgs st) (defBody st) (defScope st) .none kV doc pm an cdv ct), osl⟩)
  (c : PySem.W.codeIn K cdv qual = true) (k : PySem.W.keepIn K (.ref f) = true) : Fun K x qual st f (PySem.W.fnOf x qual (defArgs st) (defBody st) (defScope st) .none kV doc pm an cdv ct) := ⟨⟨oc, od, kV, doc, pm, an, cdv, ct, osl, rfl, l, c⟩, k⟩
end
section
variable {X : Cx}
theorem pv (i : Nat) {x : Str} {pos : Pos} (hN : X.N[i]? = some x := by rfl) (hv : Vis X.env.scope x := by first | exact Or.inl rfl | exact Or.inr (Or.inl rfl) | exact Or.inr (Or.inr rfl)) (hd : (x == ("__debug__" : Str)) = false := by decide)
  (hcd : (x == ("__classdict__" : Str)) = false := by decide) : PE X (.Name x pos) (tVar i) := sqD hN hv hd hcd
end
theorem ite2 {c A B : Prop} [Decidable c] (h1 : c → A) (h2 : ¬ c → B) : if c then A else B := by
 by_cases h : c
 ·rw [if_pos h]
  exact h1 h
 ·rw [if_neg h]
  exact h2 h
def Same (H H' : Hp) : Prop := ∀ b o, H b = some o → H' b = some o
theorem Same.refl (H : Hp) : Same H H := fun _ _ h => h
theorem Same.trans {H H1 H2 : Hp} (a : Same H H1) (b : Same H1 H2) : Same H H2 := fun c o h => b c o (a c o h)
theorem Same.seq {K : PySem.W.Frag} {H H' : Hp} {a : Addr} {xs : List V} (e : Same H H') (h : SqL K H a xs) : SqL K H' a xs := by
 rcases h with (h | ⟨o, h⟩) | h
 ·exact .inl (.inl (e _ _ h))
 ·exact .inl (.inr ⟨o, e _ _ h⟩)
 ·exact .inr h
end L2
set_option maxHeartbeats 4000000
namespace L2
open PySem PySem.Spec PyProof.Rows
def Its (z : Str) : It := ⟨fun i _ => i < z.length, fun i H x H' => H' = H ∧ ∃ c, z.cps.toList[i]? = some c ∧ x = .str ⟨#[c]⟩, fun i _ => z.length ≤ i⟩
theorem nq4 {z : Str} {i : Nat} (h : i < z.length) : ∃ c, z.cps[i]? = some c ∧ z.cps.toList[i]? = some c := by
 have h' : i < z.cps.size := h
 exact ⟨z.cps[i], by simp [h'], by simp [h']⟩
theorem lqP {z : Str} {i : Nat} (h : z.length ≤ i) : z.cps[i]? = none := by
 have h' : z.cps.size ≤ i := h
 simp [h']
theorem nqC {P : Program} {w : World} {K : PySem.W.Frag} {tg : Expr} (it : Addr) (z : Str) (t : Tok) : Turn P w K tg (Its z) [it] it (fun i h => h.IsStrIter it "str_ascii_iterator" z t i) where
 mem := by simp
 obj := fun i h st b hb => by
  have e : b = it := by simpa using hb
  subst e
  obtain ⟨o, e, c, d⟩ := st
  exact ⟨o, e, fun v z => by rw [d] at z; cases z⟩
 keep := fun i h h' st k => by
  obtain ⟨o, e, r⟩ := st
  exact ⟨o, k it (by simp) o e, r⟩
 item := by
  intro X hP hw hK hc i pins s σ H E I hf st hg
  subst hP hw hK
  obtain ⟨c, h1, h2⟩ := nq4 (z := z) (i := i) hg
  obtain ⟨f0, f1, f2, f3, f4, f5⟩ := hf it (by simp)
  refine wpAny_pyNext_ascii_item st h1 fun h' st' sb => ?_
  have I1 : Inv X pins σ H { s with heap := h', toks := s.toks + 1 } := I.turned (t' := s.toks + 1) (fun b o hb e => (sb.2 b hb).trans e) f0 f1 f3 f4 f5
  obtain ⟨o, e, cl, d⟩ := id st'
  exact ⟨_, rfl, pqZ (s := { s with heap := h', toks := s.toks + 1 }) e cl d (by decide) ⟨.str ⟨#[c]⟩, H, I1, ⟨_, rfl⟩, ⟨rfl, c, h2, rfl⟩, st', fun b hb => (hf b hb).1⟩⟩
 done := by
  intro X hP hw hK hc i pins s σ H E I hf st hg
  subst hP hw hK
  obtain ⟨f0, f1, f2, f3, f4, f5⟩ := hf it (by simp)
  exact wpAny_pyNext_ascii_end (I.ok.hd hc) st (lqP hg) fun h' eb => ⟨rfl, I.turned (t' := s.toks) (fun b o hb e => eb b o hb e) f0 f1 f3 f4 f5⟩
 self := fun _ _ _ _ _ st h => wpAny_pyIter_striter_ascii st h
theorem oqB {P : Program} {w : World} {K : PySem.W.Frag} {tg : Expr} (it : Addr) (z : Str) (t : Tok) : Turn P w K tg (Its z) [it] it (fun i h => h.IsStrIter it "str_iterator" z t i) where
 mem := by simp
 obj := fun i h st b hb => by
  have e : b = it := by simpa using hb
  subst e
  obtain ⟨o, e, c, d⟩ := st
  exact ⟨o, e, fun v z => by rw [d] at z; cases z⟩
 keep := fun i h h' st k => by
  obtain ⟨o, e, r⟩ := st
  exact ⟨o, k it (by simp) o e, r⟩
 item := by
  intro X hP hw hK hc i pins s σ H E I hf st hg
  subst hP hw hK
  obtain ⟨c, h1, h2⟩ := nq4 (z := z) (i := i) hg
  obtain ⟨f0, f1, f2, f3, f4, f5⟩ := hf it (by simp)
  refine wpAny_pyNext_wide_item st h1 fun h' st' sb => ?_
  have I1 : Inv X pins σ H { s with heap := h', toks := s.toks + 1 } := I.turned (t' := s.toks + 1) (fun b o hb e => (sb.2 b hb).trans e) f0 f1 f3 f4 f5
  obtain ⟨o, e, cl, d⟩ := id st'
  exact ⟨_, rfl, pqZ (s := { s with heap := h', toks := s.toks + 1 }) e cl d (by decide) ⟨.str ⟨#[c]⟩, H, I1, ⟨_, rfl⟩, ⟨rfl, c, h2, rfl⟩, st', fun b hb => (hf b hb).1⟩⟩
 done := by
  intro X hP hw hK hc i pins s σ H E I hf st hg
  subst hP hw hK
  obtain ⟨f0, f1, f2, f3, f4, f5⟩ := hf it (by simp)
  exact wpAny_pyNext_wide_end (I.ok.hd hc) st (lqP hg) fun h' eb => ⟨rfl, I.turned (t' := s.toks) (fun b o hb e => eb b o hb e) f0 f1 f3 f4 f5⟩
 self := fun _ _ _ _ _ st h => wpAny_pyIter_striter_wide st h
section
variable {X : Cx} {tg : Expr}
def iStr (tl : TE) : TI := fun σ H R => tl σ H fun x H1 => ∃ z, x = .str z ∧ R (Its z) H1
theorem qqg {l : Expr} {tl : TE} (hl : PE X l tl) : PI X tg l (iStr tl) := by
 intro pins s σ H R I h
 refine thn (hl pins s σ H _ I h) fun v s1 W' => ?_
 obtain ⟨x, H1, I1, r1, q1⟩ := W'
 obtain ⟨z, rfl, q⟩ := q1
 obtain ⟨t, rfl⟩ := r1
 have fp : ∀ b ∈ [s1.heap.objs.size], FpOk X pins H1 b := fun b hb => by
  have e : b = s1.heap.objs.size := by simpa using hb
  subst e
  exact I1.fpOk (Nat.le_refl _) (I1.hok.fresh (Nat.le_refl _))
 cases ha : z.cps.all (· < 128)
 ·refine wpAny_pyIter_wide ha ?_
  exact ⟨s1.heap.objs.size, [s1.heap.objs.size], _, _, H1, rfl, I1.kept (t' := s1.toks) fun b o e => Heap.get?_push_of_some _ e, oqB _ z t, ⟨_, Heap.get?_push_size _ rfl, rfl, rfl⟩, fp, q⟩
 ·refine wpAny_pyIter_ascii ha ?_
  exact ⟨s1.heap.objs.size, [s1.heap.objs.size], _, _, H1, rfl, I1.kept (t' := s1.toks) fun b o e => Heap.get?_push_of_some _ e, nqC _ z t, ⟨_, Heap.get?_push_size _ rfl, rfl, rfl⟩, fp, q⟩
end
section
variable {X : Cx}
def rSlS : V → Option Int → Option Int → Hp → VK → Prop := fun x lo hi H Q => ∃ z, x = .str z ∧ z.length ≤ sizeLine ∧ Q (.str (Txt.slice z lo hi)) H
theorem sqR : SlR X rSlS := by
 intro pins s σ H x v vl vu lo hi sl Q I rx hs pl pu h
 obtain ⟨z, rfl, hz, q⟩ := h
 obtain ⟨t, rfl⟩ := rx
 refine ⟨"str", _, F.slot_str_getitem.lookup, typeIs_str _ _ _, ?_⟩
 obtain ⟨o, ho, hc, hd⟩ := hs
 cases pl with
 | none =>
  cases pu with
  | none => exact wpAny_getItem_str_slice (l := none) (u := none) (st := none) ⟨o, ho, hc, hd⟩ rfl (post_val_or_str ⟨Nat.le_trans (Txt.slice_le z none none) hz, fun t' k => ⟨.str (Txt.slice z none none), H, I.tok k, ⟨t', rfl⟩, q⟩⟩)
  | int j uj => exact wpAny_getItem_str_slice (l := none) (u := some (j, uj)) (st := none) ⟨o, ho, hc, hd⟩ rfl (post_val_or_str ⟨Nat.le_trans (Txt.slice_le z none (some j)) hz, fun t' k => ⟨.str (Txt.slice z none (some j)), H, I.tok k, ⟨t', rfl⟩, q⟩⟩)
 | int i ui =>
  cases pu with
  | none => exact wpAny_getItem_str_slice (l := some (i, ui)) (u := none) (st := none) ⟨o, ho, hc, hd⟩ rfl (post_val_or_str ⟨Nat.le_trans (Txt.slice_le z (some i) none) hz, fun t' k => ⟨.str (Txt.slice z (some i) none), H, I.tok k, ⟨t', rfl⟩, q⟩⟩)
  | int j uj => exact wpAny_getItem_str_slice (l := some (i, ui)) (u := some (j, uj)) (st := none) ⟨o, ho, hc, hd⟩ rfl (post_val_or_str ⟨Nat.le_trans (Txt.slice_le z (some i) (some j)) hz, fun t' k => ⟨.str (Txt.slice z (some i) (some j)), H, I.tok k, ⟨t', rfl⟩, q⟩⟩)
def rSl (K : PySem.W.Frag) : V → Option Int → Option Int → Hp → VK → Prop := fun x lo hi H Q => rSlL K x lo hi H Q ∨ rSlS x lo hi H Q
theorem sqr : SlR X (rSl X.K) := rqR.or sqR
def rIndex : V → List V → Hp → VK → Prop := fun x vs H Q => match x, vs with
 | .str z, [.str y] => ∃ i r, Builtin.Str.occurrences z y 0 z.length 1 = i :: r ∧ Q (.int (i : Nat)) H
 | _, _ => False
theorem pqf {z y : Str} {H : Hp} {Q : VK} : (rIndex (.str z) [.str y] H Q) = (∃ i r, Builtin.Str.occurrences z y 0 z.length 1 = i :: r ∧ Q (.int (i : Nat)) H) := rfl
theorem lq1 : MtR X "str.index" rIndex := by
 intro pins s σ H x vs v us Q I rx rv h
 unfold rIndex at h
 split at h
 rotate_left
 ·exact h.elim
 rename_i z y
 obtain ⟨i, r, ho, q⟩ := h
 obtain ⟨t, rfl⟩ := rx
 obtain ⟨u, rfl, t', rfl⟩ := vals1 rv
 exact SC.index ho ⟨.int (i : Nat), H, I.tok _, ⟨_, rfl⟩, q⟩
theorem notTooLong {n : Nat} (h : n ≤ 1000000) : Builtin.Str.tooLong n = false := by
 unfold Builtin.Str.tooLong
 rw [sizeLine_eq]
 exact decide_eq_false (by lia)
def rUpper : V → List V → Hp → VK → Prop := fun x vs H Q => match x, vs with
 | .str z, [] => (∀ c ∈ z.cps.toList, c < 128) ∧ z.length ≤ 1000000 ∧ Q (.str ⟨z.cps.map up1⟩) H
 | _, _ => False
theorem tqp {z : Str} {H : Hp} {Q : VK} : (rUpper (.str z) [] H Q) = ((∀ c ∈ z.cps.toList, c < 128) ∧ z.length ≤ 1000000 ∧ Q (.str ⟨z.cps.map up1⟩) H) := rfl
def rLower : V → List V → Hp → VK → Prop := fun x vs H Q => match x, vs with
 | .str z, [] => (∀ c ∈ z.cps.toList, c < 128) ∧ z.length ≤ 1000000 ∧ Q (.str ⟨z.cps.map lo1⟩) H
 | _, _ => False
theorem sql {z : Str} {H : Hp} {Q : VK} : (rLower (.str z) [] H Q) = ((∀ c ∈ z.cps.toList, c < 128) ∧ z.length ≤ 1000000 ∧ Q (.str ⟨z.cps.map lo1⟩) H) := rfl
theorem lqZ : MtR X "str.lower" rLower := by
 intro pins s σ H x vs v us Q I rx rv h
 unfold rLower at h
 split at h
 rotate_left
 ·exact h.elim
 rename_i z
 obtain ⟨ha, hz, q⟩ := h
 obtain ⟨t, rfl⟩ := rx
 cases rv
 have e := lower_ascii ha
 refine SC.lower ?_ ⟨.str ⟨z.cps.map lo1⟩, H, I.tok _, ⟨_, by rw [e]⟩, q⟩
 rw [e]
 exact notTooLong (by show (z.cps.map lo1).size ≤ _; rw [Array.size_map]; exact hz)
def rAlnum : V → List V → Hp → VK → Prop := fun x vs H Q => match x, vs with
 | .str z, [] => Q (.bl (Txt.isalnum z)) H
 | _, _ => False
theorem sq7 {z : Str} {H : Hp} {Q : VK} : (rAlnum (.str z) [] H Q) = (Q (.bl (Txt.isalnum z)) H) := rfl
theorem mqu {ys : List Str} : ∀ {us : List Value}, Vals (ys.map V.str) us → StrsAre us ys := by
 induction ys with
 | nil => intro us r; rw [List.map_nil] at r; cases r; exact .nil
 | cons y ys ih =>
  intro us r
  rw [List.map_cons] at r
  cases r with
  | cons r1 r2 =>
   obtain ⟨t, e⟩ := r1
   subst e
   exact .cons y t (ih r2)
def rJoin (K : PySem.W.Frag) : V → List V → Hp → VK → Prop := fun x vs H Q => ∃ z p ys, x = .str z ∧ vs = [.ref p] ∧ SqL K H p (ys.map V.str) ∧ (ys.map (·.length)).sum + ys.length * z.length ≤ 16777216 ∧ Q (.str (Txt.join z ys)) H
theorem rqb : MtR X "str.join" (rJoin X.K) := by
 intro pins s σ H x vs v us Q I rx rv h
 obtain ⟨z, p, ys, rfl, rfl, hq, hz, q⟩ := h
 obtain ⟨t, rfl⟩ := rx
 obtain ⟨u, rfl, ru⟩ := vals1 rv
 cases ru
 obtain ⟨its, r, pl, hl⟩ := I.list hq
 exact join_list pl.isList (by simpa using mqu r) hz fun t' k => ⟨.str (Txt.join z ys), H, I.tok k, ⟨t', rfl⟩, q⟩
def rIsi (K : PySem.W.Frag) : List V → Hp → VK → Prop := fun vs H Q => ∃ x T t b, vs = [x, .ty T] ∧ TyOf K H x t ∧ PySem.W.kitOne K t (.type T) = some b ∧ Q (.bl b) H
theorem pqc : CallR X (.builtin "isinstance") (rIsi X.K) := by
 intro pins s σ H xs us Q I r h
 obtain ⟨x, T, t, b, rfl, ty, e, q⟩ := h
 obtain ⟨u, v, rfl, ru, rv⟩ := vals2 r
 cases (show v = Value.type T from rv)
 exact oqL I ru ty e fun tk => ⟨.bl b, H, I.tok tk, rfl, q⟩
def rCatD : R2 := fun x y H Q => ∃ a b xs ys, x = .ref a ∧ y = .ref b ∧ H a = some (.tup xs) ∧ H b = some (.tup ys) ∧ xs.length + ys.length ≤ sizeLine ∧ ∀ p H', Same H H' → H' p = some (.tup (xs ++ ys)) → Q (.ref p) H'
theorem rqW : OpR X (binaryOp .Add) rCatD := by
 intro pins s σ H x y v u Q I rx ry h
 obtain ⟨a, b, xs, ys, rfl, rfl, ha, hb, hz, q⟩ := h
 by_cases hx : xs = []
 ·subst hx
  cases rx
  cases ry
  obtain ⟨its, r1, p1, _⟩ := I.tuple (SqT.of ha)
  obtain ⟨its2, r2, p2, _⟩ := I.tuple (SqT.of hb)
  cases r1
  obtain ⟨⟨cls, dd, data, sl⟩, ho, hc, n, hd⟩ := id p1
  obtain ⟨⟨cls2, dd2, data2, sl2⟩, ho2, hc2, n2, hd2⟩ := id p2
  simp only at hc hd hc2 hd2
  subst hc hd hc2 hd2
  exact concat_meets ⟨_, ho, rfl⟩ ⟨_, ho2, rfl⟩ noFill_tuple_add seq_tuple_add PySem.F.slot_tuple_add PySem.F.entry_tuple_add (PySem.F.args_tuple_add_2 _ _)
   (tuple_addW0 a b ([] : List Value).toArray its2.toArray n n2 dd dd2 sl sl2 rfl) ⟨ho, ho2, ⟨.ref b, H, I, rfl, q b H (Same.refl _) hb⟩⟩
 ·refine nqF pins s σ H _ _ v u Q I rx ry ⟨a, b, xs, ys, rfl, rfl, SqT.of ha, SqT.of hb, hx, hz, fun e => q a H (Same.refl _) (by rw [e, List.append_nil]; exact ha), fun _ p hp => q p _ (fun b o e => by rw [aqA (aqx e hp)]; exact e) aqk⟩
def rAddU (K : PySem.W.Frag) : R2 := fun x y H Q => match x, y with
 | .int i, .int j => Q (.int (i + j)) H
 | .str i, .str j => i.length + j.length ≤ sizeLine ∧ Q (.str (i ++ j)) H
 | .ref a, .ref b => (∃ xs zs, H a = some (.lst xs) ∧ H b = some (.lst zs) ∧ xs.length + zs.length ≤ sizeLine ∧ ∀ p, H p = none → Q (.ref p) (upd H p (.lst (xs ++ zs)))) ∨
   (∃ xs ys, H a = some (.tup xs) ∧ H b = some (.tup ys) ∧ xs.length + ys.length ≤ sizeLine ∧ ∀ p H', Same H H' → H' p = some (.tup (xs ++ ys)) → Q (.ref p) H')
 | _, _ => False
theorem nqJ : OpR X (binaryOp .Add) (rAddU X.K) := by
 intro pins s σ H x y v u Q I rx ry h
 cases x with
 | int i =>
  cases y with
  | int j => exact tqm pins s σ H _ _ v u Q I rx ry ⟨i, j, rfl, rfl, h⟩
  | _ => exact h.elim
 | str i =>
  cases y with
  | str j => exact mqB pins s σ H _ _ v u Q I rx ry ⟨i, j, rfl, rfl, h.1, h.2⟩
  | _ => exact h.elim
 | ref a =>
  cases y with
  | ref b =>
   rcases h with ⟨xs, zs, h1, h2, h3, h4⟩ | ⟨xs, ys, h1, h2, h3, h4⟩
   ·exact tqh pins s σ H _ _ v u Q I rx ry ⟨a, b, xs, zs, rfl, rfl, h1, h2, h3, h4⟩
   ·exact rqW pins s σ H _ _ v u Q I rx ry ⟨a, b, xs, ys, rfl, rfl, h1, h2, h3, h4⟩
  | _ => exact h.elim
 | _ => exact h.elim
theorem tqz {K : PySem.W.Frag} {i j : Int} {H : Hp} {Q : VK} : (rAddU K (.int i) (.int j) H Q) = (Q (.int (i + j)) H) := rfl
theorem tqM {K : PySem.W.Frag} {i j : Str} {H : Hp} {Q : VK} : (rAddU K (.str i) (.str j) H Q) = (i.length + j.length ≤ sizeLine ∧ Q (.str (i ++ j)) H) := rfl
end
section
variable {X : Cx}
def rMulU : R2 := fun x y H Q => match x, y with
 | .int i, .int j => CMul i j ∧ Q (.int (i * j)) H
 | .str z, .int k => MulOk z k ∧ Q (.str (Txt.mul z k)) H
 | _, _ => False
theorem eqh : OpR X (binaryOp .Mult) rMulU := by
 intro pins s σ H x y v u Q I rx ry h
 cases x with
 | int i =>
  cases y with
  | int j => exact tqD pins s σ H _ _ v u Q I rx ry ⟨i, j, rfl, rfl, h.1, h.2⟩
  | _ => exact h.elim
 | str z =>
  cases y with
  | int k =>
   obtain ⟨t, rfl⟩ := rx
   obtain ⟨t', rfl⟩ := ry
   exact SB.mul h.1 fun t' k' => ⟨.str (Txt.mul z k), H, I.tok k', ⟨t', rfl⟩, h.2⟩
  | _ => exact h.elim
 | _ => exact h.elim
theorem sqt {i j : Int} {H : Hp} {Q : VK} : (rMulU (.int i) (.int j) H Q) = (CMul i j ∧ Q (.int (i * j)) H) := rfl
theorem sqZ {z : Str} {k : Int} {H : Hp} {Q : VK} : (rMulU (.str z) (.int k) H Q) = (MulOk z k ∧ Q (.str (Txt.mul z k)) H) := rfl
def rLenU (K : PySem.W.Frag) : List V → Hp → VK → Prop := fun xs H Q => match xs with
 | [.str z] => z.length ≤ sizeLine ∧ Q (.int z.length) H
 | [.ref p] => ∃ ys, (SqL K H p ys ∨ SqT K H p ys) ∧ Q (.int ys.length) H
 | _ => False
theorem oqM : CallR X (.builtin "len") (rLenU X.K) := by
 intro pins s σ H xs us Q I r h
 unfold rLenU at h
 split at h
 ·exact kqQ pins s σ H _ us Q I r ⟨_, rfl, h.1, h.2⟩
 ·obtain ⟨ys, h1, h2⟩ := h
  exact jqC pins s σ H _ us Q I r ⟨_, ys, rfl, h1, h2⟩
 ·exact h.elim
theorem sq2 {K : PySem.W.Frag} {z : Str} {H : Hp} {Q : VK} : (rLenU K [.str z] H Q) = (z.length ≤ sizeLine ∧ Q (.int z.length) H) := rfl
theorem tqu {K : PySem.W.Frag} {p : Addr} {H : Hp} {Q : VK} : (rLenU K [.ref p] H Q) = (∃ ys, (SqL K H p ys ∨ SqT K H p ys) ∧ Q (.int ys.length) H) := rfl
def rOrdU : List V → Hp → VK → Prop := fun xs H Q => match xs with
 | [.str z] => z.length = 1 ∧ Q (.int (z.cps.getD 0 0 : Nat)) H
 | _ => False
theorem nqN : CallR X (.builtin "ord") rOrdU := by
 intro pins s σ H xs us Q I r h
 unfold rOrdU at h
 split at h
 ·exact pq1 pins s σ H _ us Q I r ⟨_, rfl, h.1, h.2⟩
 ·exact h.elim
theorem sqn {c : Nat} {H : Hp} {Q : VK} : rOrdU [.str ⟨#[c]⟩] H Q ↔ Q (.int (c : Nat)) H := ⟨fun h => h.2, fun h => ⟨rfl, h⟩⟩
theorem oqm : bootBuiltins "int" = some (.type "int") := by decide +kernel
theorem jq3 : bootBuiltins "str" = some (.type "str") := by decide +kernel
theorem fqy : bootBuiltins "tuple" = some (.type "tuple") := by decide +kernel
theorem oqZ : bootBuiltins "ord" = some (.builtin "ord") := by decide +kernel
theorem bq8 : bootBuiltins "isinstance" = some (.builtin "isinstance") := by decide +kernel
def rIntU : List V → Hp → VK → Prop := fun xs H Q => match xs with
 | [.int i] => Q (.int i) H
 | [.bl k] => Q (.int (if k then 1 else 0)) H
 | _ => False
theorem oqD : CallR X (.type "int") rIntU := by
 intro pins s σ H xs us Q I r h
 unfold rIntU at h
 split at h
 ·exact kqc pins s σ H _ us Q I r (.inl ⟨_, rfl, h⟩)
 ·exact kqc pins s σ H _ us Q I r (.inr ⟨_, rfl, h⟩)
 ·exact h.elim
theorem tqX {k : Bool} {H : Hp} {Q : VK} : (rIntU [.bl k] H Q) = (Q (.int (if k then 1 else 0)) H) := rfl
def rInU : R2 := fun x y H Q => match x, y with
 | .str i, .str j => Q (.bl (!(Builtin.Str.occurrences j i 0 j.length 1).isEmpty)) H
 | _, _ => False
theorem jq4 : OpR X (compareOp .In) rInU := by
 intro pins s σ H x y v u Q I rx ry h
 cases x with
 | str i =>
  cases y with
  | str j => exact nq2 pins s σ H _ _ v u Q I rx ry ⟨i, j, rfl, rfl, h⟩
  | _ => exact h.elim
 | _ => exact h.elim
def rNotInU : R2 := fun x y H Q => match x, y with
 | .str i, .str j => Q (.bl (!(!(Builtin.Str.occurrences j i 0 j.length 1).isEmpty))) H
 | _, _ => False
theorem tql {c : Nat} {j : Str} {H : Hp} {Q : VK} : rInU (.str ⟨#[c]⟩) (.str j) H Q ↔ Q (.bl (decide (c ∈ j.cps.toList))) H := by
 show Q (.bl (!(Builtin.Str.occurrences j ⟨#[c]⟩ 0 j.length 1).isEmpty)) H ↔ _
 rw [StrLaws.found_one]
theorem nqv {c : Nat} {j : Str} {H : Hp} {Q : VK} : rNotInU (.str ⟨#[c]⟩) (.str j) H Q ↔ Q (.bl (!decide (c ∈ j.cps.toList))) H := by
 show Q (.bl (!(!(Builtin.Str.occurrences j ⟨#[c]⟩ 0 j.length 1).isEmpty))) H ↔ _
 rw [StrLaws.found_one]
def rIsN (neg : Bool) : R2 := fun x y H Q => y = .non ∧ Q (.bl (if neg then !decide (x = .non) else decide (x = .non))) H
theorem bq4 : OpR X (compareOp .Is) (rIsN false) := fun pins s σ H x y v u Q I rx ry h => sqX pins s σ H x y v u Q I rx ry h
theorem fqP : OpR X (compareOp .IsNot) (rIsN true) := fun pins s σ H x y v u Q I rx ry h => qq8 pins s σ H x y v u Q I rx ry h
theorem tqP {x : V} {H : Hp} {Q : VK} : rIsN false x .non H Q ↔ Q (.bl (decide (x = .non))) H := ⟨fun h => h.2, fun h => ⟨rfl, h⟩⟩
theorem tq9 {x : V} {H : Hp} {Q : VK} : rIsN true x .non H Q ↔ Q (.bl (!decide (x = .non))) H := ⟨fun h => h.2, fun h => ⟨rfl, h⟩⟩
def kindV (x : V) (H : Hp) : Option String := match x with
 | .non => some "NoneType"
 | .bl _ => some "bool"
 | .int _ => some "int"
 | .str _ => some "str"
 | .ref a => match H a with
  | some (.lst _) => some "list"
  | some (.tup _) => some "tuple"
  | some (.dK _) => some "dict"
  | _ => none
 | _ => none
def subT (a b : String) : Bool := a == b || (a == "bool" && b == "int")
theorem rqO (K : PySem.W.Frag) : ∀ a ∈ ["NoneType", "bool", "int", "str", "list", "tuple", "dict"], ∀ b ∈ ["bool", "int", "str", "list", "tuple"], PySem.W.kitOne K (.type a) (.type b) = some (subT a b) := by
 intro a ha b hb
 simp only [List.mem_cons, List.not_mem_nil, or_false] at ha hb
 rcases ha with rfl | rfl | rfl | rfl | rfl | rfl | rfl <;> rcases hb with rfl | rfl | rfl | rfl | rfl <;> with_unfolding_all kernel_rfl
def rIsiU : List V → Hp → VK → Prop := fun vs H Q => match vs with
 | [x, .ty T] => ∃ k, kindV x H = some k ∧ T ∈ ["bool", "int", "str", "list", "tuple"] ∧ Q (.bl (subT k T)) H
 | _ => False
theorem fqI : CallR X (.builtin "isinstance") rIsiU := by
 intro pins s σ H xs us Q I r h
 unfold rIsiU at h
 split at h
 ·rename_i x T
  obtain ⟨k, hk, hT, q⟩ := h
  have key : TyOf X.K H x (.type k) ∧ k ∈ ["NoneType", "bool", "int", "str", "list", "tuple", "dict"] := by
   unfold kindV at hk
   split at hk
   ·cases hk; exact ⟨.non, by decide⟩
   ·cases hk; exact ⟨.bl _, by decide⟩
   ·cases hk; exact ⟨.int _, by decide⟩
   ·cases hk; exact ⟨.str _, by decide⟩
   ·split at hk
    ·rename_i e; cases hk; exact ⟨.lst e, by decide⟩
    ·rename_i e; cases hk; exact ⟨.tup e, by decide⟩
    ·rename_i e; cases hk; exact ⟨.dK e, by decide⟩
    ·cases hk
   ·cases hk
  exact pqc pins s σ H _ us Q I r ⟨x, T, .type k, subT k T, rfl, key.1, rqO X.K k key.2 T hT, q⟩
 ·exact h.elim
end
section
variable {σ : St} {H : Hp} {Q : VK} {D : Ends} {K : PySem.W.Frag} {ta tb te : TE} {tt tu : TT} {t u : TS} {aa ab : TA} {v x y : V} {r r' : R2}
theorem tqx {i : Nat} : (tVar i σ H Q) = (∃ v, σ[i]? = some (some v) ∧ Q v H) := rfl
theorem rd_C : (tC v σ H Q) = (Q v H) := rfl
theorem nqj : (tSeq t u D σ H) = (t { D with nx := u D } σ H) := rfl
theorem sq8 {g : TG} : (tAsg te g D σ H) = (te σ H fun x H1 => g x σ H1 D.nx) := rfl
theorem rqL {i : Nat} {R : St → Hp → Prop} : (gName i v σ H R) = (R (σ.set i (some v)) H) := rfl
theorem sqA : (tIfS tt t u D σ H) = (tt σ H fun b H1 => if b = true then t D σ H1 else u D σ H1) := rfl
theorem qqP : (tNext D σ H) = (D.nx σ H) := rfl
theorem tqi : (tBreak D σ H) = (D.bk σ H) := rfl
theorem tqn : (tRet te D σ H) = (te σ H D.rt) := rfl
theorem rqy : (tDrop te D σ H) = (te σ H fun _ H1 => D.nx σ H1) := rfl
theorem tqQ : (tOp r ta tb σ H Q) = (ta σ H fun x H1 => tb σ H1 fun y H2 => r x y H2 Q) := rfl
theorem qqO {R : Bool → Hp → Prop} : (tTest te σ H R) = (te σ H fun x H' => ∃ k, x = .bl k ∧ R k H') := rfl
theorem rd_B {R : Bool → Hp → Prop} : (tB te σ H R) = (te σ H fun x H' => ∃ k, x = .bl k ∧ R k H') := rfl
theorem sqW {R : Bool → Hp → Prop} : (tAnd tt tu σ H R) = (tt σ H fun c H1 => if c = true then tu σ H1 R else R false H1) := rfl
theorem tq5 {R : Bool → Hp → Prop} : (tOr tt tu σ H R) = (tt σ H fun c H1 => if c = true then R true H1 else tu σ H1 R) := rfl
theorem tqa {R : Bool → Hp → Prop} : (tNot tt σ H R) = (tt σ H fun c H1 => R (!c) H1) := rfl
theorem qq5 : (tAndV ta tb σ H Q) = (ta σ H fun x H1 => ∃ c, x = .bl c ∧ if c = true then tb σ H1 Q else Q (.bl false) H1) := rfl
theorem tqO : (tOrV ta tb σ H Q) = (ta σ H fun x H1 => ∃ c, x = .bl c ∧ if c = true then Q (.bl true) H1 else tb σ H1 Q) := rfl
theorem qq4 : (tNotV ta σ H Q) = (ta σ H fun x H1 => ∃ c, x = .bl c ∧ Q (.bl (!c)) H1) := rfl
theorem tq4 : (tIf tt ta tb σ H Q) = (tt σ H fun c H1 => if c = true then ta σ H1 Q else tb σ H1 Q) := rfl
theorem pqj {tc : TE} : (tChain r r' ta tb tc σ H Q) = (ta σ H fun x H1 => tb σ H1 fun y H2 => r x y H2 fun z H3 => ∃ k, z = .bl k ∧ (if k = true then tc σ H3 fun w' H4 => r' y w' H4 Q else Q (.bl false) H3)) := rfl
theorem sqm {R : List V → Hp → Prop} : (tNil σ H R) = (R [] H) := rfl
theorem rqX {R : List V → Hp → Prop} : (tCons te aa σ H R) = (te σ H fun x H1 => aa σ H1 fun xs H2 => R (x :: xs) H2) := rfl
theorem sq4 : (tLst aa σ H Q) = (aa σ H fun xs H1 => xs.length ≤ sizeLine ∧ ∀ p, H1 p = none → Q (.ref p) (upd H1 p (.lst xs))) := rfl
theorem tqC : (tTup aa σ H Q) = (aa σ H fun xs H1 => xs.length ≤ sizeLine ∧ ∀ p, H1 p = none → Q (.ref p) (upd H1 p (.tup xs))) := rfl
theorem rqI {sp : Sp} {dvs : List V} {E : XK} : (tCall sp dvs E aa σ H Q) = (aa σ H fun vs H1 => sp (vs ++ dvs) H1 Q E) := rfl
theorem tq7 {c : List V → Hp → VK → Prop} : (tCB c aa σ H Q) = (aa σ H fun vs H1 => c vs H1 Q) := rfl
theorem tqW {T : String} {m : V → List V → Hp → VK → Prop} : (tBM K T m te aa σ H Q) = (te σ H fun x H1 => tyV K T x H1 ∧ aa σ H1 fun xs H2 => m x xs H2 Q) := rfl
theorem sqJ {T : String} {m : V → List V → Hp → VK → Prop} : (tBM0 K T m te σ H Q) = (te σ H fun x H1 => tyV K T x H1 ∧ m x [] H1 Q) := rfl
theorem tq6 {m : V → Option Int → Option Int → Hp → VK → Prop} {tl th : TO} : (tSl m te tl th σ H Q) = (te σ H fun x H1 => tl σ H1 fun l H2 => th σ H2 fun u H3 => m x l u H3 Q) := rfl
theorem oqt {R : Option Int → Hp → Prop} : (tNoPart σ H R) = (R none H) := rfl
theorem rqJ {R : Option Int → Hp → Prop} : (tPart te σ H R) = (te σ H fun x H1 => ∃ i, x = .int i ∧ R (some i) H1) := rfl
theorem pqv {z : Str} : tyV K "str" (.str z) H ↔ True := ⟨fun _ => trivial, fun _ => rfl⟩
theorem rd_I {C : Int → Int → Prop} {g : Int → Int → V} {i j : Int} : rI C g (.int i) (.int j) H Q ↔ C i j ∧ Q (g i j) H :=
 ⟨fun ⟨_, _, h1, h2, h3⟩ => by cases h1; cases h2; exact h3, fun h => ⟨i, j, rfl, rfl, h⟩⟩
theorem tqT {g : Int → Int → V} {i j : Int} : rI0 g (.int i) (.int j) H Q ↔ Q (g i j) H :=
 ⟨fun ⟨_, _, h1, h2, h3⟩ => by cases h1; cases h2; exact h3, fun h => ⟨i, j, rfl, rfl, h⟩⟩
theorem rqY {i j : Int} : rEq (.int i) (.int j) H Q ↔ Q (.bl (decide (i = j))) H := by
 unfold rEq scal; simp only [true_and, V.int.injEq]
theorem iqR {i j : Str} : rEq (.str i) (.str j) H Q ↔ Q (.bl (decide (i = j))) H := by
 unfold rEq scal; simp only [true_and, V.str.injEq]
theorem rqz {i j : Bool} : rEq (.bl i) (.bl j) H Q ↔ Q (.bl (decide (i = j))) H := by
 unfold rEq scal; simp only [true_and, V.bl.injEq]
theorem nqG {i j : Int} : rNe (.int i) (.int j) H Q ↔ Q (.bl (!decide (i = j))) H := by
 unfold rNe scal; simp only [true_and, V.int.injEq]
theorem rq7 {i j : Str} : rNe (.str i) (.str j) H Q ↔ Q (.bl (!decide (i = j))) H := by
 unfold rNe scal; simp only [true_and, V.str.injEq]
theorem qqT {i j : Bool} : rNe (.bl i) (.bl j) H Q ↔ Q (.bl (!decide (i = j))) H := by
 unfold rNe scal; simp only [true_and, V.bl.injEq]
theorem rqn : rNe .non .non H Q ↔ Q (.bl false) H := ⟨fun h => h.2, fun h => ⟨rfl, h⟩⟩
theorem rqP {i : Str} : rNe (.str i) .non H Q ↔ Q (.bl true) H := ⟨fun h => h.2, fun h => ⟨rfl, h⟩⟩
theorem pqB {i : Str} : rNe .non (.str i) H Q ↔ Q (.bl true) H := ⟨fun h => h.2, fun h => ⟨rfl, h⟩⟩
theorem qqC : rEq .non .non H Q ↔ Q (.bl true) H := ⟨fun h => h.2, fun h => ⟨rfl, h⟩⟩
theorem qqI {i : Str} : rEq (.str i) .non H Q ↔ Q (.bl false) H := ⟨fun h => h.2, fun h => ⟨rfl, h⟩⟩
theorem pqP {i : Str} : rEq .non (.str i) H Q ↔ Q (.bl false) H := ⟨fun h => h.2, fun h => ⟨rfl, h⟩⟩
def NS (x : V) : Prop := x = .non ∨ ∃ z, x = .str z
theorem rqf (hx : NS x) (hy : NS y) : rNe x y H Q ↔ Q (.bl (!decide (x = y))) H := by
 have e : scal x y = true := by
  rcases hx with rfl | ⟨z, rfl⟩ <;> rcases hy with rfl | ⟨z', rfl⟩ <;> rfl
 unfold rNe; rw [e]; simp only [true_and]
theorem sqE {z : Str} {i : Int} : rIx K (.str z) (.int i) H Q ↔ ∃ c, z.length ≤ sizeLine ∧ atI z.cps.toList i = some c ∧ Q (.str ⟨#[c]⟩) H := by
 constructor
 ·rintro (⟨p, xs, j, v, h, _⟩ | ⟨p, xs, j, v, h, _⟩ | ⟨z', j, c, h1, h2, h3, h4, h5⟩)
  ·cases h
  ·cases h
  ·cases h1; cases h2; exact ⟨c, h3, h4, h5⟩
 ·rintro ⟨c, h3, h4, h5⟩
  exact .inr (.inr ⟨z, i, c, rfl, rfl, h3, h4, h5⟩)
theorem tqc {z : Str} {lo hi : Option Int} : rSl K (.str z) lo hi H Q ↔ z.length ≤ sizeLine ∧ Q (.str (Txt.slice z lo hi)) H := by
 constructor
 ·rintro (⟨a, xs, h, _⟩ | ⟨z', h1, h2, h3⟩)
  ·cases h
  ·cases h1; exact ⟨h2, h3⟩
 ·rintro ⟨h2, h3⟩
  exact .inr ⟨z, rfl, h2, h3⟩
end
section
variable {σ : St} {H : Hp} {Q : VK} {K : PySem.W.Frag}
theorem tqb {a : Addr} {lo hi : Option Int} : rSl K (.ref a) lo hi H Q ↔ ∃ xs, SqL K H a xs ∧ ∀ p, H p = none → Q (.ref p) (upd H p (.lst (cutV xs lo hi))) := by
 constructor
 ·rintro (⟨a', xs, h, h2⟩ | ⟨z', h1, _⟩)
  ·cases h; exact ⟨xs, h2⟩
  ·cases h1
 ·rintro ⟨xs, h2⟩
  exact .inl ⟨a, xs, rfl, h2⟩
theorem sqf {p : Addr} {i : Int} : rIx K (.ref p) (.int i) H Q ↔ ∃ xs v, (SqL K H p xs ∨ SqT K H p xs) ∧ atI xs i = some v ∧ Q v H := by
 constructor
 ·rintro (⟨p', xs, j, v, h, h2, h3, h4⟩ | ⟨p', xs, j, v, h, h2, h3, h4⟩ | ⟨z', j, c, h1, _⟩)
  ·cases h; cases h2; exact ⟨xs, v, .inl h3, h4⟩
  ·cases h; cases h2; exact ⟨xs, v, .inr h3, h4⟩
  ·cases h1
 ·rintro ⟨xs, v, h | h, h2⟩
  ·exact .inl ⟨p, xs, i, v, rfl, rfl, h, h2⟩
  ·exact .inr (.inl ⟨p, xs, i, v, rfl, rfl, h, h2⟩)
theorem sqM {a b : Addr} : rAddU K (.ref a) (.ref b) H Q ↔ (∃ xs zs, H a = some (.lst xs) ∧ H b = some (.lst zs) ∧ xs.length + zs.length ≤ sizeLine ∧ ∀ p, H p = none → Q (.ref p) (upd H p (.lst (xs ++ zs)))) ∨
   (∃ xs ys, H a = some (.tup xs) ∧ H b = some (.tup ys) ∧ xs.length + ys.length ≤ sizeLine ∧ ∀ p H', Same H H' → H' p = some (.tup (xs ++ ys)) → Q (.ref p) H') := Iff.rfl
theorem cx_K {CX : CXT} {P : Program} {w : World} {mg : Str → Option Value} {base : Heap} {N : List Str} {qual : Str} {scope : Scope} {f : Addr} {cd : Value} {A : Around} {outer : List Env} {s : Shared} {E : XK} :
  (cxOf CX P w K mg base N qual scope f cd A outer s H E).K = K := rfl
end
def LoopI (J : It) (g : TG) (tb : TS) (D : Ends) (σ : St) (H : Hp) : Prop := ∃ W : Nat → Nat → St → Hp → Prop, (∃ m, W 0 m σ H) ∧ ∀ i m σ H, W i m σ H →
 (J.stop i H ∧ D.nx σ H) ∨ (J.go i H ∧ ∃ N : St → Hp → Prop, (∀ σ' H', N σ' H' → ∃ m', m' < m ∧ W (i + 1) m' σ' H') ∧ ∀ x H', J.yld i H x H' → g x σ H' fun σ2 H2 => tb { D with nx := N, ct := N, bk := D.nx } σ2 H2)
section
variable {σ : St} {H : Hp} {D : Ends} {K : PySem.W.Frag} {te : TE} {g : TG} {tb : TS} {aa : TA}
theorem rq5 : (tFor (iStr te) g tb D σ H) = (te σ H fun x H1 => ∃ z, x = .str z ∧ LoopI (Its z) g tb D σ H1) := rfl
theorem rq8 : (tFor (iList K te) g tb D σ H) = (te σ H fun x H1 => ∃ a, x = .ref a ∧ (∃ xs, SqL K H1 a xs) ∧ LoopI (Itl K a) g tb D σ H1) := rfl
theorem rqo : (tFor (iRng1 aa) g tb D σ H) = (aa σ H fun vs H1 => ∃ j : Int, vs = [.int j] ∧ -(2 ^ 62) ≤ j ∧ j < 2 ^ 62 ∧ LoopI (Itr 0 j.toNat) g tb D σ H1) := rfl
theorem dqp {lo : Int} {n : Nat} (Pv : Nat → St → Hp → Prop) (h0 : Pv 0 σ H)
  (hs : ∀ i σ H, i < n → Pv i σ H → g (.int (lo + i)) σ H fun σ2 H2 => tb { D with nx := Pv (i + 1), ct := Pv (i + 1), bk := D.nx } σ2 H2) (hd : ∀ σ H, Pv n σ H → D.nx σ H) : LoopI (Itr lo n) g tb D σ H := oqu Pv h0 hs hd
end
section
variable {prog : Program} {w : World} {A : Around} {R : Result → Shared → Prop} {s : Shared}
theorem gqn {elt target iter : Expr} {ifs : List Expr} {scope : Scope} {pos : Pos} {it acc : Value} {env : Env} (I : Nat → Shared → Prop)
  (turn : ∀ n s, I n s → wpAny (model prog w) A (pyNext it) (fun r s₁ => match r with
   | none => R (.ok .next) s₁
   | some v => wpAny (model prog w) A (letOwnedTupleGo target it v) (fun _ s₁' => wpAny (model prog w) A (assign target env v) (fun _ s₂ =>
     wpAny (model prog w) A (forIn ifs true fun c r => if r = true then do let ok ← isTrue c env (eval c env); pure (ForInStep.yield ok) else pure (ForInStep.yield r)) (fun ok s₃ =>
      if ok = true then wpAny (model prog w) A (eval elt env) (fun x s₄ =>
       wpAny (model prog w) A (call (.builtin "list.append") [acc, x]) (fun _ s₅ => ∃ m, m < n ∧ I m s₅) (fun _ _ => False) s₄) (fun _ _ => False) s₃
      else ∃ m, m < n ∧ I m s₃) (fun _ _ => False) s₂) (fun _ _ => False) s₁') (fun _ _ => False) s₁) (fun _ _ => False) s)
  (n : Nat) (h : I n s) : codeAny (model prog w) A (.compLoop (.ListComp elt [⟨target, iter, ifs, 0⟩] scope pos) 0 it acc env) R s := by
 refine codeAny_loop rfl I (fun n s hI => ?_) n h
 show wpAny _ A ((compTurn (.ListComp elt [⟨target, iter, ifs, 0⟩] scope pos) 0 it acc env).onRaise (fun x => do noteFrame x env; theTreesLotGoes x)) _ _ s
 refine wpAny_noted ?_
 rw [compTurn_list]
 refine wpAny_bind (wpAny_standAt (wpAny_bind (wpAny_mono (turn n s hI) (fun r s₁ h₁ => ?_) fun _ _ h' => h'.elim)))
 cases r with
 | none => exact wpAny_pure h₁
 | some v =>
  refine wpAny_bind (wpAny_mono h₁ (fun _ s₁' h₁' => wpAny_bind (wpAny_mono h₁' (fun _ s₂ h₂ => wpAny_bind (wpAny_mono h₂ (fun ok s₃ h₃ => ?_) fun _ _ h' => h'.elim)) fun _ _ h' => h'.elim)) fun _ _ h' => h'.elim)
  cases ok with
  | false => exact wpAny_pure ⟨rfl, h₃⟩
  | true =>
   exact wpAny_bind (wpAny_bind (wpAny_mono h₃ (fun x s₄ h₄ => wpAny_bind (wpAny_mono h₄ (fun _ s₅ h₅ => wpAny_pure (wpAny_pure ⟨rfl, h₅⟩)) fun _ _ h' => h'.elim)) fun _ _ h' => h'.elim))
end
def compCx (X : Cx) (N' : List Str) (scope : Scope) (cl : List (Str × Addr)) (s : Shared) (H : Hp) (fp : List Addr) : Cx :=
 { X with N := N', s₀ := s, H₀ := H, env := compEnvC scope cl s.heap.objs.size X.env, outer := X.stack, stack := X.stack, ex := fp, fn := fun _ => false, pn := [], xe := fun _ _ => False }
inductive Frees (X : Cx) (rs : Scope) (cl : List (Str × Addr)) : List Str → List Nat → Prop where
 | nil : Frees X rs cl [] []
 | cons {y : Str} {i : Nat} {fx : List Str} {fr : List Nat} (h1 : X.N[i]? = some y) (h2 : X.env.kindOf y = some .cell) (h3 : rs.names.lookup y = some .cell) (h4 : cl.lookup y = X.env.cells.lookup y) (r : Frees X rs cl fx fr) : Frees X rs cl (y :: fx) (i :: fr)
def frV (σ : St) (fr : List Nat) : St := fr.map fun i => (σ[i]?).getD none
theorem Frees.len {X : Cx} {rs : Scope} {cl : List (Str × Addr)} {fx : List Str} {fr : List Nat} (F : Frees X rs cl fx fr) : fr.length = fx.length := by
 induction F with
 | nil => rfl
 | cons _ _ _ _ _ ih => simp [ih]
theorem Frees.at {X : Cx} {rs : Scope} {cl : List (Str × Addr)} {σ : St} : ∀ {fx : List Str} {fr : List Nat}, Frees X rs cl fx fr → ∀ (j : Nat) (y : Str) (v : V), fx[j]? = some y → (frV σ fr)[j]? = some (some v) →
  ∃ i : Nat, X.N[i]? = some y ∧ σ[i]? = some (some v) ∧ X.env.kindOf y = some .cell ∧ rs.names.lookup y = some .cell ∧ cl.lookup y = X.env.cells.lookup y
 | _, _, .nil, j, y, v, h, _ => by simp at h
 | _, _, .cons (y := z) (i := i) h1 h2 h3 h4 r, 0, y, v, h, hv => by
  simp only [List.getElem?_cons_zero, Option.some.injEq] at h
  subst h
  simp only [frV, List.map_cons, List.getElem?_cons_zero, Option.some.injEq] at hv
  refine ⟨i, h1, ?_, h2, h3, h4⟩
  cases e : σ[i]? with
  | none => rw [e] at hv; cases hv
  | some o => rw [e] at hv; exact congrArg some hv
 | _, _, .cons h1 h2 h3 h4 r, j + 1, y, v, h, hv => by
  simp only [List.getElem?_cons_succ] at h
  simp only [frV, List.map_cons, List.getElem?_cons_succ] at hv
  exact r.at j y v h hv
theorem Frees.mem {X : Cx} {rs : Scope} {cl : List (Str × Addr)} : ∀ {fx : List Str} {fr : List Nat}, Frees X rs cl fx fr → ∀ y ∈ fx, X.env.kindOf y = some .cell ∧ cl.lookup y = X.env.cells.lookup y
 | _, _, .nil, y, h => by simp at h
 | _, _, .cons h1 h2 h3 h4 r, y, h => by
  rcases List.mem_cons.mp h with rfl | h
  ·exact ⟨h2, h4⟩
  ·exact r.mem y h
section
variable {X : Cx} {pins : List (Addr × Obj)} {σ : St} {H1 : Hp} {s3 : Shared} {x : Str} {fx : List Str} {fr : List Nat} {scope : Scope} {cl : List (Str × Addr)} {fp : List Addr}
theorem qqZ (I : Inv X pins σ H1 s3) (hkind : scope.kind = .function) (hcl : ∀ y c, cl.lookup y = some c → X.env.cells.lookup y = some c)
  (F : Frees X (relabel scope X.env) cl fx fr) (hfx : ((relabel scope X.env).names.all fun p => if (p.2 == .cell || p.2 == .free) then fx.contains p.1 else true) = true)
  (ffp : ∀ b ∈ fp, FpOk X pins H1 b) (flt : ∀ b ∈ fp, b < s3.heap.objs.size) : (compCx X (x :: fx) scope cl s3 H1 fp).Ok where
 mod := I.ok.mod
 kind := hkind
 glob := I.ok.glob
 blt := I.ok.blt
 above := Nat.le_refl _
 inj := fun y z c h1 h2 => I.ok.inj y z c (hcl y c h1) (hcl z c h2)
 has := fun y h => by
  have h : (relabel scope X.env).names.lookup y = some .cell ∨ (relabel scope X.env).names.lookup y = some .free := h
  have key : y ∈ fx := by
   rcases h with h | h
   ·have q := List.all_eq_true.mp hfx _ (PySem.mem_of_lookup h)
    simpa using q
   ·have q := List.all_eq_true.mp hfx _ (PySem.mem_of_lookup h)
    simpa using q
  obtain ⟨k1, k2⟩ := F.mem y key
  obtain ⟨c, e⟩ := I.ok.has y (.inl k1)
  exact ⟨c, k2.trans e⟩
 cab := fun y c h => by cases (show false = true from h)
 hd := I.ok.hd
 frames := I.ok.frames
 stk := .inl rfl
 exf := fun b hb => ⟨Nat.ne_of_lt (flt b hb), fun y c e => (ffp b hb).2.2.2.2.1 y c (hcl y c e)⟩
 bs := I.bs
 bsz := Nat.le_trans I.ok.bsz I.sz
 noex := fun b o e hb => by
  rcases (ffp b hb).2.2.2.1 with z | z
  ·exact I.ok.noex b o e z
  ·exact absurd (Nat.lt_of_lt_of_le (Heap.lt_size (I.ok.bs b o e).1) z) (Nat.lt_irrefl _)
 exfs := fun b hb z => by
  rcases List.mem_cons.mp (I.stkSub b z) with q | q
  ·exact (ffp b hb).2.1 q
  ·exact (ffp b hb).2.2.1 q
 funs := I.stack
 frf := I.stkFree
theorem mq0 (I : Inv X pins σ H1 s3) (hkind : scope.kind = .function) (hcl : ∀ y c, cl.lookup y = some c → X.env.cells.lookup y = some c)
  (F : Frees X (relabel scope X.env) cl fx fr) (hfx : ((relabel scope X.env).names.all fun p => if (p.2 == .cell || p.2 == .free) then fx.contains p.1 else true) = true)
  (ffp : ∀ b ∈ fp, FpOk X pins H1 b) (flt : ∀ b ∈ fp, b < s3.heap.objs.size) {h1 : Heap} {t : Nat} {m : Str → Option Value} (hn : h1.Ns s3.heap.objs.size m)
  (keep : ∀ b u, s3.heap.get? b = some u → h1.get? b = some u) : Inv (compCx X (x :: fx) scope cl s3 H1 fp) [] (none :: frV σ fr) H1 { s3 with heap := h1, toks := t } := by
 refine ⟨qqZ I hkind hcl F hfx ffp flt, rfl, I.bare, Un.kept keep, ⟨m, hn, fun i y v e1 e2 e3 => ?_⟩, fun y c e => ?_, I.hok.fresh (Nat.le_refl _), fun y c e => I.freeC y c (hcl y c e), fun p hp => absurd (show p ∈ ([] : List (Addr × Obj)) from hp) (by simp), I.hok.kept keep, ?_⟩
 ·cases i with
  | zero => simp at e2
  | succ j =>
   obtain ⟨i0, k1, k2, k3, k4, k5⟩ := F.at (σ := σ) j y v (by simpa [compCx] using e1) (by simpa using e2)
   obtain ⟨m0, hn0, hl0⟩ := I.loc
   obtain ⟨u, r, l⟩ := hl0 i0 y v k1 k2 (.inr (.inl k3))
   refine ⟨u, r, ?_⟩
   rcases l with ⟨z, _⟩ | ⟨_, c, e, o, ho, hd⟩
   ·rw [k3] at z; cases z
   ·exact .inr ⟨.inl k4, c, k5.trans e, o, keep c o ho, hd⟩
 ·obtain ⟨v, o, ho, hd⟩ := I.cell y c (hcl y c e)
  exact ⟨v, o, keep c o ho, hd⟩
 ·show (none :: frV σ fr).length = (x :: fx).length
  simp [frV, F.len]
theorem jqQ {N' : List Str} {pins' : List (Addr × Obj)} {σ' : St} {H2 : Hp} {s' : Shared} {h' : Heap} (I : Inv X pins σ H1 s3) (J : Inv (compCx X N' scope cl s3 H1 fp) pins' σ' H2 s') (ffp : ∀ b ∈ fp, FpOk X pins H1 b)
  (sb : Heap.SameBut s3.heap.objs.size s'.heap h') : Inv X pins σ H2 { s' with heap := h' } := by
 have k : ∀ b u, b ≠ s3.heap.objs.size → s'.heap.get? b = some u → h'.get? b = some u := fun b u hb e => sb.extBut b u hb e
 have lt : ∀ b u, s3.heap.get? b = some u → b ≠ s3.heap.objs.size := fun b u e => Nat.ne_of_lt (Heap.lt_size e)
 have u : Un (frs X.stack) fp H1 H2 s3.heap s'.heap := J.base
 have u' : Un (frs X.stack) fp H1 H2 s3.heap h' :=
  ⟨fun b o q n hb hx => k b o (lt b o q) (u.keep b o q n hb hx), fun b o q n hb hx => by
    obtain ⟨sl, e⟩ := u.slot b o q n hb hx
    exact ⟨sl, k b _ (lt b o q) e⟩, u.free, fun b o q hx => by
    obtain ⟨o', e⟩ := u.there b o q hx
    exact ⟨o', k b _ (lt b o q) e⟩, u.tups, u.frzs, u.tbls⟩
 have nC : H2 s3.heap.objs.size = none := J.free
 have hok : HOk X.prog X.w H2 h' := fun b uo e => by
  refine (J.hok b uo e).stay (fun c v hc q => k c v ?_ q) (fun _ q => q) fun _ _ q => q
  rintro rfl
  rcases hc with z | z
  ·rw [← z, nC] at e; cases e
  ·rw [nC] at z; cases z
 have os : s'.os = s3.os := J.os
 have bare := J.bare
 obtain ⟨hh, g, d, t, os'⟩ := s'
 obtain rfl : os' = s3.os := os
 have fin := I.call (h' := h') (g' := g) (d' := d) (t' := t) (ch := fp) u' hok bare fun b hb => by
  obtain ⟨f0, f1, f2, f3, f4, f5⟩ := ffp b hb
  exact ⟨f3, f1, f4, f5⟩
 exact fin
end
def PF (X : Cx) (ifs : List Expr) (t : TT) : Prop :=
 ∀ (pins : List (Addr × Obj)) (s : Shared) (σ : St) (H : Hp) (Q : Bool → Hp → Prop), Inv X pins σ H s → t σ H Q →
  wpAny (model X.prog X.w) X.A (forIn ifs true fun c r => if r = true then do let ok ← isTrue c X.env (eval c X.env); pure (ForInStep.yield ok) else pure (ForInStep.yield r)) (TP X pins σ Q) X.xe s
def tYes : TT := fun _ H Q => Q true H
theorem iqB {X : Cx} : PF X [] tYes := fun _ _ _ H _ I h => wpAny_tests_nil ⟨H, I, h⟩
def CompI (J : It) (p : Addr) (fv : St) (tt : TT) (te : TE) (Q : VK) (H1 : Hp) : Prop :=
 ∃ W : Nat → Nat → List V → Hp → Prop, (∃ m, W 0 m [] (upd H1 p (.lst []))) ∧ ∀ i m ys H2, W i m ys H2 → H2 p = some (.lst ys) ∧
  ((J.stop i H2 ∧ Q (.ref p) H2) ∨ (J.go i H2 ∧ ys.length < sizeLine ∧ ∀ x H3, J.yld i H2 x H3 → tt (some x :: fv) H3 fun b H4 =>
   if b = true then te (some x :: fv) H4 fun y H5 => H5 p = some (.lst ys) ∧ ∃ m', m' < m ∧ W (i + 1) m' (ys ++ [y]) (upd H5 p (.lst (ys ++ [y])))
   else ∃ m', m' < m ∧ W (i + 1) m' ys H4))
def tComp (wi : TI) (fr : List Nat) (tt : TT) (te : TE) : TE := fun σ H Q => wi σ H fun J H1 => ∀ p, H1 p = none → CompI J p (frV σ fr) tt te Q H1
section
variable {X : Cx} {elt iter : Expr} {x : Str} {px pos : Pos} {ifs : List Expr} {scope : Scope} {cl : List (Str × Addr)} {fx : List Str} {fr : List Nat} {wi : TI} {tt : TT} {te : TE}
theorem mqy {pins : List (Addr × Obj)} {σ : St} {H3 : Hp} {s3 : Shared} {it p : Addr} {fp : List Addr} {tn : Nat → Heap → Prop} {J : It} {Q : VK} {W : Nat → Nat → List V → Hp → Prop} {m0 t : Nat} {h₁ : Heap} {m : Str → Option Value} {RR : Result → Shared → Prop}
  (hc : X.calm = true) (hkind : scope.kind = .function) (hx : scope.names.lookup x = some .local) (hnd : (x :: fx).Nodup)
  (hcl : ∀ y c, cl.lookup y = some c → X.env.cells.lookup y = some c) (F : Frees X (relabel scope X.env) cl fx fr)
  (hfx : ((relabel scope X.env).names.all fun p => if (p.2 == .cell || p.2 == .free) then fx.contains p.1 else true) = true)
  (ht : ∀ s H fp, PF (compCx X (x :: fx) scope cl s H fp) ifs tt) (he : ∀ s H fp, PE (compCx X (x :: fx) scope cl s H fp) elt te)
  (I3 : Inv X pins σ H3 s3) (T : Turn X.prog X.w X.K (.Name x px) J fp it tn) (st3 : tn 0 s3.heap) (ffp : ∀ b ∈ fp, FpOk X pins H3 b) (flt3 : ∀ b ∈ fp, b < s3.heap.objs.size)
  (w0 : W 0 m0 [] H3) (turn : ∀ i m ys H2, W i m ys H2 → H2 p = some (.lst ys) ∧
   ((J.stop i H2 ∧ Q (.ref p) H2) ∨ (J.go i H2 ∧ ys.length < sizeLine ∧ ∀ x H3, J.yld i H2 x H3 → tt (some x :: frV σ fr) H3 fun b H4 =>
    if b = true then te (some x :: frV σ fr) H4 fun y H5 => H5 p = some (.lst ys) ∧ ∃ m', m' < m ∧ W (i + 1) m' (ys ++ [y]) (upd H5 p (.lst (ys ++ [y])))
    else ∃ m', m' < m ∧ W (i + 1) m' ys H4)))
  (hns : h₁.Ns s3.heap.objs.size m) (keep1 : ∀ b u, s3.heap.get? b = some u → h₁.get? b = some u)
  (fin : ∀ s6 H5 o, Inv (compCx X (x :: fx) scope cl s3 H3 fp) [] (o :: frV σ fr) H5 s6 → Q (.ref p) H5 → RR (.ok .next) s6) :
  codeAny (model X.prog X.w) X.A (.compStart (.ListComp elt [⟨.Name x px, iter, ifs, 0⟩] scope pos) 0 (.ref it) (.ref p) (compEnvC scope cl s3.heap.objs.size X.env))
   RR { s3 with heap := h₁, toks := t } := by
 have I4 := mq0 (x := x) (t := t) I3 hkind hcl F hfx ffp flt3 hns keep1
 have st4 : tn 0 h₁ := T.keep _ _ _ st3 fun b hb o e => keep1 b o e
 have fp0 : ∀ b ∈ fp, H3 b = none := fun b hb => (ffp b hb).1
 have hcal : (compCx X (x :: fx) scope cl s3 H3 fp).calm = true := hc
 have stat : ∀ {H' : Hp}, (∀ b ∈ fp, H' b = none) → ∀ b ∈ fp, FpOk (compCx X (x :: fx) scope cl s3 H3 fp) [] H' b := fun {H'} hn b hb => by
  obtain ⟨f0, f1, f2, f3, f4, f5⟩ := ffp b hb
  exact ⟨hn b hb, Nat.ne_of_lt (flt3 b hb), I4.ok.exfs b hb, .inl hb, fun y c e => f4 y c (hcl y c e), fun q hq => absurd (show q ∈ ([] : List (Addr × Obj)) from hq) (by simp)⟩
 have hxl : (relabel scope X.env).names.lookup x = some .local := lookup_relabel_local hx
 have pg : PG (compCx X (x :: fx) scope cl s3 H3 fp) (.Name x px) (gName 0) := dqE (i := 0) hnd rfl (.inl hxl) (.inr hxl)
 have loop : codeAny (model X.prog X.w) X.A (.compLoop (.ListComp elt [⟨.Name x px, iter, ifs, 0⟩] scope pos) 0 (.ref it) (.ref p) (compEnvC scope cl s3.heap.objs.size X.env))
    RR { s3 with heap := h₁, toks := t } := by
  refine gqn (fun n s' => ∃ i ys H' o, Inv (compCx X (x :: fx) scope cl s3 H3 fp) [] (o :: frV σ fr) H' s' ∧ tn i s'.heap ∧ (∀ b ∈ fp, H' b = none) ∧ W i n ys H') ?_ m0 ⟨0, [], _, none, I4, st4, fp0, w0⟩
  rintro n s5 ⟨i, ys, H5, o, I5, st5, fr5, w5⟩
  obtain ⟨hp5, alt⟩ := turn i n ys H5 w5
  rcases alt with ⟨stop, qn⟩ | ⟨go, hlen, step⟩
  ·refine thn (T.done (compCx X (x :: fx) scope cl s3 H3 fp) rfl rfl rfl hcal i [] s5 (o :: frV σ fr) H5 _ I5 (stat fr5) st5 stop) fun r s6 W' => ?_
   obtain ⟨hr, I6⟩ := W'
   subst hr
   exact fin s6 H5 o I6 qn
  ·refine thn (T.item (compCx X (x :: fx) scope cl s3 H3 fp) rfl rfl rfl hcal i [] s5 (o :: frV σ fr) H5 _ I5 (stat fr5) st5 go) fun r s6 W' => ?_
   obtain ⟨u, hr, h6⟩ := W'
   subst hr
   refine thn h6 fun _ s7 W' => ?_
   obtain ⟨y7, H7, I7, r7, yl7, st7, fr7⟩ := W'
   have I7' := I7.pinned (stat fr7) (T.obj _ _ st7)
   have back : ∀ {σ' : St} {H' : Hp} {s' : Shared}, Inv (compCx X (x :: fx) scope cl s3 H3 fp) ([] ++ pinsAt fp s7.heap) σ' H' s' → tn (i + 1) s'.heap ∧ ∀ b ∈ fp, H' b = none := fun {σ' H' s'} I' => by
    refine ⟨T.keep _ _ _ st7 fun b hb o e => (I'.pin (b, o) (List.mem_append_right _ (List.mem_append_right _ (cqG hb e)))).1, fun b hb => ?_⟩
    obtain ⟨o, e, d⟩ := T.obj _ _ st7 b hb
    exact (I'.pin (b, o) (List.mem_append_right _ (List.mem_append_right _ (cqG hb e)))).2.1
   refine thn (pg _ s7 _ H7 y7 u (fun σ' H' => σ' = some y7 :: frV σ fr ∧ H' = H7) I7' r7 ⟨rfl, rfl⟩) fun _ s8 W' => ?_
   obtain ⟨σ8, H8, I8, e8, e8'⟩ := W'
   subst e8 e8'
   refine thn (ht s3 H3 fp _ s8 _ _ _ I8 (step y7 _ yl7)) fun b s9 W' => ?_
   obtain ⟨H9, I9, q9⟩ := W'
   cases b with
   | false =>
    rw [if_neg Bool.false_ne_true] at q9 ⊢
    obtain ⟨m', hm, w9⟩ := q9
    exact ⟨m', hm, i + 1, ys, H9, some y7, I9.unpinned, (back I9).1, (back I9).2, w9⟩
   | true =>
    rw [if_pos rfl] at q9 ⊢
    refine thn (he s3 H3 fp _ s9 _ H9 _ I9 q9) fun u10 s10 W' => ?_
    obtain ⟨y10, H10, I10, r10, hp10, m', hm, w10⟩ := W'
    refine thn (cqn _ s10 _ H10 (.ref p) [y10] (.ref p) [u10] (fun _ H' => H' = upd H10 p (.lst (ys ++ [y10]))) I10 rfl (.cons r10 .nil) ⟨p, ys, y10, rfl, rfl, hp10, hlen, rfl⟩) fun _ s11 W' => ?_
    obtain ⟨_, H11, I11, _, e11⟩ := W'
    subst e11
    exact ⟨m', hm, i + 1, ys ++ [y10], _, some y7, I11.unpinned, (back I11).1, (back I11).2, w10⟩
 exact codeAny_compStart_list loop (T.self _ 0 _ _ _ st4 loop)
theorem hqC (hc : X.calm = true) (hclos : closureFor scope X.env = pure cl) (hcell : ∀ y ∈ scope.names, y.2 ≠ .cell) (hkind : scope.kind = .function)
  (hnames : ∀ y ∈ scope.names, y.2 = .local → scope.names.lookup y.1 = some .local) (hx : scope.names.lookup x = some .local) (hnd : (x :: fx).Nodup)
  (hk : (cl.all fun q => fx.contains q.1) = true) (F : Frees X (relabel scope X.env) cl fx fr)
  (hfx : ((relabel scope X.env).names.all fun p => if (p.2 == .cell || p.2 == .free) then fx.contains p.1 else true) = true)
  (hi : PI X (.Name x px) iter wi) (ht : ∀ s H fp, PF (compCx X (x :: fx) scope cl s H fp) ifs tt) (he : ∀ s H fp, PE (compCx X (x :: fx) scope cl s H fp) elt te)
  (hs : ∀ x, foldedSetIterable iter X.env x = pure x := by intro _; rfl) :
  PE X (.ListComp elt [⟨.Name x px, iter, ifs, 0⟩] scope pos) (tComp wi fr tt te) := by
 intro pins s σ H Q I h
 have hcl : ∀ y c, cl.lookup y = some c → X.env.cells.lookup y = some c := fun y c e => by
  have q := List.all_eq_true.mp hk _ (PySem.mem_of_lookup e)
  rw [← (F.mem y (by simpa using q)).2]
  exact e
 rw [eval_ListComp]
 refine wpAny_comprehension_free (use := none) rfl hs hclos hkind hnames ?_
 refine thn (hi pins s σ H _ I h) fun v s1 h1 => thn h1 fun itv s2 h2 => ?_
 obtain ⟨it, fp, tn, J, H2, e, I2, T, st2, f2, q2⟩ := h2
 subst e
 have hp0 : H2 s2.heap.objs.size = none := I2.hok.fresh (Nat.le_refl _)
 obtain ⟨W, ⟨m0, w0⟩, turn⟩ := q2 _ hp0
 have flt : ∀ b ∈ fp, b < s2.heap.objs.size := fun b hb => by
  obtain ⟨o, e, _⟩ := T.obj _ _ st2 b hb
  exact Heap.lt_size e
 refine wpAny_newObj_type (wpAny_newFunctionEnv hcell (by intro y hy; simp at hy) (fun h₁ hns₁ hsb₁ => ?_) hkind)
 dsimp only at hns₁ hsb₁ ⊢
 have hlay : ∀ b u, s2.heap.get? b = some u → (s2.heap.push { cls := .type "list", dict := none, data := .seq ([] : List Value).toArray }).get? b = some u := fun b u e => Heap.get?_push_of_some _ e
 have hnew : (s2.heap.push { cls := .type "list", dict := none, data := .seq ([] : List Value).toArray }).get? s2.heap.objs.size = some { cls := .type "list", dict := none, data := .seq ([] : List Value).toArray } := Heap.get?_push_size _ rfl
 have hsz : (s2.heap.push { cls := .type "list", dict := none, data := .seq ([] : List Value).toArray }).objs.size = s2.heap.objs.size + 1 := Heap.size_push _ _
 generalize hHH : s2.heap.push { cls := .type "list", dict := none, data := .seq ([] : List Value).toArray } = HH at hns₁ hsb₁ hlay hnew hsz ⊢
 have I3 : Inv X pins σ (upd H2 s2.heap.objs.size (.lst [])) { s2 with heap := HH, toks := s2.toks } :=
  I2.laid (t' := s2.toks) (o := .lst []) hlay (Nat.le_refl _) ⟨Nat.zero_le _, [], 0, .nil, hnew⟩
 have ffp : ∀ b ∈ fp, FpOk X pins (upd H2 s2.heap.objs.size (.lst [])) b := fun b hb => by
  obtain ⟨f0, fr'⟩ := f2 b hb
  exact ⟨by rw [aqA (Nat.ne_of_lt (flt b hb))]; exact f0, fr'⟩
 have keep1 : ∀ b u, HH.get? b = some u → h₁.get? b = some u := fun b u e => hsb₁.extBut b u (Nat.ne_of_lt (Heap.lt_size e)) (Heap.get?_push_of_some _ e)
 exact mqy (s3 := { s2 with heap := HH, toks := s2.toks }) hc hkind hx hnd hcl F hfx ht he I3 T (T.keep _ _ _ st2 fun b hb o e => hlay b o e) ffp (fun b hb => by show b < HH.objs.size; rw [hsz]; exact Nat.lt_succ_of_lt (flt b hb)) w0 turn hns₁ keep1 fun s6 H5 o I6 qn => by
  obtain ⟨m, hn6, _⟩ := id I6.loc
  exact ⟨m, hn6, fun h' sb => ⟨.ref _, H5, jqQ I3 I6 ffp sb, rfl, qn⟩⟩
end
section
variable {p : Addr} {fv : St} {te : TE} {Q : VK} {H1 : Hp}
theorem lq6 {z : Str} (hz : z.length ≤ sizeLine) (hp : H1 p = none) (f : Nat → V)
  (he : ∀ c, c ∈ z.cps.toList → ∀ (H' : Hp) (R : VK), (∀ H'', Same H' H'' → R (f c) H'') → te (some (.str ⟨#[c]⟩) :: fv) H' R)
  (hQ : ∀ H', Same H1 H' → H' p = some (.lst (z.cps.toList.map f)) → Q (.ref p) H') : CompI (Its z) p fv tYes te Q H1 := by
 have hl : z.cps.toList.length = z.length := by simp [Str.length]
 refine ⟨fun i m ys H2 => m = z.length - i ∧ i ≤ z.length ∧ ys = (z.cps.toList.take i).map f ∧ H2 p = some (.lst ys) ∧ Same H1 H2, ⟨z.length, by simp, Nat.zero_le _, by simp, aqk, fun b o e => by rw [aqA (aqx e hp)]; exact e⟩, ?_⟩
 rintro i m ys H2 ⟨rfl, hi, rfl, hp2, sm⟩
 refine ⟨hp2, ?_⟩
 by_cases hlt : i < z.length
 ·refine .inr ⟨hlt, ?_, fun x H3 y => ?_⟩
  ·rw [List.length_map, List.length_take]; lia
  ·obtain ⟨rfl, c, hc, rfl⟩ := y
   unfold tYes
   dsimp only
   rw [if_pos rfl]
   refine he c (List.mem_of_getElem? hc) _ _ fun H5 s5 => ⟨s5 _ _ hp2, z.length - (i + 1), by lia, rfl, hlt, ?_, aqk, fun b o e => ?_⟩
   ·rw [List.take_add_one, hc, List.map_append]; rfl
   ·rw [aqA (aqx e hp)]; exact s5 _ _ (sm _ _ e)
 ·have e : i = z.length := by lia
  subst e
  refine .inl ⟨Nat.le_refl _, hQ H2 sm ?_⟩
  rw [hp2, ← hl, List.take_length]
end
section
variable {σ : St} {H : Hp} {Q : VK} {K : PySem.W.Frag} {tl te : TE} {tt : TT} {fr : List Nat}
theorem rq3 : frV σ [] = [] := rfl
theorem pqb {i : Nat} {r : List Nat} : frV σ (i :: r) = (σ[i]?).getD none :: frV σ r := rfl
theorem sqg {z : Str} {p : Addr} : rJoin K (.str z) [.ref p] H Q ↔ ∃ ys : List Str, SqL K H p (ys.map V.str) ∧ (ys.map (·.length)).sum + ys.length * z.length ≤ 16777216 ∧ Q (.str (Txt.join z ys)) H := by
 constructor
 ·rintro ⟨z', p', ys, h1, h2, h3⟩
  cases h1; cases h2
  exact ⟨ys, h3⟩
 ·rintro ⟨ys, h⟩
  exact ⟨z, p, ys, rfl, rfl, h⟩
theorem pq3 : (tComp (iStr tl) fr tt te σ H Q) = (tl σ H fun x H1 => ∃ z, x = .str z ∧ ∀ p, H1 p = none → CompI (Its z) p (frV σ fr) tt te Q H1) := rfl
theorem pq4 : (tComp (iList K tl) fr tt te σ H Q) = (tl σ H fun x H1 => ∃ a, x = .ref a ∧ (∃ xs, SqL K H1 a xs) ∧ ∀ p, H1 p = none → CompI (Itl K a) p (frV σ fr) tt te Q H1) := rfl
end
section
variable {X : Cx} {K : PySem.W.Frag}
theorem aqF (h : X.K = K) : OpR X (binaryOp .Add) (rAddU K) := by subst h; exact nqJ
theorem aqf (h : X.K = K) : IxR X (rIx K) := by subst h; exact sqz
theorem lqr (h : X.K = K) : SlR X (rSl K) := by subst h; exact sqr
theorem aqI (h : X.K = K) : CallR X (.builtin "len") (rLenU K) := by subst h; exact oqM
theorem gqR (h : X.K = K) : MtR X "str.join" (rJoin K) := by subst h; exact rqb
variable {o e : Expr} {es : List Expr} {to : TE} {t : TA} {name : Str} {apos cpos : Pos} {T id : String} {r : V → List V → Hp → VK → Prop}
theorem lqB (h : X.K = K) (pa : PlainAttrs T) (slot : Slot T name id) (hty : typeOf (.builtin id) = pure (.type "method_descriptor")) (hm : MtR X id r) (ho : PE X o to)
  (hbase : attributeBase o name X.env (eval o X.env) = eval o X.env := by rfl) (hline : (apos.endLine == cpos.line) = true := by rfl) : PE X (.Call (.Attribute o name apos) [] [] cpos) (tBM0 K T r to) := by
 subst h; exact sq3 pa slot hty hm ho hbase hline
theorem cqo (h : X.K = K) (pa : PlainAttrs T) (slot : Slot T name id) (hty : typeOf (.builtin id) = pure (.type "method_descriptor")) (hm : MtR X id r) (ho : PE X o to) (ha : PA X (e :: es) t)
  (hbase : attributeBase o name X.env (eval o X.env) = eval o X.env := by rfl)
  (hfew : ((backTo cpos (starEach (e :: es) X.env)).all (fun x => !x.1) && (backToKw cpos (keywordEach [] X.env)).all (fun x => x.1.isSome)
   && decide ((e :: es).length + ([] : List Keyword).length + (if ([] : List Keyword).isEmpty then 0 else 1) < 30)) = true := by rfl)
  (hline : (apos.endLine == cpos.line) = true := by rfl) (hs : starEach (e :: es) X.env = (false, eval e X.env) :: starEach es X.env := by rfl) (hplain : (backTo cpos (starEach es X.env)).any (·.1) = false := by rfl) :
  PE X (.Call (.Attribute o name apos) (e :: es) [] cpos) (tBM K T r to t) := by
 subst h; exact tqR pa slot hty hm ho ha hbase hfew hline hs hplain
end
structure FunD (K : PySem.W.Frag) (x qual : Str) (st : Stmt) (f : Addr) (fd : FuncData) (T : Addr) : Prop where
 ex : ∃ (oc : Value) (od : Option Addr) (kV doc pm : Value) (an : Option Addr) (cdv ct : Value) (osl : Array (Option Value)),
  fd = PySem.W.fnOf x qual (defArgs st) (defBody st) (defScope st) (.ref T) kV doc pm an cdv ct ∧ K.lookup f = some ⟨oc, od, .func fd, osl⟩ ∧ PySem.W.codeIn K cdv qual = true
 kp : PySem.W.keepIn K (.ref f) = true
section
variable {P : Program} {w : World} {K : PySem.W.Frag} {mg : Str → Option Value} {base : Heap}
theorem FunD.ok {x qual : Str} {st : Stmt} {f T : Addr} {fd : FuncData} {N ps : List Str} {k : Nat} {sp : Sp} (F : FunD K x qual st f fd T) (S : FnScope N ps (defScope st)) (len : ∀ vs H Q E, sp vs H Q E → vs.length = ps.length)
  (hbody : ∀ (cdv : Value) (A : Around) (outer : List Env) (s : Shared) (H : Hp) (vs : List V) (Q : VK) (E : XK), Room k (A.deeper (envOfC qual (defScope st) s.heap.objs.size f cdv)) → sp vs H Q E →
   ∃ t, PSs (cxOf CX0 P w K mg base N qual (defScope st) f cdv A outer s H E).nox (defBody st) t ∧ t { nx := fun _ H' => Q .non H', rt := Q } (start N vs) H) : FnOk P w K mg base CX0 (k + 1) f fd ps sp := by
 obtain ⟨oc, od, kV, doc, pm, an, cdv, ct, osl, rfl, lk, hcd⟩ := F.ex
 refine tqv lk hcd S len fun A outer s H vs Q E hr hsp => ?_
 obtain ⟨t, h, q⟩ := hbody cdv A outer s H vs Q E hr hsp
 exact ⟨t, h.nox, q⟩
theorem FunD.binds {x qual : Str} {st : Stmt} {f T : Addr} {fd : FuncData} {ps : List Str} {ds : List Value} {oc : Value} {od : Option Addr} {items : Array Value} {n : Nat} {sl : Array (Option Value)} (F : FunD K x qual st f fd T) (hT : K.lookup T = some ⟨oc, od, .seq items n, sl⟩)
  (h : ∀ (kV doc pm : Value) (an : Option Addr) (cdv ct : Value) (us : List Value), (us ++ ds).length = ps.length → ∃ k : Option (Array Value) → Sem (List (Str × Value)),
   bindArgs (PySem.W.fnOf x qual (defArgs st) (defBody st) (defScope st) (.ref T) kV doc pm an cdv ct) ⟨us, []⟩ = seqItems? (.ref T) >>= k ∧ k (some items) = pure (ps.zip (us ++ ds))) : Binds K fd ps ds := by
 obtain ⟨oc', od', kV, doc, pm, an, cdv, ct, osl, rfl, lk, hcd⟩ := F.ex
 intro s us X hl
 obtain ⟨k, h1, h2⟩ := h kV doc pm an cdv ct us hl
 exact BindsTo.of_defaults (T := T) rfl (X T _ hT) rfl h1 h2
theorem nqS {x qual : Str} {st : Stmt} {f T : Addr} {oc : Value} {od an : Option Addr} {osl : Array (Option Value)} {kV doc pm cdv ct : Value} (l : K.lookup f = some ⟨oc, od, .func (PySem.W.fnOf x qual (defArgs st) (defBody st) (defScope st) (.ref T) kV doc pm an cdv ct), osl⟩)
  (c : PySem.W.codeIn K cdv qual = true) (k : PySem.W.keepIn K (.ref f) = true) : FunD K x qual st f (PySem.W.fnOf x qual (defArgs st) (defBody st) (defScope st) (.ref T) kV doc pm an cdv ct) T := ⟨⟨oc, od, kV, doc, pm, an, cdv, ct, osl, rfl, l, c⟩, k⟩
end
theorem hqB {c : TT} {tb : TS} {D : Ends} {σ : St} {H : Hp} (W : Nat → St → Hp → Prop) (m0 : Nat) (h0 : W m0 σ H)
  (hs : ∀ m σ H, W m σ H → c σ H fun b H1 => if b = true then ∃ N : St → Hp → Prop, (∀ σ' H', N σ' H' → ∃ m', m' < m ∧ W m' σ' H') ∧ tb { D with nx := N, ct := N, bk := D.nx } σ H1 else D.nx σ H1) : tWhile c tb D σ H := ⟨W, ⟨m0, h0⟩, hs⟩
section
variable {σ : St} {H : Hp} {Q : VK}
theorem uqa {r : V → Hp → VK → Prop} {ta : TE} : (tUn r ta σ H Q) = (ta σ H fun x H1 => r x H1 Q) := rfl
theorem rd_U {g : Int → V} {i : Int} : rU g (.int i) H Q ↔ Q (g i) H := ⟨fun ⟨_, h1, h2⟩ => by cases h1; exact h2, fun h => ⟨i, rfl, h⟩⟩
theorem tqe {l : Addr} {y : V} : rAppend (.ref l) [y] H Q ↔ ∃ xs, H l = some (.lst xs) ∧ xs.length < sizeLine ∧ Q .non (upd H l (.lst (xs ++ [y]))) := by
 constructor
 ·rintro ⟨l', xs, y', h1, h2, h3⟩
  cases h1; cases h2
  exact ⟨xs, h3⟩
 ·rintro ⟨xs, h⟩
  exact ⟨l, xs, y, rfl, rfl, h⟩
theorem qq7 {K : PySem.W.Frag} {p : Addr} : tyV K "list" (.ref p) H ↔ ∃ xs, SqL K H p xs := by
 constructor
 ·rintro (⟨_, h⟩ | ⟨h, _⟩ | ⟨h, _⟩ | ⟨h, _⟩)
  ·exact h
  ·exact absurd h (by decide)
  ·exact absurd h (by decide)
  ·exact absurd h (by decide)
 ·intro h; exact .inl ⟨rfl, h⟩
end
mutual
inductive Is (H : Hp) : PyData → V → Prop
 | non : Is H .none .non
 | bl (b : Bool) : Is H (.bool b) (.bl b)
 | int (i : Int) : Is H (.int i) (.int i)
 | str (x : Str) : Is H (.str x) (.str x)
 | lst {p : Addr} {xs : List V} {ds : List PyData} : H p = some (.lst xs) → IsAll H ds xs → Is H (.list ds) (.ref p)
 | tup {p : Addr} {xs : List V} {ds : List PyData} : H p = some (.tup xs) → IsAll H ds xs → Is H (.tuple ds) (.ref p)
 | dic {p : Addr} : H p = some (.dK []) → Is H (.dict []) (.ref p)
inductive IsAll (H : Hp) : List PyData → List V → Prop
 | nil : IsAll H [] []
 | cons {d : PyData} {x : V} {ds : List PyData} {xs : List V} : Is H d x → IsAll H ds xs → IsAll H (d :: ds) (x :: xs)
end
mutual
theorem Is.mono {H H' : Hp} (sm : Same H H') : ∀ {d : PyData} {x : V}, Is H d x → Is H' d x
 | _, _, .non => .non
 | _, _, .bl b => .bl b
 | _, _, .int i => .int i
 | _, _, .str x => .str x
 | _, _, .lst h r => .lst (sm _ _ h) (IsAll.mono sm r)
 | _, _, .tup h r => .tup (sm _ _ h) (IsAll.mono sm r)
 | _, _, .dic h => .dic (sm _ _ h)
theorem IsAll.mono {H H' : Hp} (sm : Same H H') : ∀ {ds : List PyData} {xs : List V}, IsAll H ds xs → IsAll H' ds xs
 | _, _, .nil => .nil
 | _, _, .cons h r => .cons (Is.mono sm h) (IsAll.mono sm r)
end
theorem IsAll.length {H : Hp} : ∀ {ds : List PyData} {xs : List V}, IsAll H ds xs → ds.length = xs.length
 | _, _, .nil => rfl
 | _, _, .cons _ r => by rw [List.length_cons, List.length_cons, IsAll.length r]
section
variable {X : Cx} {pins : List (Addr × Obj)} {σ : St} {H : Hp} {s : Shared}
mutual
theorem Is.reads (I : Inv X pins σ H s) : ∀ {d : PyData} {x : V} {v : Value}, Is H d x → RelV x v → ∃ as, Reads s.heap v d as
 | _, _, _, .non, r => by cases r; exact ⟨_, .none⟩
 | _, _, _, .bl b, r => by cases r; exact ⟨_, .bool b⟩
 | _, _, _, .int i, r => by obtain ⟨t, rfl⟩ := r; exact ⟨_, .int i t⟩
 | _, _, _, .str x, r => by obtain ⟨t, rfl⟩ := r; exact ⟨_, .str x t⟩
 | _, _, _, .lst h q, r => by
  cases r
  obtain ⟨its, vs, ⟨o, n, e, c, _, dt⟩, _⟩ := I.list (SqL.of h)
  obtain ⟨as, ra⟩ := IsAll.reads I q vs
  exact ⟨_, .list e c dt (by simpa using ra)⟩
 | _, _, _, .tup h q, r => by
  cases r
  obtain ⟨its, vs, ⟨o, e, c, n, dt⟩, _⟩ := I.tuple (SqT.of h)
  obtain ⟨as, ra⟩ := IsAll.reads I q vs
  exact ⟨_, .tuple e c dt (by simpa using ra)⟩
 | _, _, _, .dic h, r => by
  cases r
  obtain ⟨_, _, vs, kv, o, es, ep, e, c, dt, _, hp, _⟩ := I.hok _ _ h
  cases kv
  have hes : es.toList = [] := by generalize es.toList = l at hp; cases hp; rfl
  exact ⟨_, .dict (kvs := []) e c.1 dt (by rw [hes]; exact .nil) (by rw [hes]; exact .nil)⟩
theorem IsAll.reads (I : Inv X pins σ H s) : ∀ {ds : List PyData} {xs : List V} {vs : List Value}, IsAll H ds xs → Vals xs vs → ∃ as, ReadsAll s.heap vs ds as
 | _, _, _, .nil, r => by cases r; exact ⟨_, .nil⟩
 | _, _, _, .cons q t, r => by
  cases r with
  | cons r1 r2 =>
   obtain ⟨as, h1⟩ := Is.reads I q r1
   obtain ⟨bs, h2⟩ := IsAll.reads I t r2
   exact ⟨_, .cons h1 h2⟩
end
def rNeD : R2 := fun x y H Q => ∃ d e, Is H d x ∧ Is H e y ∧ SeqAt.shaped d = true ∧ SeqAt.shaped e = true ∧ Q (.bl (!PyData.eqv d e)) H
theorem sqv (hu : X.A.units + 64 < cLine) : OpR X (compareOp .NotEq) rNeD := by
 intro pins s σ H x y v u Q I rx ry h
 obtain ⟨d, e, hx, hy, sx, sy, q⟩ := h
 obtain ⟨as, ra⟩ := hx.reads I rx
 obtain ⟨bs, rb⟩ := hy.reads I ry
 exact ne_dataH ra rb sx sy hu ⟨.bl _, H, I, rfl, q⟩
end
mutual
inductive IsT (H : Hp) : PyData → V → Prop
 | non : IsT H .none .non
 | bl (b : Bool) : IsT H (.bool b) (.bl b)
 | int (i : Int) : IsT H (.int i) (.int i)
 | str (x : Str) : IsT H (.str x) (.str x)
 | tup {p : Addr} {xs : List V} {ds : List PyData} : H p = some (.tup xs) → IsTAll H ds xs → IsT H (.tuple ds) (.ref p)
inductive IsTAll (H : Hp) : List PyData → List V → Prop
 | nil : IsTAll H [] []
 | cons {d : PyData} {x : V} {ds : List PyData} {xs : List V} : IsT H d x → IsTAll H ds xs → IsTAll H (d :: ds) (x :: xs)
end
def SameT (H H' : Hp) : Prop := ∀ b xs, H b = some (.tup xs) → H' b = some (.tup xs)
theorem Same.toT {H H' : Hp} (h : Same H H') : SameT H H' := fun b xs e => h b _ e
theorem nqV {H : Hp} {p : Addr} {xs : List V} {o : HO} (h : H p = some (.lst xs)) : SameT H (upd H p o) := fun b ys e => by
 rw [aqA (pqA e h (by intro z; cases z))]; exact e
mutual
theorem IsT.mono {H H' : Hp} (sm : SameT H H') : ∀ {d : PyData} {x : V}, IsT H d x → IsT H' d x
 | _, _, .non => .non
 | _, _, .bl b => .bl b
 | _, _, .int i => .int i
 | _, _, .str x => .str x
 | _, _, .tup h r => .tup (sm _ _ h) (IsTAll.mono sm r)
theorem IsTAll.mono {H H' : Hp} (sm : SameT H H') : ∀ {ds : List PyData} {xs : List V}, IsTAll H ds xs → IsTAll H' ds xs
 | _, _, .nil => .nil
 | _, _, .cons h r => .cons (IsT.mono sm h) (IsTAll.mono sm r)
end
mutual
theorem IsT.is {H : Hp} : ∀ {d : PyData} {x : V}, IsT H d x → Is H d x
 | _, _, .non => .non
 | _, _, .bl b => .bl b
 | _, _, .int i => .int i
 | _, _, .str x => .str x
 | _, _, .tup h r => .tup h (IsTAll.is r)
theorem IsTAll.is {H : Hp} : ∀ {ds : List PyData} {xs : List V}, IsTAll H ds xs → IsAll H ds xs
 | _, _, .nil => .nil
 | _, _, .cons h r => .cons (IsT.is h) (IsTAll.is r)
end
theorem IsTAll.append {H : Hp} : ∀ {ds es : List PyData} {xs ys : List V}, IsTAll H ds xs → IsTAll H es ys → IsTAll H (ds ++ es) (xs ++ ys)
 | _, _, _, _, .nil, r => r
 | _, _, _, _, .cons h t, r => .cons h (t.append r)
theorem IsTAll.length {H : Hp} {ds : List PyData} {xs : List V} (h : IsTAll H ds xs) : ds.length = xs.length := h.is.length
section
variable {p : Addr} {fv : St} {te : TE} {Q : VK} {H1 : Hp}
inductive All2 (R : V → V → Hp → Prop) (H : Hp) : List V → List V → Prop
 | nil : All2 R H [] []
 | cons {x y : V} {xs ys : List V} : R x y H → All2 R H xs ys → All2 R H (x :: xs) (y :: ys)
end
section
variable {X : Cx}
def rAllB (K : PySem.W.Frag) : List V → Hp → VK → Prop := fun vs H Q => ∃ (p : Addr) (bs : List Bool), vs = [.ref p] ∧ SqL K H p (bs.map V.bl) ∧ Q (.bl (bs.all id)) H
def rAnyB (K : PySem.W.Frag) : List V → Hp → VK → Prop := fun vs H Q => ∃ (p : Addr) (bs : List Bool), vs = [.ref p] ∧ SqL K H p (bs.map V.bl) ∧ Q (.bl (bs.any id)) H
theorem pqn {bs : List Bool} : ∀ {us : List Value}, Vals (bs.map V.bl) us → ∀ (i : Nat) (v : Value), us[i]? = some v → ∃ b, bs[i]? = some b ∧ v = .bool b := by
 induction bs with
 | nil => intro us r i v h; rw [List.map_nil] at r; cases r; simp at h
 | cons b bs ih =>
  intro us r i v h
  rw [List.map_cons] at r
  cases r with
  | cons r1 r2 =>
   cases i with
   | zero => simp at h; subst h; exact ⟨b, rfl, r1⟩
   | succ i =>
    obtain ⟨c, h1, h2⟩ := ih r2 i v (by simpa using h)
    exact ⟨c, by simpa using h1, h2⟩
theorem nqI (hc : X.calm = true) : CallR X (.builtin "all") (rAllB X.K) := by
 intro pins s σ H xs us Q I r h
 obtain ⟨p, bs, rfl, hq, q⟩ := h
 obtain ⟨u, rfl, ru⟩ := vals1 r
 cases ru
 obtain ⟨its, vs, pl, hl⟩ := I.list hq
 have hI := pl.isList
 have hlt : p < s.heap.objs.size := by obtain ⟨_, e, _⟩ := hI; exact Heap.lt_size e
 refine call_all_walk (wpAny_pyIter_list hI ?_)
 refine ⟨s.heap.objs.size, [s.heap.objs.size, p], [s.heap.objs.size], its.toArray.size, _, _, fun i => (bs[i]?).getD true, rfl, Walks.list (A := X.A.in1) (I.ok.hd hc) _ p (Nat.ne_of_lt hlt) its.toArray,
  ⟨⟨_, Heap.get?_push_size _ rfl, rfl, rfl⟩, hI.push _⟩, fun i v s' Q' E' hP hQ => ?_, fun h' tk hk => ?_⟩
 ·obtain ⟨b, e, rfl⟩ := pqn vs i v (by simpa using hP)
  simp only [e, Option.getD_some] at hQ
  exact wpAny_truthy_bool hQ
 ·have hbl := vs.length
  rw [List.length_map] at hbl
  have e : ((List.range its.toArray.size).all fun i => (bs[i]?).getD true) = bs.all id := by
   rw [List.size_toArray, ← hbl]; exact PyProof.Rows.LSm.range_all bs
  exact ⟨.bl _, H, I.kept (t' := tk) (PyProof.Rows.LSm.kept_iter hk), rfl, by rw [e]; exact q⟩
variable {K : PySem.W.Frag}
theorem oqh (h : X.K = K) (hc : X.calm = true) : CallR X (.builtin "all") (rAllB K) := by subst h; exact nqI hc
def rListU (K : PySem.W.Frag) : List V → Hp → VK → Prop := fun xs H Q => ∃ p ys, xs = [.ref p] ∧ (SqL K H p ys ∨ SqT K H p ys) ∧ ∀ l, H l = none → Q (.ref l) (upd H l (.lst ys))
def rTupleU (K : PySem.W.Frag) : List V → Hp → VK → Prop := fun xs H Q => ∃ p ys, xs = [.ref p] ∧ ((SqL K H p ys ∧ ∀ l, H l = none → Q (.ref l) (upd H l (.tup ys))) ∨ (SqT K H p ys ∧ Q (.ref p) H))
theorem kqZ {tg l : Expr} {tl : TE} (h : X.K = K) (hl : PE X l tl) : PI X tg l (iTup K tl) := by subst h; exact tqo hl
end
section
variable {H : Hp} {Q : VK} {K : PySem.W.Frag}
theorem qqW {x : V} {T : String} : (rIsiU [x, .ty T] H Q) = (∃ k, kindV x H = some k ∧ T ∈ ["bool", "int", "str", "list", "tuple"] ∧ Q (.bl (subT k T)) H) := rfl
theorem oq2 : kindV .non H = some "NoneType" := rfl
theorem qqU {b : Bool} : kindV (.bl b) H = some "bool" := rfl
theorem pqw {i : Int} : kindV (.int i) H = some "int" := rfl
theorem pqO {x : Str} : kindV (.str x) H = some "str" := rfl
theorem pqU {p : Addr} {xs : List V} (h : H p = some (.lst xs)) : kindV (.ref p) H = some "list" := by simp only [kindV, h]
theorem pqg {p : Addr} {xs : List V} (h : H p = some (.tup xs)) : kindV (.ref p) H = some "tuple" := by simp only [kindV, h]
theorem oqo : ("bool" ∈ ["bool", "int", "str", "list", "tuple"]) = True := by simp
theorem pq6 : ("int" ∈ ["bool", "int", "str", "list", "tuple"]) = True := by simp
theorem pq9 : ("str" ∈ ["bool", "int", "str", "list", "tuple"]) = True := by simp
theorem nqf : ("list" ∈ ["bool", "int", "str", "list", "tuple"]) = True := by simp
theorem mqT : ("tuple" ∈ ["bool", "int", "str", "list", "tuple"]) = True := by simp
theorem fqR : subT "NoneType" "bool" = false := by decide
theorem gqy : subT "NoneType" "int" = false := by decide
theorem gqI : subT "NoneType" "str" = false := by decide
theorem gqc : subT "NoneType" "list" = false := by decide
theorem fqq : subT "NoneType" "tuple" = false := by decide
theorem iqP : subT "bool" "bool" = true := by decide
theorem kql : subT "bool" "int" = true := by decide
theorem kqp : subT "bool" "str" = false := by decide
theorem jqq : subT "bool" "list" = false := by decide
theorem iqb : subT "bool" "tuple" = false := by decide
theorem kqr : subT "int" "bool" = false := by decide
theorem lqf : subT "int" "int" = true := by decide
theorem lqx : subT "int" "str" = false := by decide
theorem kqx : subT "int" "list" = false := by decide
theorem iqQ : subT "int" "tuple" = false := by decide
theorem jq7 : subT "str" "bool" = false := by decide
theorem lqz : subT "str" "int" = false := by decide
theorem kq7 : subT "str" "str" = true := by decide
theorem jqL : subT "str" "list" = false := by decide
theorem jqi : subT "str" "tuple" = false := by decide
theorem iq0 : subT "list" "bool" = false := by decide
theorem kqd : subT "list" "int" = false := by decide
theorem kqa : subT "list" "str" = false := by decide
theorem jqa : subT "list" "list" = true := by decide
theorem iqk : subT "list" "tuple" = false := by decide
theorem hq8 : subT "tuple" "bool" = false := by decide
theorem iqV : subT "tuple" "int" = false := by decide
theorem jqb : subT "tuple" "str" = false := by decide
theorem iqd : subT "tuple" "list" = false := by decide
theorem hqT : subT "tuple" "tuple" = true := by decide
theorem rqQ {n : Nat} {t : TGs} {v : V} {σ : St} {R : St → Hp → Prop} : (gTup K n t v σ H R) = (∃ a xs, v = .ref a ∧ SqT K H a xs ∧ xs.length = n ∧ t xs σ H R) := rfl
theorem pqV {t : TG} {u : TGs} {vs : List V} {σ : St} {R : St → Hp → Prop} : (gCons t u vs σ H R) = (∃ v r, vs = v :: r ∧ t v σ H fun σ' H' => u r σ' H' R) := rfl
theorem rqA {vs : List V} {σ : St} {R : St → Hp → Prop} : (gNil vs σ H R) = (vs = [] ∧ R σ H) := rfl
theorem rqG {to ti : TE} {t : TSet} {v : V} {σ : St} {R : St → Hp → Prop} : (gSub to ti t v σ H R) = (to σ H fun o H1 => ti σ H1 fun i H2 => t o i v H2 fun H3 => R σ H3) := rfl
theorem qq2 {p : Addr} {k : Int} {v : V} {R : Hp → Prop} : rSetL (.ref p) (.int k) v H R ↔ ∃ xs j, H p = some (.lst xs) ∧ ixN xs.length k = some j ∧ R (upd H p (.lst (xs.set j v))) := by
 constructor
 ·rintro ⟨p', xs, k', j, h1, h2, h3⟩; cases h1; cases h2; exact ⟨xs, j, h3⟩
 ·rintro ⟨xs, j, h⟩; exact ⟨p, xs, k, j, rfl, rfl, h⟩
end
section
variable {X : Cx} {K : PySem.W.Frag}
end
def SameBut (p : Addr) (H H' : Hp) : Prop := ∀ b o, b ≠ p → H b = some o → H' b = some o
theorem SameBut.refl (p : Addr) (H : Hp) : SameBut p H H := fun _ _ _ e => e
theorem SameBut.trans {p : Addr} {H H' H'' : Hp} (h : SameBut p H H') (h' : SameBut p H' H'') : SameBut p H H'' := fun b o n e => h' b o n (h b o n e)
theorem Same.but {p : Addr} {H H' : Hp} (h : Same H H') : SameBut p H H' := fun b o _ e => h b o e
theorem aqM {p : Addr} {H : Hp} {o : HO} : SameBut p H (upd H p o) := fun b u n e => by rw [aqA n]; exact e
theorem SameBut.same {p : Addr} {H H' : Hp} (h : SameBut p H H') (hp : H p = none) : Same H H' := fun b o e => h b o (aqx e hp) e
section
variable {p : Addr} {fv : St} {te : TE} {Q : VK} {H1 : Hp} {K : PySem.W.Frag}
theorem Same.tup {H H' : Hp} {a : Addr} {xs : List V} (e : Same H H') (h : SqT K H a xs) : SqT K H' a xs := by
 rcases h with (h | ⟨o, h⟩) | h
 ·exact .inl (.inl (e _ _ h))
 ·exact .inl (.inr ⟨o, e _ _ h⟩)
 ·exact .inr h
theorem nqH {a : Addr} {xs zs : List V} (hxs : SqT K H1 a xs) (hlen : xs.length ≤ sizeLine) (hp : H1 p = none) (hz : zs.length = xs.length)
  (he : ∀ (i : Nat) (x z : V), xs[i]? = some x → zs[i]? = some z → ∀ (H' : Hp) (T : VK), Same H1 H' → (∀ H'', Same H' H'' → T z H'') → te (some x :: fv) H' T)
  (hQ : ∀ H', Same H1 H' → H' p = some (.lst zs) → Q (.ref p) H') : CompI (Itt K a) p fv tYes te Q H1 := by
 refine ⟨fun i m ys H2 => m = xs.length - i ∧ i ≤ xs.length ∧ ys = zs.take i ∧ H2 p = some (.lst ys) ∧ Same H1 H2, ⟨xs.length, by simp, Nat.zero_le _, by simp, aqk, fun b o e => by rw [aqA (aqx e hp)]; exact e⟩, ?_⟩
 rintro i m ys H2 ⟨rfl, hi, rfl, hp2, sm⟩
 refine ⟨hp2, ?_⟩
 have q := sm.tup hxs
 by_cases hlt : i < xs.length
 ·refine .inr ⟨⟨xs, xs[i], q, by simp [hlt]⟩, ?_, fun x H3 y => ?_⟩
  ·rw [List.length_take]; lia
  ·obtain ⟨rfl, y⟩ := y
   have hc := y xs q
   have hzi : zs[i]? = some zs[i] := List.getElem?_eq_getElem (by lia)
   unfold tYes
   dsimp only
   rw [if_pos rfl]
   refine he i x _ hc hzi _ _ sm fun H5 s5 => ⟨s5 _ _ hp2, xs.length - (i + 1), by lia, rfl, hlt, ?_, aqk, fun b o e => ?_⟩
   ·rw [List.take_add_one, hzi]; rfl
   ·rw [aqA (aqx e hp)]; exact s5 _ _ (sm _ _ e)
 ·have e : i = xs.length := by lia
  subst e
  refine .inl ⟨⟨xs, q, Nat.le_refl _⟩, hQ H2 sm ?_⟩
  rw [hp2, ← hz, List.take_length]
variable {σ : St} {H : Hp} {tl : TE} {tt : TT} {fr : List Nat} {g : TG} {tb : TS} {D : Ends}
theorem pq5 : (tComp (iTup K tl) fr tt te σ H Q) = (tl σ H fun x H1 => ∃ a, x = .ref a ∧ (∃ xs, SqT K H1 a xs) ∧ ∀ p, H1 p = none → CompI (Itt K a) p (frV σ fr) tt te Q H1) := rfl
theorem sqa : (tFor (iTup K te) g tb D σ H) = (te σ H fun x H1 => ∃ a, x = .ref a ∧ (∃ xs, SqT K H1 a xs) ∧ LoopI (Itt K a) g tb D σ H1) := rfl
theorem pqY {a : Addr} {xs : List V} (Pv : Nat → St → Hp → Prop) (h0 : Pv 0 σ H) (hl : ∀ i σ H, i ≤ xs.length → Pv i σ H → SqT K H a xs)
  (hs : ∀ i x σ H, xs[i]? = some x → Pv i σ H → g x σ H fun σ2 H2 => tb { D with nx := Pv (i + 1), ct := Pv (i + 1), bk := D.nx } σ2 H2) (hd : ∀ σ H, Pv xs.length σ H → D.nx σ H) : LoopI (Itt K a) g tb D σ H := rqr Pv h0 hl hs hd
theorem oqx {a : Addr} : rAllB K [.ref a] H Q ↔ ∃ bs : List Bool, SqL K H a (bs.map V.bl) ∧ Q (.bl (bs.all id)) H := by
 constructor
 ·rintro ⟨p, bs, h1, h2⟩; cases h1; exact ⟨bs, h2⟩
 ·rintro ⟨bs, h⟩; exact ⟨a, bs, rfl, h⟩
theorem qqy {a : Addr} : rAnyB K [.ref a] H Q ↔ ∃ bs : List Bool, SqL K H a (bs.map V.bl) ∧ Q (.bl (bs.any id)) H := by
 constructor
 ·rintro ⟨p, bs, h1, h2⟩; cases h1; exact ⟨bs, h2⟩
 ·rintro ⟨bs, h⟩; exact ⟨a, bs, rfl, h⟩
theorem tqJ {a : Addr} : rListU K [.ref a] H Q ↔ ∃ ys, (SqL K H a ys ∨ SqT K H a ys) ∧ ∀ l, H l = none → Q (.ref l) (upd H l (.lst ys)) := by
 constructor
 ·rintro ⟨p, bs, h1, h2⟩; cases h1; exact ⟨bs, h2⟩
 ·rintro ⟨bs, h⟩; exact ⟨a, bs, rfl, h⟩
theorem tqs {a : Addr} : rTupleU K [.ref a] H Q ↔ ∃ ys, (SqL K H a ys ∧ ∀ l, H l = none → Q (.ref l) (upd H l (.tup ys))) ∨ (SqT K H a ys ∧ Q (.ref a) H) := by
 constructor
 ·rintro ⟨p, bs, h1, h2⟩; cases h1; exact ⟨bs, h2⟩
 ·rintro ⟨bs, h⟩; exact ⟨a, bs, rfl, h⟩
theorem qqD {a : Addr} {lo hi : Option Int} : rSlT K (.ref a) lo hi H Q ↔ ∃ xs, SqT K H a xs ∧ ¬ (HT.sIx xs.length 0 lo = 0 ∧ HT.sIx xs.length xs.length hi = xs.length) ∧ ∀ p, H p = none → Q (.ref p) (upd H p (.tup (cutV xs lo hi))) := by
 constructor
 ·rintro ⟨p, bs, h1, h2⟩; cases h1; exact ⟨bs, h2⟩
 ·rintro ⟨bs, h⟩; exact ⟨a, bs, rfl, h⟩
end
def tCut (t u : TS) : TS := fun D σ H => ∃ P : St → Hp → Prop, t { D with nx := P } σ H ∧ ∀ σ' H', P σ' H' → u D σ' H'
section
variable {X : Cx} {st : Stmt} {rest : List Stmt} {t u : TS}
theorem aqE (h1 : PS X st t) (h2 : PSs X rest u) : PSs X (st :: rest) (tCut t u) := by
 intro pins s σ H D I h
 obtain ⟨P, h, hu⟩ := h
 refine wpAny_execs_cons (thn (h1 pins s σ H { D with nx := P } I h) fun f s1 q => ?_)
 cases f with
 | next =>
  obtain ⟨σ', H', I', q⟩ := q
  exact h2 pins s1 σ' H' D I' (hu _ _ q)
 | ret v => exact q
 | brk => exact q
 | cont => exact q
def Later (u : TS) (D : Ends) (σ : St) (H : Hp) : Prop := u D σ H
theorem pqd {D : Ends} {x : Option V} {σ : St} {H : Hp} : (Later u D (x :: σ) H) = (u D (x :: σ) H) := rfl
theorem sqO {D : Ends} {σ : St} {H : Hp} : (tCut t u D σ H) = (∃ P : St → Hp → Prop, t { D with nx := P } σ H ∧ ∀ σ' H', P σ' H' → Later u D σ' H') := rfl
end
theorem SameBut.free {p q : Addr} {H H' : Hp} (sb : SameBut p H H') (hq : H' q = none) (hne : q ≠ p) : H q = none := by
 cases e : H q with
 | none => rfl
 | some o => rw [sb q o hne e] at hq; cases hq
theorem SameBut.upd {p q : Addr} {H H' : Hp} {o : HO} (sb : SameBut p H H') (hq : H q = none) : SameBut p H (upd H' q o) := fun b u n e => by
 rw [aqA (aqx e hq)]; exact sb b u n e
theorem aqU {H : Hp} {p : Addr} {o : HO} (hp : H p = none) : Same H (upd H p o) := fun b u e => by rw [aqA (aqx e hp)]; exact e
def tTupS (t : TA) : TE := fun σ H Q => t σ H fun xs H1 => xs.length ≤ sizeLine ∧ ∀ p H', H1 p = none → Same H1 H' → H' p = some (.tup xs) → Q (.ref p) H'
def tLstS (t : TA) : TE := fun σ H Q => t σ H fun xs H1 => xs.length ≤ sizeLine ∧ ∀ p H', H1 p = none → Same H1 H' → H' p = some (.lst xs) → Q (.ref p) H'
section
variable {X : Cx} {es : List Expr} {t : TA} {pos : Pos} {K : PySem.W.Frag}
theorem aqG {x1} (h : PA X es t) : PE X (.Tuple es x1 pos) (tTupS t) := by
 intro pins s σ H Q I hq
 refine wpAny_Tuple_spliced (thn (h pos pins s σ H _ I hq) fun us s1 ⟨xs, H1, I1, r, z, q⟩ => ⟨by rw [← r.length]; exact z, ?_⟩)
 have hf : H1 s1.heap.objs.size = none := I1.hok.fresh (Nat.le_refl _)
 refine ⟨.ref s1.heap.objs.size, upd H1 s1.heap.objs.size (.tup xs), I1.laid (t' := s1.toks) (fun b u e => Heap.get?_push_of_some _ e) (Nat.le_refl _) ?_, rfl, q _ _ hf (aqU hf) aqk⟩
 exact ⟨z, us, r, ⟨_, Heap.get?_push_size _ rfl, rfl, _, rfl⟩⟩
theorem cqT (h : PA X es t) : PE X (.List es pos) (tLstS t) := by
 intro pins s σ H Q I hq
 refine wpAny_List_spliced (thn (h pos pins s σ H _ I hq) fun us s1 ⟨xs, H1, I1, r, z, q⟩ => ⟨by rw [← r.length]; exact z, ?_⟩)
 have hf : H1 s1.heap.objs.size = none := I1.hok.fresh (Nat.le_refl _)
 refine ⟨.ref s1.heap.objs.size, upd H1 s1.heap.objs.size (.lst xs), I1.laid (t' := s1.toks) (fun b u e => Heap.get?_push_of_some _ e) (Nat.le_refl _) ?_, rfl, q _ _ hf (aqU hf) aqk⟩
 exact ⟨z, us, 0, r, Heap.get?_push_size _ rfl⟩
def rAddS (K : PySem.W.Frag) : R2 := fun x y H Q => match x, y with
 | .int i, .int j => Q (.int (i + j)) H
 | .str i, .str j => i.length + j.length ≤ sizeLine ∧ Q (.str (i ++ j)) H
 | .ref a, .ref b => (∃ xs zs, H a = some (.lst xs) ∧ H b = some (.lst zs) ∧ xs.length + zs.length ≤ sizeLine ∧ ∀ p H', H p = none → Same H H' → H' p = some (.lst (xs ++ zs)) → Q (.ref p) H') ∨
   (∃ xs ys, H a = some (.tup xs) ∧ H b = some (.tup ys) ∧ xs.length + ys.length ≤ sizeLine ∧ ∀ p H', Same H H' → H' p = some (.tup (xs ++ ys)) → Q (.ref p) H')
 | _, _ => False
theorem bqp : OpR X (binaryOp .Add) (rAddS K) := by
 intro pins s σ H x y v u Q I rx ry h
 refine nqJ pins s σ H x y v u Q I rx ry ?_
 cases x with
 | int i =>
  cases y with
  | int j => exact h
  | _ => exact h.elim
 | str i =>
  cases y with
  | str j => exact h
  | _ => exact h.elim
 | ref a =>
  cases y with
  | ref b =>
   rcases h with ⟨xs, zs, h1, h2, h3, h4⟩ | h
   ·exact .inl ⟨xs, zs, h1, h2, h3, fun p hp => h4 p _ hp (aqU hp) aqk⟩
   ·exact .inr h
  | _ => exact h.elim
 | _ => exact h.elim
def rListS (K : PySem.W.Frag) : List V → Hp → VK → Prop := fun xs H Q => ∃ p ys, xs = [.ref p] ∧ (SqL K H p ys ∨ SqT K H p ys) ∧ ∀ l H', H l = none → Same H H' → H' l = some (.lst ys) → Q (.ref l) H'
def rTupleS (K : PySem.W.Frag) : List V → Hp → VK → Prop := fun xs H Q => ∃ p ys, xs = [.ref p] ∧ (SqL K H p ys ∨ H p = some (.tup ys)) ∧ ∀ l H', Same H H' → H' l = some (.tup ys) → Q (.ref l) H'
theorem cqQ (h : X.K = K) : CallR X (.type "tuple") (rTupleS K) := by
 subst h
 intro pins s σ H xs us Q I r h
 obtain ⟨p, ys, h1, h2, h3⟩ := h
 rcases h2 with h2 | h2
 ·exact fqu pins s σ H xs us Q I r ⟨p, ys, h1, .inl ⟨h2, fun l hl => h3 l _ (aqU hl) aqk⟩⟩
 ·exact fqu pins s σ H xs us Q I r ⟨p, ys, h1, .inr ⟨SqT.of h2, h3 p H (Same.refl _) h2⟩⟩
def rSlS2 (K : PySem.W.Frag) : V → Option Int → Option Int → Hp → VK → Prop := fun x lo hi H Q => ∃ a xs, x = .ref a ∧ SqT K H a xs ∧
 ¬ (HT.sIx xs.length 0 lo = 0 ∧ HT.sIx xs.length xs.length hi = xs.length) ∧ ∀ p H', H p = none → Same H H' → H' p = some (.tup (cutV xs lo hi)) → Q (.ref p) H'
end
section
variable {σ : St} {H : Hp} {Q : VK} {K : PySem.W.Frag} {aa : TA}
theorem rqF : (tTupS aa σ H Q) = (aa σ H fun xs H1 => xs.length ≤ sizeLine ∧ ∀ p H', H1 p = none → Same H1 H' → H' p = some (.tup xs) → Q (.ref p) H') := rfl
theorem rqU : (tLstS aa σ H Q) = (aa σ H fun xs H1 => xs.length ≤ sizeLine ∧ ∀ p H', H1 p = none → Same H1 H' → H' p = some (.lst xs) → Q (.ref p) H') := rfl
theorem qq0 {i j : Int} : (rAddS K (.int i) (.int j) H Q) = (Q (.int (i + j)) H) := rfl
theorem rqv {i j : Str} : (rAddS K (.str i) (.str j) H Q) = (i.length + j.length ≤ sizeLine ∧ Q (.str (i ++ j)) H) := rfl
theorem qqX {a : Addr} : rListS K [.ref a] H Q ↔ ∃ ys, (SqL K H a ys ∨ SqT K H a ys) ∧ ∀ l H', H l = none → Same H H' → H' l = some (.lst ys) → Q (.ref l) H' := by
 constructor
 ·rintro ⟨p, bs, h1, h2⟩; cases h1; exact ⟨bs, h2⟩
 ·rintro ⟨bs, h⟩; exact ⟨a, bs, rfl, h⟩
theorem rq1 {a : Addr} : rTupleS K [.ref a] H Q ↔ ∃ ys, (SqL K H a ys ∨ H a = some (.tup ys)) ∧ ∀ l H', Same H H' → H' l = some (.tup ys) → Q (.ref l) H' := by
 constructor
 ·rintro ⟨p, bs, h1, h2⟩; cases h1; exact ⟨bs, h2⟩
 ·rintro ⟨bs, h⟩; exact ⟨a, bs, rfl, h⟩
theorem rqd {a : Addr} {lo hi : Option Int} : rSlS2 K (.ref a) lo hi H Q ↔ ∃ xs, SqT K H a xs ∧ ¬ (HT.sIx xs.length 0 lo = 0 ∧ HT.sIx xs.length xs.length hi = xs.length) ∧ ∀ p H', H p = none → Same H H' → H' p = some (.tup (cutV xs lo hi)) → Q (.ref p) H' := by
 constructor
 ·rintro ⟨p, bs, h1, h2⟩; cases h1; exact ⟨bs, h2⟩
 ·rintro ⟨bs, h⟩; exact ⟨a, bs, rfl, h⟩
end
def rSlLS (K : PySem.W.Frag) : V → Option Int → Option Int → Hp → VK → Prop := fun x lo hi H Q => ∃ a xs, x = .ref a ∧ SqL K H a xs ∧ ∀ p H', H p = none → Same H H' → H' p = some (.lst (cutV xs lo hi)) → Q (.ref p) H'
theorem pq0 {K : PySem.W.Frag} {H : Hp} {Q : VK} {a : Addr} {lo hi : Option Int} : rSlLS K (.ref a) lo hi H Q ↔ ∃ xs, SqL K H a xs ∧ ∀ p H', H p = none → Same H H' → H' p = some (.lst (cutV xs lo hi)) → Q (.ref p) H' := by
 constructor
 ·rintro ⟨p, bs, h1, h2⟩; cases h1; exact ⟨bs, h2⟩
 ·rintro ⟨bs, h⟩; exact ⟨a, bs, rfl, h⟩
def rIsB (neg : Bool) : R2 := fun x y H Q => match x, y with
 | .bl b, .bl c => Q (.bl (if neg then !decide (b = c) else decide (b = c))) H
 | _, _ => False
theorem tq3 {b c : Bool} {H : Hp} {Q : VK} : (rIsB false (.bl b) (.bl c) H Q) = (Q (.bl (decide (b = c))) H) := rfl
end L2
namespace Wm
open PySem L2
def isSg (c : Nat) : Bool := decide (32 ≤ c) && decide (c ≤ 126) && !decide (c = 37)
def SG : List Nat := (List.range 127).filter isSg
def hexd (n : Nat) : Nat := if n < 10 then 48 + n else 87 + n
def fig (a : Nat) : Option Nat := if 48 ≤ a ∧ a ≤ 57 then some (a - 48) else if 97 ≤ a ∧ a ≤ 102 then some (a - 87) else if 65 ≤ a ∧ a ≤ 70 then some (a - 55) else none
def figV (a : Nat) : V := match fig a with | some n => .int (n : Nat) | none => .non
abbrev one (c : Nat) : V := .str ⟨#[c]⟩
def sgV (n : Nat) : V := if isSg n then one n else .non
def signOf (a b : Nat) : V := match fig a, fig b with | some h, some l => sgV (h * 16 + l) | _, _ => .non
def signOfL : List Nat → V
 | [a, b] => signOf a b
 | _ => .non
theorem oqi {c : Nat} : c ∈ SG ↔ isSg c = true := by
 unfold SG
 rw [List.mem_filter, List.mem_range]
 constructor
 ·exact fun h => h.2
 ·intro h
  refine ⟨?_, h⟩
  simp only [isSg, Bool.and_eq_true, decide_eq_true_eq] at h
  lia
theorem dqb {c : Nat} (h : isSg c = true) : 32 ≤ c ∧ c ≤ 126 ∧ c ≠ 37 := by
 simp only [isSg, Bool.and_eq_true, decide_eq_true_eq, Bool.not_eq_true', decide_eq_false_iff_not] at h
 lia
theorem rqe : ∀ n, n < 16 → (Str.ofString "0123456789abcdef").cps.toList[n]? = some (hexd n) := by decide +kernel
theorem tqr {i : Int} {n : Nat} (e : i = (n : Int)) (h : n < 16) : atI (Str.ofString "0123456789abcdef").cps.toList i = some (hexd n) := by
 rw [e]; exact aqC (rqe n h)
theorem kqO : (Str.ofString "0123456789abcdef").length ≤ sizeLine := by decide +kernel
theorem pqi : ∀ a, a < 128 → a ∈ (Str.ofString "0123456789abcdef").cps.toList →
  Builtin.Str.occurrences (Str.ofString "0123456789abcdef") ⟨#[a]⟩ 0 (Str.ofString "0123456789abcdef").length 1 = [(fig a).getD 0] ∧ (fig a).isSome = true := by decide +kernel
theorem pqy : ∀ a, a < 128 → ¬ a ∈ (Str.ofString "0123456789abcdef").cps.toList → a ∈ (Str.ofString "0123456789ABCDEF").cps.toList →
  Builtin.Str.occurrences (Str.ofString "0123456789ABCDEF") ⟨#[a]⟩ 0 (Str.ofString "0123456789ABCDEF").length 1 = [(fig a).getD 0] ∧ (fig a).isSome = true := by decide +kernel
theorem tqZ : ∀ a, a < 128 → ¬ a ∈ (Str.ofString "0123456789abcdef").cps.toList → ¬ a ∈ (Str.ofString "0123456789ABCDEF").cps.toList → fig a = none := by decide +kernel
theorem pqW : ∀ n, n < 127 → isSg n = true → (Str.ofString " !\"#$&'()*+,-./0123456789:;<=>?@ABCDEFGHIJKLMNOPQRSTUVWXYZ[\\]^_`abcdefghijklmnopqrstuvwxyz{|}~").cps.toList[n - 32 - (if 37 < n then 1 else 0)]? = some n := by decide +kernel
theorem kqA : (Str.ofString " !\"#$&'()*+,-./0123456789:;<=>?@ABCDEFGHIJKLMNOPQRSTUVWXYZ[\\]^_`abcdefghijklmnopqrstuvwxyz{|}~").length ≤ sizeLine := by decide +kernel
theorem jqB (l : List Nat) (a : Nat) : ∀ k, ((List.range k).map fun j => a + j).filterMap (fun i => l[i]?) = (l.drop a).take k
 | 0 => by simp
 | k + 1 => by
  rw [List.range_succ, List.map_append, List.filterMap_append, jqB l a k, List.take_add_one, List.getElem?_drop]
  simp only [List.map_cons, List.map_nil]
  cases e : l[a + k]? with
  | none => simp [e]
  | some c => simp [e]
def clipI (n : Nat) (v : Int) : Nat := (max 0 (min (if v < 0 then v + n else v) n)).toNat
theorem pqG (a b : Nat) : sliceRange (a : Int) (b : Int) 1 = (List.range (b - a)).map fun j => a + j := by
 unfold sliceRange
 have h1 : (1 : Int) > 0 := by decide
 simp only [h1, if_true, Int.one_mul, Int.ediv_one]
 have e : (if (a : Int) < (b : Int) then (b : Int) - (a : Int) + 1 - 1 else 0).toNat = b - a := by split <;> lia
 rw [e]
 apply List.map_congr_left
 intro j _
 lia
theorem lqd (lo hi : Option Int) (n : Nat) : Builtin.Str.strSliceIndices lo hi 1 n = (List.range ((hi.elim n (clipI n)) - (lo.elim 0 (clipI n)))).map fun j => (lo.elim 0 (clipI n)) + j := by
 unfold Builtin.Str.strSliceIndices
 have h1 : (1 : Int) > 0 := by decide
 simp only [h1, if_true]
 rw [← pqG]
 congr 1
 ·cases lo with
  | none => rfl
  | some v => simp only [Option.elim_some, clipI]; lia
 ·cases hi with
  | none => rfl
  | some v => simp only [Option.elim_some, clipI]; lia
theorem jqK (l : List Nat) (lo hi : Option Int) : Txt.slice (⟨l.toArray⟩ : Str) lo hi = ⟨((l.drop (lo.elim 0 (clipI l.length))).take ((hi.elim l.length (clipI l.length)) - (lo.elim 0 (clipI l.length)))).toArray⟩ := by
 have hl : (⟨l.toArray⟩ : Str).length = l.length := by simp [Str.length]
 have hb : hi.elim l.length (clipI l.length) ≤ l.length := by
  cases hi with
  | none => exact Nat.le_refl _
  | some v => simp only [Option.elim_some, clipI]; lia
 have hb' : lo.elim 0 (clipI l.length) ≤ l.length := by
  cases lo with
  | none => exact Nat.zero_le _
  | some v => simp only [Option.elim_some, clipI]; lia
 have ef : (fun i : Nat => (⟨l.toArray⟩ : Str).cps[i]?) = fun i => l[i]? := by funext i; simp
 unfold Txt.slice
 rw [hl, lqd, ef]
 split
 ·rename_i h
  simp only [List.length_map, List.length_range, beq_self_eq_true, Bool.true_and, beq_iff_eq] at h
  have e1 : lo.elim 0 (clipI l.length) = 0 := by lia
  have e2 : hi.elim l.length (clipI l.length) = l.length := by lia
  rw [e1, e2]
  simp
 ·rw [jqB l (lo.elim 0 (clipI l.length)) ((hi.elim l.length (clipI l.length)) - (lo.elim 0 (clipI l.length)))]
theorem mqk (n k : Nat) : clipI n (k : Int) = min k n := by unfold clipI; split <;> lia
theorem pqu (l : List Nat) (k : Nat) : Txt.slice (⟨l.toArray⟩ : Str) none (some (k : Int)) = ⟨(l.take k).toArray⟩ := by
 rw [jqK]
 simp only [Option.elim_some, Option.elim_none, mqk, List.drop_zero, Nat.sub_zero]
 by_cases h : k ≤ l.length
 ·rw [Nat.min_eq_left h]
 ·rw [Nat.min_eq_right (by lia), List.take_length, List.take_of_length_le (by lia)]
theorem oqy (l : List Nat) (i j : Nat) : Txt.slice (⟨l.toArray⟩ : Str) (some (i : Int)) (some (j : Int)) = ⟨((l.drop i).take (j - i)).toArray⟩ := by
 rw [jqK]
 simp only [Option.elim_some, mqk]
 by_cases h : i ≤ l.length
 ·rw [Nat.min_eq_left h]
  by_cases h2 : j ≤ l.length
  ·rw [Nat.min_eq_left h2]
  ·rw [Nat.min_eq_right (by lia : l.length ≤ j), List.take_of_length_le (by simp), List.take_of_length_le (by simp; lia)]
 ·rw [Nat.min_eq_right (by lia : l.length ≤ i), List.drop_eq_nil_of_le (Nat.le_refl _), List.drop_eq_nil_of_le (by lia)]
  simp
theorem sq0 : Str.ofString "" = ⟨([] : List Nat).toArray⟩ := by decide +kernel
theorem lqF (ys : List Str) : Txt.join (⟨([] : List Nat).toArray⟩ : Str) ys = ⟨(ys.flatMap fun y => y.cps.toList).toArray⟩ := by
 show Builtin.Str.glued _ _ = _
 rw [StrLaws.glued_eq_join]
 induction ys with
 | nil => rfl
 | cons y r ih =>
  cases r with
  | nil =>
   show y = _
   simp
  | cons z r =>
   show y ++ (⟨#[]⟩ : Str) ++ Str.join ⟨#[]⟩ (z :: r) = _
   rw [ih]
   show Str.mk (y.cps ++ #[] ++ _) = _
   simp [List.flatMap_cons]
theorem iqx (l m : List Nat) : ((⟨l.toArray⟩ : Str) ++ (⟨m.toArray⟩ : Str)) = ⟨(l ++ m).toArray⟩ := by
 show Str.mk (l.toArray ++ m.toArray) = _
 simp
theorem cq7 {l m : List Nat} : ((⟨l.toArray⟩ : Str) = ⟨m.toArray⟩) ↔ l = m := by
 constructor
 ·intro h; injection h with h; injection h
 ·rintro rfl; rfl
theorem bqe (l : List Nat) : (⟨l.toArray⟩ : Str).length = l.length := by simp [Str.length]
theorem pqe : Str.ofString "~" = ⟨[126].toArray⟩ := by decide +kernel
theorem eqa {a n : Nat} (h : fig a = some n) : figV a = .int (n : Nat) := by unfold figV; rw [h]
theorem hqW {a : Nat} (h : fig a = none) : figV a = .non := by unfold figV; rw [h]
theorem qqK {n : Nat} (h : isSg n = true) : sgV n = one n := by unfold sgV; rw [if_pos h]
theorem nqb {n : Nat} (h : ¬ isSg n = true) : sgV n = .non := by unfold sgV; rw [if_neg h]
theorem rqm {n : Nat} (h1 : 32 ≤ n) (h2 : n ≤ 126) (h3 : n ≠ 37) : isSg n = true := by
 simp only [isSg, Bool.and_eq_true, decide_eq_true_eq, Bool.not_eq_true', decide_eq_false_iff_not]
 lia
theorem mqQ {l : List Nat} (h : l.length ≠ 2) : signOfL l = .non := by
 match l with
 | [] => rfl
 | [_] => rfl
 | [_, _] => exact absurd rfl h
 | _ :: _ :: _ :: _ => rfl
theorem sqL {l : List Nat} (h : l.length = 2) : ∃ a b, l = [a, b] := by
 match l, h with
 | [a, b], _ => exact ⟨a, b, rfl⟩
theorem kq4 (l : List Nat) (m k : Int) (h0 : 0 < k) (h : k ≤ l.length) : ∃ a, a ∈ l ∧ atI l (m % k) = some a := by
 have h1 := Int.emod_nonneg m (show k ≠ 0 by lia)
 have h2 := Int.emod_lt_of_pos m h0
 have h3 : (m % k).toNat < l.length := by lia
 refine ⟨l[(m % k).toNat], List.getElem_mem _, ?_⟩
 have := aqC (xs := l) (j := (m % k).toNat) (v := l[(m % k).toNat]) (by simp [h3])
 rw [Int.toNat_of_nonneg h1] at this
 exact this
def isPl (c : Nat) : Bool := decide (48 ≤ c ∧ c ≤ 57) || decide (65 ≤ c ∧ c ≤ 90) || decide (97 ≤ c ∧ c ≤ 122) || decide (c = 45) || decide (c = 46) || decide (c = 95)
theorem lq3 : ∀ c, c < 128 → (decide (c ∈ (Str.ofString "abcdefghijklmnopqrstuvwxyzABCDEFGHIJKLMNOPQRSTUVWXYZ0123456789-_.").cps.toList)) = isPl c := by decide +kernel
def wr1 (c : Nat) : List Nat := if isPl c then [c] else [126, hexd (c / 16), hexd (c % 16)]
def wr (l : List Nat) : List Nat := l.flatMap wr1
theorem nqk (c : Nat) : (wr1 c).length ≤ 3 := by unfold wr1; split <;> simp
theorem gqk (l : List Nat) : (wr l).length ≤ 3 * l.length := by
 induction l with
 | nil => simp [wr]
 | cons c r ih =>
  have := nqk c
  unfold wr at ih ⊢
  rw [List.flatMap_cons, List.length_append, List.length_cons]
  lia
def sgO (a b : Nat) : Option Nat := match fig a, fig b with
 | some h, some l => if isSg (h * 16 + l) then some (h * 16 + l) else none
 | _, _ => none
def oV : Option Nat → V
 | some c => one c
 | none => .non
theorem nq7 (a b : Nat) : signOf a b = oV (sgO a b) := by
 unfold signOf sgO
 cases fig a with
 | none => rfl
 | some h =>
  cases fig b with
  | none => rfl
  | some l =>
   simp only [sgV]
   split <;> rfl
theorem rqs {c : Nat} (hc : isSg c = true) : sgO (hexd (c / 16)) (hexd (c % 16)) = some c := by
 have l := dqb hc
 have key : ∀ h, h < 16 → fig (hexd h) = some h := by decide +kernel
 unfold sgO
 rw [key _ (by lia), key _ (by lia)]
 have e : c / 16 * 16 + c % 16 = c := by lia
 simp only [e, hc, if_true]
theorem rqw {ns : List Int} {k : Nat} (h : k < ns.length) : atI (ns.map V.int) (k : Int) = some (.int (ns.getD k 0)) := by
 refine aqC ?_
 rw [List.getElem?_map, List.getElem?_eq_getElem h, List.getD_eq_getElem?_getD, List.getElem?_eq_getElem h]
 rfl
theorem aqq {n : Nat} (h : n ≤ 100000) : n ≤ sizeLine := Nat.le_trans h (by decide)
theorem qqH (f : Nat → Nat) (l : List Nat) : (l.toArray).map f = (l.map f).toArray := by simp
theorem oqc (l : List Nat) : (⟨l.toArray⟩ : Str).cps.toList = l := rfl
theorem mqX (dn : List Nat) : ((dn.map fun c => (⟨[c].toArray⟩ : Str)).flatMap fun y => y.cps.toList) = dn := by
 induction dn with
 | nil => rfl
 | cons c r ih => rw [List.map_cons, List.flatMap_cons, ih]; rfl
theorem nq1 (dn : List Nat) : ((dn.map fun c => (⟨[c].toArray⟩ : Str)).map (·.length)).sum = dn.length := by
 induction dn with
 | nil => rfl
 | cons c r ih => rw [List.map_cons, List.map_cons, List.sum_cons, ih, List.length_cons]; show 1 + _ = _; lia
theorem rqN (xs : List V) (m k : Int) (h0 : 0 < k) (h : k ≤ xs.length) : ∃ a, a ∈ xs ∧ atI xs (m % k) = some a := by
 have h1 := Int.emod_nonneg m (show k ≠ 0 by lia)
 have h2 := Int.emod_lt_of_pos m h0
 have h3 : (m % k).toNat < xs.length := by lia
 refine ⟨xs[(m % k).toNat], List.getElem_mem _, ?_⟩
 have := aqC (xs := xs) (j := (m % k).toNat) (v := xs[(m % k).toNat]) (by simp [h3])
 rw [Int.toNat_of_nonneg h1] at this
 exact this
def hit (a b c : Nat) : Bool := decide ([hexd (c / 16), hexd (c % 16)] = [PyProof.Rows.lo1 a, PyProof.Rows.lo1 b])
mutual
def smallD : PyData → Bool
 | .str x => decide (x.length ≤ 100000)
 | .list xs => decide (xs.length ≤ 100000) && smallAll xs
 | .tuple xs => decide (xs.length ≤ 100000) && smallAll xs
 | .dict _ => true
 | .none => true
 | .bool _ => true
 | .int _ => true
def smallAll : List PyData → Bool
 | [] => true
 | d :: ds => smallD d && smallAll ds
end
theorem jqF {x : Str} (h : smallD (.str x) = true) : x.length ≤ 100000 := by simpa [smallD] using h
def isLet (c : Nat) : Bool := decide (65 ≤ c ∧ c ≤ 90) || decide (97 ≤ c ∧ c ≤ 122)
def isAln (c : Nat) : Bool := isLet c || decide (48 ≤ c ∧ c ≤ 57)
theorem tqy : ∀ c, c < 128 → (decide (c ∈ (Str.ofString "abcdefghijklmnopqrstuvwxyzABCDEFGHIJKLMNOPQRSTUVWXYZ").cps.toList)) = isLet c := by decide +kernel
theorem sqY : ∀ c, c < 128 → (decide (c ∈ (Str.ofString "abcdefghijklmnopqrstuvwxyzABCDEFGHIJKLMNOPQRSTUVWXYZ0123456789").cps.toList)) = isAln c := by decide +kernel
theorem sq9 : (Str.ofString " !\"#$&'()*+,-./0123456789:;<=>?@ABCDEFGHIJKLMNOPQRSTUVWXYZ[\\]^_`abcdefghijklmnopqrstuvwxyz{|}~").cps.toList = SG := by decide +kernel
theorem sqQ (c : Nat) : (decide (c ∈ (Str.ofString " !\"#$&'()*+,-./0123456789:;<=>?@ABCDEFGHIJKLMNOPQRSTUVWXYZ[\\]^_`abcdefghijklmnopqrstuvwxyz{|}~").cps.toList)) = isSg c := by
 rw [sq9, Bool.eq_iff_iff, decide_eq_true_eq, oqi]
def tx : PyData → Bool
 | .str x => x.cps.toList.all isSg
 | _ => false
def schD : PyData → Bool
 | .str x => x.cps.toList.all isSg && decide (x.length ≤ 8) && (x.cps.toList.take 1).all isLet && x.cps.toList.all isAln
 | _ => false
abbrev st (l : List Nat) : PyData := .str ⟨l.toArray⟩
def oD : Option (List Nat) → PyData
 | none => .none
 | some l => st l
def otV : Option (List Nat) → V
 | none => .non
 | some l => .str ⟨l.toArray⟩
theorem kqf {H : Hp} (o : Option (List Nat)) : IsT H (oD o) (otV o) := by
 cases o with
 | none => exact .non
 | some x => exact .str _
def iD : Option Int → PyData
 | none => .none
 | some i => .int i
def qD : Option (List (List Nat × Option (List Nat))) → PyData
 | none => .none
 | some ps => .tuple (ps.map fun p => .tuple [st p.1, oD p.2])
structure Ad where
 scheme : List Nat
 house : Option (List Nat)
 door : Option Int
 rooted : Bool
 steps : List (List Nat)
 ends : Bool
 quest : Option (List (List Nat × Option (List Nat)))
 mark : Option (List Nat)
def Ad.way (x : Ad) : PyData := .tuple [.bool x.rooted, .tuple (x.steps.map st), .bool x.ends]
def Ad.data (x : Ad) : PyData := .tuple [st x.scheme, oD x.house, iD x.door, x.way, qD x.quest, oD x.mark]
def Tx (n : Nat) (l : List Nat) : Prop := l.length ≤ n ∧ ∀ c ∈ l, isSg c = true
structure Ad.Ok (x : Ad) : Prop where
 sch : x.scheme.length ≤ 8 ∧ (∀ c ∈ x.scheme, isAln c = true) ∧ ∀ c ∈ x.scheme.take 1, isLet c = true
 hou : ∀ l, x.house = some l → 0 < l.length ∧ Tx 60 l
 doo : ∀ i, x.door = some i → (0 ≤ i ∧ i ≤ 65535) ∧ x.house ≠ none
 stp : x.steps.length ≤ 50 ∧ ∀ l ∈ x.steps, 0 < l.length ∧ Tx 60 l
 roo : x.scheme ≠ [] ∨ x.house ≠ none → x.rooted = true
 end_ : x.steps = [] → x.ends = x.rooted
 que : ∀ ps, x.quest = some ps → ps.length ≤ 20 ∧ ∀ p ∈ ps, (0 < p.1.length ∧ Tx 6 p.1) ∧ ∀ v, p.2 = some v → Tx 6 v
 mar : ∀ l, x.mark = some l → Tx 60 l
theorem iqN {c : Nat} (h : isAln c = true) : isSg c = true := by
 simp only [isAln, isLet, Bool.or_eq_true, decide_eq_true_eq] at h
 simp only [isSg, Bool.and_eq_true, decide_eq_true_eq, Bool.not_eq_true', decide_eq_false_iff_not]
 lia
def itV : Option Int → V
 | none => .non
 | some i => .int i
theorem oqP {H : Hp} (o : Option Int) : IsT H (iD o) (itV o) := by
 cases o with
 | none => exact .non
 | some x => exact .int _
theorem qqR (ds : List PyData) : PyData.eqv (.tuple ds) (.tuple []) = ds.isEmpty := by
 cases ds <;> simp [PyData.eqv, PyData.eqvAll]
theorem jqV {l : List Nat} : ((⟨l.toArray⟩ : Str) = ⟨#[]⟩) ↔ l = [] := cq7 (m := [])
def Bad (f : PyData → Bool) (H : Hp) (v : V) : Prop := ∃ d, Is H d v ∧ smallD d = true ∧ f d = false
def Bads (f : PyData → Bool) (H : Hp) (vs : List V) : Prop := ∀ v ∈ vs, Bad f H v
theorem Bads.cons {f : PyData → Bool} {H : Hp} {v : V} {vs : List V} (h : Bad f H v) (r : Bads f H vs) : Bads f H (v :: vs) := fun w hw => by
 rcases List.mem_cons.mp hw with rfl | hw
 ·exact h
 ·exact r w hw
theorem kqy {q : Addr} {H H' : Hp} {o : HO} (hq : H q = none) (sm : Same H H') : Same H (upd H' q o) := fun b u e => by
 rw [aqA (aqx e hq)]; exact sm _ _ e
def dg (i : Int) : List Nat := (Str.ofString (toString i)).cps.toList
theorem qqc {i : Int} (hi : 0 ≤ i) : ∀ c ∈ dg i, 48 ≤ c ∧ c ≤ 57 := by
 intro c hc
 obtain ⟨n, rfl⟩ := Int.eq_ofNat_of_zero_le hi
 unfold dg at hc
 rw [PySem.W.KIN.signs_num, List.mem_map] at hc
 obtain ⟨d, hd, rfl⟩ := hc
 have := Nat.isDigit_of_mem_toDigits (by decide) (by decide) hd
 simp only [Char.isDigit, Bool.and_eq_true, decide_eq_true_eq] at this
 exact ⟨this.1, this.2⟩
theorem qqq {i : Int} (hi : 0 ≤ i) (hi' : i ≤ 65535) : (dg i).length ≤ 5 := by
 have := PyProof.Rows.toString_length_le hi (k := 5) (by decide) (by lia)
 simpa [dg, Str.length] using this
def Hd (p : Nat → Bool) (r : List Nat) : Prop := ∀ c r', r = c :: r' → p c = true
theorem Hd.cons {p : Nat → Bool} {c : Nat} {r : List Nat} (h : p c = true) : Hd p (c :: r) := fun d r' e => by injection e with e; exact e ▸ h
def wch (c : Nat) : Bool := isPl c || decide (c = 126)
theorem oqe : ∀ n, n < 16 → isPl (hexd n) = true := by decide +kernel
theorem oqX {l : List Nat} (h : ∀ c ∈ l, isSg c = true) : ∀ c ∈ wr l, wch c = true := by
 intro c hc
 unfold wr at hc
 obtain ⟨d, hd, hc⟩ := List.mem_flatMap.mp hc
 have := dqb (h d hd)
 unfold wr1 at hc
 split at hc
 ·next hp => rw [List.mem_singleton] at hc; rw [hc, wch, hp]; rfl
 ·simp only [List.mem_cons, List.not_mem_nil, or_false] at hc
  rcases hc with rfl | rfl | rfl
  ·rfl
  ·rw [wch, oqe _ (by lia)]; rfl
  ·rw [wch, oqe _ (by lia)]; rfl
theorem jqn {c : Nat} (h : wch c = true) : c ≠ 35 ∧ c ≠ 38 ∧ c ≠ 47 ∧ c ≠ 58 ∧ c ≠ 61 ∧ c ≠ 63 := by
 refine ⟨?_, ?_, ?_, ?_, ?_, ?_⟩ <;> (rintro rfl; revert h; decide +kernel)
theorem nq8 {c : Nat} (h : isAln c = true) : wch c = true := by
 simp only [isAln, isLet, Bool.or_eq_true, decide_eq_true_eq] at h
 simp only [wch, isPl, Bool.or_eq_true, decide_eq_true_eq]
 lia
def tlT (sep : Nat) : List (List Nat) → List Nat
 | [] => []
 | s :: r => sep :: (s ++ tlT sep r)
def joinT (sep : Nat) : List (List Nat) → List Nat
 | [] => []
 | s :: r => s ++ tlT sep r
theorem qql {sep : Nat} {P : Nat → Prop} (hs : P sep) : ∀ {a : List (List Nat)}, (∀ s ∈ a, ∀ c ∈ s, P c) → ∀ c ∈ tlT sep a, P c
 | [], _, c, hc => by cases hc
 | s :: a, h, c, hc => by
  simp only [tlT, List.mem_cons, List.mem_append] at hc
  rcases hc with rfl | hc | hc
  ·exact hs
  ·exact h s (List.mem_cons_self ..) c hc
  ·exact qql hs (fun t ht => h t (List.mem_cons_of_mem _ ht)) c hc
theorem lq0 {sep : Nat} {P : Nat → Prop} (hs : P sep) {a : List (List Nat)} (h : ∀ s ∈ a, ∀ c ∈ s, P c) : ∀ c ∈ joinT sep a, P c := by
 intro c hc
 match a with
 | [] => cases hc
 | s :: a =>
  simp only [joinT, List.mem_append] at hc
  rcases hc with hc | hc
  ·exact h s (List.mem_cons_self ..) c hc
  ·exact qql hs (fun t ht => h t (List.mem_cons_of_mem _ ht)) c hc
def oT (sep : Nat) : Option (List Nat) → List Nat
 | none => []
 | some l => sep :: wr l
def pairT (p : List Nat × Option (List Nat)) : List Nat := wr p.1 ++ oT 61 p.2
def queT : Option (List (List Nat × Option (List Nat))) → List Nat
 | none => []
 | some ps => 63 :: joinT 38 (ps.map pairT)
def wayT (r : Bool) (ss : List (List Nat)) (e : Bool) : List Nat := (if r then [47] else []) ++ (joinT 47 (ss.map wr) ++ (if e && !ss.isEmpty then [47] else []))
def dooT : Option Int → List Nat
 | none => []
 | some i => 58 :: dg i
def houT : Option (List Nat) → List Nat
 | none => []
 | some l => 47 :: 47 :: wr l
def schT (s : List Nat) : List Nat := if s = [] then [] else s ++ [58]
def Ad.wayT (x : Ad) : List Nat := Wm.wayT x.rooted x.steps x.ends
def Ad.shw (x : Ad) : List Nat := schT x.scheme ++ (houT x.house ++ (dooT x.door ++ (x.wayT ++ (queT x.quest ++ oT 35 x.mark))))
theorem nqn {sep : Nat} {P : Nat → Prop} (hs : P sep) (hw : ∀ c, wch c = true → P c) {o : Option (List Nat)} (h : ∀ l, o = some l → ∀ c ∈ l, isSg c = true) : ∀ c ∈ oT sep o, P c := by
 intro c hc
 cases o with
 | none => cases hc
 | some l =>
  simp only [oT, List.mem_cons] at hc
  rcases hc with rfl | hc
  ·exact hs
  ·exact hw c (oqX (h l rfl) c hc)
def PairOk (p : List Nat × Option (List Nat)) : Prop := (0 < p.1.length ∧ ∀ c ∈ p.1, isSg c = true) ∧ ∀ v, p.2 = some v → ∀ c ∈ v, isSg c = true
theorem oqR {P : Nat → Prop} (hs : P 61) (hw : ∀ c, wch c = true → P c) {p : List Nat × Option (List Nat)} (h : PairOk p) : ∀ c ∈ pairT p, P c := by
 intro c hc
 rcases List.mem_append.mp hc with hc | hc
 ·exact hw c (oqX h.1.2 c hc)
 ·exact nqn hs hw h.2 c hc
def StepOk (s : List Nat) : Prop := 0 < s.length ∧ ∀ c ∈ s, isSg c = true
def stpT (ss : List (List Nat)) (e : Bool) : List Nat := joinT 47 (ss.map wr) ++ (if e && !ss.isEmpty then [47] else [])
theorem pqK (e : Bool) : stpT [] e = [] := by simp [stpT, joinT]
theorem nqe (r : Bool) (ss : List (List Nat)) (e : Bool) : wayT r ss e = (if r then [47] else []) ++ stpT ss e := rfl
structure Ad.Wf (x : Ad) : Prop where
 sch : x.scheme.length ≤ 8 ∧ (∀ c ∈ x.scheme, isAln c = true) ∧ ∀ c ∈ x.scheme.take 1, isLet c = true
 hou : ∀ l, x.house = some l → (0 < l.length ∧ l.length ≤ 60) ∧ ∀ c ∈ l, isSg c = true
 doo : ∀ i, x.door = some i → (0 ≤ i ∧ i ≤ 65535) ∧ x.house ≠ none
 stp : ∀ s ∈ x.steps, StepOk s
 roo : x.scheme ≠ [] ∨ x.house ≠ none → x.rooted = true
 end_ : x.steps = [] → x.ends = x.rooted
 que : ∀ ps, x.quest = some ps → ∀ p ∈ ps, PairOk p
 mar : ∀ l, x.mark = some l → ∀ c ∈ l, isSg c = true
theorem Ad.Ok.wf {x : Ad} (h : x.Ok) : x.Wf where
 sch := h.sch
 hou := fun l e => ⟨⟨(h.hou l e).1, (h.hou l e).2.1⟩, (h.hou l e).2.2⟩
 doo := h.doo
 stp := fun s hs => ⟨(h.stp.2 s hs).1, (h.stp.2 s hs).2.2⟩
 roo := h.roo
 end_ := h.end_
 que := fun ps e p hp => ⟨⟨((h.que ps e).2 p hp).1.1, ((h.que ps e).2 p hp).1.2.2⟩, fun v hv => (((h.que ps e).2 p hp).2 v hv).2⟩
 mar := fun l e => (h.mar l e).2
def Ad.mid (x : Ad) : List Nat := houT x.house ++ (dooT x.door ++ x.wayT)
def Ad.pre (x : Ad) : List Nat := schT x.scheme ++ x.mid
theorem Ad.shw_eq (x : Ad) : x.shw = (x.pre ++ queT x.quest) ++ oT 35 x.mark := by simp [Ad.shw, Ad.pre, Ad.mid]
theorem rqH {P : Nat → Prop} (hs : P 47) (hw : ∀ c, wch c = true → P c) {ss : List (List Nat)} {e : Bool} (h : ∀ s ∈ ss, StepOk s) : ∀ c ∈ stpT ss e, P c := by
 intro c hc
 rcases List.mem_append.mp hc with hc | hc
 ·refine lq0 hs (fun s hs' d hd => ?_) c hc
  obtain ⟨t, ht, rfl⟩ := List.mem_map.mp hs'
  exact hw d (oqX (h t ht).2 d hd)
 ·split at hc
  ·rw [List.mem_singleton.mp hc]; exact hs
  ·cases hc
theorem nq0 {P : Nat → Prop} (hs : P 47) (hw : ∀ c, wch c = true → P c) {r : Bool} {ss : List (List Nat)} {e : Bool} (h : ∀ s ∈ ss, StepOk s) : ∀ c ∈ wayT r ss e, P c := by
 intro c hc
 rw [nqe] at hc
 rcases List.mem_append.mp hc with hc | hc
 ·split at hc
  ·rw [List.mem_singleton.mp hc]; exact hs
  ·cases hc
 ·exact rqH hs hw h c hc
theorem qqz {c : Nat} (h : 48 ≤ c ∧ c ≤ 57) : wch c = true := by
 simp only [wch, isPl, Bool.or_eq_true, decide_eq_true_eq]; lia
theorem Ad.Wf.pre_all {P : Nat → Prop} {x : Ad} (h : x.Wf) (h1 : P 47) (h2 : P 58) (hw : ∀ c, wch c = true → P c) : ∀ c ∈ x.pre, P c := by
 intro c hc
 rcases List.mem_append.mp hc with hc | hc
 ·unfold schT at hc
  split at hc
  ·cases hc
  ·rcases List.mem_append.mp hc with hc | hc
   ·exact hw c (nq8 (h.sch.2.1 c hc))
   ·rw [List.mem_singleton.mp hc]; exact h2
 rcases List.mem_append.mp hc with hc | hc
 ·cases hh : x.house with
  | none => rw [hh] at hc; cases hc
  | some l =>
   rw [hh] at hc
   simp only [houT, List.mem_cons] at hc
   rcases hc with rfl | rfl | hc
   ·exact h1
   ·exact h1
   ·exact hw c (oqX (h.hou l hh).2 c hc)
 rcases List.mem_append.mp hc with hc | hc
 ·cases hd : x.door with
  | none => rw [hd] at hc; cases hc
  | some i =>
   rw [hd] at hc
   simp only [dooT, List.mem_cons] at hc
   rcases hc with rfl | hc
   ·exact h2
   ·exact hw c (qqz (qqc (h.doo i hd).1.1 c hc))
 ·exact nq0 h1 hw h.stp c hc
theorem Ad.Wf.nodoor {x : Ad} (h : x.Wf) (hh : x.house = none) : x.door = none := by
 cases hd : x.door with
 | none => rfl
 | some i => exact absurd hh (h.doo i hd).2
theorem lqL (l m : List Nat) : PyData.eqv (st l) (st m) = true ↔ l = m := by
 simp only [PyData.eqv, beq_iff_eq]; exact cq7
theorem nqy (a b : Option (List Nat)) : PyData.eqv (oD a) (oD b) = true ↔ a = b := by
 match a, b with
 | none, none => simp [oD, PyData.eqv]
 | none, some m => simp [oD, PyData.eqv]
 | some l, none => simp [oD, PyData.eqv]
 | some l, some m => exact (lqL l m).trans (by simp)
theorem sqP (a b : Option Int) : PyData.eqv (iD a) (iD b) = true ↔ a = b := by
 match a, b with
 | none, none => simp [iD, PyData.eqv]
 | none, some m => simp [iD, PyData.eqv]
 | some l, none => simp [iD, PyData.eqv]
 | some l, some m => simp [iD, PyData.eqv]
theorem dqo {α : Type} {f : α → PyData} (hf : ∀ a b, PyData.eqv (f a) (f b) = true ↔ a = b) : ∀ (l m : List α), PyData.eqvAll (l.map f) (m.map f) = true ↔ l = m
 | [], [] => by simp [PyData.eqvAll]
 | [], b :: m => by simp [PyData.eqvAll]
 | a :: l, [] => by simp [PyData.eqvAll]
 | a :: l, b :: m => by
  simp only [List.map_cons, PyData.eqvAll, Bool.and_eq_true, List.cons.injEq]
  rw [hf a b, dqo hf l m]
theorem sqI (a b : Option (List (List Nat × Option (List Nat)))) : PyData.eqv (qD a) (qD b) = true ↔ a = b := by
 match a, b with
 | none, none => simp [qD, PyData.eqv]
 | none, some m => simp [qD, PyData.eqv]
 | some l, none => simp [qD, PyData.eqv]
 | some l, some m =>
  simp only [qD, PyData.eqv, Option.some.injEq]
  refine dqo (fun a b => ?_) l m
  simp only [PyData.eqv, PyData.eqvAll, Bool.and_eq_true, Bool.and_true]
  rw [nqy, beq_iff_eq]
  exact ⟨fun h => Prod.ext (cq7.mp h.1) h.2, fun h => by rw [h]; exact ⟨rfl, rfl⟩⟩
theorem sqd (x y : Ad) : PyData.eqv x.way y.way = true ↔ x.rooted = y.rooted ∧ x.steps = y.steps ∧ x.ends = y.ends := by
 simp only [Ad.way, PyData.eqv, PyData.eqvAll, Bool.and_eq_true, Bool.and_true, beq_iff_eq]
 rw [dqo lqL]
theorem Ad.eqv_iff (x y : Ad) : PyData.eqv x.data y.data = true ↔ x = y := by
 simp only [Ad.data, PyData.eqv, PyData.eqvAll, Bool.and_eq_true, Bool.and_true, beq_iff_eq]
 rw [nqy, sqP, sqd, sqI, nqy]
 cases x; cases y
 simp only [Ad.mk.injEq]
 constructor
 ·rintro ⟨h1, h2, h3, ⟨h4, h5, h6⟩, h7, h8⟩
  exact ⟨cq7.mp h1, h2, h3, h4, h5, h6, h7, h8⟩
 ·rintro ⟨h1, h2, h3, h4, h5, h6, h7, h8⟩
  exact ⟨by rw [h1], h2, h3, ⟨h4, h5, h6⟩, h7, h8⟩
def LayAt (n : Nat) (d : PyData) : Prop := d.canLay0 = true ∧ d.depth ≤ n
theorem LayAt.shaped {n : Nat} {d : PyData} (h : LayAt n d) (hn : n ≤ 64) : SeqAt.shaped d = true := by
 unfold SeqAt.shaped; rw [h.1, decide_eq_true (Nat.le_trans h.2 hn)]; rfl
theorem LayAt.le {n m : Nat} {d : PyData} (h : LayAt n d) (hn : n ≤ m) : LayAt m d := ⟨h.1, Nat.le_trans h.2 hn⟩
theorem layAll {n : Nat} : ∀ {ds : List PyData}, (∀ d ∈ ds, LayAt n d) → PyData.canLayAll0 ds = true ∧ PyData.depthAll ds ≤ n
 | [], _ => ⟨rfl, Nat.zero_le _⟩
 | d :: ds, h => by
  obtain ⟨h1, h2⟩ := layAll (ds := ds) fun e he => h e (List.mem_cons_of_mem _ he)
  have := h d (List.mem_cons_self ..)
  simp only [PyData.canLayAll0, PyData.depthAll, this.1, h1, Bool.and_self, true_and]
  exact Nat.max_le.mpr ⟨this.2, h2⟩
theorem LayAt.tup {n : Nat} {ds : List PyData} (h : ∀ d ∈ ds, LayAt n d) : LayAt (n + 1) (.tuple ds) := by
 obtain ⟨h1, h2⟩ := layAll h
 exact ⟨by simp only [PyData.canLay0, h1], by simp only [PyData.depth]; lia⟩
theorem LayAt.st {l : List Nat} (h : ∀ c ∈ l, isSg c = true) : LayAt 0 (st l) := by
 refine ⟨?_, Nat.le_refl _⟩
 simp only [PyData.canLay0, PyData.strOk, List.all_toArray, List.all_eq_true, decide_eq_true_eq]
 intro c hc
 have := dqb (h c hc)
 lia
theorem LayAt.bool {b : Bool} : LayAt 0 (.bool b) := ⟨rfl, Nat.le_refl _⟩
theorem LayAt.oD {o : Option (List Nat)} (h : ∀ l, o = some l → ∀ c ∈ l, isSg c = true) : LayAt 0 (oD o) := by
 cases o with
 | none => exact ⟨rfl, Nat.le_refl _⟩
 | some l => exact .st (h l rfl)
theorem LayAt.iD {o : Option Int} : LayAt 0 (iD o) := by
 cases o with
 | none => exact ⟨rfl, Nat.le_refl _⟩
 | some l => exact ⟨rfl, Nat.le_refl _⟩
theorem LayAt.qD {q : Option (List (List Nat × Option (List Nat)))} (h : ∀ ps, q = some ps → ∀ p ∈ ps, PairOk p) : LayAt 2 (qD q) := by
 cases q with
 | none => exact ⟨rfl, Nat.zero_le _⟩
 | some ps =>
  refine .tup (n := 1) fun d hd => ?_
  obtain ⟨p, hp, rfl⟩ := List.mem_map.mp hd
  have hk := h ps rfl p hp
  refine .tup (n := 0) fun e he => ?_
  simp only [List.mem_cons, List.not_mem_nil, or_false] at he
  rcases he with rfl | rfl
  ·exact .st hk.1.2
  ·exact .oD hk.2
theorem Ad.Wf.layWay {x : Ad} (h : x.Wf) : LayAt 2 x.way := by
 refine .tup (n := 1) fun e he => ?_
 simp only [List.mem_cons, List.not_mem_nil, or_false] at he
 rcases he with rfl | rfl | rfl
 ·exact LayAt.bool.le (by decide)
 ·refine .tup (n := 0) fun d hd => ?_
  obtain ⟨s, hs, rfl⟩ := List.mem_map.mp hd
  exact .st (h.stp s hs).2
 ·exact LayAt.bool.le (by decide)
theorem Ad.Wf.lay {x : Ad} (h : x.Wf) : LayAt 3 x.data := by
 refine .tup (n := 2) fun e he => ?_
 simp only [List.mem_cons, List.not_mem_nil, or_false] at he
 rcases he with rfl | rfl | rfl | rfl | rfl | rfl
 ·exact (LayAt.st fun c hc => iqN (h.sch.2.1 c hc)).le (by decide)
 ·exact (LayAt.oD fun l e => (h.hou l e).2).le (by decide)
 ·exact LayAt.iD.le (by decide)
 ·exact h.layWay
 ·exact .qD h.que
 ·exact (LayAt.oD h.mar).le (by decide)
theorem Ad.Wf.shaped {x : Ad} (h : x.Wf) : SeqAt.shaped x.data = true := h.lay.shaped (by decide)
theorem qqb {H : Hp} {l : List Nat} {v : V} (h : IsT H (st l) v) : v = .str ⟨l.toArray⟩ := by cases h; rfl
theorem qqe {H : Hp} {o : Option (List Nat)} {v : V} (h : IsT H (oD o) v) : v = otV o := by
 cases o with
 | none => cases h; rfl
 | some l => exact qqb h
theorem sqo {H : Hp} {o : Option Int} {v : V} (h : IsT H (iD o) v) : v = itV o := by
 cases o with
 | none => cases h; rfl
 | some l => cases h; rfl
theorem qqJ {H : Hp} {ds : List PyData} {v : V} (h : IsT H (.tuple ds) v) : ∃ p xs, v = .ref p ∧ H p = some (.tup xs) ∧ IsTAll H ds xs := by
 cases h with
 | tup h1 h2 => exact ⟨_, _, rfl, h1, h2⟩
theorem isT6 {H : Hp} {a b c d e f : PyData} {v : V} (h : IsT H (.tuple [a, b, c, d, e, f]) v) : ∃ p x0 x1 x2 x3 x4 x5, v = .ref p ∧ H p = some (.tup [x0, x1, x2, x3, x4, x5]) ∧ IsT H a x0 ∧ IsT H b x1 ∧ IsT H c x2 ∧ IsT H d x3 ∧ IsT H e x4 ∧ IsT H f x5 := by
 obtain ⟨p, xs, rfl, hp, r⟩ := qqJ h
 cases r with
 | cons h1 r => cases r with
  | cons h2 r => cases r with
   | cons h3 r => cases r with
    | cons h4 r => cases r with
     | cons h5 r => cases r with
      | cons h6 r => cases r; exact ⟨p, _, _, _, _, _, _, rfl, hp, h1, h2, h3, h4, h5, h6⟩
end Wm
namespace Wm
structure Ad.Sz (x : Ad) : Prop where
 stp : ∀ s ∈ x.steps, s.length ≤ 2000
 que : ∀ ps, x.quest = some ps → ps.length ≤ 2000 ∧ ∀ p ∈ ps, p.1.length ≤ 2000 ∧ ∀ v, p.2 = some v → v.length ≤ 2000
 mar : ∀ l, x.mark = some l → l.length ≤ 2000
 num : x.steps.length ≤ 2000
 all : x.shw.length ≤ 90000
theorem lg {i : Int} (h : 0 ≤ i) (h' : i ≤ 65535) : i.natAbs.log2 < 1920 := by
 by_cases h0 : i.natAbs = 0
 ·rw [h0]; simp
 ·refine (Nat.log2_lt h0).mpr (Nat.lt_of_lt_of_le (show i.natAbs < 2 ^ 16 by lia) (Nat.pow_le_pow_right (by decide) (by decide)))
theorem qqo (i : Int) : PySem.Str.ofString (toString i) = ⟨(dg i).toArray⟩ := rfl
end Wm
namespace Wm
open PySem L2
theorem lqQ (sep : Nat) (ys : List (List Nat)) : Txt.join (⟨[sep].toArray⟩ : Str) (ys.map fun l => (⟨l.toArray⟩ : Str)) = ⟨(joinT sep ys).toArray⟩ := by
 show Builtin.Str.glued _ _ = _
 rw [StrLaws.glued_eq_join]
 induction ys with
 | nil => rfl
 | cons y r ih =>
  cases r with
  | nil =>
   show (⟨y.toArray⟩ : Str) = _
   simp [joinT, tlT]
  | cons z r =>
   show (⟨y.toArray⟩ : Str) ++ (⟨[sep].toArray⟩ : Str) ++ Str.join ⟨[sep].toArray⟩ ((z :: r).map fun l => (⟨l.toArray⟩ : Str)) = _
   rw [ih, iqx, iqx]
   simp [joinT, tlT]
theorem qqf {sep : Nat} : ∀ (ys : List (List Nat)), (tlT sep ys).length = (ys.map (·.length)).sum + ys.length
 | [] => rfl
 | y :: r => by simp only [tlT, List.length_cons, List.length_append, List.map_cons, List.sum_cons, qqf r]; lia
theorem lqX {sep : Nat} (ys : List (List Nat)) : (ys.map (·.length)).sum + ys.length ≤ (joinT sep ys).length + 1 := by
 cases ys with
 | nil => simp [joinT]
 | cons y r => simp only [joinT, List.length_append, List.map_cons, List.sum_cons, List.length_cons, qqf]; lia
theorem mqb {sep m : Nat} : ∀ {ys : List (List Nat)}, (∀ s ∈ ys, s.length ≤ m) → (tlT sep ys).length ≤ ys.length * (m + 1)
 | [], _ => by simp [tlT]
 | y :: r, h => by
  have h1 := h y (List.mem_cons_self ..)
  have h2 := mqb (sep := sep) (ys := r) fun s hs => h s (List.mem_cons_of_mem _ hs)
  simp only [tlT, List.length_cons, List.length_append, Nat.add_mul, Nat.one_mul]
  lia
theorem iqz {sep m : Nat} {ys : List (List Nat)} (h : ∀ s ∈ ys, s.length ≤ m) : (joinT sep ys).length ≤ ys.length * (m + 1) := by
 cases ys with
 | nil => simp [joinT]
 | cons y r =>
  have h1 := h y (List.mem_cons_self ..)
  have h2 := mqb (sep := sep) (ys := r) fun s hs => h s (List.mem_cons_of_mem _ hs)
  simp only [joinT, List.length_cons, List.length_append, Nat.add_mul, Nat.one_mul]
  lia
theorem qqn {sep n : Nat} {o : Option (List Nat)} (h : ∀ l, o = some l → l.length ≤ n) : (oT sep o).length ≤ 3 * n + 1 := by
 cases o with
 | none => simp [oT]
 | some l => have := h l rfl; have := gqk l; simp only [oT, List.length_cons]; lia
theorem mq7 (ts : List (List Nat)) : (ts.map fun l => (⟨l.toArray⟩ : Str)).map (·.length) = ts.map List.length := by
 rw [List.map_map]
 apply List.map_congr_left
 intro l _
 exact bqe l
theorem jqp {a : V} {r : List V} : atI (a :: r) 0 = some a := by
 unfold atI ixN
 simp
def slT (r : Bool) (ts : List (List Nat)) (e : Bool) : List Nat := (if r then [47] else []) ++ (joinT 47 ts ++ (if e && !ts.isEmpty then [47] else []))
theorem rq2 (r : Bool) (ss : List (List Nat)) (e : Bool) : wayT r ss e = slT r (ss.map wr) e := by
 unfold wayT slT
 simp
end Wm
namespace L2
open PySem
end L2
namespace Wm
open PySem L2
abbrev Stp := List Nat
def sUp : Stp := [46, 46]
def sStay : Stp := [46]
def isDot (s : Stp) : Bool := decide (s = sUp) || decide (s = sStay)
theorem eqP : sUp ≠ sStay := by decide
theorem fqa {s : Stp} : isDot s = false ↔ s ≠ sUp ∧ s ≠ sStay := by simp [isDot]
def fwd (r : Bool) (q : Nat × List Stp) (s : Stp) : Nat × List Stp :=
 if s = sUp then (match q.2 with | [] => (if r then q.1 else q.1 + 1, []) | _ :: t => (q.1, t))
 else if s = sStay then q else (q.1, s :: q.2)
def goneS (r : Bool) (ss : List Stp) : List Stp := List.replicate (ss.foldl (fwd r) (0, [])).1 sUp ++ (ss.foldl (fwd r) (0, [])).2.reverse
def bwd1 (s : Stp) (q : Nat × List Stp) : Nat × List Stp :=
 if s = sUp then (q.1 + 1, q.2) else if s ≠ sStay ∧ 0 < q.1 then (q.1 - 1, q.2) else if s ≠ sStay then (q.1, s :: q.2) else q
def bwd (ss : List Stp) : Nat × List Stp := ss.foldr bwd1 (0, [])
theorem gqV (s : Stp) (ss : List Stp) : bwd (s :: ss) = bwd1 s (bwd ss) := rfl
theorem fq3 (r : Bool) : ∀ (ss : List Stp) (u : Nat) (ns : List Stp),
  ss.foldl (fwd r) (u, ns) = (if r then u else u + ((bwd ss).1 - ns.length), (bwd ss).2.reverse ++ ns.drop (bwd ss).1)
 | [], u, ns => by simp [bwd]
 | s :: ss, u, ns => by
  rw [List.foldl_cons, gqV]
  by_cases h1 : s = sUp
  ·cases ns with
   | nil =>
    rw [show fwd r (u, []) s = (if r then u else u + 1, []) by simp [fwd, h1], fq3 r ss]
    cases r <;> simp [bwd1, h1]
    lia
   | cons a t =>
    rw [show fwd r (u, a :: t) s = (u, t) by simp [fwd, h1], fq3 r ss]
    simp [bwd1, h1]
  ·by_cases h2 : s = sStay
   ·rw [show fwd r (u, ns) s = (u, ns) by simp [fwd, h1, h2, eqP.symm], fq3 r ss]
    simp [bwd1, h2, eqP.symm]
   ·rw [show fwd r (u, ns) s = (u, s :: ns) by simp [fwd, h1, h2], fq3 r ss]
    by_cases h3 : 0 < (bwd ss).1
    ·obtain ⟨k, hk⟩ : ∃ k, (bwd ss).1 = k + 1 := ⟨(bwd ss).1 - 1, by lia⟩
     simp [bwd1, h1, h2, hk]
    ·have h0 : (bwd ss).1 = 0 := by lia
     simp [bwd1, h1, h2, h0]
theorem fqz (r : Bool) (ss : List Stp) : goneS r ss = (if r then [] else List.replicate (bwd ss).1 sUp) ++ (bwd ss).2 := by
 unfold goneS
 rw [fq3]
 cases r <;> simp
theorem lqo {ss : List Stp} : ∀ s ∈ (bwd ss).2, s ∈ ss ∧ isDot s = false := by
 induction ss with
 | nil => simp [bwd]
 | cons t ss ih =>
  intro s hs
  rw [gqV] at hs
  unfold bwd1 at hs
  split at hs
  ·exact ⟨List.mem_cons_of_mem _ (ih s hs).1, (ih s hs).2⟩
  ·next h1 =>
   split at hs
   ·exact ⟨List.mem_cons_of_mem _ (ih s hs).1, (ih s hs).2⟩
   ·split at hs
    ·next h2 =>
     rcases List.mem_cons.mp hs with rfl | hs
     ·exact ⟨List.mem_cons_self .., fqa.mpr ⟨h1, h2⟩⟩
     ·exact ⟨List.mem_cons_of_mem _ (ih s hs).1, (ih s hs).2⟩
    ·exact ⟨List.mem_cons_of_mem _ (ih s hs).1, (ih s hs).2⟩
theorem qq1 (ss : List Stp) : (bwd ss).1 + (bwd ss).2.length ≤ ss.length := by
 induction ss with
 | nil => simp [bwd]
 | cons t ss ih =>
  rw [gqV]
  unfold bwd1
  split
  ·simp; lia
  ·split
   ·simp; lia
   ·split <;> simp <;> lia
theorem gone_len (r : Bool) (ss : List Stp) : (goneS r ss).length ≤ ss.length := by
 rw [fqz]
 have := qq1 ss
 cases r <;> simp <;> lia
theorem jqy {r : Bool} {ss : List Stp} : ∀ s ∈ goneS r ss, s ∈ ss ∧ isDot s = false ∨ r = false ∧ s = sUp := by
 intro s hs
 rw [fqz] at hs
 rcases List.mem_append.mp hs with hs | hs
 ·cases r with
  | true => cases hs
  | false => exact .inr ⟨rfl, (List.mem_replicate.mp (by simpa using hs)).2⟩
 ·exact .inl (lqo s hs)
theorem mqC {ss : List Stp} : ∀ s ∈ goneS true ss, isDot s = false := fun s hs => by
 rcases jqy s hs with h | h
 ·exact h.2
 ·cases h.1
theorem dqh (r : Bool) : ∀ (ns : List Stp) (u : Nat) (t : List Stp), (∀ s ∈ ns, isDot s = false) → ns.foldl (fwd r) (u, t) = (u, ns.reverse ++ t)
 | [], u, t, _ => by simp
 | s :: ns, u, t, h => by
  have := fqa.mp (h s (List.mem_cons_self ..))
  rw [List.foldl_cons, show fwd r (u, t) s = (u, s :: t) by simp [fwd, this.1, this.2], dqh r ns u _ fun x hx => h x (List.mem_cons_of_mem _ hx)]
  simp
theorem mqj : ∀ (n u : Nat), (List.replicate n sUp).foldl (fwd false) (u, []) = (u + n, [])
 | 0, u => by simp
 | n + 1, u => by
  rw [List.replicate_succ, List.foldl_cons, show fwd false (u, []) sUp = (u + 1, []) by simp [fwd], mqj n (u + 1)]
  congr 1; lia
theorem gone_again (r : Bool) (ss : List Stp) : goneS r (goneS r ss) = goneS r ss := by
 rw [fqz r ss]
 have hn : ∀ s ∈ (bwd ss).2, isDot s = false := fun s hs => (lqo s hs).2
 cases r with
 | true =>
  simp only [if_true, List.nil_append]
  unfold goneS
  rw [dqh true _ _ _ hn]; simp
 | false =>
  simp only [Bool.false_eq_true, if_false]
  unfold goneS
  rw [List.foldl_append, mqj, dqh false _ _ _ hn]; simp
def lastDot (ss : List Stp) : Bool := match ss.getLast? with | some s => isDot s | none => false
def goneW (r : Bool) (ss : List Stp) (e : Bool) : Bool × List Stp × Bool :=
 if ss = [] then (r, [], e) else if goneS r ss = [] then (r, if r then [] else [sStay], true) else (r, goneS r ss, e || lastDot ss)
theorem pq7 (r : Bool) : goneS r [] = [] := by simp [goneS]
theorem nqZ (r : Bool) (ss : List Stp) (e : Bool) : (goneW r ss e).1 = r := by
 unfold goneW; split; rfl; split <;> rfl
theorem hqF {a b : List Stp} (h : b ≠ []) : lastDot (a ++ b) = lastDot b := by
 unfold lastDot; rw [List.getLast?_append]
 cases hb : b.getLast? with
 | none => exact absurd (List.getLast?_eq_none_iff.mp hb) h
 | some s => rfl
theorem gq1 {ss : List Stp} (h : ∀ s ∈ ss, isDot s = false) : lastDot ss = false := by
 unfold lastDot
 cases hl : ss.getLast? with
 | none => rfl
 | some s => exact h s (List.mem_of_getLast? hl)
theorem jq8 {r : Bool} {ss : List Stp} (h : lastDot (goneS r ss) = true) : lastDot ss = true := by
 rw [fqz] at h
 have hn : ∀ s ∈ (bwd ss).2, isDot s = false := fun s hs => (lqo s hs).2
 by_cases h2 : (bwd ss).2 = []
 ·rw [h2] at h
  cases r with
  | true => simp [lastDot] at h
  | false =>
   have hu : 0 < (bwd ss).1 := by
    by_cases h0 : (bwd ss).1 = 0
    ·simp [h0, lastDot] at h
    ·lia
   cases hl : ss.getLast? with
   | none => rw [List.getLast?_eq_none_iff.mp hl] at hu; simp [bwd] at hu
   | some s =>
    unfold lastDot; rw [hl]
    show isDot s = true
    cases hd : isDot s with
    | true => rfl
    | false =>
     exfalso
     obtain ⟨pre, hp⟩ : ∃ pre, ss = pre ++ [s] := List.getLast?_eq_some_iff.mp hl
     have key : ∀ (pre : List Stp), s ∈ (bwd (pre ++ [s])).2 := by
      intro pre
      have hs := fqa.mp hd
      induction pre with
      | nil => simp [bwd, bwd1, hs.1, hs.2]
      | cons t pre ih =>
       rw [List.cons_append, gqV]
       unfold bwd1
       split
       ·exact ih
       ·split
        ·exact ih
        ·split
         ·exact List.mem_cons_of_mem _ ih
         ·exact ih
     have := key pre
     rw [← hp, h2] at this; cases this
 ·rw [hqF h2, gq1 hn] at h; cases h
theorem lql (r : Bool) (ss : List Stp) (e : Bool) : goneW (goneW r ss e).1 (goneW r ss e).2.1 (goneW r ss e).2.2 = goneW r ss e := by
 by_cases h1 : ss = []
 ·simp [goneW, h1]
 ·by_cases h2 : goneS r ss = []
  ·cases r with
   | true => simp [goneW, h1, h2]
   | false =>
    have : goneS false [sStay] = [] := by decide
    simp [goneW, h1, h2, this]
  ·have h3 : goneW r ss e = (r, goneS r ss, e || lastDot ss) := by simp [goneW, h1, h2]
   rw [h3]
   show goneW r (goneS r ss) (e || lastDot ss) = _
   have : goneW r (goneS r ss) (e || lastDot ss) = (r, goneS r (goneS r ss), (e || lastDot ss) || lastDot (goneS r ss)) := by
    unfold goneW; rw [if_neg h2, gone_again, if_neg h2]
   rw [this, gone_again]
   cases hl : lastDot (goneS r ss) with
   | false => simp
   | true => rw [jq8 hl]; simp
def stk (q : Nat × List Stp) : List Stp := List.replicate q.1 sUp ++ q.2.reverse
def goUp (r : Bool) (L : List Stp) : List Stp :=
 match L.getLast? with
 | some s => if s = sUp then (if r then L else L ++ [sUp]) else L.dropLast
 | none => if r then L else L ++ [sUp]
def StkOk (r : Bool) (q : Nat × List Stp) : Prop := (r = true → q.1 = 0) ∧ ∀ s ∈ q.2, s ≠ sUp
theorem pqD {r : Bool} {q : Nat × List Stp} (h : StkOk r q) : goUp r (stk q) = stk (fwd r q sUp) := by
 obtain ⟨u, t⟩ := q
 obtain ⟨h1, h2⟩ := h
 dsimp only at h1 h2
 unfold fwd stk
 rw [if_pos rfl]
 cases t with
 | cons a t =>
  have ha := h2 a (List.mem_cons_self ..)
  simp only [List.reverse_cons]
  rw [← List.append_assoc]
  unfold goUp
  rw [List.getLast?_concat]
  simp only [if_neg ha, List.dropLast_concat]
 | nil =>
  cases r with
  | true =>
   have e := h1 rfl
   subst e
   simp [goUp]
  | false =>
   simp only [List.reverse_nil, List.append_nil, Bool.false_eq_true, if_false]
   cases u with
   | zero => simp [goUp]
   | succ u =>
    have e : List.replicate (u + 1) sUp = List.replicate u sUp ++ [sUp] := List.replicate_succ'
    have e2 : List.replicate (u + 1 + 1) sUp = List.replicate (u + 1) sUp ++ [sUp] := List.replicate_succ'
    rw [e2]
    unfold goUp
    rw [e, List.getLast?_concat]
    simp
theorem StkOk.fwd {r : Bool} {q : Nat × List Stp} (h : StkOk r q) (s : Stp) : StkOk r (fwd r q s) := by
 obtain ⟨u, t⟩ := q
 obtain ⟨h1, h2⟩ := h
 dsimp only at h1 h2
 unfold Wm.fwd
 by_cases e : s = sUp
 ·rw [if_pos e]
  cases t with
  | nil => exact ⟨fun z => by simp [z, h1 z], fun s hs => absurd hs (by simp)⟩
  | cons a t => exact ⟨h1, fun s hs => h2 s (List.mem_cons_of_mem _ hs)⟩
 ·rw [if_neg e]
  by_cases e2 : s = sStay
  ·rw [if_pos e2]; exact ⟨h1, h2⟩
  ·rw [if_neg e2]
   refine ⟨h1, fun x hx => ?_⟩
   rcases List.mem_cons.mp hx with rfl | hx
   ·exact e
   ·exact h2 x hx
theorem lqA (r : Bool) (q : Nat × List Stp) (s : Stp) : (stk (fwd r q s)).length ≤ (stk q).length + 1 := by
 obtain ⟨u, t⟩ := q
 unfold fwd stk
 by_cases e : s = sUp
 ·rw [if_pos e]
  cases t with
  | nil => cases r <;> simp
  | cons a t => simp; lia
 ·rw [if_neg e]
  by_cases e2 : s = sStay
  ·rw [if_pos e2]; simp
  ·rw [if_neg e2]; simp; lia
theorem rq9 {r : Bool} {q : Nat × List Stp} {s : Stp} (h1 : s ≠ sUp) (h2 : s ≠ sStay) : stk (fwd r q s) = stk q ++ [s] := by
 unfold fwd stk
 rw [if_neg h1, if_neg h2]; simp
theorem pqE {r : Bool} {q : Nat × List Stp} : fwd r q sStay = q := by
 unfold fwd
 rw [if_neg eqP.symm, if_pos rfl]
def sofar (r : Bool) (ss : List Stp) (i : Nat) : Nat × List Stp := (ss.take i).foldl (fwd r) (0, [])
theorem lq7 (r : Bool) (ss : List Stp) : ∀ i, StkOk r (sofar r ss i) ∧ (stk (sofar r ss i)).length ≤ i
 | 0 => by simp [sofar, StkOk, stk]
 | i + 1 => by
  obtain ⟨h1, h2⟩ := lq7 r ss i
  unfold sofar at *
  rw [List.take_add_one]
  cases e : ss[i]? with
  | none => simpa using ⟨h1, by lia⟩
  | some s =>
   rw [List.foldl_append]
   simp only [Option.toList_some, List.foldl_cons, List.foldl_nil]
   have := lqA r (List.foldl (fwd r) (0, []) (List.take i ss)) s
   exact ⟨h1.fwd s, by lia⟩
theorem mqS {r : Bool} {ss : List Stp} {i : Nat} {s : Stp} (h : ss[i]? = some s) : sofar r ss (i + 1) = fwd r (sofar r ss i) s := by
 unfold sofar
 rw [List.take_add_one, h, List.foldl_append]; rfl
theorem nq9 (r : Bool) (ss : List Stp) : stk (sofar r ss ss.length) = goneS r ss := by
 unfold sofar; rw [List.take_length]; rfl
end Wm
namespace L2
open PySem PySem.Spec PyProof.Rows HT
section
variable {prog : Program} {w : World} {A : Around} {E : Value → Shared → Prop} {s : Shared}
theorem fqE {t sl : Addr} {items : Array Value} {vl vu : Value} {lo hi : Option Int} {Q : Value → Shared → Prop} (ht : IsTup s.heap t items) (hs : s.heap.IsSliceOf sl vl vu .none) (pl : IsPart vl lo) (pu : IsPart vu hi)
  (hw : sIx items.size 0 lo = 0 ∧ sIx items.size items.size hi = items.size) (h : Q (.ref t) s) : wpAny (model prog w) A (getItem (.ref t) (.ref sl)) Q E s := by
 obtain ⟨os, hos, hcs, hds⟩ := id hs
 have hTs : s.TypeIs (.ref sl) "slice" := ⟨os, hos, hcs⟩
 unfold getItem
 try with_reducible refine wpAny_holding ?_
 first | refine wpAny_bind (wpAny_pure ?_) | skip
 refine wpAny_bind (wpAny_sequenceKey ht.typeIs (by decide) ?_)
 refine wpAny_bind (wpAny_callSpecial?_slot (name := Str.ofString "__getitem__") ht.typeIs PyProof.Rows.slot_tuple_getitem
  (wpAny_call_entry PyProof.Rows.slot_tuple_getitem ht.typeIs entry_tuple_getitem ?_ (args_tuple_getitem _ _)))
 show wpAny _ _ (Builtin.Tuple.tupleItemsOf (.ref t) >>= _) _ _ s
 refine wpAny_bind (tupleItemsOf_ ht ?_)
 refine wpAny_bind (wpAny_typeOf hTs ?_)
 rw [if_pos (by decide)]
 refine wpAny_bind (dq1 hs pl pu ?_)
 show wpAny _ _ (if (((sIx items.size 0 lo : Nat) : Int) == 0 && (1 : Int) == 1 && (sIx items.size items.size hi - sIx items.size 0 lo) == items.size) = true then _ else _) _ _ s
 rw [if_pos (by rw [hw.1, hw.2]; simp)]
 refine wpAny_bind ?_
 show wpAny _ _ (typeOf (.ref t) >>= _) _ _ s
 refine wpAny_bind (wpAny_typeOf ht.typeIs (wpAny_pure ?_))
 rw [if_pos (by decide)]
 exact wpAny_bind (wpAny_rule (wpAny_pure ⟨_, rfl, wpAny_pure h⟩))
end
section
variable {X : Cx} {K : PySem.W.Frag}
def rSlTA : V → Option Int → Option Int → Hp → VK → Prop := fun x lo hi H Q => ∃ a xs, x = .ref a ∧ H a = some (.tup xs) ∧ ∀ p H', Same H H' → H' p = some (.tup (cutV xs lo hi)) → Q (.ref p) H'
theorem mq1 {xs : List V} {lo hi : Option Int} (h : sIx xs.length 0 lo = 0 ∧ sIx xs.length xs.length hi = xs.length) : cutV xs lo hi = xs := by
 unfold cutV
 rw [h.1, h.2, List.drop_zero, Nat.sub_zero, List.take_length]
theorem pqL {a : Addr} {lo hi : Option Int} {H : Hp} {Q : VK} : rSlTA (.ref a) lo hi H Q ↔ ∃ xs, H a = some (.tup xs) ∧ ∀ p H', Same H H' → H' p = some (.tup (cutV xs lo hi)) → Q (.ref p) H' := by
 constructor
 ·rintro ⟨p, bs, h1, h2⟩; cases h1; exact ⟨bs, h2⟩
 ·rintro ⟨bs, h⟩; exact ⟨a, bs, rfl, h⟩
end
mutual
inductive IsK (K : PySem.W.Frag) (H : Hp) : PyData → V → Prop
 | non : IsK K H .none .non
 | bl (b : Bool) : IsK K H (.bool b) (.bl b)
 | int (i : Int) : IsK K H (.int i) (.int i)
 | str (x : Str) : IsK K H (.str x) (.str x)
 | tup {p : Addr} {xs : List V} {ds : List PyData} : SqT K H p xs → IsKAll K H ds xs → IsK K H (.tuple ds) (.ref p)
inductive IsKAll (K : PySem.W.Frag) (H : Hp) : List PyData → List V → Prop
 | nil : IsKAll K H [] []
 | cons {d : PyData} {x : V} {ds : List PyData} {xs : List V} : IsK K H d x → IsKAll K H ds xs → IsKAll K H (d :: ds) (x :: xs)
end
section
variable {K : PySem.W.Frag} {H H' : Hp}
mutual
theorem IsK.mono (sm : Same H H') : ∀ {d : PyData} {x : V}, IsK K H d x → IsK K H' d x
 | _, _, .non => .non
 | _, _, .bl b => .bl b
 | _, _, .int i => .int i
 | _, _, .str x => .str x
 | _, _, .tup h r => .tup (sm.tup h) (IsKAll.mono sm r)
theorem IsKAll.mono (sm : Same H H') : ∀ {ds : List PyData} {xs : List V}, IsKAll K H ds xs → IsKAll K H' ds xs
 | _, _, .nil => .nil
 | _, _, .cons h r => .cons (IsK.mono sm h) (IsKAll.mono sm r)
end
mutual
theorem IsT.k : ∀ {d : PyData} {x : V}, IsT H d x → IsK K H d x
 | _, _, .non => .non
 | _, _, .bl b => .bl b
 | _, _, .int i => .int i
 | _, _, .str x => .str x
 | _, _, .tup h r => .tup (SqT.of h) (IsTAll.k r)
theorem IsTAll.k : ∀ {ds : List PyData} {xs : List V}, IsTAll H ds xs → IsKAll K H ds xs
 | _, _, .nil => .nil
 | _, _, .cons h r => .cons (IsT.k h) (IsTAll.k r)
end
end
section
variable {X : Cx} {pins : List (Addr × Obj)} {σ : St} {H : Hp} {s : Shared}
mutual
theorem IsK.reads (I : Inv X pins σ H s) : ∀ {d : PyData} {x : V} {v : Value}, IsK X.K H d x → RelV x v → ∃ as, Reads s.heap v d as
 | _, _, _, .non, r => by cases r; exact ⟨_, .none⟩
 | _, _, _, .bl b, r => by cases r; exact ⟨_, .bool b⟩
 | _, _, _, .int i, r => by obtain ⟨t, rfl⟩ := r; exact ⟨_, .int i t⟩
 | _, _, _, .str x, r => by obtain ⟨t, rfl⟩ := r; exact ⟨_, .str x t⟩
 | _, _, _, .tup h q, r => by
  cases r
  obtain ⟨its, vs, ⟨o, e, c, n, dt⟩, _⟩ := I.tuple h
  obtain ⟨as, ra⟩ := IsKAll.reads I q vs
  exact ⟨_, .tuple e c dt (by simpa using ra)⟩
theorem IsKAll.reads (I : Inv X pins σ H s) : ∀ {ds : List PyData} {xs : List V} {vs : List Value}, IsKAll X.K H ds xs → Vals xs vs → ∃ as, ReadsAll s.heap vs ds as
 | _, _, _, .nil, r => by cases r; exact ⟨_, .nil⟩
 | _, _, _, .cons q t, r => by
  cases r with
  | cons r1 r2 =>
   obtain ⟨as, h1⟩ := IsK.reads I q r1
   obtain ⟨bs, h2⟩ := IsKAll.reads I t r2
   exact ⟨_, .cons h1 h2⟩
end
variable {K : PySem.W.Frag}
def rEqX (K : PySem.W.Frag) : R2 := fun x y H Q => ∃ d e, IsK K H d x ∧ IsK K H e y ∧ SeqAt.shaped d = true ∧ SeqAt.shaped e = true ∧ Q (.bl (PyData.eqv d e)) H
def rNeX (K : PySem.W.Frag) : R2 := fun x y H Q => ∃ d e, IsK K H d x ∧ IsK K H e y ∧ SeqAt.shaped d = true ∧ SeqAt.shaped e = true ∧ Q (.bl (!PyData.eqv d e)) H
theorem jqN (hk : X.K = K) (hu : X.A.units + 64 < cLine) : OpR X (compareOp .Eq) (rEqX K) := by
 subst hk
 intro pins s σ H x y v u Q I rx ry h
 obtain ⟨d, e, hx, hy, sx, sy, q⟩ := h
 obtain ⟨as, ra⟩ := hx.reads I rx
 obtain ⟨bs, rb⟩ := hy.reads I ry
 exact eq_dataH ra rb sx sy hu ⟨.bl _, H, I, rfl, q⟩
theorem qqh (hk : X.K = K) (hu : X.A.units + 64 < cLine) : OpR X (compareOp .NotEq) (rNeX K) := by
 subst hk
 intro pins s σ H x y v u Q I rx ry h
 obtain ⟨d, e, hx, hy, sx, sy, q⟩ := h
 obtain ⟨as, ra⟩ := hx.reads I rx
 obtain ⟨bs, rb⟩ := hy.reads I ry
 exact ne_dataH ra rb sx sy hu ⟨.bl _, H, I, rfl, q⟩
def rSlX (K : PySem.W.Frag) : V → Option Int → Option Int → Hp → VK → Prop := fun x lo hi H Q => ∃ a xs, x = .ref a ∧ SqT K H a xs ∧ ∀ p H', Same H H' → SqT K H' p (cutV xs lo hi) → Q (.ref p) H'
theorem cqu (hk : X.K = K) : SlR X (rSlX K) := by
 subst hk
 intro pins s σ H x v vl vu lo hi sl Q I rx hs pl pu h
 obtain ⟨a, xs, rfl, hx, q⟩ := h
 by_cases hw : sIx xs.length 0 lo = 0 ∧ sIx xs.length xs.length hi = xs.length
 ·cases rx
  obtain ⟨its, r, ht, hz⟩ := I.tuple hx
  have hlen : its.toArray.size = xs.length := by rw [List.size_toArray]; exact r.length.symm
  refine ⟨"tuple", _, PyProof.Rows.slot_tuple_getitem.lookup, ht.typeIs, ?_⟩
  exact fqE ht hs pl pu (by rw [hlen]; exact hw) ⟨.ref a, H, I, rfl, q a H (Same.refl _) (by rw [mq1 hw]; exact hx)⟩
 ·exact sqV pins s σ H _ v vl vu lo hi sl Q I rx hs pl pu ⟨a, xs, rfl, hx, hw, fun p hp => q p _ (aqU hp) (SqT.of aqk)⟩
theorem rqB {a : Addr} {lo hi : Option Int} {H : Hp} {Q : VK} : rSlX K (.ref a) lo hi H Q ↔ ∃ xs, SqT K H a xs ∧ ∀ p H', Same H H' → SqT K H' p (cutV xs lo hi) → Q (.ref p) H' := by
 constructor
 ·rintro ⟨p, bs, h1, h2⟩; cases h1; exact ⟨bs, h2⟩
 ·rintro ⟨bs, h⟩; exact ⟨a, bs, rfl, h⟩
def rCatX (K : PySem.W.Frag) : R2 := fun x y H Q => ∃ a b xs ys, x = .ref a ∧ y = .ref b ∧ SqT K H a xs ∧ SqT K H b ys ∧ xs.length + ys.length ≤ sizeLine ∧ ∀ p H', Same H H' → SqT K H' p (xs ++ ys) → Q (.ref p) H'
theorem dqG (hk : X.K = K) : OpR X (binaryOp .Add) (rCatX K) := by
 subst hk
 intro pins s σ H x y v u Q I rx ry h
 obtain ⟨a, b, xs, ys, rfl, rfl, ha, hb, hz, q⟩ := h
 by_cases hx : xs = []
 ·subst hx
  cases rx
  cases ry
  obtain ⟨its, r1, p1, _⟩ := I.tuple ha
  obtain ⟨its2, r2, p2, _⟩ := I.tuple hb
  cases r1
  obtain ⟨⟨cls, dd, data, sl⟩, ho, hc, n, hd⟩ := id p1
  obtain ⟨⟨cls2, dd2, data2, sl2⟩, ho2, hc2, n2, hd2⟩ := id p2
  simp only at hc hd hc2 hd2
  subst hc hd hc2 hd2
  exact concat_meets ⟨_, ho, rfl⟩ ⟨_, ho2, rfl⟩ noFill_tuple_add seq_tuple_add PySem.F.slot_tuple_add PySem.F.entry_tuple_add (PySem.F.args_tuple_add_2 _ _)
   (tuple_addW0 a b ([] : List Value).toArray its2.toArray n n2 dd dd2 sl sl2 rfl) ⟨ho, ho2, ⟨.ref b, H, I, rfl, q b H (Same.refl _) hb⟩⟩
 ·refine nqF pins s σ H _ _ v u Q I rx ry ⟨a, b, xs, ys, rfl, rfl, ha, hb, hx, hz, fun e => q a H (Same.refl _) (by rw [e, List.append_nil]; exact ha), fun _ p hp => q p _ (aqU hp) (SqT.of aqk)⟩
theorem pqS {a b : Addr} {H : Hp} {Q : VK} : rCatX K (.ref a) (.ref b) H Q ↔ ∃ xs ys, SqT K H a xs ∧ SqT K H b ys ∧ xs.length + ys.length ≤ sizeLine ∧ ∀ p H', Same H H' → SqT K H' p (xs ++ ys) → Q (.ref p) H' := by
 constructor
 ·rintro ⟨p, p', xs, ys, h1, h2, h3⟩; cases h1; cases h2; exact ⟨xs, ys, h3⟩
 ·rintro ⟨xs, ys, h⟩; exact ⟨a, b, xs, ys, rfl, rfl, h⟩
def KindK (K : PySem.W.Frag) (H : Hp) (x : V) (k : String) : Prop := kindV x H = some k ∨ ∃ a xs, x = .ref a ∧ SqT K H a xs ∧ k = "tuple"
theorem KindK.tup {K : PySem.W.Frag} {H : Hp} {a : Addr} {xs : List V} (h : SqT K H a xs) : KindK K H (.ref a) "tuple" := .inr ⟨a, xs, rfl, h, rfl⟩
def rIsiX (K : PySem.W.Frag) : List V → Hp → VK → Prop := fun vs H Q => match vs with
 | [x, .ty T] => ∃ k, KindK K H x k ∧ T ∈ ["bool", "int", "str", "list", "tuple"] ∧ Q (.bl (subT k T)) H
 | _ => False
theorem pqN {x : V} {T : String} {H : Hp} {Q : VK} : (rIsiX K [x, .ty T] H Q) = (∃ k, KindK K H x k ∧ T ∈ ["bool", "int", "str", "list", "tuple"] ∧ Q (.bl (subT k T)) H) := rfl
end
end L2
namespace Wm
open PySem L2
section
variable {K : PySem.W.Frag} {H : Hp}
theorem lq8 {l : List Nat} {v : V} (h : IsK K H (st l) v) : v = .str ⟨l.toArray⟩ := by cases h; rfl
theorem oqO {o : Option (List Nat)} {v : V} (h : IsK K H (oD o) v) : v = otV o := by
 cases o with
 | none => cases h; rfl
 | some l => exact lq8 h
theorem sqF {o : Option Int} {v : V} (h : IsK K H (iD o) v) : v = itV o := by
 cases o with
 | none => cases h; rfl
 | some l => cases h; rfl
theorem lqE {b : Bool} {v : V} (h : IsK K H (.bool b) v) : v = .bl b := by cases h; rfl
theorem eqD {ds : List PyData} {v : V} (h : IsK K H (.tuple ds) v) : ∃ p xs, v = .ref p ∧ SqT K H p xs ∧ IsKAll K H ds xs := by
 cases h with
 | tup h1 h2 => exact ⟨_, _, rfl, h1, h2⟩
theorem isK2 {a b : PyData} {v : V} (h : IsK K H (.tuple [a, b]) v) : ∃ p x y, v = .ref p ∧ SqT K H p [x, y] ∧ IsK K H a x ∧ IsK K H b y := by
 obtain ⟨p, xs, rfl, hp, r⟩ := eqD h
 cases r with
 | cons h1 r => cases r with
  | cons h2 r => cases r; exact ⟨p, _, _, rfl, hp, h1, h2⟩
theorem isK3 {a b c : PyData} {v : V} (h : IsK K H (.tuple [a, b, c]) v) : ∃ p x y z, v = .ref p ∧ SqT K H p [x, y, z] ∧ IsK K H a x ∧ IsK K H b y ∧ IsK K H c z := by
 obtain ⟨p, xs, rfl, hp, r⟩ := eqD h
 cases r with
 | cons h1 r => cases r with
  | cons h2 r => cases r with
   | cons h3 r => cases r; exact ⟨p, _, _, _, rfl, hp, h1, h2, h3⟩
theorem isK6 {a b c d e f : PyData} {v : V} (h : IsK K H (.tuple [a, b, c, d, e, f]) v) : ∃ p x0 x1 x2 x3 x4 x5, v = .ref p ∧ SqT K H p [x0, x1, x2, x3, x4, x5] ∧ IsK K H a x0 ∧ IsK K H b x1 ∧ IsK K H c x2 ∧ IsK K H d x3 ∧ IsK K H e x4 ∧ IsK K H f x5 := by
 obtain ⟨p, xs, rfl, hp, r⟩ := eqD h
 cases r with
 | cons h1 r => cases r with
  | cons h2 r => cases r with
   | cons h3 r => cases r with
    | cons h4 r => cases r with
     | cons h5 r => cases r with
      | cons h6 r => cases r; exact ⟨p, _, _, _, _, _, _, rfl, hp, h1, h2, h3, h4, h5, h6⟩
theorem jqT : ∀ {ss : List (List Nat)} {xs : List V}, IsKAll K H (ss.map st) xs → xs = ss.map fun l => V.str ⟨l.toArray⟩
 | [], _, h => by cases h; rfl
 | s :: ss, _, h => by
  cases h with
  | cons h1 h2 => rw [lq8 h1, jqT h2]; rfl
theorem jq2 : ∀ (ss : List (List Nat)), IsKAll K H (ss.map st) (ss.map fun l => V.str ⟨l.toArray⟩)
 | [] => .nil
 | s :: ss => .cons (.str _) (jq2 ss)
theorem sqx (o : Option (List Nat)) : IsK K H (oD o) (otV o) := (kqf o).k
theorem tqV (o : Option Int) : IsK K H (iD o) (itV o) := (oqP o).k
theorem hqY {r e : Bool} {ss : List (List Nat)} {v : V} (h : IsK K H (.tuple [.bool r, .tuple (ss.map st), .bool e]) v) : ∃ p q, v = .ref p ∧ SqT K H p [.bl r, .ref q, .bl e] ∧ SqT K H q (ss.map fun l => V.str ⟨l.toArray⟩) := by
 obtain ⟨p, x, y, z, rfl, hp, h1, h2, h3⟩ := isK3 h
 cases lqE h1
 cases lqE h3
 obtain ⟨q, xs, rfl, hq, r⟩ := eqD h2
 cases jqT r
 exact ⟨p, q, rfl, hp, hq⟩
theorem wayK {r e : Bool} {ss : List (List Nat)} {p q : Addr} (hp : SqT K H p [.bl r, .ref q, .bl e]) (hq : SqT K H q (ss.map fun l => V.str ⟨l.toArray⟩)) : IsK K H (.tuple [.bool r, .tuple (ss.map st), .bool e]) (.ref p) :=
 .tup hp (.cons (.bl _) (.cons (.tup hq (jq2 _)) (.cons (.bl _) .nil)))
theorem cqa {x : Ad} {v : V} (h : IsK K H x.data v) : ∃ p w q, v = .ref p ∧ SqT K H p [.str ⟨x.scheme.toArray⟩, otV x.house, itV x.door, w, q, otV x.mark] ∧ IsK K H x.way w ∧ IsK K H (qD x.quest) q := by
 obtain ⟨p, x0, x1, x2, x3, x4, x5, rfl, hp, i0, i1, i2, i3, i4, i5⟩ := isK6 (show IsK K H (.tuple [st x.scheme, oD x.house, iD x.door, x.way, qD x.quest, oD x.mark]) v from h)
 cases lq8 i0
 cases oqO i1
 cases sqF i2
 cases oqO i5
 exact ⟨p, x3, x4, rfl, hp, i3, i4⟩
theorem adK {x : Ad} {p : Addr} {w q : V} (hp : SqT K H p [.str ⟨x.scheme.toArray⟩, otV x.house, itV x.door, w, q, otV x.mark]) (hw : IsK K H x.way w) (hq : IsK K H (qD x.quest) q) : IsK K H x.data (.ref p) :=
 .tup hp (.cons (.str _) (.cons (sqx _) (.cons (tqV _) (.cons hw (.cons hq (.cons (sqx _) .nil))))))
end
end Wm
namespace L2
open PySem PySem.Spec PyProof.Rows
def pickV {α : Type} (xs : List α) (lo hi st : Option Int) : List α :=
 (sliceRange (sliceBounds lo hi st xs.length).1 (sliceBounds lo hi st xs.length).2.1 (sliceBounds lo hi st xs.length).2.2).filterMap fun i => xs[i]?
section
variable {X : Cx}
def tSl3 (K : PySem.W.Frag) (te : TE) (tl th ts : TO) : TE := fun σ H Q => te σ H fun x H1 => tl σ H1 fun l H2 => th σ H2 fun u H3 => ts σ H3 fun k H4 =>
 ∃ a xs, x = .ref a ∧ SqL K H4 a xs ∧ k ≠ some 0 ∧ (pickV xs l u k).length ≤ sizeLine ∧ ∀ p, H4 p = none → Q (.ref p) (upd H4 p (.lst (pickV xs l u k)))
end
theorem tqB {K : PySem.W.Frag} {te : TE} {tl th ts : TO} {σ : St} {H : Hp} {Q : VK} : tSl3 K te tl th ts σ H Q ↔ te σ H fun x H1 => tl σ H1 fun l H2 => th σ H2 fun u H3 => ts σ H3 fun k H4 =>
 ∃ a xs, x = .ref a ∧ SqL K H4 a xs ∧ k ≠ some 0 ∧ (pickV xs l u k).length ≤ sizeLine ∧ ∀ p, H4 p = none → Q (.ref p) (upd H4 p (.lst (pickV xs l u k))) := Iff.rfl
end L2
namespace Wm
open PySem L2
abbrev Way := Bool × List Stp × Bool
def Ad.w (x : Ad) : Way := (x.rooted, x.steps, x.ends)
def Ad.withWay (x : Ad) (w : Way) : Ad := { x with rooted := w.1, steps := w.2.1, ends := w.2.2 }
def goneV (w : Way) : Way := goneW w.1 w.2.1 w.2.2
def Ad.gone (x : Ad) : Ad := x.withWay (goneV x.w)
theorem dqH (w : Way) : goneV (goneV w) = goneV w := lql w.1 w.2.1 w.2.2
theorem Ad.gone_w (x : Ad) : x.gone.w = goneV x.w := rfl
theorem Ad.gone_again (x : Ad) : x.gone.gone = x.gone := by
 show (x.withWay (goneV x.w)).withWay (goneV (x.withWay (goneV x.w)).w) = _
 rw [show (x.withWay (goneV x.w)).w = goneV x.w from rfl, dqH]
 rfl
def holder (w : Way) : List Stp := if (goneV w).2.2 then (goneV w).2.1 else (goneV w).2.1.dropLast
def resM (b x : Ad) : Ad :=
 if x.scheme ≠ [] then x.gone
 else if x.house ≠ none then ({ x with scheme := b.scheme } : Ad).gone
 else if x.rooted = true then ({ x with scheme := b.scheme, house := b.house, door := b.door } : Ad).gone
 else if x.steps ≠ [] then ({ x with scheme := b.scheme, house := b.house, door := b.door, rooted := true, steps := holder b.w ++ x.steps } : Ad).gone
 else ({ b with quest := (if x.quest = none then b.quest else x.quest), mark := x.mark } : Ad).gone
def comm : List Stp → List Stp → Nat
 | a :: l, b :: m => if a = b then comm l m + 1 else 0
 | _, _ => 0
def lastW (g : Way) : List Stp := if (goneV g).2.2 then [] else (goneV g).2.1.drop ((goneV g).2.1.length - 1)
def betw0 (b g : Way) : List Stp := List.replicate ((holder b).length - comm (holder b) (holder g)) sUp ++ (holder g).drop (comm (holder b) (holder g)) ++ lastW g
def betw (b g : Way) : List Stp := if betw0 b g = [] then [sStay] else betw0 b g
def relM (b g : Ad) : Ad :=
 if g.scheme ≠ b.scheme ∨ (g.house = none ∧ b.house ≠ none) then g.gone
 else if g.house ≠ b.house ∨ g.door ≠ b.door then { g.gone with scheme := [] }
 else if b.gone.w = g.gone.w ∧ (g.quest ≠ none ∨ b.quest = none) then { scheme := [], house := none, door := none, rooted := false, steps := [], ends := false, quest := (if g.quest = b.quest then none else g.quest), mark := g.mark }
 else { scheme := [], house := none, door := none, rooted := false, steps := betw b.w g.w, ends := (goneV g.w).2.2, quest := g.quest, mark := g.mark }
theorem nqm (ss : List Stp) (t : List Stp) : ss.foldl (fwd true) (0, t) = (0, (bwd ss).2.reverse ++ t.drop (bwd ss).1) := by rw [fq3]; simp
theorem iqw (ss : List Stp) : ss.foldl (fwd true) (0, []) = (0, (goneS true ss).reverse) := by
 rw [nqm, fqz]; simp
theorem mqg (a b : List Stp) : goneS true (a ++ b) = ((b.foldl (fwd true) (0, (goneS true a).reverse)).2).reverse := by
 have h : (a ++ b).foldl (fwd true) (0, []) = b.foldl (fwd true) (0, (goneS true a).reverse) := by rw [List.foldl_append, iqw]
 have h2 := iqw (a ++ b)
 rw [h] at h2; rw [h2]; simp
theorem fqT {a : List Stp} (h : ∀ s ∈ a, isDot s = false) : goneS true a = a := by
 unfold goneS; rw [dqh true a 0 [] h]; simp
theorem pops : ∀ (n : Nat) (t : List Stp), (List.replicate n sUp).foldl (fwd true) (0, t) = (0, t.drop n)
 | 0, t => by simp
 | n + 1, [] => by
  rw [List.replicate_succ, List.foldl_cons, show fwd true (0, []) sUp = (0, []) by simp [fwd], pops n []]; simp
 | n + 1, a :: t => by
  rw [List.replicate_succ, List.foldl_cons, show fwd true (0, a :: t) sUp = (0, t) by simp [fwd], pops n t]; simp
theorem jqd : ∀ (h t : List Stp), comm h t ≤ h.length
 | [], t => by simp [comm]
 | a :: l, [] => by simp [comm]
 | a :: l, b :: m => by
  unfold comm
  split
  ·have := jqd l m; simp; lia
  ·simp
theorem jqX : ∀ (h t : List Stp), h.take (comm h t) = t.take (comm h t)
 | [], t => by simp [comm]
 | a :: l, [] => by simp [comm]
 | a :: l, b :: m => by
  unfold comm
  split
  ·next e => simp [e, jqX l m]
  ·simp
theorem pqM (h : List Stp) {k : Nat} (hk : k ≤ h.length) : h.reverse.drop (h.length - k) = (h.take k).reverse := by
 rw [List.drop_reverse]; congr 2; lia
theorem nqs {h t l : List Stp} (hh : ∀ s ∈ h, isDot s = false) (ht : ∀ s ∈ t, isDot s = false) (hl : ∀ s ∈ l, isDot s = false) :
  goneS true (h ++ (List.replicate (h.length - comm h t) sUp ++ t.drop (comm h t) ++ l)) = t ++ l := by
 rw [mqg, fqT hh, List.append_assoc, List.foldl_append, pops, pqM h (jqd h t)]
 rw [dqh true (t.drop (comm h t) ++ l) 0 _ (fun s hs => by
  rcases List.mem_append.mp hs with hs | hs
  ·exact ht s (List.mem_of_mem_drop hs)
  ·exact hl s hs)]
 simp only [List.reverse_append, List.reverse_reverse, List.append_assoc]
 rw [jqX h t, ← List.append_assoc, List.take_append_drop]
theorem fqX {w : Way} (h : w.1 = true) (he : w.2.1 = [] → w.2.2 = true) : (goneV w).1 = true ∧ (goneV w).2.1 = goneS true w.2.1 ∧ (∀ s ∈ (goneV w).2.1, isDot s = false) ∧ ((goneV w).2.1 = [] → (goneV w).2.2 = true) := by
 obtain ⟨r, ss, e⟩ := w
 cases h
 show (goneW true ss e).1 = true ∧ (goneW true ss e).2.1 = goneS true ss ∧ (∀ s ∈ (goneW true ss e).2.1, isDot s = false) ∧ ((goneW true ss e).2.1 = [] → (goneW true ss e).2.2 = true)
 unfold goneW
 by_cases h1 : ss = []
 ·rw [if_pos h1]
  refine ⟨rfl, by rw [h1, pq7], by simp, fun _ => he h1⟩
 ·rw [if_neg h1]
  by_cases h2 : goneS true ss = []
  ·rw [if_pos h2]; exact ⟨rfl, by simp [h2], by simp, fun _ => rfl⟩
  ·rw [if_neg h2]; exact ⟨rfl, rfl, mqC, fun h => absurd h h2⟩
theorem gqo {w : Way} (h : w.1 = true) (he : w.2.1 = [] → w.2.2 = true) : ∀ s ∈ holder w, isDot s = false := fun s hs => by
 have := (fqX h he).2.2.1
 unfold holder at hs
 split at hs
 ·exact this s hs
 ·exact this s (List.dropLast_subset _ hs)
theorem lqm {w : Way} : holder w ++ lastW w = (goneV w).2.1 := by
 unfold holder lastW
 split
 ·simp
 ·rw [List.dropLast_eq_take, List.take_append_drop]
theorem nqU {b g : Way} (hb : b.1 = true) (hbe : b.2.1 = [] → b.2.2 = true) (hg : g.1 = true) (hge : g.2.1 = [] → g.2.2 = true) :
  goneV (true, holder b ++ betw b g, (goneV g).2.2) = goneV g := by
 obtain ⟨g1, g2, g3, g4⟩ := fqX hg hge
 have nb := gqo hb hbe
 have ng := gqo hg hge
 have hl : ∀ s ∈ lastW g, isDot s = false := fun s hs => by
  unfold lastW at hs
  split at hs
  ·cases hs
  ·exact g3 s (List.mem_of_mem_drop hs)
 have key : goneS true (holder b ++ betw0 b g) = holder g ++ lastW g := nqs nb ng hl
 rw [lqm] at key
 have hs : goneS true (holder b ++ betw b g) = (goneV g).2.1 := by
  unfold betw
  by_cases he : betw0 b g = []
  ·rw [if_pos he]
   rw [he] at key
   rw [← key, mqg, fqT nb]
   simp [fwd, eqP.symm, fqT nb]
  ·rw [if_neg he]; exact key
 have hne : holder b ++ betw b g ≠ [] := by
  unfold betw
  by_cases he : betw0 b g = []
  ·rw [if_pos he]; simp
  ·rw [if_neg he]; intro e; exact he (List.append_eq_nil_iff.mp e).2
 have hE : (goneV g).2.1 ≠ [] → ((goneV g).2.2 || lastDot (holder b ++ betw b g)) = (goneV g).2.2 := fun hn => by
  cases hh : (goneV g).2.2 with
  | true => rfl
  | false =>
   have hd : lastW g ≠ [] := by
    unfold lastW
    rw [hh]
    intro e
    have h1 := List.drop_eq_nil_iff.mp e
    have : 0 < (goneV g).2.1.length := List.length_pos_iff.mpr hn
    lia
   have h0 : betw0 b g ≠ [] := fun e => hd (List.append_eq_nil_iff.mp e).2
   unfold betw
   rw [if_neg h0, Bool.false_or]
   unfold betw0
   rw [← List.append_assoc, hqF hd]
   exact gq1 hl
 show goneW true (holder b ++ betw b g) (goneV g).2.2 = goneV g
 unfold goneW
 rw [if_neg hne, hs]
 by_cases h0 : (goneV g).2.1 = []
 ·rw [if_pos h0]
  have := g4 h0
  exact Prod.ext g1.symm (Prod.ext (by simp [h0]) this.symm)
 ·rw [if_neg h0, hE h0]
  exact Prod.ext g1.symm rfl
theorem Ad.Wf.ends_w {x : Ad} (h : x.Wf) (hr : x.rooted = true) : x.w.2.1 = [] → x.w.2.2 = true := fun e => by
 have := h.end_ e; rw [hr] at this; exact this
theorem Ad.ext_w {x y : Ad} (h1 : x.scheme = y.scheme) (h2 : x.house = y.house) (h3 : x.door = y.door) (h4 : x.w = y.w) (h5 : x.quest = y.quest) (h6 : x.mark = y.mark) : x = y := by
 cases x; cases y
 simp only [Ad.w, Prod.mk.injEq] at h4
 simp_all
theorem eqM {b x : Ad} (h : x.scheme ≠ []) : resM b x = x.gone := by unfold resM; rw [if_pos h]
theorem oqz {b g : Ad} (hb : b.Wf) (hg : g.Wf) (wb : b.scheme ≠ []) (wg : g.scheme ≠ []) : resM b (relM b g) = g.gone := by
 have rb := hb.roo (.inl wb)
 have rg := hg.roo (.inl wg)
 unfold relM
 by_cases h1 : g.scheme ≠ b.scheme ∨ (g.house = none ∧ b.house ≠ none)
 ·rw [if_pos h1, eqM (by exact wg), Ad.gone_again]
 rw [if_neg h1]
 have es : g.scheme = b.scheme := Classical.not_not.mp fun h => h1 (.inl h)
 by_cases h2 : g.house ≠ b.house ∨ g.door ≠ b.door
 ·rw [if_pos h2]
  have hh : g.house ≠ none := fun e => by
   have : b.house = none := Classical.not_not.mp fun h => h1 (.inr ⟨e, h⟩)
   rcases h2 with h | h
   ·exact h (by rw [e, this])
   ·exact h (by rw [hg.nodoor e, hb.nodoor this])
  unfold resM
  rw [if_neg (by simp), if_pos (by exact hh)]
  show ({ g.gone with scheme := b.scheme } : Ad).gone = g.gone
  rw [← es]
  exact Ad.gone_again g
 rw [if_neg h2]
 have eh : g.house = b.house := Classical.not_not.mp fun h => h2 (.inl h)
 have ed : g.door = b.door := Classical.not_not.mp fun h => h2 (.inr h)
 by_cases h3 : b.gone.w = g.gone.w ∧ (g.quest ≠ none ∨ b.quest = none)
 ·rw [if_pos h3]
  unfold resM
  rw [if_neg (by simp), if_neg (by simp), if_neg (by simp), if_neg (by simp)]
  refine Ad.ext_w (by exact es.symm) (by exact eh.symm) (by exact ed.symm) ?_ ?_ rfl
  ·exact h3.1
  ·show (if (if g.quest = b.quest then none else g.quest) = none then b.quest else if g.quest = b.quest then none else g.quest) = g.quest
   by_cases h4 : g.quest = b.quest
   ·simp [h4]
   ·rw [if_neg h4]
    by_cases h5 : g.quest = none
    ·rcases h3.2 with h | h
     ·exact absurd h5 h
     ·exact absurd (by rw [h5, h]) h4
    ·rw [if_neg h5]
 ·rw [if_neg h3]
  have hn : betw b.w g.w ≠ [] := by
   unfold betw
   by_cases he : betw0 b.w g.w = []
   ·rw [if_pos he]; simp
   ·rw [if_neg he]; exact he
  unfold resM
  rw [if_neg (by simp), if_neg (by simp), if_neg (by simp), if_pos (by exact hn)]
  refine Ad.ext_w (by exact es.symm) (by exact eh.symm) (by exact ed.symm) ?_ rfl rfl
  exact nqU (b := b.w) (g := g.w) rb (hb.ends_w rb) rg (hg.ends_w rg)
def Ad.Done (x : Ad) : Prop := x.scheme ≠ [] ∧ x.rooted = true ∧ (∀ s ∈ x.steps, isDot s = false) ∧ (x.steps = [] → x.ends = true)
theorem hqV {x : Ad} (hs : x.scheme ≠ []) (hr : x.rooted = true) (he : x.steps = [] → x.ends = true) : x.gone.Done := by
 obtain ⟨g1, g2, g3, g4⟩ := fqX (w := x.w) hr he
 exact ⟨hs, g1, g3, g4⟩
theorem jq0 {b x : Ad} (hb : b.Wf) (hx : x.Wf) (wb : b.scheme ≠ []) : (resM b x).Done := by
 have rb := hb.roo (.inl wb)
 have eb : b.steps = [] → b.ends = true := hb.ends_w rb
 have fx : x.rooted = true → x.steps = [] → x.ends = true := fun r => hx.ends_w r
 unfold resM
 split
 ·next h => exact hqV h (hx.roo (.inl h)) (fx (hx.roo (.inl h)))
 split
 ·next h => exact hqV (by exact wb) (hx.roo (.inr h)) (fx (hx.roo (.inr h)))
 split
 ·next h => exact hqV (by exact wb) h (fx h)
 split
 ·next h => exact hqV (by exact wb) rfl (fun e => absurd (List.append_eq_nil_iff.mp e).2 h)
 ·exact hqV (by exact wb) rb eb
def wayOf (w : Way) : PyData := .tuple [.bool w.1, .tuple (w.2.1.map st), .bool w.2.2]
theorem sqT {l : Addr} {H : Hp} {Q : VK} : rReverse (.ref l) [] H Q ↔ ∃ xs, H l = some (.lst xs) ∧ Q .non (upd H l (.lst xs.reverse)) :=
 ⟨fun ⟨_, xs, e, _, h, q⟩ => by cases e; exact ⟨xs, h, q⟩, fun ⟨xs, h, q⟩ => ⟨l, xs, rfl, rfl, h, q⟩⟩
abbrev sV (l : List Nat) : V := .str ⟨l.toArray⟩
theorem oq7 {H : Hp} : ∀ (ss : List (List Nat)), IsAll H (ss.map st) (ss.map sV)
 | [] => .nil
 | s :: ss => .cons (.str _) (oq7 ss)
theorem kqk {H : Hp} : ∀ (ss : List (List Nat)), IsTAll H (ss.map st) (ss.map sV)
 | [] => .nil
 | s :: ss => .cons (.str _) (kqk ss)
theorem lqO {α : Type} {l : List α} {s : α} (g : α → V) (h : l.getLast? = some s) : atI (l.map g) (-1) = some (g s) := by
 obtain ⟨pre, rfl⟩ := List.getLast?_eq_some_iff.mp h
 have e : ixN ((pre ++ [s]).map g).length (-1) = some pre.length := by
  unfold ixN
  simp
  try lia
 unfold atI
 rw [e]
 simp
theorem eqQ {r e : Bool} {ss : List (List Nat)} (h : ∀ s ∈ ss, ∀ c ∈ s, isSg c = true) : SeqAt.shaped (wayOf (r, ss, e)) = true := by
 refine LayAt.shaped (n := 2) (.tup (n := 1) fun d hd => ?_) (by decide)
 simp only [List.mem_cons, List.not_mem_nil, or_false] at hd
 rcases hd with rfl | rfl | rfl
 ·exact LayAt.bool.le (by decide)
 ·refine .tup (n := 0) fun d hd => ?_
  obtain ⟨s, hs, rfl⟩ := List.mem_map.mp hd
  exact .st (h s hs)
 ·exact LayAt.bool.le (by decide)
end Wm
namespace L2
open PySem
theorem fqY {X : Cx} {K : PySem.W.Frag} (h : X.K = K) : OpR X (compareOp .In) (rIn K false) := by subst h; exact oqI
theorem sqB {l : Addr} {H : Hp} {Q : VK} : rPop (.ref l) [] H Q ↔ ∃ xs y, H l = some (.lst xs) ∧ xs[xs.length - 1]? = some y ∧ Q y (upd H l (.lst xs.dropLast)) :=
 ⟨fun ⟨_, xs, y, h1, _, h3, h4, h5⟩ => by cases h1; exact ⟨xs, y, h3, h4, h5⟩, fun ⟨xs, y, h3, h4, h5⟩ => ⟨_, xs, y, rfl, rfl, h3, h4, h5⟩⟩
theorem sqK {H : Hp} {p : Addr} {o : HO} (h : H p = some o) : upd H p o = H := by
 funext b
 by_cases e : b = p
 ·subst e; rw [aqk, h]
 ·rw [aqA e]
theorem pq2 {D : Ends} {σ : St} {H : Hp} : (tNever D σ H) = (False) := rfl
end L2
namespace Wm
open PySem L2
structure Ad.Tiny (x : Ad) : Prop where
 stp : ∀ s ∈ x.steps, s.length ≤ 9
 que : ∀ ps, x.quest = some ps → ps.length ≤ 3 ∧ ∀ p ∈ ps, p.1.length ≤ 5 ∧ ∀ v, p.2 = some v → v.length ≤ 6
 mar : ∀ l, x.mark = some l → l.length ≤ 7
 hou : ∀ l, x.house = some l → l.length ≤ 13
def noWay : Way := (false, [], false)
def wayFrom (b w : Way) : Way := if w = noWay then b else if w.1 then w else (true, holder b ++ w.2.1, w.2.2)
def questFrom (b x : Ad) : Option (List (List Nat × Option (List Nat))) := if x.w = noWay ∧ x.quest = none then b.quest else x.quest
def madeWhole (b x : Ad) : Ad := if x.house ≠ none then { x with scheme := b.scheme } else { scheme := b.scheme, house := b.house, door := b.door, rooted := (wayFrom b.w x.w).1, steps := (wayFrom b.w x.w).2.1, ends := (wayFrom b.w x.w).2.2, quest := questFrom b x, mark := x.mark }
theorem hqK {b x : Ad} (hx : x.Wf) (h : x.scheme = []) : resM b x = (madeWhole b x).gone := by
 unfold resM madeWhole
 rw [if_neg (by simp [h])]
 by_cases h1 : x.house ≠ none
 ·rw [if_pos h1, if_pos h1]
 ·rw [if_neg h1, if_neg h1]
  by_cases h2 : x.rooted = true
  ·rw [if_pos h2]
   have e : x.w ≠ noWay := fun z => by
    have := congrArg Prod.fst z
    simp only [Ad.w, noWay] at this
    rw [h2] at this; cases this
   unfold wayFrom questFrom
   simp only [if_neg e, e, false_and, if_false]
   rw [if_pos (show x.w.1 = true from h2)]
   rfl
  ·rw [if_neg h2]
   have hf : x.rooted = false := by simpa using h2
   by_cases h3 : x.steps ≠ []
   ·rw [if_pos h3]
    have e : x.w ≠ noWay := fun z => h3 (by have := congrArg (fun q : Way => q.2.1) z; exact this)
    unfold wayFrom questFrom
    simp only [if_neg e, e, false_and, if_false]
    rw [if_neg (show ¬ x.w.1 = true by rw [show x.w.1 = x.rooted from rfl, hf]; decide)]
    rfl
   ·rw [if_neg h3]
    have h3 : x.steps = [] := Classical.not_not.mp h3
    have he := hx.end_ h3
    have e : x.w = noWay := by simp only [Ad.w, noWay, hf, h3, he]
    unfold wayFrom questFrom
    simp only [e, if_true, true_and]
    rfl
theorem iqT (a b : Way) : PyData.eqv (wayOf a) (wayOf b) = decide (a = b) := by
 obtain ⟨r, ss, e⟩ := a
 obtain ⟨q, tt, f⟩ := b
 rw [Bool.eq_iff_iff, decide_eq_true_eq]
 simp only [wayOf, PyData.eqv, PyData.eqvAll, Bool.and_eq_true, Bool.and_true, beq_iff_eq, Prod.mk.injEq]
 constructor
 ·rintro ⟨h1, h2, h3⟩
  exact ⟨h1, (dqo lqL _ _).mp h2, h3⟩
 ·rintro ⟨h1, h2, h3⟩
  exact ⟨h1, (dqo lqL _ _).mpr h2, h3⟩
theorem jqR (w : Way) : (goneV w).2.1.length ≤ w.2.1.length := by
 unfold goneV goneW
 split
 ·rename_i h; simp
 ·rename_i h
  have := List.length_pos_iff.mpr h
  split
  ·cases w.1 <;> simp <;> lia
  ·exact gone_len _ _
theorem nqK : StepOk sStay := ⟨by decide, by decide⟩
theorem tqG : StepOk sUp := ⟨by decide, by decide⟩
theorem gqT {w : Way} (h : ∀ s ∈ w.2.1, StepOk s) : ∀ s ∈ (goneV w).2.1, StepOk s := by
 intro s hs
 unfold goneV goneW at hs
 split at hs
 ·cases hs
 ·split at hs
  ·cases e : w.1
   ·rw [e] at hs; simp at hs; subst hs; exact nqK
   ·rw [e] at hs; simp at hs
  ·rcases jqy s hs with z | z
   ·exact h s z.1
   ·rw [z.2]; exact tqG
theorem mqr {w : Way} (h : w.2.1 = [] → w.2.2 = w.1) : (goneV w).2.1 = [] → (goneV w).2.2 = (goneV w).1 := by
 intro e
 unfold goneV goneW at e ⊢
 split at e
 ·rename_i z; rw [if_pos z]; exact h z
 ·rename_i z
  rw [if_neg z]
  split at e
  ·rename_i y
   rw [if_pos y]
   cases ew : w.1
   ·rw [ew] at e; simp at e
   ·rfl
  ·rename_i y; exact absurd e y
theorem oqF (w : Way) : (goneV w).1 = w.1 := nqZ _ _ _
theorem Ad.Wf.gone {x : Ad} (h : x.Wf) : x.gone.Wf where
 sch := h.sch
 hou := h.hou
 doo := h.doo
 stp := gqT (w := x.w) h.stp
 roo := fun z => (oqF x.w).trans (h.roo z)
 end_ := mqr (w := x.w) h.end_
 que := h.que
 mar := h.mar
theorem Ad.gone_len (x : Ad) : x.gone.steps.length ≤ x.steps.length := jqR x.w
theorem cqF (w : Way) : (holder w).length ≤ w.2.1.length := by
 have := jqR w
 unfold holder
 split
 ·exact this
 ·rw [List.length_dropLast]; lia
theorem jqP {w : Way} (h : ∀ s ∈ w.2.1, StepOk s) : ∀ s ∈ holder w, StepOk s := by
 intro s hs
 unfold holder at hs
 split at hs
 ·exact gqT h s hs
 ·exact gqT h s (List.dropLast_subset _ hs)
theorem mqH {b w : Way} (hb : ∀ s ∈ b.2.1, StepOk s) (hw : ∀ s ∈ w.2.1, StepOk s) : ∀ s ∈ (wayFrom b w).2.1, StepOk s := by
 intro s hs
 unfold wayFrom at hs
 split at hs
 ·exact hb s hs
 ·split at hs
  ·exact hw s hs
  ·rcases List.mem_append.mp hs with z | z
   ·exact jqP hb s z
   ·exact hw s z
theorem lqj (b w : Way) : (wayFrom b w).2.1.length ≤ b.2.1.length + w.2.1.length := by
 unfold wayFrom
 have := cqF b
 split
 ·lia
 ·split
  ·lia
  ·simp only [List.length_append]; lia
theorem kq6 {b w : Way} (hr : b.1 = true) (hb : b.2.1 = [] → b.2.2 = b.1) (hw : w.2.1 = [] → w.2.2 = w.1) : (wayFrom b w).1 = true ∧ ((wayFrom b w).2.1 = [] → (wayFrom b w).2.2 = (wayFrom b w).1) := by
 unfold wayFrom
 split
 ·exact ⟨hr, hb⟩
 ·rename_i h
  split
  ·rename_i h2; exact ⟨h2, hw⟩
  ·rename_i h2
   refine ⟨rfl, fun e => ?_⟩
   have e := (List.append_eq_nil_iff.mp e).2
   have h3 : w.1 = false := by simpa using h2
   have h4 := hw e
   exfalso; apply h
   obtain ⟨w1, w2, w3⟩ := w
   dsimp only at e h3 h4
   subst e h3 h4
   rfl
theorem kqs {b x : Ad} (hb : b.Wf) (hx : x.Wf) (wb : b.scheme ≠ []) : (madeWhole b x).Wf := by
 have hbr := hb.roo (.inl wb)
 unfold madeWhole
 split
 ·rename_i h
  exact ⟨hb.sch, hx.hou, hx.doo, hx.stp, fun _ => hx.roo (.inr h), hx.end_, hx.que, hx.mar⟩
 ·have hw := kq6 (b := b.w) (w := x.w) hbr hb.end_ hx.end_
  refine ⟨hb.sch, hb.hou, hb.doo, mqH hb.stp hx.stp, fun _ => hw.1, hw.2, fun ps e => ?_, hx.mar⟩
  unfold questFrom at e
  dsimp only at e
  split at e
  ·exact hb.que ps e
  ·exact hx.que ps e
theorem fqm (b x : Ad) : (madeWhole b x).steps.length ≤ b.steps.length + x.steps.length := by
 unfold madeWhole
 split
 ·dsimp only; lia
 ·exact lqj b.w x.w
theorem hqo {b x : Ad} (hb : b.Wf) (hx : x.Wf) (wb : b.scheme ≠ []) : (resM b x).Wf := by
 by_cases h : x.scheme = []
 ·rw [hqK hx h]; exact (kqs hb hx wb).gone
 ·rw [eqM h]; exact hx.gone
theorem gqY {b x : Ad} (hx : x.Wf) : (resM b x).steps.length ≤ b.steps.length + x.steps.length := by
 by_cases h : x.scheme = []
 ·rw [hqK hx h]
  exact Nat.le_trans (Ad.gone_len _) (fqm b x)
 ·rw [eqM h]
  have := Ad.gone_len x
  lia
theorem pqa {g : Way} (hg : ∀ s ∈ g.2.1, StepOk s) : ∀ s ∈ lastW g, StepOk s := by
 intro s hs
 unfold lastW at hs
 split at hs
 ·cases hs
 ·exact gqT hg s (List.drop_subset _ _ hs)
theorem kqm (g : Way) : (lastW g).length ≤ 1 := by
 unfold lastW
 split
 ·simp
 ·rw [List.length_drop]; lia
theorem rqq {b g : Way} (hg : ∀ s ∈ g.2.1, StepOk s) : ∀ s ∈ betw b g, StepOk s := by
 intro s hs
 unfold betw at hs
 split at hs
 ·rw [List.mem_singleton.mp hs]; exact nqK
 ·unfold betw0 at hs
  rcases List.mem_append.mp hs with hs | hs
  ·rcases List.mem_append.mp hs with hs | hs
   ·rw [(List.mem_replicate.mp hs).2]; exact tqG
   ·exact jqP hg s (List.drop_subset _ _ hs)
  ·exact pqa hg s hs
theorem rqc (b g : Way) : betw b g ≠ [] := by
 unfold betw
 split
 ·simp
 ·assumption
theorem pqX (b g : Way) : (betw b g).length ≤ b.2.1.length + g.2.1.length + 1 := by
 have h1 := cqF b
 have h2 := cqF g
 have h3 := kqm g
 unfold betw
 split
 ·simp
 ·unfold betw0
  simp only [List.length_append, List.length_replicate, List.length_drop]
  lia
theorem nqY {b g : Ad} (hg : g.Wf) (wg : g.scheme ≠ []) : (relM b g).Wf := by
 have hgr := hg.roo (.inl wg)
 have hgg := hg.gone
 unfold relM
 split
 ·exact hgg
 ·split
  ·exact ⟨⟨Nat.zero_le _, (fun c hc => by cases hc), (fun c hc => by cases hc)⟩, hgg.hou, hgg.doo, hgg.stp, fun _ => hgg.roo (.inl wg), hgg.end_, hgg.que, hgg.mar⟩
  ·split
   ·refine ⟨⟨Nat.zero_le _, (fun c hc => by cases hc), (fun c hc => by cases hc)⟩, (fun l e => by cases e), (fun i e => by cases e), (fun s hs => by cases hs), fun z => ?_, fun _ => rfl, fun ps e => ?_, hg.mar⟩
    ·rcases z with z | z <;> exact absurd rfl z
    ·dsimp only at e
     split at e
     ·cases e
     ·exact hg.que ps e
   ·refine ⟨⟨Nat.zero_le _, (fun c hc => by cases hc), (fun c hc => by cases hc)⟩, (fun l e => by cases e), (fun i e => by cases e), rqq (b := b.w) (g := g.w) hg.stp, fun z => ?_, fun z => absurd z (rqc _ _), hg.que, hg.mar⟩
    rcases z with z | z <;> exact absurd rfl z
theorem lq5 (b g : Ad) : (relM b g).steps.length ≤ b.steps.length + g.steps.length + 1 := by
 have := Ad.gone_len g
 unfold relM
 split
 ·lia
 ·split
  ·show g.gone.steps.length ≤ _; lia
  ·split
   ·simp
   ·exact pqX b.w g.w
theorem nq6 (b g : Way) : betw (goneV b) (goneV g) = betw b g := by
 have h : ∀ w : Way, holder (goneV w) = holder w := fun w => by unfold holder; rw [dqH]
 have l : lastW (goneV g) = lastW g := by unfold lastW; rw [dqH]
 have e : betw0 (goneV b) (goneV g) = betw0 b g := by unfold betw0; rw [h, h, l]
 unfold betw; rw [e]
theorem nqA (b g : Ad) : relM b.gone g.gone = relM b g := by
 unfold relM
 rw [Ad.gone_again, Ad.gone_again]
 rw [Ad.gone_w, Ad.gone_w, nq6, dqH]
 rfl
end Wm
namespace Wm
end Wm
namespace Wm
open PySem L2
def cutA {α : Type} (xs : List α) (lo hi : Option Int) : List α := (xs.drop (HT.sIx xs.length 0 lo)).take (HT.sIx xs.length xs.length hi - HT.sIx xs.length 0 lo)
theorem jqg {α : Type} (f : α → V) (xs : List α) (lo hi : Option Int) : cutV (xs.map f) lo hi = (cutA xs lo hi).map f := by
 unfold cutV cutA; rw [List.length_map, List.map_take, List.map_drop]
def AllSg (ss : List Stp) : Prop := ∀ s ∈ ss, ∀ c ∈ s, isSg c = true
theorem rqK {α : Type} (xs : List α) {n : Nat} {i : Int} (h : HT.sIx xs.length xs.length (some i) = n) : cutA xs none (some i) = xs.take n := by
 unfold cutA
 rw [h, show HT.sIx xs.length 0 none = 0 from rfl, List.drop_zero, Nat.sub_zero]
theorem mqO {α : Type} (xs : List α) : cutA xs none (some (-1)) = xs.dropLast := by
 rw [rqK (n := xs.length - 1), List.dropLast_eq_take]
 show (if (-1 : Int) < 0 then ((-1 : Int) + (xs.length : Int)).toNat else min (-1 : Int).toNat xs.length) = _
 rw [if_pos (by decide)]; lia
end Wm
namespace L2
open PySem
end L2
namespace Wm
open PySem L2
section
variable {H : Hp}
theorem wayT' {r e : Bool} {ss : List (List Nat)} {p q : Addr} (hp : H p = some (.tup [.bl r, .ref q, .bl e])) (hq : H q = some (.tup (ss.map fun l => V.str ⟨l.toArray⟩))) : IsT H (.tuple [.bool r, .tuple (ss.map st), .bool e]) (.ref p) :=
 .tup hp (.cons (.bl _) (.cons (.tup hq (kqk _)) (.cons (.bl _) .nil)))
theorem sqC {x : Ad} {v : V} (h : IsT H x.data v) : ∃ p w q, v = .ref p ∧ H p = some (.tup [.str ⟨x.scheme.toArray⟩, otV x.house, itV x.door, w, q, otV x.mark]) ∧ IsT H x.way w ∧ IsT H (qD x.quest) q := by
 obtain ⟨p, x0, x1, x2, x3, x4, x5, rfl, hp, i0, i1, i2, i3, i4, i5⟩ := isT6 (show IsT H (.tuple [st x.scheme, oD x.house, iD x.door, x.way, qD x.quest, oD x.mark]) v from h)
 cases qqb i0
 cases qqe i1
 cases sqo i2
 cases qqe i5
 exact ⟨p, x3, x4, rfl, hp, i3, i4⟩
theorem adT {x : Ad} {p : Addr} {w q : V} (hp : H p = some (.tup [.str ⟨x.scheme.toArray⟩, otV x.house, itV x.door, w, q, otV x.mark])) (hw : IsT H x.way w) (hq : IsT H (qD x.quest) q) : IsT H x.data (.ref p) :=
 .tup hp (.cons (.str _) (.cons (kqf _) (.cons (oqP _) (.cons hw (.cons hq (.cons (kqf _) .nil))))))
end
theorem Ad.Wf.sg {x : Ad} (h : x.Wf) : AllSg x.steps := fun s hs => (h.stp s hs).2
theorem Ad.Wf.local {x : Ad} (h : x.Wf) : ({ x with scheme := [], house := none, door := none } : Ad).Wf :=
 ⟨⟨Nat.zero_le _, (fun c hc => by cases hc), (fun c hc => by cases hc)⟩, (fun l e => by cases e), (fun l e => by cases e), h.stp, (fun z => z.elim (fun y => absurd rfl y) (fun y => absurd rfl y)), h.end_, h.que, h.mar⟩
def Goods (n : Nat) (H : Hp) (vs : List V) : Prop := ∀ v ∈ vs, ∃ x : Ad, x.Wf ∧ x.steps.length ≤ n ∧ IsT H x.data v
theorem Goods.cons {n : Nat} {H : Hp} {v : V} {vs : List V} {x : Ad} (h1 : x.Wf) (h2 : x.steps.length ≤ n) (h3 : IsT H x.data v) (h : Goods n H vs) : Goods n H (v :: vs) := fun u hu => by
 rcases List.mem_cons.mp hu with rfl | hu
 ·exact ⟨x, h1, h2, h3⟩
 ·exact h u hu
end Wm
namespace L2
open PySem PySem.Spec PyProof.Rows
theorem tqS {b c : Bool} {H : Hp} {Q : VK} : (rIsB true (.bl b) (.bl c) H Q) = (Q (.bl (!decide (b = c))) H) := rfl
end L2
namespace Wm
open PySem L2
theorem jqz : ∀ (h t : List Stp), comm h t ≤ t.length
 | [], t => by simp [comm]
 | _ :: _, [] => by simp [comm]
 | a :: l, b :: m => by
  unfold comm
  split
  ·have := jqz l m
   simp; lia
  ·simp
theorem nqW : ∀ {h t : List Stp} {i : Nat}, i ≤ comm h t → (i < comm h t ↔ ∃ s, h[i]? = some s ∧ t[i]? = some s)
 | [], t, i, hi => by
  have : i = 0 := by simpa [comm] using hi
  subst this
  simp [comm]
 | a :: l, [], i, hi => by
  have : i = 0 := by simpa [comm] using hi
  subst this
  simp [comm]
 | a :: l, b :: m, i, hi => by
  unfold comm at hi ⊢
  by_cases e : a = b
  ·rw [if_pos e] at hi ⊢
   cases i with
   | zero => simp [e]
   | succ i =>
    have ih := nqW (h := l) (t := m) (i := i) (by lia)
    simp only [List.getElem?_cons_succ]
    rw [← ih]
    lia
  ·rw [if_neg e] at hi ⊢
   have : i = 0 := by lia
   subst this
   simp [e]
   intro h; exact e h.symm
theorem nqD {α : Type} (xs : List α) {n : Nat} (h : n ≤ xs.length) : cutA xs (some (n : Int)) none = xs.drop n := by
 unfold cutA
 have e1 : HT.sIx xs.length 0 (some (n : Int)) = n := by rw [HT.sIx_nat]; lia
 rw [e1, show HT.sIx xs.length xs.length none = xs.length from rfl]
 exact List.take_of_length_le (by rw [List.length_drop]; lia)
theorem mqY {α : Type} (xs : List α) : cutA xs (some (-1)) none = xs.drop (xs.length - 1) := by
 unfold cutA
 have e1 : HT.sIx xs.length 0 (some (-1)) = xs.length - 1 := by
  show (if (-1 : Int) < 0 then ((-1 : Int) + (xs.length : Int)).toNat else min (-1 : Int).toNat xs.length) = _
  rw [if_pos (by decide)]; lia
 rw [e1, show HT.sIx xs.length xs.length none = xs.length from rfl]
 exact List.take_of_length_le (by rw [List.length_drop]; lia)
theorem rqV (a b : Option (List (List Nat × Option (List Nat)))) : PyData.eqv (qD a) (qD b) = decide (a = b) := by
 have h := Ad.eqv_iff ⟨[], none, none, false, [], false, a, none⟩ ⟨[], none, none, false, [], false, b, none⟩
 have e : PyData.eqv (Ad.data ⟨[], none, none, false, [], false, a, none⟩) (Ad.data ⟨[], none, none, false, [], false, b, none⟩) = PyData.eqv (qD a) (qD b) := by
  simp [Ad.data, Ad.way, PyData.eqv, PyData.eqvAll, oD, iD]
 rw [e] at h
 rw [Bool.eq_iff_iff, decide_eq_true_eq, h]
 constructor
 ·intro z; exact congrArg Ad.quest z
 ·intro z; rw [z]
theorem kqP {q : Option (List (List Nat × Option (List Nat)))} (h : ∀ ps, q = some ps → ∀ p ∈ ps, PairOk p) : SeqAt.shaped (qD q) = true := (LayAt.qD h).shaped (by decide)
theorem sqb {a b : Option (List Nat)} : otV a = otV b ↔ a = b := by
 cases a <;> cases b <;> simp [otV]
theorem tq8 {a b : Option (List Nat)} {H : Hp} {R : VK} (h : R (.bl (!decide (a = b))) H) : rNe (otV a) (otV b) H R := by
 have ha : NS (otV a) := by cases a <;> simp [otV, NS]
 have hb : NS (otV b) := by cases b <;> simp [otV, NS]
 rw [rqf ha hb]
 rw [show decide (otV a = otV b) = decide (a = b) from decide_eq_decide.mpr sqb]
 exact h
theorem tqY {a b : Option Int} {H : Hp} {R : VK} (h : R (.bl (!decide (a = b))) H) : rNe (itV a) (itV b) H R := by
 cases a with
 | none =>
  cases b with
  | none => exact ⟨rfl, by simpa using h⟩
  | some j => exact ⟨rfl, by simpa [itV] using h⟩
 | some i =>
  cases b with
  | none => exact ⟨rfl, by simpa [itV] using h⟩
  | some j =>
   refine nqG.mpr ?_
   rw [show decide (i = j) = decide (some i = some j) from decide_eq_decide.mpr (by simp)]
   exact h
structure GoodAd (n : Nat) (x : Ad) : Prop where
 wf : x.Wf
 ti : x.Tiny
 sc : x.scheme ≠ []
 ln : x.steps.length ≤ n
theorem GoodAd.le {n m : Nat} {x : Ad} (h : GoodAd n x) (hm : n ≤ m) : GoodAd m x := ⟨h.wf, h.ti, h.sc, Nat.le_trans h.ln hm⟩
end Wm
namespace L2
open PySem PySem.Spec PyProof.Rows
section
variable {prog : Program} {w : World} {A : Around} {E : Value → Shared → Prop} {s : Shared}
end
def Itv (K : PySem.W.Frag) (a : Addr) (n : Nat) : It :=
 ⟨fun i H => ∃ xs x, SqT K H a xs ∧ xs.length = n ∧ i < n ∧ xs[n - 1 - i]? = some x, fun i H x H' => H' = H ∧ ∀ xs, SqT K H a xs → xs.length = n → xs[n - 1 - i]? = some x, fun i _ => n ≤ i⟩
section
variable {X : Cx} {tg : Expr} {K : PySem.W.Frag}
def iRev (K : PySem.W.Frag) (ta : TA) : TI := fun σ H R => ta σ H fun vs H1 => ∃ a xs, vs = [.ref a] ∧ SqT K H1 a xs ∧ R (Itv K a xs.length) H1
variable {σ : St} {H : Hp} {D : Ends} {g : TG} {tb : TS} {aa : TA}
theorem qq6 : (tFor (iRev K aa) g tb D σ H) = (aa σ H fun vs H1 => ∃ a xs, vs = [.ref a] ∧ SqT K H1 a xs ∧ LoopI (Itv K a xs.length) g tb D σ H1) := rfl
end
theorem jqH : fillsNumberSlot (.type "tuple") "mul" = pure false := PySem.fillsNumberSlot_seq (id := "tuple.__mul__") (r := some (.builtin "tuple.__rmul__")) F.slot_tuple_mul.lookup (by decide +kernel) F.slot_tuple_rmul.lookup (by decide +kernel)
theorem jqD : seqRepeat? (.type "tuple") = pure (some (.builtin "tuple.__mul__")) := by
 unfold seqRepeat?
 rw [PySem.seqSlot_of (T := "tuple") (name := "__mul__") (id := "tuple.__mul__") F.slot_tuple_mul.lookup (by decide +kernel), PySem.seqSlot_of (T := "tuple") (name := "__rmul__") (id := "tuple.__rmul__") F.slot_tuple_rmul.lookup (by decide +kernel)]
 rfl
theorem oqJ (a : Int) (t : Tok) (l : Addr) (items : Array Value) (n : Nat) (dd : Option Addr) (sl : Array (Option Value)) :
  Meets (Builtin.«int.__rmul__» ⟨[.int a t, .ref l], []⟩) (fun _ R s => s.heap.get? l = some { cls := .type "tuple", dict := dd, data := .seq items n, slots := sl } ∧ R (.ok (.ret Value.notImplemented)) s) :=
 .of_wp fun prog w A R s h => by
  obtain ⟨hp, g, d, tk, os⟩ := s; obtain ⟨hl, h⟩ := h
  wp_walk; exact ⟨_, rfl, h⟩
theorem tqN (l : Addr) (items : Array Value) (n : Nat) (dd : Option Addr) (sl : Array (Option Value)) (x : Int) (u : Tok) (h0 : items.isEmpty = false) (h1 : ¬ (decide (x < -(2 ^ 63)) || decide (x ≥ 2 ^ 63)) = true) (h2 : 2 ≤ x) (h3 : ¬ ((items.size : Int) * x > (2 ^ 63 - 1) / 8)) (h4 : (items.size : Int) * x ≤ sizeLine) :
  Meets (Builtin.«tuple.__mul__» ⟨[.ref l, .int x u], []⟩) (fun _ R s => s.heap.get? l = some { cls := .type "tuple", dict := dd, data := .seq items n, slots := sl } ∧
   R (.ok (.ret (Value.ref s.heap.objs.size))) { s with heap := s.heap.push { cls := Value.type "tuple", data := Data.seq (List.foldl (fun x1 x2 => x1 ++ x2) #[] (List.replicate x.toNat items)) }, toks := s.toks }) :=
 .of_wp fun prog w A R s h => by
  obtain ⟨hp, g, d, tk, os⟩ := s; obtain ⟨hl, h⟩ := h
  unfold Builtin.«tuple.__mul__»
  wp_walk
  have hx1 : ¬ (items.isEmpty || x == 1) = true := by rw [h0, Bool.false_or]; intro z; have := eq_of_beq z; lia
  have hx2 : ¬ (decide (x ≤ 0) || items.isEmpty) = true := by rw [h0, Bool.or_false, decide_eq_true_eq]; lia
  have hx3 : ¬ Builtin.Tuple.tupleTooMany ((items.size : Int) * x) = true := by unfold Builtin.Tuple.tupleTooMany; rw [decide_eq_true_eq]; lia
  rw [if_neg h1]
  wp_walk
  rw [if_neg hx1]
  try dsimp only
  rw [if_neg hx2]
  try dsimp only
  rw [if_neg h3]
  try dsimp only
  rw [if_neg hx3]
  refine wpAny_bind (m := Builtin.Tuple.tupleExact _) (wpAny_newObj_type (wpAny_pure ⟨_, rfl, h⟩) ?_)
  show (List.foldl (fun x1 x2 => x1 ++ x2) #[] (List.replicate x.toNat items)).size ≤ sizeLine
  have e : List.foldl (fun x1 x2 => x1 ++ x2) #[] (List.replicate x.toNat items.toList.toArray) = (List.replicate x.toNat items.toList).flatten.toArray := by
   have := hqr items.toList x.toNat []
   rw [List.nil_append] at this
   exact this
  rw [show items.toList.toArray = items by simp] at e
  rw [e, List.size_toArray, nql, Array.length_toList]
  have : (items.size : Int) * x = ((x.toNat * items.size : Nat) : Int) := by rw [Int.natCast_mul, Int.toNat_of_nonneg (by lia), Int.mul_comm]
  lia
section
variable {X : Cx}
def rRepT : R2 := fun x y H Q => ∃ a k xs, x = .ref a ∧ y = .int k ∧ H a = some (.tup xs) ∧ 2 ≤ k ∧ k < 1000 ∧ xs.length * k.toNat ≤ sizeLine ∧ ∀ p H', Same H H' → H' p = some (.tup (List.replicate k.toNat xs).flatten) → Q (.ref p) H'
theorem nqR (l : Addr) (items : Array Value) (n : Nat) (dd : Option Addr) (sl : Array (Option Value)) (x : Int) (u : Tok) (h0 : items.isEmpty = true) (h1 : ¬ (decide (x < -(2 ^ 63)) || decide (x ≥ 2 ^ 63)) = true) :
  Meets (Builtin.«tuple.__mul__» ⟨[.ref l, .int x u], []⟩) (fun _ R s => s.heap.get? l = some { cls := .type "tuple", dict := dd, data := .seq items n, slots := sl } ∧ R (.ok (.ret (Value.ref l))) s) :=
 .of_wp fun prog w A R s h => by
  obtain ⟨hp, g, d, tk, os⟩ := s; obtain ⟨hl, h⟩ := h
  unfold Builtin.«tuple.__mul__»
  have hx1 : (items.isEmpty || x == 1) = true := by rw [h0, Bool.true_or]
  wp_walk
  rw [if_neg h1]
  wp_walk
  exact ⟨_, rfl, h⟩
theorem qqv : OpR X (binaryOp .Mult) rRepT := by
 intro pins s σ H x y v u Q I rx ry h
 obtain ⟨a, k, xs, rfl, rfl, hH, h1, h2, hz, q⟩ := h
 cases rx
 obtain ⟨t, rfl⟩ := ry
 obtain ⟨its, r, p, hl⟩ := I.tuple (SqT.of hH)
 obtain ⟨⟨cls, dd, data, sl⟩, ho, hc, n, hd⟩ := id p
 simp only at hc hd
 subst hc hd
 have hlen := r.length
 have hb : ¬ (decide (k < -(2 ^ 63)) || decide (k ≥ 2 ^ 63)) = true := by
  rw [Bool.or_eq_true, decide_eq_true_eq, decide_eq_true_eq]; lia
 have hprod : ((its.toArray.size : Nat) : Int) * k ≤ sizeLine := by
  rw [List.size_toArray, ← hlen]
  have : (xs.length : Int) * k = ((xs.length * k.toNat : Nat) : Int) := by rw [Int.natCast_mul, Int.toNat_of_nonneg (by lia)]
  lia
 refine wpAny_binaryOp_repeat_ref (T := "tuple") (U := "int") (by decide) p.typeIs (fun s' => typeIs_int s' k t) jqH F.fills_int_mul F.slot_int_rmul jqD F.slot_int_index.lookup
  (call_meets F.slot_int_rmul (typeIs_int s k t) F.entry_int_rmul (F.args_int_rmul_2 _ _) (oqJ k t a its.toArray n dd sl) ⟨ho, rfl, p.typeIs, ?_⟩)
 by_cases he : its = []
 ·subst he
  have hx0 : xs = [] := r.nil_iff.mp rfl
  subst hx0
  exact call_meets F.slot_tuple_mul p.typeIs F.entry_tuple_mul (F.args_tuple_mul_2 _ _) (nqR a _ n dd sl k t rfl hb) ⟨ho, .ref a, H, I, rfl, q a H (Same.refl _) (by rw [hH]; congr 2; exact (List.flatten_eq_nil_iff.mpr fun l hl => (List.mem_replicate.mp hl).2).symm)⟩
 ·have h0 : its.toArray.isEmpty = false := by simpa using he
  have hcap : ¬ (((its.toArray.size : Nat) : Int) * k > (2 ^ 63 - 1) / 8) := by
   have : (sizeLine : Int) ≤ (2 ^ 63 - 1) / 8 := by decide
   lia
  refine call_meets F.slot_tuple_mul p.typeIs F.entry_tuple_mul (F.args_tuple_mul_2 _ _) (tqN a _ n dd sl k t h0 hb h1 hcap hprod) ⟨ho, ?_⟩
  have e : List.foldl (fun x1 x2 => x1 ++ x2) #[] (List.replicate k.toNat its.toArray) = (List.replicate k.toNat its).flatten.toArray := by
   have := hqr its k.toNat []
   rw [List.nil_append] at this
   exact this
  rw [e]
  have hf : H s.heap.objs.size = none := I.hok.fresh (Nat.le_refl _)
  refine ⟨.ref s.heap.objs.size, _, I.laid (t' := s.toks) (o := .tup (List.replicate k.toNat xs).flatten) (fun b ob q => Heap.get?_push_of_some _ q) (Nat.le_refl _) ?_, rfl, q _ _ (aqU hf) aqk⟩
  exact ⟨by rw [nql, Nat.mul_comm]; exact hz, _, r.rep k.toNat, IsTup.new _ _⟩
theorem pqF {a : Addr} {k : Int} {H : Hp} {Q : VK} : rRepT (.ref a) (.int k) H Q ↔ ∃ xs, H a = some (.tup xs) ∧ 2 ≤ k ∧ k < 1000 ∧ xs.length * k.toNat ≤ sizeLine ∧ ∀ p H', Same H H' → H' p = some (.tup (List.replicate k.toNat xs).flatten) → Q (.ref p) H' := by
 constructor
 ·rintro ⟨a', k', xs, h1, h2, h⟩; cases h1; cases h2; exact ⟨xs, h⟩
 ·rintro ⟨xs, h⟩; exact ⟨a, k, xs, rfl, rfl, h⟩
def rRepS : R2 := fun x y H Q => ∃ l k xs, x = .ref l ∧ y = .int k ∧ H l = some (.lst xs) ∧ 0 ≤ k ∧ k < 1000000 ∧ xs.length * k.toNat ≤ sizeLine ∧ ∀ p H', H p = none → Same H H' → H' p = some (.lst (List.replicate k.toNat xs).flatten) → Q (.ref p) H'
theorem pqH {a : Addr} {k : Int} {H : Hp} {Q : VK} : rRepS (.ref a) (.int k) H Q ↔ ∃ xs, H a = some (.lst xs) ∧ 0 ≤ k ∧ k < 1000000 ∧ xs.length * k.toNat ≤ sizeLine ∧ ∀ p H', H p = none → Same H H' → H' p = some (.lst (List.replicate k.toNat xs).flatten) → Q (.ref p) H' := by
 constructor
 ·rintro ⟨a', k', xs, h1, h2, h⟩; cases h1; cases h2; exact ⟨xs, h⟩
 ·rintro ⟨xs, h⟩; exact ⟨a, k, xs, rfl, rfl, h⟩
end
theorem tqq (l : Addr) (items : Array Value) (n : Nat) (dd : Option Addr) (sl : Array (Option Value)) (u : Tok) :
  Meets (Builtin.«tuple.__mul__» ⟨[.ref l, .int 1 u], []⟩) (fun _ R s => s.heap.get? l = some { cls := .type "tuple", dict := dd, data := .seq items n, slots := sl } ∧ R (.ok (.ret (Value.ref l))) s) :=
 .of_wp fun prog w A R s h => by
  obtain ⟨hp, g, d, tk, os⟩ := s; obtain ⟨hl, h⟩ := h
  unfold Builtin.«tuple.__mul__»
  have hx1 : (items.isEmpty || ((1 : Int) == 1)) = true := by simp
  have h1 : ¬ (decide ((1 : Int) < -(2 ^ 63)) || decide ((1 : Int) ≥ 2 ^ 63)) = true := by decide
  wp_walk
  first | rw [if_neg h1] | skip
  wp_walk
  first | rw [if_pos hx1] | skip
  wp_walk
  exact ⟨_, rfl, h⟩
theorem rqi (l : Addr) (items : Array Value) (n : Nat) (dd : Option Addr) (sl : Array (Option Value)) (u : Tok) (h0 : items.isEmpty = false) :
  Meets (Builtin.«tuple.__mul__» ⟨[.ref l, .int 0 u], []⟩) (fun _ R s => s.heap.get? l = some { cls := .type "tuple", dict := dd, data := .seq items n, slots := sl } ∧
   R (.ok (.ret (Value.ref s.heap.objs.size))) { s with heap := s.heap.push { cls := Value.type "tuple", data := Data.seq #[] }, toks := s.toks }) :=
 .of_wp fun prog w A R s h => by
  obtain ⟨hp, g, d, tk, os⟩ := s; obtain ⟨hl, h⟩ := h
  unfold Builtin.«tuple.__mul__»
  have h1 : ¬ (decide ((0 : Int) < -(2 ^ 63)) || decide ((0 : Int) ≥ 2 ^ 63)) = true := by decide
  have hx1 : ¬ (items.isEmpty || ((0 : Int) == 1)) = true := by rw [h0]; decide
  have hx2 : (decide ((0 : Int) ≤ 0) || items.isEmpty) = true := by simp
  wp_walk
  first | rw [if_neg h1] | skip
  wp_walk
  first | rw [if_neg hx1] | skip
  try dsimp only
  first | rw [if_pos hx2] | skip
  exact ⟨_, rfl, h⟩
section
variable {X : Cx}
def rRepN : R2 := fun x y H Q => ∃ a k xs, x = .ref a ∧ y = .int k ∧ H a = some (.tup xs) ∧ 0 ≤ k ∧ k < 1000 ∧ xs.length * k.toNat ≤ sizeLine ∧ ∀ p H', Same H H' → H' p = some (.tup (List.replicate k.toNat xs).flatten) → Q (.ref p) H'
theorem qqx : OpR X (binaryOp .Mult) rRepN := by
 intro pins s σ H x y v u Q I rx ry h
 obtain ⟨a, k, xs, rfl, rfl, hH, h1, h2, hz, q⟩ := h
 by_cases hk : 2 ≤ k
 ·exact qqv pins s σ H _ _ v u Q I rx ry ⟨a, k, xs, rfl, rfl, hH, hk, h2, hz, q⟩
 cases rx
 obtain ⟨t, rfl⟩ := ry
 obtain ⟨its, r, p, hl⟩ := I.tuple (SqT.of hH)
 obtain ⟨⟨cls, dd, data, sl⟩, ho, hc, n, hd⟩ := id p
 simp only at hc hd
 subst hc hd
 refine wpAny_binaryOp_repeat_ref (T := "tuple") (U := "int") (by decide) p.typeIs (fun s' => typeIs_int s' k t) jqH F.fills_int_mul F.slot_int_rmul jqD F.slot_int_index.lookup
  (call_meets F.slot_int_rmul (typeIs_int s k t) F.entry_int_rmul (F.args_int_rmul_2 _ _) (oqJ k t a its.toArray n dd sl) ⟨ho, rfl, p.typeIs, ?_⟩)
 have h01 : k = 0 ∨ k = 1 := by lia
 rcases h01 with rfl | rfl
 ·by_cases he : its = []
  ·subst he
   have hx0 : xs = [] := r.nil_iff.mp rfl
   subst hx0
   exact call_meets F.slot_tuple_mul p.typeIs F.entry_tuple_mul (F.args_tuple_mul_2 _ _) (nqR a _ n dd sl 0 t rfl (by decide)) ⟨ho, .ref a, H, I, rfl, q a H (Same.refl _) hH⟩
  ·have h0 : its.toArray.isEmpty = false := by simpa using he
   refine call_meets F.slot_tuple_mul p.typeIs F.entry_tuple_mul (F.args_tuple_mul_2 _ _) (rqi a _ n dd sl t h0) ⟨ho, ?_⟩
   have hf : H s.heap.objs.size = none := I.hok.fresh (Nat.le_refl _)
   refine ⟨.ref s.heap.objs.size, _, I.laid (t' := s.toks) (o := .tup []) (fun b ob q => Heap.get?_push_of_some _ q) (Nat.le_refl _) ?_, rfl, q _ _ (aqU hf) aqk⟩
   exact ⟨Nat.zero_le _, [], .nil, IsTup.new _ _⟩
 ·exact call_meets F.slot_tuple_mul p.typeIs F.entry_tuple_mul (F.args_tuple_mul_2 _ _) (tqq a _ n dd sl t) ⟨ho, .ref a, H, I, rfl, q a H (Same.refl _) (by rw [hH]; simp)⟩
theorem oq1 {a : Addr} {k : Int} {H : Hp} {Q : VK} : rRepN (.ref a) (.int k) H Q ↔ ∃ xs, H a = some (.tup xs) ∧ 0 ≤ k ∧ k < 1000 ∧ xs.length * k.toNat ≤ sizeLine ∧ ∀ p H', Same H H' → H' p = some (.tup (List.replicate k.toNat xs).flatten) → Q (.ref p) H' := by
 constructor
 ·rintro ⟨a', k', xs, h1, h2, h⟩; cases h1; cases h2; exact ⟨xs, h⟩
 ·rintro ⟨xs, h⟩; exact ⟨a, k, xs, rfl, rfl, h⟩
end
section
variable {X : Cx}
def intsV (lo : Int) (n : Nat) : List V := (List.range n).map fun k => .int (lo + (k : Nat))
def tLR (ta : TA) : TE := fun σ H Q => ta σ H fun vs H1 => ∃ j : Int, vs = [.int j] ∧ 0 ≤ j ∧ j ≤ 1000000 ∧ ∀ p, H1 p = none → Q (.ref p) (upd H1 p (.lst (intsV 0 j.toNat)))
end
theorem tq0 {ta : TA} {σ : St} {H : Hp} {Q : VK} : (tLR ta σ H Q) = (ta σ H fun vs H1 => ∃ j : Int, vs = [.int j] ∧ 0 ≤ j ∧ j ≤ 1000000 ∧ ∀ p, H1 p = none → Q (.ref p) (upd H1 p (.lst (intsV 0 j.toNat)))) := rfl
end L2
namespace L2
open PySem
section
variable {p : Addr} {fv : St} {tt : TT} {te : TE} {Q : VK} {H1 : Hp} {K : PySem.W.Frag}
end
end L2
namespace L2
open PySem PySem.Spec PyProof.Rows
section
variable {X : Cx} {pins : List (Addr × Obj)} {σ : St} {H1 : Hp} {s3 : Shared} {x x2 : Str} {fx : List Str} {fr : List Nat} {scope : Scope} {cl : List (Str × Addr)} {fp : List Addr}
theorem pqo (I : Inv X pins σ H1 s3) (hkind : scope.kind = .function) (hcl : ∀ y c, cl.lookup y = some c → X.env.cells.lookup y = some c)
  (F : Frees X (relabel scope X.env) cl fx fr) (hfx : ((relabel scope X.env).names.all fun p => if (p.2 == .cell || p.2 == .free) then fx.contains p.1 else true) = true)
  (ffp : ∀ b ∈ fp, FpOk X pins H1 b) (flt : ∀ b ∈ fp, b < s3.heap.objs.size) : (compCx X (x :: x2 :: fx) scope cl s3 H1 fp).Ok where
 mod := I.ok.mod
 kind := hkind
 glob := I.ok.glob
 blt := I.ok.blt
 above := Nat.le_refl _
 inj := fun y z c h1 h2 => I.ok.inj y z c (hcl y c h1) (hcl z c h2)
 has := fun y h => by
  have h : (relabel scope X.env).names.lookup y = some .cell ∨ (relabel scope X.env).names.lookup y = some .free := h
  have key : y ∈ fx := by
   rcases h with h | h
   ·have q := List.all_eq_true.mp hfx _ (PySem.mem_of_lookup h)
    simpa using q
   ·have q := List.all_eq_true.mp hfx _ (PySem.mem_of_lookup h)
    simpa using q
  obtain ⟨k1, k2⟩ := F.mem y key
  obtain ⟨c, e⟩ := I.ok.has y (.inl k1)
  exact ⟨c, k2.trans e⟩
 cab := fun y c h => by cases (show false = true from h)
 hd := I.ok.hd
 frames := I.ok.frames
 stk := .inl rfl
 exf := fun b hb => ⟨Nat.ne_of_lt (flt b hb), fun y c e => (ffp b hb).2.2.2.2.1 y c (hcl y c e)⟩
 bs := I.bs
 bsz := Nat.le_trans I.ok.bsz I.sz
 noex := fun b o e hb => by
  rcases (ffp b hb).2.2.2.1 with z | z
  ·exact I.ok.noex b o e z
  ·exact absurd (Nat.lt_of_lt_of_le (Heap.lt_size (I.ok.bs b o e).1) z) (Nat.lt_irrefl _)
 exfs := fun b hb z => by
  rcases List.mem_cons.mp (I.stkSub b z) with q | q
  ·exact (ffp b hb).2.1 q
  ·exact (ffp b hb).2.2.1 q
 funs := I.stack
 frf := I.stkFree
theorem lqC (I : Inv X pins σ H1 s3) (hkind : scope.kind = .function) (hcl : ∀ y c, cl.lookup y = some c → X.env.cells.lookup y = some c)
  (F : Frees X (relabel scope X.env) cl fx fr) (hfx : ((relabel scope X.env).names.all fun p => if (p.2 == .cell || p.2 == .free) then fx.contains p.1 else true) = true)
  (ffp : ∀ b ∈ fp, FpOk X pins H1 b) (flt : ∀ b ∈ fp, b < s3.heap.objs.size) {h1 : Heap} {t : Nat} {m : Str → Option Value} (hn : h1.Ns s3.heap.objs.size m)
  (keep : ∀ b u, s3.heap.get? b = some u → h1.get? b = some u) : Inv (compCx X (x :: x2 :: fx) scope cl s3 H1 fp) [] (none :: none :: frV σ fr) H1 { s3 with heap := h1, toks := t } := by
 refine ⟨pqo I hkind hcl F hfx ffp flt, rfl, I.bare, Un.kept keep, ⟨m, hn, fun i y v e1 e2 e3 => ?_⟩, fun y c e => ?_, I.hok.fresh (Nat.le_refl _), fun y c e => I.freeC y c (hcl y c e), fun p hp => absurd (show p ∈ ([] : List (Addr × Obj)) from hp) (by simp), I.hok.kept keep, ?_⟩
 ·cases i with
  | zero => simp at e2
  | succ j =>
   cases j with
   | zero => simp at e2
   | succ j =>
    obtain ⟨i0, k1, k2, k3, k4, k5⟩ := F.at (σ := σ) j y v (by simpa [compCx] using e1) (by simpa using e2)
    obtain ⟨m0, hn0, hl0⟩ := I.loc
    obtain ⟨u, r, l⟩ := hl0 i0 y v k1 k2 (.inr (.inl k3))
    refine ⟨u, r, ?_⟩
    rcases l with ⟨z, _⟩ | ⟨_, c, e, o, ho, hd⟩
    ·rw [k3] at z; cases z
    ·exact .inr ⟨.inl k4, c, k5.trans e, o, keep c o ho, hd⟩
 ·obtain ⟨v, o, ho, hd⟩ := I.cell y c (hcl y c e)
  exact ⟨v, o, keep c o ho, hd⟩
 ·show (none :: none :: frV σ fr).length = (x :: x2 :: fx).length
  simp [frV, F.len]
end
def CompI2 (K : PySem.W.Frag) (J : It) (p : Addr) (fv : St) (tt : TT) (te : TE) (Q : VK) (H1 : Hp) : Prop :=
 ∃ W : Nat → Nat → List V → Hp → Prop, (∃ m, W 0 m [] (upd H1 p (.lst []))) ∧ ∀ i m ys H2, W i m ys H2 → H2 p = some (.lst ys) ∧
  ((J.stop i H2 ∧ Q (.ref p) H2) ∨ (J.go i H2 ∧ ys.length < sizeLine ∧ ∀ z H3, J.yld i H2 z H3 → ∃ a x y, z = .ref a ∧ SqT K H3 a [x, y] ∧ tt (some x :: some y :: fv) H3 fun b H4 =>
   if b = true then te (some x :: some y :: fv) H4 fun y H5 => H5 p = some (.lst ys) ∧ ∃ m', m' < m ∧ W (i + 1) m' (ys ++ [y]) (upd H5 p (.lst (ys ++ [y])))
   else ∃ m', m' < m ∧ W (i + 1) m' ys H4))
def tComp2 (K : PySem.W.Frag) (wi : TI) (fr : List Nat) (tt : TT) (te : TE) : TE := fun σ H Q => wi σ H fun J H1 => ∀ p, H1 p = none → CompI2 K J p (frV σ fr) tt te Q H1
section
variable {X : Cx} {elt iter : Expr} {x x2 : Str} {px px2 ptx pos : Pos} {kx : Nat} {ifs : List Expr} {scope : Scope} {cl : List (Str × Addr)} {fx : List Str} {fr : List Nat} {wi : TI} {tt : TT} {te : TE}
theorem lqe {pins : List (Addr × Obj)} {σ : St} {H3 : Hp} {s3 : Shared} {it p : Addr} {fp : List Addr} {tn : Nat → Heap → Prop} {J : It} {Q : VK} {W : Nat → Nat → List V → Hp → Prop} {m0 t : Nat} {h₁ : Heap} {m : Str → Option Value} {RR : Result → Shared → Prop}
  (hc : X.calm = true) (hkind : scope.kind = .function) (hx : scope.names.lookup x = some .local) (hx2 : scope.names.lookup x2 = some .local) (hnd : (x :: x2 :: fx).Nodup)
  (hcl : ∀ y c, cl.lookup y = some c → X.env.cells.lookup y = some c) (F : Frees X (relabel scope X.env) cl fx fr)
  (hfx : ((relabel scope X.env).names.all fun p => if (p.2 == .cell || p.2 == .free) then fx.contains p.1 else true) = true)
  (ht : ∀ s H fp, PF (compCx X (x :: x2 :: fx) scope cl s H fp) ifs tt) (he : ∀ s H fp, PE (compCx X (x :: x2 :: fx) scope cl s H fp) elt te)
  (I3 : Inv X pins σ H3 s3) (T : Turn X.prog X.w X.K (.Tuple [.Name x px, .Name x2 px2] kx ptx) J fp it tn) (st3 : tn 0 s3.heap) (ffp : ∀ b ∈ fp, FpOk X pins H3 b) (flt3 : ∀ b ∈ fp, b < s3.heap.objs.size)
  (w0 : W 0 m0 [] H3) (turn : ∀ i m ys H2, W i m ys H2 → H2 p = some (.lst ys) ∧
   ((J.stop i H2 ∧ Q (.ref p) H2) ∨ (J.go i H2 ∧ ys.length < sizeLine ∧ ∀ z H3, J.yld i H2 z H3 → ∃ a x y, z = .ref a ∧ SqT X.K H3 a [x, y] ∧ tt (some x :: some y :: frV σ fr) H3 fun b H4 =>
    if b = true then te (some x :: some y :: frV σ fr) H4 fun y H5 => H5 p = some (.lst ys) ∧ ∃ m', m' < m ∧ W (i + 1) m' (ys ++ [y]) (upd H5 p (.lst (ys ++ [y])))
    else ∃ m', m' < m ∧ W (i + 1) m' ys H4)))
  (hns : h₁.Ns s3.heap.objs.size m) (keep1 : ∀ b u, s3.heap.get? b = some u → h₁.get? b = some u)
  (fin : ∀ s6 H5 o o2, Inv (compCx X (x :: x2 :: fx) scope cl s3 H3 fp) [] (o :: o2 :: frV σ fr) H5 s6 → Q (.ref p) H5 → RR (.ok .next) s6) :
  codeAny (model X.prog X.w) X.A (.compStart (.ListComp elt [⟨.Tuple [.Name x px, .Name x2 px2] kx ptx, iter, ifs, 0⟩] scope pos) 0 (.ref it) (.ref p) (compEnvC scope cl s3.heap.objs.size X.env))
   RR { s3 with heap := h₁, toks := t } := by
 have I4 := lqC (x := x) (x2 := x2) (t := t) I3 hkind hcl F hfx ffp flt3 hns keep1
 have st4 : tn 0 h₁ := T.keep _ _ _ st3 fun b hb o e => keep1 b o e
 have fp0 : ∀ b ∈ fp, H3 b = none := fun b hb => (ffp b hb).1
 have hcal : (compCx X (x :: x2 :: fx) scope cl s3 H3 fp).calm = true := hc
 have stat : ∀ {H' : Hp}, (∀ b ∈ fp, H' b = none) → ∀ b ∈ fp, FpOk (compCx X (x :: x2 :: fx) scope cl s3 H3 fp) [] H' b := fun {H'} hn b hb => by
  obtain ⟨f0, f1, f2, f3, f4, f5⟩ := ffp b hb
  exact ⟨hn b hb, Nat.ne_of_lt (flt3 b hb), I4.ok.exfs b hb, .inl hb, fun y c e => f4 y c (hcl y c e), fun q hq => absurd (show q ∈ ([] : List (Addr × Obj)) from hq) (by simp)⟩
 have hxl : (relabel scope X.env).names.lookup x = some .local := lookup_relabel_local hx
 have hxl2 : (relabel scope X.env).names.lookup x2 = some .local := lookup_relabel_local hx2
 have pg : PG (compCx X (x :: x2 :: fx) scope cl s3 H3 fp) (.Tuple [.Name x px, .Name x2 px2] kx ptx) (gTup X.K 2 (gCons (gName 0) (gCons (gName 1) gNil))) := tqA hcal (mqf (dqE (i := 0) hnd rfl (.inl hxl) (.inr hxl)) (mqf (dqE (i := 1) hnd rfl (.inl hxl2) (.inr hxl2)) rqp))
 have loop : codeAny (model X.prog X.w) X.A (.compLoop (.ListComp elt [⟨.Tuple [.Name x px, .Name x2 px2] kx ptx, iter, ifs, 0⟩] scope pos) 0 (.ref it) (.ref p) (compEnvC scope cl s3.heap.objs.size X.env))
    RR { s3 with heap := h₁, toks := t } := by
  refine gqn (fun n s' => ∃ i ys H' o o2, Inv (compCx X (x :: x2 :: fx) scope cl s3 H3 fp) [] (o :: o2 :: frV σ fr) H' s' ∧ tn i s'.heap ∧ (∀ b ∈ fp, H' b = none) ∧ W i n ys H') ?_ m0 ⟨0, [], _, none, none, I4, st4, fp0, w0⟩
  rintro n s5 ⟨i, ys, H5, o, o2, I5, st5, fr5, w5⟩
  obtain ⟨hp5, alt⟩ := turn i n ys H5 w5
  rcases alt with ⟨stop, qn⟩ | ⟨go, hlen, step⟩
  ·refine thn (T.done (compCx X (x :: x2 :: fx) scope cl s3 H3 fp) rfl rfl rfl hcal i [] s5 (o :: o2 :: frV σ fr) H5 _ I5 (stat fr5) st5 stop) fun r s6 W' => ?_
   obtain ⟨hr, I6⟩ := W'
   subst hr
   exact fin s6 H5 o o2 I6 qn
  ·refine thn (T.item (compCx X (x :: x2 :: fx) scope cl s3 H3 fp) rfl rfl rfl hcal i [] s5 (o :: o2 :: frV σ fr) H5 _ I5 (stat fr5) st5 go) fun r s6 W' => ?_
   obtain ⟨u, hr, h6⟩ := W'
   subst hr
   refine thn h6 fun _ s7 W' => ?_
   obtain ⟨y7, H7, I7, r7, yl7, st7, fr7⟩ := W'
   have I7' := I7.pinned (stat fr7) (T.obj _ _ st7)
   have back : ∀ {σ' : St} {H' : Hp} {s' : Shared}, Inv (compCx X (x :: x2 :: fx) scope cl s3 H3 fp) ([] ++ pinsAt fp s7.heap) σ' H' s' → tn (i + 1) s'.heap ∧ ∀ b ∈ fp, H' b = none := fun {σ' H' s'} I' => by
    refine ⟨T.keep _ _ _ st7 fun b hb o e => (I'.pin (b, o) (List.mem_append_right _ (List.mem_append_right _ (cqG hb e)))).1, fun b hb => ?_⟩
    obtain ⟨o, e, d⟩ := T.obj _ _ st7 b hb
    exact (I'.pin (b, o) (List.mem_append_right _ (List.mem_append_right _ (cqG hb e)))).2.1
   obtain ⟨a7, z1, z2, e7, q7, step7⟩ := step y7 _ yl7
   subst e7
   refine thn (pg _ s7 _ H7 (.ref a7) u (fun σ' H' => σ' = some z1 :: some z2 :: frV σ fr ∧ H' = H7) I7' r7 ⟨a7, [z1, z2], rfl, q7, rfl, z1, [z2], rfl, z2, [], rfl, rfl, rfl, rfl⟩) fun _ s8 W' => ?_
   obtain ⟨σ8, H8, I8, e8, e8'⟩ := W'
   subst e8 e8'
   refine thn (ht s3 H3 fp _ s8 _ _ _ I8 step7) fun b s9 W' => ?_
   obtain ⟨H9, I9, q9⟩ := W'
   cases b with
   | false =>
    rw [if_neg Bool.false_ne_true] at q9 ⊢
    obtain ⟨m', hm, w9⟩ := q9
    exact ⟨m', hm, i + 1, ys, H9, some z1, some z2, I9.unpinned, (back I9).1, (back I9).2, w9⟩
   | true =>
    rw [if_pos rfl] at q9 ⊢
    refine thn (he s3 H3 fp _ s9 _ H9 _ I9 q9) fun u10 s10 W' => ?_
    obtain ⟨y10, H10, I10, r10, hp10, m', hm, w10⟩ := W'
    refine thn (cqn _ s10 _ H10 (.ref p) [y10] (.ref p) [u10] (fun _ H' => H' = upd H10 p (.lst (ys ++ [y10]))) I10 rfl (.cons r10 .nil) ⟨p, ys, y10, rfl, rfl, hp10, hlen, rfl⟩) fun _ s11 W' => ?_
    obtain ⟨_, H11, I11, _, e11⟩ := W'
    subst e11
    exact ⟨m', hm, i + 1, ys ++ [y10], _, some z1, some z2, I11.unpinned, (back I11).1, (back I11).2, w10⟩
 exact codeAny_compStart_list loop (T.self _ 0 _ _ _ st4 loop)
theorem pqQ (hc : X.calm = true) (hclos : closureFor scope X.env = pure cl) (hcell : ∀ y ∈ scope.names, y.2 ≠ .cell) (hkind : scope.kind = .function)
  (hnames : ∀ y ∈ scope.names, y.2 = .local → scope.names.lookup y.1 = some .local) (hx : scope.names.lookup x = some .local) (hx2 : scope.names.lookup x2 = some .local) (hnd : (x :: x2 :: fx).Nodup)
  (hk : (cl.all fun q => fx.contains q.1) = true) (F : Frees X (relabel scope X.env) cl fx fr)
  (hfx : ((relabel scope X.env).names.all fun p => if (p.2 == .cell || p.2 == .free) then fx.contains p.1 else true) = true)
  (hi : PI X (.Tuple [.Name x px, .Name x2 px2] kx ptx) iter wi) (ht : ∀ s H fp, PF (compCx X (x :: x2 :: fx) scope cl s H fp) ifs tt) (he : ∀ s H fp, PE (compCx X (x :: x2 :: fx) scope cl s H fp) elt te)
  (hs : ∀ x, foldedSetIterable iter X.env x = pure x := by intro _; rfl) :
  PE X (.ListComp elt [⟨.Tuple [.Name x px, .Name x2 px2] kx ptx, iter, ifs, 0⟩] scope pos) (tComp2 X.K wi fr tt te) := by
 intro pins s σ H Q I h
 have hcl : ∀ y c, cl.lookup y = some c → X.env.cells.lookup y = some c := fun y c e => by
  have q := List.all_eq_true.mp hk _ (PySem.mem_of_lookup e)
  rw [← (F.mem y (by simpa using q)).2]
  exact e
 rw [eval_ListComp]
 refine wpAny_comprehension_free (use := none) rfl hs hclos hkind hnames ?_
 refine thn (hi pins s σ H _ I h) fun v s1 h1 => thn h1 fun itv s2 h2 => ?_
 obtain ⟨it, fp, tn, J, H2, e, I2, T, st2, f2, q2⟩ := h2
 subst e
 have hp0 : H2 s2.heap.objs.size = none := I2.hok.fresh (Nat.le_refl _)
 obtain ⟨W, ⟨m0, w0⟩, turn⟩ := q2 _ hp0
 have flt : ∀ b ∈ fp, b < s2.heap.objs.size := fun b hb => by
  obtain ⟨o, e, _⟩ := T.obj _ _ st2 b hb
  exact Heap.lt_size e
 refine wpAny_newObj_type (wpAny_newFunctionEnv hcell (by intro y hy; simp at hy) (fun h₁ hns₁ hsb₁ => ?_) hkind)
 dsimp only at hns₁ hsb₁ ⊢
 have hlay : ∀ b u, s2.heap.get? b = some u → (s2.heap.push { cls := .type "list", dict := none, data := .seq ([] : List Value).toArray }).get? b = some u := fun b u e => Heap.get?_push_of_some _ e
 have hnew : (s2.heap.push { cls := .type "list", dict := none, data := .seq ([] : List Value).toArray }).get? s2.heap.objs.size = some { cls := .type "list", dict := none, data := .seq ([] : List Value).toArray } := Heap.get?_push_size _ rfl
 have hsz : (s2.heap.push { cls := .type "list", dict := none, data := .seq ([] : List Value).toArray }).objs.size = s2.heap.objs.size + 1 := Heap.size_push _ _
 generalize hHH : s2.heap.push { cls := .type "list", dict := none, data := .seq ([] : List Value).toArray } = HH at hns₁ hsb₁ hlay hnew hsz ⊢
 have I3 : Inv X pins σ (upd H2 s2.heap.objs.size (.lst [])) { s2 with heap := HH, toks := s2.toks } :=
  I2.laid (t' := s2.toks) (o := .lst []) hlay (Nat.le_refl _) ⟨Nat.zero_le _, [], 0, .nil, hnew⟩
 have ffp : ∀ b ∈ fp, FpOk X pins (upd H2 s2.heap.objs.size (.lst [])) b := fun b hb => by
  obtain ⟨f0, fr'⟩ := f2 b hb
  exact ⟨by rw [aqA (Nat.ne_of_lt (flt b hb))]; exact f0, fr'⟩
 have keep1 : ∀ b u, HH.get? b = some u → h₁.get? b = some u := fun b u e => hsb₁.extBut b u (Nat.ne_of_lt (Heap.lt_size e)) (Heap.get?_push_of_some _ e)
 exact lqe (s3 := { s2 with heap := HH, toks := s2.toks }) hc hkind hx hx2 hnd hcl F hfx ht he I3 T (T.keep _ _ _ st2 fun b hb o e => hlay b o e) ffp (fun b hb => by show b < HH.objs.size; rw [hsz]; exact Nat.lt_succ_of_lt (flt b hb)) w0 turn hns₁ keep1 fun s6 H5 o o2 I6 qn => by
  obtain ⟨m, hn6, _⟩ := id I6.loc
  exact ⟨m, hn6, fun h' sb => ⟨.ref _, H5, jqQ I3 I6 ffp sb, rfl, qn⟩⟩
theorem nqc {K : PySem.W.Frag} (h : X.K = K) (hc : X.calm = true) (hclos : closureFor scope X.env = pure cl) (hcell : ∀ y ∈ scope.names, y.2 ≠ .cell) (hkind : scope.kind = .function)
  (hnames : ∀ y ∈ scope.names, y.2 = .local → scope.names.lookup y.1 = some .local) (hx : scope.names.lookup x = some .local) (hx2 : scope.names.lookup x2 = some .local) (hnd : (x :: x2 :: fx).Nodup)
  (hk : (cl.all fun q => fx.contains q.1) = true) (F : Frees X (relabel scope X.env) cl fx fr)
  (hfx : ((relabel scope X.env).names.all fun p => if (p.2 == .cell || p.2 == .free) then fx.contains p.1 else true) = true)
  (hi : PI X (.Tuple [.Name x px, .Name x2 px2] kx ptx) iter wi) (ht : ∀ s H fp, PF (compCx X (x :: x2 :: fx) scope cl s H fp) ifs tt) (he : ∀ s H fp, PE (compCx X (x :: x2 :: fx) scope cl s H fp) elt te)
  (hs : ∀ x, foldedSetIterable iter X.env x = pure x := by intro _; rfl) :
  PE X (.ListComp elt [⟨.Tuple [.Name x px, .Name x2 px2] kx ptx, iter, ifs, 0⟩] scope pos) (tComp2 K wi fr tt te) := by
 subst h; exact pqQ hc hclos hcell hkind hnames hx hx2 hnd hk F hfx hi ht he hs
end
section
variable {p : Addr} {fv : St} {te : TE} {Q : VK} {H1 : Hp} {K : PySem.W.Frag}
theorem nqQ {a : Addr} {xs zs : List V} {f : Nat → V × V} (hxs : SqT K H1 a xs) (hlen : xs.length ≤ sizeLine) (hp : H1 p = none) (hz : zs.length = xs.length)
  (hit : ∀ (i : Nat) (x : V) (H' : Hp), xs[i]? = some x → Same H1 H' → ∃ b, x = .ref b ∧ SqT K H' b [(f i).1, (f i).2])
  (he : ∀ (i : Nat) (z : V), i < xs.length → zs[i]? = some z → ∀ (H' : Hp) (T : VK), Same H1 H' → (∀ H'', Same H' H'' → T z H'') → te (some (f i).1 :: some (f i).2 :: fv) H' T)
  (hQ : ∀ H', Same H1 H' → H' p = some (.lst zs) → Q (.ref p) H') : CompI2 K (Itt K a) p fv tYes te Q H1 := by
 refine ⟨fun i m ys H2 => m = xs.length - i ∧ i ≤ xs.length ∧ ys = zs.take i ∧ H2 p = some (.lst ys) ∧ Same H1 H2, ⟨xs.length, by simp, Nat.zero_le _, by simp, aqk, fun b o e => by rw [aqA (aqx e hp)]; exact e⟩, ?_⟩
 rintro i m ys H2 ⟨rfl, hi, rfl, hp2, sm⟩
 refine ⟨hp2, ?_⟩
 have q := sm.tup hxs
 by_cases hlt : i < xs.length
 ·refine .inr ⟨⟨xs, xs[i], q, by simp [hlt]⟩, ?_, fun x H3 y => ?_⟩
  ·rw [List.length_take]; lia
  ·obtain ⟨rfl, y⟩ := y
   have hc := y xs q
   obtain ⟨b, rfl, hb⟩ := hit i x H3 hc sm
   refine ⟨b, _, _, rfl, hb, ?_⟩
   unfold tYes
   dsimp only
   rw [if_pos rfl]
   have hzi : zs[i]? = some zs[i] := by simp [hz, hlt]
   refine he i _ hlt hzi _ _ sm fun H5 s5 => ⟨s5 _ _ hp2, xs.length - (i + 1), by lia, rfl, hlt, ?_, aqk, fun b o e => ?_⟩
   ·rw [List.take_add_one, hzi]; rfl
   ·rw [aqA (aqx e hp)]; exact s5 _ _ (sm _ _ e)
 ·have e : i = xs.length := by lia
  subst e
  refine .inl ⟨⟨xs, q, Nat.le_refl _⟩, hQ H2 sm ?_⟩
  rw [hp2, ← hz, List.take_length]
theorem oqs {tl : TE} {tt : TT} {fr : List Nat} {σ : St} {H : Hp} : (tComp2 K (iTup K tl) fr tt te σ H Q) = (tl σ H fun x H1 => ∃ a, x = .ref a ∧ (∃ xs, SqT K H1 a xs) ∧ ∀ p, H1 p = none → CompI2 K (Itt K a) p (frV σ fr) tt te Q H1) := rfl
end
section
variable {X : Cx}
def rFind : V → List V → Hp → VK → Prop := fun x vs H Q => match x, vs with
 | .str z, [.str y] => Q (.int (Txt.find z y)) H
 | _, _ => False
theorem rqE {z y : Str} {H : Hp} {Q : VK} : (rFind (.str z) [.str y] H Q) = (Q (.int (Txt.find z y)) H) := rfl
end
end L2
namespace Wm
open PySem L2
def low1 (c : Nat) : Nat := if 65 ≤ c ∧ c ≤ 90 then c + 32 else c
theorem tqd : ∀ c, c < 128 → isSg c = true → isSg (low1 c) = true := by decide +kernel
theorem qqE : ∀ c, c < 128 → isAln c = true → isAln (low1 c) = true := by decide +kernel
theorem qqS : ∀ c, c < 128 → isLet c = true → isLet (low1 c) = true := by decide +kernel
theorem qqQ (c : Nat) : low1 (low1 c) = low1 c := by unfold low1; split <;> (try split) <;> lia
def lowT (l : List Nat) : List Nat := l.map low1
theorem lqM (l : List Nat) : lowT (lowT l) = lowT l := by
 unfold lowT; rw [List.map_map]; exact List.map_congr_left (fun c _ => qqQ c)
theorem iq8 (l : List Nat) : (lowT l).length = l.length := List.length_map ..
def plainM (x : Ad) : Ad := ({ x with scheme := lowT x.scheme, house := x.house.map lowT } : Ad).gone
theorem fqL {c : Nat} (h : isSg c = true) : c < 128 := by have := dqb h; lia
theorem fqG {x : Ad} (h : x.Wf) : (plainM x).Wf := by
 refine Ad.Wf.gone ⟨⟨by rw [iq8]; exact h.sch.1, fun c hc => ?_, fun c hc => ?_⟩, fun l e => ?_, fun i e => ?_, h.stp, fun z => h.roo (z.imp (fun y e => y (by rw [e]; rfl)) (fun y e => y (by rw [e]; rfl))), h.end_, h.que, h.mar⟩
 ·obtain ⟨d, hd, rfl⟩ := List.mem_map.mp hc
  have := h.sch.2.1 d hd
  exact qqE d (fqL (iqN this)) this
 ·unfold lowT at hc
  rw [← List.map_take] at hc
  obtain ⟨d, hd, rfl⟩ := List.mem_map.mp hc
  have h1 := h.sch.2.2 d hd
  exact qqS d (fqL (iqN (h.sch.2.1 d (List.mem_of_mem_take hd)))) h1
 ·obtain ⟨m, hm, rfl⟩ := Option.map_eq_some_iff.mp e
  obtain ⟨h1, h2⟩ := h.hou m hm
  refine ⟨by rw [iq8]; exact h1, fun c hc => ?_⟩
  obtain ⟨d, hd, rfl⟩ := List.mem_map.mp hc
  exact tqd d (fqL (h2 d hd)) (h2 d hd)
 ·obtain ⟨h1, h2⟩ := h.doo i e
  refine ⟨h1, fun z => h2 ?_⟩
  cases hh : x.house with
  | none => rfl
  | some l => rw [hh] at z; cases z
theorem gqq (x : Ad) : plainM (plainM x) = plainM x := by
 have e : ({ plainM x with scheme := lowT (plainM x).scheme, house := (plainM x).house.map lowT } : Ad) = plainM x := by
  have h1 : lowT (plainM x).scheme = (plainM x).scheme := lqM _
  have h2 : (plainM x).house.map lowT = (plainM x).house := by
   show (x.house.map lowT).map lowT = x.house.map lowT
   cases x.house with
   | none => rfl
   | some l => simp [lqM]
  rw [h1, h2]
 show ({ plainM x with scheme := lowT (plainM x).scheme, house := (plainM x).house.map lowT } : Ad).gone = _
 rw [e]
 exact Ad.gone_again _
theorem eqL (x : Ad) : (plainM x).steps.length ≤ x.steps.length := Ad.gone_len _
end Wm
namespace Wm
end Wm
namespace L2
open PySem
theorem sqj {l : Addr} {H : Hp} {Q : VK} {i : Int} : rPopAt (.ref l) [.int i] H Q ↔ ∃ xs k y, H l = some (.lst xs) ∧ -(2 ^ 63) ≤ i ∧ i < 2 ^ 63 ∧ seqIndex? i xs.length = some k ∧ xs[k]? = some y ∧ Q y (upd H l (.lst (xs.eraseIdx k))) :=
 ⟨fun ⟨_, xs, _, k, y, h1, h2, h⟩ => by cases h1; cases h2; exact ⟨xs, k, y, h⟩, fun ⟨xs, k, y, h⟩ => ⟨_, xs, _, k, y, rfl, rfl, h⟩⟩
end L2
namespace L2
open PySem PySem.Spec PySem.W PyProof.Rows
def tRaise (E : XK) (C : Addr) : TS := fun _ _ H => E (.ref C) none H
theorem oqQ {E : XK} {C : Addr} {D : Ends} {σ : St} {H : Hp} : (tRaise E C D σ H) = (E (.ref C) none H) := rfl
structure Flown (P : Program) (w : World) (base : Heap) (outer : List Env) (H : Hp) (s : Shared) (a t C : Addr) (B : Heap) (H' : Hp) (s' : Shared) : Prop where
 os : s'.os = s.os
 bare : AllBare s'.gens
 st : base.StaysIn B
 fly : Heap.FlyingW B outer a (.ref C) (.ref t) s'.heap
 hok : HOk P w H' B
 un : Un (frs outer) [] H H' s.heap s'.heap
 kb : ∀ b o, s.heap.get? b = some o → H b = none → b ∉ frs outer → B.get? b = some o
 thB : ∀ b o, s.heap.get? b = some o → b ∉ frs outer → ∃ o', B.get? b = some o'
section
variable {P : Program} {w : World} {K : Frag} {mg : Str → Option Value} {base : Heap} {N : List Str} {qual : Str} {scope : Scope} {f : Addr} {cd : Value} {A : Around} {outer : List Env} {s : Shared} {H : Hp} {E : XK}
end
def exO (a C : Addr) : HO := .ext fun h => ∃ o, h.get? a = some o ∧ o.cls = .ref C
section
variable {X : Cx} {pins : List (Addr × Obj)} {σ : St} {H H1 H2 : Hp} {s s1 s2 : Shared}
end
structure Catch (K : Frag) (W : Addr) : Prop where
 ty : typeIn K (.ref W) = some (.type "type")
 ex : subIn K (.ref W) (.type "BaseException") = some true
 cl : (clsIn K W).isSome = true
def tTry (K : Frag) (sp : Sp) (t : TA) (W : Addr) (i : Nat) (tb : TS) : TS := fun D σ H => t σ H fun vs H1 => sp vs H1 (fun _ H2 => D.nx σ H2) fun cls _ H2 =>
 ∃ C, cls = .ref C ∧ subIn K (.ref C) (.ref W) = some true ∧ ∀ a, H2 a = none → tb { nx := fun σ' H' => D.nx (σ'.set i none) H', rt := D.rt } (σ.set i (some (.ref a))) (upd H2 a (exO a C))
end L2
namespace L2
open PySem PySem.Spec PySem.W PySem.Calls PyProof.Rows PySem.Builtin PySem.Builtin.ObjectAttr PySem.Builtin.Getset_descriptor
structure ExLook (K : Frag) (C : Addr) : Prop where
 ga : findIn K (.ref C) "__getattribute__" = some (some (.builtin "BaseException.__getattribute__"))
 cl : findIn K (.ref C) "__class__" = some (some (.builtin "object.__class__"))
 na : findIn K (.ref C) "__getattr__" = some none
 mo : mroIn K C (.type "object") = some true
 mb : mroIn K C (.type "BaseException") = some true
 is : (clsIn K C).isSome = true
section
variable {prog : Program} {w : World} {A : Around} {E : Value → Shared → Prop} {hh : Heap} {g : Array GenState} {dr : Drawn} {t : Nat} {os : OsState} {K : Frag} {a C : Addr} {o : Obj}
end
inductive KitAns (K : Frag) (H : Hp) (C : Addr) : V → Bool → Prop
 | cls {W : Addr} {b : Bool} : kitOne K (.ref C) (.ref W) = some b → KitAns K H C (.ref W) b
 | ty {T : String} {b : Bool} : kitOne K (.ref C) (.type T) = some b → KitAns K H C (.ty T) b
 | tup {p : Addr} {cs : List Addr} {b : Bool} : H p = some (.tup (cs.map V.ref)) → kitAny K (.ref C) (cs.map Value.ref) = some b → KitAns K H C (.ref p) b
def rIsE (K : Frag) : List V → Hp → VK → Prop := fun vs H Q => ∃ a c C b, vs = [.ref a, c] ∧ H a = some (exO a C) ∧ ExLook K C ∧ KitAns K H C c b ∧ Q (.bl b) H
end L2
namespace L2
open PySem PySem.W
theorem tqH {K : Frag} {a : Addr} {c : V} {H : Hp} {Q : VK} : rIsE K [.ref a, c] H Q ↔ ∃ C b, H a = some (exO a C) ∧ ExLook K C ∧ KitAns K H C c b ∧ Q (.bl b) H :=
 ⟨fun ⟨_, _, C, b, e, h⟩ => by cases e; exact ⟨C, b, h⟩, fun ⟨C, b, h⟩ => ⟨a, c, C, b, rfl, h⟩⟩
theorem sqG {K : Frag} {sp : Sp} {t : TA} {W : Addr} {i : Nat} {tb : TS} {D : Ends} {σ : St} {H : Hp} : tTry K sp t W i tb D σ H ↔ t σ H fun vs H1 => sp vs H1 (fun _ H2 => D.nx σ H2) fun cls _ H2 =>
 ∃ C, cls = .ref C ∧ subIn K (.ref C) (.ref W) = some true ∧ ∀ a, H2 a = none → tb { nx := fun σ' H' => D.nx (σ'.set i none) H', rt := D.rt } (σ.set i (some (.ref a))) (upd H2 a (exO a C)) := Iff.rfl
end L2
namespace L2
open PySem PySem.Spec PyProof.Rows
theorem sw3 (x y : Str) (t u : Tok) (i : Nat) (v : Tok) :
  Meets (Builtin.«str.startswith» ⟨[.str x t, .str y u, .int (i : Int) v], []⟩) (fun _ R s => R (.ok (.ret (.bool (decide (i + y.length ≤ x.length) && Builtin.Str.subAt x y i)))) s) :=
 .of_wp fun prog w A R s h => by
  obtain ⟨hp, g, d, tk, os⟩ := s
  unfold Builtin.«str.startswith»
  wp_walk
  rw [F.slot_int_index.lookup]
  wp_walk
  refine ⟨_, rfl, ?_⟩
  have e1 : (max (0 : Int) (if (i : Int) < 0 then (i : Int) + (x.length : Int) else (i : Int))).toNat = i := by
   rw [if_neg (by lia)]; lia
  have e2 : min ((x.length : Nat) : Int).toNat x.length = x.length := by lia
  dsimp only
  rw [e1, e2]
  exact h
section
variable {X : Cx}
def rStarts : V → List V → Hp → VK → Prop := fun x vs H Q => ∃ z y, ∃ i : Nat, x = .str z ∧ vs = [.str y, .int (i : Int)] ∧ Q (.bl (decide (i + y.length ≤ z.length) && Builtin.Str.subAt z y i)) H
theorem mqq : MtR X "str.startswith" rStarts := by
 intro pins s σ H x vs v us Q I rx rv h
 obtain ⟨z, y, i, rfl, rfl, q⟩ := h
 obtain ⟨t, rfl⟩ := rx
 obtain ⟨u1, u2, rfl, r1, r2⟩ := vals2 rv
 obtain ⟨t1, rfl⟩ := r1
 obtain ⟨t2, rfl⟩ := r2
 exact call_meets F.slot_str_startswith (typeIs_str _ _ _) F.entry_str_startswith (F.args_str_startswith_3 _ _ _) (sw3 z y t t1 i t2) ⟨.bl _, H, I, rfl, q⟩
end
section
variable {X : Cx}
def rPart : V → List V → Hp → VK → Prop := fun x vs H Q => ∃ z y, x = .str z ∧ vs = [.str y] ∧ (y.length == 0) = false ∧ z.length ≤ sizeLine ∧
 ∀ p, H p = none → Q (.ref p) (upd H p (.tup [.str (Txt.partition z y).1, .str (Txt.partition z y).2.1, .str (Txt.partition z y).2.2]))
theorem gqs : MtR X "str.partition" rPart := by
 intro pins s σ H x vs v us Q I rx rv h
 obtain ⟨z, y, rfl, rfl, hy, hz, q⟩ := h
 obtain ⟨t, rfl⟩ := rx
 obtain ⟨u, rfl, t', rfl⟩ := vals1 rv
 have hf : H s.heap.objs.size = none := I.hok.fresh (Nat.le_refl _)
 have q := q _ hf
 refine call_meets F.slot_str_partition (typeIs_str _ _ _) F.entry_str_partition (F.args_str_partition_2 _ _) (meets_str_partition z y t t' hy hz) ?_
 unfold Txt.partition at q
 revert q
 cases Builtin.Str.occurrences z y 0 z.length 1 with
 | nil =>
  intro q
  refine ⟨.ref s.heap.objs.size, _, I.laid (t' := s.toks + 1) (o := .tup _) (fun b u e => Heap.get?_push_of_some _ e) (by lia) ?_, rfl, q⟩
  exact ⟨by show 3 ≤ sizeLine; decide, _, .cons ⟨_, rfl⟩ (.cons ⟨_, rfl⟩ (.cons ⟨_, rfl⟩ .nil)), IsTup.new _ _⟩
 | cons i r =>
  intro q
  refine ⟨.ref s.heap.objs.size, _, I.laid (t' := s.toks + 1 + 1) (o := .tup _) (fun b u e => Heap.get?_push_of_some _ e) (by lia) ?_, rfl, q⟩
  exact ⟨by show 3 ≤ sizeLine; decide, _, .cons ⟨_, rfl⟩ (.cons ⟨_, rfl⟩ (.cons ⟨_, rfl⟩ .nil)), IsTup.new _ _⟩
end
theorem oqp {us : List Value} {d : Value} (h : (us ++ [d]).length = 3) : ∃ x y, us = [x, y] := by
 match us, h with
 | [x, y], _ => exact ⟨x, y, rfl⟩
 | [], h => simp at h
 | [_], h => simp at h
 | _ :: _ :: _ :: _, h => simp at h
section
variable {X : Cx}
def rIntS : List V → Hp → VK → Prop := fun xs H Q => ∃ z n, xs = [.str z] ∧ z.length ≤ 640 ∧ PySem.intText? z = some n ∧ Q (.int n) H
theorem kqM : CallR X (.type "int") rIntS := by
 intro pins s σ H xs us Q I r h
 obtain ⟨z, n, rfl, hz, hn, q⟩ := h
 obtain ⟨u, rfl, t, rfl⟩ := vals1 r
 exact PySem.W.KIN.call_text hn hz ⟨.int n, H, I.tok _, ⟨_, rfl⟩, q⟩
theorem rq6 {z : Str} {H : Hp} {Q : VK} : rIntS [.str z] H Q ↔ ∃ n, z.length ≤ 640 ∧ PySem.intText? z = some n ∧ Q (.int n) H :=
 ⟨fun ⟨_, n, e, h⟩ => by cases e; exact ⟨n, h⟩, fun ⟨n, h⟩ => ⟨z, n, rfl, h⟩⟩
theorem tqf {z y : Str} {i : Nat} {H : Hp} {Q : VK} : rStarts (.str z) [.str y, .int (i : Int)] H Q ↔ Q (.bl (decide (i + y.length ≤ z.length) && Builtin.Str.subAt z y i)) H :=
 ⟨fun ⟨_, _, j, e1, e2, h⟩ => by
  cases e1
  injection e2 with e2 e3
  cases e2
  injection e3 with e3
  injection e3 with e3
  obtain rfl : i = j := by lia
  exact h, fun h => ⟨z, y, i, rfl, rfl, h⟩⟩
theorem qqi {z y : Str} {H : Hp} {Q : VK} : rPart (.str z) [.str y] H Q ↔ (y.length == 0) = false ∧ z.length ≤ sizeLine ∧ ∀ p, H p = none → Q (.ref p) (upd H p (.tup [.str (Txt.partition z y).1, .str (Txt.partition z y).2.1, .str (Txt.partition z y).2.2])) :=
 ⟨fun ⟨_, _, e1, e2, h⟩ => by cases e1; cases e2; exact h, fun h => ⟨z, y, rfl, rfl, h⟩⟩
theorem squ {K : PySem.W.Frag} {ta : TE} {f : Str} {σ : St} {H : Hp} {Q : VK} : (tFld K ta f σ H Q) = (ta σ H fun x H1 => ∃ a C dx fs v, x = .ref a ∧ H1 a = some (.ins C dx fs) ∧ Cls K C ∧ NoAttr K C f ∧ fs.lookup f = some v ∧ Q v H1) := rfl
theorem qq3 {K : PySem.W.Frag} {ta tv : TE} {f : Str} {D : Ends} {σ : St} {H : Hp} : (sFld K ta tv f D σ H) = (tv σ H fun y H1 => ta σ H1 fun x H2 => ∃ a C dx fs, x = .ref a ∧ H2 a = some (.ins C dx fs) ∧ Cls K C ∧ NoAttr K C f ∧ fs.length < 1000 ∧ D.nx σ (upd H2 a (.ins C dx (putF f y fs)))) := rfl
theorem qqw {C : Addr} {m : Str} {sp : Sp} {dvs : List V} {E : XK} {ta : TE} {t : TA} {σ : St} {H : Hp} {Q : VK} : (tMeth C m sp dvs E ta t σ H Q) = (ta σ H fun x H1 => ∃ a dx fs, x = .ref a ∧ H1 a = some (.ins C dx fs) ∧ fs.lookup m = none ∧ t σ H1 fun vs H2 => sp (x :: (vs ++ dvs)) H2 Q E) := rfl
theorem sqc {C : Addr} {sp : Sp} {dvs : List V} {E : XK} {t : TA} {σ : St} {H : Hp} {Q : VK} : (tMake C sp dvs E t σ H Q) = (t σ H fun vs H1 => ∀ x dx, H1 x = none → H1 dx = none → dx ≠ x → sp (.ref x :: (vs ++ dvs)) (upd (upd H1 dx (.own x)) x (.ins C dx [])) (fun v H2 => v = .non ∧ Q (.ref x) H2) E) := rfl
end
end L2
namespace Wm
open PySem L2
theorem nqh (t w : List Nat) (i : Nat) (hi : i ≤ t.length) : (decide (i + (⟨w.toArray⟩ : Str).length ≤ (⟨t.toArray⟩ : Str).length) && Builtin.Str.subAt ⟨t.toArray⟩ ⟨w.toArray⟩ i) = decide ((t.drop i).take w.length = w) := by
 rw [bqe, bqe]
 have e : Builtin.Str.subAt ⟨t.toArray⟩ ⟨w.toArray⟩ i = decide ((t.drop i).take w.length = w) := by
  unfold Builtin.Str.subAt
  rw [bqe, Bool.eq_iff_iff, beq_iff_eq, decide_eq_true_eq]
  show (t.toArray.extract i (i + w.length) = w.toArray) ↔ _
  rw [← Array.toList_inj]
  simp
 rw [e]
 by_cases h : (t.drop i).take w.length = w
 ·have hl := congrArg List.length h
  rw [List.length_take, List.length_drop] at hl
  rw [decide_eq_true h, Bool.and_true]
  by_cases hw : w.length = 0
  ·rw [hw, Nat.add_zero]
   exact decide_eq_true hi
  ·exact decide_eq_true (by lia)
 ·rw [decide_eq_false h, Bool.and_false]
theorem occ1 (x y : Str) : ∀ (l : List Nat) (free : Nat), (∀ i ∈ l, free ≤ i) →
  (forIn l ((#[] : Array Nat), free) (StrLaws.occBody x y x.length 1)).run.fst.toList = (l.find? fun i => decide (i + y.length ≤ x.length) && Builtin.Str.subAt x y i).toList
 | [], free, _ => rfl
 | a :: l, free, hf => by
  rw [List.forIn_cons, List.find?_cons]
  have ha : free ≤ a := hf a (List.mem_cons_self ..)
  by_cases hc : a + y.length ≤ x.length ∧ Builtin.Str.subAt x y a = true
  ·have e : (decide (a + y.length ≤ x.length) && Builtin.Str.subAt x y a) = true := by rw [decide_eq_true hc.1, hc.2]; rfl
   rw [e]
   unfold StrLaws.occBody
   rw [if_pos ⟨⟨⟨by simp, ha⟩, hc.1⟩, hc.2⟩]
   have full : ∀ (l : List Nat) (st : Array Nat × Nat), st.1.size = 1 → (forIn l st (StrLaws.occBody x y x.length 1)).run.fst = st.1 := by
    intro l
    induction l with
    | nil => intro st _; rfl
    | cons b l ih =>
     intro st hs
     rw [List.forIn_cons]
     unfold StrLaws.occBody
     rw [if_neg (fun h => by have := h.1.1.1; lia)]
     exact ih st hs
   show (forIn l ((#[] : Array Nat).push a, a + y.length) (StrLaws.occBody x y x.length 1)).run.fst.toList = _
   rw [full l _ (by simp)]
   simp
  ·have e : (decide (a + y.length ≤ x.length) && Builtin.Str.subAt x y a) = false := by
    cases h1 : Builtin.Str.subAt x y a with
    | false => rw [Bool.and_false]
    | true => rw [Bool.and_true]; exact decide_eq_false fun z => hc ⟨z, h1⟩
   rw [e]
   unfold StrLaws.occBody
   rw [if_neg (fun h => hc ⟨h.1.2, h.2⟩)]
   exact occ1 x y l free fun i hi => hf i (List.mem_cons_of_mem _ hi)
def ahead (t : List Nat) : List Nat := t.takeWhile fun c => decide (c ≠ 58)
theorem oqS (t : List Nat) (i : Nat) : (decide (i + (⟨[58].toArray⟩ : Str).length ≤ (⟨t.toArray⟩ : Str).length) && Builtin.Str.subAt ⟨t.toArray⟩ ⟨[58].toArray⟩ i) = decide (t[i]? = some 58) := by
 by_cases hi : i ≤ t.length
 ·rw [nqh t [58] i hi, decide_eq_decide]
  cases h : t.drop i with
  | nil =>
   have : t[i]? = none := List.getElem?_eq_none (by have := congrArg List.length h; rw [List.length_drop, List.length_nil] at this; lia)
   rw [this]
   simp
  | cons c r =>
   have : t[i]? = some c := by rw [← List.head?_drop, h]; rfl
   rw [this]
   simp
 ·rw [List.getElem?_eq_none (by lia), bqe, bqe, decide_eq_false (by rw [List.length_singleton]; lia)]
  rfl
theorem mqp (t : List Nat) : ∀ (k : Nat), k ≤ t.length → (t.take k).all (fun c => decide (c ≠ 58)) = true →
  ((List.range' k (t.length + 1 - k)).find? fun i => decide (t[i]? = some 58)) = if 58 ∈ t then some (ahead t).length else none := by
 intro k
 induction hn : t.length - k generalizing k with
 | zero =>
  intro hk ha
  have e : k = t.length := by lia
  subst e
  rw [List.take_length] at ha
  have hno : 58 ∉ t := fun h => by have := List.all_eq_true.mp ha 58 h; simp at this
  rw [if_neg hno, show t.length + 1 - t.length = 1 by lia]
  simp
 | succ n ih =>
  intro hk ha
  have hk' : k < t.length := by lia
  have hc : t[k]? = some t[k] := List.getElem?_eq_getElem hk'
  rw [show t.length + 1 - k = (t.length + 1 - (k + 1)) + 1 by lia, List.range'_succ, List.find?_cons, hc]
  by_cases h58 : t[k] = 58
  ·rw [h58]
   simp only [decide_true]
   rw [if_pos (by rw [← h58]; exact List.getElem_mem hk')]
   congr 1
   have ht : t = t.take k ++ 58 :: t.drop (k + 1) := by
    rw [← h58, List.getElem_cons_drop, List.take_append_drop]
   unfold ahead
   rw [ht, List.takeWhile_append_of_pos (fun c hc' => List.all_eq_true.mp ha c hc'), List.takeWhile_cons_of_neg (by simp)]
   simp; lia
  ·rw [show decide (some t[k] = some 58) = false from decide_eq_false (by simpa using h58)]
   refine ih (k + 1) (by lia) (by lia) ?_
   rw [List.take_add_one, hc, List.all_append, ha]
   simpa using h58
theorem mqt (t : List Nat) : (Txt.partition ⟨t.toArray⟩ ⟨[58].toArray⟩).1 = ⟨(ahead t).toArray⟩ := by
 have e : Builtin.Str.occurrences (⟨t.toArray⟩ : Str) ⟨[58].toArray⟩ 0 (⟨t.toArray⟩ : Str).length 1 = (if 58 ∈ t then some (ahead t).length else none).toList := by
  rw [StrLaws.occ_eq, occ1 _ _ _ _ (fun i _ => Nat.zero_le i)]
  simp only [oqS]
  rw [bqe]
  exact congrArg Option.toList (mqp t 0 (Nat.zero_le _) rfl)
 unfold Txt.partition
 rw [e]
 by_cases h : 58 ∈ t
 ·rw [if_pos h]
  show Builtin.Str.strSub ⟨t.toArray⟩ 0 (ahead t).length = _
  unfold Builtin.Str.strSub
  have hp : t.take (ahead t).length = ahead t := (List.prefix_iff_eq_take.mp (List.takeWhile_prefix _)).symm
  rw [← hp, List.length_take]
  have : (ahead t).length ≤ t.length := (List.takeWhile_prefix _).length_le
  rw [show min (ahead t).length t.length = (ahead t).length by lia]
  show (⟨t.toArray.extract 0 (ahead t).length⟩ : Str) = _
  simp
 ·rw [if_neg h]
  have all : ∀ l : List Nat, 58 ∉ l → ahead l = l := fun l => by
   induction l with
   | nil => intro _; rfl
   | cons c l ih =>
    intro hl
    have h1 : c ≠ 58 := fun z => hl (by rw [z]; exact List.mem_cons_self ..)
    unfold ahead
    rw [List.takeWhile_cons, if_pos (decide_eq_true h1)]
    exact congrArg (c :: ·) (ih fun z => hl (List.mem_cons_of_mem _ z))
  have : ahead t = t := all t h
  rw [this]
  rfl
def Cur (H : Hp) (C p : Addr) (t : List Nat) (k : Nat) : Prop := ∃ dx, H p = some (.ins C dx [("text", .str ⟨t.toArray⟩), ("place", .int (k : Int))])
inductive WrT (fr : List Nat) : List Nat → List Nat → Prop
 | nil : WrT fr [] []
 | self {c : Nat} {s w : List Nat} : (isPl c = true ∨ c ∈ fr) → c ≠ 126 → WrT fr s w → WrT fr (c :: s) (c :: w)
 | pair {c a b : Nat} {s w : List Nat} : sgO a b = some c → WrT fr s w → WrT fr (c :: s) (126 :: a :: b :: w)
def Stops (fr r : List Nat) : Prop := ∀ c, r.head? = some c → isPl c = false ∧ c ∉ fr ∧ c ≠ 126
def moV : Option Nat → V
 | none => .non
 | some m => .int (m : Int)
theorem hqj {fr s : List Nat} (h : ∀ c ∈ s, isSg c = true) : WrT fr s (wr s) := by
 induction s with
 | nil => exact .nil
 | cons c s ih =>
  have hc := h c (List.mem_cons_self ..)
  have ih := ih fun d hd => h d (List.mem_cons_of_mem _ hd)
  show WrT fr (c :: s) (wr1 c ++ wr s)
  unfold wr1
  by_cases hp : isPl c = true
  ·rw [if_pos hp]
   exact .self (.inl hp) (fun z => by rw [z] at hp; cases hp) ih
  ·rw [if_neg hp]
   exact .pair (rqs hc) ih
theorem qqr {a n : Nat} (h : fig a = some n) : a < 128 ∧ n < 16 ∧ (n < 10 → a = 48 + n) := by
 unfold fig at h
 split at h
 ·cases h; lia
 ·split at h
  ·cases h; lia
  ·split at h
   ·cases h; lia
   ·cases h
theorem nqg {a b c : Nat} (h : sgO a b = some c) : a ∈ (Str.ofString "234567").cps.toList ∧ a < 128 ∧ b < 128 ∧ isSg c = true := by
 unfold sgO at h
 cases ha : fig a with
 | none => simp [ha] at h
 | some n =>
  cases hb : fig b with
  | none => simp [ha, hb] at h
  | some m =>
   simp only [ha, hb] at h
   split at h
   ·next hs =>
    cases h
    obtain ⟨a1, a2, a3⟩ := qqr ha
    obtain ⟨b1, b2, _⟩ := qqr hb
    have hr := hs
    simp only [isSg, Bool.and_eq_true, decide_eq_true_eq] at hr
    have e := a3 (by lia)
    refine ⟨?_, a1, b1, hs⟩
    have key : ∀ n, n < 8 → 2 ≤ n → 48 + n ∈ (Str.ofString "234567").cps.toList := by decide +kernel
    rw [e]
    exact key n (by lia) (by lia)
   ·cases h
section
variable {K : PySem.W.Frag} {H : Hp} {C p : Addr} {t : List Nat} {i : Nat}
theorem qqA {v u : V} : List.lookup (Str.ofString "text") [(Str.ofString "text", v), (Str.ofString "place", u)] = some v := by
 rw [List.lookup_cons, beq_self_eq_true]
theorem pqs {v u : V} : List.lookup (Str.ofString "place") [(Str.ofString "text", v), (Str.ofString "place", u)] = some u := by
 rw [List.lookup_cons, show (Str.ofString "place" == Str.ofString "text") = false by decide +kernel, List.lookup_cons, beq_self_eq_true]
theorem dqu {R : V → Prop} (h : Cur H C p t i) (cl : Cls K C) (n : NoAttr K C "text") (r : R (.str ⟨t.toArray⟩)) : ∃ a C dx fs v, p = a ∧ H a = some (.ins C dx fs) ∧ Cls K C ∧ NoAttr K C (Str.ofString "text") ∧ List.lookup (Str.ofString "text") fs = some v ∧ R v :=
 let ⟨dx, hp⟩ := h
 ⟨p, C, dx, _, _, rfl, hp, cl, n, qqA, r⟩
theorem bqS {R : V → Prop} (h : Cur H C p t i) (cl : Cls K C) (n : NoAttr K C "place") (r : R (.int (i : Int))) : ∃ a C dx fs v, p = a ∧ H a = some (.ins C dx fs) ∧ Cls K C ∧ NoAttr K C (Str.ofString "place") ∧ List.lookup (Str.ofString "place") fs = some v ∧ R v :=
 let ⟨dx, hp⟩ := h
 ⟨p, C, dx, _, _, rfl, hp, cl, n, pqs, r⟩
theorem nq3 {v u w : V} : putF (Str.ofString "place") w [(Str.ofString "text", v), (Str.ofString "place", u)] = [(Str.ofString "text", v), (Str.ofString "place", w)] := by
 have h : Str.ofString "text" ≠ Str.ofString "place" := by decide +kernel
 simp only [putF, if_neg h, if_true]
theorem kqb {N : Hp → Prop} {z : Int} (h : Cur H C p t i) (cl : Cls K C) (n : NoAttr K C "place") (j : Nat) (hz : z = (j : Int)) (hN : ∀ H', SameBut p H H' → Cur H' C p t j → N H') :
  ∃ a C dx fs, p = a ∧ H a = some (.ins C dx fs) ∧ Cls K C ∧ NoAttr K C (Str.ofString "place") ∧ fs.length < 1000 ∧ N (upd H a (.ins C dx (putF (Str.ofString "place") (.int z) fs))) := by
 obtain ⟨dx, hp⟩ := h
 refine ⟨p, C, dx, _, rfl, hp, cl, n, by show 2 < 1000; decide, ?_⟩
 rw [nq3, hz]
 exact hN _ aqM ⟨dx, aqk⟩
theorem rqa {m : Str} {v u : V} (h1 : (m == Str.ofString "text") = false) (h2 : (m == Str.ofString "place") = false) : List.lookup m [(Str.ofString "text", v), (Str.ofString "place", u)] = none := by
 rw [List.lookup_cons, h1, List.lookup_cons, h2]; rfl
theorem aqr {R : Prop} {m : Str} (h : Cur H C p t i) (r : R) (h1 : (m == Str.ofString "text") = false := by decide +kernel) (h2 : (m == Str.ofString "place") = false := by decide +kernel) :
  ∃ a dx fs, p = a ∧ H a = some (.ins C dx fs) ∧ List.lookup m fs = none ∧ R :=
 let ⟨dx, hp⟩ := h
 ⟨p, dx, _, rfl, hp, rqa h1 h2, r⟩
theorem Cur.same {H' : Hp} (h : Cur H C p t i) (s : Same H H') : Cur H' C p t i := let ⟨dx, hp⟩ := h; ⟨dx, s _ _ hp⟩
end
def plS : List Nat := (Str.ofString "abcdefghijklmnopqrstuvwxyzABCDEFGHIJKLMNOPQRSTUVWXYZ0123456789-_.").cps.toList
theorem nqx : plS.length = 65 := by decide +kernel
theorem lqI {c : Nat} (h : c < 128) : (c ∈ plS) ↔ isPl c = true := by
 have := lq3 c h
 rw [← this, decide_eq_true_eq]
 exact Iff.rfl
def seesB (t sg : List Nat) (i : Nat) : Bool := ((t[i]?).map fun c => decide (c ∈ sg)).getD false
theorem aqZ {t sg : List Nat} {i c : Nat} (h : t[i]? = some c) : seesB t sg i = decide (c ∈ sg) := by unfold seesB; rw [h]; rfl
theorem eqH {t sg : List Nat} {i : Nat} (h : t[i]? = none) : seesB t sg i = false := by unfold seesB; rw [h]; rfl
theorem fqW {t w : List Nat} {i c : Nat} (h : t.drop i = c :: w) : t[i]? = some c ∧ i < t.length := by
 have e : t[i]? = some c := by rw [← List.head?_drop, h]; rfl
 exact ⟨e, (List.getElem?_eq_some_iff.mp e).1⟩
theorem qqM {fr s w : List Nat} (h : WrT fr s w) : s.length ≤ w.length := by
 induction h with
 | nil => exact Nat.le_refl _
 | self _ _ _ ih => simp only [List.length_cons]; lia
 | pair _ _ ih => simp only [List.length_cons]; lia
def frS : List Nat := (Str.ofString "!$'()*,;@&=+").cps.toList
def frQ : List Nat := (Str.ofString "!$'()*,;@+/?:").cps.toList
def frM : List Nat := (Str.ofString "!$'()*,;@&=+/?:").cps.toList
theorem hqG : frS.length ≤ 100 := by decide +kernel
theorem jqe : frQ.length ≤ 100 := by decide +kernel
theorem rqT : frM.length ≤ 100 := by decide +kernel
theorem hqk {fr : List Nat} : Stops fr [] := fun c h => by cases h
theorem cqe {fr r : List Nat} {c : Nat} (h : isPl c = false ∧ c ∉ fr ∧ c ≠ 126) : Stops fr (c :: r) := fun d e => by cases e; exact h
def MarW (o : Option (List Nat)) (w : List Nat) : Prop := match o with
 | none => w = []
 | some s => ∃ v, w = 35 :: v ∧ WrT frM s v
def ValW (o : Option (List Nat)) (w : List Nat) : Prop := match o with
 | none => w = []
 | some s => ∃ v, w = 61 :: v ∧ WrT frQ s v
def HouW (o : Option (List Nat)) (w : List Nat) : Prop := match o with
 | none => w = []
 | some s => ∃ v, w = 47 :: 47 :: v ∧ WrT [] s v ∧ s ≠ [] ∧ s.length ≤ 60
inductive TlW : List (List Nat) → Bool → List Nat → Prop
 | stop : TlW [] false []
 | ends : TlW [] true [47]
 | more {s w : List Nat} {ss : List (List Nat)} {e : Bool} {v : List Nat} : WrT frS s w → s ≠ [] → TlW ss e v → TlW (s :: ss) e (47 :: (w ++ v))
inductive StpW : List (List Nat) → Bool → List Nat → Prop
 | none {e : Bool} : StpW [] e []
 | some {s w : List Nat} {ss : List (List Nat)} {e : Bool} {v : List Nat} : WrT frS s w → s ≠ [] → TlW ss e v → StpW (s :: ss) e (w ++ v)
theorem oqH : (47 : Nat) ∉ frS := by decide +kernel
theorem lqT {fr s w : List Nat} (h : WrT fr s w) (hs : s ≠ []) : ∃ c r, w = c :: r ∧ (isPl c = true ∨ c ∈ fr ∨ c = 126) := by
 cases h with
 | nil => exact absurd rfl hs
 | self a _ _ => exact ⟨_, _, rfl, a.elim .inl (fun z => .inr (.inl z))⟩
 | pair _ _ => exact ⟨_, _, rfl, .inr (.inr rfl)⟩
theorem lqY {ss : List (List Nat)} {e : Bool} {v rest : List Nat} (h : TlW ss e v) (hr : Stops frS rest) : Stops frS (v ++ rest) := by
 cases h with
 | stop => exact hr
 | ends => exact cqe ⟨by decide, oqH, by decide⟩
 | more _ _ _ => exact cqe ⟨by decide, oqH, by decide⟩
theorem lqS {ss : List (List Nat)} {e : Bool} {v rest : List Nat} (h : StpW ss e v) (hr : rest.head? ≠ some 47) : (v ++ rest).head? ≠ some 47 := by
 cases h with
 | none => exact hr
 | some hw hs _ =>
  obtain ⟨c, r, rfl, hc⟩ := lqT hw hs
  intro z
  have e : c = 47 := Option.some.inj z
  subst e
  rcases hc with z | z | z
  ·cases z
  ·exact oqH z
  ·cases z
theorem qqY {ss : List (List Nat)} {e : Bool} {v : List Nat} (h : TlW ss e v) : ss.length ≤ v.length := by
 induction h with
 | stop => exact Nat.le_refl _
 | ends => exact Nat.zero_le _
 | more _ _ _ ih => simp only [List.length_cons, List.length_append]; lia
theorem pqh {ss : List (List Nat)} {e : Bool} {v : List Nat} (h : StpW ss e v) : ss.length ≤ v.length := by
 cases h with
 | none => exact Nat.le_refl _
 | some hw hs ht =>
  obtain ⟨c, r, rfl, _⟩ := lqT hw hs
  have := qqY ht
  simp only [List.length_cons, List.length_append]; lia
inductive PrsW : List (List Nat × Option (List Nat)) → List Nat → Prop
 | nil : PrsW [] []
 | cons {n w v : List Nat} {o : Option (List Nat)} {ps : List (List Nat × Option (List Nat))} {r : List Nat} : WrT frQ n w → n ≠ [] → ValW o v → PrsW ps r → PrsW ((n, o) :: ps) (38 :: (w ++ (v ++ r)))
def QueW (q : Option (List (List Nat × Option (List Nat)))) (w : List Nat) : Prop := match q with
 | none => w = []
 | some [] => w = [63]
 | some ((n, o) :: ps) => ∃ a v r, w = 63 :: (a ++ (v ++ r)) ∧ WrT frQ n a ∧ n ≠ [] ∧ ValW o v ∧ PrsW ps r
theorem oql : (35 : Nat) ∉ frQ ∧ (38 : Nat) ∉ frQ ∧ (61 : Nat) ∉ frQ := by decide +kernel
theorem hqX {ps : List (List Nat × Option (List Nat))} {r rest : List Nat} (h : PrsW ps r) (hr : rest = [] ∨ ∃ x, rest = 35 :: x) : Stops frQ (r ++ rest) ∧ (r ++ rest).head? ≠ some 61 := by
 cases h with
 | nil =>
  rcases hr with rfl | ⟨x, rfl⟩
  ·exact ⟨hqk, by simp⟩
  ·exact ⟨cqe ⟨by decide, oql.1, by decide⟩, by simp⟩
 | cons _ _ _ _ => exact ⟨cqe ⟨by decide, oql.2.1, by decide⟩, by simp⟩
theorem jqZ {o : Option (List Nat)} {v r : List Nat} (h : ValW o v) (hr : Stops frQ r) : Stops frQ (v ++ r) := by
 cases o with
 | none =>
  have h : v = [] := h
  subst h
  exact hr
 | some s =>
  obtain ⟨x, rfl, _⟩ := h
  exact cqe ⟨by decide, oql.2.2, by decide⟩
theorem rqt {ps : List (List Nat × Option (List Nat))} {r : List Nat} (h : PrsW ps r) : ps.length ≤ r.length := by
 induction h with
 | nil => exact Nat.le_refl _
 | cons _ _ _ _ ih => simp only [List.length_cons, List.length_append]; lia
theorem Cur.toT {H H' : Hp} {C p : Addr} {t : List Nat} {i : Nat} (h : Cur H C p t i) (s : SameBut p H H') : SameT H H' := fun b xs e => s b _ (by
 obtain ⟨dx, hp⟩ := h
 exact pqA e hp (by intro z; cases z)) e
def pD (a : List Nat × Option (List Nat)) : PyData := .tuple [st a.1, oD a.2]
def PrL (H : Hp) (vs : List V) (dn : List (List Nat × Option (List Nat))) : Prop := vs.length = dn.length ∧ ∀ (i : Nat) (a : List Nat × Option (List Nat)) (y : V), dn[i]? = some a → vs[i]? = some y → IsT H (pD a) y
theorem PrL.mono {H H' : Hp} {vs : List V} {dn : List (List Nat × Option (List Nat))} (h : PrL H vs dn) (s : SameT H H') : PrL H' vs dn := ⟨h.1, fun i a y e1 e2 => (h.2 i a y e1 e2).mono s⟩
theorem PrL.snoc {H : Hp} {vs : List V} {dn : List (List Nat × Option (List Nat))} {a : List Nat × Option (List Nat)} {y : V} (h : PrL H vs dn) (hy : IsT H (pD a) y) : PrL H (vs ++ [y]) (dn ++ [a]) := by
 refine ⟨by simp [h.1], fun i b z e1 e2 => ?_⟩
 by_cases hi : i < dn.length
 ·rw [List.getElem?_append_left hi] at e1
  rw [List.getElem?_append_left (by rw [h.1]; exact hi)] at e2
  exact h.2 i b z e1 e2
 ·have := (List.getElem?_eq_some_iff.mp e1).1
  rw [List.length_append, List.length_singleton] at this
  have e : i = dn.length := by lia
  subst e
  rw [List.getElem?_append_right (Nat.le_refl _), Nat.sub_self] at e1
  rw [← h.1, List.getElem?_append_right (Nat.le_refl _), Nat.sub_self] at e2
  cases e1
  cases e2
  exact hy
theorem iqL {H : Hp} {α : Type} {g : α → PyData} : ∀ {l : List α} {ys : List V}, ys.length = l.length → (∀ (i : Nat) (a : α) (y : V), l[i]? = some a → ys[i]? = some y → IsT H (g a) y) → IsTAll H (l.map g) ys
 | [], [], _, _ => .nil
 | [], _ :: _, h, _ => by simp at h
 | _ :: _, [], h, _ => by simp at h
 | a :: l, y :: ys, h, k => .cons (k 0 a y rfl rfl) (iqL (by simpa using h) fun i b z e1 e2 => k (i + 1) b z (by simpa using e1) (by simpa using e2))
def fgS : List Nat := (Str.ofString "0123456789").cps.toList
theorem nqt {c : Nat} : c ∈ fgS ↔ 48 ≤ c ∧ c ≤ 57 := by
 rw [show fgS = List.range' 48 10 by decide +kernel, List.mem_range'_1]
 lia
def valD (ds : List Nat) : Nat := ds.foldl (fun a c => a * 10 + (c - 48)) 0
theorem fqs (ds : List Nat) (c : Nat) : valD (ds ++ [c]) = valD ds * 10 + (c - 48) := by unfold valD; rw [List.foldl_append]; rfl
theorem jqm : ∀ (es ds : List Nat), valD ds ≤ valD (ds ++ es)
 | [], ds => by rw [List.append_nil]; exact Nat.le_refl _
 | c :: es, ds => by
  have h := jqm es (ds ++ [c])
  rw [fqs, List.append_assoc] at h
  exact Nat.le_trans (by lia) h
theorem pqt {ds : List Nat} {c : Nat} {r : List Nat} (h : ds = c :: r) (hc : 49 ≤ c) : 0 < valD ds := by
 have := jqm r [c]
 rw [h]
 have e : valD [c] = c - 48 := by unfold valD; simp
 show 0 < valD ([c] ++ r)
 lia
def DooW (o : Option Int) (w : List Nat) : Prop := match o with
 | none => w = []
 | some n => ∃ ds, w = 58 :: ds ∧ ds ≠ [] ∧ (∀ c ∈ ds, 48 ≤ c ∧ c ≤ 57) ∧ (valD ds : Int) = n ∧ valD ds ≤ 65535 ∧ (ds = [48] ∨ ds.head? ≠ some 48)
theorem oqE : ∀ c, c < 58 → 48 ≤ c → PySem.intText? ⟨#[c]⟩ = some (((c - 48 : Nat)) : Int) := by decide +kernel
theorem oqr {s r : List Nat} (h : ∀ c ∈ s, c ≠ 58) : ahead (s ++ 58 :: r) = s := by
 unfold ahead
 rw [List.takeWhile_append_of_pos (fun c hc => decide_eq_true (h c hc)), List.takeWhile_cons_of_neg (by simp), List.append_nil]
theorem kqj (t : List Nat) : ∃ r, t = ahead t ++ r := ⟨t.dropWhile fun c => decide (c ≠ 58), (List.takeWhile_append_dropWhile (p := fun c => decide (c ≠ 58))).symm⟩
theorem nq5 (t : List Nat) : (ahead t).length ≤ t.length := by
 obtain ⟨r, h⟩ := kqj t
 have := congrArg List.length h
 rw [List.length_append] at this
 lia
theorem iqy (t : List Nat) : t.take (ahead t ++ [58]).length = ahead t ++ [58] ↔ t[(ahead t).length]? = some 58 := by
 obtain ⟨r, h⟩ := kqj t
 generalize ahead t = a at h
 subst h
 rw [List.length_append, List.length_singleton, List.getElem?_append_right (Nat.le_refl _), Nat.sub_self, List.take_append]
 rw [List.take_of_length_le (by lia), show a.length + 1 - a.length = 1 by lia]
 constructor
 ·intro e
  have e := List.append_cancel_left e
  cases r with
  | nil => simp at e
  | cons c r => simp at e; rw [e]; rfl
 ·intro e
  cases r with
  | nil => simp at e
  | cons c r => simp at e; rw [e]; rfl
def schM (t : List Nat) : List Nat := if ahead t ≠ [] ∧ schD (.str ⟨(ahead t).toArray⟩) = true ∧ t[(ahead t).length]? = some 58 then ahead t else []
def schP (t : List Nat) : Nat := (schT (schM t)).length
theorem lqW {t : List Nat} (h1 : ahead t ≠ []) (h2 : schD (.str ⟨(ahead t).toArray⟩) = true) (h3 : t[(ahead t).length]? = some 58) : schM t = ahead t ∧ schP t = (ahead t ++ [58]).length := by
 have e : schM t = ahead t := by unfold schM; rw [if_pos ⟨h1, h2, h3⟩]
 exact ⟨e, by unfold schP schT; rw [e, if_neg h1]⟩
theorem jqt {t : List Nat} (h : ¬ (ahead t ≠ [] ∧ schD (.str ⟨(ahead t).toArray⟩) = true ∧ t[(ahead t).length]? = some 58)) : schM t = [] ∧ schP t = 0 := by
 have e : schM t = [] := by unfold schM; rw [if_neg h]
 exact ⟨e, by unfold schP schT; rw [e, if_pos rfl]; rfl⟩
def RdW (x : Ad) (t : List Nat) : Prop := ∃ h d w q m, t = schT x.scheme ++ (h ++ (d ++ ((if x.rooted then [47] else []) ++ (w ++ (q ++ m))))) ∧ schM t = x.scheme ∧ HouW x.house h ∧ DooW x.door d ∧ StpW x.steps x.ends w ∧ QueW x.quest q ∧ MarW x.mark m
end Wm
namespace L2
open PySem
theorem IsKAll.length {K : PySem.W.Frag} {H : Hp} : ∀ {ds : List PyData} {xs : List V}, IsKAll K H ds xs → xs.length = ds.length
 | _, _, .nil => rfl
 | _, _, .cons _ r => by simp [IsKAll.length r]
theorem iqM {K : PySem.W.Frag} {H : Hp} : ∀ {ds : List PyData} {xs : List V} {i : Nat} {d : PyData} {x : V}, IsKAll K H ds xs → ds[i]? = some d → xs[i]? = some x → IsK K H d x
 | _, _, 0, _, _, .cons h _, e1, e2 => by cases e1; cases e2; exact h
 | _, _, i + 1, _, _, .cons _ r, e1, e2 => iqM r (i := i) (by simpa using e1) (by simpa using e2)
 | _, _, 0, _, _, .nil, e1, _ => by cases e1
 | _, _, _ + 1, _, _, .nil, e1, _ => by cases e1
end L2
namespace Wm
open PySem L2
theorem iqE : ∀ n : Nat, valD ((Nat.toDigits 10 n).map Char.toNat) = n ∧ (Nat.toDigits 10 n).map Char.toNat ≠ [] ∧ (((Nat.toDigits 10 n).map Char.toNat).head? = some 48 → n = 0)
 | n => by
  by_cases h : n < 10
  ·rw [Nat.toDigits_of_lt_base h]
   have key : ∀ n, n < 10 → valD ([Nat.digitChar n].map Char.toNat) = n ∧ ([Nat.digitChar n].map Char.toNat).head? = some (48 + n) := by decide +kernel
   obtain ⟨k1, k2⟩ := key n h
   refine ⟨k1, by simp, fun z => ?_⟩
   rw [k2] at z
   injection z with z
   lia
  ·have h' : 10 ≤ n := by lia
   rw [Nat.toDigits_of_base_le (by decide) h', List.map_append]
   obtain ⟨i1, i2, i3⟩ := iqE (n / 10)
   have key : ∀ n, n < 10 → ([Nat.digitChar n].map Char.toNat) = [48 + n] := by decide +kernel
   rw [key (n % 10) (by lia), fqs, i1]
   refine ⟨by lia, by simp, fun z => ?_⟩
   cases hh : (Nat.toDigits 10 (n / 10)).map Char.toNat with
   | nil => exact absurd hh i2
   | cons c r =>
    rw [hh] at z i3
    have := i3 z
    lia
theorem pqC {o : Option Int} (h : ∀ i, o = some i → 0 ≤ i ∧ i ≤ 65535) : DooW o (dooT o) := by
 cases o with
 | none => rfl
 | some i =>
  obtain ⟨h1, h2⟩ := h i rfl
  obtain ⟨n, rfl⟩ := Int.eq_ofNat_of_zero_le h1
  have e : dg (n : Int) = (Nat.toDigits 10 n).map Char.toNat := by unfold dg; rw [PySem.W.KIN.signs_num]
  obtain ⟨i1, i2, i3⟩ := iqE n
  refine ⟨dg n, rfl, by rw [e]; exact i2, qqc h1, by rw [e, i1], by rw [e, i1]; lia, ?_⟩
  by_cases hz : (dg n).head? = some 48
  ·rw [e] at hz
   have := i3 hz
   subst this
   exact .inl (by rw [e]; decide)
  ·exact .inr hz
theorem pqr {o : Option (List Nat)} (h : ∀ l, o = some l → (0 < l.length ∧ l.length ≤ 60) ∧ ∀ c ∈ l, isSg c = true) : HouW o (houT o) := by
 cases o with
 | none => rfl
 | some l =>
  obtain ⟨⟨h1, h2⟩, h3⟩ := h l rfl
  exact ⟨wr l, rfl, hqj h3, (fun e => by rw [e] at h1; cases h1), h2⟩
theorem pqk {o : Option (List Nat)} (h : ∀ l, o = some l → ∀ c ∈ l, isSg c = true) : MarW o (oT 35 o) := by
 cases o with
 | none => rfl
 | some l => exact ⟨wr l, rfl, hqj (h l rfl)⟩
theorem mqe {o : Option (List Nat)} (h : ∀ l, o = some l → ∀ c ∈ l, isSg c = true) : ValW o (oT 61 o) := by
 cases o with
 | none => rfl
 | some l => exact ⟨wr l, rfl, hqj (h l rfl)⟩
theorem qqk {e : Bool} : ∀ {ss : List (List Nat)}, (∀ s ∈ ss, StepOk s) → TlW ss e (tlT 47 (ss.map wr) ++ if e then [47] else [])
 | [], _ => by cases e <;> simp [tlT] <;> constructor
 | s :: ss, h => by
  have h1 := h s (List.mem_cons_self ..)
  have := TlW.more (hqj (fr := frS) h1.2) (fun z => by rw [z] at h1; cases h1.1) (qqk (e := e) (ss := ss) fun t ht => h t (List.mem_cons_of_mem _ ht))
  simpa [tlT] using this
theorem oqT {ss : List (List Nat)} {e : Bool} (h : ∀ s ∈ ss, StepOk s) : StpW ss e (stpT ss e) := by
 cases ss with
 | nil => rw [pqK]; exact .none
 | cons s ss =>
  have h1 := h s (List.mem_cons_self ..)
  have := StpW.some (hqj (fr := frS) h1.2) (fun z => by rw [z] at h1; cases h1.1) (qqk (e := e) (ss := ss) fun t ht => h t (List.mem_cons_of_mem _ ht))
  unfold stpT
  simpa [joinT] using this
theorem mqd : ∀ {ps : List (List Nat × Option (List Nat))}, (∀ p ∈ ps, PairOk p) → PrsW ps (tlT 38 (ps.map pairT))
 | [], _ => .nil
 | (n, o) :: ps, h => by
  have h1 := h (n, o) (List.mem_cons_self ..)
  have := PrsW.cons (hqj (fr := frQ) h1.1.2) (fun z => by have := h1.1.1; rw [z] at this; cases this) (mqe h1.2) (mqd (ps := ps) fun t ht => h t (List.mem_cons_of_mem _ ht))
  simpa [tlT, pairT] using this
theorem oq3 {q : Option (List (List Nat × Option (List Nat)))} (h : ∀ ps, q = some ps → ∀ p ∈ ps, PairOk p) : QueW q (queT q) := by
 cases q with
 | none => rfl
 | some ps =>
  cases ps with
  | nil => rfl
  | cons p ps =>
   obtain ⟨n, o⟩ := p
   have h1 := h _ rfl (n, o) (List.mem_cons_self ..)
   exact ⟨wr n, oT 61 o, tlT 38 (ps.map pairT), by simp [queT, joinT, pairT], hqj h1.1.2, (fun z => by have := h1.1.1; rw [z] at this; cases this), mqe h1.2, mqd fun t ht => h _ rfl t (List.mem_cons_of_mem _ ht)⟩
theorem mqa {P : Nat → Prop} (h1 : P 63) (h2 : P 38) (h3 : P 61) (hw : ∀ c, wch c = true → P c) {q : Option (List (List Nat × Option (List Nat)))} (h : ∀ ps, q = some ps → ∀ p ∈ ps, PairOk p) : ∀ c ∈ queT q, P c := by
 intro c hc
 cases q with
 | none => cases hc
 | some ps =>
  simp only [queT, List.mem_cons] at hc
  rcases hc with rfl | hc
  ·exact h1
  ·refine lq0 h2 (fun s hs d hd => ?_) c hc
   obtain ⟨p, hp, rfl⟩ := List.mem_map.mp hs
   exact oqR h3 hw (h ps rfl p hp) d hd
theorem Ad.Wf.all {P : Nat → Prop} {x : Ad} (h : x.Wf) (h1 : P 47) (h2 : P 58) (h3 : P 63) (h4 : P 38) (h5 : P 61) (h6 : P 35) (hw : ∀ c, wch c = true → P c) : ∀ c ∈ x.shw, P c := by
 intro c hc
 rw [Ad.shw_eq] at hc
 rcases List.mem_append.mp hc with hc | hc
 ·rcases List.mem_append.mp hc with hc | hc
  ·exact h.pre_all h1 h2 hw c hc
  ·exact mqa h3 h4 h5 hw h.que c hc
 ·exact nqn h6 hw h.mar c hc
theorem sqS {c : Nat} (h : wch c = true) : c < 128 := by
 simp only [wch, isPl, Bool.or_eq_true, decide_eq_true_eq] at h
 lia
theorem fqb {x : Ad} (h : x.Wf) : ∀ c ∈ x.shw, c < 128 := h.all (by decide) (by decide) (by decide) (by decide) (by decide) (by decide) fun _ => sqS
theorem pqz {x : Ad} (h : x.Wf) : schM x.shw = x.scheme := by
 by_cases hs : x.scheme = []
 ·rw [hs]
  refine (jqt ?_).1
  rintro ⟨_, z2, z3⟩
  cases hh : x.house with
  | some l =>
   obtain ⟨r, hr⟩ : ∃ r, x.shw = 47 :: r := by
    unfold Ad.shw
    rw [hs, hh]
    exact ⟨_, rfl⟩
   rw [hr] at z2
   have : (ahead (47 :: r)) = 47 :: ahead r := by unfold ahead; rw [List.takeWhile_cons_of_pos (by decide)]
   rw [this] at z2
   simp [schD, isLet] at z2
  | none =>
   have hd : x.door = none := by
    cases hd : x.door with
    | none => rfl
    | some i => exact absurd hh (h.doo i hd).2
   have hm : (58 : Nat) ∈ x.shw := List.mem_of_getElem? z3
   unfold Ad.shw at hm
   rw [hs, hh, hd] at hm
   simp only [schT, if_true, houT, dooT, List.nil_append] at hm
   have ha : ∀ c, c ∈ x.wayT ++ (queT x.quest ++ oT 35 x.mark) → c ≠ 58 := by
    intro c hc
    rcases List.mem_append.mp hc with hc | hc
    ·exact nq0 (P := fun c => c ≠ 58) (by decide) (fun c hc => (jqn hc).2.2.2.1) h.stp c hc
    ·rcases List.mem_append.mp hc with hc | hc
     ·exact mqa (P := fun c => c ≠ 58) (by decide) (by decide) (by decide) (fun c hc => (jqn hc).2.2.2.1) h.que c hc
     ·exact nqn (P := fun c => c ≠ 58) (by decide) (fun c hc => (jqn hc).2.2.2.1) h.mar c hc
   exact ha 58 hm rfl
 ·have hc : ∀ c ∈ x.scheme, c ≠ 58 := fun c hc => (jqn (nq8 (h.sch.2.1 c hc))).2.2.2.1
  obtain ⟨r, hr⟩ : ∃ r, x.shw = x.scheme ++ 58 :: r := by
   unfold Ad.shw schT
   rw [if_neg hs]
   exact ⟨_, by rw [List.append_assoc]; rfl⟩
  have ha : ahead x.shw = x.scheme := by rw [hr]; exact oqr hc
  have := (lqW (t := x.shw) (by rw [ha]; exact hs) (by
   rw [ha]
   simp only [schD, Bool.and_eq_true, List.all_eq_true, decide_eq_true_eq]
   exact ⟨⟨⟨fun c hc => iqN (h.sch.2.1 c hc), by show x.scheme.length ≤ 8; exact h.sch.1⟩, h.sch.2.2⟩, h.sch.2.1⟩) (by
   rw [ha, hr, List.getElem?_append_right (Nat.le_refl _), Nat.sub_self]; rfl)).1
  rw [this, ha]
theorem eq9 {x : Ad} (h : x.Wf) : RdW x x.shw :=
 ⟨houT x.house, dooT x.door, stpT x.steps x.ends, queT x.quest, oT 35 x.mark, by
  unfold Ad.shw Ad.wayT
  rw [nqe, List.append_assoc], pqz h, pqr h.hou, pqC fun i e => (h.doo i e).1, oqT h.stp, oq3 h.que, pqk h.mar⟩
theorem Ad.Tiny.sz {x : Ad} (h : x.Wf) (t : x.Tiny) (hn : x.steps.length ≤ 300) : x.Sz where
 stp := fun s hs => Nat.le_trans (t.stp s hs) (by decide)
 que := fun ps e => ⟨Nat.le_trans (t.que ps e).1 (by decide), fun p hp => ⟨Nat.le_trans ((t.que ps e).2 p hp).1 (by decide), fun v hv => Nat.le_trans (((t.que ps e).2 p hp).2 v hv) (by decide)⟩⟩
 mar := fun l e => Nat.le_trans (t.mar l e) (by decide)
 num := Nat.le_trans hn (by decide)
 all := by
  have a1 : (schT x.scheme).length ≤ 9 := by
   unfold schT
   split
   ·simp
   ·have := h.sch.1; simp only [List.length_append, List.length_cons, List.length_nil]; lia
  have a2 : (houT x.house).length ≤ 200 := by
   cases hh : x.house with
   | none => simp [houT]
   | some l => have := (h.hou l hh).1.2; have := gqk l; simp only [houT, List.length_cons]; lia
  have a3 : (dooT x.door).length ≤ 6 := by
   cases hh : x.door with
   | none => simp [dooT]
   | some i => have b := (h.doo i hh).1; have := qqq b.1 b.2; simp only [dooT, List.length_cons]; lia
  have a4 : x.wayT.length ≤ 9000 := by
   have hj := iqz (sep := 47) (m := 27) (ys := x.steps.map wr) fun s hs => by
    obtain ⟨u, hu, rfl⟩ := List.mem_map.mp hs
    have := gqk u; have := t.stp u hu; lia
   rw [List.length_map] at hj
   have e1 : (if x.rooted then [47] else [] : List Nat).length ≤ 1 := by split <;> simp
   have e2 : (if x.ends && !x.steps.isEmpty then [47] else [] : List Nat).length ≤ 1 := by split <;> simp
   simp only [Ad.wayT, Wm.wayT, List.length_append]
   have : x.steps.length * (27 + 1) ≤ 300 * 28 := Nat.mul_le_mul hn (Nat.le_refl _)
   lia
  have a5 : (queT x.quest).length ≤ 1000 := by
   cases hq : x.quest with
   | none => simp [queT]
   | some ps =>
    have hk := t.que ps hq
    have hj := iqz (sep := 38) (m := 37) (ys := ps.map pairT) fun s hs => by
     obtain ⟨p, hp, rfl⟩ := List.mem_map.mp hs
     have h1 := (hk.2 p hp).1
     have h2 := qqn (sep := 61) (n := 6) (o := p.2) fun v hv => (hk.2 p hp).2 v hv
     have := gqk p.1
     simp only [pairT, List.length_append]
     lia
    rw [List.length_map] at hj
    have : ps.length * (37 + 1) ≤ 3 * 38 := Nat.mul_le_mul hk.1 (Nat.le_refl _)
    simp only [queT, List.length_cons]
    lia
  have a6 := qqn (sep := 35) (n := 60) (o := x.mark) fun l e => Nat.le_trans (t.mar l e) (by decide)
  simp only [Ad.shw, List.length_append]
  lia
theorem fq6 {w : Way} (h : ∀ s ∈ w.2.1, s.length ≤ 9) : ∀ s ∈ (goneV w).2.1, s.length ≤ 9 := by
 intro s hs
 unfold goneV goneW at hs
 split at hs
 ·cases hs
 ·split at hs
  ·split at hs
   ·cases hs
   ·rw [List.mem_singleton.mp hs]; decide
  ·rcases jqy s hs with z | z
   ·exact h s z.1
   ·rw [z.2]; decide
theorem kq9 {w : Way} (h : ∀ s ∈ w.2.1, s.length ≤ 9) : ∀ s ∈ holder w, s.length ≤ 9 := by
 intro s hs
 unfold holder at hs
 split at hs
 ·exact fq6 h s hs
 ·exact fq6 h s (List.dropLast_subset _ hs)
theorem Ad.Tiny.gone {x : Ad} (h : x.Tiny) : x.gone.Tiny := ⟨fq6 (w := x.w) h.stp, h.que, h.mar, h.hou⟩
theorem dqI {x : Ad} (h : x.Tiny) : (plainM x).Tiny := by
 refine Ad.Tiny.gone ⟨h.stp, h.que, h.mar, fun l e => ?_⟩
 obtain ⟨m, hm, rfl⟩ := Option.map_eq_some_iff.mp e
 rw [iq8]
 exact h.hou m hm
theorem hqz {b x : Ad} (hb : b.Tiny) (hx : x.Tiny) : (resM b x).Tiny := by
 unfold resM
 split
 ·exact hx.gone
 ·split
  ·exact Ad.Tiny.gone ⟨hx.stp, hx.que, hx.mar, hx.hou⟩
  ·split
   ·exact Ad.Tiny.gone ⟨hx.stp, hx.que, hx.mar, hb.hou⟩
   ·split
    ·refine Ad.Tiny.gone ⟨fun s hs => ?_, hx.que, hx.mar, hb.hou⟩
     rcases List.mem_append.mp hs with hs | hs
     ·exact kq9 (w := b.w) hb.stp s hs
     ·exact hx.stp s hs
    ·refine Ad.Tiny.gone ⟨hb.stp, ?_, hx.mar, hb.hou⟩
     show ∀ ps, (if x.quest = none then b.quest else x.quest) = some ps → _
     split
     ·exact hb.que
     ·exact hx.que
def GoodsT (n : Nat) (H : Hp) (vs : List V) : Prop := ∀ v ∈ vs, ∃ x : Ad, (x.Wf ∧ x.Tiny ∧ x.steps.length ≤ n) ∧ IsT H x.data v
theorem GoodsT.cons {n : Nat} {H : Hp} {v : V} {vs : List V} {x : Ad} (h1 : x.Wf ∧ x.Tiny ∧ x.steps.length ≤ n) (h3 : IsT H x.data v) (h : GoodsT n H vs) : GoodsT n H (v :: vs) := fun u hu => by
 rcases List.mem_cons.mp hu with rfl | hu
 ·exact ⟨x, h1, h3⟩
 ·exact h u hu
theorem Ad.Tiny.local {x : Ad} (h : x.Tiny) : ({ x with scheme := [], house := none, door := none } : Ad).Tiny := ⟨h.stp, h.que, h.mar, fun l e => by cases e⟩
end Wm
namespace L2
open PySem
end L2
namespace Wm
open PySem L2
def PrW (p : List Nat × Option (List Nat)) (w : List Nat) : Prop := ∃ a v, w = a ++ v ∧ WrT frQ p.1 a ∧ ValW p.2 v
inductive PrWs : List (List Nat × Option (List Nat)) → List (List Nat) → Prop
 | nil : PrWs [] []
 | cons {p : List Nat × Option (List Nat)} {w : List Nat} {ps : List (List Nat × Option (List Nat))} {ws : List (List Nat)} : PrW p w → PrWs ps ws → PrWs (p :: ps) (w :: ws)
inductive StWs : List (List Nat) → List (List Nat) → Prop
 | nil : StWs [] []
 | cons {s w : List Nat} {ss ws : List (List Nat)} : WrT frS s w → StWs ss ws → StWs (s :: ss) (w :: ws)
end Wm
namespace L2
open PySem PySem.Spec PyProof.Rows
section
variable {X : Cx} {pins : List (Addr × Obj)} {σ : St} {H : Hp} {s : Shared} {h' : Heap}
end
def ItW (n : Nat) (ok : Hp → Prop) (pt : Nat → Hp → List V → Prop) : It :=
 ⟨fun i H => i < n ∧ ok H, fun i H x H' => ∃ T xs, x = .ref T ∧ H T = none ∧ H' = upd H T (.tup xs) ∧ pt i H xs, fun i H => i = n ∧ ok H⟩
section
variable {σ : St} {H : Hp} {D : Ends} {g : TG} {tb : TS}
end
section
variable {prog : Program} {w : World} {A : Around} {E : Value → Shared → Prop} {s : Shared}
end
section
variable {prog : Program} {w : World} {A : Around} {E : Value → Shared → Prop} {s : Shared}
end
def ItE (K : PySem.W.Frag) (a : Addr) (xs : List V) : It := ItW xs.length (fun H => SqT K H a xs) fun i _ ys => ∃ v, xs[i]? = some v ∧ ys = [.int (i : Int), v]
section
variable {X : Cx} {K : PySem.W.Frag} {elts : List Expr} {kk : Nat} {tpos : Pos}
def iEnum (K : PySem.W.Frag) (ta : TA) : TI := fun σ H R => ta σ H fun vs H1 => ∃ a xs, vs = [.ref a] ∧ SqT K H1 a xs ∧ R (ItE K a xs) H1
variable {σ : St} {H : Hp} {D : Ends} {g : TG} {tb : TS} {aa : TA}
theorem rq4 : (tFor (iEnum K aa) g tb D σ H) = (aa σ H fun vs H1 => ∃ a xs, vs = [.ref a] ∧ SqT K H1 a xs ∧ LoopI (ItE K a xs) g tb D σ H1) := rfl
end
structure Zap (z TI TO i1 i2 l1 l2 : Addr) : Prop where
 a1 : TI ≠ z ∧ TO ≠ z ∧ i1 ≠ z ∧ i2 ≠ z ∧ l1 ≠ z ∧ l2 ≠ z
 a2 : TI ≠ TO ∧ TI ≠ i1 ∧ TI ≠ i2 ∧ TO ≠ i1 ∧ TO ≠ i2 ∧ i1 ≠ i2
 a3 : l1 ≠ TO ∧ l2 ≠ TO ∧ l1 ≠ i2 ∧ l2 ≠ i1
section
variable {prog : Program} {w : World} {A : Around} {E : Value → Shared → Prop} {s : Shared}
variable {z TI TO i1 i2 l1 l2 : Addr} {n1 n2 k : Nat} {P1 P2 : Nat → Value → Prop} {S1 S2 : Nat → Heap → Prop}
end
section
variable {prog : Program} {w : World} {A : Around} {E : Value → Shared → Prop} {s : Shared}
end
def ItZ (K : PySem.W.Frag) (a b : Addr) (xs ys : List V) : It := ItW (min xs.length ys.length) (fun H => SqT K H a xs ∧ SqT K H b ys) fun i _ vs => ∃ x y, xs[i]? = some x ∧ ys[i]? = some y ∧ vs = [x, y]
section
variable {X : Cx} {K : PySem.W.Frag} {elts : List Expr} {kk : Nat} {tpos : Pos}
def iZip (K : PySem.W.Frag) (ta : TA) : TI := fun σ H R => ta σ H fun vs H1 => ∃ a b xs ys, vs = [.ref a, .ref b] ∧ SqT K H1 a xs ∧ SqT K H1 b ys ∧ R (ItZ K a b xs ys) H1
variable {σ : St} {H : Hp} {D : Ends} {g : TG} {tb : TS} {aa : TA}
theorem qqN : (tFor (iZip K aa) g tb D σ H) = (aa σ H fun vs H1 => ∃ a b xs ys, vs = [.ref a, .ref b] ∧ SqT K H1 a xs ∧ SqT K H1 b ys ∧ LoopI (ItZ K a b xs ys) g tb D σ H1) := rfl
variable {p : Addr} {fv : St} {tt : TT} {te : TE} {Q : VK} {H1 : Hp} {fr : List Nat}
theorem oqk : (tComp2 K (iZip K aa) fr tt te σ H Q) = (aa σ H fun vs H1 => ∃ a b xs ys, vs = [.ref a, .ref b] ∧ SqT K H1 a xs ∧ SqT K H1 b ys ∧ ∀ p, H1 p = none → CompI2 K (ItZ K a b xs ys) p (frV σ fr) tt te Q H1) := rfl
end
section
variable {p : Addr} {fv : St} {tt : TT} {te : TE} {Q : VK} {H1 H : Hp} {fr : List Nat} {aa : TA} {σ : St}
theorem oqd : (tComp (iRng1 aa) fr tt te σ H Q) = (aa σ H fun vs H1 => ∃ j : Int, vs = [.int j] ∧ -(2 ^ 62) ≤ j ∧ j < 2 ^ 62 ∧ ∀ p, H1 p = none → CompI (Itr 0 j.toNat) p (frV σ fr) tt te Q H1) := rfl
theorem hqt {n : Nat} (J : Nat → List V → Hp → Prop) (hlen : n ≤ sizeLine) (h0 : J 0 [] (upd H1 p (.lst [])))
  (he : ∀ (i : Nat) (ys : List V) (H2 : Hp) (T : VK), i < n → J i ys H2 → H2 p = some (.lst ys) → (∀ y H3, H3 p = some (.lst ys) → J (i + 1) (ys ++ [y]) (upd H3 p (.lst (ys ++ [y]))) → T y H3) → te (some (.int (0 + (i : Int))) :: fv) H2 T)
  (hQ : ∀ ys H2, J n ys H2 → H2 p = some (.lst ys) → Q (.ref p) H2) : CompI (Itr 0 n) p fv tYes te Q H1 := by
 refine ⟨fun i m ys H2 => m = n - i ∧ i ≤ n ∧ ys.length = i ∧ H2 p = some (.lst ys) ∧ J i ys H2, ⟨n, by simp, Nat.zero_le _, rfl, aqk, h0⟩, ?_⟩
 rintro i m ys H2 ⟨rfl, hi, hyl, hp2, hJ⟩
 refine ⟨hp2, ?_⟩
 by_cases hlt : i < n
 ·refine .inr ⟨hlt, by lia, fun x H3 y => ?_⟩
  obtain ⟨rfl, rfl⟩ := y
  unfold tYes
  dsimp only
  rw [if_pos rfl]
  exact he i ys _ _ hlt hJ hp2 fun y H5 hp5 hJ5 => ⟨hp5, n - (i + 1), by lia, rfl, hlt, by rw [List.length_append, hyl]; rfl, aqk, hJ5⟩
 ·have e : i = n := by lia
  subst e
  exact .inl ⟨Nat.le_refl _, hQ ys H2 hJ hp2⟩
end
section
variable {X : Cx}
def rStart1 : V → List V → Hp → VK → Prop := fun x vs H Q => ∃ z y : List Nat, x = .str ⟨z.toArray⟩ ∧ vs = [.str ⟨y.toArray⟩] ∧ Q (.bl (decide (z.take y.length = y))) H
def rEnd1 : V → List V → Hp → VK → Prop := fun x vs H Q => ∃ z y : List Nat, x = .str ⟨z.toArray⟩ ∧ vs = [.str ⟨y.toArray⟩] ∧ Q (.bl (decide (z.drop (z.length - y.length) = y))) H
theorem sq5 {i j : Nat} {ta : TA} {D : Ends} {σ : St} {H : Hp} : (tPar i j ta D σ H) = (ta σ H fun vs H1 => ∃ v w, vs = [v, w] ∧ D.nx ((σ.set i (some v)).set j (some w)) H1) := rfl
theorem rqu {z y : List Nat} {H : Hp} {Q : VK} : rStart1 (.str ⟨z.toArray⟩) [.str ⟨y.toArray⟩] H Q ↔ Q (.bl (decide (z.take y.length = y))) H :=
 ⟨fun ⟨z', y', e1, e2, h⟩ => by
  injection e1 with e1; injection e1 with e1
  injection e2 with e2; injection e2 with e2; injection e2 with e2
  have h1 : z = z' := by simpa using congrArg Array.toList e1
  have h2 : y = y' := by simpa using congrArg Array.toList e2
  subst h1 h2; exact h, fun h => ⟨z, y, rfl, rfl, h⟩⟩
theorem qq9 {z y : List Nat} {H : Hp} {Q : VK} : rEnd1 (.str ⟨z.toArray⟩) [.str ⟨y.toArray⟩] H Q ↔ Q (.bl (decide (z.drop (z.length - y.length) = y))) H :=
 ⟨fun ⟨z', y', e1, e2, h⟩ => by
  injection e1 with e1; injection e1 with e1
  injection e2 with e2; injection e2 with e2; injection e2 with e2
  have h1 : z = z' := by simpa using congrArg Array.toList e1
  have h2 : y = y' := by simpa using congrArg Array.toList e2
  subst h1 h2; exact h, fun h => ⟨z, y, rfl, rfl, h⟩⟩
end
end L2
namespace L2
open PySem
section
variable {p : Addr} {fv : St} {tt : TT} {te : TE} {Q : VK} {H1 : Hp} {K : PySem.W.Frag}
end
end L2
namespace Wm
open PySem L2
inductive Pc
 | step (s : List Nat)
 | part (h n t : List Nat)
 | num (n : List Nat)
 | word (n : List Nat)
 | gap (n : List Nat)
 | rest (n : List Nat)
abbrev tV (l : List Nat) : V := .str ⟨l.toArray⟩
def Pc.kw : Pc → Str
 | .step _ => Str.ofString "step"
 | .part .. => Str.ofString "part"
 | .num _ => Str.ofString "number"
 | .word _ => Str.ofString "word"
 | .gap _ => Str.ofString "gap"
 | .rest _ => Str.ofString "rest"
def Pc.tl : Pc → List V
 | .step s => [tV s]
 | .part h n t => [tV h, tV n, tV t]
 | .num n => [tV n]
 | .word n => [tV n]
 | .gap n => [tV n]
 | .rest n => [tV n]
def Pc.vals (c : Pc) : List V := .str c.kw :: c.tl
def Pc.name : Pc → List Nat
 | .step _ => []
 | .part _ n _ => n
 | .num n => n
 | .word n => n
 | .gap n => n
 | .rest n => n
inductive Vl
 | txt (l : List Nat)
 | int (i : Int)
 | lst (ls : List (List Nat))
def VlV (H : Hp) : Vl → V → Prop
 | .txt l, v => v = tV l
 | .int i, v => v = .int i
 | .lst ls, v => ∃ p, v = .ref p ∧ H p = some (.lst (ls.map tV))
inductive PcAll (K : PySem.W.Frag) (H : Hp) : List Pc → List V → Prop
 | nil : PcAll K H [] []
 | cons {c : Pc} {p : Addr} {cs : List Pc} {xs : List V} : SqT K H p c.vals → PcAll K H cs xs → PcAll K H (c :: cs) (.ref p :: xs)
inductive BndV (H : Hp) (l : Addr) : List (List Nat × Vl) → List V → Prop
 | nil : BndV H l [] []
 | cons {n : List Nat} {x : Vl} {p : Addr} {v : V} {bs : List (List Nat × Vl)} {ys : List V} : H p = some (.tup [tV n, v]) → VlV H x v → (∀ q, v = .ref q → q ≠ l) → BndV H l bs ys → BndV H l ((n, x) :: bs) (.ref p :: ys)
theorem lqU {H : Hp} : ∀ (ls : List (List Nat)), IsAll H (ls.map st) (ls.map tV)
 | [] => .nil
 | l :: ls => .cons (.str _) (lqU ls)
inductive PcT (H : Hp) : List Pc → List V → Prop
 | nil : PcT H [] []
 | cons {c : Pc} {p : Addr} {cs : List Pc} {xs : List V} : H p = some (.tup c.vals) → PcT H cs xs → PcT H (c :: cs) (.ref p :: xs)
end Wm
namespace L2
open PySem PySem.Spec PyProof.Rows
section
variable {prog : Program} {w : World} {A : Around} {E : Value → Shared → Prop} {s : Shared}
end
def ItZL (K : PySem.W.Frag) (a b : Addr) (xs ys : List V) : It := ItW (min xs.length ys.length) (fun H => SqL K H a xs ∧ SqL K H b ys) fun i _ vs => ∃ x y, xs[i]? = some x ∧ ys[i]? = some y ∧ vs = [x, y]
section
variable {X : Cx} {K : PySem.W.Frag} {elts : List Expr} {kk : Nat} {tpos : Pos}
def iZipL (K : PySem.W.Frag) (ta : TA) : TI := fun σ H R => ta σ H fun vs H1 => ∃ a b xs ys, vs = [.ref a, .ref b] ∧ SqL K H1 a xs ∧ SqL K H1 b ys ∧ R (ItZL K a b xs ys) H1
variable {σ : St} {H : Hp} {D : Ends} {g : TG} {tb : TS} {aa : TA}
theorem oq9 : (tFor (iZipL K aa) g tb D σ H) = (aa σ H fun vs H1 => ∃ a b xs ys, vs = [.ref a, .ref b] ∧ SqL K H1 a xs ∧ SqL K H1 b ys ∧ LoopI (ItZL K a b xs ys) g tb D σ H1) := rfl
variable {p : Addr} {fv : St} {tt : TT} {te : TE} {Q : VK} {H1 : Hp} {fr : List Nat}
theorem mqI : (tComp2 K (iZipL K aa) fr tt te σ H Q) = (aa σ H fun vs H1 => ∃ a b xs ys, vs = [.ref a, .ref b] ∧ SqL K H1 a xs ∧ SqL K H1 b ys ∧ ∀ p, H1 p = none → CompI2 K (ItZL K a b xs ys) p (frV σ fr) tt te Q H1) := rfl
end
section
variable {K : PySem.W.Frag} {p : Addr} {fv : St} {te : TE} {Q : VK} {H1 : Hp}
end
section
variable {prog : Program} {w : World} {A : Around} {E : Value → Shared → Prop} {s : Shared}
end
def ItEL (K : PySem.W.Frag) (a : Addr) (xs : List V) : It := ItW xs.length (fun H => SqL K H a xs) fun i _ ys => ∃ v, xs[i]? = some v ∧ ys = [.int (i : Int), v]
section
variable {X : Cx} {K : PySem.W.Frag} {elts : List Expr} {kk : Nat} {tpos : Pos}
def iEnumL (K : PySem.W.Frag) (ta : TA) : TI := fun σ H R => ta σ H fun vs H1 => ∃ a xs, vs = [.ref a] ∧ SqL K H1 a xs ∧ R (ItEL K a xs) H1
variable {σ : St} {H : Hp} {D : Ends} {g : TG} {tb : TS} {aa : TA}
theorem oq6 : (tFor (iEnumL K aa) g tb D σ H) = (aa σ H fun vs H1 => ∃ a xs, vs = [.ref a] ∧ SqL K H1 a xs ∧ LoopI (ItEL K a xs) g tb D σ H1) := rfl
variable {p : Addr} {fv : St} {tt : TT} {te : TE} {Q : VK} {H1 : Hp} {fr : List Nat}
theorem mq4 : (tComp2 K (iEnumL K aa) fr tt te σ H Q) = (aa σ H fun vs H1 => ∃ a xs, vs = [.ref a] ∧ SqL K H1 a xs ∧ ∀ p, H1 p = none → CompI2 K (ItEL K a xs) p (frV σ fr) tt te Q H1) := rfl
theorem mqU : (tComp2 K (iEnum K aa) fr tt te σ H Q) = (aa σ H fun vs H1 => ∃ a xs, vs = [.ref a] ∧ SqT K H1 a xs ∧ ∀ p, H1 p = none → CompI2 K (ItE K a xs) p (frV σ fr) tt te Q H1) := rfl
end
end L2
namespace HT
open PySem PyProof.Rows
section
open PySem.SeqAt
open PySem.AutoSeq1 (wpAny_loadPart')
open PySem.MeetsSeq PySem.MeetsSeq2 PySem.MeetsSeq3
end
section
variable {prog : Program} {w : World} {A : Around} {E : Value → Shared → Prop} {s : Shared}
end
end HT
namespace L2
open PySem PySem.Spec PyProof.Rows PyProof.V
section
variable {X : Cx} {o i : Expr} {x : Str} {np pos : Pos} {td ty : TE}
def tTab (p : Addr) (D : List (PyData × PyData)) (td ty : TE) : TE := fun σ H Q => td σ H fun x H1 => ty σ H1 fun y H2 => x = .ref p ∧ ∃ (k : Str) (n : Int), y = .str k ∧ lookup (.str k) D = some (.int n) ∧ Q (.int n) H2
theorem tqg {p : Addr} {D : List (PyData × PyData)} {σ : St} {H : Hp} {Q : VK} : (tTab p D td ty σ H Q) = (td σ H fun x H1 => ty σ H1 fun y H2 => x = .ref p ∧ ∃ (k : Str) (n : Int), y = .str k ∧ lookup (.str k) D = some (.int n) ∧ Q (.int n) H2) := rfl
theorem sq6 {p : Addr} {D : List (PyData × PyData)} (T : ∀ h : Heap, X.K.In h → StrTab X.prog X.w h p D) (ho : PE X (.Name x np) td) (hi : PE X i ty) (hs : ∀ ov iv, subscripted i false ov iv = operate [ov, iv] (getItem ov iv)) : PE X (.Subscript (.Name x np) i pos) (tTab p D td ty) := by
 intro pins s σ H Q I h
 refine Subscript_ (thn (ho pins s σ H _ I h) fun u s1 ⟨x, H1, I1, rx, q1⟩ => thn (hi pins s1 σ H1 _ I1 q1) fun iv s2 W' => ?_)
 obtain ⟨y, H2, I2, ry, ex, k, n, ey, hl, q2⟩ := W'
 subst ex ey
 obtain rfl : u = Value.ref p := rx
 obtain ⟨t, rfl⟩ := ry
 refine item_strTab (T _ I2.kIn) hl (fun v hv => ?_) (hs _ _)
 obtain ⟨t', rfl⟩ := hv.int_inv
 exact ⟨.int n, H2, I2.tok _, ⟨t', rfl⟩, q2⟩
end
end L2
namespace L2
open PySem PySem.Spec PyProof.Rows
section
variable {X : Cx}
theorem jqM : ∀ (l : List Str) (n : Nat), Vals (l.map V.str) (strsFrom n l)
 | [], _ => .nil
 | z :: l, n => .cons ⟨n, rfl⟩ (jqM l (n + 1))
def rSplit : V → List V → Hp → VK → Prop := fun x vs H Q => ∃ (z : Str) (c : Nat), x = .str z ∧ vs = [.str ⟨#[c]⟩] ∧ z.length ≤ 100000 ∧ ∀ p, H p = none → Q (.ref p) (upd H p (.lst ((Txt.split z ⟨#[c]⟩).map V.str)))
theorem pqp : MtR X "str.split" rSplit := by
 intro pins s σ H x vs v us Q I rx rv h
 obtain ⟨z, c, rfl, rfl, hz, q⟩ := h
 obtain ⟨t, rfl⟩ := rx
 obtain ⟨u, rfl, t', rfl⟩ := vals1 rv
 have hf : H s.heap.objs.size = none := I.hok.fresh (Nat.le_refl _)
 have q := q _ hf
 have hw := split_weight z ⟨#[c]⟩ (Nat.le_refl 1)
 have hsl : z.length ≤ sizeLine := Nat.le_trans hz (by decide)
 unfold Txt.split at q hw
 cases h1 : (decide (z.length < (⟨#[c]⟩ : Str).length) || decide (Builtin.Str.strKind z < Builtin.Str.strKind ⟨#[c]⟩)) with
 | true =>
  rw [if_pos h1] at q
  refine call_meets F.slot_str_split (typeIs_str _ _ _) F.entry_str_split (F.args_str_split_2 _ _) (meets_str_split_cannot_occur z ⟨#[c]⟩ t t' h1) ?_
  refine ⟨.ref s.heap.objs.size, _, I.laid (t' := s.toks) (o := .lst [.str z]) (fun b u e => Heap.get?_push_of_some _ e) (Nat.le_refl _) ?_, rfl, q⟩
  exact ⟨by show 1 ≤ sizeLine; decide, [.str z t], 0, .cons ⟨_, rfl⟩ .nil, Heap.get?_push_size _ rfl⟩
 | false =>
  rw [if_neg (by rw [h1]; decide)] at q hw
  cases h2 : (Builtin.Str.occurrences z ⟨#[c]⟩ 0 z.length (z.length + 1)).isEmpty with
  | true =>
   rw [if_pos h2] at q
   refine call_meets F.slot_str_split (typeIs_str _ _ _) F.entry_str_split (F.args_str_split_2 _ _) (meets_str_split_not_found z ⟨#[c]⟩ t t' h1 rfl h2) ?_
   refine ⟨.ref s.heap.objs.size, _, I.laid (t' := s.toks) (o := .lst [.str z]) (fun b u e => Heap.get?_push_of_some _ e) (Nat.le_refl _) ?_, rfl, q⟩
   exact ⟨by show 1 ≤ sizeLine; decide, [.str z t], 0, .cons ⟨_, rfl⟩ .nil, Heap.get?_push_size _ rfl⟩
  | false =>
   rw [if_neg (by rw [h2]; decide)] at q hw
   have hn : (Builtin.Str.partsBetween z (Builtin.Str.occurrences z ⟨#[c]⟩ 0 z.length (z.length + 1)) (⟨#[c]⟩ : Str).length).length ≤ 100001 := by lia
   have hn2 : (Builtin.Str.partsBetween z (Builtin.Str.occurrences z ⟨#[c]⟩ 0 z.length (z.length + 1)) (⟨#[c]⟩ : Str).length).length ≤ sizeLine := Nat.le_trans hn (by decide)
   refine call_meets F.slot_str_split (typeIs_str _ _ _) F.entry_str_split (F.args_str_split_2 _ _) (meets_str_split_sep z ⟨#[c]⟩ t t' h1 rfl h2 hsl hn2) ?_
   refine ⟨.ref s.heap.objs.size, _, I.laid (o := .lst _) (fun b u e => Heap.get?_push_of_some _ e) (Nat.le_refl _) ?_, rfl, q⟩
   exact ⟨by rw [List.length_map]; exact hn2, _, 0, jqM _ _, Heap.get?_push_size _ rfl⟩
end
theorem rqS {z : Str} {c : Nat} {H : Hp} {Q : VK} : rSplit (.str z) [.str ⟨#[c]⟩] H Q ↔ z.length ≤ 100000 ∧ ∀ p, H p = none → Q (.ref p) (upd H p (.lst ((Txt.split z ⟨#[c]⟩).map V.str))) := by
 constructor
 ·rintro ⟨z', c', e1, e2, h⟩
  cases e1
  cases e2
  exact h
 ·exact fun h => ⟨z, c, rfl, rfl, h⟩
section
variable {prog : Program} {w : World} {A : Around} {E : Value → Shared → Prop} {s : Shared}
end
def ItES (x : Str) : It := ItW x.cps.size (fun _ => True) fun i _ ys => ∃ c, x.cps[i]? = some c ∧ ys = [.int (i : Int), .str ⟨#[c]⟩]
section
variable {X : Cx} {elts : List Expr} {kk : Nat} {tpos : Pos}
def iEnumS (ta : TA) : TI := fun σ H R => ta σ H fun vs H1 => ∃ x : Str, vs = [.str x] ∧ (x.cps.all fun c => decide (c < 128)) = true ∧ R (ItES x) H1
variable {σ : St} {H : Hp} {D : Ends} {g : TG} {tb : TS} {aa : TA}
theorem oq8 : (tFor (iEnumS aa) g tb D σ H) = (aa σ H fun vs H1 => ∃ x : Str, vs = [.str x] ∧ (x.cps.all fun c => decide (c < 128)) = true ∧ LoopI (ItES x) g tb D σ H1) := rfl
end
end L2
namespace Wm
open PySem L2
abbrev mkS (l : List Nat) : Str := ⟨l.toArray⟩
theorem qqF (t : List Nat) (c i : Nat) : (decide (i + (mkS [c]).length ≤ (mkS t).length) && Builtin.Str.subAt (mkS t) (mkS [c]) i) = decide (t[i]? = some c) := by
 by_cases hi : i ≤ t.length
 ·rw [nqh t [c] i hi, decide_eq_decide]
  cases h : t.drop i with
  | nil =>
   have : t[i]? = none := List.getElem?_eq_none (by have := congrArg List.length h; rw [List.length_drop, List.length_nil] at this; lia)
   rw [this]
   simp
  | cons d r =>
   have : t[i]? = some d := by rw [← List.head?_drop, h]; rfl
   rw [this]
   simp
 ·rw [List.getElem?_eq_none (by lia), bqe, bqe, decide_eq_false (by rw [List.length_singleton]; lia)]
  rfl
theorem hqQ (t : List Nat) (c : Nat) : Builtin.Str.occurrences (mkS t) (mkS [c]) 0 (mkS t).length 1 = ((List.range' 0 (t.length + 1)).find? fun i => decide (t[i]? = some c)).toList := by
 rw [StrLaws.occ_eq, occ1 _ _ _ _ (fun i _ => Nat.zero_le i)]
 simp only [qqF]
 rw [bqe]
 rfl
theorem rqC {t : List Nat} {c : Nat} (h : c ∉ t) : Txt.partition (mkS t) (mkS [c]) = (mkS t, ⟨#[]⟩, ⟨#[]⟩) := by
 unfold Txt.partition
 rw [hqQ, List.find?_eq_none.mpr fun i _ z => h (List.mem_of_getElem? (of_decide_eq_true z))]
 rfl
theorem rqk {a b : List Nat} {c : Nat} (h : c ∉ a) : Txt.partition (mkS (a ++ c :: b)) (mkS [c]) = (mkS a, mkS [c], mkS b) := by
 unfold Txt.partition
 have e : (List.range' 0 ((a ++ c :: b).length + 1)).find? (fun i => decide ((a ++ c :: b)[i]? = some c)) = some a.length := by
  rw [List.find?_range'_eq_some]
  refine ⟨decide_eq_true (by simp), ?_, fun j _ hj => ?_⟩
  ·rw [List.mem_range'_1]
   simp only [List.length_append, List.length_cons]
   lia
  ·rw [decide_eq_false fun z => ?_]
   ·rfl
   ·rw [List.getElem?_append_left hj] at z
    exact h (List.mem_of_getElem? z)
 rw [hqQ, e]
 show (Builtin.Str.strSub (mkS (a ++ c :: b)) 0 a.length, mkS [c], Builtin.Str.strSub (mkS (a ++ c :: b)) (a.length + (mkS [c]).length) (mkS (a ++ c :: b)).length) = _
 rw [bqe, bqe]
 refine Prod.ext ?_ (Prod.ext rfl ?_)
 ·show (⟨(a ++ c :: b).toArray.extract 0 a.length⟩ : Str) = _
  simp
 ·show (⟨(a ++ c :: b).toArray.extract (a.length + 1) (a ++ c :: b).length⟩ : Str) = _
  simp
  exact List.take_of_length_le (by lia)
theorem hqh {K : PySem.W.Frag} {H : Hp} : ∀ {ss : List Str} {xs : List V}, IsKAll K H (ss.map PyData.str) xs → xs = ss.map V.str
 | [], _, .nil => rfl
 | s :: ss, _, .cons h r => by cases h; rw [hqh r]; rfl
theorem gqS {K : PySem.W.Frag} {H : Hp} {ss : List Str} {p : Addr} (h : IsK K H (.tuple (ss.map PyData.str)) (.ref p)) : SqT K H p (ss.map V.str) := by
 cases h with
 | tup hp r => rw [← hqh r]; exact hp
theorem fqA (k : Str) : ∀ ss : List Str, inV (.str k) (ss.map V.str) = decide (k ∈ ss)
 | [] => rfl
 | s :: ss => by
  have ih := fqA k ss
  have e : eqV (.str s) (.str k) = decide (k = s) := by
   show (s == k) = decide (k = s)
   rw [Bool.eq_iff_iff, beq_iff_eq, decide_eq_true_eq]
   exact ⟨Eq.symm, Eq.symm⟩
  unfold inV at ih ⊢
  rw [List.map_cons, List.any_cons, ih, e, Bool.eq_iff_iff, Bool.or_eq_true, decide_eq_true_eq, decide_eq_true_eq, decide_eq_true_eq, List.mem_cons]
end Wm
namespace L2
open PySem PySem.Spec PyProof.Rows
structure Fd (K : PySem.W.Frag) (mg : Str → Option Value) (x : Str) (s : Stmt) (ps : List Str) where
 a : Addr
 fd : FuncData
 F : Fun K x x s a fd
 m : mg x = some (.ref a)
 b : Binds K fd ps []
def tqU {K : PySem.W.Frag} {h : Heap} {mg : Str → Option Value} {x : Str} {s : Stmt} {ps : List Str} {f : Addr} {oc : Value} {od an : Option Addr} {osl : Array (Option Value)} {kV doc pm cdv ct : Value} (X : K.In h) (Gl : h.Ns mainGlobals mg)
  (a : PySem.W.nsIn K mainGlobals x = some (some (.ref f))) (l : K.lookup f = some ⟨oc, od, .func (PySem.W.fnOf x x (defArgs s) (defBody s) (defScope s) .none kV doc pm an cdv ct), osl⟩) (c : PySem.W.codeIn K cdv x = true) (k : PySem.W.keepIn K (.ref f) = true)
  (hb : ∀ (kV doc pm : Value) (an : Option Addr) (cdv ct : Value) (us : List Value), us.length = ps.length → bindArgs (PySem.W.fnOf x x (defArgs s) (defBody s) (defScope s) .none kV doc pm an cdv ct) ⟨us, []⟩ = pure (ps.zip us)) : Fd K mg x s ps :=
 ⟨f, _, eqi l c k, PySem.W.mg_of X Gl a, (eqi l c k).binds hb⟩
abbrev Fd.Ok {K : PySem.W.Frag} {mg : Str → Option Value} {x : Str} {s : Stmt} {ps : List Str} (f : Fd K mg x s ps) (P : Program) (w : World) (base : Heap) (k : Nat) (sp : Sp) : Prop := FnOk P w K mg base CX0 k f.a f.fd ps sp
theorem aqs {X : Cx} {k k' : Nat} {sp : Sp} {x : Str} {st : Stmt} {ps : List Str} {e : Expr} {es : List Expr} {t : TA} {p pos : Pos} (f : Fd X.K X.mg x st ps) (F : FnOk X.prog X.w X.K X.mg X.base CX0 k f.a f.fd ps sp) (hr : Room k' X.A) (hg : Gl X x)
  (ha : PA X (e :: es) t) (hk : k ≤ k' := by decide) (hdb : (x == ("__debug__" : Str)) = false := by decide) (he : starEach (e :: es) X.env = (false, eval e X.env) :: starEach es X.env := by rfl) (hpl : (backTo pos (starEach es X.env)).any (·.1) = false := by rfl) :
  PE X (.Call (.Name x p) (e :: es) [] pos) (tCall sp [] E0 t) := dqM F (hr.mono hk) hg f.m f.F.kp f.b .nil pass0 ha hdb he hpl
end L2
namespace L2
open PySem PySem.Spec PyProof.Rows PyProof.V
section
variable {X : Cx}
def rNiT (p : Addr) (D : List (PyData × PyData)) : R2 := fun x y H Q => y = .ref p ∧ ∃ k : Str, x = .str k ∧ Q (.bl (!(lookup (.str k) D).isSome)) H
theorem tqE {p : Addr} {D : List (PyData × PyData)} (T : ∀ h : Heap, X.K.In h → StrTab X.prog X.w h p D) : OpR X (compareOp .NotIn) (rNiT p D) := by
 intro pins s σ H x y v u Q I rx ry h
 obtain ⟨rfl, k, rfl, q⟩ := h
 obtain ⟨t, rfl⟩ := rx
 obtain rfl : u = Value.ref p := ry
 exact notin_strTab (T _ I.kIn) ⟨.bl (!(lookup (.str k) D).isSome), H, I.tok _, rfl, q⟩
theorem valsF : ∀ (l : List Str) (n : Nat), Vals (l.map V.str) (strsFrom n l)
 | [], _ => .nil
 | z :: l, n => .cons ⟨n, rfl⟩ (valsF l (n + 1))
def rSplit2 : V → List V → Hp → VK → Prop := fun x vs H Q => ∃ (z : Str) (c k : Nat), x = .str z ∧ vs = [.str ⟨#[c]⟩, .int (k : Int)] ∧ z.length ≤ 100000 ∧ k < 100 ∧ ∀ p, H p = none → Q (.ref p) (upd H p (.lst ((Txt.splitMax z ⟨#[c]⟩ k).map V.str)))
theorem nqX : MtR X "str.split" rSplit2 := by
 intro pins s σ H x vs v us Q I rx rv h
 obtain ⟨z, c, k, rfl, rfl, hz, hk, q⟩ := h
 obtain ⟨t, rfl⟩ := rx
 obtain ⟨t', t3, rfl⟩ : ∃ t' t3, us = [.str ⟨#[c]⟩ t', .int (k : Int) t3] := by
  cases rv with
  | cons r1 rv => cases rv with
   | cons r2 rv =>
    cases rv
    obtain ⟨t', rfl⟩ := r1
    obtain ⟨t3, rfl⟩ := r2
    exact ⟨t', t3, rfl⟩
 have hf : H s.heap.objs.size = none := I.hok.fresh (Nat.le_refl _)
 have q := q _ hf
 have hsl : z.length ≤ sizeLine := Nat.le_trans hz (by decide)
 have hk2 : (decide ((k : Int) < -(2 ^ 63 : Int)) || decide ((k : Int) ≥ 2 ^ 63)) = false := by
  rw [decide_eq_false (by lia), decide_eq_false (by lia)]; rfl
 have hn : (Builtin.Str.partsBetween z (Builtin.Str.occurrences z ⟨#[c]⟩ 0 z.length (limitOf z k)) (⟨#[c]⟩ : Str).length).length ≤ sizeLine := by
  have e1 := StrLaws.occ_length_le_len z ⟨#[c]⟩ 0 z.length (limitOf z k)
  rw [length_partsBetween]
  exact Nat.le_trans (show _ ≤ 100010 by lia) (by decide)
 unfold Txt.splitMax at q
 cases h1 : (decide (z.length < (⟨#[c]⟩ : Str).length) || decide (Builtin.Str.strKind z < Builtin.Str.strKind ⟨#[c]⟩)) with
 | true =>
  rw [if_pos h1] at q
  refine call_meets F.slot_str_split (typeIs_str _ _ _) F.entry_str_split (F.args_str_split_3 _ _ _) (meets_str_split_max_cannot_occur z ⟨#[c]⟩ k t t' t3 hk2 h1) ?_
  refine ⟨.ref s.heap.objs.size, _, I.laid (t' := s.toks) (o := .lst [.str z]) (fun b u e => Heap.get?_push_of_some _ e) (Nat.le_refl _) ?_, rfl, q⟩
  exact ⟨by show 1 ≤ sizeLine; decide, [.str z t], 0, .cons ⟨_, rfl⟩ .nil, Heap.get?_push_size _ rfl⟩
 | false =>
  rw [if_neg (by rw [h1]; decide)] at q
  cases h2 : (Builtin.Str.occurrences z ⟨#[c]⟩ 0 z.length (limitOf z k)).isEmpty with
  | true =>
   rw [if_pos h2] at q
   refine call_meets F.slot_str_split (typeIs_str _ _ _) F.entry_str_split (F.args_str_split_3 _ _ _) (meets_str_split_max_not_found z ⟨#[c]⟩ k t t' t3 hk2 h1 rfl h2) ?_
   refine ⟨.ref s.heap.objs.size, _, I.laid (t' := s.toks) (o := .lst [.str z]) (fun b u e => Heap.get?_push_of_some _ e) (Nat.le_refl _) ?_, rfl, q⟩
   exact ⟨by show 1 ≤ sizeLine; decide, [.str z t], 0, .cons ⟨_, rfl⟩ .nil, Heap.get?_push_size _ rfl⟩
  | false =>
   rw [if_neg (by rw [h2]; decide)] at q
   refine call_meets F.slot_str_split (typeIs_str _ _ _) F.entry_str_split (F.args_str_split_3 _ _ _) (meets_str_split_sep_max z ⟨#[c]⟩ k t t' t3 hk2 h1 rfl h2 hsl hn) ?_
   refine ⟨.ref s.heap.objs.size, _, I.laid (o := .lst _) (fun b u e => Heap.get?_push_of_some _ e) (Nat.le_refl _) ?_, rfl, q⟩
   exact ⟨by rw [List.length_map]; exact hn, _, 0, valsF _ _, Heap.get?_push_size _ rfl⟩
end
theorem pqx {z : Str} {c k : Nat} {H : Hp} {Q : VK} : rSplit2 (.str z) [.str ⟨#[c]⟩, .int (k : Int)] H Q ↔ z.length ≤ 100000 ∧ k < 100 ∧ ∀ p, H p = none → Q (.ref p) (upd H p (.lst ((Txt.splitMax z ⟨#[c]⟩ k).map V.str))) := by
 constructor
 ·rintro ⟨z', c', k', e1, e2, h⟩
  cases e1
  injection e2 with e2 e3
  injection e3 with e3 _
  cases e2
  injection e3 with e3
  obtain rfl := Int.ofNat.inj e3
  exact h
 ·exact fun h => ⟨z, c, k, rfl, rfl, h⟩
end L2
namespace Wm
open PySem L2
theorem mqw {a b : List Nat} {c : Nat} (h : c ∉ a) (h2 : c < 256) : Txt.splitMax (mkS (a ++ c :: b)) (mkS [c]) 1 = [mkS a, mkS b] := by
 have e : (List.range' 0 ((a ++ c :: b).length + 1)).find? (fun i => decide ((a ++ c :: b)[i]? = some c)) = some a.length := by
  rw [List.find?_range'_eq_some]
  refine ⟨decide_eq_true (by simp), ?_, fun j _ hj => ?_⟩
  ·rw [List.mem_range'_1]
   simp only [List.length_append, List.length_cons]
   lia
  ·rw [decide_eq_false fun z => ?_]
   ·rfl
   ·rw [List.getElem?_append_left hj] at z
    exact h (List.mem_of_getElem? z)
 have eo : Builtin.Str.occurrences (mkS (a ++ c :: b)) (mkS [c]) 0 (mkS (a ++ c :: b)).length (limitOf (mkS (a ++ c :: b)) 1) = [a.length] := by
  rw [show limitOf (mkS (a ++ c :: b)) 1 = 1 from rfl, hqQ, e]; rfl
 unfold Txt.splitMax
 rw [eo, if_neg, if_neg (by intro z; cases z)]
 ·show [Builtin.Str.strSub (mkS (a ++ c :: b)) 0 a.length, Builtin.Str.strSub (mkS (a ++ c :: b)) (a.length + (mkS [c]).length) (mkS (a ++ c :: b)).length] = _
  rw [bqe, bqe]
  refine congr (congrArg _ ?_) (congr (congrArg _ ?_) rfl)
  ·show (⟨(a ++ c :: b).toArray.extract 0 a.length⟩ : Str) = _
   simp
  ·show (⟨(a ++ c :: b).toArray.extract (a.length + 1) (a ++ c :: b).length⟩ : Str) = _
   simp
   exact List.take_of_length_le (by lia)
 ·rw [bqe, bqe, decide_eq_false (by simp), Bool.false_or]
  intro z
  have k1 : Builtin.Str.strKind (mkS [c]) = 1 := by
   unfold Builtin.Str.strKind
   rw [if_pos (by simp [h2])]
  rw [k1] at z
  have := of_decide_eq_true z
  unfold Builtin.Str.strKind at this
  split at this
  ·lia
  ·split at this <;> lia
section
variable {K : PySem.W.Frag} {H H' : Hp} {C p : Addr} {x y : Ad}
theorem sqp {dx a : Addr} {fs : List (Str × V)} {xs : List V} (s : SameBut p H H') (hp : H p = some (.ins C dx fs)) (h : SqT K H a xs) : SqT K H' a xs := by
 rcases h with (h | ⟨o, h⟩) | h
 ·exact .inl (.inl (s _ _ (pqA h hp (by intro z; cases z)) h))
 ·exact .inl (.inr ⟨o, s _ _ (pqA h hp (by intro z; cases z)) h⟩)
 ·exact .inr h
mutual
theorem IsK.but {dx : Addr} {fs : List (Str × V)} (s : SameBut p H H') (hp : H p = some (.ins C dx fs)) : ∀ {d : PyData} {v : V}, IsK K H d v → IsK K H' d v
 | _, _, .non => .non
 | _, _, .bl b => .bl b
 | _, _, .int i => .int i
 | _, _, .str x => .str x
 | _, _, .tup h r => .tup (sqp s hp h) (IsKAll.but s hp r)
theorem IsKAll.but {dx : Addr} {fs : List (Str × V)} (s : SameBut p H H') (hp : H p = some (.ins C dx fs)) : ∀ {ds : List PyData} {xs : List V}, IsKAll K H ds xs → IsKAll K H' ds xs
 | _, _, .nil => .nil
 | _, _, .cons h r => .cons (IsK.but s hp h) (IsKAll.but s hp r)
end
theorem oqG {dx : Addr} {o o' : HO} (nd : H dx = none) : SameBut p H (upd (upd H dx o') p o) := fun b _ n e => by
 rw [aqA n, aqA (aqx e nd)]; exact e
theorem Same.free (s : Same H H') (h : H' p = none) : H p = none := by
 cases e : H p with
 | none => rfl
 | some o => rw [s _ _ e] at h; cases h
def Dsk (K : PySem.W.Frag) (H : Hp) (C p : Addr) (x : Ad) : Prop := ∃ (dx : Addr) (v u : V), H p = some (.ins C dx [("address", v), ("table", u)]) ∧ IsK K H x.data v
theorem Dsk.same (h : Dsk K H C p x) (s : Same H H') : Dsk K H' C p x := let ⟨dx, v, u, e, hv⟩ := h; ⟨dx, v, u, s _ _ e, hv.mono s⟩
theorem Dsk.keep {d : PyData} {v : V} (h : Dsk K H C p x) (s : SameBut p H H') (e : IsK K H d v) : IsK K H' d v := let ⟨_, _, _, e2, _⟩ := h; Wm.IsK.but s e2 e
theorem rqg {v u : V} : List.lookup (Str.ofString "address") [(Str.ofString "address", v), (Str.ofString "table", u)] = some v := by
 rw [List.lookup_cons, beq_self_eq_true]
theorem pqI {v u w : V} : putF (Str.ofString "address") w [(Str.ofString "address", v), (Str.ofString "table", u)] = [(Str.ofString "address", w), (Str.ofString "table", u)] := by
 simp only [putF, if_true]
theorem gqW {R : V → Prop} (h : Dsk K H C p x) (cl : Cls K C) (n : NoAttr K C "address") (r : ∀ v, IsK K H x.data v → R v) : ∃ a C dx fs v, p = a ∧ H a = some (.ins C dx fs) ∧ Cls K C ∧ NoAttr K C (Str.ofString "address") ∧ List.lookup (Str.ofString "address") fs = some v ∧ R v :=
 let ⟨dx, v, _, hp, hv⟩ := h
 ⟨p, C, dx, _, _, rfl, hp, cl, n, rqg, r v hv⟩
theorem sqe {dx : Addr} {v v' u : V} (hp : H p = some (.ins C dx [("address", v'), ("table", u)])) (hv : IsK K H y.data v) : Dsk K (upd H p (.ins C dx (putF (Str.ofString "address") v [("address", v'), ("table", u)]))) C p y :=
 ⟨dx, v, u, by rw [aqk]; exact congrArg (fun z => some (HO.ins C dx z)) pqI, Wm.IsK.but aqM hp hv⟩
theorem dqP {R : Prop} {m : Str} (h : Dsk K H C p x) (r : R) (h1 : (m == Str.ofString "address") = false := by decide +kernel) (h2 : (m == Str.ofString "table") = false := by decide +kernel) :
  ∃ a dx fs, p = a ∧ H a = some (.ins C dx fs) ∧ List.lookup m fs = none ∧ R :=
 let ⟨dx, _, _, hp, _⟩ := h
 ⟨p, dx, _, rfl, hp, by rw [List.lookup_cons, h1, List.lookup_cons, h2]; rfl, r⟩
end
theorem mqW (w : Way) : ∀ s ∈ holder w, s ∈ (goneV w).2.1 := fun s hs => by
 unfold holder at hs
 split at hs
 ·exact hs
 ·exact List.dropLast_subset _ hs
theorem oqN (w : Way) : ∀ s ∈ lastW w, s ∈ (goneV w).2.1 := fun s hs => by
 unfold lastW at hs
 split at hs
 ·cases hs
 ·exact List.mem_of_mem_drop hs
theorem nqP {b g : Way} {s : Stp} (h : s ∈ betw0 b g) : s = sUp ∨ s ∈ (goneV g).2.1 := by
 unfold betw0 at h
 rcases List.mem_append.mp h with h | h
 ·rcases List.mem_append.mp h with h | h
  ·exact .inl (List.eq_of_mem_replicate h)
  ·exact .inr (mqW g s (List.mem_of_mem_drop h))
 ·exact .inr (oqN g s h)
theorem kqo {b g : Ad} (hg : g.Tiny) (hb : b.Tiny) : (relM b g).Tiny := by
 have gg := hg.gone
 unfold relM
 split
 ·exact gg
 ·split
  ·exact ⟨gg.stp, gg.que, gg.mar, gg.hou⟩
  ·split
   ·refine ⟨(fun s hs => by cases hs), fun ps e => ?_, hg.mar, (fun l e => by cases e)⟩
    dsimp only at e
    split at e
    ·cases e
    ·exact hg.que ps e
   ·refine ⟨fun s hs => ?_, hg.que, hg.mar, (fun l e => by cases e)⟩
    have hs : s ∈ betw b.w g.w := hs
    unfold betw at hs
    split at hs
    ·rw [List.mem_singleton.mp hs]; decide +kernel
    ·rcases nqP hs with rfl | h
     ·decide +kernel
     ·exact gg.stp s h
abbrev QuT := Option (List (List Nat × Option (List Nat)))
def QSm (q : QuT) : Prop := ∀ ps, q = some ps → (ps.length ≤ 3 ∧ ∀ p ∈ ps, p.1.length ≤ 5 ∧ ∀ v, p.2 = some v → v.length ≤ 6) ∧ ∀ p ∈ ps, PairOk p
theorem qqp {H : Hp} : ∀ ss : List (List Nat), IsTAll H (ss.map st) (ss.map tV)
 | [] => .nil
 | _ :: ss => .cons (.str _) (qqp ss)
theorem jql {x : Ad} (h : x.scheme ≠ []) : (plainM x).scheme ≠ [] := fun z => h (by
 have : lowT x.scheme = [] := z
 unfold lowT at this
 exact List.map_eq_nil_iff.mp this)
def Ad.h3 (x : Ad) : PyData := .tuple [st x.scheme, oD x.house, iD x.door]
theorem tqj (x y : Ad) : PyData.eqv x.h3 y.h3 = true ↔ x.scheme = y.scheme ∧ x.house = y.house ∧ x.door = y.door := by
 have h := Ad.eqv_iff ⟨x.scheme, x.house, x.door, false, [], false, none, none⟩ ⟨y.scheme, y.house, y.door, false, [], false, none, none⟩
 have e : PyData.eqv (Ad.data ⟨x.scheme, x.house, x.door, false, [], false, none, none⟩) (Ad.data ⟨y.scheme, y.house, y.door, false, [], false, none, none⟩) = PyData.eqv x.h3 y.h3 := by
  simp [Ad.data, Ad.h3, Ad.way, PyData.eqv, PyData.eqvAll, qD, oD]
 rw [e] at h
 rw [h]
 simp
theorem qqV {x : Ad} (h : x.Wf) : SeqAt.shaped x.h3 = true := by
 have : LayAt 1 x.h3 := LayAt.tup fun d hd => by
  simp only [List.mem_cons, List.not_mem_nil, or_false] at hd
  rcases hd with rfl | rfl | rfl
  ·exact .st fun c hc => iqN (h.sch.2.1 c hc)
  ·exact .oD fun l e => (h.hou l e).2
  ·exact .iD
 exact this.shaped (by decide)
theorem nqB {K : PySem.W.Frag} {H : Hp} {x : Ad} {p : Addr} {w q : V} (h : SqT K H p (cutV [.str ⟨x.scheme.toArray⟩, otV x.house, itV x.door, w, q, otV x.mark] none (some 3))) : IsK K H x.h3 (.ref p) :=
 .tup h (.cons (.str _) (.cons (kqf _).k (.cons (oqP _).k .nil)))
theorem nqL {b g : Ad} (h1 : g.scheme = b.scheme) (h2 : g.house = b.house) (h3 : g.door = b.door) : (relM b g).scheme = [] ∧ (relM b g).house = none ∧ (relM b g).door = none := by
 unfold relM
 rw [if_neg (fun z => by rcases z with z | z; exact z h1; exact z.2 (by rw [← h2]; exact z.1)), if_neg (fun z => by rcases z with z | z; exact z h2; exact z h3)]
 split <;> exact ⟨rfl, rfl, rfl⟩
def top (i : Nat) : Stmt := PySem.Challenge.pw_waymark_k85_links_come_back.main.body.getD i (.Pass ⟨0, 0, 0, 0⟩)
abbrev jq5 : Stmt := top 16
abbrev kqJ : Stmt := top 17
abbrev eqk : Stmt := top 19
abbrev eqj : Stmt := top 20
abbrev iqK : Stmt := top 37
abbrev kqe : Stmt := top 53
abbrev lq2 : Stmt := top 61
abbrev nqq : Stmt := top 64
abbrev aqQ : Stmt := inClass (top 111) 0
abbrev aq5 : Stmt := inClass (top 111) 1
abbrev bqv : Stmt := inClass (top 111) 3
abbrev aq3 : Stmt := inClass (top 111) 4
abbrev hqi : Stmt := top 116
abbrev iqI : Stmt := top 129
abbrev dql : Stmt := top 131
abbrev eqc : Stmt := top 136
abbrev iqF : Stmt := top 150
abbrev eqZ : Stmt := top 157
abbrev gqh : Stmt := top 159
abbrev iqG : Stmt := top 160
abbrev iqH : Stmt := top 161
abbrev kqh : Stmt := top 15
abbrev kqw : Stmt := top 18
abbrev kqS : Stmt := top 21
abbrev gqi : Stmt := top 63
abbrev bqA : Stmt := inClass (top 111) 2
abbrev gqf : Stmt := top 158
abbrev eqr : Stmt := top 162
abbrev eqt : Stmt := top 163
abbrev gq5 : Stmt := top 38
abbrev fql : Stmt := top 51
abbrev hqL : Stmt := top 52
abbrev fqB : Stmt := top 55
abbrev gqr : Stmt := top 56
abbrev qqs : Stmt := top 62
abbrev gqg : Stmt := top 115
abbrev gqt : Stmt := top 123
abbrev eq6 : Stmt := top 164
abbrev dq2 : Stmt := top 54
abbrev dq6 : Stmt := top 65
abbrev lqR : Stmt := top 66
abbrev eqX : Stmt := top 113
abbrev cq6 : Stmt := top 122
abbrev qqm : Stmt := top 50
abbrev hqJ : Stmt := top 117
abbrev fqw : Stmt := top 119
abbrev gqe : Stmt := top 120
abbrev bqb : Stmt := top 121
abbrev nqE : Stmt := top 125
abbrev fqO : Stmt := top 130
abbrev iqu : Stmt := top 135
abbrev fqK : Stmt := top 114
abbrev dq0 : Stmt := top 118
abbrev hqU : Stmt := top 128
abbrev gqw : Stmt := top 134
abbrev qqd : Stmt := top 112
abbrev iqO : Stmt := top 127
abbrev iqA : Stmt := top 133
abbrev aq2 : Stmt := inClass (top 149) 0
abbrev bqh : Stmt := inClass (top 149) 2
abbrev dqn : Stmt := inClass (top 149) 3
abbrev cqH : Stmt := inClass (top 149) 1
abbrev sqk : Stmt := top 165
abbrev oqb : V := .str (Str.ofString " !\"#$&'()*+,-./0123456789:;<=>?@ABCDEFGHIJKLMNOPQRSTUVWXYZ[\\]^_`abcdefghijklmnopqrstuvwxyz{|}~")
abbrev oqA : V := .str (Str.ofString "abcdefghijklmnopqrstuvwxyzABCDEFGHIJKLMNOPQRSTUVWXYZ")
abbrev eqb : V := .str (Str.ofString "abcdefghijklmnopqrstuvwxyzABCDEFGHIJKLMNOPQRSTUVWXYZ0123456789")
abbrev hqs : V := .str (Str.ofString "0123456789")
abbrev kqW : V := .str (Str.ofString "abcdefghijklmnopqrstuvwxyzABCDEFGHIJKLMNOPQRSTUVWXYZ0123456789-_.")
abbrev cqR : V := .str (Str.ofString "!$'()*,;@&=+")
abbrev aqR : V := .str (Str.ofString "!$'()*,;@+/?:")
abbrev eqy : V := .str (Str.ofString "!$'()*,;@&=+/?:")
abbrev eqY : V := .int 32
abbrev iqX : V := .int 126
abbrev dqr : V := .int 37
abbrev bqT : V := .str (Str.ofString "0123456789abcdef")
abbrev eqf : V := .str (Str.ofString "0123456789ABCDEF")
abbrev eqR : V := .int 0
abbrev dqC : V := .int 1
abbrev lqJ : V := .int 2
abbrev hqR : V := .int 3
abbrev aq0 : V := .int 4
abbrev lqN : V := .int 5
abbrev fqk : V := .int 0
abbrev fq2 : V := .int 1
abbrev iqJ : V := .int 2
abbrev gqE : V := .int 8
abbrev hqv : V := .int 60
abbrev lqh : V := .int 65535
abbrev jqU : V := .str (Str.ofString ".")
abbrev k_UP : V := .str (Str.ofString "..")
abbrev dq5 : V := .str (Str.ofString "234567")
def cql : List (Str × PyData) := [(Str.ofString "at", .int 0), (Str.ofString "go", .int 0), (Str.ofString "link", .int 0), (Str.ofString "add", .int 1), (Str.ofString "lead", .int 0), (Str.ofString "both", .int 2)]
set_option genInjectivity false
set_option genSizeOf false
set_option genSizeOfSpec false
structure D (K : W.Frag) (mg : Str → Option Value) where
 eqe : Fd K mg "made_of" jq5 ["text", "signs"]
 hqM : Fd K mg "pair_of" kqJ ["sign"]
 bq2 : Fd K mg "figure_number" eqk ["figure"]
 cqP : Fd K mg "sign_numbered" eqj ["number"]
 bqQ : Fd K mg "is_whole" iqK ["address"]
 hqf : Fd K mg "slashed" kqe ["rooted", "texts", "ends"]
 iqS : Fd K mg "is_dot" lq2 ["step"]
 lqy : Fd K mg "go_up" nqq ["left", "rooted"]
 dqA : Fd K mg "door_with" hqi ["door", "cursor"]
 gqa : Fd K mg "can_stay" iqI ["base", "goal"]
 cqc : Fd K mg "count_in_common" dql ["one", "other"]
 cqJ : Fd K mg "question_from" eqc ["base", "address"]
 fq7 : Fd K mg "read_row" iqF ["row"]
 cqh : Fd K mg "_law_cell_at" eqZ ["_law_script", "_law_k"]
 dq7 : Fd K mg "_law_signs" gqh ["_law_cell"]
 fq1 : Fd K mg "_law_run" iqG ["_law_cell", "_law_signs_here", "_law_many"]
 cqf : Fd K mg "_law_any" iqH ["_law_cell", "_law_many"]
 hqc : Fd K mg "is_text" kqh ["thing"]
 hqd : Fd K mg "sign_of" kqw ["figures"]
 cqr : Fd K mg "written" kqS ["text"]
 dq9 : Fd K mg "steps_left" gqi ["steps", "rooted"]
 cq3 : Fd K mg "_law_cells" gqf ["_law_script", "_law_start", "_law_many"]
 cqL : Fd K mg "_law_one_step" eqr ["_law_cell", "_law_signs_here"]
 cqK : Fd K mg "_law_question" eqt ["_law_cell"]
 eq8 : Fd K mg "is_scheme" gq5 ["thing"]
 dqO : Fd K mg "shown_house" fql ["house", "door"]
 fqg : Fd K mg "shown_way" hqL ["way"]
 dqF : Fd K mg "shown_asked" fqB ["name", "value"]
 eqz : Fd K mg "shown_mark" gqr ["mark"]
 lqK : Fd K mg "gone" qqs ["way"]
 eqE : Fd K mg "taken_door" gqg ["cursor"]
 eqs : Fd K mg "taken_pair" gqt ["cursor"]
 cqk : Fd K mg "_law_address" eq6 ["_law_cells_here", "_law_signs_here", "_law_whole"]
 cqw : Fd K mg "shown_question" dq2 ["question"]
 aq1 : Fd K mg "with_way_gone" dq6 ["address"]
 fqH : Fd K mg "holder" lqR ["way"]
 dqc : Fd K mg "taken_scheme" eqX ["cursor"]
 dqY : Fd K mg "show" qqm ["address"]
 fqh : Fd K mg "taken_way" hqJ ["cursor", "must_be_rooted"]
 cqD : Fd K mg "taken_value" fqw ["cursor"]
 eqo : Fd K mg "taken_mark" gqe ["cursor"]
 gqb : Fd K mg "plain" nqE ["address"]
 dqB : Fd K mg "way_between" fqO ["base_way", "goal_way"]
 fqS : Fd K mg "way_from" iqu ["base_way", "way"]
 dqR : Fd K mg "taken_house" fqK ["cursor"]
 cqx : Fd K mg "taken_question" dq0 ["cursor"]
 fqe : Fd K mg "told_from" hqU ["base", "goal"]
 eqw : Fd K mg "made_whole" gqw ["base", "address"]
 iqv : Fd K mg "read" qqd ["text"]
 eqI : Fd K mg "relative" iqO ["base", "goal"]
 dqj : Fd K mg "resolved" iqA ["base", "address"]
 f_law : Fd K mg "law" sqk ["_law_script"]
structure G (w : World) (K : W.Frag) (mg : Str → Option Value) extends D K mg where
 bqz : Addr
 bqk : FuncData
 dqs : Fun K "__init__" "Cursor.__init__" aqQ bqz bqk
 dqi : Binds K bqk ["self", "text"] []
 bqZ : Addr
 bqL : FuncData
 eqm : Fun K "at_end" "Cursor.at_end" aq5 bqZ bqL
 cqV : Binds K bqL ["self"] []
 cqB : Addr
 cqi : FuncData
 fqo : Fun K "take" "Cursor.take" bqv cqB cqi
 bqy : Binds K cqi ["self"] []
 bqX : Addr
 bqM : FuncData
 eqF : Fun K "passes" "Cursor.passes" aq3 bqX bqM
 aqy : Binds K bqM ["self", "text"] []
 cqC : Addr
 cqg : FuncData
 fqF : Fun K "sees" "Cursor.sees" bqA cqC cqg
 bq0 : Binds K cqg ["self", "signs"] []
 cq5 : Addr
 bqV : FuncData
 gqm : Addr
 iql : Tok
 aq6 : FunD K "taken_text" "taken_text" cq6 cq5 bqV gqm
 bqx : Binds K bqV ["cursor", "free", "most"] [.none]
 bqn : mg "taken_text" = some (.ref cq5)
 gql : Binds K bqV ["cursor", "free", "most"] []
 bqc : Addr
 aqO : FuncData
 cqM : Addr
 eqC : Tok
 aq7 : FunD K "taken_filled_text" "taken_filled_text" bqb bqc aqO cqM
 cqz : Binds K aqO ["cursor", "free", "most"] [.none]
 bqP : mg "taken_filled_text" = some (.ref bqc)
 cqY : Binds K aqO ["cursor", "free", "most"] []
 bq7 : Addr
 bqI : FuncData
 eqx : Fun K "__init__" "Desk.__init__" aq2 bq7 bqI
 cqU : Binds K bqI ["self", "text"] []
 cqj : Addr
 bqW : FuncData
 eq1 : Fun K "goal_of" "Desk.goal_of" bqh cqj bqW
 cq9 : Binds K bqW ["self", "text"] []
 fqN : Addr
 eqN : FuncData
 kqv : Fun K "go" "Desk.go" dqn fqN eqN
 kqC : Binds K eqN ["self", "text"] []
 eqJ : Addr
 dqw : FuncData
 iqq : Fun K "say" "Desk.say" cqH eqJ dqw
 dqq : Binds K dqw ["self", "row"] []
 aqo : Addr
 aql : Cls K aqo
 aqP : NoAttr K aqo "text"
 aqw : NoAttr K aqo "place"
 mqh : mg "Cursor" = some (.ref aqo)
 lqG : Mk K aqo bqz
 cqv : Meth K aqo "at_end" bqZ
 bqi : Meth K aqo "take" cqB
 aqu : Meth K aqo "passes" bqX
 bqD : Meth K aqo "sees" cqC
 cqq : Addr
 bqN : Cls K cqq
 aqY : NoAttr K cqq "address"
 gqp : NoAttr K cqq "table"
 nqz : mg "Desk" = some (.ref cqq)
 nqM : Mk K cqq bq7
 cq1 : Meth K cqq "goal_of" cqj
 iqt : Meth K cqq "go" fqN
 cqS : Meth K cqq "say" eqJ
 gq0 : Tok
 lqq : mg "SIGNS" = some (.str (Str.ofString " !\"#$&'()*+,-./0123456789:;<=>?@ABCDEFGHIJKLMNOPQRSTUVWXYZ[\\]^_`abcdefghijklmnopqrstuvwxyz{|}~") gq0)
 eqp : Tok
 kqK : mg "LETTERS" = some (.str (Str.ofString "abcdefghijklmnopqrstuvwxyzABCDEFGHIJKLMNOPQRSTUVWXYZ") eqp)
 aqL : Tok
 cqs : mg "LETTERS_AND_FIGURES" = some (.str (Str.ofString "abcdefghijklmnopqrstuvwxyzABCDEFGHIJKLMNOPQRSTUVWXYZ0123456789") aqL)
 eqB : Tok
 hqq : mg "FIGURES" = some (.str (Str.ofString "0123456789") eqB)
 gqZ : Tok
 kq8 : mg "PLAIN" = some (.str (Str.ofString "abcdefghijklmnopqrstuvwxyzABCDEFGHIJKLMNOPQRSTUVWXYZ0123456789-_.") gqZ)
 bqs : Tok
 cqW : mg "FREE_IN_STEPS" = some (.str (Str.ofString "!$'()*,;@&=+") bqs)
 aqS : Tok
 aq8 : mg "FREE_IN_QUESTIONS" = some (.str (Str.ofString "!$'()*,;@+/?:") aqS)
 bqt : Tok
 eqq : mg "FREE_IN_MARKS" = some (.str (Str.ofString "!$'()*,;@&=+/?:") bqt)
 bqG : Tok
 dqd : mg "FIRST_NUMBER" = some (.int 32 bqG)
 bqU : Tok
 fqv : mg "LAST_NUMBER" = some (.int 126 bqU)
 aq4 : Tok
 cqb : mg "NUMBER_LEFT_OUT" = some (.int 37 aq4)
 bqq : Tok
 bqm : mg "SMALL_FIGURES" = some (.str (Str.ofString "0123456789abcdef") bqq)
 bqo : Tok
 cqX : mg "GREAT_FIGURES" = some (.str (Str.ofString "0123456789ABCDEF") bqo)
 fqj : Tok
 dqL : mg "SCHEME" = some (.int 0 fqj)
 hql : Tok
 dqe : mg "HOUSE" = some (.int 1 hql)
 kqN : Tok
 jqS : mg "DOOR" = some (.int 2 kqN)
 oqK : Tok
 gqN : mg "WAY" = some (.int 3 oqK)
 dqk : Tok
 aqV : mg "QUESTION" = some (.int 4 dqk)
 kqn : Tok
 jqY : mg "MARK" = some (.int 5 kqn)
 fqr : Tok
 eqK : mg "ROOTED" = some (.int 0 fqr)
 gq6 : Tok
 fqc : mg "STEPS" = some (.int 1 gq6)
 kqu : Tok
 hqE : mg "ENDS" = some (.int 2 kqu)
 bqf : Tok
 dqW : mg "LONGEST_SCHEME" = some (.int 8 bqf)
 bql : Tok
 eqn : mg "LONGEST_HOUSE" = some (.int 60 bql)
 cqN : Tok
 gq2 : mg "LAST_DOOR" = some (.int 65535 cqN)
 jqW : Tok
 kqF : mg "STAY" = some (.str (Str.ofString ".") jqW)
 t_UP : Tok
 c_UP : mg "UP" = some (.str (Str.ofString "..") t_UP)
 eqO : Addr
 gqX : mg "NO_WAY" = some (.ref eqO)
 fqM : ∀ H, IsK K H (.tuple [.bool false, .tuple [], .bool false]) (.ref eqO)
 bqu : Tok
 eql : mg "FIRST_FIGURES" = some (.str (Str.ofString "234567") bqu)
 bqF : Addr
 dqf : mg "NAMES_BEHIND" = some (.ref bqF)
 cq8 : ∀ (P : Program) (h : Heap), K.In h → PyProof.Rows.StrTab P w h bqF (cql.map fun p => (PyData.str p.1, p.2))
 cqI : Addr
 fqf : mg "WITH_TEXT" = some (.ref cqI)
 cq0 : ∀ H, IsK K H (.tuple [.str (Str.ofString "go"), .str (Str.ofString "link"), .str (Str.ofString "add")]) (.ref cqI)
 sqw : mg "all" = none
 sqi : mg "ord" = none
 dqS : mg "len" = none
 oq5 : mg "int" = none
 sqq : mg "min" = none
 cqp : mg "isinstance" = none
 mq3 : mg "str" = none
 equ : mg "range" = none
 gqd : mg "tuple" = none
def mql : Sp := fun vs H Q _ => ∃ x y : Str, vs = [.str x, .str y] ∧ x.length ≤ 100000 ∧ ∀ H', Same H H' → Q (.bl (x.cps.toList.all fun c => decide (c ∈ y.cps.toList))) H'
def iqs : Sp := fun vs H Q _ => ∃ c : Nat, vs = [one c] ∧ c < 256 ∧ Q (.str ⟨[126, hexd (c / 16), hexd (c % 16)].toArray⟩) H
def dqU : Sp := fun vs H Q _ => ∃ a : Nat, vs = [one a] ∧ a < 128 ∧ Q (figV a) H
def gqL : Sp := fun vs H Q _ => ∃ n : Nat, vs = [.int (n : Int)] ∧ Q (sgV n) H
def lqa (K : W.Frag) : Sp := fun vs H Q _ => ∃ (p : Addr) (l : List Nat) (r : List V), vs = [.ref p] ∧ SqT K H p (.str ⟨l.toArray⟩ :: r) ∧ Q (.bl (!decide (l = []))) H
def mqL (K : W.Frag) : Sp := fun vs H Q _ => ∃ (r e : Bool) (p : Addr) (ts : List (List Nat)), vs = [.bl r, .ref p, .bl e] ∧ SqL K H p (ts.map fun l => V.str ⟨l.toArray⟩) ∧ (joinT 47 ts).length ≤ 90000 ∧ Q (.str ⟨(slT r ts e).toArray⟩) H
def nqw : Sp := fun vs H Q _ => ∃ s : Stp, vs = [sV s] ∧ Q (.bl (isDot s)) H
def oqV (K : W.Frag) : Sp := fun vs H Q _ => ∃ (p : Addr) (L : List Stp) (r : Bool), vs = [.ref p, .bl r] ∧ H p = some (.lst (L.map sV)) ∧ L.length ≤ 2000 ∧ Q .non (upd H p (.lst ((goUp r L).map sV)))
def fqi (K : W.Frag) (C : Addr) : Sp := fun vs H Q _ => ∃ (p dx : Addr) (t : List Nat), vs = [.ref p, .str ⟨t.toArray⟩] ∧ H p = some (.ins C dx []) ∧ ∀ H', SameBut p H H' → Cur H' C p t 0 → Q .non H'
def gqJ (K : W.Frag) (C : Addr) : Sp := fun vs H Q _ => ∃ (p : Addr) (t : List Nat) (i : Nat), vs = [.ref p] ∧ Cur H C p t i ∧ t.length ≤ 100000 ∧ Q (.bl (decide (i = t.length))) H
def iqe (K : W.Frag) (C : Addr) : Sp := fun vs H Q _ => ∃ (p : Addr) (t : List Nat) (i c : Nat), vs = [.ref p] ∧ Cur H C p t i ∧ t[i]? = some c ∧ t.length ≤ 100000 ∧ ∀ H', SameBut p H H' → Cur H' C p t (i + 1) → Q (.str ⟨#[c]⟩) H'
def bqH (K : W.Frag) (C : Addr) : Sp := fun vs H Q _ => ∃ (p : Addr) (t w : List Nat) (i : Nat), vs = [.ref p, .str ⟨w.toArray⟩] ∧ Cur H C p t i ∧ i ≤ t.length ∧ t.length ≤ 100000 ∧ ((t.drop i).take w.length = w → ∀ H', SameBut p H H' → Cur H' C p t (i + w.length) → Q (.bl true) H') ∧ (¬ (t.drop i).take w.length = w → Q (.bl false) H)
def jq9 (K : W.Frag) (C : Addr) : Sp := fun vs H Q _ => ∃ (p : Addr) (t : List Nat) (i c n : Nat), vs = [.int (n : Int), .ref p] ∧ Cur H C p t i ∧ t.length ≤ 100000 ∧ t[i]? = some c ∧ 48 ≤ c ∧ c ≤ 57 ∧ n ≤ 100000 ∧ Q (.int ((n * 10 + (c - 48) : Nat) : Int)) H
def lqk (K : W.Frag) : Sp := fun vs H Q _ => ∃ (b g : Ad) (vb vg : V), vs = [vb, vg] ∧ IsK K H b.data vb ∧ IsK K H g.data vg ∧ b.Wf ∧ g.Wf ∧ Q (.bl (decide (b.w = g.w ∧ (g.quest ≠ none ∨ b.quest = none)))) H
def fqC (K : W.Frag) : Sp := fun vs H Q _ => ∃ (p q : Addr) (h t : List Stp), vs = [.ref p, .ref q] ∧ SqT K H p (h.map sV) ∧ SqT K H q (t.map sV) ∧ Q (.int (comm h t)) H
def gqM (K : W.Frag) : Sp := fun vs H Q _ => ∃ (b x : Ad) (vb vx : V), vs = [vb, vx] ∧ IsK K H b.data vb ∧ IsK K H x.data vx ∧ x.Wf ∧ ∀ v : V, IsK K H (qD (questFrom b x)) v → Q v H
def wAt : List Nat := [97, 116]
def wGo : List Nat := [103, 111]
def wLink : List Nat := [108, 105, 110, 107]
def wtW : List Str := [Str.ofString "go", Str.ofString "link", Str.ofString "add"]
def kqT (K : W.Frag) : Sp := fun vs H Q _ => ∃ row : List Nat, vs = [tV row] ∧ ((row = wAt ∧ ∀ (l : Addr) (H' : Hp), Same H H' → H' l = some (.lst [tV wAt]) → Q (.ref l) H') ∨ ∃ w t : List Nat, (w = wGo ∨ w = wLink) ∧ row = w ++ 32 :: t ∧ t.length ≤ 90000 ∧ ∀ (l : Addr) (H' : Hp), Same H H' → H' l = some (.lst [tV w, tV t]) → Q (.ref l) H')
def hqy (K : W.Frag) : Sp := fun vs H Q _ => ∃ (a : Addr) (ns : List Int) (k : Nat), vs = [.ref a, .int (k : Int)] ∧ SqL K H a (ns.map V.int) ∧ Q (.int (ns.getD k 0)) H
def jqc (K : W.Frag) : Sp := fun vs H Q _ => ∃ c : Int, vs = [.int c] ∧ ∀ (l : List Nat) (H' : Hp), 0 < l.length → l.length ≤ 5 → (∀ c ∈ l, isSg c = true) → Same H H' → Q (tV l) H'
def lqs : Sp := fun vs H Q _ => ∃ (c : Int) (g : List Nat) (m : Nat), vs = [.int c, tV g, .int (m : Int)] ∧ 0 < g.length ∧ g.length ≤ 100 ∧ m ≤ 100 ∧ ∀ l : List Nat, l.length = m → (∀ x ∈ l, x ∈ g) → Q (tV l) H
def lqt : Sp := fun vs H Q _ => ∃ (c : Int) (m : Nat), vs = [.int c, .int (m : Int)] ∧ m ≤ 20 ∧ ∀ l : List Nat, l.length = m → (∀ x ∈ l, isSg x = true) → Q (tV l) H
def mqJ : Sp := fun vs H Q _ => ∃ (d : PyData) (v : V), vs = [v] ∧ Is H d v ∧ smallD d = true ∧ ∀ H', Same H H' → Q (.bl (tx d)) H'
def iqr : Sp := fun vs H Q _ => ∃ l : List Nat, vs = [.str ⟨l.toArray⟩] ∧ l.length ≤ 1000 ∧ (∀ c ∈ l, c < 128) ∧ Q (signOfL l) H
def dqm : Sp := fun vs H Q _ => ∃ l : List Nat, vs = [.str ⟨l.toArray⟩] ∧ l.length ≤ 2000 ∧ (∀ c ∈ l, isSg c = true) ∧ ∀ H', Same H H' → Q (.str ⟨(wr l).toArray⟩) H'
def iqZ (K : W.Frag) : Sp := fun vs H Q _ => ∃ (ps : Addr) (ss : List Stp) (r : Bool), vs = [.ref ps, .bl r] ∧ SqT K H ps (ss.map sV) ∧ ss.length ≤ 2000 ∧ ∀ p H', Same H H' → H' p = some (.tup ((goneS r ss).map sV)) → Q (.ref p) H'
def iqn (K : W.Frag) (C : Addr) : Sp := fun vs H Q _ => ∃ (p : Addr) (t sg : List Nat) (i : Nat), vs = [.ref p, .str ⟨sg.toArray⟩] ∧ Cur H C p t i ∧ i ≤ t.length ∧ t.length ≤ 100000 ∧ Q (.bl (seesB t sg i)) H
def jqv (K : W.Frag) : Sp := fun vs H Q _ => ∃ (a : Addr) (ns : List Int) (s m : Nat), vs = [.ref a, .int (s : Int), .int (m : Int)] ∧ SqL K H a (ns.map V.int) ∧ m ≤ 100 ∧ ∀ (is : List Int) (p : Addr) (H' : Hp), is.length = m → Same H H' → H' p = some (.lst (is.map V.int)) → Q (.ref p) H'
def gqK : Sp := fun vs H Q _ => ∃ (c : Int) (g : List Nat), vs = [.int c, tV g] ∧ 0 < g.length ∧ g.length ≤ 100 ∧ (∀ x ∈ g, isSg x = true) ∧ ∀ l : List Nat, l ≠ [] → l.length ≤ 3 → (∀ x ∈ l, isSg x = true) → Q (tV l) H
def gqF (K : W.Frag) : Sp := fun vs H Q _ => ∃ c : Int, vs = [.int c] ∧ ∀ (qs : Option (List (List Nat × Option (List Nat)))) (v : V) (H' : Hp), QSm qs → Same H H' → IsT H' (qD qs) v → Q v H'
def kqI : Sp := fun vs H Q _ => ∃ (d : PyData) (v : V), vs = [v] ∧ Is H d v ∧ smallD d = true ∧ ∀ H', Same H H' → Q (.bl (schD d)) H'
def hq7 : Sp := fun vs H Q _ => ∃ (o : Option (List Nat)) (d : Option Int), vs = [otV o, itV d] ∧ (∀ l, o = some l → l.length ≤ 60 ∧ ∀ c ∈ l, isSg c = true) ∧ (∀ i, d = some i → (0 ≤ i ∧ i ≤ 65535) ∧ o ≠ none) ∧ ∀ H', Same H H' → Q (.str ⟨(houT o ++ dooT d).toArray⟩) H'
def jq6 (K : W.Frag) : Sp := fun vs H Q _ => ∃ (r e : Bool) (ss : List (List Nat)) (p q : Addr), vs = [.ref p] ∧ SqT K H p [.bl r, .ref q, .bl e] ∧ SqT K H q (ss.map fun l => V.str ⟨l.toArray⟩) ∧ (∀ s ∈ ss, s.length ≤ 2000 ∧ ∀ c ∈ s, isSg c = true) ∧ ss.length ≤ 2000 ∧ (wayT r ss e).length ≤ 90000 ∧ ∀ H', Same H H' → Q (.str ⟨(wayT r ss e).toArray⟩) H'
def hqZ : Sp := fun vs H Q _ => ∃ (n : List Nat) (o : Option (List Nat)), vs = [.str ⟨n.toArray⟩, otV o] ∧ PairOk (n, o) ∧ n.length ≤ 2000 ∧ (∀ l, o = some l → l.length ≤ 2000) ∧ ∀ H', Same H H' → Q (.str ⟨(pairT (n, o)).toArray⟩) H'
def iq6 : Sp := fun vs H Q _ => ∃ o : Option (List Nat), vs = [otV o] ∧ (∀ l, o = some l → l.length ≤ 2000 ∧ ∀ c ∈ l, isSg c = true) ∧ ∀ H', Same H H' → Q (.str ⟨(oT 35 o).toArray⟩) H'
def rqh (K : W.Frag) : Sp := fun vs H Q _ => ∃ (w : Way) (v : V), vs = [v] ∧ IsK K H (wayOf w) v ∧ w.2.1.length ≤ 2000 ∧ ∀ (u : V) (H' : Hp), Same H H' → IsK K H' (wayOf (goneV w)) u → Q u H'
def jqw (K : W.Frag) (C : Addr) : Sp := fun vs H Q _ => ∃ (p : Addr) (t w r : List Nat) (i : Nat) (o : Option Int), vs = [.ref p] ∧ Cur H C p t i ∧ i ≤ t.length ∧ t.length ≤ 100000 ∧ (∀ c ∈ t, c < 128) ∧ t.drop i = w ++ r ∧ DooW o w ∧ (∀ c, r.head? = some c → ¬ (48 ≤ c ∧ c ≤ 57)) ∧ (o = none → r.head? ≠ some 58) ∧ ∀ H', SameBut p H H' → Cur H' C p t (i + w.length) → Q (itV o) H'
def iqW (K : W.Frag) (C : Addr) : Sp := fun vs H Q _ => ∃ (p : Addr) (t r : List Nat) (i a b c : Nat), vs = [.ref p] ∧ Cur H C p t i ∧ t.drop i = a :: b :: r ∧ sgO a b = some c ∧ t.length ≤ 100000 ∧ ∀ H', SameBut p H H' → Cur H' C p t (i + 2) → Q (.str ⟨#[c]⟩) H'
def hqe (K : W.Frag) : Sp := fun vs H Q _ => ∃ (pc : Addr) (is : List Int) (g : List Nat) (wh : Bool), vs = [.ref pc, tV g, .bl wh] ∧ H pc = some (.lst (is.map V.int)) ∧ is.length = 7 ∧ 0 < g.length ∧ g.length ≤ 100 ∧ (∀ x ∈ g, isSg x = true) ∧ ∀ (x : Ad) (u : V) (H' : Hp), x.Ok → x.Tiny → x.steps.length ≤ 3 → (wh = true → x.scheme ≠ []) → Same H H' → IsT H' x.data u → Q u H'
def fq9 (K : W.Frag) : Sp := fun vs H Q _ => ∃ (q : Option (List (List Nat × Option (List Nat)))) (v : V), vs = [v] ∧ IsK K H (qD q) v ∧ (∀ ps, q = some ps → ps.length ≤ 2000 ∧ ∀ p ∈ ps, PairOk p ∧ p.1.length ≤ 2000 ∧ ∀ l, p.2 = some l → l.length ≤ 2000) ∧ (queT q).length ≤ 90000 ∧ ∀ H', Same H H' → Q (.str ⟨(queT q).toArray⟩) H'
def gqC (K : W.Frag) : Sp := fun vs H Q _ => ∃ (x : Ad) (v : V), vs = [v] ∧ IsK K H x.data v ∧ x.steps.length ≤ 2000 ∧ ∀ (u : V) (H' : Hp), Same H H' → IsK K H' x.gone.data u → Q u H'
def nqo (K : W.Frag) : Sp := fun vs H Q _ => ∃ (w : Way) (v : V), vs = [v] ∧ IsK K H (wayOf w) v ∧ w.2.1.length ≤ 2000 ∧ ∀ (p : Addr) (H' : Hp), Same H H' → SqT K H' p ((holder w).map sV) → Q (.ref p) H'
def hqO (K : W.Frag) (C : Addr) : Sp := fun vs H Q _ => ∃ (p : Addr) (t : List Nat), vs = [.ref p] ∧ Cur H C p t 0 ∧ t.length ≤ 90000 ∧ ∀ H', SameBut p H H' → Cur H' C p t (schP t) → Q (.str ⟨(schM t).toArray⟩) H'
def iqY (K : W.Frag) (C : Addr) : Sp := fun vs H Q _ => ∃ (p : Addr) (t fr s w r : List Nat) (i : Nat) (mo : Option Nat), vs = [.ref p, .str ⟨fr.toArray⟩, moV mo] ∧ Cur H C p t i ∧ i ≤ t.length ∧ t.length ≤ 100000 ∧ (∀ c ∈ t, c < 128) ∧ fr.length ≤ 100 ∧ t.drop i = w ++ r ∧ WrT fr s w ∧ (Stops fr r ∨ mo = some s.length) ∧ (∀ m, mo = some m → s.length ≤ m) ∧
 ∀ H', SameBut p H H' → Cur H' C p t (i + w.length) → Q (.str ⟨s.toArray⟩) H'
def rqD (K : W.Frag) : Sp := fun vs H Q _ => ∃ (x : Ad) (v : V), vs = [v] ∧ IsK K H x.data v ∧ x.Wf ∧ x.Sz ∧ ∀ H', Same H H' → Q (.str ⟨x.shw.toArray⟩) H'
def gqu (K : W.Frag) (C : Addr) : Sp := fun vs H Q _ => ∃ (p : Addr) (t v rest : List Nat) (i : Nat) (must r : Bool) (ss : List (List Nat)) (e : Bool), vs = [.ref p, .bl must] ∧ Cur H C p t i ∧ i ≤ t.length ∧ t.length ≤ 100000 ∧ (∀ c ∈ t, c < 128) ∧ t.drop i = (if r then [47] else []) ++ (v ++ rest) ∧ StpW ss e v ∧ (ss = [] → e = r) ∧ (must = true → r = true) ∧ Stops frS rest ∧ rest.head? ≠ some 47 ∧
 ∀ (u : V) (H' : Hp), SameBut p H H' → Cur H' C p t (t.length - rest.length) → IsT H' (wayOf (r, ss, e)) u → Q u H'
def iqm (K : W.Frag) (C : Addr) : Sp := fun vs H Q _ => ∃ (p : Addr) (t w r : List Nat) (i : Nat) (o : Option (List Nat)), vs = [.ref p] ∧ Cur H C p t i ∧ i ≤ t.length ∧ t.length ≤ 100000 ∧ (∀ c ∈ t, c < 128) ∧ t.drop i = w ++ r ∧ ValW o w ∧ Stops frQ r ∧ r.head? ≠ some 61 ∧ ∀ H', SameBut p H H' → Cur H' C p t (i + w.length) → Q (otV o) H'
def jqj (K : W.Frag) (C : Addr) : Sp := fun vs H Q _ => ∃ (p : Addr) (t w : List Nat) (i : Nat) (o : Option (List Nat)), vs = [.ref p] ∧ Cur H C p t i ∧ i ≤ t.length ∧ t.length ≤ 100000 ∧ (∀ c ∈ t, c < 128) ∧ t.drop i = w ∧ MarW o w ∧ ∀ H', SameBut p H H' → Cur H' C p t t.length → Q (otV o) H'
def eqT (K : W.Frag) (C : Addr) : Sp := fun vs H Q _ => ∃ (p : Addr) (t fr s w r : List Nat) (i : Nat) (mo : Option Nat), vs = [.ref p, .str ⟨fr.toArray⟩, moV mo] ∧ Cur H C p t i ∧ i ≤ t.length ∧ t.length ≤ 100000 ∧ (∀ c ∈ t, c < 128) ∧ fr.length ≤ 100 ∧ t.drop i = w ++ r ∧ WrT fr s w ∧ s ≠ [] ∧ (Stops fr r ∨ mo = some s.length) ∧ (∀ m, mo = some m → s.length ≤ m) ∧
 ∀ H', SameBut p H H' → Cur H' C p t (i + w.length) → Q (.str ⟨s.toArray⟩) H'
def pql (K : W.Frag) : Sp := fun vs H Q _ => ∃ (x : Ad) (v : V), vs = [v] ∧ IsK K H x.data v ∧ x.Wf ∧ x.steps.length ≤ 2000 ∧ ∀ (u : V) (H' : Hp), Same H H' → IsK K H' (plainM x).data u → Q u H'
def iqc (K : W.Frag) : Sp := fun vs H Q _ => ∃ (b g : Way) (vb vg : V), vs = [vb, vg] ∧ IsK K H (wayOf b) vb ∧ IsK K H (wayOf g) vg ∧ goneV b = b ∧ goneV g = g ∧ b.2.1.length ≤ 900 ∧ g.2.1.length ≤ 900 ∧ ∀ (v : V) (H' : Hp), Same H H' → IsK K H' (wayOf (false, betw b g, g.2.2)) v → Q v H'
def kqU (K : W.Frag) : Sp := fun vs H Q _ => ∃ (b w : Way) (vb vw : V), vs = [vb, vw] ∧ IsK K H (wayOf b) vb ∧ IsK K H (wayOf w) vw ∧ (∀ s ∈ w.2.1, ∀ c ∈ s, isSg c = true) ∧ b.2.1.length ≤ 1000 ∧ w.2.1.length ≤ 1000 ∧ ∀ (v : V) (H' : Hp), Same H H' → IsK K H' (wayOf (wayFrom b w)) v → Q v H'
def hq4 (K : W.Frag) (C : Addr) : Sp := fun vs H Q _ => ∃ (p : Addr) (t w r : List Nat) (i : Nat) (o : Option (List Nat)), vs = [.ref p] ∧ Cur H C p t i ∧ i ≤ t.length ∧ t.length ≤ 100000 ∧ (∀ c ∈ t, c < 128) ∧ t.drop i = w ++ r ∧ HouW o w ∧ (o ≠ none → Stops [] r) ∧ (o = none → ¬ r.take 2 = [47, 47]) ∧ ∀ H', SameBut p H H' → Cur H' C p t (i + w.length) → Q (otV o) H'
def fqQ (K : W.Frag) (C : Addr) : Sp := fun vs H Q _ => ∃ (p : Addr) (t w rest : List Nat) (i : Nat) (qs : Option (List (List Nat × Option (List Nat)))), vs = [.ref p] ∧ Cur H C p t i ∧ i ≤ t.length ∧ t.length ≤ 100000 ∧ (∀ c ∈ t, c < 128) ∧ t.drop i = w ++ rest ∧ QueW qs w ∧ (rest = [] ∨ ∃ r, rest = 35 :: r) ∧
 ∀ (u : V) (H' : Hp), SameBut p H H' → Cur H' C p t (t.length - rest.length) → IsT H' (qD qs) u → Q u H'
def kqL (K : W.Frag) : Sp := fun vs H Q _ => ∃ (b g : Ad) (vb vg : V), vs = [vb, vg] ∧ IsK K H b.data vb ∧ IsK K H g.data vg ∧ b.Wf ∧ g.Wf ∧ b.gone = b ∧ g.gone = g ∧ b.steps.length ≤ 900 ∧ g.steps.length ≤ 900 ∧ ∀ (v : V) (H' : Hp), Same H H' → IsK K H' (relM b g).data v → Q v H'
def jqo (K : W.Frag) : Sp := fun vs H Q _ => ∃ (b x : Ad) (vb vx : V), vs = [vb, vx] ∧ IsK K H b.data vb ∧ IsK K H x.data vx ∧ x.Wf ∧ b.steps.length ≤ 1000 ∧ x.steps.length ≤ 1000 ∧ ∀ (v : V) (H' : Hp), Same H H' → IsK K H' (madeWhole b x).data v → Q v H'
def qqB (K : W.Frag) : Sp := fun vs H Q _ => ∃ (x : Ad) (t : List Nat), vs = [.str ⟨t.toArray⟩] ∧ t.length ≤ 90000 ∧ (∀ c ∈ t, c < 128) ∧ x.Wf ∧ RdW x t ∧ ∀ (u : V) (H' : Hp), Same H H' → IsT H' x.data u → Q u H'
def lqp (K : W.Frag) : Sp := fun vs H Q _ => ∃ (b g : Ad) (vb vg : V), vs = [vb, vg] ∧ IsK K H b.data vb ∧ IsK K H g.data vg ∧ b.Wf ∧ g.Wf ∧ b.scheme ≠ [] ∧ g.scheme ≠ [] ∧ b.steps.length ≤ 900 ∧ g.steps.length ≤ 900 ∧ ∀ (v : V) (H' : Hp), Same H H' → IsK K H' (relM b g).data v → Q v H'
def kqX (K : W.Frag) : Sp := fun vs H Q _ => ∃ (b x : Ad) (vb vx : V), vs = [vb, vx] ∧ IsK K H b.data vb ∧ IsK K H x.data vx ∧ b.scheme ≠ [] ∧ x.Wf ∧ b.steps.length ≤ 1000 ∧ x.steps.length ≤ 1000 ∧ ∀ (v : V) (H' : Hp), Same H H' → IsK K H' (resM b x).data v → Q v H'
def gqG (K : W.Frag) (D : Addr) : Sp := fun vs H Q _ => ∃ (p dx : Addr) (x : Ad) (t : List Nat), vs = [.ref p, tV t] ∧ H p = some (.ins D dx []) ∧ t.length ≤ 90000 ∧ (∀ c ∈ t, c < 128) ∧ x.Wf ∧ x.scheme ≠ [] ∧ x.steps.length ≤ 2000 ∧ RdW x t ∧ ∀ H', SameBut p H H' → Dsk K H' D p (plainM x) → Q .non H'
def hqN (K : W.Frag) (D : Addr) : Sp := fun vs H Q _ => ∃ (p : Addr) (b x : Ad) (t : List Nat), vs = [.ref p, tV t] ∧ Dsk K H D p b ∧ GoodAd 200 b ∧ x.Wf ∧ x.steps.length ≤ 200 ∧ t.length ≤ 90000 ∧ (∀ c ∈ t, c < 128) ∧ RdW x t ∧ ∀ (u : V) (H' : Hp), Same H H' → IsK K H' (plainM (resM b x)).data u → Q u H'
def mqZ (K : W.Frag) (D : Addr) : Sp := fun vs H Q _ => ∃ (p : Addr) (b x : Ad) (t : List Nat), vs = [.ref p, tV t] ∧ Dsk K H D p b ∧ GoodAd 100 b ∧ x.Wf ∧ x.Tiny ∧ x.steps.length ≤ 150 ∧ t.length ≤ 90000 ∧ (∀ c ∈ t, c < 128) ∧ RdW x t ∧ ∀ H' : Hp, SameBut p H H' → Dsk K H' D p (plainM (resM b x)) → Q (tV (plainM (resM b x)).shw) H'
def lqc (K : W.Frag) (D : Addr) : Sp := fun vs H Q _ => ∃ (p : Addr) (b : Ad) (row : List Nat), vs = [.ref p, tV row] ∧ Dsk K H D p b ∧ GoodAd 50 b ∧ ((row = wAt ∧ ∀ H', Same H H' → Q (tV b.shw) H') ∨ ∃ (x : Ad) (t : List Nat), (x.Wf ∧ x.Tiny ∧ x.steps.length ≤ 101) ∧ t.length ≤ 90000 ∧ (∀ c ∈ t, c < 128) ∧ RdW x t ∧ ((row = wGo ++ 32 :: t ∧ ∀ H' : Hp, SameBut p H H' → Dsk K H' D p (plainM (resM b x)) → Q (tV (plainM (resM b x)).shw) H') ∨ (row = wLink ++ 32 :: t ∧ x.steps.length ≤ 50 ∧ ∀ H' : Hp, Same H H' → Q (tV (relM b (plainM (resM b x))).shw) H')))
def lqV (K : W.Frag) : Sp := fun vs H Q _ => ∃ (a : Addr) (ns : List Int), vs = [.ref a] ∧ SqL K H a (ns.map V.int) ∧ ns.length ≤ 63 ∧ ∀ H', Q (.bl true) H'
section
variable {H : Hp} {Q : VK} {E : XK} {K : W.Frag}
theorem tqk {c : Nat} : iqs [.str ⟨[c].toArray⟩] H Q E ↔ c < 256 ∧ Q (.str ⟨[126, hexd (c / 16), hexd (c % 16)].toArray⟩) H :=
 ⟨fun ⟨_, e, h⟩ => by injection e with e; injection e with e; cases cq7.mp e; exact h, fun h => ⟨c, rfl, h⟩⟩
theorem tq2 {c : Nat} : dqU [.str ⟨[c].toArray⟩] H Q E ↔ c < 128 ∧ Q (figV c) H :=
 ⟨fun ⟨_, e, h⟩ => by injection e with e; injection e with e; cases cq7.mp e; exact h, fun h => ⟨c, rfl, h⟩⟩
theorem mq5 {l : List Nat} : iqr [.str ⟨l.toArray⟩] H Q E ↔ l.length ≤ 1000 ∧ (∀ c ∈ l, c < 128) ∧ Q (signOfL l) H :=
 ⟨fun ⟨_, e, h⟩ => by injection e with e; injection e with e; cases cq7.mp e; exact h, fun h => ⟨l, rfl, h⟩⟩
theorem nqi {l : List Nat} : dqm [.str ⟨l.toArray⟩] H Q E ↔ l.length ≤ 2000 ∧ (∀ c ∈ l, isSg c = true) ∧ ∀ H', Same H H' → Q (.str ⟨(wr l).toArray⟩) H' :=
 ⟨fun ⟨_, e, h⟩ => by injection e with e; injection e with e; cases cq7.mp e; exact h, fun h => ⟨l, rfl, h⟩⟩
end
section
variable {P : Program} {w : World} {K : W.Frag} {mg : Str → Option Value} {base : Heap}
seal PE PA PT PS PSs PG PI PF PO PW
local macro_rules | `(tactic| walk_at "rd") => `(tactic| simp only [L2.start, List.map_cons, List.map_nil, List.length_cons, List.length_nil, Nat.reduceAdd, Nat.reduceSub, Nat.zero_add, List.replicate_succ, List.replicate_zero, L2.tqx, L2.rd_C, L2.nqj, L2.sqO, L2.pqd, L2.sq8, L2.rqL, L2.sqA, L2.qqP, L2.tqi, L2.tqn, L2.rqy, L2.tqQ, L2.qqO, L2.rd_B, L2.sqW, L2.tq5, L2.tqa, L2.qq5, L2.tqO, L2.qq4, L2.tq4, L2.pqj, L2.sqm, L2.rqX, L2.sq4, L2.tqC, L2.rqF, L2.rqU, L2.qq0, L2.rqv, L2.qqX, L2.rq1, L2.rqd, L2.pq0, L2.rqI, L2.tq7, L2.tqW, L2.sqJ, L2.tq6, L2.oqt, L2.rqJ, L2.pqv, L2.rd_I, L2.tqT, L2.rqY, L2.iqR, L2.rqz, L2.nqG, L2.rq7, L2.qqT, L2.rqn, L2.rqP, L2.pqB, L2.qqC, L2.qqI, L2.pqP, L2.sqE, L2.tqc, L2.tqb, L2.sqf, L2.sqM, L2.qqW, L2.oq2, L2.qqU, L2.pqw, L2.pqO, L2.oqo, L2.pq6, L2.pq9, L2.nqf, L2.mqT, L2.fqR, L2.gqy, L2.gqI, L2.gqc, L2.fqq, L2.iqP, L2.kql, L2.kqp, L2.jqq, L2.iqb, L2.kqr, L2.lqf, L2.lqx, L2.kqx, L2.iqQ, L2.jq7, L2.lqz, L2.kq7, L2.jqL, L2.jqi, L2.iq0, L2.kqd, L2.kqa, L2.jqa, L2.iqk, L2.hq8, L2.iqV, L2.jqb, L2.iqd, L2.hqT, L2.rqQ, L2.rqG, L2.pqV, L2.rqA, L2.qq2, L2.cx_K, L2.tqz, L2.tqM, L2.sqt, L2.sqZ, L2.sq2, L2.tqu, L2.sqn, L2.tqX, L2.tql, L2.nqv, L2.tqP, L2.tq3, L2.tq9, L2.pq3, L2.pq4, L2.rq3, L2.pqb, Option.getD_some, L2.sqg, L2.uqa, L2.rd_U, L2.tqe, L2.qq7, L2.pq5, L2.sqa, L2.oqx, L2.qqy, L2.tqJ, L2.tqs, L2.qqD, L2.rq5, L2.rq8, L2.rqo, List.getElem?_cons_zero, List.getElem?_cons_succ, List.set_cons_zero, List.set_cons_succ, List.nil_append, List.cons_append, List.append_nil, Option.some.injEq, exists_eq_left, exists_eq_left', true_and, and_true, L2.V.bl.injEq, L2.V.int.injEq, L2.V.str.injEq, L2.V.ref.injEq, List.cons.injEq, reduceCtorEq, false_and, and_false, exists_false, false_or, or_false, decide_eq_true_eq, Bool.not_true, Bool.not_false, ↓reduceIte, if_true, if_false, not_true_eq_false, not_false_eq_true, decide_true, decide_false, Bool.false_eq_true, tqk, tq2, mq5, nqi, L2.pqL, L2.rqB, L2.pqS, L2.pqN, L2.tqB, sqT, L2.sqB, L2.pq2, L2.tqS, L2.qq6, L2.pqF, L2.pqH, L2.oq1, L2.tq0, L2.oqs, L2.rqE, L2.sqj, L2.oqQ, L2.sqG, L2.tqH, L2.rq6, L2.tqf, L2.qqi, L2.squ, L2.qqw, L2.sqc, L2.qq3, L2.rq4, L2.qqN, L2.oqk, L2.oqd, L2.rqu, L2.qq9, L2.sq5, L2.oq9, L2.mqI, L2.oq6, L2.mq4, L2.mqU, L2.tqg, L2.rqS, L2.oq8, L2.pqx, sq0, pqe, iqx, bqe, oqc, qqH, List.drop_succ_cons, List.drop_zero, L2.pqf, L2.tqp, L2.sql, L2.sq7, Bool.not_eq_true', decide_eq_false_iff_not])
local macro_rules | `(tactic| walk_at "c") => `(tactic| exact ⟨rfl, rfl, rfl, by decide +kernel, rfl, by decide +kernel, by decide +kernel⟩)
theorem mqx : FnScope ["text", "signs"] ["text", "signs"] (defScope jq5) := by walk_at "c"
theorem iqp : FnScope ["sign", "number"] ["sign"] (defScope kqJ) := by walk_at "c"
theorem gqz : FnScope ["figure"] ["figure"] (defScope eqk) := by walk_at "c"
theorem cqt : FnScope ["number", "place"] ["number"] (defScope eqj) := by walk_at "c"
theorem kqY : FnScope ["address"] ["address"] (defScope iqK) := by walk_at "c"
theorem fqZ : FnScope ["rooted", "texts", "ends", "ahead", "behind"] ["rooted", "texts", "ends"] (defScope kqe) := by walk_at "c"
theorem oqf : FnScope ["step"] ["step"] (defScope lq2) := by walk_at "c"
theorem pqq : FnScope ["left", "rooted"] ["left", "rooted"] (defScope nqq) := by walk_at "c"
theorem fqp : FnScope ["self", "text"] ["self", "text"] (defScope aqQ) := by walk_at "c"
theorem gqH : FnScope ["self"] ["self"] (defScope aq5) := by walk_at "c"
theorem eq0 : FnScope ["self", "sign"] ["self"] (defScope bqv) := by walk_at "c"
theorem gqx : FnScope ["self", "text"] ["self", "text"] (defScope aq3) := by walk_at "c"
theorem kqR : FnScope ["door", "cursor"] ["door", "cursor"] (defScope hqi) := by walk_at "c"
theorem lqD : FnScope ["base", "goal"] ["base", "goal"] (defScope iqI) := by walk_at "c"
theorem bq6 : FnScope ["one", "other", "count"] ["one", "other"] (defScope dql) := by walk_at "c"
theorem dqX : FnScope ["base", "address", "stays"] ["base", "address"] (defScope eqc) := by walk_at "c"
theorem dqz : FnScope ["row", "word", "count", "asked"] ["row"] (defScope iqF) := by walk_at "c"
theorem hqw : FnScope ["_law_script", "_law_k"] ["_law_script", "_law_k"] (defScope eqZ) := by walk_at "c"
theorem bq5 : FnScope ["_law_cell", "_law_some", "_law_found", "_law_k"] ["_law_cell"] (defScope gqh) := by walk_at "c"
theorem dqt : FnScope ["_law_cell", "_law_signs_here", "_law_many", "_law_found", "_law_k"] ["_law_cell", "_law_signs_here", "_law_many"] (defScope iqG) := by walk_at "c"
theorem bqO : FnScope ["_law_cell", "_law_many", "_law_some", "_law_number", "_law_found", "_law_k"] ["_law_cell", "_law_many"] (defScope iqH) := by walk_at "c"
theorem mqF : FnScope ["thing"] ["thing"] (defScope kqh) := by walk_at "c"
theorem fq4 : FnScope ["figures", "high", "low"] ["figures"] (defScope kqw) := by walk_at "c"
theorem mqA : FnScope ["text"] ["text"] (defScope kqS) := by walk_at "c"
theorem dqQ : FnScope ["steps", "rooted", "left", "step"] ["steps", "rooted"] (defScope gqi) := by walk_at "c"
theorem iqj : FnScope ["self", "signs"] ["self", "signs"] (defScope bqA) := by walk_at "c"
theorem iq9 : FnScope ["_law_script", "_law_start", "_law_many"] ["_law_script", "_law_start", "_law_many"] (defScope gqf) := by walk_at "c"
theorem gqO : FnScope ["_law_cell", "_law_signs_here"] ["_law_cell", "_law_signs_here"] (defScope eqr) := by walk_at "c"
theorem bqJ : FnScope ["_law_cell", "_law_found", "_law_k", "_law_more"] ["_law_cell"] (defScope eqt) := by walk_at "c"
theorem kqz : FnScope ["thing"] ["thing"] (defScope gq5) := by walk_at "c"
theorem eq7 : FnScope ["house", "door", "behind"] ["house", "door"] (defScope fql) := by walk_at "c"
theorem kqE : FnScope ["way"] ["way"] (defScope hqL) := by walk_at "c"
theorem hq9 : FnScope ["name", "value"] ["name", "value"] (defScope fqB) := by walk_at "c"
theorem iq2 : FnScope ["mark"] ["mark"] (defScope gqr) := by walk_at "c"
theorem lqv : FnScope ["way", "steps", "left"] ["way"] (defScope qqs) := by walk_at "c"
theorem dqN : FnScope ["cursor", "door"] ["cursor"] (defScope gqg) := by walk_at "c"
theorem dqJ : FnScope ["cursor", "figures", "sign"] ["cursor"] (defScope gqt) := by walk_at "c"
theorem aqv : FnScope ["_law_cells_here", "_law_signs_here", "_law_whole", "_law_head", "_law_scheme", "_law_house", "_law_door", "_law_rooted", "_law_steps", "_law_ends", "_law_mark"] ["_law_cells_here", "_law_signs_here", "_law_whole"] (defScope eq6) := by walk_at "c"
theorem fq8 : FnScope ["question"] ["question"] (defScope dq2) := by walk_at "c"
theorem gqD : FnScope ["address"] ["address"] (defScope dq6) := by walk_at "c"
theorem kqG : FnScope ["way", "way_gone"] ["way"] (defScope lqR) := by walk_at "c"
theorem dq8 : FnScope ["cursor", "scheme"] ["cursor"] (defScope eqX) := by walk_at "c"
theorem dqD : FnScope ["cursor", "free", "most", "signs", "allowed"] ["cursor", "free", "most"] (defScope cq6) := by walk_at "c"
theorem nqr : FnScope ["address", "scheme"] ["address"] (defScope qqm) := by walk_at "c"
theorem bqr : FnScope ["cursor", "must_be_rooted", "rooted", "steps", "ends", "step"] ["cursor", "must_be_rooted"] (defScope hqJ) := by walk_at "c"
theorem iqi : FnScope ["cursor"] ["cursor"] (defScope fqw) := by walk_at "c"
theorem iq4 : FnScope ["cursor"] ["cursor"] (defScope gqe) := by walk_at "c"
theorem cqA : FnScope ["cursor", "free", "most", "text"] ["cursor", "free", "most"] (defScope bqb) := by walk_at "c"
theorem iq1 : FnScope ["address", "house", "small_house"] ["address"] (defScope nqE) := by walk_at "c"
theorem bqg : FnScope ["base_way", "goal_way", "here", "there", "shared", "last", "steps"] ["base_way", "goal_way"] (defScope fqO) := by walk_at "c"
theorem lqb : FnScope ["base_way", "way"] ["base_way", "way"] (defScope iqu) := by walk_at "c"
theorem iqg : FnScope ["cursor"] ["cursor"] (defScope fqK) := by walk_at "c"
theorem bqB : FnScope ["cursor", "name", "pairs"] ["cursor"] (defScope dq0) := by walk_at "c"
theorem gqj : FnScope ["base", "goal", "question"] ["base", "goal"] (defScope hqU) := by walk_at "c"
theorem fqt : FnScope ["base", "address", "way"] ["base", "address"] (defScope gqw) := by walk_at "c"
theorem eqg : FnScope ["text", "cursor", "scheme", "house", "door", "way", "question", "mark"] ["text"] (defScope qqd) := by walk_at "c"
theorem lqn : FnScope ["base", "goal"] ["base", "goal"] (defScope iqO) := by walk_at "c"
theorem kq1 : FnScope ["base", "address"] ["base", "address"] (defScope iqA) := by walk_at "c"
theorem dqV : FnScope ["self", "text", "address"] ["self", "text"] (defScope aq2) := by walk_at "c"
theorem gq8 : FnScope ["self", "text"] ["self", "text"] (defScope bqh) := by walk_at "c"
theorem mqz : FnScope ["self", "text"] ["self", "text"] (defScope dqn) := by walk_at "c"
theorem gq7 : FnScope ["self", "row", "asked"] ["self", "row"] (defScope cqH) := by walk_at "c"
theorem eq4 : FnScope ["_law_script", "_law_signs_here", "_law_base", "_law_desk", "_law_here", "_law_k", "_law_goal", "_law_due", "_law_link"] ["_law_script"] (defScope sqk) := by walk_at "c"
theorem fq5 (g : G w K mg) : g.eqe.Ok P w base 1 mql := by
 refine g.eqe.F.ok mqx (fun vs H Q E h => ?_) (fun cdv A outer s H vs Q E hr h => ?_)
 ·obtain ⟨x, y, rfl, _⟩ := h; rfl
 ·obtain ⟨x, y, rfl, hx, k⟩ := h
  refine ⟨_, (aqd (aqh (aqD (oqh (K := K) rfl rfl) rfl g.sqw PyProof.Rows.boot_all (aqa (hqC (fx := ["signs"]) (fr := [1]) rfl rfl (by decide +kernel) rfl (by decide +kernel) rfl (by decide +kernel) rfl (.cons rfl rfl rfl rfl .nil) rfl (qqg (pv 0)) (fun _ _ _ => iqB) (fun _ _ _ => (bqj jq4 (pv 0) (pv 1) (by with_unfolding_all rfl)))) aqb)))), ?_⟩
  walk_at "rd"
  intro p hp
  refine lq6 (z := x) (aqq hx) hp (fun c => .bl (decide (c ∈ y.cps.toList))) (fun c hc H' R hR => ?_) (fun H' sm hp' => ?_)
  ·walk_at "rd"
   exact hR H' (Same.refl _)
  ·refine oqx.mpr ⟨x.cps.toList.map fun c => decide (c ∈ y.cps.toList), SqL.of (by rw [hp', List.map_map]; rfl), ?_⟩
   rw [List.all_map]
   exact k H' sm
theorem mqK (g : G w K mg) : g.hqM.Ok P w base 1 iqs := by
 refine g.hqM.F.ok iqp (fun vs H Q E h => ?_) (fun cdv A outer s H vs Q E hr h => ?_)
 ·obtain ⟨c, rfl, _⟩ := h; rfl
 ·obtain ⟨c, rfl, hc, k⟩ := h
  refine ⟨_, (aqc (aqj (i := 1) iqp.nd rfl (Or.inl rfl) (aqD nqN rfl g.sqi oqZ (aqa (pv 0) aqb)))
   (aqd (aqh (aqm (aqF (K := K) rfl) (aqm (aqF (K := K) rfl) aqn (aqt (aqf (K := K) rfl) (aqe (v := bqT) rfl g.bqm ⟨_, rfl⟩) (aqm aqT (pv 1) aqg) (fun _ _ => rfl))) (aqt (aqf (K := K) rfl) (aqe (v := bqT) rfl g.bqm ⟨_, rfl⟩) (aqm aqW (pv 1) aqg) (fun _ _ => rfl)))))), ?_⟩
  walk_at "rd"
  exact ⟨⟨by decide, by decide⟩, hexd (c / 16), kqO, tqr (by lia) (by lia), by decide, by decide, hexd (c % 16), kqO, tqr (by lia) (by lia), by decide, k⟩
theorem dq3 (g : G w K mg) : g.bq2.Ok P w base 1 dqU := by
 refine g.bq2.F.ok gqz (fun vs H Q E h => ?_) (fun cdv A outer s H vs Q E hr h => ?_)
 ·obtain ⟨c, rfl, _⟩ := h; rfl
 ·obtain ⟨a, rfl, ha, k⟩ := h
  refine ⟨_, (aqc (aqK (aqi jq4 (pv 0) (aqe (v := bqT) rfl g.bqm ⟨_, rfl⟩) (by with_unfolding_all rfl))
    (aqd (aqh (cqo (K := K) rfl PySem.F.plainAttrs_str PySem.F.slot_str_index PySem.F.type_str_index lq1 (aqe (v := bqT) rfl g.bqm ⟨_, rfl⟩) (aqa (pv 0) aqb)))) aqp)
   (aqc (aqK (aqi jq4 (pv 0) (aqe (v := eqf) rfl g.cqX ⟨_, rfl⟩) (by with_unfolding_all rfl))
    (aqd (aqh (cqo (K := K) rfl PySem.F.plainAttrs_str PySem.F.slot_str_index PySem.F.type_str_index lq1 (aqe (v := eqf) rfl g.cqX ⟨_, rfl⟩) (aqa (pv 0) aqb)))) aqp)
   (aqd (aqh aqB)))), ?_⟩
  walk_at "rd"
  refine ite2 (fun h => ?_) (fun h => ?_)
  ·obtain ⟨e1, e2⟩ := pqi a ha h
   obtain ⟨n, hn⟩ := Option.isSome_iff_exists.mp e2
   rw [hn] at e1
   rw [eqa hn] at k
   exact ⟨n, [], e1, k⟩
  ·refine ite2 (fun h2 => ?_) (fun h2 => ?_)
   ·obtain ⟨e1, e2⟩ := pqy a ha h h2
    obtain ⟨n, hn⟩ := Option.isSome_iff_exists.mp e2
    rw [hn] at e1
    rw [eqa hn] at k
    exact ⟨n, [], e1, k⟩
   ·rw [hqW (tqZ a ha h h2)] at k
    exact k
theorem gqP (g : G w K mg) : g.cqP.Ok P w base 1 gqL := by
 refine g.cqP.F.ok cqt (fun vs H Q E h => ?_) (fun cdv A outer s H vs Q E hr h => ?_)
 ·obtain ⟨c, rfl, _⟩ := h; rfl
 ·obtain ⟨n, rfl, k⟩ := h
  refine ⟨_, (aqc (aqK (PW.pt (eqW (aqi pqT (pv 0) (aqe (v := eqY) rfl g.dqd ⟨_, rfl⟩) (nomark _)) (eqW (aqi jqE (pv 0) (aqe (v := iqX) rfl g.fqv ⟨_, rfl⟩) (nomark _)) (cq4 (aqi cq2 (pv 0) (aqe (v := dqr) rfl g.cqb ⟨_, rfl⟩) (nomark _))))))
    (aqd (aqh aqB)) aqp)
   (aqc (aqj (i := 1) cqt.nd rfl (Or.inl rfl) (aqm oqg (pv 0) (aqe (v := eqY) rfl g.dqd ⟨_, rfl⟩)))
   (aqc (aqK (aqi jqE (pv 0) (aqe (v := dqr) rfl g.cqb ⟨_, rfl⟩) (nomark _))
    (aqd (aqj (i := 1) cqt.nd rfl (Or.inl rfl) (aqm oqg (pv 1) aqg))) aqp)
   (aqd (aqh (aqt (aqf (K := K) rfl) (aqe (v := oqb) rfl g.lqq ⟨_, rfl⟩) (pv 1) (fun _ _ => rfl))))))), ?_⟩
  walk_at "rd"
  refine ite2 (fun h => ?_) (fun h => ?_)
  ·rw [nqb (fun q => by have := dqb q; lia)] at k
   exact k
  ·refine ite2 (fun h1 => ?_) (fun h1 => ?_)
   ·rw [nqb (fun q => by have := dqb q; lia)] at k
    exact k
   ·refine ite2 (fun h2 => ?_) (fun h2 => ?_)
    ·rw [nqb (fun q => by have := dqb q; lia)] at k
     exact k
    ·have hs : isSg n = true := rqm (by lia) (by lia) (by lia)
     rw [qqK hs] at k
     have hat := pqW n (by lia) hs
     refine ite2 (fun h3 => ?_) (fun h3 => ?_)
     ·rw [if_pos (show 37 < n by lia)] at hat
      refine ⟨n, kqA, ?_, k⟩
      rw [show (n : Int) - 32 - 1 = ((n - 32 - 1 : Nat) : Int) by lia]
      exact aqC hat
     ·rw [if_neg (show ¬ 37 < n by lia)] at hat
      refine ⟨n, kqA, ?_, k⟩
      rw [show (n : Int) - 32 = ((n - 32 - 0 : Nat) : Int) by lia]
      exact aqC hat
theorem cqd (g : G w K mg) : g.bqQ.Ok P w base 1 (lqa K) := by
 refine g.bqQ.F.ok kqY (fun vs H Q E h => ?_) (fun cdv A outer s H vs Q E hr h => ?_)
 ·obtain ⟨p, l, r, rfl, _⟩ := h; rfl
 ·obtain ⟨p, l, r, rfl, hp, k⟩ := h
  refine ⟨_, (aqd (aqh (bqj eqS (aqt (aqf (K := K) rfl) (pv 0) (aqe (v := eqR) rfl g.dqL ⟨_, rfl⟩) (fun _ _ => rfl)) aqn (nomark _)))), ?_⟩
  walk_at "rd"
  refine ⟨_, _, .inr hp, jqp, ?_⟩
  walk_at "rd"
  rw [show decide ((⟨l.toArray⟩ : Str) = ⟨([] : List Nat).toArray⟩) = decide (l = []) from decide_eq_decide.mpr cq7]
  exact k
theorem mqP (g : G w K mg) : g.hqf.Ok P w base 1 (mqL K) := by
 refine g.hqf.F.ok fqZ (fun vs H Q E h => ?_) (fun cdv A outer s H vs Q E hr h => ?_)
 ·obtain ⟨r, e, p, ts, rfl, _⟩ := h; rfl
 ·obtain ⟨r, e, p, ts, rfl, hp, hl, k⟩ := h
  refine ⟨_, (aqE (aqj (i := 3) fqZ.nd rfl (Or.inl rfl) (aqJ (aqH (pv 0)) aqn aqn))
   (aqE (aqj (i := 4) fqZ.nd rfl (Or.inl rfl) (aqJ (PW.pt (eq5 (aqH (pv 2)) (dqy (aqi jqE (aqD (aqI (K := K) rfl) rfl g.dqS PySem.boot_len (aqa (pv 1) aqb)) aqg (nomark _))))) aqn aqn))
   (aqd (aqh (aqm (aqF (K := K) rfl) (aqm (aqF (K := K) rfl) (pv 3) (cqo (K := K) rfl PySem.F.plainAttrs_str PySem.F.slot_str_join PySem.F.type_str_join (gqR (K := K) rfl) aqn (aqa (pv 1) aqb))) (pv 4)))))), ?_⟩
  have c1 : Str.ofString "/" = ⟨[47].toArray⟩ := by decide +kernel
  rw [c1]
  walk_at "rd"
  refine ⟨fun σ H' => H' = H ∧ σ = [some (.bl r), some (.ref p), some (.bl e), some (.str ⟨(if r then [47] else [] : List Nat).toArray⟩), none], ?_, ?_⟩
  ·cases r with
   | true => exact ite2 (fun _ => ⟨rfl, rfl⟩) (fun z => absurd rfl z)
   | false => exact ite2 (fun z => by cases z) (fun _ => ⟨rfl, rfl⟩)
  rintro σ H' ⟨rfl, rfl⟩
  walk_at "rd"
  refine ⟨fun σ H'' => H'' = H' ∧ σ = [some (.bl r), some (.ref p), some (.bl e), some (.str ⟨(if r then [47] else [] : List Nat).toArray⟩), some (.str ⟨(if e && !ts.isEmpty then [47] else [] : List Nat).toArray⟩)], ?_, ?_⟩
  ·cases e with
   | false => exact ite2 (fun z => by cases z) (fun _ => ⟨rfl, rfl⟩)
   | true =>
    refine ite2 (fun _ => ⟨_, .inl hp, ?_⟩) (fun z => absurd rfl z)
    rw [List.length_map]
    cases ts with
    | nil => exact ite2 (fun z => absurd z (by decide)) (fun _ => ⟨rfl, rfl⟩)
    | cons t ts => exact ite2 (fun _ => ⟨rfl, rfl⟩) (fun z => absurd (by simp) z)
  rintro σ H'' ⟨rfl, rfl⟩
  walk_at "rd"
  have hj := lqX (sep := 47) ts
  have h1 : (if r = true then [47] else ([] : List Nat)).length ≤ 1 := by split <;> simp
  have h2 : (if (e && !ts.isEmpty) = true then [47] else ([] : List Nat)).length ≤ 1 := by split <;> simp
  refine ⟨ts.map fun l => ⟨l.toArray⟩, by rw [List.map_map]; exact hp, ?_, ?_⟩
  ·rw [mq7, List.length_map]
   have : (ts.map List.length).sum + ts.length ≤ (joinT 47 ts).length + 1 := hj
   lia
  rw [show (⟨#[47]⟩ : Str) = ⟨[47].toArray⟩ from rfl, lqQ]
  walk_at "rd"
  refine ⟨aqq (by lia), aqq (by rw [List.length_append]; lia), ?_⟩
  rw [List.append_assoc]
  exact k
theorem kup : k_UP = sV sUp := congrArg V.str (show Str.ofString ".." = ⟨sUp.toArray⟩ by decide +kernel)
theorem kst : jqU = sV sStay := congrArg V.str (show Str.ofString "." = ⟨sStay.toArray⟩ by decide +kernel)
theorem nqp (g : G w K mg) : g.iqS.Ok P w base 1 nqw := by
 refine g.iqS.F.ok oqf (fun vs H Q E h => ?_) (fun cdv A outer s H vs Q E hr h => ?_)
 ·obtain ⟨s, rfl, _⟩ := h; rfl
 ·obtain ⟨s, rfl, k⟩ := h
  refine ⟨_, (aqd (aqh (mqo (bqj cq2 (pv 0) (aqe (v := jqU) rfl g.kqF ⟨_, rfl⟩) (nomark _)) (eq2 (bqj cq2 (pv 0) (aqe (v := k_UP) rfl g.c_UP ⟨_, rfl⟩) (nomark _)))))), ?_⟩
  have d1 : Str.ofString ".." = ⟨sUp.toArray⟩ := by decide +kernel
  have d2 : Str.ofString "." = ⟨sStay.toArray⟩ := by decide +kernel
  walk_at "rd"
  rw [d1, d2]
  simp only [cq7]
  by_cases h2 : s = sStay
  ·rw [if_pos h2]
   rw [show isDot s = true by simp [isDot, h2]] at k
   exact k
  ·rw [if_neg h2]
   rw [show isDot s = decide (s = sUp) by simp [isDot, h2]] at k
   exact k
theorem oqY (g : G w K mg) : g.lqy.Ok P w base 1 (oqV K) := by
 refine g.lqy.F.ok pqq (fun vs H Q E h => ?_) (fun cdv A outer s H vs Q E hr h => ?_)
 ·obtain ⟨p, L, r, rfl, _⟩ := h; rfl
 ·obtain ⟨p, L, r, rfl, hp, hl, k⟩ := h
  refine ⟨_, (aqd (aqK (PW.pt (eq5 (aqi jqE (aqD (aqI (K := K) rfl) rfl g.dqS PySem.boot_len (aqa (pv 0) aqb)) aqg (nomark _)) (dqy (aqi eqS (aqt (aqf (K := K) rfl) (pv 0) (pqm lqH aqg) (fun _ _ => rfl)) (aqe (v := k_UP) rfl g.c_UP ⟨_, rfl⟩) (nomark _)))))
    (aqd (dqa (lqB (K := K) rfl PySem.F.plainAttrs_list PySem.F.slot_list_pop PySem.F.type_list_pop tqw (pv 0)))) (aqd (aqK (bqY (aqH (pv 1)))
    (aqd (dqa (cqo (K := K) rfl PySem.F.plainAttrs_list PySem.F.slot_list_append PySem.F.type_list_append cqn (pv 0) (aqa (aqe (v := k_UP) rfl g.c_UP ⟨_, rfl⟩) aqb)))) aqp)))), ?_⟩
  walk_at "rd"
  simp only [kup]
  have hS : SqL K H p (L.map sV) ∨ SqT K H p (L.map sV) := .inl (.of hp)
  have put : (if r then L else L ++ [sUp]) = goUp r L → (if r = false then (∃ xs, SqL K H p xs) ∧ ∃ xs, H p = some (.lst xs) ∧ xs.length < sizeLine ∧ Q .non (upd H p (.lst (xs ++ [sV sUp]))) else Q .non H) := fun e => by
   cases r with
   | true =>
    rw [if_neg (by decide)]
    rw [← e, if_pos rfl, sqK hp] at k
    exact k
   | false =>
    rw [if_pos rfl]
    refine ⟨⟨_, .of hp⟩, _, hp, aqq (by rw [List.length_map]; lia), ?_⟩
    rw [← e, if_neg (by decide), List.map_append] at k
    exact k
  refine ⟨_, hS, ?_⟩
  rw [List.length_map]
  cases hg : L.getLast? with
  | none =>
   have hL := List.getLast?_eq_none_iff.mp hg
   subst hL
   refine ite2 (fun z => absurd z (by decide)) (fun _ => put ?_)
   simp [goUp]
  | some s =>
   have hn : L ≠ [] := fun z => by rw [z] at hg; cases hg
   have hl0 := List.length_pos_iff.mpr hn
   refine ite2 (fun _ => ?_) (fun z => absurd (by lia) z)
   refine ⟨_, _, hS, lqO _ hg, ?_⟩
   walk_at "rd"
   by_cases hs : s = sUp
   ·subst hs
    refine ite2 (fun z => absurd (rfl : (⟨sUp.toArray⟩ : Str) = ⟨sUp.toArray⟩) z) (fun _ => put ?_)
    simp only [goUp, hg, if_true]
   ·refine ite2 (fun _ => ?_) (fun z => absurd (fun e => hs (cq7.mp e)) z)
    refine ⟨⟨_, .of hp⟩, _, sV s, hp, ?_, ?_⟩
    ·rw [List.length_map, List.getElem?_map, ← List.getLast?_eq_getElem?, hg]; rfl
    ·rw [show goUp r L = L.dropLast by simp only [goUp, hg, if_neg hs], List.map_dropLast] at k
     exact k
theorem fqD (g : G w K mg) : FnOk P w K mg base CX0 1 g.bqz g.bqk ["self", "text"] (fqi K g.aqo) := by
 refine g.dqs.ok fqp (fun vs H Q E h => ?_) (fun cdv A outer s H vs Q E hr h => ?_)
 ·obtain ⟨p, dx, t, rfl, _⟩ := h; rfl
 ·obtain ⟨p, dx, t, rfl, hp, k⟩ := h
  refine ⟨_, (aqc (gq9 (pv 0) (pv 1) rfl)
   (aqd (gq9 (pv 0) aqg rfl))), ?_⟩
  walk_at "rd"
  refine ⟨p, _, dx, _, rfl, hp, g.aql, g.aqP, by show 0 < 1000; decide, ?_⟩
  refine ⟨p, _, dx, _, rfl, aqk, g.aql, g.aqw, by show 1 < 1000; decide, ?_⟩
  have h : Str.ofString "text" ≠ Str.ofString "place" := by decide +kernel
  rw [qqG]
  refine k _ aqM ⟨dx, ?_⟩
  rw [aqk]
  simp only [putF, if_neg h]
  rfl
theorem dqZ (g : G w K mg) : FnOk P w K mg base CX0 1 g.bqZ g.bqL ["self"] (gqJ K g.aqo) := by
 refine g.eqm.ok gqH (fun vs H Q E h => ?_) (fun cdv A outer s H vs Q E hr h => ?_)
 ·obtain ⟨p, t, i, rfl, _⟩ := h; rfl
 ·obtain ⟨p, t, i, rfl, ⟨dx, hp⟩, hl, k⟩ := h
  refine ⟨_, (aqd (aqh (bqj cq2 (bqR (pv 0) rfl) (aqD (aqI (K := K) rfl) rfl g.dqS PySem.boot_len (aqa (bqR (pv 0) rfl) aqb)) (nomark _)))), ?_⟩
  have hcur : Cur H g.aqo p t i := ⟨dx, hp⟩
  walk_at "rd"
  refine bqS hcur g.aql g.aqw (dqu hcur g.aql g.aqP ?_)
  walk_at "rd"
  refine ⟨aqq hl, ?_⟩
  rw [show decide ((i : Int) = (t.length : Int)) = decide (i = t.length) from decide_eq_decide.mpr (by lia)]
  exact k
theorem bqE (g : G w K mg) : FnOk P w K mg base CX0 1 g.cqB g.cqi ["self"] (iqe K g.aqo) := by
 refine g.fqo.ok eq0 (fun vs H Q E h => ?_) (fun cdv A outer s H vs Q E hr h => ?_)
 ·obtain ⟨p, t, i, c, rfl, _⟩ := h; rfl
 ·obtain ⟨p, t, i, c, rfl, ⟨dx, hp⟩, hc, hl, k⟩ := h
  refine ⟨_, (aqc (aqj (i := 1) eq0.nd rfl (Or.inl rfl) (aqt (aqf (K := K) rfl) (bqR (pv 0) rfl) (bqR (pv 0) rfl) (fun _ _ => rfl)))
   (aqc (gq9 (pv 0) (aqm (aqF (K := K) rfl) (bqR (pv 0) rfl) aqg) rfl)
   (aqd (aqh (pv 1))))), ?_⟩
  have hcur : Cur H g.aqo p t i := ⟨dx, hp⟩
  walk_at "rd"
  refine dqu hcur g.aql g.aqP (bqS hcur g.aql g.aqw ?_)
  walk_at "rd"
  refine ⟨c, aqq hl, aqC hc, ?_⟩
  refine bqS hcur g.aql g.aqw ?_
  walk_at "rd"
  exact kqb hcur g.aql g.aqw (i + 1) (by lia) fun H' sb h => k H' sb h
theorem bq9 {K : W.Frag} {C p : Addr} {H : Hp} {Q : VK} {E : XK} {t w r : List Nat} {i : Nat} (h : Cur H C p t i) (hi : i ≤ t.length) (hl : t.length ≤ 100000) (hd : t.drop i = w ++ r) (k : ∀ H', SameBut p H H' → Cur H' C p t (i + w.length) → i + w.length ≤ t.length → t.drop (i + w.length) = r → Q (.bl true) H') : bqH K C [.ref p, .str ⟨w.toArray⟩] H Q E :=
 ⟨p, t, w, i, rfl, h, hi, hl, fun _ H' s c => k H' s c (by have := congrArg List.length hd; rw [List.length_drop, List.length_append] at this; lia) (by rw [← List.drop_drop, hd, List.drop_left]), fun z => absurd (by rw [hd, List.take_left]) z⟩
theorem lqi {K : W.Frag} {C p : Addr} {H : Hp} {Q : VK} {E : XK} {t w : List Nat} {i : Nat} (h : Cur H C p t i) (hi : i ≤ t.length) (hl : t.length ≤ 100000) (hn : ¬ (t.drop i).take w.length = w) (k : Q (.bl false) H) : bqH K C [.ref p, .str ⟨w.toArray⟩] H Q E :=
 ⟨p, t, w, i, rfl, h, hi, hl, fun z => absurd z hn, fun _ => k⟩
theorem dqx {K : W.Frag} {C p : Addr} {H : Hp} {Q : VK} {E : XK} {t r : List Nat} {i c : Nat} (h : Cur H C p t i) (hi : i ≤ t.length) (hl : t.length ≤ 100000) (hd : t.drop i = r) (hn : r.head? ≠ some c) (k : Q (.bl false) H) : bqH K C [.ref p, .str ⟨[c].toArray⟩] H Q E :=
 lqi h hi hl (fun z => hn (by rw [hd] at z; cases r with | nil => cases z | cons d r => rw [(List.cons.inj z).1]; rfl)) k
theorem aqz (g : G w K mg) : FnOk P w K mg base CX0 1 g.bqX g.bqM ["self", "text"] (bqH K g.aqo) := by
 refine g.eqF.ok gqx (fun vs H Q E h => ?_) (fun cdv A outer s H vs Q E hr h => ?_)
 ·obtain ⟨p, t, w, i, rfl, _⟩ := h; rfl
 ·obtain ⟨p, t, w, i, rfl, ⟨dx, hp⟩, hi, hl, k1, k2⟩ := h
  refine ⟨_, (aqc (aqK (bqY (aqH (cqo (K := K) rfl PySem.F.plainAttrs_str PySem.F.slot_str_startswith PySem.F.type_str_startswith mqq (bqR (pv 0) rfl) (aqa (pv 1) (aqa (bqR (pv 0) rfl) aqb)))))
    (aqd (aqh dq4)) aqp)
   (aqc (gq9 (pv 0) (aqm (aqF (K := K) rfl) (bqR (pv 0) rfl) (aqD (aqI (K := K) rfl) rfl g.dqS PySem.boot_len (aqa (pv 1) aqb))) rfl)
   (aqd (aqh dq4)))), ?_⟩
  have hcur : Cur H g.aqo p t i := ⟨dx, hp⟩
  walk_at "rd"
  refine dqu hcur g.aql g.aqP ⟨rfl, bqS hcur g.aql g.aqw ?_⟩
  walk_at "rd"
  have e := nqh t w i hi
  rw [bqe, bqe] at e
  rw [e]
  by_cases h : (t.drop i).take w.length = w
  ·rw [decide_eq_true h, if_neg (by decide)]
   refine bqS hcur g.aql g.aqw ?_
   walk_at "rd"
   exact ⟨aqq (by have := congrArg List.length h; rw [List.length_take, List.length_drop] at this; lia), kqb hcur g.aql g.aqw (i + w.length) (by lia) fun H' sb h' => k1 h H' sb h'⟩
  ·rw [decide_eq_false h, if_pos rfl]
   exact k2 h
theorem gqv (g : G w K mg) : g.dqA.Ok P w base 1 (jq9 K g.aqo) := by
 refine g.dqA.F.ok kqR (fun vs H Q E h => ?_) (fun cdv A outer s H vs Q E hr h => ?_)
 ·obtain ⟨p, t, i, c, n, rfl, _⟩ := h; rfl
 ·obtain ⟨p, t, i, c, n, rfl, hcur, hl, hc, h48, h57, hn, k⟩ := h
  refine ⟨_, (aqd (aqh (aqm (aqF (K := K) rfl) (aqm eqh (pv 0) aqg) (bq3 kqM rfl g.oq5 oqm (aqa (aqt (aqf (K := K) rfl) (bqR (pv 1) rfl) (bqR (pv 1) rfl) (fun _ _ => rfl)) aqb))))), ?_⟩
  walk_at "rd"
  refine ⟨.inl ⟨by lia, by lia⟩, dqu hcur g.aql g.aqP (bqS hcur g.aql g.aqw ?_)⟩
  walk_at "rd"
  refine ⟨c, aqq hl, aqC hc, _, by show 1 ≤ 640; decide, oqE c (by lia) h48, ?_⟩
  rw [show (n : Int) * 10 + ((c - 48 : Nat) : Int) = ((n * 10 + (c - 48) : Nat) : Int) by lia]
  exact k
theorem lqu (g : G w K mg) : g.gqa.Ok P w base 1 (lqk K) := by
 refine g.gqa.F.ok lqD (fun vs H Q E h => ?_) (fun cdv A outer s H vs Q E hr h => ?_)
 ·obtain ⟨b, g, vb, vg, rfl, _⟩ := h; rfl
 ·obtain ⟨b, g', vb, vg, rfl, hB, hG, wb, wg, k⟩ := h
  refine ⟨_, (aqd (aqh (kqB (bqj (jqN (K := K) rfl hr.units) (aqt (aqf (K := K) rfl) (pv 0) (aqe (v := hqR) rfl g.gqN ⟨_, rfl⟩) (fun _ _ => rfl)) (aqt (aqf (K := K) rfl) (pv 1) (aqe (v := hqR) rfl g.gqN ⟨_, rfl⟩) (fun _ _ => rfl)) (nomark _)) (eq2 (mqo (bqj fqP (aqt (aqf (K := K) rfl) (pv 1) (aqe (v := aq0) rfl g.aqV ⟨_, rfl⟩) (fun _ _ => rfl)) aqB (nomark _)) (eq2 (bqj bq4 (aqt (aqf (K := K) rfl) (pv 0) (aqe (v := aq0) rfl g.aqV ⟨_, rfl⟩) (fun _ _ => rfl)) aqB (nomark _)))))))), ?_⟩
  obtain ⟨pb, ub, qb, rfl, hpb, hwb, hqb⟩ := cqa hB
  obtain ⟨pg, ug, qg, rfl, hpg, hwg, hqg⟩ := cqa hG
  walk_at "rd"
  refine ⟨_, _, .inr hpb, rfl, _, _, .inr hpg, rfl, ?_⟩
  refine ⟨wayOf b.w, wayOf g'.w, hwb, hwg, eqQ wb.sg, eqQ wg.sg, _, rfl, ?_⟩
  rw [iqT]
  by_cases e : b.w = g'.w
  ·rw [if_pos (decide_eq_true e)]
   refine ⟨_, _, .inr hpg, rfl, ?_⟩
   cases hg : g'.quest with
   | some ps =>
    rw [hg] at hqg
    obtain ⟨p', xs, rfl, _⟩ := eqD hqg
    refine ite2 (fun _ => ?_) (fun z => absurd (Classical.not_not.mp z) (by simp))
    rw [decide_eq_true (show b.w = g'.w ∧ (g'.quest ≠ none ∨ b.quest = none) from ⟨e, .inl (by simp [hg])⟩)] at k
    exact k
   | none =>
    rw [hg] at hqg
    cases hqg
    refine ite2 (fun z => absurd rfl z) (fun _ => ⟨_, _, .inr hpb, rfl, ?_⟩)
    cases hq : b.quest with
    | none =>
     rw [hq] at hqb
     cases hqb
     rw [decide_eq_true (show b.w = g'.w ∧ (g'.quest ≠ none ∨ b.quest = none) from ⟨e, .inr hq⟩)] at k
     exact k
    | some ps =>
     rw [hq] at hqb
     obtain ⟨p', xs, rfl, _⟩ := eqD hqb
     rw [decide_eq_false (show ¬ (b.w = g'.w ∧ (g'.quest ≠ none ∨ b.quest = none)) from fun z => by
      rcases z.2 with z | z
      ·exact z hg
      ·rw [hq] at z; cases z)] at k
     exact k
  ·rw [if_neg (by simpa using e)]
   rw [decide_eq_false (fun z => e z.1)] at k
   exact k
theorem fqx (g : G w K mg) : g.cqc.Ok P w base 1 (fqC K) := by
 refine g.cqc.F.ok bq6 (fun vs H Q E h => ?_) (fun cdv A outer s H vs Q E hr h => ?_)
 ·obtain ⟨p, q, h1, t1, rfl, _⟩ := h; rfl
 ·obtain ⟨p, q, h1, t1, rfl, hp, hq, k⟩ := h
  refine ⟨_, (aqc (aqj (i := 2) bq6.nd rfl (Or.inl rfl) aqg)
   (aqc (fqn PassesOwn.never (PW.pt (eq5 (aqi pqT (pv 2) (aqD (oqq rfl) rfl g.sqq PyProof.Rows.boot_min (aqa (aqD (aqI (K := K) rfl) rfl g.dqS PySem.boot_len (aqa (pv 0) aqb)) (aqa (aqD (aqI (K := K) rfl) rfl g.dqS PySem.boot_len (aqa (pv 1) aqb)) aqb))) (nomark _)) (dqy (aqi cq2 (aqt (aqf (K := K) rfl) (pv 0) (pv 2) (fun _ _ => rfl)) (aqt (aqf (K := K) rfl) (pv 1) (pv 2) (fun _ _ => rfl)) (nomark _)))))
   (aqd (aqj (i := 2) bq6.nd rfl (Or.inl rfl) (aqm (aqF (K := K) rfl) (pv 2) aqg))))
   (aqd (aqh (pv 2))))), ?_⟩
  walk_at "rd"
  refine hqB (fun m σ H' => ∃ i : Nat, H' = H ∧ m = h1.length - i ∧ σ = [some (.ref p), some (.ref q), some (.int (i : Int))] ∧ i ≤ comm h1 t1) h1.length ⟨0, rfl, rfl, rfl, Nat.zero_le _⟩ ?_
  rintro m σ H' ⟨i, rfl, rfl, rfl, hi⟩
  have ha := nqW hi
  have hl1 := jqd h1 t1
  have hl2 := jqz h1 t1
  walk_at "rd"
  refine ⟨_, .inr hp, _, .inr hq, _, _, ⟨rfl, rfl⟩, ?_⟩
  rw [List.length_map, List.length_map]
  have stop : ¬ i < comm h1 t1 → Q (.int (i : Int)) H' := fun z => by
   rw [show comm h1 t1 = i by lia] at k; exact k
  by_cases hlt : i < h1.length ∧ i < t1.length
  ·refine ite2 (fun _ => ?_) (fun z => absurd (by split <;> lia) z)
   obtain ⟨s1, e1⟩ : ∃ s, h1[i]? = some s := ⟨h1[i], by simp [hlt.1]⟩
   obtain ⟨s2, e2⟩ : ∃ s, t1[i]? = some s := ⟨t1[i], by simp [hlt.2]⟩
   refine ⟨_, _, .inr hp, aqC (by rw [List.getElem?_map, e1]; rfl), _, _, .inr hq, aqC (by rw [List.getElem?_map, e2]; rfl), ?_⟩
   walk_at "rd"
   by_cases e : s1 = s2
   ·subst e
    have hi2 := ha.mpr ⟨s1, e1, e2⟩
    refine ite2 (fun _ => ⟨fun σ' H2 => H2 = H' ∧ σ' = [some (.ref p), some (.ref q), some (.int ((i : Int) + 1))], fun σ' H2 z => ⟨h1.length - (i + 1), by lia, i + 1, z.1, rfl, by rw [z.2]; simp, hi2⟩, rfl, rfl⟩) (fun z => absurd rfl z)
   ·refine ite2 (fun z => absurd (cq7.mp z) e) (fun _ => stop (fun z => ?_))
    obtain ⟨s, f1, f2⟩ := ha.mp z
    rw [e1] at f1; rw [e2] at f2
    exact e (by rw [Option.some.inj f1, Option.some.inj f2])
  ·refine ite2 (fun z => absurd (by split at z <;> lia) hlt) (fun _ => stop (fun z => hlt ⟨by lia, by lia⟩))
theorem gqA (g : G w K mg) : g.cqJ.Ok P w base 1 (gqM K) := by
 refine g.cqJ.F.ok dqX (fun vs H Q E h => ?_) (fun cdv A outer s H vs Q E hr h => ?_)
 ·obtain ⟨b, x, vb, vx, rfl, _⟩ := h; rfl
 ·obtain ⟨b, x, vb, vx, rfl, hB, hX, wf, k⟩ := h
  refine ⟨_, (aqc (aqj (i := 2) dqX.nd rfl (Or.inl rfl) (kqB (bqj (jqN (K := K) rfl hr.units) (aqt (aqf (K := K) rfl) (pv 1) (aqe (v := hqR) rfl g.gqN ⟨_, rfl⟩) (fun _ _ => rfl)) (aqe (v := .ref g.eqO) rfl g.gqX rfl) (nomark _)) (eq2 (bqj bq4 (aqt (aqf (K := K) rfl) (pv 1) (aqe (v := aq0) rfl g.aqV ⟨_, rfl⟩) (fun _ _ => rfl)) aqB (nomark _)))))
   (aqd (aqh (aqJ (aqH (pv 2)) (aqt (aqf (K := K) rfl) (pv 0) (aqe (v := aq0) rfl g.aqV ⟨_, rfl⟩) (fun _ _ => rfl)) (aqt (aqf (K := K) rfl) (pv 1) (aqe (v := aq0) rfl g.aqV ⟨_, rfl⟩) (fun _ _ => rfl)))))), ?_⟩
  obtain ⟨pb, wb, qb, rfl, hpb, hwb, hqb⟩ := cqa hB
  obtain ⟨px, wx, qx, rfl, hpx, hwx, hqx⟩ := cqa hX
  walk_at "rd"
  refine ⟨_, _, .inr hpx, rfl, ?_⟩
  refine ⟨wayOf x.w, wayOf noWay, hwx, g.fqM H, eqQ (fun s hs => (wf.stp s hs).2), by decide, _, rfl, ?_⟩
  rw [iqT]
  by_cases e : x.w = noWay
  ·rw [if_pos (decide_eq_true e)]
   refine ⟨_, _, .inr hpx, rfl, ?_⟩
   cases hq : x.quest with
   | none =>
    rw [hq] at hqx
    cases hqx
    refine ite2 (fun _ => ⟨_, _, .inr hpb, rfl, k _ ?_⟩) (fun z => absurd rfl z)
    rw [questFrom, if_pos ⟨e, hq⟩]; exact hqb
   | some ps =>
    rw [hq] at hqx
    obtain ⟨p', xs, rfl, _⟩ := eqD hqx
    refine ite2 (fun z => by cases z) (fun _ => ⟨_, _, .inr hpx, rfl, k _ ?_⟩)
    rw [questFrom, if_neg (by simp [hq]), hq]; exact hqx
  ·rw [if_neg (by simpa using e)]
   refine ⟨_, _, .inr hpx, rfl, k _ ?_⟩
   rw [questFrom, if_neg (fun z => e z.1)]; exact hqx
theorem kq2 (g : G w K mg) : g.fq7.Ok P w base 1 (kqT K) := by
 refine g.fq7.F.ok dqz (fun vs H Q E h => ?_) (fun cdv A outer s H vs Q E hr h => ?_)
 ·obtain ⟨row, rfl, _⟩ := h; rfl
 ·obtain ⟨row, rfl, k⟩ := h
  refine ⟨_, (aqc (aqK (bqY (aqH (aqD fqI rfl g.cqp bq8 (aqa (pv 0) (aqa (iqU (v := .ty "str") rfl g.mq3 jq3 rfl) aqb)))))
    (aqd bqa) aqp)
   (aqc (aqj (i := 1) dqz.nd rfl (Or.inl rfl) (aqt (aqf (K := K) rfl) (cqo (K := K) rfl PySem.F.plainAttrs_str PySem.F.slot_str_partition PySem.F.type_str_partition gqs (pv 0) (aqa aqn aqb)) aqg (fun _ _ => rfl)))
   (aqc (aqK (aqi (tqE (g.cq8 P)) (pv 1) (aqe (v := .ref g.bqF) rfl g.dqf rfl) (by with_unfolding_all rfl))
    (aqd bqa) aqp)
   (aqc (aqj (i := 2) dqz.nd rfl (Or.inl rfl) (aqm (bqp (K := K)) aqg (sq6 (g.cq8 P) (aqe (v := .ref g.bqF) rfl g.dqf rfl) (pv 1) (fun _ _ => rfl))))
   (aqc (aqj (i := 3) dqz.nd rfl (Or.inl rfl) (aqJ (aqi (fqY (K := K) rfl) (pv 1) (aqe (v := .ref g.cqI) rfl g.fqf rfl) (by with_unfolding_all rfl)) (cqo (K := K) rfl PySem.F.plainAttrs_str PySem.F.slot_str_split PySem.F.type_str_split nqX (pv 0) (aqa aqn (aqa (pv 2) aqb))) (cqo (K := K) rfl PySem.F.plainAttrs_str PySem.F.slot_str_split PySem.F.type_str_split pqp (pv 0) (aqa aqn aqb))))
   (aqc (aqK (PW.pt (eqW (aqi eqS (aqD (aqI (K := K) rfl) rfl g.dqS PySem.boot_len (aqa (pv 3) aqb)) (aqJ (aqi (fqY (K := K) rfl) (pv 1) (aqe (v := .ref g.cqI) rfl g.fqf rfl) (by with_unfolding_all rfl)) (aqm (bqp (K := K)) (pv 2) aqg) (pv 2)) (nomark _)) (cq4 (aqi (fqY (K := K) rfl) aqn (aq9 (lqr (K := K) rfl) (pv 3) bq1 (bqC (pv 2))) (by with_unfolding_all rfl)))))
    (aqd bqa) aqp)
   (aqd (aqh (pv 3))))))))), ?_⟩
  have e32 : Str.ofString " " = ⟨#[32]⟩ := by decide +kernel
  rw [e32]
  walk_at "rd"
  rcases k with ⟨rfl, k⟩ | ⟨w, t, hw, rfl, hl, k⟩
  ·refine ⟨rfl, by decide, fun p hp => ⟨_, _, .inr (.of aqk), jqp, ?_⟩⟩
   rw [show (Txt.partition ⟨wAt.toArray⟩ ⟨#[32]⟩).1 = mkS wAt from congrArg Prod.fst (rqC (t := wAt) (by decide))]
   refine ⟨rfl, _, rfl, false, by with_unfolding_all kernel_rfl, ?_⟩
   rw [if_neg (by decide)]
   refine ⟨_, 0, rfl, by with_unfolding_all kernel_rfl, ?_⟩
   refine ⟨_, wtW.map V.str, rfl, .inr (gqS (ss := wtW) (g.cq0 _)), rfl, rfl, false, by rw [fqA]; decide +kernel, ?_⟩
   rw [if_neg (by decide), show (Txt.split ⟨wAt.toArray⟩ ⟨#[32]⟩).map V.str = [tV wAt] by decide +kernel]
   refine ⟨by decide, fun q hq => ⟨_, .inl (.of aqk), _, wtW.map V.str, rfl, .inr (gqS (ss := wtW) (g.cq0 _)), rfl, rfl, false, by rw [fqA]; decide +kernel, ?_⟩⟩
   rw [if_neg (by decide), if_neg (by decide)]
   refine ⟨_, .of aqk, fun r hr => ⟨_, _, rfl, .inl (.of aqk), rfl, rfl, false, by decide +kernel, ?_⟩⟩
   rw [if_neg (by decide)]
   exact k q _ (((aqU hp).trans (aqU hq)).trans (aqU hr)) (aqU hr _ _ aqk)
  ·have c1 : 32 ∉ w ∧ w.length ≤ 4 ∧ PySem.Spec.lookup (.str (mkS w)) (cql.map fun p => (PyData.str p.1, p.2)) = some (.int 0) ∧ inV (tV w) (wtW.map V.str) = true ∧ inV (.str ⟨#[]⟩) [tV w] = false := by
    rcases hw with rfl | rfl
    ·exact ⟨by decide, by decide, by with_unfolding_all kernel_rfl, by rw [fqA]; decide +kernel, by decide +kernel⟩
    ·exact ⟨by decide, by decide, by with_unfolding_all kernel_rfl, by rw [fqA]; decide +kernel, by decide +kernel⟩
   obtain ⟨c1, c2, c3, c4, c5⟩ := c1
   refine ⟨rfl, aqq (by simp; lia), fun p hp => ⟨_, _, .inr (.of aqk), jqp, ?_⟩⟩
   rw [show (Txt.partition ⟨(w ++ 32 :: t).toArray⟩ ⟨#[32]⟩).1 = mkS w from congrArg Prod.fst (rqk (a := w) (b := t) (c := 32) c1)]
   refine ⟨rfl, _, rfl, false, by rw [c3]; rfl, ?_⟩
   rw [if_neg (by decide)]
   refine ⟨_, 0, rfl, c3, ?_⟩
   refine ⟨_, wtW.map V.str, rfl, .inr (gqS (ss := wtW) (g.cq0 _)), rfl, rfl, true, congrArg V.bl c4, ?_⟩
   rw [if_pos rfl]
   refine ⟨_, 32, 1, rfl, rfl, by rw [bqe]; simp; lia, by decide, fun q hq => ?_⟩
   rw [show ((Txt.splitMax ⟨(w ++ 32 :: t).toArray⟩ ⟨#[32]⟩ ((1 : Nat) : Int)).map V.str) = [tV w, tV t] from congrArg (List.map V.str) (mqw (a := w) (b := t) (c := 32) c1 (by decide))]
   walk_at "rd"
   refine ⟨_, .inl (.of aqk), _, wtW.map V.str, rfl, .inr (gqS (ss := wtW) (g.cq0 _)), rfl, rfl, true, congrArg V.bl c4, ?_⟩
   rw [if_pos rfl, if_neg (fun z => z rfl)]
   refine ⟨_, .of aqk, fun r hr => ⟨_, _, rfl, .inl (.of aqk), rfl, rfl, false, congrArg V.bl c5, ?_⟩⟩
   rw [if_neg (by decide)]
   exact k q _ (((aqU hp).trans (aqU hq)).trans (aqU hr)) (aqU hr _ _ aqk)
theorem eqG (g : G w K mg) : g.cqh.Ok P w base 1 (hqy K) := by
 refine g.cqh.F.ok hqw (fun vs H Q E h => ?_) (fun cdv A outer s H vs Q E hr h => ?_)
 ·obtain ⟨a, ns, k, rfl, _⟩ := h; rfl
 ·obtain ⟨a, ns, i, rfl, hS, k⟩ := h
  refine ⟨_, (aqc (aqK (aqi pqT (pv 1) (aqD (aqI (K := K) rfl) rfl g.dqS PySem.boot_len (aqa (pv 0) aqb)) (nomark _))
    (aqd (aqh (aqt (aqf (K := K) rfl) (pv 0) (pv 1) (fun _ _ => rfl)))) aqp)
   (aqd (aqh aqg))), ?_⟩
  walk_at "rd"
  refine ⟨ns.map V.int, .inl hS, ite2 (fun h => ?_) (fun h => ?_)⟩
  ·rw [List.length_map] at h
   exact ⟨ns.map V.int, _, .inl hS, rqw (by lia), k⟩
  ·rw [List.length_map] at h
   rw [List.getD_eq_getElem?_getD, List.getElem?_eq_none (by lia)] at k
   exact k
theorem jqs (g : G w K mg) : g.dq7.Ok P w base 1 (jqc K) := by
 refine g.dq7.F.ok bq5 (fun vs H Q E h => ?_) (fun cdv A outer s H vs Q E hr h => ?_)
 ·obtain ⟨c, rfl, _⟩ := h; rfl
 ·obtain ⟨c, rfl, k⟩ := h
  refine ⟨_, (aqc (aqj (i := 1) bq5.nd rfl (Or.inl rfl) aqn)
   (aqc (aqj (i := 2) bq5.nd rfl (Or.inl rfl) aqn)
   (aqc (iqC PassesOwn.never rfl (cqZ rfl g.equ (aqa aqg aqb)) (dqE (i := 3) bq5.nd rfl (Or.inl rfl))
   (aqd (aqj (i := 2) bq5.nd rfl (Or.inl rfl) (aqm (bqp (K := K)) (pv 2) (aqt (aqf (K := K) rfl) (pv 1) (aqm aqW (aqm aqT (pv 0) (aqm (bqp (K := K)) (aqm eqh (pv 3) aqg) aqg)) (aqD (aqI (K := K) rfl) rfl g.dqS PySem.boot_len (aqa (pv 1) aqb))) (fun _ _ => rfl))))))
   (aqd (aqh (aqt (aqf (K := K) rfl) (cqT (aqa (pv 2) (aqa (aqm (bqp (K := K)) (pv 2) aqn) (aqa aqn (aqa (aqm (bqp (K := K)) aqn (pv 2)) aqb))))) (aqm aqW (aqm aqT (pv 0) aqg) aqg) (fun _ _ => rfl))))))), ?_⟩
  walk_at "rd"
  refine ⟨by decide, by decide, ?_⟩
  have eS : Str.ofString " !\"#$&'()*+,-./0123456789:;<=>?@ABCDEFGHIJKLMNOPQRSTUVWXYZ[\\]^_`abcdefghijklmnopqrstuvwxyz{|}~" = ⟨SG.toArray⟩ := by decide +kernel
  have eD : Str.ofString "." = ⟨[46].toArray⟩ := by decide +kernel
  have eB : Str.ofString "b7" = ⟨[98, 55].toArray⟩ := by decide +kernel
  have eA : Str.ofString "a1." = ⟨[97, 49, 46].toArray⟩ := by decide +kernel
  have hsl : SG.length = 94 := by decide +kernel
  rw [eS, eD, eB, eA]
  refine dqp (fun i σ H' => H' = H ∧ ∃ (l : List Nat) (v3 : Option V), σ = [some (.int c), some (.str ⟨SG.toArray⟩), some (tV l), v3] ∧ l.length = i ∧ ∀ x ∈ l, isSg x = true) ⟨rfl, [], none, rfl, rfl, fun x hx => by cases hx⟩ ?_ ?_
  ·rintro i σ H1 hi ⟨rfl, l, v3, rfl, hl, hs⟩
   have hi3 : i < 3 := hi
   obtain ⟨d, hd, hda⟩ := kq4 SG (c / ((0 + (i : Int)) * 97 + 1)) (SG.length : Int) (by lia) (by lia)
   walk_at "rd"
   refine ⟨.inr ⟨by decide, by decide⟩, ⟨by lia, by lia⟩, aqq (by lia), by lia, d, aqq (by lia), hda, aqq (by lia), l ++ [d], _, ⟨rfl, rfl⟩, by rw [List.length_append, List.length_singleton, hl], fun x hx => ?_⟩
   rcases List.mem_append.mp hx with z | z
   ·exact hs x z
   ·rw [List.mem_singleton.mp z]; exact oqi.mp hd
  ·rintro σ H1 ⟨rfl, l, v3, rfl, hl, hs⟩
   have hl3 : l.length = 3 := hl
   walk_at "rd"
   refine ⟨aqq (by lia), aqq (by lia), by decide, fun p H2 n2 s2 hp2 => ⟨⟨by decide, by decide⟩, by decide, ?_⟩⟩
   obtain ⟨v, hv, hat⟩ := rqN [V.str ⟨l.toArray⟩, V.str ⟨(l ++ [46]).toArray⟩, V.str ⟨[97, 49, 46].toArray⟩, V.str ⟨([98, 55] ++ l).toArray⟩] (c / 9409) 4 (by decide) (by simp)
   refine ⟨_, _, .inl (.of hp2), hat, ?_⟩
   have sg1 : ∀ x ∈ ([46, 97, 49, 98, 55] : List Nat), isSg x = true := by decide
   simp only [List.mem_cons, List.not_mem_nil, or_false] at hv
   rcases hv with rfl | rfl | rfl | rfl
   ·exact k l H2 (by lia) (by lia) hs s2
   ·refine k (l ++ [46]) H2 (by simp) (by simp; lia) (fun x hx => ?_) s2
    rcases List.mem_append.mp hx with z | z
    ·exact hs x z
    ·exact sg1 x (by rw [List.mem_singleton.mp z]; decide)
   ·exact k [97, 49, 46] H2 (by decide) (by decide) (by decide) s2
   ·refine k ([98, 55] ++ l) H2 (by simp) (by simp; lia) (fun x hx => ?_) s2
    rcases List.mem_append.mp hx with z | z
    ·simp only [List.mem_cons, List.not_mem_nil, or_false] at z
     rcases z with rfl | rfl <;> decide
    ·exact hs x z
theorem lqg (g : G w K mg) : g.fq1.Ok P w base 1 lqs := by
 refine g.fq1.F.ok dqt (fun vs H Q E h => ?_) (fun cdv A outer s H vs Q E hr h => ?_)
 ·obtain ⟨c, gg, m, rfl, _⟩ := h; rfl
 ·obtain ⟨c, gg, m, rfl, hg0, hg1, hm, k⟩ := h
  refine ⟨_, (aqc (aqj (i := 3) dqt.nd rfl (Or.inl rfl) aqn)
   (aqc (iqC PassesOwn.never rfl (cqZ rfl g.equ (aqa (pv 2) aqb)) (dqE (i := 4) dqt.nd rfl (Or.inl rfl))
   (aqd (aqj (i := 3) dqt.nd rfl (Or.inl rfl) (aqm (aqF (K := K) rfl) (pv 3) (aqt (aqf (K := K) rfl) (pv 1) (aqm aqW (aqm aqT (pv 0) (aqm (aqF (K := K) rfl) (aqm eqh (aqm eqh aqg (pv 4)) (pv 4)) aqg)) (aqD (aqI (K := K) rfl) rfl g.dqS PySem.boot_len (aqa (pv 1) aqb))) (fun _ _ => rfl))))))
   (aqd (aqh (pv 3))))), ?_⟩
  walk_at "rd"
  refine ⟨by lia, by lia, ?_⟩
  rw [Int.toNat_natCast]
  refine dqp (fun i σ H' => H' = H ∧ ∃ (l : List Nat) (v4 : Option V), σ = [some (.int c), some (tV gg), some (.int (m : Int)), some (tV l), v4] ∧ l.length = i ∧ ∀ x ∈ l, x ∈ gg) ⟨rfl, [], none, rfl, rfl, fun x hx => by cases hx⟩ ?_ ?_
  ·rintro i σ H1 hi ⟨rfl, l, v4, rfl, hl, hs⟩
   have hb : 0 < 5 * (0 + (i : Int)) * (0 + (i : Int)) + 1 ∧ 5 * (0 + (i : Int)) * (0 + (i : Int)) + 1 < 1073741824 := by
    have h0 : 0 ≤ (0 + (i : Int)) * (0 + (i : Int)) := Int.mul_nonneg (by lia) (by lia)
    have h1 : (0 + (i : Int)) * (0 + (i : Int)) ≤ 100 * 100 := Int.mul_le_mul (by lia) (by lia) (by lia) (by lia)
    rw [Int.mul_assoc]
    lia
   obtain ⟨d, hd, hda⟩ := kq4 gg (c / (5 * (0 + (i : Int)) * (0 + (i : Int)) + 1)) (gg.length : Int) (by lia) (by lia)
   walk_at "rd"
   refine ⟨.inl ⟨by decide, by decide⟩, .inr ⟨by lia, by lia⟩, hb, aqq (by lia), by lia, d, aqq (by lia), hda, aqq (by lia), l ++ [d], _, ⟨rfl, rfl⟩, by rw [List.length_append, List.length_singleton, hl], fun x hx => ?_⟩
   rcases List.mem_append.mp hx with z | z
   ·exact hs x z
   ·rw [List.mem_singleton.mp z]; exact hd
  ·rintro σ H1 ⟨rfl, l, v4, rfl, hl, hs⟩
   walk_at "rd"
   exact k l hl hs
theorem cqO (g : G w K mg) : g.cqf.Ok P w base 1 lqt := by
 refine g.cqf.F.ok bqO (fun vs H Q E h => ?_) (fun cdv A outer s H vs Q E hr h => ?_)
 ·obtain ⟨c, m, rfl, _⟩ := h; rfl
 ·obtain ⟨c, m, rfl, hm, k⟩ := h
  refine ⟨_, (aqc (aqj (i := 2) bqO.nd rfl (Or.inl rfl) aqn)
   (aqc (aqj (i := 3) bqO.nd rfl (Or.inl rfl) (aqm (aqF (K := K) rfl) (aqm aqW (pv 0) aqg) aqg))
   (aqc (aqj (i := 4) bqO.nd rfl (Or.inl rfl) aqn)
   (aqc (iqC PassesOwn.never rfl (cqZ rfl g.equ (aqa (pv 1) aqb)) (dqE (i := 5) bqO.nd rfl (Or.inl rfl))
   (aqc (aqj (i := 3) bqO.nd rfl (Or.inl rfl) (aqm aqW (aqm eqh (pv 3) aqg) aqg))
   (aqd (aqj (i := 4) bqO.nd rfl (Or.inl rfl) (aqm (aqF (K := K) rfl) (pv 4) (aqt (aqf (K := K) rfl) (pv 2) (aqm aqW (aqm aqT (pv 3) aqg) (aqD (aqI (K := K) rfl) rfl g.dqS PySem.boot_len (aqa (pv 2) aqb))) (fun _ _ => rfl)))))))
   (aqd (aqh (pv 4))))))), ?_⟩
  have eS : Str.ofString " !\"#$&'()*+,-./0123456789:;<=>?@ABCDEFGHIJKLMNOPQRSTUVWXYZ[\\]^_`abcdefghijklmnopqrstuvwxyz{|}~" = ⟨SG.toArray⟩ := by decide +kernel
  rw [eS]
  walk_at "rd"
  refine ⟨by decide, by lia, by lia, ?_⟩
  rw [Int.toNat_natCast]
  refine dqp (fun i σ H' => H' = H ∧ ∃ (l : List Nat) (n : Int) (v5 : Option V), σ = [some (.int c), some (.int (m : Int)), some (tV SG), some (.int n), some (tV l), v5] ∧ l.length = i ∧ ∀ x ∈ l, isSg x = true) ⟨rfl, [], _, none, rfl, rfl, fun x hx => by cases hx⟩ ?_ ?_
  ·rintro i σ H1 hi ⟨rfl, l, n, v5, rfl, hl, hs⟩
   obtain ⟨d, hd, hda⟩ := kq4 SG (n * 48271 % 2147483647 / 64) (SG.length : Int) (by decide) (by decide)
   walk_at "rd"
   refine ⟨.inr ⟨by decide, by decide⟩, by decide, ⟨by decide, by decide⟩, by decide, by decide, d, by decide, hda, aqq (by lia), l ++ [d], _, _, ⟨rfl, rfl, rfl⟩, by rw [List.length_append, List.length_singleton, hl], fun x hx => ?_⟩
   rcases List.mem_append.mp hx with z | z
   ·exact hs x z
   ·rw [List.mem_singleton.mp z]; exact oqi.mp hd
  ·rintro σ H1 ⟨rfl, l, n, v5, rfl, hl, hs⟩
   walk_at "rd"
   exact k l hl hs
theorem mqV (g : G w K mg) : g.hqc.Ok P w base 2 mqJ := by
 refine g.hqc.F.ok mqF (fun vs H Q E h => ?_) (fun cdv A outer s H vs Q E hr h => ?_)
 ·obtain ⟨d, v, rfl, _⟩ := h; rfl
 ·obtain ⟨d, v, rfl, hv, hs, k⟩ := h
  refine ⟨_, (aqd (aqh (kqB (aqD fqI rfl g.cqp bq8 (aqa (pv 0) (aqa (iqU (v := .ty "str") rfl g.mq3 jq3 rfl) aqb))) (eq2 (aqs g.eqe (fq5 g) hr rfl (aqa (pv 0) (aqa (aqe (v := oqb) rfl g.lqq ⟨_, rfl⟩) aqb))))))), ?_⟩
  cases hv with
  | lst hp r => walk_at "rd"; simp only [pqU hp]; walk_at "rd"; exact k H (Same.refl _)
  | tup hp r => walk_at "rd"; simp only [pqg hp]; walk_at "rd"; exact k H (Same.refl _)
  | dic hp => walk_at "rd"; exact ⟨"dict", by simp only [kindV, hp], ite2 (fun z => absurd z (by decide)) (fun _ => k H (Same.refl _))⟩
  | str x =>
   walk_at "rd"
   refine ⟨x, _, rfl, jqF hs, fun H' sm => ?_⟩
   simp only [sqQ]
   exact k H' sm
  | _ => walk_at "rd"; exact k H (Same.refl _)
theorem mqR (g : G w K mg) : g.hqd.Ok P w base 2 iqr := by
 refine g.hqd.F.ok fq4 (fun vs H Q E h => ?_) (fun cdv A outer s H vs Q E hr h => ?_)
 ·obtain ⟨c, rfl, _⟩ := h; rfl
 ·obtain ⟨l, rfl, hl, ha, k⟩ := h
  refine ⟨_, (aqc (aqK (aqi eqS (aqD (aqI (K := K) rfl) rfl g.dqS PySem.boot_len (aqa (pv 0) aqb)) aqg (nomark _))
    (aqd (aqh aqB)) aqp)
   (aqc (aqj (i := 1) fq4.nd rfl (Or.inl rfl) (aqs g.bq2 (dq3 g) hr rfl (aqa (aqt (aqf (K := K) rfl) (pv 0) aqg (fun _ _ => rfl)) aqb)))
   (aqc (aqj (i := 2) fq4.nd rfl (Or.inl rfl) (aqs g.bq2 (dq3 g) hr rfl (aqa (aqt (aqf (K := K) rfl) (pv 0) aqg (fun _ _ => rfl)) aqb)))
   (aqc (aqK (PW.pt (eqW (aqi bq4 (pv 1) aqB (nomark _)) (cq4 (aqi bq4 (pv 2) aqB (nomark _)))))
    (aqd (aqh aqB)) aqp)
   (aqd (aqh (aqs g.cqP (gqP g) hr rfl (aqa (aqm (aqF (K := K) rfl) (aqm eqh (pv 1) aqg) (pv 2)) aqb)))))))), ?_⟩
  walk_at "rd"
  have hz : l.length ≤ sizeLine := aqq (by lia)
  refine ⟨hz, ite2 (fun h => ?_) (fun h => ?_)⟩
  ·rw [mqQ (by lia)] at k
   exact k
  ·obtain ⟨a, b, rfl⟩ := sqL (l := l) (by lia)
   refine ⟨a, hz, rfl, ha a (by simp), b, hz, rfl, ha b (by simp), ?_⟩
   have k : Q (signOf a b) H := k
   unfold signOf at k
   cases e1 : fig a with
   | none =>
    rw [e1] at k
    rw [hqW e1]
    exact k
   | some x =>
    cases e2 : fig b with
    | none =>
     rw [e1, e2] at k
     rw [eqa e1, hqW e2]
     exact k
    | some y =>
     rw [e1, e2] at k
     rw [eqa e1, eqa e2]
     walk_at "rd"
     exact ⟨.inr ⟨by decide, by decide⟩, x * 16 + y, by rw [Int.natCast_add, Int.natCast_mul]; rfl, k⟩
theorem cqE (g : G w K mg) : g.cqr.Ok P w base 2 dqm := by
 refine g.cqr.F.ok mqA (fun vs H Q E h => ?_) (fun cdv A outer s H vs Q E hr h => ?_)
 ·obtain ⟨c, rfl, _⟩ := h; rfl
 ·obtain ⟨l, rfl, hl, hs, k⟩ := h
  refine ⟨_, (aqd (aqh (cqo (K := K) rfl PySem.F.plainAttrs_str PySem.F.slot_str_join PySem.F.type_str_join (gqR (K := K) rfl) aqn (aqa (hqC (fx := []) (fr := []) rfl rfl (by decide +kernel) rfl (by decide +kernel) rfl (by decide +kernel) rfl .nil rfl (qqg (pv 0)) (fun _ _ _ => iqB) (fun _ _ _ => (aqJ (aqi jq4 (pv 0) (aqe (v := kqW) rfl g.kq8 ⟨_, rfl⟩) (by with_unfolding_all rfl)) (pv 0) (aqs g.hqM (mqK g) hr rfl (aqa (pv 0) aqb))))) aqb)))), ?_⟩
  walk_at "rd"
  intro p hp
  refine lq6 (z := ⟨l.toArray⟩) (by rw [bqe]; exact aqq (by lia)) hp (fun c => .str ⟨(wr1 c).toArray⟩) (fun c hc H' R hR => ?_) (fun H' sm hp' => ?_)
  ·have l1 := dqb (hs c hc)
   have e := lq3 c (by lia)
   have hR' := hR H' (Same.refl _)
   walk_at "rd"
   unfold wr1 at hR'
   refine ite2 (fun h => ?_) (fun h => ?_)
   ·rw [decide_eq_true h] at e
    rw [← e, if_pos rfl] at hR'
    exact hR'
   ·rw [decide_eq_false h] at e
    rw [← e, if_neg (by decide)] at hR'
    exact ⟨by lia, hR'⟩
  ·walk_at "rd"
   refine ⟨l.map fun c => ⟨(wr1 c).toArray⟩, SqL.of (by rw [hp', List.map_map]; rfl), ?_, ?_⟩
   ·have h3 : ∀ m : List Nat, ((m.map fun c => (⟨(wr1 c).toArray⟩ : Str)).map (·.length)).sum ≤ 3 * m.length := fun m => by
     induction m with
     | nil => simp
     | cons c r ih =>
      have := nqk c
      simp only [List.map_cons, List.sum_cons, List.length_cons, bqe] at ih ⊢
      lia
    have := h3 l
    simp only [List.length_map, List.length_nil, Nat.mul_zero, Nat.add_zero, bqe] at this ⊢
    lia
   ·rw [lqF]
    have e : ((l.map fun c => (⟨(wr1 c).toArray⟩ : Str)).flatMap fun y => y.cps.toList) = wr l := by
     unfold wr
     rw [List.flatMap_map]
    rw [e]
    exact k H' sm
theorem iq7 (g : G w K mg) : g.dq9.Ok P w base 2 (iqZ K) := by
 refine g.dq9.F.ok dqQ (fun vs H Q E h => ?_) (fun cdv A outer s H vs Q E hr h => ?_)
 ·obtain ⟨ps, ss, r, rfl, _⟩ := h; rfl
 ·obtain ⟨ps, ss, r, rfl, hps, hl, k⟩ := h
  refine ⟨_, (aqc (aqj (i := 2) dqQ.nd rfl (Or.inl rfl) (cqT aqb))
   (aqc (iqC PassesOwn.never rfl (kqZ (K := K) rfl (pv 0)) (dqE (i := 3) dqQ.nd rfl (Or.inl rfl))
   (aqd (aqK (aqi cq2 (pv 3) (aqe (v := k_UP) rfl g.c_UP ⟨_, rfl⟩) (nomark _))
    (aqd (dqa (aqs g.lqy (oqY g) hr rfl (aqa (pv 2) (aqa (pv 1) aqb))))) (aqd (aqK (aqi eqS (pv 3) (aqe (v := jqU) rfl g.kqF ⟨_, rfl⟩) (nomark _))
    (aqd (dqa (cqo (K := K) rfl PySem.F.plainAttrs_list PySem.F.slot_list_append PySem.F.type_list_append cqn (pv 2) (aqa (pv 3) aqb)))) aqp)))))
   (aqd (aqh (bq3 (cqQ (K := K) rfl) rfl g.gqd fqy (aqa (pv 2) aqb)))))), ?_⟩
  walk_at "rd"
  refine ⟨by decide, fun p H1 hp s1 hp1 => ⟨⟨_, s1.tup hps⟩, ?_⟩⟩
  refine pqY (xs := ss.map sV) (fun i σ H2 => Same H H2 ∧ H2 p = some (.lst ((stk (sofar r ss i)).map sV)) ∧ ∃ kk, σ = [some (.ref ps), some (.bl r), some (.ref p), kk]) ⟨s1, by rw [hp1]; simp [sofar, stk], none, rfl⟩ (fun i σ H2 _ h => h.1.tup hps) ?_ ?_
  ·rintro i x σ H2 hx ⟨sm, hp2, kk, rfl⟩
   rw [List.getElem?_map] at hx
   obtain ⟨s, hs, rfl⟩ := Option.map_eq_some_iff.mp hx
   have hi : i < ss.length := by
    rcases Nat.lt_or_ge i ss.length with z | z
    ·exact z
    ·rw [List.getElem?_eq_none z] at hs; cases hs
   obtain ⟨ok, lk⟩ := lq7 r ss i
   rw [mqS hs]
   simp only [kup, kst]
   walk_at "rd"
   simp only [cq7]
   by_cases h1 : s = sUp
   ·rw [if_pos h1]
    refine ⟨p, _, r, rfl, hp2, by lia, kqy hp sm, ?_, _, rfl⟩
    rw [aqk, pqD ok, h1]
   ·rw [if_neg h1]
    by_cases h2 : s = sStay
    ·subst h2
     rw [pqE]
     exact ite2 (fun z => absurd rfl z) (fun _ => ⟨sm, hp2, _, rfl⟩)
    ·refine ite2 (fun _ => ?_) (fun z => absurd h2 z)
     refine ⟨⟨_, .of hp2⟩, _, hp2, aqq (by rw [List.length_map]; lia), kqy hp sm, ?_, _, rfl⟩
     rw [aqk, rq9 h1 h2, List.map_append]; rfl
  ·rintro σ H2 ⟨sm, hp2, kk, rfl⟩
   rw [List.length_map, nq9] at hp2
   walk_at "rd"
   exact ⟨_, .inl (.of hp2), fun l H3 s3 hl3 => k l H3 (sm.trans s3) hl3⟩
theorem cqm (g : G w K mg) : FnOk P w K mg base CX0 2 g.cqC g.cqg ["self", "signs"] (iqn K g.aqo) := by
 refine g.fqF.ok iqj (fun vs H Q E h => ?_) (fun cdv A outer s H vs Q E hr h => ?_)
 ·obtain ⟨p, t, sg, i, rfl, _⟩ := h; rfl
 ·obtain ⟨p, t, sg, i, rfl, ⟨dx, hp⟩, hi, hl, k⟩ := h
  refine ⟨_, (aqd (aqh (kqB (tqF (dqv (pv 0) g.aql g.cqv (dqZ g) (hr.mono (by decide)) g.cqV .nil pass0)) (eq2 (bqj jq4 (aqt (aqf (K := K) rfl) (bqR (pv 0) rfl) (bqR (pv 0) rfl) (fun _ _ => rfl)) (pv 1) (by with_unfolding_all rfl)))))), ?_⟩
  have hcur : Cur H g.aqo p t i := ⟨dx, hp⟩
  walk_at "rd"
  refine aqr hcur ⟨p, t, i, rfl, hcur, hl, _, rfl, ?_⟩
  by_cases he : i = t.length
  ·rw [decide_eq_true he, if_neg (by decide)]
   rw [eqH (by rw [he]; exact List.getElem?_eq_none (Nat.le_refl _))] at k
   exact k
  rw [decide_eq_false he, if_pos rfl]
  refine dqu hcur g.aql g.aqP (bqS hcur g.aql g.aqw ?_)
  have hc : t[i]? = some t[i] := List.getElem?_eq_getElem (by lia)
  walk_at "rd"
  refine ⟨t[i], aqq hl, aqC hc, ?_⟩
  rw [aqZ hc] at k
  exact k
theorem fqJ (g : G w K mg) : g.cq3.Ok P w base 2 (jqv K) := by
 refine g.cq3.F.ok iq9 (fun vs H Q E h => ?_) (fun cdv A outer s H vs Q E hr h => ?_)
 ·obtain ⟨a, ns, s, m, rfl, _⟩ := h; rfl
 ·obtain ⟨a, ns, s0, m, rfl, hS, hm, k⟩ := h
  refine ⟨_, (aqd (aqh (hqC (fx := ["_law_script", "_law_start"]) (fr := [0, 1]) rfl rfl (by decide +kernel) rfl (by decide +kernel) rfl (by decide +kernel) rfl (.cons rfl rfl rfl rfl (.cons rfl rfl rfl rfl .nil)) rfl (cqZ rfl g.equ (aqa (pv 2) aqb)) (fun _ _ _ => iqB) (fun _ _ _ => (aqs g.cqh (eqG g) hr rfl (aqa (pv 1) (aqa (aqm (bqp (K := K)) (pv 2) (pv 0)) aqb))))))), ?_⟩
  walk_at "rd"
  refine ⟨by lia, by lia, fun p n => ?_⟩
  rw [Int.toNat_natCast]
  refine hqt (fun i ys H' => SameBut p H H' ∧ ∃ is : List Int, ys = is.map V.int ∧ is.length = i) (aqq (by lia)) ⟨aqM, [], rfl, rfl⟩ (fun i ys H2 T hi hJ hp2 hT => ?_) (fun ys H2 hJ hp2 => ?_)
  ·obtain ⟨sb, is, rfl, hl⟩ := hJ
   walk_at "rd"
   rw [show ((s0 : Int) + (0 + (i : Int))) = ((s0 + i : Nat) : Int) by lia]
   exact ⟨a, ns, s0 + i, rfl, (sb.same n).seq hS, hT _ H2 hp2 ⟨sb.trans aqM, is ++ [ns.getD (s0 + i) 0], by rw [List.map_append]; rfl, by rw [List.length_append, List.length_singleton, hl]⟩⟩
  ·obtain ⟨sb, is, rfl, hl⟩ := hJ
   exact k is p H2 hl (sb.same n) hp2
theorem gqB (g : G w K mg) : g.cqL.Ok P w base 2 gqK := by
 refine g.cqL.F.ok gqO (fun vs H Q E h => ?_) (fun cdv A outer s H vs Q E hr h => ?_)
 ·obtain ⟨c, gg, rfl, _⟩ := h; rfl
 ·obtain ⟨c, gg, rfl, hg0, hg1, hgs, k⟩ := h
  refine ⟨_, (aqc (aqK (aqi cq2 (aqm aqW (pv 0) aqg) aqg (nomark _))
    (aqd (aqh aqn)) aqp)
   (aqc (aqK (aqi cq2 (aqm aqW (pv 0) aqg) aqg (nomark _))
    (aqd (aqh aqn)) aqp)
   (aqc (aqK (aqi cq2 (aqm aqW (pv 0) aqg) aqg (nomark _))
    (aqd (aqh (aqs g.cqf (cqO g) hr rfl (aqa (aqm aqT (pv 0) aqg) (aqa (aqm (bqp (K := K)) aqg (aqm aqW (aqm aqT (pv 0) aqg) aqg)) aqb))))) aqp)
   (aqd (aqh (aqs g.fq1 (lqg g) hr rfl (aqa (aqm aqT (pv 0) aqg) (aqa (pv 1) (aqa (aqm (bqp (K := K)) aqg (aqm aqW (aqm aqT (pv 0) aqg) aqg)) aqb))))))))), ?_⟩
  have d1 : Str.ofString ".." = ⟨sUp.toArray⟩ := by decide +kernel
  have d2 : Str.ofString "." = ⟨sStay.toArray⟩ := by decide +kernel
  rw [d1, d2]
  walk_at "rd"
  have md : ∀ (z b : Int), 0 < b → ∃ m : Nat, (1 ≤ m ∧ (m : Int) ≤ b) ∧ 1 + z % b = (m : Int) := fun z b hb => by
   have h1 := Int.emod_nonneg z (show b ≠ 0 by lia)
   have h2 := Int.emod_lt_of_pos z hb
   exact ⟨(1 + z % b).toNat, by lia, by lia⟩
  refine ⟨by decide, ite2 (fun _ => k sUp (by decide) (by decide) (by decide)) (fun _ => ⟨by decide, ite2 (fun _ => k sStay (by decide) (by decide) (by decide)) (fun _ => ⟨by decide, ite2 (fun _ => ?_) (fun _ => ?_)⟩)⟩)⟩
  ·obtain ⟨m, hm, em⟩ := md (c / 5) 3 (by decide)
   rw [em]
   refine ⟨⟨by decide, by decide⟩, ⟨by decide, by decide⟩, by decide, c / 5, m, rfl, by lia, fun l hl hs => k l (fun e => ?_) (by lia) hs⟩
   rw [e] at hl; simp at hl; lia
  ·obtain ⟨m, hm, em⟩ := md (c / 5) 2 (by decide)
   rw [em]
   refine ⟨⟨by decide, by decide⟩, ⟨by decide, by decide⟩, by decide, c / 5, gg, m, rfl, hg0, hg1, by lia, fun l hl hs => k l (fun e => ?_) (by lia) fun x hx => hgs x (hs x hx)⟩
   rw [e] at hl; simp at hl; lia
theorem gqQ (g : G w K mg) : g.cqK.Ok P w base 2 (gqF K) := by
 refine g.cqK.F.ok bqJ (fun vs H Q E h => ?_) (fun cdv A outer s H vs Q E hr h => ?_)
 ·obtain ⟨c, rfl, _⟩ := h; rfl
 ·obtain ⟨c, rfl, k⟩ := h
  refine ⟨_, (aqc (aqK (aqi cq2 (aqm aqW (pv 0) aqg) aqg (nomark _))
    (aqd (aqh aqB)) aqp)
   (aqc (aqj (i := 1) bqJ.nd rfl (Or.inl rfl) (cqT aqb))
   (aqc (iqC PassesOwn.never rfl (cqZ rfl g.equ (aqa (aqm aqW (aqm aqT (pv 0) aqg) aqg) aqb)) (dqE (i := 2) bqJ.nd rfl (Or.inl rfl))
   (aqc (aqj (i := 3) bqJ.nd rfl (Or.inl rfl) (aqm aqT (pv 0) (aqm (bqp (K := K)) aqg (aqm eqh aqg (pv 2)))))
   (aqd (dqa (cqo (K := K) rfl PySem.F.plainAttrs_list PySem.F.slot_list_append PySem.F.type_list_append cqn (pv 1) (aqa (aqG (aqa (aqs g.cqf (cqO g) hr rfl (aqa (pv 3) (aqa (aqm (bqp (K := K)) aqg (aqm aqW (pv 3) aqg)) aqb))) (aqa (aqt (aqf (K := K) rfl) (cqT (aqa aqB (aqa (aqs g.cqf (cqO g) hr rfl (aqa (aqm aqT (pv 3) aqg) (aqa (aqm aqW (pv 3) aqg) aqb))) aqb))) (aqm aqW (aqm aqT (pv 3) aqg) aqg) (fun _ _ => rfl)) aqb))) aqb))))))
   (aqd (aqh (bq3 (cqQ (K := K) rfl) rfl g.gqd fqy (aqa (pv 1) aqb))))))), ?_⟩
  walk_at "rd"
  have md : ∀ (z b : Int), 0 < b → ∃ m : Nat, (m : Int) < b ∧ z % b = (m : Int) := fun z b hb => by
   have h1 := Int.emod_nonneg z (show b ≠ 0 by lia)
   have h2 := Int.emod_lt_of_pos z hb
   exact ⟨(z % b).toNat, by lia, by lia⟩
  obtain ⟨m, hm, em⟩ := md (c / 3) 3 (by decide)
  rw [em]
  refine ⟨by decide, ite2 (fun _ => k none _ H (fun _ z => by cases z) (Same.refl _) .non) (fun _ => ⟨by decide, fun p1 H1 n1 s1 e1 => ⟨⟨by decide, by decide⟩, by decide, by lia, by lia, ?_⟩⟩)⟩
  rw [Int.toNat_natCast]
  refine dqp (fun i σ H' => SameBut p1 H H' ∧ ∃ (ps : List (List Nat × Option (List Nat))) (ys : List V) (v2 v3 : Option V), σ = [some (.int c), some (.ref p1), v2, v3] ∧ ps.length = i ∧ (∀ p ∈ ps, (0 < p.1.length ∧ Tx 5 p.1) ∧ ∀ v, p.2 = some v → Tx 6 v) ∧ H' p1 = some (.lst ys) ∧ IsTAll H' (ps.map fun p => .tuple [st p.1, oD p.2]) ys) ⟨Same.but s1, [], [], none, none, rfl, rfl, (fun p hp => by cases hp), e1, .nil⟩ ?_ ?_
  ·rintro i σ H2 hi ⟨sb, ps, ys, v2, v3, rfl, hl, hs, h2, hys⟩
   walk_at "rd"
   have hi2 : (i : Int) < 3 := by lia
   obtain ⟨M, hM⟩ : ∃ M, M = c / (9 + 4 * (0 + (i : Int))) := ⟨_, rfl⟩
   rw [← hM]
   obtain ⟨a1, ha1, ea1⟩ := md M 3 (by decide)
   obtain ⟨a2, ha2, ea2⟩ := md M 4 (by decide)
   obtain ⟨a3, ha3, ea3⟩ := md (M / 3) 2 (by decide)
   rw [ea1, ea2, ea3, show (1 : Int) + (a1 : Int) = ((1 + a1 : Nat) : Int) by lia]
   refine ⟨.inl ⟨by decide, by decide⟩, ⟨by lia, by lia⟩, ⟨_, .of h2⟩, by decide, M, 1 + a1, rfl, by lia, fun l1 hl1 hs1 => ⟨⟨by decide, by decide⟩, by decide, M / 7, a2, rfl, by lia, fun l2 hl2 hs2 => ⟨by decide, fun p3 H3 n3 s3 e3 => ⟨⟨by decide, by decide⟩, by decide, ?_⟩⟩⟩⟩
   obtain ⟨o, v, hv, hva, ho⟩ : ∃ (o : Option (List Nat)) (v : V), atI [V.non, tV l2] (a3 : Int) = some v ∧ (∀ H, IsT H (oD o) v) ∧ ∀ z, o = some z → Tx 6 z := by
    match a3, ha3 with
    | 0, _ => exact ⟨none, .non, aqC (j := 0) rfl, fun _ => .non, fun z hz => by cases hz⟩
    | 1, _ => exact ⟨some l2, tV l2, aqC (j := 1) rfl, fun _ => .str _, fun z hz => by cases hz; exact ⟨by lia, hs2⟩⟩
   refine ⟨_, v, .inl (.of e3), hv, by decide, fun p4 H4 n4 s4 e4 => ?_⟩
   have s24 := s3.trans s4
   have n4' : p4 ≠ p1 := fun z => by rw [z, s24 _ _ h2] at e4; cases e4
   refine ⟨_, s24 _ _ h2, Nat.lt_of_le_of_lt (show ys.length ≤ 100 by have := hys.length; rw [List.length_map] at this; lia) (by decide), (sb.trans s24.but).trans aqM, ps ++ [(l1, o)], _, _, _, ⟨rfl, rfl⟩, by rw [List.length_append, List.length_singleton, hl], fun p hp => ?_, aqk, ?_⟩
   ·rcases List.mem_append.mp hp with z | z
    ·exact hs p z
    ·rw [List.mem_singleton.mp z]
     exact ⟨⟨by show 0 < l1.length; lia, by show l1.length ≤ 5; lia, hs1⟩, ho⟩
   ·have t2 : SameT H2 (upd H4 p1 (.lst (ys ++ [.ref p4]))) := fun b zs e => by
     rw [aqA (fun z => by rw [z, h2] at e; cases e)]
     exact s24 _ _ e
    rw [List.map_append]
    exact (hys.mono t2).append (.cons (.tup (by rw [aqA n4']; exact e4) (.cons (.str _) (.cons (hva _) .nil))) .nil)
  ·rintro σ H2 ⟨sb, ps, ys, v2, v3, rfl, hl, hs, h2, hys⟩
   walk_at "rd"
   have s2 := sb.same n1
   exact ⟨_, .inl (.of h2), fun l H3 s3 e3 => k (some ps) _ H3 (fun qs z => by cases z; exact ⟨⟨by lia, fun p hp => ⟨(hs p hp).1.2.1, fun v e => ((hs p hp).2 v e).1⟩⟩, fun p hp => ⟨⟨(hs p hp).1.1, (hs p hp).1.2.2⟩, fun v e => ((hs p hp).2 v e).2⟩⟩) (s2.trans s3) (.tup e3 (hys.mono s3.toT))⟩
theorem jqJ (g : G w K mg) : g.eq8.Ok P w base 3 kqI := by
 refine g.eq8.F.ok kqz (fun vs H Q E h => ?_) (fun cdv A outer s H vs Q E hr h => ?_)
 ·obtain ⟨d, v, rfl, _⟩ := h; rfl
 ·obtain ⟨d, v, rfl, hv, hs, k⟩ := h
  refine ⟨_, (aqc (aqK (PW.pt (eqW (bqY (aqH (aqs g.hqc (mqV g) hr rfl (aqa (pv 0) aqb)))) (cq4 (aqi jqE (aqD (aqI (K := K) rfl) rfl g.dqS PySem.boot_len (aqa (pv 0) aqb)) (aqe (v := gqE) rfl g.dqW ⟨_, rfl⟩) (nomark _)))))
    (aqd (aqh dq4)) aqp)
   (aqd (aqh (kqB (aqs g.eqe (fq5 g) hr rfl (aqa (aq9 (lqr (K := K) rfl) (pv 0) bq1 (bqC aqg)) (aqa (aqe (v := oqA) rfl g.kqK ⟨_, rfl⟩) aqb))) (eq2 (aqs g.eqe (fq5 g) hr rfl (aqa (pv 0) (aqa (aqe (v := eqb) rfl g.cqs ⟨_, rfl⟩) aqb)))))))), ?_⟩
  walk_at "rd"
  refine ⟨d, v, rfl, hv, hs, fun H1 s1 => ?_⟩
  walk_at "rd"
  have k1 := k H1 s1
  cases hv with
  | str x =>
   have hx := jqF hs
   refine ite2 (fun h => ?_) (fun h => ?_)
   ·rw [show schD (.str x) = false by simp only [schD]; rw [show x.cps.toList.all isSg = false from h]; rfl] at k1
    exact k1
   have h : x.cps.toList.all isSg = true := (Bool.not_eq_false _).mp h
   walk_at "rd"
   refine ⟨aqq hx, ite2 (fun h2 => ?_) (fun h2 => ?_)⟩
   ·rw [show schD (.str x) = false by simp only [schD, h, Bool.true_and]; rw [decide_eq_false (by lia)]; rfl] at k1
    exact k1
   have e : x = ⟨x.cps.toList.toArray⟩ := by simp
   refine ⟨aqq hx, ?_⟩
   have e1 : Txt.slice x none (some 1) = ⟨(x.cps.toList.take 1).toArray⟩ := by
    conv => lhs; rw [e]
    exact pqu x.cps.toList 1
   rw [e1]
   refine ⟨⟨(x.cps.toList.take 1).toArray⟩, _, rfl, by rw [bqe, List.length_take]; lia, fun H2 s2 => ?_⟩
   have hsg := List.all_eq_true.mp h
   have f1 : ((⟨(x.cps.toList.take 1).toArray⟩ : Str).cps.toList.all fun c => decide (c ∈ (Str.ofString "abcdefghijklmnopqrstuvwxyzABCDEFGHIJKLMNOPQRSTUVWXYZ").cps.toList)) = (x.cps.toList.take 1).all isLet := by
    rw [oqc, Bool.eq_iff_iff, List.all_eq_true, List.all_eq_true]
    refine forall_congr' fun c => forall_congr' fun hc => ?_
    rw [tqy c (by have := dqb (hsg c (List.mem_of_mem_take hc)); lia)]
   have f2 : (x.cps.toList.all fun c => decide (c ∈ (Str.ofString "abcdefghijklmnopqrstuvwxyzABCDEFGHIJKLMNOPQRSTUVWXYZ0123456789").cps.toList)) = x.cps.toList.all isAln := by
    rw [Bool.eq_iff_iff, List.all_eq_true, List.all_eq_true]
    refine forall_congr' fun c => forall_congr' fun hc => ?_
    rw [sqY c (by have := dqb (hsg c hc); lia)]
   rw [f1]
   walk_at "rd"
   refine ite2 (fun h3 => ?_) (fun h3 => ?_)
   ·refine ⟨x, _, rfl, hx, fun H3 s3 => ?_⟩
    have k3 := k H3 (s1.trans (s2.trans s3))
    rw [f2]
    simp only [schD, h, h3, Bool.true_and, decide_eq_true (show x.length ≤ 8 by lia)] at k3
    exact k3
   ·have k3 := k H2 (s1.trans s2)
    simp only [schD, h, (Bool.not_eq_true _).mp h3, Bool.false_and, Bool.and_false, Bool.true_and] at k3
    exact k3
  | _ => exact k1
theorem iqo (g : G w K mg) : g.dqO.Ok P w base 3 hq7 := by
 refine g.dqO.F.ok eq7 (fun vs H Q E h => ?_) (fun cdv A outer s H vs Q E hr h => ?_)
 ·obtain ⟨o, d, rfl, _⟩ := h; rfl
 ·obtain ⟨o, d, rfl, ho, hd, k⟩ := h
  refine ⟨_, (aqc (aqK (aqi bq4 (pv 0) aqB (nomark _))
    (aqd (aqh aqn)) aqp)
   (aqE (aqj (i := 2) eq7.nd rfl (Or.inl rfl) (aqJ (aqi bq4 (pv 1) aqB (nomark _)) aqn (aqm (aqF (K := K) rfl) aqn (bq3 jq1 rfl g.mq3 jq3 (aqa (pv 1) aqb)))))
   (aqd (aqh (aqm (aqF (K := K) rfl) (aqm (aqF (K := K) rfl) aqn (aqs g.cqr (cqE g) hr rfl (aqa (pv 0) aqb))) (pv 2)))))), ?_⟩
  have c1 : Str.ofString ":" = ⟨[58].toArray⟩ := by decide +kernel
  have c2 : Str.ofString "//" = ⟨[47, 47].toArray⟩ := by decide +kernel
  rw [c1, c2]
  walk_at "rd"
  cases o with
  | none =>
   cases d with
   | some i => exact absurd rfl (hd i rfl).2
   | none =>
    refine ite2 (fun _ => ?_) (fun z => absurd rfl z)
    exact k H (Same.refl _)
  | some l =>
   refine ite2 (fun z => absurd z (by simp [otV])) (fun _ => ?_)
   have hl := ho l rfl
   have w := gqk l
   refine ⟨fun σ H' => H' = H ∧ σ = [some (otV (some l)), some (itV d), some (.str ⟨(dooT d).toArray⟩)] ∧ (dooT d).length ≤ 6, ?_, ?_⟩
   ·cases d with
    | none => exact ite2 (fun _ => ⟨rfl, rfl, by decide⟩) (fun z => absurd rfl z)
    | some i =>
     have hi := (hd i rfl).1
     have hdl := qqq hi.1 hi.2
     refine ite2 (fun z => absurd z (by simp [itV])) (fun _ => ?_)
     refine ⟨i, rfl, lg hi.1 hi.2, aqq (by rw [qqo, bqe]; lia), rfl, ?_, ?_⟩
     ·rw [qqo, show (⟨#[58]⟩ : Str) = ⟨[58].toArray⟩ from rfl, iqx]
      simp [dooT]
     ·simp only [dooT, List.length_cons]; lia
   ·rintro σ H' ⟨rfl, rfl, hdl⟩
    walk_at "rd"
    show dqm [.str ⟨l.toArray⟩] H' _ _
    walk_at "rd"
    refine ⟨by lia, hl.2, fun H'' s'' => ?_⟩
    refine ⟨aqq (by lia), aqq (by lia), ?_⟩
    have := k H'' s''
    simpa [houT] using this
theorem kqH (g : G w K mg) : g.fqg.Ok P w base 3 (jq6 K) := by
 refine g.fqg.F.ok kqE (fun vs H Q E h => ?_) (fun cdv A outer s H vs Q E hr h => ?_)
 ·obtain ⟨r, e, ss, p, q, rfl, _⟩ := h; rfl
 ·obtain ⟨r, e, ss, p, q, rfl, hp, hq, hs, hn, hl, k⟩ := h
  refine ⟨_, (aqd (aqh (aqs g.hqf (mqP g) hr rfl (aqa (aqt (aqf (K := K) rfl) (pv 0) (aqe (v := fqk) rfl g.eqK ⟨_, rfl⟩) (fun _ _ => rfl)) (aqa (hqC (fx := []) (fr := []) rfl rfl (by decide +kernel) rfl (by decide +kernel) rfl (by decide +kernel) rfl .nil rfl (kqZ (K := K) rfl (aqt (aqf (K := K) rfl) (pv 0) (aqe (v := fq2) rfl g.fqc ⟨_, rfl⟩) (fun _ _ => rfl))) (fun _ _ _ => iqB) (fun _ _ _ => (aqs g.cqr (cqE g) hr rfl (aqa (pv 0) aqb)))) (aqa (aqt (aqf (K := K) rfl) (pv 0) (aqe (v := iqJ) rfl g.hqE ⟨_, rfl⟩) (fun _ _ => rfl)) aqb)))))), ?_⟩
  walk_at "rd"
  refine ⟨_, _, .inr hp, rfl, ?_⟩
  refine ⟨_, _, .inr hp, rfl, q, rfl, ⟨_, hq⟩, fun p1 hn1 => ?_⟩
  refine nqH (zs := (ss.map wr).map fun l => V.str ⟨l.toArray⟩) hq (by rw [List.length_map]; exact aqq (by lia)) hn1 (by simp) (fun i x z hx hz H' T sm hT => ?_) (fun H' sm hp' => ?_)
  ·rw [List.getElem?_map] at hx hz
   rw [List.getElem?_map] at hz
   obtain ⟨s, hs', rfl⟩ := Option.map_eq_some_iff.mp hx
   rw [hs'] at hz
   simp only [Option.map_some, Option.some.injEq] at hz
   subst hz
   have hss := hs s (List.mem_of_getElem? hs')
   walk_at "rd"
   exact ⟨hss.1, hss.2, hT⟩
  ·refine ⟨_, _, .inr (sm.tup hp), rfl, ?_⟩
   have hw : (joinT 47 (ss.map wr)).length ≤ 90000 := by
    have := hl
    unfold wayT at this
    simp only [List.length_append] at this
    lia
   refine ⟨r, e, p1, ss.map wr, rfl, .of hp', hw, ?_⟩
   rw [← rq2]
   exact k H' sm
theorem iqh (g : G w K mg) : g.dqF.Ok P w base 3 hqZ := by
 refine g.dqF.F.ok hq9 (fun vs H Q E h => ?_) (fun cdv A outer s H vs Q E hr h => ?_)
 ·obtain ⟨n, o, rfl, _⟩ := h; rfl
 ·obtain ⟨n, o, rfl, hk, hn, ho, k⟩ := h
  refine ⟨_, (aqd (aqh (aqJ (aqi bq4 (pv 1) aqB (nomark _)) (aqs g.cqr (cqE g) hr rfl (aqa (pv 0) aqb)) (aqm (aqF (K := K) rfl) (aqm (aqF (K := K) rfl) (aqs g.cqr (cqE g) hr rfl (aqa (pv 0) aqb)) aqn) (aqs g.cqr (cqE g) hr rfl (aqa (pv 1) aqb)))))), ?_⟩
  have c1 : Str.ofString "=" = ⟨[61].toArray⟩ := by decide +kernel
  rw [c1]
  have w1 := gqk n
  walk_at "rd"
  cases o with
  | none =>
   refine ite2 (fun _ => ?_) (fun z => absurd rfl z)
   refine ⟨hn, hk.1.2, fun H' s' => ?_⟩
   rw [show pairT (n, none) = wr n by simp [pairT, oT]] at k
   exact k H' s'
  | some l =>
   refine ite2 (fun z => absurd z (by simp [otV])) (fun _ => ?_)
   have hll := ho l rfl
   have w2 := gqk l
   rw [show pairT (n, some l) = wr n ++ [61] ++ wr l by simp [pairT, oT]] at k
   refine ⟨hn, hk.1.2, fun H' s' => ?_⟩
   refine ⟨aqq (by simp; lia), ?_⟩
   show dqm [.str ⟨l.toArray⟩] H' _ _
   walk_at "rd"
   refine ⟨hll, hk.2 l rfl, fun H'' s'' => ⟨aqq (by simp; lia), k H'' (s'.trans s'')⟩⟩
theorem iq3 (g : G w K mg) : g.eqz.Ok P w base 3 iq6 := by
 refine g.eqz.F.ok iq2 (fun vs H Q E h => ?_) (fun cdv A outer s H vs Q E hr h => ?_)
 ·obtain ⟨o, rfl, _⟩ := h; rfl
 ·obtain ⟨o, rfl, ho, k⟩ := h
  refine ⟨_, (aqd (aqh (aqJ (aqi bq4 (pv 0) aqB (nomark _)) aqn (aqm (aqF (K := K) rfl) aqn (aqs g.cqr (cqE g) hr rfl (aqa (pv 0) aqb)))))), ?_⟩
  have c1 : Str.ofString "#" = ⟨[35].toArray⟩ := by decide +kernel
  rw [c1]
  walk_at "rd"
  cases o with
  | none => exact ite2 (fun _ => k H (Same.refl _)) (fun z => absurd rfl z)
  | some l =>
   refine ite2 (fun z => absurd z (by simp [otV])) (fun _ => ?_)
   have hl := ho l rfl
   have w := gqk l
   show dqm [.str ⟨l.toArray⟩] H _ _
   rw [show (⟨#[35]⟩ : Str) = ⟨[35].toArray⟩ from rfl]
   walk_at "rd"
   refine ⟨hl.1, hl.2, fun H' s' => ⟨aqq (by lia), ?_⟩⟩
   exact k H' s'
theorem oqa (g : G w K mg) : g.lqK.Ok P w base 3 (rqh K) := by
 refine g.lqK.F.ok lqv (fun vs H Q E h => ?_) (fun cdv A outer s H vs Q E hr h => ?_)
 ·obtain ⟨w, v, rfl, _⟩ := h; rfl
 ·obtain ⟨⟨rt, ss, en⟩, v, rfl, hI, hn, k⟩ := h
  refine ⟨_, (aqc (aqj (i := 1) lqv.nd rfl (Or.inl rfl) (aqt (aqf (K := K) rfl) (pv 0) (aqe (v := fq2) rfl g.fqc ⟨_, rfl⟩) (fun _ _ => rfl)))
   (aqc (aqK (aqi cq2 (aqD (aqI (K := K) rfl) rfl g.dqS PySem.boot_len (aqa (pv 1) aqb)) aqg (nomark _))
    (aqd (aqh (pv 0))) aqp)
   (aqc (aqj (i := 2) lqv.nd rfl (Or.inl rfl) (aqs g.dq9 (iq7 g) hr rfl (aqa (pv 1) (aqa (aqt (aqf (K := K) rfl) (pv 0) (aqe (v := fqk) rfl g.eqK ⟨_, rfl⟩) (fun _ _ => rfl)) aqb))))
   (aqc (aqK (aqi jqE (aqD (aqI (K := K) rfl) rfl g.dqS PySem.boot_len (aqa (pv 2) aqb)) aqg (nomark _))
    (aqd (aqh (aqG (aqa (aqt (aqf (K := K) rfl) (pv 0) (aqe (v := fqk) rfl g.eqK ⟨_, rfl⟩) (fun _ _ => rfl)) (aqa (pv 2) (aqa (mqo (aqt (aqf (K := K) rfl) (pv 0) (aqe (v := iqJ) rfl g.hqE ⟨_, rfl⟩) (fun _ _ => rfl)) (eq2 (aqs g.iqS (nqp g) hr rfl (aqa (aqt (aqf (K := K) rfl) (pv 1) (pqm lqH aqg) (fun _ _ => rfl)) aqb)))) aqb)))))) aqp)
   (aqd (aqh (aqJ (aqH (aqt (aqf (K := K) rfl) (pv 0) (aqe (v := fqk) rfl g.eqK ⟨_, rfl⟩) (fun _ _ => rfl))) (aqG (aqa dq4 (aqa (aqG aqb) (aqa dq4 aqb)))) (aqG (aqa dq4 (aqa (aqG (aqa (aqe (v := jqU) rfl g.kqF ⟨_, rfl⟩) aqb)) (aqa dq4 aqb))))))))))), ?_⟩
  obtain ⟨pw, ps, rfl, hw, hps⟩ := hqY (r := rt) (e := en) (ss := ss) hI
  dsimp only at hn
  walk_at "rd"
  refine ⟨_, _, .inr hw, rfl, ?_⟩
  walk_at "rd"
  refine ⟨_, .inr hps, ?_⟩
  rw [List.length_map]
  by_cases h0 : ss = []
  ·subst h0
   refine ite2 (fun _ => k _ H (Same.refl _) ?_) (fun z => absurd rfl z)
   rw [show goneV (rt, [], en) = (rt, [], en) by simp [goneV, goneW]]
   exact hI
  have hp0 : 0 < ss.length := List.length_pos_iff.mpr h0
  refine ite2 (fun z => absurd z (by lia)) (fun _ => ?_)
  refine ⟨_, _, .inr hw, rfl, ?_⟩
  refine ⟨ps, ss, rt, rfl, hps, hn, fun p H1 s1 hp1 => ?_⟩
  have hw1 := s1.tup hw
  refine ⟨_, .inr (.of hp1), ?_⟩
  rw [List.length_map]
  walk_at "rd"
  by_cases h1 : goneS rt ss = []
  ·refine ite2 (fun z => by rw [h1] at z; simp at z) (fun _ => ?_)
   refine ⟨_, _, .inr hw1, rfl, rt, rfl, ?_⟩
   cases rt with
   | true =>
    rw [if_pos rfl]
    refine ⟨by decide, fun p7 H7 hn7 s7 hp7 => ⟨by decide, fun p8 H8 hn8 s8 hp8 => k _ H8 ((s1.trans s7).trans s8) ?_⟩⟩
    rw [show goneV (true, ss, en) = (true, [], true) by simp [goneV, goneW, h0, h1]]
    exact wayK (.of hp8) (.of (s8 _ _ hp7))
   | false =>
    rw [if_neg (by decide)]
    refine ⟨by decide, fun p7 H7 hn7 s7 hp7 => ⟨by decide, fun p8 H8 hn8 s8 hp8 => k _ H8 ((s1.trans s7).trans s8) ?_⟩⟩
    rw [show goneV (false, ss, en) = (false, [sStay], true) by simp [goneV, goneW, h0, h1]]
    rw [kst] at hp7
    exact wayK (.of hp8) (.of (s8 _ _ hp7))
  ·have hq0 : 0 < (goneS rt ss).length := List.length_pos_iff.mpr h1
   have hW : goneV (rt, ss, en) = (rt, goneS rt ss, en || lastDot ss) := by simp [goneV, goneW, h0, h1]
   refine ite2 (fun _ => ?_) (fun z => absurd (show (0 : Int) < ((goneS rt ss).length : Int) by lia) z)
   refine ⟨_, _, .inr hw1, rfl, _, _, .inr hw1, rfl, en, rfl, ?_⟩
   refine ite2 (fun he => ⟨by decide, fun p8 H8 hn8 s8 hp8 => k _ H8 (s1.trans s8) ?_⟩) (fun he => ?_)
   ·rw [hW, he, Bool.true_or]
    exact wayK (.of hp8) (.of (s8 _ _ hp1))
   ·have he : en = false := by simpa using he
    obtain ⟨s, hls⟩ : ∃ s, ss.getLast? = some s := by
     cases hl : ss.getLast? with
     | none => exact absurd (List.getLast?_eq_none_iff.mp hl) h0
     | some s => exact ⟨s, rfl⟩
    have hld : lastDot ss = isDot s := by unfold lastDot; rw [hls]
    refine ⟨_, _, .inr (s1.tup hps), lqO _ hls, s, rfl, by decide, fun p8 H8 hn8 s8 hp8 => k _ H8 (s1.trans s8) ?_⟩
    rw [hW, he, Bool.false_or, hld]
    exact wayK (.of hp8) (.of (s8 _ _ hp1))
theorem jqr (g : G w K mg) : g.eqE.Ok P w base 3 (jqw K g.aqo) := by
 refine g.eqE.F.ok dqN (fun vs H Q E h => ?_) (fun cdv A outer s H vs Q E hr h => ?_)
 ·obtain ⟨p, t, w, r, i, o, rfl, _⟩ := h; rfl
 ·obtain ⟨p, t, w', r, i, o, rfl, hcur, hi, hl, h128, hd, hw, hst, hh, k⟩ := h
  refine ⟨_, (aqc (aqK (bqY (aqH (aqX (pv 0) g.aql g.aqu (aqz g) (hr.mono (by decide)) g.aqy .nil pass0 (aqa aqn aqb))))
    (aqd (aqh aqB)) aqp)
   (aqc (aqK (bqY (aqH (aqX (pv 0) g.aql g.bqD (cqm g) (hr.mono (by decide)) g.bq0 .nil pass0 (aqa (aqe (v := hqs) rfl g.hqq ⟨_, rfl⟩) aqb))))
    (aqd bqa) aqp)
   (aqc (aqj (i := 1) dqN.nd rfl (Or.inl rfl) (bq3 kqM rfl g.oq5 oqm (aqa (dqv (pv 0) g.aql g.bqi (bqE g) (hr.mono (by decide)) g.bqy .nil pass0) aqb)))
   (aqc (fqn PassesOwn.never (PW.pt (eq5 (aqi jqE (pv 1) aqg (nomark _)) (eq5 (aqH (aqX (pv 0) g.aql g.bqD (cqm g) (hr.mono (by decide)) g.bq0 .nil pass0 (aqa (aqe (v := hqs) rfl g.hqq ⟨_, rfl⟩) aqb))) (dqy (aqi tq1 (aqs g.dqA (gqv g) hr rfl (aqa (pv 1) (aqa (pv 0) aqb))) (aqe (v := lqh) rfl g.gq2 ⟨_, rfl⟩) (nomark _))))))
   (aqc (aqj (i := 1) dqN.nd rfl (Or.inl rfl) (aqs g.dqA (gqv g) hr rfl (aqa (pv 1) (aqa (pv 0) aqb))))
   (aqd (dqa (dqv (pv 0) g.aql g.bqi (bqE g) (hr.mono (by decide)) g.bqy .nil pass0)))))
   (aqd (aqh (pv 1))))))), ?_⟩
  have eF : hqs = .str ⟨fgS.toArray⟩ := by
   show V.str (Str.ofString _) = _
   unfold fgS; simp
  have e1 : Str.ofString ":" = ⟨[58].toArray⟩ := by decide +kernel
  rw [eF, e1]
  walk_at "rd"
  cases o with
  | none =>
   have hw : w' = [] := hw
   subst hw
   refine aqr hcur (dqx hcur hi hl hd (hh rfl) ⟨_, rfl, ?_⟩)
   rw [if_pos rfl]
   exact k H (SameBut.refl _ _) hcur
  | some n =>
   obtain ⟨ds, rfl, hne, hfg, rfl, h65, hz⟩ := hw
   refine aqr hcur (bq9 (w := [58]) (r := ds ++ r) hcur hi hl hd fun H1 s1 c1 hi1 hd1 => ⟨_, rfl, ?_⟩)
   rw [if_neg (by decide)]
   cases ds with
   | nil => exact absurd rfl hne
   | cons d0 ds0 =>
   have hd0 := hfg d0 (List.mem_cons_self ..)
   obtain ⟨hx, hxl⟩ := fqW hd1
   refine aqr c1 ⟨p, t, fgS, _, rfl, c1, hi1, hl, _, rfl, ?_⟩
   rw [aqZ hx, decide_eq_true (nqt.mpr hd0), if_neg (by decide)]
   refine aqr c1 ⟨p, t, _, d0, rfl, c1, hx, hl, fun H2 s2 c2 => ⟨_, _, rfl, by show 1 ≤ 640; decide, oqE d0 (by lia) hd0.1, ?_⟩⟩
   have h12 := s1.trans s2
   have ev0 : valD [d0] = d0 - 48 := by unfold valD; simp
   rw [← ev0]
   refine hqB (fun m σ H' => ∃ (dn es : List Nat), m = es.length ∧ σ = [some (.ref p), some (.int (valD dn : Nat))] ∧ dn ≠ [] ∧ d0 :: ds0 = dn ++ es ∧ SameBut p H H' ∧ Cur H' g.aqo p t (i + 1 + dn.length)) ds0.length ⟨[d0], ds0, rfl, rfl, by simp, rfl, h12, c2⟩ ?_
   rintro m σ H3 ⟨dn, es, rfl, rfl, hdn, eds, s3, c3⟩
   have hd3 : t.drop (i + 1 + dn.length) = es ++ r := by
    rw [← List.drop_drop, show i + 1 = i + [58].length from rfl, hd1, eds, List.append_assoc, List.drop_left]
   have hi3 : i + 1 + dn.length ≤ t.length := by
    have := congrArg List.length hd1
    rw [List.length_drop, eds, List.length_append, List.length_append] at this
    simp only [List.length_singleton] at this hi1
    lia
   have hvl : valD dn ≤ 65535 := by
    have := jqm es dn
    rw [← eds] at this
    lia
   have hfin : es = [] → Q (.int (valD dn : Nat)) H3 := fun e => by
    subst e
    rw [List.append_nil] at eds
    rw [eds] at k
    refine k H3 s3 ?_
    rw [show i + (58 :: dn).length = i + 1 + dn.length by simp only [List.length_cons]; lia]
    exact c3
   walk_at "rd"
   have hfin2 : valD dn = 0 → es = [] := fun e => by
    rcases hz with z | z
    ·rw [z] at eds
     have := congrArg List.length eds
     have h1 : 0 < dn.length := List.length_pos_iff.mpr hdn
     rw [List.length_append] at this
     simp only [List.length_singleton] at this
     exact List.length_eq_zero_iff.mp (by lia)
    ·cases dn with
     | nil => exact absurd rfl hdn
     | cons a b =>
      have e0 : d0 = a := by injection eds
      subst e0
      have h9 : d0 ≠ 48 := fun z' => z (by rw [z']; rfl)
      have := pqt (ds := d0 :: b) rfl (by lia)
      lia
   by_cases h0 : valD dn = 0
   ·rw [if_neg (by lia)]
    exact hfin (hfin2 h0)
   rw [if_pos (by lia)]
   refine aqr c3 ⟨p, t, fgS, _, rfl, c3, hi3, hl, _, rfl, ?_⟩
   cases es with
   | nil =>
    have hb : seesB t fgS (i + 1 + dn.length) = false := by
     cases hc : t[i + 1 + dn.length]? with
     | none => exact eqH hc
     | some c =>
      rw [aqZ hc]
      refine decide_eq_false fun hin => hst c ?_ (nqt.mp hin)
      rw [← hc, ← List.head?_drop, hd3]
      rfl
    rw [hb, if_neg (by decide)]
    exact hfin rfl
   | cons c es1 =>
    have hc := hfg c (by rw [eds]; simp)
    obtain ⟨hx3, hxl3⟩ := fqW hd3
    have hle : valD dn * 10 + (c - 48) ≤ 65535 := by
     have := jqm es1 (dn ++ [c])
     rw [fqs, List.append_assoc, show [c] ++ es1 = c :: es1 from rfl, ← eds] at this
     lia
    rw [aqZ hx3, decide_eq_true (nqt.mpr hc), if_pos rfl]
    refine ⟨p, t, _, c, valD dn, rfl, c3, hl, hx3, hc.1, hc.2, by lia, _, _, rfl, rfl, _, rfl, ?_⟩
    rw [decide_eq_true (by lia), if_pos rfl]
    refine ⟨_, fun _ _ h => h, p, t, _, c, valD dn, rfl, c3, hl, hx3, hc.1, hc.2, by lia, aqr c3 ⟨p, t, _, c, rfl, c3, hx3, hl, fun H4 s4 c4 => ⟨es1.length, Nat.lt_succ_self _, dn ++ [c], es1, rfl, by rw [fqs], by simp, by rw [eds, List.append_assoc]; rfl, s3.trans s4, ?_⟩⟩⟩
    rw [List.length_append]
    exact c4
theorem iq5 (g : G w K mg) : g.eqs.Ok P w base 3 (iqW K g.aqo) := by
 refine g.eqs.F.ok dqJ (fun vs H Q E h => ?_) (fun cdv A outer s H vs Q E hr h => ?_)
 ·obtain ⟨p, t, r, i, a, b, c, rfl, _⟩ := h; rfl
 ·obtain ⟨p, t, r, i, a, b, c, rfl, hcur, hd, hs, hl, k⟩ := h
  refine ⟨_, (aqc (aqK (bqY (aqH (aqX (pv 0) g.aql g.bqD (cqm g) (hr.mono (by decide)) g.bq0 .nil pass0 (aqa (aqe (v := dq5) rfl g.eql ⟨_, rfl⟩) aqb))))
    (aqd bqa) aqp)
   (aqc (aqj (i := 1) dqJ.nd rfl (Or.inl rfl) (aqm (aqF (K := K) rfl) (dqv (pv 0) g.aql g.bqi (bqE g) (hr.mono (by decide)) g.bqy .nil pass0) (aq9 (lqr (K := K) rfl) (bqR (pv 0) rfl) (bqC (bqR (pv 0) rfl)) (bqC (aqm (aqF (K := K) rfl) (bqR (pv 0) rfl) aqg)))))
   (aqc (aqj (i := 2) dqJ.nd rfl (Or.inl rfl) (aqs g.hqd (mqR g) hr rfl (aqa (pv 1) aqb)))
   (aqc (aqK (aqi bq4 (pv 2) aqB (nomark _))
    (aqd bqa) aqp)
   (aqc (dqa (dqv (pv 0) g.aql g.bqi (bqE g) (hr.mono (by decide)) g.bqy .nil pass0))
   (aqd (aqh (pv 2)))))))), ?_⟩
  obtain ⟨hf, ha, hb, hcs⟩ := nqg hs
  have hlen : i + 2 ≤ t.length := by have := congrArg List.length hd; rw [List.length_drop] at this; simp only [List.length_cons] at this; lia
  have hia : t[i]? = some a := by rw [← List.head?_drop, hd]; rfl
  have hib : t[i + 1]? = some b := by rw [← List.head?_drop, ← List.drop_drop, hd]; rfl
  have eF : dq5 = .str ⟨[50, 51, 52, 53, 54, 55].toArray⟩ := by
   show V.str (Str.ofString "234567") = _
   rw [show Str.ofString "234567" = ⟨[50, 51, 52, 53, 54, 55].toArray⟩ by decide +kernel]
  have hf : a ∈ [50, 51, 52, 53, 54, 55] := by
   rw [show (Str.ofString "234567").cps.toList = [50, 51, 52, 53, 54, 55] by decide +kernel] at hf
   exact hf
  walk_at "rd"
  rw [eF]
  refine aqr hcur ⟨p, t, _, i, rfl, hcur, by lia, hl, _, rfl, ?_⟩
  rw [aqZ hia, decide_eq_true hf, if_neg (by decide)]
  refine aqr hcur ⟨p, t, i, a, rfl, hcur, hia, hl, fun H1 s1 c1 => ?_⟩
  refine dqu c1 g.aql g.aqP (bqS c1 g.aql g.aqw ⟨_, rfl, bqS c1 g.aql g.aqw ?_⟩)
  walk_at "rd"
  rw [show ((i + 1 : Nat) : Int) + 1 = ((i + 2 : Nat) : Int) by lia, oqy, show i + 2 - (i + 1) = 1 by lia, ← List.drop_drop, hd, show List.take 1 (List.drop 1 (a :: b :: r)) = [b] from rfl]
  walk_at "rd"
  refine ⟨aqq hl, by decide, by decide, fun d hd' => ?_, ?_⟩
  ·simp only [List.mem_cons, List.not_mem_nil, or_false] at hd'
   rcases hd' with rfl | rfl
   ·exact ha
   ·exact hb
  rw [show signOfL [a, b] = signOf a b from rfl, nq7, hs, if_neg (by intro z; cases z)]
  exact aqr c1 ⟨p, t, i + 1, b, rfl, c1, hib, hl, fun H2 s2 c2 => k H2 (s1.trans s2) c2⟩
theorem eqd (g : G w K mg) : g.cqk.Ok P w base 3 (hqe K) := by
 refine g.cqk.F.ok aqv (fun vs H Q E h => ?_) (fun cdv A outer s H vs Q E hr h => ?_)
 ·obtain ⟨pc, is, gg, wh, rfl, _⟩ := h; rfl
 ·obtain ⟨pc, is, gg, wh, rfl, hpc, hil, hg0, hg1, hgs, k⟩ := h
  refine ⟨_, (aqc (aqj (i := 3) aqv.nd rfl (Or.inl rfl) (aqt (aqf (K := K) rfl) (pv 0) aqg (fun _ _ => rfl)))
   (aqc (aqj (i := 4) aqv.nd rfl (Or.inl rfl) aqn)
   (aqE (aqK (PW.pt (eqW (aqH (pv 2)) (cq4 (aqi cq2 (aqm aqW (pv 3) aqg) aqg (nomark _)))))
    (aqd (aqj (i := 4) aqv.nd rfl (Or.inl rfl) (aqt (aqf (K := K) rfl) (cqT (aqa aqn (aqa aqn (aqa aqn aqb)))) (aqm aqW (aqm aqT (pv 3) aqg) aqg) (fun _ _ => rfl)))) aqp)
   (aqc (aqj (i := 5) aqv.nd rfl (Or.inl rfl) aqB)
   (aqc (aqj (i := 6) aqv.nd rfl (Or.inl rfl) aqB)
   (aqE (aqK (PW.pt (eq5 (aqi cq2 (aqm aqW (aqm aqT (pv 3) aqg) aqg) aqg (nomark _)) (dqy (PW.pt (eqW (aqi eqS (pv 4) aqn (nomark _)) (cq4 (aqi cq2 (aqm aqW (aqm aqT (pv 3) aqg) aqg) aqg (nomark _))))))))
    (aqc (aqj (i := 5) aqv.nd rfl (Or.inl rfl) (aqs g.cqf (cqO g) hr rfl (aqa (aqm aqT (pv 3) aqg) (aqa (aqm (bqp (K := K)) aqg (aqm aqW (aqm aqT (pv 3) aqg) aqg)) aqb))))
   (aqd (aqj (i := 6) aqv.nd rfl (Or.inl rfl) (aqt (aqf (K := K) rfl) (cqT (aqa aqB (aqa (aqm aqW (aqm aqT (pv 3) aqg) aqg) aqb))) (aqm aqW (aqm aqT (pv 3) aqg) aqg) (fun _ _ => rfl))))) aqp)
   (aqE (aqj (i := 7) aqv.nd rfl (Or.inl rfl) (mqo (bqj eqS (pv 4) aqn (nomark _)) (mqo (bqj fqP (pv 5) aqB (nomark _)) (eq2 (bqj cq2 (aqm aqW (aqm aqT (pv 3) aqg) aqg) aqg (nomark _))))))
   (aqE (aqj (i := 8) aqv.nd rfl (Or.inl rfl) (bq3 (cqQ (K := K) rfl) rfl g.gqd fqy (aqa (hqC (fx := ["_law_signs_here", "_law_cells_here"]) (fr := [1, 0]) rfl rfl (by decide +kernel) rfl (by decide +kernel) rfl (by decide +kernel) rfl (.cons rfl rfl rfl rfl (.cons rfl rfl rfl rfl .nil)) rfl (cqZ rfl g.equ (aqa (aqm aqW (aqt (aqf (K := K) rfl) (pv 0) aqg (fun _ _ => rfl)) aqg) aqb)) (fun _ _ _ => iqB) (fun _ _ _ => (aqs g.cqL (gqB g) hr rfl (aqa (aqt (aqf (K := K) rfl) (pv 2) (aqm (bqp (K := K)) aqg (pv 0)) (fun _ _ => rfl)) (aqa (pv 1) aqb))))) aqb)))
   (aqc (aqj (i := 9) aqv.nd rfl (Or.inl rfl) (aqt (aqf (K := K) rfl) (cqT (aqa (pv 7) (aqa (bqj cq2 (aqm aqW (aqm aqT (aqt (aqf (K := K) rfl) (pv 0) aqg (fun _ _ => rfl)) aqg) aqg) aqg (nomark _)) aqb))) (bq3 oqD rfl g.oq5 oqm (aqa (bqj (sqv hr.units) (pv 8) (aqG aqb) (nomark _)) aqb)) (fun _ _ => rfl)))
   (aqE (aqj (i := 10) aqv.nd rfl (Or.inl rfl) (aqt (aqf (K := K) rfl) (cqT (aqa aqB (aqa (aqs g.cqf (cqO g) hr rfl (aqa (aqt (aqf (K := K) rfl) (pv 0) aqg (fun _ _ => rfl)) (aqa (aqm aqW (aqt (aqf (K := K) rfl) (pv 0) aqg (fun _ _ => rfl)) aqg) aqb))) aqb))) (aqm aqW (aqm aqT (aqt (aqf (K := K) rfl) (pv 0) aqg (fun _ _ => rfl)) aqg) aqg) (fun _ _ => rfl)))
   (aqd (aqh (aqG (aqa (pv 4) (aqa (pv 5) (aqa (pv 6) (aqa (aqG (aqa (pv 7) (aqa (pv 8) (aqa (pv 9) aqb)))) (aqa (aqs g.cqK (gqQ g) hr rfl (aqa (aqt (aqf (K := K) rfl) (pv 0) aqg (fun _ _ => rfl)) aqb)) (aqa (pv 10) aqb))))))))))))))))))), ?_⟩
  walk_at "rd"
  have cell : ∀ j, j < 7 → ∃ z : Int, (is.map V.int)[j]? = some (.int z) := fun j hj => ⟨is[j], by rw [List.getElem?_map, List.getElem?_eq_getElem (by lia)]; rfl⟩
  have md : ∀ (z b : Int), 0 < b → ∃ m : Nat, (m : Int) < b ∧ z % b = (m : Int) := fun z b hb => by
   have h1 := Int.emod_nonneg z (show b ≠ 0 by lia)
   have h2 := Int.emod_lt_of_pos z hb
   exact ⟨(z % b).toNat, by lia, by lia⟩
  obtain ⟨z0, hz0⟩ := cell 0 (by decide)
  refine ⟨_, _, .inl (.of hpc), aqC (j := 0) hz0, ?_⟩
  walk_at "rd"
  refine ⟨fun σ H1 => Same H H1 ∧ ∃ sc : List Nat, σ = [some (.ref pc), some (tV gg), some (.bl wh), some (.int z0), some (tV sc), none, none, none, none, none, none] ∧ (wh = true → sc ≠ []) ∧ sc.length ≤ 8 ∧ (∀ c ∈ sc, isAln c = true) ∧ ∀ c ∈ sc.take 1, isLet c = true, ?_, ?_⟩
  ·obtain ⟨m, hm, em⟩ := md (z0 / 4) 3 (by decide)
   obtain ⟨sc, hsc, h0, h1⟩ : ∃ sc : List Nat, atI [V.str (Str.ofString "web"), V.str (Str.ofString "x1"), V.str (Str.ofString "Ab")] (z0 / 4 % 3) = some (tV sc) ∧ sc ≠ [] ∧ sc.length ≤ 8 ∧ (∀ c ∈ sc, isAln c = true) ∧ ∀ c ∈ sc.take 1, isLet c = true := by
    rw [em]
    match m, hm with
    | 0, _ => exact ⟨[119, 101, 98], aqC (j := 0) (by decide +kernel), by decide⟩
    | 1, _ => exact ⟨[120, 49], aqC (j := 1) (by decide +kernel), by decide⟩
    | 2, _ => exact ⟨[65, 98], aqC (j := 2) (by decide +kernel), by decide⟩
   refine ite2 (fun hw => ?_) (fun hw => ⟨by decide, ite2 (fun _ => ?_) (fun _ => ⟨Same.refl _, [], rfl, (fun z => absurd z hw), by decide, (fun c hc => by cases hc), fun c hc => by cases hc⟩)⟩)
   all_goals exact ⟨by decide, fun p1 H1 n1 s1 e1 => ⟨⟨by decide, by decide⟩, by decide, _, _, .inl (.of e1), hsc, s1, sc, rfl, fun _ => h0, h1⟩⟩
  rintro σ H1 ⟨s1, sc, rfl, hs0, hs1, hs2, hs3⟩
  walk_at "rd"
  refine ⟨fun σ H2 => Same H1 H2 ∧ ∃ (ho : Option (List Nat)) (dr : Option Int), σ = [some (.ref pc), some (tV gg), some (.bl wh), some (.int z0), some (tV sc), some (otV ho), some (itV dr), none, none, none, none] ∧ (∀ l, ho = some l → 0 < l.length ∧ Tx 13 l) ∧ ∀ i, dr = some i → (0 ≤ i ∧ i ≤ 65535) ∧ ho ≠ none, ?_, ?_⟩
  ·obtain ⟨m, hm, em⟩ := md (z0 / 72) 3 (by decide)
   obtain ⟨d, hd, ed⟩ := md (z0 / 72) 65536 (by decide)
   obtain ⟨b, hb, eb⟩ := md (z0 / 24) 2 (by decide)
   obtain ⟨dr, hv, hdr⟩ : ∃ dr : Option Int, atI [V.non, V.int (d : Int)] (b : Int) = some (itV dr) ∧ ∀ i, dr = some i → 0 ≤ i ∧ i ≤ 65535 := by
    match b, hb with
    | 0, _ => exact ⟨none, aqC (j := 0) rfl, fun i z => by cases z⟩
    | 1, _ => exact ⟨some d, aqC (j := 1) rfl, fun i z => by cases z; lia⟩
   rw [em, ed, eb, show (1 : Int) + (m : Int) = ((1 + m : Nat) : Int) by lia]
   refine ⟨⟨by decide, by decide⟩, by decide, ite2 (fun _ => ite2 (fun _ => ?_) (fun _ => ⟨⟨by decide, by decide⟩, by decide, ite2 (fun _ => ?_) (fun _ => ?_)⟩)) (fun _ => ?_)⟩
   iterate 2 exact ⟨⟨by decide, by decide⟩, ⟨by decide, by decide⟩, by decide, z0 / 72, 1 + m, rfl, by lia, fun l hl hs => ⟨⟨by decide, by decide⟩, by decide, by decide, fun p2 H2 n2 s2 e2 => ⟨⟨by decide, by decide⟩, by decide, _, _, .inl (.of e2), hv, s2, some l, dr, rfl, (fun l' z => by cases z; exact ⟨by lia, by lia, hs⟩), fun i z => ⟨hdr i z, fun y => by cases y⟩⟩⟩⟩
   all_goals exact ⟨Same.refl _, none, none, rfl, (fun l z => by cases z), fun i z => by cases z⟩
  rintro σ H2 ⟨s2, ho, dr, rfl, hho, hdr⟩
  walk_at "rd"
  refine ⟨fun σ H3 => H2 = H3 ∧ ∃ rb : Bool, σ = [some (.ref pc), some (tV gg), some (.bl wh), some (.int z0), some (tV sc), some (otV ho), some (itV dr), some (.bl rb), none, none, none] ∧ (sc ≠ [] ∨ ho ≠ none → rb = true), ?_, ?_⟩
  ·refine ite2 (fun z => ⟨rfl, true, rfl, fun _ => rfl⟩) (fun hz => ite2 (fun _ => ⟨rfl, true, rfl, fun _ => rfl⟩) (fun h0 => ⟨⟨by decide, by decide⟩, by decide, rfl, _, rfl, fun o => ?_⟩))
   rcases o with o | o
   ·exact absurd (fun z => o (jqV.mp z)) hz
   ·cases ho with
    | none => exact absurd rfl o
    | some l => exact absurd (fun z => by cases z) h0
  rintro σ H3 ⟨rfl, rb, rfl, hrb⟩
  have s02 := s1.trans s2
  obtain ⟨z4, hz4⟩ := cell 4 (by decide)
  obtain ⟨m, hm, em⟩ := md z4 4 (by decide)
  walk_at "rd"
  refine ⟨fun σ H3 => Same H2 H3 ∧ ∃ (ss : List (List Nat)) (ps : Addr), σ = [some (.ref pc), some (tV gg), some (.bl wh), some (.int z0), some (tV sc), some (otV ho), some (itV dr), some (.bl rb), some (.ref ps), none, none] ∧ H3 ps = some (.tup (ss.map tV)) ∧ ss.length ≤ 3 ∧ ∀ x ∈ ss, 0 < x.length ∧ Tx 9 x, ⟨_, _, .inl (.of (s02 _ _ hpc)), aqC (j := 4) hz4, ?_⟩, ?_⟩
  ·walk_at "rd"
   rw [em]
   refine ⟨by decide, by lia, by lia, fun p3 n3 => ?_⟩
   rw [Int.toNat_natCast]
   refine hqt (fun i ys H' => SameBut p3 H2 H' ∧ ∃ ss : List (List Nat), ys = ss.map tV ∧ ss.length = i ∧ ∀ x ∈ ss, 0 < x.length ∧ Tx 9 x) (aqq (by lia)) ⟨aqM.trans (SameBut.refl _ _), [], rfl, rfl, fun x hx => by cases hx⟩ (fun i ys H3 T hi hJ h3 hT => ?_) (fun ys H3 hJ h3 => ?_)
   ·obtain ⟨sb, ss, rfl, hsl, hss⟩ := hJ
    obtain ⟨zi, hzi⟩ := cell (1 + i) (by lia)
    have s03 := s02.trans (sb.same n3)
    walk_at "rd"
    refine ⟨_, _, .inl (.of (s03 _ _ hpc)), by rw [show (1 : Int) + (0 + (i : Int)) = ((1 + i : Nat) : Int) by lia]; exact aqC hzi, zi, gg, rfl, hg0, hg1, hgs, fun l h1 h2 h4 => hT _ H3 h3 ⟨sb.trans aqM, ss ++ [l], by rw [List.map_append]; rfl, by rw [List.length_append, List.length_singleton, hsl], fun x hx => ?_⟩⟩
    rcases List.mem_append.mp hx with z | z
    ·exact hss x z
    ·rw [List.mem_singleton.mp z]; exact ⟨List.length_pos_iff.mpr h1, by lia, h4⟩
   ·obtain ⟨sb, ss, rfl, hsl, hss⟩ := hJ
    walk_at "rd"
    exact ⟨_, .inl (.of h3), fun l H4 s4 e4 => ⟨(sb.same n3).trans s4, ss, e4, by lia, hss⟩⟩
  rintro σ H3 ⟨s3, ss, ps, rfl, hps, hsl, hss⟩
  have s03 := s02.trans s3
  walk_at "rd"
  refine ⟨_, _, .inl (.of (s03 _ _ hpc)), aqC (j := 4) hz4, ?_⟩
  walk_at "rd"
  refine ⟨⟨by decide, by decide⟩, by decide, ?_⟩
  refine ⟨by decide, fun p4 H4 n4 s4 e4 => ⟨by decide, fun p5 H5 n5 s5 e5 => ?_⟩⟩
  have s35 := s4.trans s5
  have lay : SeqAt.shaped (.tuple (ss.map st)) = true := (LayAt.tup (n := 0) fun d hd => by
   obtain ⟨x, hx, rfl⟩ := List.mem_map.mp hd
   exact .st (hss x hx).2.2).shaped (by decide)
  refine ⟨.tuple (ss.map st), .tuple [], .tup (s35 _ _ hps) (lqU ss), .tup e5 .nil, lay, by decide +kernel, ?_⟩
  rw [qqR, List.isEmpty_map]
  obtain ⟨en, hen, hen0⟩ : ∃ en : Bool, atI [V.bl rb, V.bl (decide (z4 / 4 % 2 = 0))] (if ss.isEmpty = false then 1 else 0) = some (.bl en) ∧ (ss = [] → en = rb) := by
   cases ss with
   | nil => exact ⟨rb, aqC (j := 0) rfl, fun _ => rfl⟩
   | cons x r => exact ⟨_, aqC (j := 1) rfl, fun z => by cases z⟩
  walk_at "rd"
  refine ⟨_, _, .inl (.of (s5 _ _ e4)), hen, ?_⟩
  obtain ⟨z5, hz5⟩ := cell 5 (by decide)
  obtain ⟨a, ha, ea⟩ := md z5 4 (by decide)
  have s05 := s03.trans s35
  refine ⟨fun σ H6 => Same H5 H6 ∧ ∃ mk : Option (List Nat), σ = [some (.ref pc), some (tV gg), some (.bl wh), some (.int z0), some (tV sc), some (otV ho), some (itV dr), some (.bl rb), some (.ref ps), some (.bl en), some (otV mk)] ∧ ∀ l, mk = some l → Tx 7 l, ⟨_, _, .inl (.of (s05 _ _ hpc)), aqC (j := 5) hz5, _, _, .inl (.of (s05 _ _ hpc)), aqC (j := 5) hz5, ?_⟩, ?_⟩
  ·walk_at "rd"
   rw [ea]
   refine ⟨by decide, z5, a, rfl, by lia, fun l hl hs => ⟨by decide, fun p6 H6 n6 s6 e6 => ⟨_, _, .inl (.of ((s05.trans s6) _ _ hpc)), aqC (j := 5) hz5, ?_⟩⟩⟩
   obtain ⟨b, hb, eb⟩ := md (z5 / 4) 2 (by decide)
   walk_at "rd"
   rw [eb]
   obtain ⟨mk, hmk, hm1⟩ : ∃ mk : Option (List Nat), atI [V.non, tV l] (b : Int) = some (otV mk) ∧ ∀ x, mk = some x → Tx 7 x := by
    match b, hb with
    | 0, _ => exact ⟨none, aqC (j := 0) rfl, fun x z => by cases z⟩
    | 1, _ => exact ⟨some l, aqC (j := 1) rfl, fun x z => by cases z; exact ⟨by lia, hs⟩⟩
   exact ⟨⟨by decide, by decide⟩, by decide, _, _, .inl (.of e6), hmk, s6, mk, rfl, hm1⟩
  rintro σ H6 ⟨s6, mk, rfl, hmk⟩
  walk_at "rd"
  obtain ⟨z6, hz6⟩ := cell 6 (by decide)
  refine ⟨by decide, fun p7 H7 n7 s7 e7 => ⟨_, _, .inl (.of ((s05.trans (s6.trans s7)) _ _ hpc)), aqC (j := 6) hz6, z6, rfl, fun qs v H8 hq s8 hv => ⟨by decide, fun p9 H9 n9 s9 e9 => ?_⟩⟩⟩
  have s89 := s8.trans s9
  have s39 := s35.trans (s6.trans (s7.trans s89))
  refine k ⟨sc, ho, dr, rb, ss, en, qs, mk⟩ _ H9 ⟨⟨hs1, hs2, hs3⟩, fun l e => ⟨(hho l e).1, by have := (hho l e).2.1; lia, (hho l e).2.2⟩, hdr, ⟨by show ss.length ≤ 50; lia, fun l hl => ⟨(hss l hl).1, by have := (hss l hl).2.1; lia, (hss l hl).2.2⟩⟩, hrb, hen0, fun ps e => ⟨by have := (hq ps e).1.1; lia, fun p hp => ⟨⟨((hq ps e).2 p hp).1.1, by have := ((hq ps e).1.2 p hp).1; lia, ((hq ps e).2 p hp).1.2⟩, fun v ev => ⟨((hq ps e).1.2 p hp).2 v ev, ((hq ps e).2 p hp).2 v ev⟩⟩⟩, fun l e => ⟨by have := (hmk l e).1; lia, (hmk l e).2⟩⟩ ⟨fun l hl => (hss l hl).2.1, fun ps e => (hq ps e).1, fun l e => (hmk l e).1, fun l e => (hho l e).2.1⟩ hsl hs0 (s03.trans s39) ?_
  exact .tup e9 (.cons (.str _) (.cons (kqf _) (.cons (oqP _) (.cons (.tup (s89 _ _ e7) (.cons (.bl _) (.cons (.tup (s39 _ _ hps) (qqp ss)) (.cons (.bl _) .nil)))) (.cons (hv.mono s9.toT) (.cons (kqf _) .nil))))))
theorem fqV (g : G w K mg) : g.cqw.Ok P w base 4 (fq9 K) := by
 refine g.cqw.F.ok fq8 (fun vs H Q E h => ?_) (fun cdv A outer s H vs Q E hr h => ?_)
 ·obtain ⟨q, v, rfl, _⟩ := h; rfl
 ·obtain ⟨q, v, rfl, hI, hq, hl, k⟩ := h
  refine ⟨_, (aqc (aqK (aqi bq4 (pv 0) aqB (nomark _))
    (aqd (aqh aqn)) aqp)
   (aqd (aqh (aqm (aqF (K := K) rfl) aqn (cqo (K := K) rfl PySem.F.plainAttrs_str PySem.F.slot_str_join PySem.F.type_str_join (gqR (K := K) rfl) aqn (aqa (nqc (K := K) (fx := []) (fr := []) rfl rfl rfl (by decide +kernel) rfl (by decide +kernel) rfl rfl (by decide +kernel) rfl .nil rfl (kqZ (K := K) rfl (pv 0)) (fun _ _ _ => iqB) (fun _ _ _ => (aqs g.dqF (iqh g) hr rfl (aqa (pv 0) (aqa (pv 1) aqb))))) aqb)))))), ?_⟩
  have c1 : Str.ofString "?" = ⟨[63].toArray⟩ := by decide +kernel
  have c2 : Str.ofString "&" = ⟨[38].toArray⟩ := by decide +kernel
  rw [c1, c2]
  walk_at "rd"
  cases q with
  | none =>
   cases hI
   exact ite2 (fun _ => k H (Same.refl _)) (fun z => absurd rfl z)
  | some ps =>
   obtain ⟨p, xs, rfl, hp, r⟩ := eqD hI
   refine ite2 (fun z => by cases z) (fun _ => ?_)
   obtain ⟨hpl, hpp⟩ := hq ps rfl
   have hxl := r.length
   rw [List.length_map] at hxl
   refine ⟨p, rfl, ⟨_, hp⟩, fun p1 hn1 => ?_⟩
   refine nqQ (f := fun i => match ps[i]? with | some p => (.str ⟨p.1.toArray⟩, otV p.2) | none => (.non, .non)) (zs := (ps.map pairT).map fun l => V.str ⟨l.toArray⟩) hp (aqq (by lia)) hn1 (by simp; lia) (fun i x H' hx sm => ?_) (fun i z hi hz H' T sm hT => ?_) (fun H' sm hp' => ?_)
   ·have hi : i < ps.length := by have := (List.getElem?_eq_some_iff.mp hx).1; lia
    have he : ps[i]? = some ps[i] := by simp [hi]
    obtain ⟨b, x1, x2, rfl, hb, b1, b2⟩ := isK2 (iqM r (by rw [List.getElem?_map, he]; rfl) hx)
    cases lq8 b1
    cases oqO b2
    refine ⟨b, rfl, ?_⟩
    rw [he]
    exact sm.tup hb
   ·have hi : i < ps.length := by lia
    have he : ps[i]? = some ps[i] := by simp [hi]
    rw [List.getElem?_map, List.getElem?_map, he] at hz
    simp only [Option.map_some, Option.some.injEq] at hz
    subst hz
    obtain ⟨k1, k2, k3⟩ := hpp ps[i] (List.getElem_mem hi)
    rw [he]
    walk_at "rd"
    exact ⟨ps[i].1, ps[i].2, rfl, k1, k2, k3, hT⟩
   ·walk_at "rd"
    have hj := lqX (sep := 38) (ps.map pairT)
    have hq2 : (queT (some ps)).length = (joinT 38 (ps.map pairT)).length + 1 := by simp [queT]
    refine ⟨(ps.map pairT).map fun l => ⟨l.toArray⟩, by rw [List.map_map (f := fun l : List Nat => (⟨l.toArray⟩ : Str)) (g := V.str)]; exact .of hp', ?_, ?_⟩
    ·rw [mq7, List.length_map]
     have : ((ps.map pairT).map List.length).sum + (ps.map pairT).length ≤ (joinT 38 (ps.map pairT)).length + 1 := hj
     lia
    rw [show (⟨#[38]⟩ : Str) = ⟨[38].toArray⟩ from rfl, lqQ, show (⟨#[63]⟩ : Str) = ⟨[63].toArray⟩ from rfl]
    walk_at "rd"
    refine ⟨aqq (by lia), ?_⟩
    have := k H' sm
    simpa [queT] using this
theorem bqK (g : G w K mg) : g.aq1.Ok P w base 4 (gqC K) := by
 refine g.aq1.F.ok gqD (fun vs H Q E h => ?_) (fun cdv A outer s H vs Q E hr h => ?_)
 ·obtain ⟨x, v, rfl, _⟩ := h; rfl
 ·obtain ⟨x, v, rfl, hI, hn, k⟩ := h
  refine ⟨_, (aqd (aqh (aqm (dqG (K := K) rfl) (aqm (dqG (K := K) rfl) (aq9 (cqu (K := K) rfl) (pv 0) bq1 (bqC (aqe (v := hqR) rfl g.gqN ⟨_, rfl⟩))) (aqG (aqa (aqs g.lqK (oqa g) hr rfl (aqa (aqt (aqf (K := K) rfl) (pv 0) (aqe (v := hqR) rfl g.gqN ⟨_, rfl⟩) (fun _ _ => rfl)) aqb)) aqb))) (aq9 (cqu (K := K) rfl) (pv 0) (bqC (aqe (v := aq0) rfl g.aqV ⟨_, rfl⟩)) bq1)))), ?_⟩
  obtain ⟨p, w, q, rfl, hp, hw, hq⟩ := cqa hI
  walk_at "rd"
  refine ⟨_, hp, fun p1 H1 s1 hp1 => ⟨_, _, .inr (s1.tup hp), rfl, ?_⟩⟩
  refine ⟨x.w, w, rfl, hw.mono s1, hn, fun u H2 s2 hu => ⟨by decide, fun p3 H3 hn3 s3 hp3 => ⟨_, _, (s2.trans s3).tup hp1, .of hp3, (show 4 ≤ sizeLine by decide), fun p4 H4 s4 hp4 => ⟨_, (((s1.trans s2).trans s3).trans s4).tup hp, fun p5 H5 s5 hp5 => ⟨_, _, s5.tup hp4, hp5, (show 6 ≤ sizeLine by decide), fun p6 H6 s6 hp6 => ?_⟩⟩⟩⟩⟩
  have sm : Same H H6 := ((((s1.trans s2).trans s3).trans s4).trans s5).trans s6
  exact k _ H6 sm (adK (x := x.gone) hp6 (hu.mono (((s3.trans s4).trans s5).trans s6)) (hq.mono sm))
theorem hqP (g : G w K mg) : g.fqH.Ok P w base 4 (nqo K) := by
 refine g.fqH.F.ok kqG (fun vs H Q E h => ?_) (fun cdv A outer s H vs Q E hr h => ?_)
 ·obtain ⟨w, v, rfl, _⟩ := h; rfl
 ·obtain ⟨w, v, rfl, hI, hn, k⟩ := h
  refine ⟨_, (aqc (aqj (i := 1) kqG.nd rfl (Or.inl rfl) (aqs g.lqK (oqa g) hr rfl (aqa (pv 0) aqb)))
   (aqd (aqh (aqJ (aqH (aqt (aqf (K := K) rfl) (pv 1) (aqe (v := iqJ) rfl g.hqE ⟨_, rfl⟩) (fun _ _ => rfl))) (aqt (aqf (K := K) rfl) (pv 1) (aqe (v := fq2) rfl g.fqc ⟨_, rfl⟩) (fun _ _ => rfl)) (aq9 (cqu (K := K) rfl) (aqt (aqf (K := K) rfl) (pv 1) (aqe (v := fq2) rfl g.fqc ⟨_, rfl⟩) (fun _ _ => rfl)) bq1 (bqC (pqm lqH aqg))))))), ?_⟩
  walk_at "rd"
  refine ⟨w, v, rfl, hI, hn, fun u H1 s1 hu => ?_⟩
  obtain ⟨pw, ps, rfl, hw, hps⟩ := hqY (K := K) (r := (goneV w).1) (e := (goneV w).2.2) (ss := (goneV w).2.1) hu
  walk_at "rd"
  refine ⟨_, _, .inr hw, rfl, _, rfl, ?_⟩
  cases he : (goneV w).2.2 with
  | true =>
   rw [if_pos rfl]
   refine ⟨_, _, .inr hw, rfl, k ps H1 s1 ?_⟩
   rw [holder, if_pos he]; exact hps
  | false =>
   rw [if_neg (by decide)]
   refine ⟨_, _, .inr hw, rfl, ?_⟩
   walk_at "rd"
   refine ⟨_, hps, fun p2 H2 s2 hp2 => k p2 H2 (s1.trans s2) ?_⟩
   rw [jqg, mqO] at hp2
   rw [holder, if_neg (by rw [he]; decide)]
   exact hp2
theorem gq3 (g : G w K mg) : g.dqc.Ok P w base 4 (hqO K g.aqo) := by
 refine g.dqc.F.ok dq8 (fun vs H Q E h => ?_) (fun cdv A outer s H vs Q E hr h => ?_)
 ·obtain ⟨p, t, rfl, _⟩ := h; rfl
 ·obtain ⟨p, t, rfl, hcur, hl, k⟩ := h
  refine ⟨_, (aqc (aqj (i := 1) dq8.nd rfl (Or.inl rfl) (aqt (aqf (K := K) rfl) (cqo (K := K) rfl PySem.F.plainAttrs_str PySem.F.slot_str_partition PySem.F.type_str_partition gqs (bqR (pv 0) rfl) (aqa aqn aqb)) aqg (fun _ _ => rfl)))
   (aqc (aqK (PW.pt (eqW (aqi cq2 (pv 1) aqn (nomark _)) (eqW (bqY (aqH (aqs g.eq8 (jqJ g) hr rfl (aqa (pv 1) aqb)))) (cq4 (bqY (aqH (aqX (pv 0) g.aql g.aqu (aqz g) (hr.mono (by decide)) g.aqy .nil pass0 (aqa (aqm (aqF (K := K) rfl) (pv 1) aqn) aqb))))))))
    (aqd (aqh aqn)) aqp)
   (aqd (aqh (pv 1))))), ?_⟩
  have e1 : Str.ofString ":" = ⟨[58].toArray⟩ := by decide +kernel
  rw [e1]
  walk_at "rd"
  refine dqu hcur g.aql g.aqP ⟨rfl, qqi.mpr ⟨by decide, aqq (show t.length ≤ 100000 by lia), fun q hq => ?_⟩⟩
  rw [show (⟨#[58]⟩ : Str) = ⟨[58].toArray⟩ from rfl, mqt]
  have sm1 := aqU (o := .tup [.str ⟨(ahead t).toArray⟩, .str (Txt.partition ⟨t.toArray⟩ ⟨[58].toArray⟩).2.1, .str (Txt.partition ⟨t.toArray⟩ ⟨[58].toArray⟩).2.2]) hq
  have hq1 : (upd H q (.tup [.str ⟨(ahead t).toArray⟩, .str (Txt.partition ⟨t.toArray⟩ ⟨[58].toArray⟩).2.1, .str (Txt.partition ⟨t.toArray⟩ ⟨[58].toArray⟩).2.2])) q = some (.tup [.str ⟨(ahead t).toArray⟩, .str (Txt.partition ⟨t.toArray⟩ ⟨[58].toArray⟩).2.1, .str (Txt.partition ⟨t.toArray⟩ ⟨[58].toArray⟩).2.2]) := aqk
  generalize upd H q (.tup [.str ⟨(ahead t).toArray⟩, .str (Txt.partition ⟨t.toArray⟩ ⟨[58].toArray⟩).2.1, .str (Txt.partition ⟨t.toArray⟩ ⟨[58].toArray⟩).2.2]) = H1 at sm1 hq1 ⊢
  have c1 := hcur.same sm1
  have hal := nq5 t
  walk_at "rd"
  refine ⟨_, _, .inr (.of hq1), rfl, ?_⟩
  rw [L2.iqR]
  refine ⟨_, rfl, ?_⟩
  by_cases h1 : ahead t = []
  ·rw [decide_eq_true (by rw [h1]), if_pos rfl]
   obtain ⟨z1, z2⟩ := jqt (t := t) (fun z => z.1 h1)
   have := k H1 sm1.but (by rw [z2]; exact c1)
   rw [z1] at this
   exact this
  rw [decide_eq_false (fun z => h1 (jqV.mp z)), if_neg (by decide)]
  refine ⟨.str ⟨(ahead t).toArray⟩, _, rfl, .str _, by simp [smallD, Str.length]; lia, fun H2 s2 => ⟨_, rfl, ?_⟩⟩
  have c2 := c1.same s2
  have sm2 := sm1.trans s2
  cases h2 : schD (.str ⟨(ahead t).toArray⟩) with
  | false =>
   rw [if_pos rfl]
   obtain ⟨z1, z2⟩ := jqt (t := t) (fun z => by rw [h2] at z; cases z.2.1)
   have := k H2 sm2.but (by rw [z2]; exact c2)
   rw [z1] at this
   exact this
  | true =>
   rw [if_neg (by decide)]
   refine aqr c2 ?_
   rw [show (⟨#[58]⟩ : Str) = ⟨[58].toArray⟩ from rfl]
   walk_at "rd"
   refine ⟨aqq (by simp; lia), ?_⟩
   by_cases h3 : t[(ahead t).length]? = some 58
   ·obtain ⟨z1, z2⟩ := lqW h1 h2 h3
    have ht := (iqy t).mpr h3
    refine bq9 (w := ahead t ++ [58]) (r := t.drop (ahead t ++ [58]).length) c2 (Nat.zero_le _) (by lia) ?_ fun H3 s3 c3 _ _ => ⟨_, rfl, ?_⟩
    ·rw [List.drop_zero]
     conv => lhs; rw [← List.take_append_drop (ahead t ++ [58]).length t, ht]
    rw [if_neg (by decide)]
    have := k H3 (sm2.but.trans s3) (by rw [z2]; rw [Nat.zero_add] at c3; exact c3)
    rw [z1] at this
    exact this
   ·obtain ⟨z1, z2⟩ := jqt (t := t) (fun z => h3 z.2.2)
    refine lqi (w := ahead t ++ [58]) c2 (Nat.zero_le _) (by lia) (by rw [List.drop_zero]; exact fun z => h3 ((iqy t).mp z)) ⟨_, rfl, ?_⟩
    rw [if_pos rfl]
    have := k H2 sm2.but (by rw [z2]; exact c2)
    rw [z1] at this
    exact this
theorem bqw (g : G w K mg) : FnOk P w K mg base CX0 4 g.cq5 g.bqV ["cursor", "free", "most"] (iqY K g.aqo) := by
 refine g.aq6.ok dqD (fun vs H Q E h => ?_) (fun cdv A outer s H vs Q E hr h => ?_)
 ·obtain ⟨p, t, fr, s, w, r, i, mo, rfl, _⟩ := h; rfl
 ·obtain ⟨p, t, fr, s, w', r, i, mo, rfl, hcur, hi, hl, h128, hfl, hd, hw, hst, hmo, k⟩ := h
  refine ⟨_, (aqc (aqj (i := 3) dqD.nd rfl (Or.inl rfl) (tqI aqb))
   (aqc (aqj (i := 4) dqD.nd rfl (Or.inl rfl) (aqm (aqF (K := K) rfl) (aqm (aqF (K := K) rfl) (aqe (v := kqW) rfl g.kq8 ⟨_, rfl⟩) (pv 1)) aqn))
   (aqc (fqn PassesOwn.never (PW.pt (eq5 (PW.pt (eqW (aqi bq4 (pv 2) aqB (nomark _)) (cq4 (aqi pqT (aqD (aqI (K := K) rfl) rfl g.dqS PySem.boot_len (aqa (pv 3) aqb)) (pv 2) (nomark _))))) (dqy (aqH (aqX (pv 0) g.aql g.bqD (cqm g) (hr.mono (by decide)) g.bq0 .nil pass0 (aqa (pv 4) aqb))))))
   (aqd (dqa (cqo (K := K) rfl PySem.F.plainAttrs_list PySem.F.slot_list_append PySem.F.type_list_append cqn (pv 3) (aqa (aqJ (aqH (aqX (pv 0) g.aql g.aqu (aqz g) (hr.mono (by decide)) g.aqy .nil pass0 (aqa aqn aqb))) (aqs g.eqs (iq5 g) hr rfl (aqa (pv 0) aqb)) (dqv (pv 0) g.aql g.bqi (bqE g) (hr.mono (by decide)) g.bqy .nil pass0)) aqb)))))
   (aqd (aqh (cqo (K := K) rfl PySem.F.plainAttrs_str PySem.F.slot_str_join PySem.F.type_str_join (gqR (K := K) rfl) aqn (aqa (pv 3) aqb))))))), ?_⟩
  have eP : kqW = .str ⟨plS.toArray⟩ := by
   show V.str (Str.ofString _) = _
   unfold plS; simp
  rw [eP]
  walk_at "rd"
  refine ⟨by decide, fun q hq => ⟨aqq (by rw [nqx]; lia), aqq (by rw [List.length_append, nqx]; lia), ?_⟩⟩
  have hqp : q ≠ p := by obtain ⟨dx, hp⟩ := hcur; exact (aqx hp hq).symm
  refine hqB (fun m σ H' => ∃ (dn s' u w2 : List Nat), m = s'.length ∧ σ = [some (.ref p), some (.str ⟨fr.toArray⟩), some (moV mo), some (.ref q), some (.str ⟨(plS ++ fr ++ [126]).toArray⟩)] ∧ s = dn ++ s' ∧ w' = u ++ w2 ∧ WrT fr s' w2 ∧ H' q = some (.lst (dn.map one)) ∧ SameBut p H H' ∧ Cur H' g.aqo p t (i + u.length)) s.length ⟨[], s, [], w', rfl, rfl, rfl, rfl, hw, aqk, (aqU hq).but, ?_⟩ ?_
  ·obtain ⟨dx, hp⟩ := hcur
   exact ⟨dx, by rw [aqA hqp.symm]; exact hp⟩
  rintro m σ H' ⟨dn, s', u, w2, rfl, rfl, es, ew, hw2, hq', sb, cur⟩
  have hd2 : t.drop (i + u.length) = w2 ++ r := by rw [← List.drop_drop, hd, ew, List.append_assoc, List.drop_left]
  have hdl : dn.length + s'.length = s.length := by rw [es, List.length_append]
  have hwl : i + w'.length ≤ t.length := by
   have := congrArg List.length hd
   rw [List.length_drop, List.length_append] at this
   lia
  have hk : i + u.length ≤ t.length := by rw [ew, List.length_append] at hwl; lia
  have hsl := qqM hw
  have hlen : (dn.map one).length < sizeLine := by
   rw [List.length_map]
   exact Nat.lt_of_le_of_lt (show dn.length ≤ 100000 by lia) (by decide)
  have fin : s' = [] → ∃ ys : List Str, SqL K H' q (ys.map V.str) ∧ (ys.map fun x => x.length).sum + ys.length * 0 ≤ 16777216 ∧ Q (V.str (Txt.join ⟨#[]⟩ ys)) H' := fun e => by
   subst e
   cases hw2
   rw [List.append_nil] at es ew
   refine ⟨dn.map fun c => ⟨[c].toArray⟩, SqL.of (by rw [hq', List.map_map]; rfl), ?_, ?_⟩
   ·rw [nq1]
    simp only [List.length_map, Nat.mul_zero, Nat.add_zero]
    lia
   ·rw [show (⟨#[]⟩ : Str) = ⟨([] : List Nat).toArray⟩ from rfl, lqF, mqX]
    rw [es, ew] at k
    exact k H' sb cur
  cases mo with
  | none =>
   walk_at "rd"
   rw [if_pos (show moV none = V.non from rfl)]
   cases hw2 with
   | nil =>
    have hn : ∀ c, t[i + u.length]? = some c → c ∉ plS ++ fr ++ [126] := fun c hc hin => by
     have hs0 : Stops fr r := hst.resolve_right (by simp)
     have hr : r.head? = some c := by rw [← hc, ← List.head?_drop, hd2]; rfl
     obtain ⟨z1, z2, z3⟩ := hs0 c hr
     have hlt := h128 c (List.mem_of_getElem? hc)
     rcases List.mem_append.mp hin with hin | hin
     ·rcases List.mem_append.mp hin with hin | hin
      ·rw [(lqI hlt).mp hin] at z1; cases z1
      ·exact z2 hin
     ·exact z3 (List.mem_singleton.mp hin)
    have hb : seesB t (plS ++ fr ++ [126]) (i + u.length) = false := by
     cases hc : t[i + u.length]? with
     | none => exact eqH hc
     | some c => rw [aqZ hc]; exact decide_eq_false (hn c hc)
    refine aqr cur ⟨p, t, _, i + u.length, rfl, cur, hk, hl, _, rfl, ?_⟩
    rw [hb, if_neg (by decide)]
    exact fin rfl
   | self hpl hne hw3 =>
    rename_i c s3 w3
    obtain ⟨hx, hlt⟩ := fqW (show t.drop (i + u.length) = c :: (w3 ++ r) from hd2)
    have hc := h128 c (List.mem_of_getElem? hx)
    have hin : c ∈ plS ++ fr ++ [126] := List.mem_append.mpr (.inl (List.mem_append.mpr (hpl.imp (lqI hc).mpr id)))
    refine aqr cur ⟨p, t, _, i + u.length, rfl, cur, hk, hl, _, rfl, ?_⟩
    rw [aqZ hx, decide_eq_true hin, if_pos rfl]
    refine ⟨_, fun _ _ h => h, ⟨_, .of hq'⟩, aqr cur ⟨p, t, [126], i + u.length, rfl, cur, hk, hl, fun hp1 => ?_, fun _ => ⟨_, rfl, ?_⟩⟩⟩
    ·rw [hd2] at hp1
     exact absurd (List.cons.inj hp1).1 hne
    rw [if_neg (by decide)]
    refine aqr cur ⟨p, t, i + u.length, c, rfl, cur, hx, hl, fun H1 s1 c1 => ⟨_, s1 _ _ hqp hq', hlen, s3.length, Nat.lt_succ_self _, dn ++ [c], s3, u ++ [c], w3, rfl, rfl, by rw [es, List.append_assoc]; rfl, by rw [ew, List.append_assoc]; rfl, hw3, ?_, ?_, ?_⟩⟩
    ·rw [aqk, List.map_append]; rfl
    ·exact (sb.trans s1).upd hq
    ·obtain ⟨dx, hpp⟩ := c1
     rw [List.length_append, List.length_singleton, ← Nat.add_assoc]
     exact ⟨dx, by rw [aqA hqp.symm]; exact hpp⟩
   | pair hsg hw3 =>
    rename_i c a b s3 w3
    obtain ⟨hx, hlt⟩ := fqW (show t.drop (i + u.length) = 126 :: (a :: b :: (w3 ++ r)) from hd2)
    have hin : 126 ∈ plS ++ fr ++ [126] := List.mem_append.mpr (.inr (List.mem_singleton.mpr rfl))
    refine aqr cur ⟨p, t, _, i + u.length, rfl, cur, hk, hl, _, rfl, ?_⟩
    rw [aqZ hx, decide_eq_true hin, if_pos rfl]
    refine ⟨_, fun _ _ h => h, ⟨_, .of hq'⟩, aqr cur ⟨p, t, [126], i + u.length, rfl, cur, hk, hl, fun _ H1 s1 c1 => ⟨_, rfl, ?_⟩, fun hp1 => ?_⟩⟩
    ·rw [if_pos rfl]
     have hd3 : t.drop (i + u.length + 1) = a :: b :: (w3 ++ r) := by rw [← List.drop_drop, hd2]; rfl
     refine ⟨p, t, w3 ++ r, i + u.length + 1, a, b, c, rfl, c1, hd3, hsg, hl, fun H2 s2 c2 => ⟨_, (s1.trans s2) _ _ hqp hq', hlen, s3.length, Nat.lt_succ_self _, dn ++ [c], s3, u ++ [126, a, b], w3, rfl, rfl, by rw [es, List.append_assoc]; rfl, by rw [ew, List.append_assoc]; rfl, hw3, ?_, ?_, ?_⟩⟩
     ·rw [aqk, List.map_append]; rfl
     ·exact ((sb.trans s1).trans s2).upd hq
     ·obtain ⟨dx, hpp⟩ := c2
      rw [List.length_append, show [126, a, b].length = 3 from rfl, show i + (u.length + 3) = i + u.length + 1 + 2 by lia]
      exact ⟨dx, by rw [aqA hqp.symm]; exact hpp⟩
    ·rw [hd2] at hp1
     exact absurd rfl hp1
  | some m =>
   have hm := hmo m rfl
   walk_at "rd"
   rw [if_neg (by intro z; cases z)]
   refine ⟨_, .inl (.of hq'), ?_⟩
   show rI0 (fun i j => V.bl (decide (i < j))) (V.int _) (V.int (m : Int)) H' _
   walk_at "rd"
   refine ite2 (fun hlt0 => ?_) (fun hge => ?_)
   ·rw [List.length_map] at hlt0
    cases hw2 with
    | nil =>
     have hn : ∀ c, t[i + u.length]? = some c → c ∉ plS ++ fr ++ [126] := fun c hc hin => by
      have hs0 : Stops fr r := hst.resolve_right (fun z => by have := Option.some.inj z; simp at hdl; lia)
      have hr : r.head? = some c := by rw [← hc, ← List.head?_drop, hd2]; rfl
      obtain ⟨z1, z2, z3⟩ := hs0 c hr
      have hlt := h128 c (List.mem_of_getElem? hc)
      rcases List.mem_append.mp hin with hin | hin
      ·rcases List.mem_append.mp hin with hin | hin
       ·rw [(lqI hlt).mp hin] at z1; cases z1
       ·exact z2 hin
      ·exact z3 (List.mem_singleton.mp hin)
     have hb : seesB t (plS ++ fr ++ [126]) (i + u.length) = false := by
      cases hc : t[i + u.length]? with
      | none => exact eqH hc
      | some c => rw [aqZ hc]; exact decide_eq_false (hn c hc)
     refine aqr cur ⟨p, t, _, i + u.length, rfl, cur, hk, hl, _, rfl, ?_⟩
     rw [hb, if_neg (by decide)]
     exact fin rfl
    | self hpl hne hw3 =>
     rename_i c s3 w3
     obtain ⟨hx, hlt⟩ := fqW (show t.drop (i + u.length) = c :: (w3 ++ r) from hd2)
     have hc := h128 c (List.mem_of_getElem? hx)
     have hin : c ∈ plS ++ fr ++ [126] := List.mem_append.mpr (.inl (List.mem_append.mpr (hpl.imp (lqI hc).mpr id)))
     refine aqr cur ⟨p, t, _, i + u.length, rfl, cur, hk, hl, _, rfl, ?_⟩
     rw [aqZ hx, decide_eq_true hin, if_pos rfl]
     refine ⟨_, fun _ _ h => h, ⟨_, .of hq'⟩, aqr cur ⟨p, t, [126], i + u.length, rfl, cur, hk, hl, fun hp1 => ?_, fun _ => ⟨_, rfl, ?_⟩⟩⟩
     ·rw [hd2] at hp1
      exact absurd (List.cons.inj hp1).1 hne
     rw [if_neg (by decide)]
     refine aqr cur ⟨p, t, i + u.length, c, rfl, cur, hx, hl, fun H1 s1 c1 => ⟨_, s1 _ _ hqp hq', hlen, s3.length, Nat.lt_succ_self _, dn ++ [c], s3, u ++ [c], w3, rfl, rfl, by rw [es, List.append_assoc]; rfl, by rw [ew, List.append_assoc]; rfl, hw3, ?_, ?_, ?_⟩⟩
     ·rw [aqk, List.map_append]; rfl
     ·exact (sb.trans s1).upd hq
     ·obtain ⟨dx, hpp⟩ := c1
      rw [List.length_append, List.length_singleton, ← Nat.add_assoc]
      exact ⟨dx, by rw [aqA hqp.symm]; exact hpp⟩
    | pair hsg hw3 =>
     rename_i c a b s3 w3
     obtain ⟨hx, hlt⟩ := fqW (show t.drop (i + u.length) = 126 :: (a :: b :: (w3 ++ r)) from hd2)
     have hin : 126 ∈ plS ++ fr ++ [126] := List.mem_append.mpr (.inr (List.mem_singleton.mpr rfl))
     refine aqr cur ⟨p, t, _, i + u.length, rfl, cur, hk, hl, _, rfl, ?_⟩
     rw [aqZ hx, decide_eq_true hin, if_pos rfl]
     refine ⟨_, fun _ _ h => h, ⟨_, .of hq'⟩, aqr cur ⟨p, t, [126], i + u.length, rfl, cur, hk, hl, fun _ H1 s1 c1 => ⟨_, rfl, ?_⟩, fun hp1 => ?_⟩⟩
     ·rw [if_pos rfl]
      have hd3 : t.drop (i + u.length + 1) = a :: b :: (w3 ++ r) := by rw [← List.drop_drop, hd2]; rfl
      refine ⟨p, t, w3 ++ r, i + u.length + 1, a, b, c, rfl, c1, hd3, hsg, hl, fun H2 s2 c2 => ⟨_, (s1.trans s2) _ _ hqp hq', hlen, s3.length, Nat.lt_succ_self _, dn ++ [c], s3, u ++ [126, a, b], w3, rfl, rfl, by rw [es, List.append_assoc]; rfl, by rw [ew, List.append_assoc]; rfl, hw3, ?_, ?_, ?_⟩⟩
      ·rw [aqk, List.map_append]; rfl
      ·exact ((sb.trans s1).trans s2).upd hq
      ·obtain ⟨dx, hpp⟩ := c2
       rw [List.length_append, show [126, a, b].length = 3 from rfl, show i + (u.length + 3) = i + u.length + 1 + 2 by lia]
       exact ⟨dx, by rw [aqA hqp.symm]; exact hpp⟩
     ·rw [hd2] at hp1
      exact absurd rfl hp1
   ·rw [List.length_map] at hge
    refine fin ?_
    cases s' with
    | nil => rfl
    | cons c s3 => simp only [List.length_cons] at hdl; lia
theorem dqg (g : G w K mg) : g.dqY.Ok P w base 5 (rqD K) := by
 refine g.dqY.F.ok nqr (fun vs H Q E h => ?_) (fun cdv A outer s H vs Q E hr h => ?_)
 ·obtain ⟨x, v, rfl, _⟩ := h; rfl
 ·obtain ⟨x, v, rfl, hI, wf, sz, k⟩ := h
  refine ⟨_, (aqE (aqj (i := 1) nqr.nd rfl (Or.inl rfl) (aqJ (aqH (aqs g.bqQ (cqd g) hr rfl (aqa (pv 0) aqb))) (aqm (aqF (K := K) rfl) (aqt (aqf (K := K) rfl) (pv 0) (aqe (v := eqR) rfl g.dqL ⟨_, rfl⟩) (fun _ _ => rfl)) aqn) aqn))
   (aqd (aqh (aqm (aqF (K := K) rfl) (aqm (aqF (K := K) rfl) (aqm (aqF (K := K) rfl) (aqm (aqF (K := K) rfl) (pv 1) (aqs g.dqO (iqo g) hr rfl (aqa (aqt (aqf (K := K) rfl) (pv 0) (aqe (v := dqC) rfl g.dqe ⟨_, rfl⟩) (fun _ _ => rfl)) (aqa (aqt (aqf (K := K) rfl) (pv 0) (aqe (v := lqJ) rfl g.jqS ⟨_, rfl⟩) (fun _ _ => rfl)) aqb)))) (aqs g.fqg (kqH g) hr rfl (aqa (aqt (aqf (K := K) rfl) (pv 0) (aqe (v := hqR) rfl g.gqN ⟨_, rfl⟩) (fun _ _ => rfl)) aqb))) (aqs g.cqw (fqV g) hr rfl (aqa (aqt (aqf (K := K) rfl) (pv 0) (aqe (v := aq0) rfl g.aqV ⟨_, rfl⟩) (fun _ _ => rfl)) aqb))) (aqs g.eqz (iq3 g) hr rfl (aqa (aqt (aqf (K := K) rfl) (pv 0) (aqe (v := lqN) rfl g.jqY ⟨_, rfl⟩) (fun _ _ => rfl)) aqb)))))), ?_⟩
  obtain ⟨p, w, q, rfl, hp, hwk, i4⟩ := cqa hI
  obtain ⟨pw, ps, rfl, hw, hs⟩ := hqY hwk
  have hlen := sz.all
  rw [Ad.shw] at hlen
  simp only [List.length_append] at hlen
  have c1 : Str.ofString ":" = ⟨[58].toArray⟩ := by decide +kernel
  rw [c1]
  walk_at "rd"
  refine ⟨fun σ H' => H' = H ∧ σ = [some (.ref p), some (.str ⟨(schT x.scheme).toArray⟩)], ?_, ?_⟩
  ·refine ⟨p, x.scheme, _, rfl, hp, _, rfl, ?_⟩
   by_cases hh : x.scheme = []
   ·refine ite2 (fun z => absurd hh (by simpa using z)) (fun _ => ⟨rfl, ?_⟩)
    rw [hh]; rfl
   ·refine ite2 (fun _ => ?_) (fun z => absurd hh (by simpa using z))
    have e : schT x.scheme = x.scheme ++ [58] := by simp [schT, hh]
    refine ⟨_, _, .inr hp, rfl, ?_⟩
    rw [show (⟨#[58]⟩ : Str) = ⟨[58].toArray⟩ from rfl]
    walk_at "rd"
    rw [e, List.length_append] at hlen
    refine ⟨aqq (by simp at hlen ⊢; lia), ?_⟩
    rw [e]
  rintro σ H' ⟨rfl, rfl⟩
  walk_at "rd"
  refine ⟨_, _, .inr hp, rfl, _, _, .inr hp, rfl, x.house, x.door, rfl, fun l e => ⟨(wf.hou l e).1.2, (wf.hou l e).2⟩, wf.doo, fun H1 s1 => ?_⟩
  walk_at "rd"
  refine ⟨aqq (by simp; lia), _, _, .inr (s1.tup hp), rfl, x.rooted, x.ends, x.steps, pw, ps, rfl, s1.tup hw, s1.tup hs, fun s h => ⟨sz.stp s h, (wf.stp s h).2⟩, sz.num, by show x.wayT.length ≤ 90000; lia, fun H2 s2 => ?_⟩
  walk_at "rd"
  refine ⟨aqq (by show _ + x.wayT.length ≤ _; simp; lia), _, _, .inr ((s1.trans s2).tup hp), rfl, x.quest, q, rfl, i4.mono (s1.trans s2), fun ps e => ⟨(sz.que ps e).1, fun q hq => ⟨wf.que ps e q hq, (sz.que ps e).2 q hq⟩⟩, by lia, fun H3 s3 => ?_⟩
  walk_at "rd"
  refine ⟨aqq (by show _ + (queT x.quest).length ≤ _; simp [Ad.wayT] at hlen ⊢; lia), _, _, .inr (((s1.trans s2).trans s3).tup hp), rfl, x.mark, rfl, fun l e => ⟨sz.mar l e, wf.mar l e⟩, fun H4 s4 => ?_⟩
  walk_at "rd"
  refine ⟨aqq (by simp [Ad.wayT] at hlen ⊢; lia), ?_⟩
  have := k H4 (((s1.trans s2).trans s3).trans s4)
  rw [Ad.shw] at this
  simpa [Ad.wayT] using this
theorem kqt (g : G w K mg) : g.fqh.Ok P w base 5 (gqu K g.aqo) := by
 refine g.fqh.F.ok bqr (fun vs H Q E h => ?_) (fun cdv A outer s H vs Q E hr h => ?_)
 ·obtain ⟨p, t, v, rest, i, must, r, ss, e, rfl, _⟩ := h; rfl
 ·obtain ⟨p, t, v, rest, i, must, r, ss, e, rfl, hcur, hi, hl, h128, hd, hw, he, hmr, hst, h47, k⟩ := h
  refine ⟨_, (aqE (aqj (i := 2) bqr.nd rfl (Or.inl rfl) (aqX (pv 0) g.aql g.aqu (aqz g) (hr.mono (by decide)) g.aqy .nil pass0 (aqa aqn aqb)))
   (aqE (aqK (PW.pt (eq5 (aqH (pv 1)) (dqy (bqY (aqH (pv 2))))))
    (aqd (aqh (aqG (aqa dq4 (aqa (aqG aqb) (aqa dq4 aqb)))))) aqp)
   (aqc (aqj (i := 3) bqr.nd rfl (Or.inl rfl) (cqT aqb))
   (aqc (aqj (i := 4) bqr.nd rfl (Or.inl rfl) (pv 2))
   (aqE (aqj (i := 5) bqr.nd rfl (Or.inl rfl) (dqM (dvs := [.non]) (bqw g) (hr.mono (by decide)) rfl g.bqn g.aq6.kp g.bqx (.cons rfl .nil) pass0 (aqa (pv 0) (aqa (aqe (v := cqR) rfl g.cqW ⟨_, rfl⟩) aqb))))
   (aqc (fqn PassesOwn.never (aqi eqS (pv 5) aqn (nomark _))
   (aqc (dqa (cqo (K := K) rfl PySem.F.plainAttrs_list PySem.F.slot_list_append PySem.F.type_list_append cqn (pv 3) (aqa (pv 5) aqb)))
   (aqc (aqj (i := 4) bqr.nd rfl (Or.inl rfl) (aqX (pv 0) g.aql g.aqu (aqz g) (hr.mono (by decide)) g.aqy .nil pass0 (aqa aqn aqb)))
   (aqd (aqj (i := 5) bqr.nd rfl (Or.inl rfl) (dqM (dvs := [.non]) (bqw g) (hr.mono (by decide)) rfl g.bqn g.aq6.kp g.bqx (.cons rfl .nil) pass0 (aqa (pv 0) (aqa (aqe (v := cqR) rfl g.cqW ⟨_, rfl⟩) aqb))))))))
   (aqd (aqh (aqG (aqa (pv 2) (aqa (bq3 (cqQ (K := K) rfl) rfl g.gqd fqy (aqa (pv 3) aqb)) (aqa (pv 4) aqb)))))))))))), ?_⟩
  have eF : cqR = .str ⟨frS.toArray⟩ := by
   show V.str (Str.ofString _) = _
   unfold frS; simp
  have e1 : Str.ofString "/" = ⟨[47].toArray⟩ := by decide +kernel
  rw [eF, e1]
  walk_at "rd"
  refine ⟨fun σ H1 => SameBut p H H1 ∧ ∃ j, σ = [some (.ref p), some (.bl must), some (.bl r), none, none, none] ∧ Cur H1 g.aqo p t j ∧ j ≤ t.length ∧ t.drop j = v ++ rest, ?_, ?_⟩
  ·cases r with
   | true => exact aqr hcur (bq9 (w := [47]) hcur hi hl hd fun H1 s1 c1 hi1 hd1 => ⟨s1, _, rfl, c1, hi1, hd1⟩)
   | false => exact aqr hcur (dqx hcur hi hl (show t.drop i = v ++ rest from hd) (lqS hw h47) ⟨SameBut.refl _ _, i, rfl, hcur, hi, hd⟩)
  rintro σ H1 ⟨s1, j, rfl, c1, hj, hdj⟩
  walk_at "rd"
  refine ⟨fun σ H2 => H2 = H1 ∧ σ = [some (.ref p), some (.bl must), some (.bl r), none, none, none], ?_, ?_⟩
  ·by_cases hm : must = true
   ·rw [if_pos hm, if_neg (by rw [hmr hm]; decide)]
    exact ⟨rfl, rfl⟩
   ·rw [if_neg hm]
    exact ⟨rfl, rfl⟩
  rintro σ H2 ⟨rfl, rfl⟩
  walk_at "rd"
  refine ⟨by decide, fun q H3 hq s3 hq3 => ?_⟩
  have hqp : q ≠ p := by obtain ⟨dx, hp⟩ := c1; exact (aqx hp hq).symm
  have c3 := c1.same s3
  have sb3 : SameBut p H H3 := s1.trans s3.but
  have hqH : H q = none := s1.free hq hqp
  have hssl : ss.length ≤ t.length := by
   have h1 := pqh hw
   have h2 := congrArg List.length hdj
   rw [List.length_drop, List.length_append] at h2
   lia
  obtain ⟨W, hW⟩ : ∃ W : Nat → St → Hp → Prop, W = fun m σ H' => (∃ (dn : List (List Nat)) (s : List Nat) (ss' : List (List Nat)) (v' : List Nat) (j' : Nat) (en : Bool), m = ss'.length + 1 ∧ σ = [some (.ref p), some (.bl must), some (.bl r), some (.ref q), some (.bl en), some (.str ⟨s.toArray⟩)] ∧ s ≠ [] ∧ ss = dn ++ s :: ss' ∧ TlW ss' e v' ∧ Cur H' g.aqo p t j' ∧ j' ≤ t.length ∧ t.drop j' = v' ++ rest ∧ H' q = some (.lst (dn.map sV)) ∧ SameBut p H H')
    ∨ (m = 0 ∧ σ = [some (.ref p), some (.bl must), some (.bl r), some (.ref q), some (.bl e), some (.str ⟨#[]⟩)] ∧ H' q = some (.lst (ss.map sV)) ∧ SameBut p H H' ∧ Cur H' g.aqo p t (t.length - rest.length)) := ⟨_, rfl⟩
  have rl : ∀ {j'' : Nat} {v'' : List Nat}, t.drop j'' = v'' ++ rest → j'' + v''.length = t.length - rest.length ∨ t.length < j'' := fun {j'' v''} h => by
   have := congrArg List.length h
   rw [List.length_drop, List.length_append] at this
   lia
  refine ⟨fun σ H4 => ∃ m, W m σ H4, ?_, ?_⟩
  ·cases hw with
   | none =>
    refine ⟨p, t, frS, [], [], rest, j, none, rfl, c3, hj, hl, h128, hqG, hdj, .nil, .inl hst, (fun m z => by cases z), fun H4 s4 c4 => ⟨0, ?_⟩⟩
    rw [hW]
    refine .inr ⟨rfl, by rw [he rfl], s4 _ _ hqp hq3, sb3.trans s4, ?_⟩
    rcases rl (v'' := []) hdj with z | z
    ·rw [← z]; exact c4
    ·lia
   | some hws hs htl =>
    rename_i s w0 ss0 v0
    refine ⟨p, t, frS, s, w0, v0 ++ rest, j, none, rfl, c3, hj, hl, h128, hqG, by rw [hdj, List.append_assoc], hws, .inl (lqY htl hst), (fun m z => by cases z), fun H4 s4 c4 => ⟨ss0.length + 1, ?_⟩⟩
    rw [hW]
    refine .inl ⟨[], s, ss0, v0, j + w0.length, r, rfl, rfl, hs, rfl, htl, c4, ?_, ?_, s4 _ _ hqp hq3, sb3.trans s4⟩
    ·have := congrArg List.length hdj
     rw [List.length_drop, List.length_append, List.length_append] at this
     lia
    ·rw [← List.drop_drop, hdj, List.append_assoc, List.drop_left]
  rintro σ H4 ⟨m, hm⟩
  unfold L2.Later
  rw [L2.nqj]
  refine hqB W m hm ?_
  rintro m σ H5 hm
  rw [hW] at hm
  rcases hm with ⟨dn, s, ss', v', j', en, rfl, rfl, hs, ess, htl, c5, hj5, hd5, hq5, sb5⟩ | ⟨rfl, rfl, hq5, sb5, c5⟩
  ·walk_at "rd"
   refine ite2 (fun _ => ⟨_, fun _ _ h => h, ⟨_, .of hq5⟩, _, hq5, ?_, ?_⟩) (fun z => absurd (jqV.mp (Classical.not_not.mp z)) hs)
   ·have := congrArg List.length ess
    rw [List.length_append, List.length_cons] at this
    rw [List.length_map]
    exact Nat.lt_of_le_of_lt (show dn.length ≤ 100000 by lia) (by decide)
   have c6 : Cur (upd H5 q (.lst (dn.map sV ++ [sV s]))) g.aqo p t j' := by
    obtain ⟨dx, hp⟩ := c5
    exact ⟨dx, by rw [aqA hqp.symm]; exact hp⟩
   have sb6 : SameBut p H (upd H5 q (.lst (dn.map sV ++ [sV s]))) := sb5.upd hqH
   have hq6 : (upd H5 q (.lst (dn.map sV ++ [sV s]))) q = some (.lst ((dn ++ [s]).map sV)) := by rw [aqk, List.map_append]; rfl
   generalize upd H5 q (.lst (dn.map sV ++ [sV s])) = H6 at c6 sb6 hq6 ⊢
   cases htl with
   | stop =>
    refine aqr c6 (dqx c6 hj5 hl hd5 h47 ?_)
    refine ⟨p, t, frS, [], [], rest, j', none, rfl, c6, hj5, hl, h128, hqG, hd5, .nil, .inl hst, (fun m z => by cases z), fun H7 s7 c7 => ⟨0, by lia, ?_⟩⟩
    rw [hW]
    refine .inr ⟨rfl, rfl, by rw [ess]; exact s7 _ _ hqp hq6, sb6.trans s7, ?_⟩
    rcases rl (v'' := []) hd5 with z | z
    ·rw [← z]; exact c7
    ·lia
   | ends =>
    refine aqr c6 (bq9 (w := [47]) (r := rest) c6 hj5 hl hd5 fun H7 s7 c7 hi7 hd7 => ?_)
    refine ⟨p, t, frS, [], [], rest, _, none, rfl, c7, hi7, hl, h128, hqG, hd7, .nil, .inl hst, (fun m z => by cases z), fun H8 s8 c8 => ⟨0, by lia, ?_⟩⟩
    rw [hW]
    refine .inr ⟨rfl, rfl, by rw [ess]; exact (s7.trans s8) _ _ hqp hq6, (sb6.trans s7).trans s8, ?_⟩
    rcases rl (v'' := []) hd7 with z | z
    ·rw [← z]; exact c8
    ·lia
   | more hws hs2 htl2 =>
    rename_i s2 w2 ss2 v2
    refine aqr c6 (bq9 (w := [47]) (r := (w2 ++ v2) ++ rest) c6 hj5 hl hd5 fun H7 s7 c7 hi7 hd7 => ?_)
    refine ⟨p, t, frS, s2, w2, v2 ++ rest, _, none, rfl, c7, hi7, hl, h128, hqG, by rw [hd7, List.append_assoc], hws, .inl (lqY htl2 hst), (fun m z => by cases z), fun H8 s8 c8 => ⟨ss2.length + 1, by simp only [List.length_cons]; lia, ?_⟩⟩
    rw [hW]
    refine .inl ⟨dn ++ [s], s2, ss2, v2, _, true, rfl, rfl, hs2, by rw [ess, List.append_assoc]; rfl, htl2, c8, ?_, ?_, (s7.trans s8) _ _ hqp hq6, (sb6.trans s7).trans s8⟩
    ·have := congrArg List.length hd7
     rw [List.length_drop, List.length_append, List.length_append] at this
     lia
    ·rw [← List.drop_drop, hd7, List.append_assoc, List.drop_left]
  ·walk_at "rd"
   exact ⟨_, .inl (.of hq5), fun pt Ha sa hpt => ⟨by decide, fun pw Hb nb sb' hpw => k _ Hb ((sb5.trans sa.but).trans sb'.but) ((c5.same sa).same sb') (wayT' hpw (sb' _ _ hpt))⟩⟩
theorem eq3 (g : G w K mg) : g.cqD.Ok P w base 5 (iqm K g.aqo) := by
 refine g.cqD.F.ok iqi (fun vs H Q E h => ?_) (fun cdv A outer s H vs Q E hr h => ?_)
 ·obtain ⟨p, t, w, r, i, o, rfl, _⟩ := h; rfl
 ·obtain ⟨p, t, w', r, i, o, rfl, hcur, hi, hl, h128, hd, hw, hst, hh, k⟩ := h
  refine ⟨_, (aqd (aqh (aqJ (aqH (aqX (pv 0) g.aql g.aqu (aqz g) (hr.mono (by decide)) g.aqy .nil pass0 (aqa aqn aqb))) (dqM (dvs := [.non]) (bqw g) (hr.mono (by decide)) rfl g.bqn g.aq6.kp g.bqx (.cons rfl .nil) pass0 (aqa (pv 0) (aqa (aqe (v := aqR) rfl g.aq8 ⟨_, rfl⟩) aqb))) aqB))), ?_⟩
  have eF : aqR = .str ⟨frQ.toArray⟩ := by
   show V.str (Str.ofString _) = _
   unfold frQ; simp
  have e1 : Str.ofString "=" = ⟨[61].toArray⟩ := by decide +kernel
  rw [eF, e1]
  walk_at "rd"
  cases o with
  | none =>
   have hw : w' = [] := hw
   subst hw
   refine aqr hcur (dqx hcur hi hl hd (by simpa using hh) ⟨_, rfl, ?_⟩)
   rw [if_neg (by decide)]
   exact k H (SameBut.refl _ _) hcur
  | some s =>
   obtain ⟨v, rfl, hv⟩ := hw
   refine aqr hcur (bq9 (w := [61]) (r := v ++ r) hcur hi hl hd fun H1 s1 c1 hi1 hd1 => ⟨_, rfl, ?_⟩)
   rw [if_pos rfl]
   refine ⟨p, t, frQ, s, v, r, _, none, rfl, c1, hi1, hl, h128, jqe, hd1, hv, .inl hst, (fun m z => by cases z), fun H2 s2 c2 => k H2 (s1.trans s2) ?_⟩
   rw [List.length_cons, show i + (v.length + 1) = i + [61].length + v.length by simp only [List.length_singleton]; lia]
   exact c2
theorem jqf (g : G w K mg) : g.eqo.Ok P w base 5 (jqj K g.aqo) := by
 refine g.eqo.F.ok iq4 (fun vs H Q E h => ?_) (fun cdv A outer s H vs Q E hr h => ?_)
 ·obtain ⟨p, t, w, i, o, rfl, _⟩ := h; rfl
 ·obtain ⟨p, t, w', i, o, rfl, hcur, hi, hl, h128, hd, hw, k⟩ := h
  refine ⟨_, (aqd (aqh (aqJ (aqH (aqX (pv 0) g.aql g.aqu (aqz g) (hr.mono (by decide)) g.aqy .nil pass0 (aqa aqn aqb))) (dqM (dvs := [.non]) (bqw g) (hr.mono (by decide)) rfl g.bqn g.aq6.kp g.bqx (.cons rfl .nil) pass0 (aqa (pv 0) (aqa (aqe (v := eqy) rfl g.eqq ⟨_, rfl⟩) aqb))) aqB))), ?_⟩
  have eF : eqy = .str ⟨frM.toArray⟩ := by
   show V.str (Str.ofString _) = _
   unfold frM; simp
  have e1 : Str.ofString "#" = ⟨[35].toArray⟩ := by decide +kernel
  rw [eF, e1]
  walk_at "rd"
  cases o with
  | none =>
   have hw : w' = [] := hw
   refine aqr hcur (dqx hcur hi hl hd (by rw [hw]; simp) ⟨_, rfl, ?_⟩)
   rw [if_neg (by decide)]
   have e : i = t.length := by have := congrArg List.length hd; rw [List.length_drop, hw, List.length_nil] at this; lia
   exact k H (SameBut.refl _ _) (e ▸ hcur)
  | some s =>
   obtain ⟨v, rfl, hv⟩ := hw
   refine aqr hcur (bq9 (r := v) hcur hi hl hd fun H1 s1 c1 hi1 hd1 => ⟨_, rfl, ?_⟩)
   rw [if_pos rfl]
   refine ⟨p, t, frM, s, v, [], _, none, rfl, c1, hi1, hl, h128, rqT, by rw [hd1, List.append_nil], hv, .inl hqk, (fun m z => by cases z), fun H2 s2 c2 => k H2 (s1.trans s2) ?_⟩
   have e : i + [35].length + v.length = t.length := by have := congrArg List.length hd1; rw [List.length_drop] at this; lia
   rw [e] at c2
   exact c2
theorem cqy (g : G w K mg) : FnOk P w K mg base CX0 5 g.bqc g.aqO ["cursor", "free", "most"] (eqT K g.aqo) := by
 refine g.aq7.ok cqA (fun vs H Q E h => ?_) (fun cdv A outer s H vs Q E hr h => ?_)
 ·obtain ⟨p, t, fr, s, w, r, i, mo, rfl, _⟩ := h; rfl
 ·obtain ⟨p, t, fr, s, w', r, i, mo, rfl, hcur, hi, hl, h128, hfl, hd, hw, hne, hst, hmo, k⟩ := h
  refine ⟨_, (aqc (aqj (i := 3) cqA.nd rfl (Or.inl rfl) (dqM (bqw g) (hr.mono (by decide)) rfl g.bqn g.aq6.kp g.gql .nil pass0 (aqa (pv 0) (aqa (pv 1) (aqa (pv 2) aqb)))))
   (aqc (aqK (aqi cq2 (pv 3) aqn (nomark _))
    (aqd bqa) aqp)
   (aqd (aqh (pv 3))))), ?_⟩
  walk_at "rd"
  refine ⟨p, t, fr, s, w', r, i, mo, rfl, hcur, hi, hl, h128, hfl, hd, hw, hst, hmo, fun H1 s1 c1 => ?_⟩
  walk_at "rd"
  rw [if_neg (fun z => hne (jqV.mp z))]
  exact k H1 s1 c1
theorem gqU (g : G w K mg) : g.gqb.Ok P w base 5 (pql K) := by
 refine g.gqb.F.ok iq1 (fun vs H Q E h => ?_) (fun cdv A outer s H vs Q E hr h => ?_)
 ·obtain ⟨x, v, rfl, _⟩ := h; rfl
 ·obtain ⟨x, v, rfl, hI, wf, hn, k⟩ := h
  refine ⟨_, (aqc (aqj (i := 1) iq1.nd rfl (Or.inl rfl) (aqt (aqf (K := K) rfl) (pv 0) (aqe (v := dqC) rfl g.dqe ⟨_, rfl⟩) (fun _ _ => rfl)))
   (aqE (aqj (i := 2) iq1.nd rfl (Or.inl rfl) (aqJ (aqi bq4 (pv 1) aqB (nomark _)) aqB (lqB (K := K) rfl PySem.F.plainAttrs_str PySem.F.slot_str_lower PySem.F.type_str_lower lqZ (pv 1))))
   (aqd (aqh (aqs g.aq1 (bqK g) hr rfl (aqa (aqm (dqG (K := K) rfl) (aqG (aqa (lqB (K := K) rfl PySem.F.plainAttrs_str PySem.F.slot_str_lower PySem.F.type_str_lower lqZ (aqt (aqf (K := K) rfl) (pv 0) (aqe (v := eqR) rfl g.dqL ⟨_, rfl⟩) (fun _ _ => rfl))) (aqa (pv 2) aqb))) (aq9 (cqu (K := K) rfl) (pv 0) (bqC (aqe (v := lqJ) rfl g.jqS ⟨_, rfl⟩)) bq1)) aqb)))))), ?_⟩
  obtain ⟨p, w, q, rfl, hp, hw, hq⟩ := cqa hI
  have low : ∀ l : List Nat, (l.map PyProof.Rows.lo1) = lowT l := fun l => rfl
  have hsc : ∀ c ∈ x.scheme, c < 128 := fun c hc => fqL (iqN (wf.sch.2.1 c hc))
  walk_at "rd"
  refine ⟨_, _, .inr hp, rfl, ?_⟩
  refine ⟨fun σ H1 => H1 = H ∧ σ = [some (.ref p), some (otV x.house), some (otV (x.house.map lowT))], ?_, ?_⟩
  ·walk_at "rd"
   cases hh : x.house with
   | none => exact ite2 (fun _ => rfl) (fun z => absurd rfl z)
   | some l =>
    refine ite2 (fun z => absurd z (by simp [otV])) (fun _ => ?_)
    have hl := wf.hou l hh
    refine ⟨rfl, ?_⟩
    show rLower (.str ⟨l.toArray⟩) [] H _
    walk_at "rd"
    refine ⟨fun c hc => fqL (hl.2 c hc), by lia, ?_⟩
    rw [low]
    rfl
  rintro σ H1 ⟨rfl, rfl⟩
  walk_at "rd"
  refine ⟨_, _, .inr hp, rfl, ?_⟩
  walk_at "rd"
  rw [low]
  refine ⟨hsc, by have := wf.sch.1; lia, by decide, fun p2 H2 hn2 s2 hp2 => ⟨_, s2.tup hp, fun p3 H3 s3 hp3 => ⟨_, _, .of (s3 _ _ hp2), hp3, (show 6 ≤ sizeLine by decide), fun p4 H4 s4 hp4 => ?_⟩⟩⟩
  have sm := (s2.trans s3).trans s4
  refine ⟨{ x with scheme := lowT x.scheme, house := x.house.map lowT }, _, rfl, adK (x := { x with scheme := lowT x.scheme, house := x.house.map lowT }) hp4 (hw.mono sm) (hq.mono sm), hn, fun u H5 s5 hu => k u H5 (sm.trans s5) hu⟩
theorem iqf (g : G w K mg) : g.dqB.Ok P w base 5 (iqc K) := by
 refine g.dqB.F.ok bqg (fun vs H Q E h => ?_) (fun cdv A outer s H vs Q E hr h => ?_)
 ·obtain ⟨b, g, vb, vg, rfl, _⟩ := h; rfl
 ·obtain ⟨b, g', vb, vg, rfl, hB, hG, eb, eg, hb, hg, k⟩ := h
  refine ⟨_, (aqc (aqj (i := 2) bqg.nd rfl (Or.inl rfl) (aqs g.fqH (hqP g) hr rfl (aqa (pv 0) aqb)))
   (aqc (aqj (i := 3) bqg.nd rfl (Or.inl rfl) (aqs g.fqH (hqP g) hr rfl (aqa (pv 1) aqb)))
   (aqc (aqj (i := 4) bqg.nd rfl (Or.inl rfl) (aqs g.cqc (fqx g) hr rfl (aqa (pv 2) (aqa (pv 3) aqb))))
   (aqE (aqj (i := 5) bqg.nd rfl (Or.inl rfl) (aqJ (aqH (aqt (aqf (K := K) rfl) (pv 1) (aqe (v := iqJ) rfl g.hqE ⟨_, rfl⟩) (fun _ _ => rfl))) (aqG aqb) (aq9 (cqu (K := K) rfl) (aqt (aqf (K := K) rfl) (pv 1) (aqe (v := fq2) rfl g.fqc ⟨_, rfl⟩) (fun _ _ => rfl)) (bqC (pqm lqH aqg)) bq1)))
   (aqc (aqj (i := 6) bqg.nd rfl (Or.inl rfl) (aqm (dqG (K := K) rfl) (aqm (dqG (K := K) rfl) (aqm qqx (aqG (aqa (aqe (v := k_UP) rfl g.c_UP ⟨_, rfl⟩) aqb)) (aqm oqg (aqD (aqI (K := K) rfl) rfl g.dqS PySem.boot_len (aqa (pv 2) aqb)) (pv 4))) (aq9 (cqu (K := K) rfl) (pv 3) (bqC (pv 4)) bq1)) (pv 5)))
   (aqd (aqh (aqG (aqa dq4 (aqa (aqJ (aqi jqE (aqD (aqI (K := K) rfl) rfl g.dqS PySem.boot_len (aqa (pv 6) aqb)) aqg (nomark _)) (pv 6) (aqG (aqa (aqe (v := jqU) rfl g.kqF ⟨_, rfl⟩) aqb))) (aqa (aqt (aqf (K := K) rfl) (pv 1) (aqe (v := iqJ) rfl g.hqE ⟨_, rfl⟩) (fun _ _ => rfl)) aqb))))))))))), ?_⟩
  obtain ⟨pg, qg, rfl, hpg, hqg⟩ := hqY (r := g'.1) (e := g'.2.2) (ss := g'.2.1) hG
  have hhb := cqF b
  have hhg := cqF g'
  have hc1 := jqd (holder b) (holder g')
  have hc2 := jqz (holder b) (holder g')
  have hl1 := kqm g'
  walk_at "rd"
  refine ⟨b, vb, rfl, hB, by lia, fun ph H1 s1 hph => ⟨g', _, rfl, hG.mono s1, by lia, fun pt H2 s2 hpt => ⟨ph, pt, holder b, holder g', rfl, s2.tup hph, hpt, ?_⟩⟩⟩
  have s12 := s1.trans s2
  refine ⟨fun σ H3 => Same H2 H3 ∧ ∃ pl : Addr, σ = [some vb, some (.ref pg), some (.ref ph), some (.ref pt), some (.int (comm (holder b) (holder g'))), some (.ref pl), none] ∧ SqT K H3 pl ((lastW g').map sV), ?_, ?_⟩
  ·walk_at "rd"
   refine ⟨_, _, .inr (s12.tup hpg), rfl, _, rfl, ?_⟩
   by_cases he : g'.2.2 = true
   ·rw [if_pos he]
    refine ⟨by decide, fun pl H3 hn3 s3 hpl => ⟨s3, ?_⟩⟩
    rw [lastW, eg, if_pos he]
    exact .of hpl
   ·rw [if_neg he]
    refine ⟨_, _, .inr (s12.tup hpg), rfl, ?_⟩
    walk_at "rd"
    refine ⟨_, s12.tup hqg, fun pl H3 s3 hpl => ⟨s3, ?_⟩⟩
    rw [jqg, mqY] at hpl
    rw [lastW, eg, if_neg he]
    exact hpl
  rintro σ H3 ⟨s3, pl, rfl, hpl⟩
  simp only [kup, kst]
  walk_at "rd"
  refine ⟨by decide, fun pu H4 hn4 s4 hpu => ⟨_, .inr ((s2.trans (s3.trans s4)).tup hph), ?_⟩⟩
  have em : ((((holder b).map sV).length : Int) - (comm (holder b) (holder g') : Int)).toNat = (holder b).length - comm (holder b) (holder g') := by rw [List.length_map]; lia
  rw [em]
  refine ⟨_, hpu, by rw [List.length_map]; lia, by rw [List.length_map]; lia, aqq (by simp; lia), fun pr H5 s5 hpr => ⟨_, ((s3.trans s4).trans s5).tup hpt, fun pd H6 s6 hpd => ?_⟩⟩
  rw [show (List.replicate ((holder b).length - comm (holder b) (holder g')) [sV sUp]).flatten = (List.replicate ((holder b).length - comm (holder b) (holder g')) sUp).map sV by simp] at hpr
  rw [jqg, nqD _ hc2] at hpd
  refine ⟨_, _, .of (s6 _ _ hpr), hpd, aqq (by simp; lia), fun pc H7 s7 hpc => ⟨_, _, hpc, (((s4.trans s5).trans s6).trans s7).tup hpl, aqq (by simp; lia), fun pe H8 s8 hpe => ?_⟩⟩
  rw [← List.map_append, ← List.map_append, show List.replicate ((holder b).length - comm (holder b) (holder g')) sUp ++ (holder g').drop (comm (holder b) (holder g')) ++ lastW g' = betw0 b g' from rfl] at hpe
  have t8 : Same H2 H8 := ((((s3.trans s4).trans s5).trans s6).trans s7).trans s8
  have t08 := s12.trans t8
  refine ⟨_, .inr hpe, ?_⟩
  rw [List.length_map]
  by_cases h0 : betw0 b g' = []
  ·refine ite2 (fun z => absurd z (by rw [h0]; decide)) (fun _ => ?_)
   refine ⟨by decide, fun p9 H9 hn9 s9 hp9 => ⟨_, _, .inr ((t08.trans s9).tup hpg), rfl, by decide, fun p10 H10 hn10 s10 hp10 => k _ H10 ((t08.trans s9).trans s10) ?_⟩⟩
   rw [betw, if_pos h0]
   exact wayK (.of hp10) (.of (s10 _ _ hp9))
  ·have := List.length_pos_iff.mpr h0
   refine ite2 (fun _ => ?_) (fun z => absurd (by lia) z)
   refine ⟨_, _, .inr (t08.tup hpg), rfl, by decide, fun p10 H10 hn10 s10 hp10 => k _ H10 (t08.trans s10) ?_⟩
   rw [betw, if_neg h0]
   exact wayK (.of hp10) (s10.tup hpe)
theorem kqV (g : G w K mg) : g.fqS.Ok P w base 5 (kqU K) := by
 refine g.fqS.F.ok lqb (fun vs H Q E h => ?_) (fun cdv A outer s H vs Q E hr h => ?_)
 ·obtain ⟨b, w, vb, vw, rfl, _⟩ := h; rfl
 ·obtain ⟨b, w, vb, vw, rfl, hB, hW, hs, hb, hw, k⟩ := h
  refine ⟨_, (aqc (aqK (aqi (jqN (K := K) rfl hr.units) (pv 1) (aqe (v := .ref g.eqO) rfl g.gqX rfl) (nomark _))
    (aqd (aqh (pv 0))) aqp)
   (aqc (aqK (aqH (aqt (aqf (K := K) rfl) (pv 1) (aqe (v := fqk) rfl g.eqK ⟨_, rfl⟩) (fun _ _ => rfl)))
    (aqd (aqh (pv 1))) aqp)
   (aqd (aqh (aqG (aqa dq4 (aqa (aqm (dqG (K := K) rfl) (aqs g.fqH (hqP g) hr rfl (aqa (pv 0) aqb)) (aqt (aqf (K := K) rfl) (pv 1) (aqe (v := fq2) rfl g.fqc ⟨_, rfl⟩) (fun _ _ => rfl))) (aqa (aqt (aqf (K := K) rfl) (pv 1) (aqe (v := iqJ) rfl g.hqE ⟨_, rfl⟩) (fun _ _ => rfl)) aqb)))))))), ?_⟩
  walk_at "rd"
  refine ⟨wayOf w, wayOf noWay, hW, g.fqM H, eqQ (r := w.1) (e := w.2.2) (ss := w.2.1) hs, by decide, _, rfl, ?_⟩
  rw [iqT]
  by_cases e : w = noWay
  ·rw [if_pos (decide_eq_true e)]
   refine k _ H (Same.refl _) ?_
   rw [wayFrom, if_pos e]; exact hB
  ·rw [if_neg (by simpa using e)]
   obtain ⟨pw, ps, rfl, hpw, hps⟩ := hqY (r := w.1) (e := w.2.2) (ss := w.2.1) hW
   walk_at "rd"
   refine ⟨_, _, .inr hpw, rfl, _, rfl, ?_⟩
   by_cases h1 : w.1 = true
   ·rw [if_pos h1]
    exact k _ H (Same.refl _) (by rw [wayFrom, if_neg e, if_pos h1]; exact hW)
   ·rw [if_neg h1]
    have hhl := cqF b
    refine ⟨b, vb, rfl, hB, by lia, fun ph H1 s1 hph => ⟨_, _, .inr (s1.tup hpw), rfl, ph, ps, _, _, rfl, rfl, hph, s1.tup hps, aqq (by simp; lia), fun pc H2 s2 hpc => ⟨_, _, .inr ((s1.trans s2).tup hpw), rfl, by decide, fun pr H3 hn3 s3 hpr => k _ H3 ((s1.trans s2).trans s3) ?_⟩⟩⟩
    rw [wayFrom, if_neg e, if_neg h1]
    exact wayK (.of hpr) (by rw [List.map_append]; exact s3.tup hpc)
theorem iqa (g : G w K mg) : g.dqR.Ok P w base 6 (hq4 K g.aqo) := by
 refine g.dqR.F.ok iqg (fun vs H Q E h => ?_) (fun cdv A outer s H vs Q E hr h => ?_)
 ·obtain ⟨p, t, w, r, i, o, rfl, _⟩ := h; rfl
 ·obtain ⟨p, t, w', r, i, o, rfl, hcur, hi, hl, h128, hd, hw, hst, hh, k⟩ := h
  refine ⟨_, (aqc (aqK (bqY (aqH (aqX (pv 0) g.aql g.aqu (aqz g) (hr.mono (by decide)) g.aqy .nil pass0 (aqa aqn aqb))))
    (aqd (aqh aqB)) aqp)
   (aqd (aqh (dqM (cqy g) (hr.mono (by decide)) rfl g.bqP g.aq7.kp g.cqY .nil pass0 (aqa (pv 0) (aqa aqn (aqa (aqe (v := hqv) rfl g.eqn ⟨_, rfl⟩) aqb))))))), ?_⟩
  have e1 : Str.ofString "//" = ⟨[47, 47].toArray⟩ := by decide +kernel
  rw [e1]
  walk_at "rd"
  cases o with
  | none =>
   have hw : w' = [] := hw
   subst hw
   refine aqr hcur (lqi hcur hi hl (by rw [hd]; exact hh rfl) ⟨_, rfl, ?_⟩)
   rw [if_pos rfl]
   exact k H (SameBut.refl _ _) hcur
  | some s =>
   obtain ⟨v, rfl, hv, hne, hsl⟩ := hw
   refine aqr hcur (bq9 (w := [47, 47]) (r := v ++ r) hcur hi hl hd fun H1 s1 c1 hi1 hd1 => ⟨_, rfl, ?_⟩)
   rw [if_neg (by decide)]
   refine ⟨p, t, [], s, v, r, _, some 60, rfl, c1, hi1, hl, h128, by decide, hd1, hv, hne, .inl (hst (by simp)), (fun m z => by cases z; exact hsl), fun H2 s2 c2 => k H2 (s1.trans s2) ?_⟩
   rw [List.length_cons, List.length_cons, show i + (v.length + 1 + 1) = i + [47, 47].length + v.length by simp only [List.length_cons, List.length_nil]; lia]
   exact c2
theorem fq0 (g : G w K mg) : g.cqx.Ok P w base 6 (fqQ K g.aqo) := by
 refine g.cqx.F.ok bqB (fun vs H Q E h => ?_) (fun cdv A outer s H vs Q E hr h => ?_)
 ·obtain ⟨p, t, w, rest, i, qs, rfl, _⟩ := h; rfl
 ·obtain ⟨p, t, w', rest, i, qs, rfl, hcur, hi, hl, h128, hd, hw, hre, k⟩ := h
  refine ⟨_, (aqc (aqK (bqY (aqH (aqX (pv 0) g.aql g.aqu (aqz g) (hr.mono (by decide)) g.aqy .nil pass0 (aqa aqn aqb))))
    (aqd (aqh aqB)) aqp)
   (aqc (aqj (i := 1) bqB.nd rfl (Or.inl rfl) (dqM (dvs := [.non]) (bqw g) (hr.mono (by decide)) rfl g.bqn g.aq6.kp g.bqx (.cons rfl .nil) pass0 (aqa (pv 0) (aqa (aqe (v := aqR) rfl g.aq8 ⟨_, rfl⟩) aqb))))
   (aqE (aqK (aqi cq2 (pv 1) aqn (nomark _))
    (aqd (aqh (aqG aqb))) aqp)
   (aqE (aqj (i := 2) bqB.nd rfl (Or.inl rfl) (cqT (aqa (aqG (aqa (pv 1) (aqa (aqs g.cqD (eq3 g) hr rfl (aqa (pv 0) aqb)) aqb))) aqb)))
   (aqc (fqn PassesOwn.never (aqH (aqX (pv 0) g.aql g.aqu (aqz g) (hr.mono (by decide)) g.aqy .nil pass0 (aqa aqn aqb)))
   (aqc (aqj (i := 1) bqB.nd rfl (Or.inl rfl) (dqM (dvs := [.non]) (cqy g) (hr.mono (by decide)) rfl g.bqP g.aq7.kp g.cqz (.cons rfl .nil) pass0 (aqa (pv 0) (aqa (aqe (v := aqR) rfl g.aq8 ⟨_, rfl⟩) aqb))))
   (aqd (dqa (cqo (K := K) rfl PySem.F.plainAttrs_list PySem.F.slot_list_append PySem.F.type_list_append cqn (pv 2) (aqa (aqG (aqa (pv 1) (aqa (aqs g.cqD (eq3 g) hr rfl (aqa (pv 0) aqb)) aqb))) aqb))))))
   (aqd (aqh (bq3 (cqQ (K := K) rfl) rfl g.gqd fqy (aqa (pv 2) aqb))))))))), ?_⟩
  have eF : aqR = .str ⟨frQ.toArray⟩ := by
   show V.str (Str.ofString _) = _
   unfold frQ; simp
  have e1 : Str.ofString "?" = ⟨[63].toArray⟩ := by decide +kernel
  have e2 : Str.ofString "&" = ⟨[38].toArray⟩ := by decide +kernel
  rw [eF, e1, e2]
  have rl : ∀ {j'' : Nat} {v'' : List Nat}, t.drop j'' = v'' ++ rest → j'' ≤ t.length → j'' + v''.length = t.length - rest.length := fun {j'' v''} h hj => by
   have := congrArg List.length h
   rw [List.length_drop, List.length_append] at this
   lia
  have hr63 : rest.head? ≠ some 63 ∧ rest.head? ≠ some 38 := by
   rcases hre with rfl | ⟨x, rfl⟩
   ·exact ⟨by simp, by simp⟩
   ·exact ⟨by simp, by simp⟩
  walk_at "rd"
  cases qs with
  | none =>
   have hw : w' = [] := hw
   subst hw
   refine aqr hcur (dqx hcur hi hl hd hr63.1 ⟨_, rfl, ?_⟩)
   rw [if_pos rfl]
   have := rl hd hi
   exact k _ H (SameBut.refl _ _) (this ▸ hcur) .non
  | some ps =>
   cases ps with
   | nil =>
    have hw : w' = [63] := hw
    subst hw
    refine aqr hcur (bq9 (w := [63]) (r := rest) hcur hi hl hd fun H1 s1 c1 hi1 hd1 => ⟨_, rfl, ?_⟩)
    rw [if_neg (by decide)]
    refine ⟨p, t, frQ, [], [], rest, _, none, rfl, c1, hi1, hl, h128, jqe, hd1, .nil, .inl (hqX .nil hre).1, (fun m z => by cases z), fun H2 s2 c2 => ?_⟩
    refine ⟨fun _ _ => False, ?_, fun _ _ z => z.elim⟩
    rw [L2.iqR, decide_eq_true rfl]
    refine ⟨_, rfl, ?_⟩
    rw [if_pos rfl]
    have := rl (v'' := []) hd1 hi1
    exact ⟨by decide, fun pt Ha n1 sa hp1 => k _ Ha ((s1.trans s2).trans sa.but) (this ▸ c2.same sa) (.tup hp1 .nil)⟩
   | cons pr ps =>
    obtain ⟨n, o⟩ := pr
    obtain ⟨a, v, r, rfl, ha, hn, hv, hps⟩ := hw
    have hst := hqX hps hre
    refine aqr hcur (bq9 (w := [63]) (r := a ++ (v ++ (r ++ rest))) hcur hi hl (by rw [hd]; simp) fun H1 s1 c1 hi1 hd1 => ⟨_, rfl, ?_⟩)
    rw [if_neg (by decide)]
    refine ⟨p, t, frQ, n, a, v ++ (r ++ rest), _, none, rfl, c1, hi1, hl, h128, jqe, hd1, ha, .inl (jqZ hv hst.1), (fun m z => by cases z), fun H2 s2 c2 => ?_⟩
    refine ⟨fun σ H' => H' = H2 ∧ σ = [some (.ref p), some (.str ⟨n.toArray⟩), none], ?_, ?_⟩
    ·rw [L2.iqR]
     refine ⟨_, rfl, ?_⟩
     rw [if_neg (by rw [decide_eq_false (fun z => hn (jqV.mp z))]; decide)]
     exact ⟨rfl, rfl⟩
    rintro σ H' ⟨rfl, rfl⟩
    have hi2 : i + [63].length + a.length ≤ t.length := by
     have := congrArg List.length hd1
     rw [List.length_drop, List.length_append] at this
     lia
    have hd2 : t.drop (i + [63].length + a.length) = v ++ (r ++ rest) := by rw [← List.drop_drop, hd1, List.drop_left]
    have s12 := s1.trans s2
    walk_at "rd"
    obtain ⟨W, hW⟩ : ∃ W : Nat → St → Hp → Prop, W = fun m σ H4 => ∃ (dn ps' : List (List Nat × Option (List Nat))) (r' : List Nat) (j : Nat) (q : Addr) (v1 : Option V) (vs : List V), m = ps'.length ∧ σ = [some (.ref p), v1, some (.ref q)] ∧ (n, o) :: ps = dn ++ ps' ∧ PrsW ps' r' ∧ Cur H4 g.aqo p t j ∧ j ≤ t.length ∧ t.drop j = r' ++ rest ∧ H4 q = some (.lst vs) ∧ PrL H4 vs dn ∧ SameBut p H H4 ∧ H q = none ∧ q ≠ p := ⟨_, rfl⟩
    refine ⟨fun σ H4 => ∃ m, W m σ H4, ?_, ?_⟩
    ·refine ⟨p, t, v, r ++ rest, _, o, rfl, c2, hi2, hl, h128, hd2, hv, hst.1, hst.2, fun H3 s3 c3 => ⟨by decide, fun p1 Ha n1 sa hp1 => ⟨by decide, fun q Hb nq sb hq => ⟨ps.length, ?_⟩⟩⟩⟩
     rw [hW]
     have hqp : q ≠ p := by obtain ⟨dx, hp⟩ := c3.same sa; exact (aqx hp nq).symm
     have sbA : SameBut p H Ha := (s12.trans s3).trans sa.but
     refine ⟨[(n, o)], ps, r, _, q, _, _, rfl, rfl, rfl, hps, (c3.same sa).same sb, ?_, ?_, hq, ⟨rfl, fun i' a' y z1 z2 => ?_⟩, sbA.trans sb.but, sbA.free nq hqp, hqp⟩
     ·have := congrArg List.length hd2
      rw [List.length_drop, List.length_append] at this
      lia
     ·rw [← List.drop_drop, hd2, List.drop_left]
     ·cases i' with
      | zero =>
       cases z1
       cases z2
       exact .tup (sb _ _ hp1) (.cons (.str _) (.cons (kqf _) .nil))
      | succ j => cases z1
    rintro σ H4 ⟨m, hm⟩
    unfold L2.Later
    rw [L2.nqj]
    refine hqB W m hm ?_
    rintro m σ H5 hm
    rw [hW] at hm
    obtain ⟨dn, ps', r', j, q, v1, vs, rfl, rfl, eps, hps', c5, hj5, hd5, hq5, hpl, sb5, hqH, hqp⟩ := hm
    have hdl : dn.length ≤ 100000 := by
     have h1 := congrArg List.length eps
     rw [List.length_append, List.length_cons] at h1
     have h2 := rqt hps
     have h3 := congrArg List.length hd
     rw [List.length_drop] at h3
     simp only [List.length_cons, List.length_append] at h3
     lia
    walk_at "rd"
    cases hps' with
    | nil =>
     refine aqr c5 (dqx c5 hj5 hl hd5 hr63.2 ⟨_, rfl, ?_⟩)
     rw [if_neg (by decide)]
     rw [List.append_nil] at eps
     refine ⟨vs, .inl (.of hq5), fun l Ha sa hla => ?_⟩
     have := rl (v'' := []) hd5 hj5
     refine k _ Ha (sb5.trans sa.but) (this ▸ c5.same sa) ?_
     rw [eps]
     exact .tup hla (iqL (g := pD) hpl.1 fun i' a' y z1 z2 => (hpl.2 i' a' y z1 z2).mono sa.toT)
    | cons hwn hne hv2 hps2 =>
     rename_i n2 w2 v2 o2 ps2 r2
     have hst2 := hqX hps2 hre
     refine aqr c5 (bq9 (w := [38]) (r := w2 ++ (v2 ++ (r2 ++ rest))) c5 hj5 hl (by rw [hd5]; simp) fun H6 s6 c6 hi6 hd6 => ⟨_, rfl, ?_⟩)
     rw [if_pos rfl]
     have hd7 : t.drop (j + [38].length + w2.length) = v2 ++ (r2 ++ rest) := by rw [← List.drop_drop, hd6, List.drop_left]
     have hl7 := congrArg List.length hd6
     rw [List.length_drop, List.length_append, List.length_append] at hl7
     refine ⟨_, fun _ _ h => h, p, t, frQ, n2, w2, v2 ++ (r2 ++ rest), _, none, rfl, c6, hi6, hl, h128, jqe, hd6, hwn, hne, .inl (jqZ hv2 hst2.1), (fun m z => by cases z), fun H7 s7 c7 => ⟨⟨_, .of ((s6.trans s7) _ _ hqp hq5)⟩, p, t, v2, r2 ++ rest, _, o2, rfl, c7, by lia, hl, h128, hd7, hv2, hst2.1, hst2.2, fun H8 s8 c8 => ⟨by decide, fun p1 Ha n1 sa hp1 => ⟨vs, sa _ _ (((s6.trans s7).trans s8) _ _ hqp hq5), ?_, ps2.length, Nat.lt_succ_self _, ?_⟩⟩⟩⟩
     ·rw [hpl.1]
      exact Nat.lt_of_le_of_lt hdl (by decide)
     rw [hW]
     have hqa : Ha q = some (.lst vs) := sa _ _ (((s6.trans s7).trans s8) _ _ hqp hq5)
     refine ⟨dn ++ [(n2, o2)], ps2, r2, j + [38].length + w2.length + v2.length, q, _, _, rfl, rfl, by rw [eps, List.append_assoc]; rfl, hps2, ?_, ?_, ?_, aqk, ?_, ?_, hqH, hqp⟩
     ·obtain ⟨dx, hp⟩ := c8.same sa
      exact ⟨dx, by rw [aqA hqp.symm]; exact hp⟩
     ·lia
     ·rw [← List.drop_drop, hd7, List.drop_left]
     ·refine PrL.mono (PrL.snoc ((((hpl.mono (c5.toT s6)).mono (c6.toT s7)).mono (c7.toT s8)).mono sa.toT) ?_) (nqV hqa)
      exact .tup hp1 (.cons (.str _) (.cons (kqf _) .nil))
     ·exact ((((sb5.trans s6).trans s7).trans s8).trans sa.but).upd hqH
theorem kqg (g : G w K mg) : g.fqe.Ok P w base 6 (kqL K) := by
 refine g.fqe.F.ok gqj (fun vs H Q E h => ?_) (fun cdv A outer s H vs Q E hr h => ?_)
 ·obtain ⟨b, g, vb, vg, rfl, _⟩ := h; rfl
 ·obtain ⟨b, g', vb, vg, rfl, hB, hG, wb, wg, eb, eg, hb, hg, k⟩ := h
  refine ⟨_, (aqE (aqK (PW.pt (eqW (aqi eqS (aqt (aqf (K := K) rfl) (pv 0) (aqe (v := eqR) rfl g.dqL ⟨_, rfl⟩) (fun _ _ => rfl)) (aqt (aqf (K := K) rfl) (pv 1) (aqe (v := eqR) rfl g.dqL ⟨_, rfl⟩) (fun _ _ => rfl)) (nomark _)) (cq4 (PW.pt (eq5 (aqi fqP (aqt (aqf (K := K) rfl) (pv 0) (aqe (v := dqC) rfl g.dqe ⟨_, rfl⟩) (fun _ _ => rfl)) aqB (nomark _)) (dqy (aqi bq4 (aqt (aqf (K := K) rfl) (pv 1) (aqe (v := dqC) rfl g.dqe ⟨_, rfl⟩) (fun _ _ => rfl)) aqB (nomark _))))))))
    (aqd (aqh (pv 1))) aqp)
   (aqE (aqK (PW.pt (eqW (aqi eqS (aqt (aqf (K := K) rfl) (pv 0) (aqe (v := dqC) rfl g.dqe ⟨_, rfl⟩) (fun _ _ => rfl)) (aqt (aqf (K := K) rfl) (pv 1) (aqe (v := dqC) rfl g.dqe ⟨_, rfl⟩) (fun _ _ => rfl)) (nomark _)) (cq4 (aqi eqS (aqt (aqf (K := K) rfl) (pv 0) (aqe (v := lqJ) rfl g.jqS ⟨_, rfl⟩) (fun _ _ => rfl)) (aqt (aqf (K := K) rfl) (pv 1) (aqe (v := lqJ) rfl g.jqS ⟨_, rfl⟩) (fun _ _ => rfl)) (nomark _)))))
    (aqd (aqh (aqm (dqG (K := K) rfl) (aqG (aqa aqn aqb)) (aq9 (cqu (K := K) rfl) (pv 1) (bqC (aqe (v := dqC) rfl g.dqe ⟨_, rfl⟩)) bq1)))) aqp)
   (aqc (aqK (aqH (aqs g.gqa (lqu g) hr rfl (aqa (pv 0) (aqa (pv 1) aqb))))
    (aqc (aqj (i := 2) gqj.nd rfl (Or.inl rfl) (aqJ (aqi (jqN (K := K) rfl hr.units) (aqt (aqf (K := K) rfl) (pv 0) (aqe (v := aq0) rfl g.aqV ⟨_, rfl⟩) (fun _ _ => rfl)) (aqt (aqf (K := K) rfl) (pv 1) (aqe (v := aq0) rfl g.aqV ⟨_, rfl⟩) (fun _ _ => rfl)) (nomark _)) aqB (aqt (aqf (K := K) rfl) (pv 1) (aqe (v := aq0) rfl g.aqV ⟨_, rfl⟩) (fun _ _ => rfl))))
   (aqd (aqh (aqG (aqa aqn (aqa aqB (aqa aqB (aqa (aqe (v := .ref g.eqO) rfl g.gqX rfl) (aqa (pv 2) (aqa (aqt (aqf (K := K) rfl) (pv 1) (aqe (v := lqN) rfl g.jqY ⟨_, rfl⟩) (fun _ _ => rfl)) aqb)))))))))) aqp)
   (aqd (aqh (aqG (aqa aqn (aqa aqB (aqa aqB (aqa (aqs g.dqB (iqf g) hr rfl (aqa (aqt (aqf (K := K) rfl) (pv 0) (aqe (v := hqR) rfl g.gqN ⟨_, rfl⟩) (fun _ _ => rfl)) (aqa (aqt (aqf (K := K) rfl) (pv 1) (aqe (v := hqR) rfl g.gqN ⟨_, rfl⟩) (fun _ _ => rfl)) aqb))) (aqa (aqt (aqf (K := K) rfl) (pv 1) (aqe (v := aq0) rfl g.aqV ⟨_, rfl⟩) (fun _ _ => rfl)) (aqa (aqt (aqf (K := K) rfl) (pv 1) (aqe (v := lqN) rfl g.jqY ⟨_, rfl⟩) (fun _ _ => rfl)) aqb)))))))))))), ?_⟩
  obtain ⟨pb, ub, qb, rfl, hpb, hwb, hqb⟩ := cqa hB
  obtain ⟨pg, ug, qg, rfl, hpg, hwg, hqg⟩ := cqa hG
  walk_at "rd"
  refine ⟨fun σ H1 => H1 = H ∧ σ = [some (.ref pb), some (.ref pg), none] ∧ ¬ (g'.scheme ≠ b.scheme ∨ (g'.house = none ∧ b.house ≠ none)), ?_, ?_⟩
  ·refine ⟨_, _, .inr hpb, rfl, _, _, .inr hpg, rfl, ?_⟩
   walk_at "rd"
   simp only [cq7]
   have out : (g'.scheme ≠ b.scheme ∨ (g'.house = none ∧ b.house ≠ none)) → Q (.ref pg) H := fun z => k _ H (Same.refl _) (by rw [relM, if_pos z, eg]; exact hG)
   by_cases h1 : b.scheme = g'.scheme
   rotate_left
   ·exact ite2 (fun _ => out (.inl (fun z => h1 z.symm))) (fun z => absurd (Classical.not_not.mp z) h1)
   refine ite2 (fun z => absurd h1 z) (fun _ => ⟨_, _, .inr hpb, rfl, ?_⟩)
   cases hbh : b.house with
   | none => exact ite2 (fun z => absurd rfl z) (fun _ z => z.elim (fun y => y h1.symm) (fun y => y.2 rfl))
   | some l =>
    refine ite2 (fun _ => ⟨_, _, .inr hpg, rfl, ?_⟩) (fun z => absurd (Classical.not_not.mp z) (by simp [otV]))
    cases hgh : g'.house with
    | none => exact ite2 (fun _ => out (.inr ⟨hgh, by simp [hbh]⟩)) (fun z => absurd rfl z)
    | some m => exact ite2 (fun z => absurd z (by simp [otV])) (fun _ z => z.elim (fun y => y h1.symm) (fun y => by cases y.1))
  rintro σ H1 ⟨rfl, rfl, c0⟩
  walk_at "rd"
  refine ⟨fun σ H2 => H2 = H1 ∧ σ = [some (.ref pb), some (.ref pg), none] ∧ ¬ (g'.house ≠ b.house ∨ g'.door ≠ b.door), ?_, ?_⟩
  ·have out : (g'.house ≠ b.house ∨ g'.door ≠ b.door) → (1 ≤ sizeLine ∧ ∀ (p : Addr) (H' : Hp), H1 p = none → Same H1 H' → H' p = some (.tup [.str ⟨#[]⟩]) → ∃ xs, SqT K H' pg xs ∧ ∀ (p_1 : Addr) (H'_1 : Hp), Same H' H'_1 → SqT K H'_1 p_1 (cutV xs (some 1) none) → ∃ xs ys, SqT K H'_1 p xs ∧ SqT K H'_1 p_1 ys ∧ xs.length + ys.length ≤ sizeLine ∧ ∀ (p : Addr) (H'_2 : Hp), Same H'_1 H'_2 → SqT K H'_2 p (xs ++ ys) → Q (.ref p) H'_2) := fun z =>
    ⟨by decide, fun p2 H2 hn2 s2 hp2 => ⟨_, s2.tup hpg, fun p3 H3 s3 hp3 => ⟨_, _, .of (s3 _ _ hp2), hp3, (show 6 ≤ sizeLine by decide), fun p4 H4 s4 hp4 => k _ H4 ((s2.trans s3).trans s4) (by
     rw [relM, if_neg c0, if_pos z, eg]
     have sm := (s2.trans s3).trans s4
     exact adK (x := { g' with scheme := [] }) hp4 (hwg.mono sm) (hqg.mono sm))⟩⟩⟩
   refine ⟨_, _, .inr hpb, rfl, _, _, .inr hpg, rfl, tq8 ⟨_, rfl, ?_⟩⟩
   by_cases h2 : b.house = g'.house
   rotate_left
   ·exact ite2 (fun _ => out (.inl (fun z => h2 z.symm))) (fun z => absurd (by simpa using h2) z)
   refine ite2 (fun z => absurd h2 (by simpa using z)) (fun _ => ?_)
   refine ⟨_, _, .inr hpb, rfl, _, _, .inr hpg, rfl, tqY ⟨_, rfl, ?_⟩⟩
   by_cases h3 : b.door = g'.door
   rotate_left
   ·exact ite2 (fun _ => out (.inr (fun z => h3 z.symm))) (fun z => absurd (by simpa using h3) z)
   exact ite2 (fun z => absurd h3 (by simpa using z)) (fun _ => ⟨rfl, rfl, fun z => z.elim (fun y => y h2.symm) (fun y => y h3.symm)⟩)
  rintro σ H2 ⟨rfl, rfl, c1⟩
  walk_at "rd"
  refine ⟨b, g', _, _, rfl, hB, hG, wb, wg, _, rfl, ?_⟩
  by_cases c2 : b.w = g'.w ∧ (g'.quest ≠ none ∨ b.quest = none)
  ·rw [if_pos (decide_eq_true c2)]
   have er : ∀ q0, (if g'.quest = b.quest then none else g'.quest) = q0 → relM b g' = { scheme := [], house := none, door := none, rooted := false, steps := [], ends := false, quest := q0, mark := g'.mark } := fun q0 e => by
    rw [relM, if_neg c0, if_neg c1, if_pos (by rw [eb, eg]; exact c2), e]
   refine ⟨_, _, .inr hpb, rfl, _, _, .inr hpg, rfl, ?_⟩
   refine ⟨qD b.quest, qD g'.quest, hqb, hqg, kqP wb.que, kqP wg.que, _, rfl, ?_⟩
   rw [rqV]
   by_cases e : b.quest = g'.quest
   ·rw [if_pos (decide_eq_true e)]
    refine ⟨_, _, .inr hpg, rfl, by decide, fun p3 H3 hn3 s3 hp3 => k _ H3 s3 ?_⟩
    rw [er none (if_pos e.symm)]
    exact adK (x := { scheme := [], house := none, door := none, rooted := false, steps := [], ends := false, quest := none, mark := g'.mark }) (.of hp3) (g.fqM H3) .non
   ·rw [if_neg (by simpa using e)]
    refine ⟨_, _, .inr hpg, rfl, _, _, .inr hpg, rfl, by decide, fun p3 H3 hn3 s3 hp3 => k _ H3 s3 ?_⟩
    rw [er g'.quest (if_neg (fun z => e z.symm))]
    exact adK (x := { scheme := [], house := none, door := none, rooted := false, steps := [], ends := false, quest := g'.quest, mark := g'.mark }) (.of hp3) (g.fqM H3) (hqg.mono s3)
  ·rw [if_neg (by simpa using c2)]
   refine ⟨_, _, .inr hpb, rfl, _, _, .inr hpg, rfl, ?_⟩
   have eb' : goneV b.w = b.w := congrArg Ad.w eb
   have eg' : goneV g'.w = g'.w := congrArg Ad.w eg
   refine ⟨b.w, g'.w, ub, ug, rfl, hwb, hwg, eb', eg', hb, hg, fun v H3 s3 hv => ⟨_, _, .inr (s3.tup hpg), rfl, _, _, .inr (s3.tup hpg), rfl, by decide, fun p4 H4 hn4 s4 hp4 => k _ H4 (s3.trans s4) ?_⟩⟩
   rw [relM, if_neg c0, if_neg c1, if_neg (by rw [eb, eg]; exact c2), eg']
   exact adK (x := { scheme := [], house := none, door := none, rooted := false, steps := betw b.w g'.w, ends := g'.w.2.2, quest := g'.quest, mark := g'.mark }) (.of hp4) (hv.mono s4) (hqg.mono (s3.trans s4))
theorem jqh (g : G w K mg) : g.eqw.Ok P w base 6 (jqo K) := by
 refine g.eqw.F.ok fqt (fun vs H Q E h => ?_) (fun cdv A outer s H vs Q E hr h => ?_)
 ·obtain ⟨b, x, vb, vx, rfl, _⟩ := h; rfl
 ·obtain ⟨b, x, vb, vx, rfl, hB, hX, wf, hb, hx, k⟩ := h
  refine ⟨_, (aqc (aqK (aqi fqP (aqt (aqf (K := K) rfl) (pv 1) (aqe (v := dqC) rfl g.dqe ⟨_, rfl⟩) (fun _ _ => rfl)) aqB (nomark _))
    (aqd (aqh (aqm (dqG (K := K) rfl) (aqG (aqa (aqt (aqf (K := K) rfl) (pv 0) (aqe (v := eqR) rfl g.dqL ⟨_, rfl⟩) (fun _ _ => rfl)) aqb)) (aq9 (cqu (K := K) rfl) (pv 1) (bqC (aqe (v := dqC) rfl g.dqe ⟨_, rfl⟩)) bq1)))) aqp)
   (aqc (aqj (i := 2) fqt.nd rfl (Or.inl rfl) (aqs g.fqS (kqV g) hr rfl (aqa (aqt (aqf (K := K) rfl) (pv 0) (aqe (v := hqR) rfl g.gqN ⟨_, rfl⟩) (fun _ _ => rfl)) (aqa (aqt (aqf (K := K) rfl) (pv 1) (aqe (v := hqR) rfl g.gqN ⟨_, rfl⟩) (fun _ _ => rfl)) aqb))))
   (aqd (aqh (aqm (dqG (K := K) rfl) (aq9 (cqu (K := K) rfl) (pv 0) bq1 (bqC (aqe (v := hqR) rfl g.gqN ⟨_, rfl⟩))) (aqG (aqa (pv 2) (aqa (aqs g.cqJ (gqA g) hr rfl (aqa (pv 0) (aqa (pv 1) aqb))) (aqa (aqt (aqf (K := K) rfl) (pv 1) (aqe (v := lqN) rfl g.jqY ⟨_, rfl⟩) (fun _ _ => rfl)) aqb))))))))), ?_⟩
  obtain ⟨pb, wb, qb, rfl, hpb, hwb, hqb⟩ := cqa hB
  obtain ⟨px, wx, qx, rfl, hpx, hwx, hqx⟩ := cqa hX
  walk_at "rd"
  refine ⟨_, _, .inr hpx, rfl, ?_⟩
  cases hh : x.house with
  | some l =>
   refine ite2 (fun _ => ?_) (fun z => absurd (Classical.not_not.mp z) (by simp [otV]))
   refine ⟨_, _, .inr hpb, rfl, by decide, fun p1 H1 hn1 s1 hp1 => ⟨_, s1.tup hpx, fun p2 H2 s2 hp2 => ⟨_, _, .of (s2 _ _ hp1), hp2, (show 6 ≤ sizeLine by decide), fun p3 H3 s3 hp3 => k _ H3 ((s1.trans s2).trans s3) ?_⟩⟩⟩
   rw [madeWhole, if_pos (by simp [hh])]
   have sm := (s1.trans s2).trans s3
   exact adK (x := { x with scheme := b.scheme }) hp3 (hwx.mono sm) (hqx.mono sm)
  | none =>
   refine ite2 (fun z => absurd rfl z) (fun _ => ?_)
   refine ⟨_, _, .inr hpb, rfl, _, _, .inr hpx, rfl, b.w, x.w, wb, wx, rfl, hwb, hwx, (fun s hs => (wf.stp s hs).2), hb, hx, fun v H1 s1 hv => ⟨_, s1.tup hpb, fun p2 H2 s2 hp2 => ?_⟩⟩
   have s12 := s1.trans s2
   refine ⟨b, x, _, _, rfl, hB.mono s12, hX.mono s12, wf, fun v2 hv2 => ⟨_, _, .inr (s12.tup hpx), rfl, by decide, fun p3 H3 hn3 s3 hp3 => ⟨_, _, s3.tup hp2, .of hp3, (show 6 ≤ sizeLine by decide), fun p4 H4 s4 hp4 => k _ H4 (s12.trans (s3.trans s4)) ?_⟩⟩⟩
   rw [madeWhole, if_neg (by simp [hh])]
   exact adK (x := { scheme := b.scheme, house := b.house, door := b.door, rooted := (wayFrom b.w x.w).1, steps := (wayFrom b.w x.w).2.1, ends := (wayFrom b.w x.w).2.2, quest := questFrom b x, mark := x.mark }) hp4 (hv.mono (s2.trans (s3.trans s4))) (hv2.mono (s3.trans s4))
theorem jqk (g : G w K mg) : g.iqv.Ok P w base 7 (qqB K) := by
 refine g.iqv.F.ok eqg (fun vs H Q E h => ?_) (fun cdv A outer s H vs Q E hr h => ?_)
 ·obtain ⟨x, t, rfl, _⟩ := h; rfl
 ·obtain ⟨x, t, rfl, hl, h128, wf, hw, k⟩ := h
  refine ⟨_, (aqc (aqK (bqY (aqH (aqD fqI rfl g.cqp bq8 (aqa (pv 0) (aqa (iqU (v := .ty "str") rfl g.mq3 jq3 rfl) aqb)))))
    (aqd bqa) aqp)
   (aqc (aqj (i := 1) eqg.nd rfl (Or.inl rfl) (lqw g.lqG (fqD g) (hr.mono (by decide)) rfl g.mqh g.dqi .nil pass0 (aqa (pv 0) aqb)))
   (aqc (aqj (i := 2) eqg.nd rfl (Or.inl rfl) (aqs g.dqc (gq3 g) hr rfl (aqa (pv 1) aqb)))
   (aqc (aqj (i := 3) eqg.nd rfl (Or.inl rfl) (aqs g.dqR (iqa g) hr rfl (aqa (pv 1) aqb)))
   (aqE (aqj (i := 4) eqg.nd rfl (Or.inl rfl) (aqJ (aqi bq4 (pv 3) aqB (nomark _)) aqB (aqs g.eqE (jqr g) hr rfl (aqa (pv 1) aqb))))
   (aqE (aqj (i := 5) eqg.nd rfl (Or.inl rfl) (aqs g.fqh (kqt g) hr rfl (aqa (pv 1) (aqa (mqo (bqj eqS (pv 2) aqn (nomark _)) (eq2 (bqj fqP (pv 3) aqB (nomark _)))) aqb))))
   (aqc (aqj (i := 6) eqg.nd rfl (Or.inl rfl) (aqs g.cqx (fq0 g) hr rfl (aqa (pv 1) aqb)))
   (aqc (aqj (i := 7) eqg.nd rfl (Or.inl rfl) (aqs g.eqo (jqf g) hr rfl (aqa (pv 1) aqb)))
   (aqc (aqK (bqY (aqH (dqv (pv 1) g.aql g.cqv (dqZ g) (hr.mono (by decide)) g.cqV .nil pass0)))
    (aqd bqa) aqp)
   (aqd (aqh (aqG (aqa (pv 2) (aqa (pv 3) (aqa (pv 4) (aqa (pv 5) (aqa (pv 6) (aqa (pv 7) aqb)))))))))))))))))), ?_⟩
  obtain ⟨hT, dT, wT, qT, mT, et, es, hH, hD, hS, hQ, hM⟩ := hw
  walk_at "rd"
  intro p dx hp hdx hne
  have hmr : mT = [] ∨ ∃ y, mT = 35 :: y := by
   cases hm : x.mark with
   | none => rw [hm] at hM; exact .inl hM
   | some s => rw [hm] at hM; obtain ⟨v, e, _⟩ := hM; exact .inr ⟨v, e⟩
  have hrq : qT ++ mT = [] ∨ (∃ y, qT ++ mT = 35 :: y) ∨ ∃ y, qT ++ mT = 63 :: y := by
   cases hq : x.quest with
   | none =>
    rw [hq] at hQ
    have hQ : qT = [] := hQ
    rw [hQ]
    rcases hmr with e | ⟨y, e⟩
    ·exact .inl e
    ·exact .inr (.inl ⟨y, e⟩)
   | some ps =>
    rw [hq] at hQ
    cases ps with
    | nil =>
     have hQ : qT = [63] := hQ
     exact .inr (.inr ⟨mT, by rw [hQ]; rfl⟩)
    | cons a ps =>
     obtain ⟨n, o⟩ := a
     obtain ⟨a, v, r, e, _⟩ := hQ
     exact .inr (.inr ⟨_, by rw [e]; rfl⟩)
  have sb0 : SameBut p H (upd (upd H dx (.own p)) p (.ins g.aqo dx [])) := fun b o n e => by
   rw [aqA n, aqA (aqx e hdx)]
   exact e
  refine ⟨p, dx, t, rfl, aqk, fun H1 s1 c1 => ⟨rfl, ?_⟩⟩
  have sb1 := sb0.trans s1
  have tl : ∀ {a b : List Nat}, t = a ++ b → a.length ≤ t.length ∧ t.drop a.length = b := fun {a b} e => by
   rw [e, List.drop_left, List.length_append]
   exact ⟨by lia, rfl⟩
  refine ⟨p, t, rfl, c1, hl, fun H2 s2 c2 => ?_⟩
  rw [es]
  have eP : schP t = (schT x.scheme).length := by unfold schP; rw [es]
  rw [eP] at c2
  obtain ⟨i2, d2⟩ := tl et
  have hrt : x.house ≠ none → x.rooted = true := fun z => wf.roo (.inr z)
  refine ⟨p, t, hT, _, _, x.house, rfl, c2, i2, by lia, h128, d2, hH, ?_, ?_, fun H3 s3 c3 => ?_⟩
  ·intro hn
   rw [hrt hn]
   refine fun c hc => ?_
   cases hdo : x.door with
   | none =>
    rw [hdo] at hD
    have hD : dT = [] := hD
    rw [hD] at hc
    cases hc
    decide
   | some n =>
    rw [hdo] at hD
    obtain ⟨ds, rfl, _⟩ := hD
    cases hc
    decide
  ·intro hn
   cases hdo : x.door with
   | some n => exact absurd hn (wf.doo n hdo).2
   | none =>
    rw [hdo] at hD
    have hD : dT = [] := hD
    rw [hD, List.nil_append]
    have hr : (qT ++ mT).head? ≠ some 47 := fun z => by
     rcases hrq with e | ⟨y, e⟩ | ⟨y, e⟩ <;> rw [e] at z <;> cases z
    have h47 := lqS hS hr
    cases hrt' : x.rooted with
    | false =>
     intro z
     simp only [Bool.false_eq_true, if_false, List.nil_append] at z
     cases hh : wT ++ (qT ++ mT) with
     | nil => rw [hh] at z; cases z
     | cons c r => rw [hh] at z h47; exact h47 (by injection z with z1 z2; rw [z1]; rfl)
    | true =>
     intro z
     simp only [if_true, List.cons_append, List.nil_append] at z
     cases hh : wT ++ (qT ++ mT) with
     | nil => rw [hh] at z; cases z
     | cons c r =>
      rw [hh] at z h47
      refine h47 ?_
      injection z with z1 z2
      injection z2 with z2 z3
      rw [z2]
      rfl
  have sb3 := (sb1.trans s2).trans s3
  obtain ⟨i3, d3⟩ := tl (a := schT x.scheme ++ hT) (b := dT ++ ((if x.rooted then [47] else []) ++ (wT ++ (qT ++ mT)))) (by rw [et]; simp)
  rw [List.length_append] at i3 d3
  refine ⟨fun σ H4 => SameBut p H H4 ∧ Cur H4 g.aqo p t ((schT x.scheme ++ (hT ++ dT)).length) ∧ σ = [some (.str ⟨t.toArray⟩), some (.ref p), some (.str ⟨x.scheme.toArray⟩), some (otV x.house), some (itV x.door), none, none, none], ?_, ?_⟩
  ·cases hho : x.house with
   | none =>
    rw [if_pos (show otV none = V.non from rfl)]
    cases hdo : x.door with
    | some n => exact absurd hho (wf.doo n hdo).2
    | none =>
     rw [hdo] at hD
     have hD : dT = [] := hD
     refine ⟨sb3, ?_, rfl⟩
     rw [hD, List.append_nil, List.length_append]
     exact c3
   | some l =>
    rw [if_neg (by simp [otV])]
    refine ⟨p, t, dT, _, _, x.door, rfl, c3, i3, by lia, h128, d3, hD, ?_, ?_, fun H4 s4 c4 => ⟨sb3.trans s4, ?_, rfl⟩⟩
    ·rw [hrt (by rw [hho]; simp)]
     intro c hc
     cases hc
     decide
    ·intro _
     rw [hrt (by rw [hho]; simp)]
     simp
    ·rw [List.length_append, List.length_append, ← Nat.add_assoc]
     exact c4
  rintro σ H4 ⟨sb4, c4, rfl⟩
  obtain ⟨i4, d4⟩ := tl (a := schT x.scheme ++ (hT ++ dT)) (b := (if x.rooted then [47] else []) ++ (wT ++ (qT ++ mT))) (by rw [et]; simp)
  walk_at "rd"
  have hway : ∀ must : Bool, (must = true → x.rooted = true) → ∀ (Q' : VK), (∀ u H5, SameBut p H H5 → Cur H5 g.aqo p t (t.length - (qT ++ mT).length) → IsT H5 x.way u → Q' u H5) → gqu K g.aqo [V.ref p, V.bl must] H4 Q' E0 := fun must hm Q' hk => by
   refine ⟨p, t, wT, qT ++ mT, _, must, x.rooted, x.steps, x.ends, rfl, c4, i4, by lia, h128, d4, hS, wf.end_, hm, ?_, ?_, fun u H5 s5 c5 hu => hk u H5 (sb4.trans s5) c5 hu⟩
   ·rcases hrq with e | ⟨y, e⟩ | ⟨y, e⟩ <;> rw [e]
    ·exact hqk
    ·exact cqe ⟨by decide, by decide +kernel, by decide⟩
    ·exact cqe ⟨by decide, by decide +kernel, by decide⟩
   ·rcases hrq with e | ⟨y, e⟩ | ⟨y, e⟩ <;> rw [e] <;> simp
  refine ⟨fun σ H5 => ∃ u, SameBut p H H5 ∧ Cur H5 g.aqo p t (t.length - (qT ++ mT).length) ∧ IsT H5 x.way u ∧ σ = [some (.str ⟨t.toArray⟩), some (.ref p), some (.str ⟨x.scheme.toArray⟩), some (otV x.house), some (itV x.door), some u, none, none], ?_, ?_⟩
  ·refine ite2 (fun z => ?_) (fun z => ?_)
   ·exact hway true (fun _ => wf.roo (.inl fun e => z (by rw [e]))) _ (fun u H5 sb c hu => ⟨u, sb, c, hu, rfl⟩)
   ·refine hway _ (fun e => hrt fun z' => ?_) _ (fun u H5 sb c hu => ⟨u, sb, c, hu, rfl⟩)
    rw [z'] at e
    exact absurd e (by simp [otV])
  rintro σ H5 ⟨u, sb5, c5, hu, rfl⟩
  have hqm : t.length - (qT ++ mT).length + (qT ++ mT).length = t.length := by
   have := congrArg List.length et
   simp only [List.length_append] at this ⊢
   lia
  obtain ⟨i5, d5⟩ := tl (a := schT x.scheme ++ (hT ++ (dT ++ ((if x.rooted then [47] else []) ++ wT)))) (b := qT ++ mT) (by rw [et]; simp)
  have e5 : (schT x.scheme ++ (hT ++ (dT ++ ((if x.rooted then [47] else []) ++ wT)))).length = t.length - (qT ++ mT).length := by
   have := congrArg List.length et
   simp only [List.length_append] at this ⊢
   lia
  rw [e5] at i5 d5
  walk_at "rd"
  refine ⟨p, t, qT, mT, _, x.quest, rfl, c5, i5, by lia, h128, d5, hQ, hmr, fun uq H6 s6 c6 hq => ?_⟩
  have e6 : t.length - mT.length ≤ t.length := by lia
  have d6 : t.drop (t.length - mT.length) = mT := by
   obtain ⟨_, z⟩ := tl (a := schT x.scheme ++ (hT ++ (dT ++ ((if x.rooted then [47] else []) ++ (wT ++ qT))))) (b := mT) (by rw [et]; simp)
   have e7 : (schT x.scheme ++ (hT ++ (dT ++ ((if x.rooted then [47] else []) ++ (wT ++ qT))))).length = t.length - mT.length := by
    have := congrArg List.length et
    simp only [List.length_append] at this ⊢
    lia
   rw [e7] at z
   exact z
  refine ⟨p, t, mT, _, x.mark, rfl, c6, e6, by lia, h128, d6, hM, fun H7 s7 c7 => ?_⟩
  refine aqr c7 ⟨p, t, _, rfl, c7, by lia, _, rfl, ?_⟩
  rw [decide_eq_true rfl, if_neg (by decide)]
  refine ⟨by decide, fun pr H8 _ s8 h8 => k _ H8 (((((sb5.trans s6).trans s7).same hp).trans s8)) ?_⟩
  exact adT h8 ((((hu.mono (c5.toT s6)).mono (c6.toT s7))).mono s8.toT) ((hq.mono (c6.toT s7)).mono s8.toT)
theorem hqA (g : G w K mg) : g.eqI.Ok P w base 7 (lqp K) := by
 refine g.eqI.F.ok lqn (fun vs H Q E h => ?_) (fun cdv A outer s H vs Q E hr h => ?_)
 ·obtain ⟨b, g, vb, vg, rfl, _⟩ := h; rfl
 ·obtain ⟨b, g', vb, vg, rfl, hB, hG, wb, wg, sb, sg, hb, hg, k⟩ := h
  refine ⟨_, (aqc (aqK (PW.pt (eqW (bqY (aqH (aqs g.bqQ (cqd g) hr rfl (aqa (pv 0) aqb)))) (cq4 (bqY (aqH (aqs g.bqQ (cqd g) hr rfl (aqa (pv 1) aqb)))))))
    (aqd bqa) aqp)
   (aqd (aqh (aqs g.fqe (kqg g) hr rfl (aqa (aqs g.aq1 (bqK g) hr rfl (aqa (pv 0) aqb)) (aqa (aqs g.aq1 (bqK g) hr rfl (aqa (pv 1) aqb)) aqb)))))), ?_⟩
  obtain ⟨pb, ub, qb, rfl, hpb, hwb, hqb⟩ := cqa hB
  obtain ⟨pg, ug, qg, rfl, hpg, hwg, hqg⟩ := cqa hG
  walk_at "rd"
  refine ⟨pb, b.scheme, _, rfl, hpb, _, rfl, ?_⟩
  rw [if_neg (by simp [sb])]
  refine ⟨pg, g'.scheme, _, rfl, hpg, _, rfl, ?_⟩
  rw [if_neg (by simp [sg])]
  have lb := b.gone_len
  have lg := g'.gone_len
  refine ⟨b, _, rfl, hB, by lia, fun u H1 s1 hu => ⟨g', _, rfl, hG.mono s1, by lia, fun u2 H2 s2 hu2 => ⟨b.gone, g'.gone, u, u2, rfl, hu.mono s2, hu2, wb.gone, wg.gone, b.gone_again, g'.gone_again, by lia, by lia, fun v H3 s3 hv => k v H3 ((s1.trans s2).trans s3) ?_⟩⟩⟩
  rw [nqA] at hv
  exact hv
theorem fqd (g : G w K mg) : g.dqj.Ok P w base 7 (kqX K) := by
 refine g.dqj.F.ok kq1 (fun vs H Q E h => ?_) (fun cdv A outer s H vs Q E hr h => ?_)
 ·obtain ⟨b, x, vb, vx, rfl, _⟩ := h; rfl
 ·obtain ⟨b, x, vb, vx, rfl, hB, hX, hws, wf, hb, hx, k⟩ := h
  refine ⟨_, (aqc (aqK (bqY (aqH (aqs g.bqQ (cqd g) hr rfl (aqa (pv 0) aqb))))
    (aqd bqa) aqp)
   (aqd (aqh (aqs g.aq1 (bqK g) hr rfl (aqa (aqJ (aqH (aqs g.bqQ (cqd g) hr rfl (aqa (pv 1) aqb))) (pv 1) (aqs g.eqw (jqh g) hr rfl (aqa (pv 0) (aqa (pv 1) aqb)))) aqb))))), ?_⟩
  obtain ⟨pb, wb, qb, rfl, hpb, hwb, hqb⟩ := cqa hB
  obtain ⟨px, wx, qx, rfl, hpx, hwx, hqx⟩ := cqa hX
  walk_at "rd"
  refine ⟨pb, b.scheme, _, rfl, hpb, _, rfl, ?_⟩
  rw [if_neg (by simp [hws])]
  refine ⟨px, x.scheme, _, rfl, hpx, _, rfl, ?_⟩
  by_cases h : x.scheme = []
  ·rw [if_neg (by simp [h])]
   refine ⟨b, x, _, _, rfl, hB, hX, wf, hb, hx, fun v H1 s1 hv => ⟨madeWhole b x, v, rfl, hv, by have := fqm b x; lia, fun u H2 s2 hu => k u H2 (s1.trans s2) ?_⟩⟩
   rw [hqK wf h]; exact hu
  ·rw [if_pos (by simp [h])]
   refine ⟨x, _, rfl, hX, by lia, fun u H1 s1 hu => k u H1 s1 ?_⟩
   rw [eqM h]; exact hu
theorem dqT (g : G w K mg) : FnOk P w K mg base CX0 8 g.bq7 g.bqI ["self", "text"] (gqG K g.cqq) := by
 refine g.eqx.ok dqV (fun vs H Q E h => ?_) (fun cdv A outer s H vs Q E hr h => ?_)
 ·obtain ⟨p, dx, x, t, rfl, _⟩ := h; rfl
 ·obtain ⟨p, dx, x, t, rfl, hp, hl, h128, wf, hs, hst, hw, k⟩ := h
  refine ⟨_, (aqc (aqj (i := 2) dqV.nd rfl (Or.inl rfl) (aqs g.iqv (jqk g) hr rfl (aqa (pv 1) aqb)))
   (aqc (aqK (bqY (aqH (aqs g.bqQ (cqd g) hr rfl (aqa (pv 2) aqb))))
    (aqd bqa) aqp)
   (aqc (gq9 (pv 0) (aqs g.gqb (gqU g) hr rfl (aqa (pv 2) aqb)) rfl)
   (aqd (gq9 (pv 0) (cqT aqb) rfl))))), ?_⟩
  walk_at "rd"
  refine ⟨x, t, rfl, hl, h128, wf, hw, fun u H1 s1 hu => ?_⟩
  obtain ⟨pu, uw, uq, rfl, hpu, hwu, hqu⟩ := sqC hu
  refine ⟨pu, x.scheme, _, rfl, .inl (.inl hpu), true, by rw [decide_eq_false hs]; rfl, ?_⟩
  rw [if_neg (by decide)]
  refine ⟨x, _, rfl, hu.k, wf, hst, fun v H2 s2 hv => ?_⟩
  have hp2 := s2 _ _ (s1 _ _ hp)
  refine ⟨p, _, dx, _, rfl, hp2, g.bqN, g.aqY, by show 0 < 1000; decide, by decide, fun l H3 n3 s3 e3 => ?_⟩
  have hp3 := s3 _ _ (aqk (H := H2) (a := p) (o := .ins g.cqq dx (putF (Str.ofString "address") v [])))
  refine ⟨p, _, dx, _, rfl, hp3, g.bqN, g.gqp, by show 1 < 1000; decide, ?_⟩
  have sb2 : SameBut p H2 H3 := aqM.trans s3.but
  refine k _ ((((s1.trans s2).but).trans sb2).trans aqM) ⟨dx, v, .ref l, ?_, IsK.but aqM hp3 (IsK.but sb2 hp2 hv)⟩
  have h : Str.ofString "address" ≠ Str.ofString "table" := by decide +kernel
  rw [aqk]
  simp only [putF, if_neg h]
theorem eqA (g : G w K mg) : FnOk P w K mg base CX0 8 g.cqj g.bqW ["self", "text"] (hqN K g.cqq) := by
 refine g.eq1.ok gq8 (fun vs H Q E h => ?_) (fun cdv A outer s H vs Q E hr h => ?_)
 ·obtain ⟨p, b, x, t, rfl, _⟩ := h; rfl
 ·obtain ⟨p, b, x, t, rfl, hd, gb, wx, lx, hl, h128, hw, k⟩ := h
  refine ⟨_, (aqd (aqh (aqs g.gqb (gqU g) hr rfl (aqa (aqs g.dqj (fqd g) hr rfl (aqa (bqR (pv 0) rfl) (aqa (aqs g.iqv (jqk g) hr rfl (aqa (pv 1) aqb)) aqb))) aqb)))), ?_⟩
  walk_at "rd"
  refine gqW hd g.bqN g.aqY fun v hv => ?_
  refine ⟨x, t, rfl, hl, h128, wx, hw, fun u H1 s1 hu => ?_⟩
  have lr := gqY (b := b) wx
  have lb := gb.ln
  refine ⟨b, x, v, u, rfl, hv.mono s1, hu.k, gb.sc, wx, by lia, by lia, fun w H2 s2 hw2 => ?_⟩
  exact ⟨resM b x, w, rfl, hw2, hqo gb.wf wx gb.sc, by lia, fun u2 H3 s3 h3 => k u2 H3 (s1.trans (s2.trans s3)) h3⟩
theorem mqG (g : G w K mg) : FnOk P w K mg base CX0 9 g.fqN g.eqN ["self", "text"] (mqZ K g.cqq) := by
 refine g.kqv.ok mqz (fun vs H Q E h => ?_) (fun cdv A outer s H vs Q E hr h => ?_)
 ·obtain ⟨p, b, x, t, rfl, _⟩ := h; rfl
 ·obtain ⟨p, b, x, t, rfl, hd, gb, wx, tx, lx, hl, h128, hw, k⟩ := h
  refine ⟨_, (aqc (gq9 (pv 0) (aqX (pv 0) g.bqN g.cq1 (eqA g) (hr.mono (by decide)) g.cq9 .nil pass0 (aqa (pv 1) aqb)) rfl)
   (aqd (aqh (aqs g.dqY (dqg g) hr rfl (aqa (bqR (pv 0) rfl) aqb))))), ?_⟩
  walk_at "rd"
  have lr := gqY (b := b) wx
  have lb := gb.ln
  have wp := fqG (hqo gb.wf wx gb.sc)
  have tp := dqI (hqz gb.ti tx)
  have lp := eqL (resM b x)
  refine dqP hd ⟨p, b, x, t, rfl, hd, gb.le (by decide), wx, by lia, hl, h128, hw, fun u H1 s1 hu => ?_⟩
  obtain ⟨dx, v', u', hp, hv'⟩ := hd.same s1
  have d2 := sqe hp hu
  refine ⟨p, _, dx, _, rfl, hp, g.bqN, g.aqY, by show 2 < 1000; decide, gqW d2 g.bqN g.aqY fun v hv => ?_⟩
  exact ⟨_, v, rfl, hv, wp, tp.sz wp (by lia), fun H3 s3 => k H3 ((s1.but.trans aqM).trans s3.but) (d2.same s3)⟩
theorem dqK (g : G w K mg) : FnOk P w K mg base CX0 10 g.eqJ g.dqw ["self", "row"] (lqc K g.cqq) := by
 refine g.iqq.ok gq7 (fun vs H Q E h => ?_) (fun cdv A outer s H vs Q E hr h => ?_)
 ·obtain ⟨p, b, row, rfl, _⟩ := h; rfl
 ·obtain ⟨p, b, row, rfl, hd, gb, k⟩ := h
  refine ⟨_, (aqc (aqj (i := 2) gq7.nd rfl (Or.inl rfl) (aqs g.fq7 (kq2 g) hr rfl (aqa (pv 1) aqb)))
   (aqc (aqK (aqi cq2 (aqt (aqf (K := K) rfl) (pv 2) aqg (fun _ _ => rfl)) aqn (nomark _))
    (aqd (aqh (aqs g.dqY (dqg g) hr rfl (aqa (bqR (pv 0) rfl) aqb)))) aqp)
   (aqc (aqK (aqi cq2 (aqt (aqf (K := K) rfl) (pv 2) aqg (fun _ _ => rfl)) aqn (nomark _))
    (aqd (aqh (aqX (pv 0) g.bqN g.iqt (mqG g) (hr.mono (by decide)) g.kqC .nil pass0 (aqa (aqt (aqf (K := K) rfl) (pv 2) aqg (fun _ _ => rfl)) aqb)))) aqp)
   (aqc (aqK (aqi cq2 (aqt (aqf (K := K) rfl) (pv 2) aqg (fun _ _ => rfl)) aqn (nomark _))
    (aqd (aqh (aqs g.dqY (dqg g) hr rfl (aqa (aqs g.eqI (hqA g) hr rfl (aqa (bqR (pv 0) rfl) (aqa (aqX (pv 0) g.bqN g.cq1 (eqA g) (hr.mono (by decide)) g.cq9 .nil pass0 (aqa (aqt (aqf (K := K) rfl) (pv 2) aqg (fun _ _ => rfl)) aqb)) aqb))) aqb)))) aqp)
   (aqc bqa
   (aqc bqa
   (aqd bqa))))))), ?_⟩
  have e1 : Str.ofString "at" = ⟨wAt.toArray⟩ := by decide +kernel
  have e2 : Str.ofString "go" = ⟨wGo.toArray⟩ := by decide +kernel
  have e3 : Str.ofString "link" = ⟨wLink.toArray⟩ := by decide +kernel
  rw [e1, e3]
  walk_at "rd"
  have lb := gb.ln
  rcases k with ⟨rfl, k⟩ | ⟨x, t, ⟨wx, tx, lx⟩, hl, h128, hw, k⟩
  ·refine ⟨_, rfl, .inl ⟨rfl, fun l H1 s1 hl1 => ?_⟩⟩
   walk_at "rd"
   refine ⟨_, _, .inl (.of hl1), jqp, ?_⟩
   walk_at "rd"
   exact gqW (hd.same s1) g.bqN g.aqY fun v hv => ⟨b, v, rfl, hv, gb.wf, gb.ti.sz gb.wf (by lia), fun H2 s2 => k H2 (s1.trans s2)⟩
  rcases k with ⟨rfl, k⟩ | ⟨rfl, lx2, k⟩
  ·refine ⟨_, rfl, .inr ⟨wGo, t, .inl rfl, rfl, hl, fun l H1 s1 hl1 => ?_⟩⟩
   walk_at "rd"
   refine ⟨_, _, .inl (.of hl1), jqp, ?_⟩
   walk_at "rd"
   refine ite2 (fun z => absurd z (by decide)) (fun _ => ⟨_, _, .inl (.of hl1), jqp, ?_⟩)
   walk_at "rd"
   refine ite2 (fun _ => ?_) (fun z => absurd e2.symm z)
   refine dqP (hd.same s1) ⟨_, _, .inl (.of hl1), aqC (j := 1) rfl, ?_⟩
   exact ⟨p, b, x, t, rfl, hd.same s1, gb.le (by decide), wx, tx, by lia, hl, h128, hw, fun H2 s2 d2 => k H2 (s1.but.trans s2) d2⟩
  ·refine ⟨_, rfl, .inr ⟨wLink, t, .inr rfl, rfl, hl, fun l H1 s1 hl1 => ?_⟩⟩
   walk_at "rd"
   refine ⟨_, _, .inl (.of hl1), jqp, ?_⟩
   walk_at "rd"
   refine ite2 (fun z => absurd z (by decide)) (fun _ => ⟨_, _, .inl (.of hl1), jqp, ?_⟩)
   walk_at "rd"
   refine ite2 (fun z => absurd z (by rw [e2]; decide)) (fun _ => ⟨_, _, .inl (.of hl1), jqp, ?_⟩)
   walk_at "rd"
   have d1 := hd.same s1
   have lr := gqY (b := b) wx
   have wp := fqG (hqo gb.wf wx gb.sc)
   have tp := dqI (hqz gb.ti tx)
   have lp := eqL (resM b x)
   have sp := jql (jq0 gb.wf wx gb.sc).1
   refine gqW d1 g.bqN g.aqY fun v hv => dqP d1 ⟨_, _, .inl (.of hl1), aqC (j := 1) rfl, ?_⟩
   refine ⟨p, b, x, t, rfl, d1, gb.le (by decide), wx, by lia, hl, h128, hw, fun u H2 s2 hu => ?_⟩
   refine ⟨b, _, v, u, rfl, hv.mono s2, hu, gb.wf, wp, gb.sc, sp, by lia, by lia, fun w H3 s3 hw3 => ?_⟩
   have wr := nqY (b := b) wp sp
   have tr := kqo (b := b) tp gb.ti
   have lrr := lq5 b (plainM (resM b x))
   exact ⟨_, w, rfl, hw3, wr, tr.sz wr (by lia), fun H4 s4 => k H4 (s1.trans (s2.trans (s3.trans s4)))⟩
theorem sqy (g : G w K mg) : g.f_law.Ok P w base 11 (lqV K) := by
 refine g.f_law.F.ok eq4 (fun vs H Q E h => ?_) (fun cdv A outer s H vs Q E hr h => ?_)
 ·obtain ⟨a, ns, rfl, _⟩ := h; rfl
 ·obtain ⟨a, ns, rfl, hS, hn, k⟩ := h
  refine ⟨_, (aqE (aqj (i := 1) eq4.nd rfl (Or.inl rfl) (aqs g.dq7 (jqs g) hr rfl (aqa (aqs g.cqh (eqG g) hr rfl (aqa (pv 0) (aqa aqg aqb))) aqb)))
   (aqE (aqj (i := 2) eq4.nd rfl (Or.inl rfl) (aqs g.cqk (eqd g) hr rfl (aqa (aqs g.cq3 (fqJ g) hr rfl (aqa (pv 0) (aqa aqg (aqa aqg aqb)))) (aqa (pv 1) (aqa dq4 aqb)))))
   (aqE (aqj (i := 3) eq4.nd rfl (Or.inl rfl) (lqw g.nqM (dqT g) (hr.mono (by decide)) rfl g.nqz g.cqU .nil pass0 (aqa (aqs g.dqY (dqg g) hr rfl (aqa (pv 2) aqb)) aqb)))
   (aqE (aqj (i := 4) eq4.nd rfl (Or.inl rfl) (aqs g.gqb (gqU g) hr rfl (aqa (pv 2) aqb)))
   (aqc (iqC PassesOwn.never rfl (cqZ rfl g.equ (aqa aqg aqb)) (dqE (i := 5) eq4.nd rfl (Or.inl rfl))
   (aqE (aqj (i := 6) eq4.nd rfl (Or.inl rfl) (aqs g.cqk (eqd g) hr rfl (aqa (aqs g.cq3 (fqJ g) hr rfl (aqa (pv 0) (aqa (aqm (bqp (K := K)) aqg (aqm eqh aqg (pv 5))) (aqa aqg aqb)))) (aqa (pv 1) (aqa dq4 aqb)))))
   (aqE (aqj (i := 7) eq4.nd rfl (Or.inl rfl) (aqs g.gqb (gqU g) hr rfl (aqa (aqs g.dqj (fqd g) hr rfl (aqa (pv 4) (aqa (pv 6) aqb))) aqb)))
   (aqE (aqj (i := 8) eq4.nd rfl (Or.inl rfl) (aqX (pv 3) g.bqN g.cqS (dqK g) (hr.mono (by decide)) g.dqq .nil pass0 (aqa (aqm (bqp (K := K)) aqn (aqs g.dqY (dqg g) hr rfl (aqa (pv 6) aqb))) aqb)))
   (aqE (aqK (PW.pt (eqW (bqY (aqH (aqD fqI rfl g.cqp bq8 (aqa (pv 8) (aqa (iqU (v := .ty "str") rfl g.mq3 jq3 rfl) aqb))))) (cq4 (aqi eqS (pv 8) (aqs g.dqY (dqg g) hr rfl (aqa (aqs g.eqI (hqA g) hr rfl (aqa (pv 4) (aqa (pv 7) aqb))) aqb)) (nomark _)))))
    (aqd (aqh dq4)) aqp)
   (aqE (aqK (PW.pt (eq5 (aqi (jqN (K := K) rfl hr.units) (aq9 (cqu (K := K) rfl) (pv 7) bq1 (bqC aqg)) (aq9 (cqu (K := K) rfl) (pv 4) bq1 (bqC aqg)) (nomark _)) (dqy (aqi (qqh (K := K) rfl hr.units) (aq9 (cqu (K := K) rfl) (aqs g.iqv (jqk g) hr rfl (aqa (pv 8) aqb)) bq1 (bqC aqg)) (aqG (aqa aqn (aqa aqB (aqa aqB aqb)))) (nomark _)))))
    (aqd (aqh dq4)) aqp)
   (aqE (aqK (PW.pt (eqW (aqi (qqh (K := K) rfl hr.units) (aqs g.dqj (fqd g) hr rfl (aqa (pv 4) (aqa (aqs g.iqv (jqk g) hr rfl (aqa (pv 8) aqb)) aqb))) (pv 7) (nomark _)) (cq4 (aqi eqS (aqX (pv 3) g.bqN g.cqS (dqK g) (hr.mono (by decide)) g.dqq .nil pass0 (aqa aqn aqb)) (aqs g.dqY (dqg g) hr rfl (aqa (pv 4) aqb)) (nomark _)))))
    (aqd (aqh dq4)) aqp)
   (aqE (aqK (PW.pt (eqW (aqi eqS (aqX (lqw g.nqM (dqT g) (hr.mono (by decide)) rfl g.nqz g.cqU .nil pass0 (aqa (aqs g.dqY (dqg g) hr rfl (aqa (pv 4) aqb)) aqb)) g.bqN g.cqS (dqK g) (hr.mono (by decide)) g.dqq .nil pass0 (aqa (aqm (bqp (K := K)) aqn (pv 8)) aqb)) (aqs g.dqY (dqg g) hr rfl (aqa (pv 7) aqb)) (nomark _)) (cq4 (aqi eqS (aqX (pv 3) g.bqN g.cqS (dqK g) (hr.mono (by decide)) g.dqq .nil pass0 (aqa (aqm (bqp (K := K)) aqn (pv 8)) aqb)) (aqs g.dqY (dqg g) hr rfl (aqa (pv 7) aqb)) (nomark _)))))
    (aqd (aqh dq4)) aqp)
   (aqd (aqj (i := 4) eq4.nd rfl (Or.inl rfl) (pv 7)))))))))))
   (aqd (aqh dq4))))))), ?_⟩
  have eL : ∀ t : List Nat, V.str (Str.ofString "link " ++ ⟨t.toArray⟩) = tV (wLink ++ 32 :: t) := fun t => by rw [show Str.ofString "link " = ⟨(wLink ++ [32]).toArray⟩ by decide +kernel, iqx, List.append_assoc]; rfl
  have eG : ∀ t : List Nat, V.str (Str.ofString "go " ++ ⟨t.toArray⟩) = tV (wGo ++ 32 :: t) := fun t => by rw [show Str.ofString "go " = ⟨(wGo ++ [32]).toArray⟩ by decide +kernel, iqx, List.append_assoc]; rfl
  have eA : V.str (Str.ofString "at") = tV wAt := by decide +kernel
  have eL5 : (Str.ofString "link ").length = 5 := by decide +kernel
  have eG3 : (Str.ofString "go ").length = 3 := by decide +kernel
  walk_at "rd"
  refine ⟨fun σ H1 => Same H H1 ∧ ∃ gg : List Nat, σ = [some (.ref a), some (tV gg), none, none, none, none, none, none, none] ∧ 0 < gg.length ∧ gg.length ≤ 5 ∧ ∀ c ∈ gg, isSg c = true, ⟨a, ns, 0, rfl, hS, _, rfl, fun l H1 h1 h2 h3 s1 => ⟨s1, l, rfl, h1, h2, h3⟩⟩, ?_⟩
  rintro σ H1 ⟨s1, gg, rfl, hg0, hg1, hgs⟩
  walk_at "rd"
  refine ⟨fun σ H2 => Same H H2 ∧ ∃ (b : Ad) (vb : V), σ = [some (.ref a), some (tV gg), some vb, none, none, none, none, none, none] ∧ GoodAd 3 b ∧ IsT H2 b.data vb, ?_, ?_⟩
  ·refine ⟨a, ns, 1, 7, rfl, s1.seq hS, by decide, fun is pc H2 hil s2 e2 => ⟨pc, is, gg, true, rfl, e2, hil, hg0, by lia, hgs, fun x u H3 ok ti ln sc s3 hu => ?_⟩⟩
   exact ⟨s1.trans (s2.trans s3), x, u, rfl, ⟨ok.wf, ti, sc rfl, ln⟩, hu⟩
  rintro σ H2 ⟨s2, b, vb, rfl, gb, hb⟩
  have szb := gb.ti.sz gb.wf (by have := gb.ln; lia)
  walk_at "rd"
  refine ⟨fun σ H3 => ∃ pd : Addr, H2 pd = none ∧ SameBut pd H2 H3 ∧ Dsk K H3 g.cqq pd (plainM b) ∧ σ = [some (.ref a), some (tV gg), some vb, some (.ref pd), none, none, none, none, none], ?_, ?_⟩
  ·exact ⟨b, vb, rfl, hb.k, gb.wf, szb, fun H3 s3 p dx np nd ne => ⟨p, dx, b, b.shw, rfl, aqk, szb.all, fqb gb.wf, gb.wf, gb.sc, by have := gb.ln; lia, eq9 gb.wf, fun H4 s4 d4 => ⟨rfl, p, Wm.Same.free s3 np, (s3.but.trans (oqG nd)).trans s4, d4, rfl⟩⟩⟩
  rintro σ H3 ⟨pd, npd, s3, d3, rfl⟩
  walk_at "rd"
  refine ⟨fun σ H4 => Same H3 H4 ∧ ∃ vh : V, IsK K H4 (plainM b).data vh ∧ σ = [some (.ref a), some (tV gg), some vb, some (.ref pd), some vh, none, none, none, none], ?_, ?_⟩
  ·exact ⟨b, vb, rfl, (hb.mono (s3.same npd).toT).k, gb.wf, by have := gb.ln; lia, fun u H4 s4 hu => ⟨s4, u, hu, rfl⟩⟩
  rintro σ H4 ⟨s4, vh, hvh, rfl⟩
  walk_at "rd"
  refine ⟨by decide, by decide, ?_⟩
  refine dqp (fun i σ H' => SameBut pd H2 H' ∧ ∃ (x : Ad) (vh : V) (v5 v6 v7 v8 : Option V), σ = [some (.ref a), some (tV gg), some vb, some (.ref pd), some vh, v5, v6, v7, v8] ∧ GoodAd (3 + 3 * i) x ∧ plainM x = x ∧ IsK K H' x.data vh ∧ Dsk K H' g.cqq pd x) ⟨s3.trans s4.but, plainM b, vh, none, none, none, none, rfl, ⟨fqG gb.wf, dqI gb.ti, jql gb.sc, by have := gb.ln; have := eqL b; lia⟩, gqq b, hvh, d3.same s4⟩ ?_ ?_
  rotate_left
  ·rintro σ H5 ⟨sb, x, vh, v5, v6, v7, v8, rfl, gx, px, hx, dk⟩
   walk_at "rd"
   exact k H5
  clear hvh d3 s3 s4
  rintro i σ H5 hi ⟨sb, x, vh, v5, v6, v7, v8, rfl, gx, px, hx, dk⟩
  have hi8 : i < 8 := hi
  have s5 : Same H H5 := s2.trans (sb.same npd)
  have lx := gx.ln
  walk_at "rd"
  refine ⟨fun σ H6 => Same H5 H6 ∧ ∃ (y : Ad) (vy : V), σ = [some (.ref a), some (tV gg), some vb, some (.ref pd), some vh, some (.int (0 + (i : Int))), some vy, v7, v8] ∧ y.Wf ∧ y.Tiny ∧ y.steps.length ≤ 3 ∧ IsT H6 y.data vy, ?_, ?_⟩
  ·refine ⟨.inl ⟨by decide, by decide⟩, a, ns, 8 + 7 * i, 7, by rw [show (8 : Int) + 7 * (0 + (i : Int)) = ((8 + 7 * i : Nat) : Int) by lia]; rfl, s5.seq hS, by decide, fun is pc H6 hil s6 e6 => ?_⟩
   exact ⟨pc, is, gg, false, rfl, e6, hil, hg0, by lia, hgs, fun y u H7 ok ti ln _ s7 hu => ⟨s6.trans s7, y, u, rfl, ok.wf, ti, ln, hu⟩⟩
  rintro σ H6 ⟨s6, y, vy, rfl, wy, ty, ly, hy⟩
  obtain ⟨D, hD⟩ : ∃ D, D = plainM (resM x y) := ⟨_, rfl⟩
  have lr := gqY (b := x) wy
  have wD : D.Wf := by rw [hD]; exact fqG (hqo gx.wf wy gx.sc)
  have tD : D.Tiny := by rw [hD]; exact dqI (hqz gx.ti ty)
  have lD : D.steps.length ≤ 6 + 3 * i := by rw [hD]; have := eqL (resM x y); lia
  have sD : D.scheme ≠ [] := by rw [hD]; exact jql (jq0 gx.wf wy gx.sc).1
  have pD : plainM D = D := by rw [hD]; exact gqq _
  have gD : D.gone = D := by rw [hD]; exact Ad.gone_again _
  have wr := nqY (b := x) wD sD
  have tr := kqo (b := x) tD gx.ti
  have lrr := lq5 x D
  have szr := tr.sz wr (by lia)
  have szD := tD.sz wD (by lia)
  have szx := gx.ti.sz gx.wf (by lia)
  have szy := ty.sz wy (by lia)
  have bk : resM x (relM x D) = D := by rw [oqz gx.wf wD gx.sc sD, gD]
  have dk6 := dk.same s6
  have hx6 := hx.mono s6
  walk_at "rd"
  refine ⟨fun σ H7 => Same H6 H7 ∧ ∃ vd : V, IsK K H7 D.data vd ∧ σ = [some (.ref a), some (tV gg), some vb, some (.ref pd), some vh, some (.int (0 + (i : Int))), some vy, some vd, v8], ?_, ?_⟩
  ·refine ⟨x, y, vh, vy, rfl, hx6, hy.k, gx.sc, wy, by lia, by lia, fun u H7 s7 hu => ⟨_, u, rfl, hu, hqo gx.wf wy gx.sc, by lia, fun u' H8 s8 hu' => ⟨s7.trans s8, u', ?_, rfl⟩⟩⟩
   rw [hD]; exact hu'
  rintro σ H7 ⟨s7, vd, hd7, rfl⟩
  walk_at "rd"
  refine ⟨fun σ H8 => Same H7 H8 ∧ σ = [some (.ref a), some (tV gg), some vb, some (.ref pd), some vh, some (.int (0 + (i : Int))), some vy, some vd, some (tV (relM x D).shw)], ?_, ?_⟩
  ·refine dqP (dk6.same s7) ⟨y, vy, rfl, (hy.mono s7.toT).k, wy, szy, fun H8 s8 => ?_⟩
   walk_at "rd"
   refine ⟨aqq (by have := szy.all; rw [eL5]; lia), pd, x, _, by rw [eL], dk6.same (s7.trans s8), gx.le (by lia), .inr ⟨y, y.shw, ⟨wy, ty, by lia⟩, szy.all, fqb wy, eq9 wy, .inr ⟨rfl, by lia, fun H9 s9 => ⟨s8.trans s9, by rw [hD]⟩⟩⟩⟩
  rintro σ H8 ⟨s8, rfl⟩
  have dk8 := dk6.same (s7.trans s8)
  have hx8 := hx6.mono (s7.trans s8)
  have hd8 := hd7.mono s8
  have s58 := s6.trans (s7.trans s8)
  walk_at "rd"
  refine ⟨fun σ H9 => Same H8 H9 ∧ σ = [some (.ref a), some (tV gg), some vb, some (.ref pd), some vh, some (.int (0 + (i : Int))), some vy, some vd, some (tV (relM x D).shw)], ?_, ?_⟩
  ·refine ⟨x, D, vh, vd, rfl, hx8, hd8, gx.wf, wD, gx.sc, sD, by lia, by lia, fun u H9 s9 hu => ⟨_, u, rfl, hu, wr, szr, fun H10 s10 => ?_⟩⟩
   walk_at "rd"
   exact s9.trans s10
  clear s7 s8 hd7
  rintro σ H9 ⟨s9, rfl⟩
  walk_at "rd"
  refine ⟨fun σ H10 => Same H8 H10 ∧ σ = [some (.ref a), some (tV gg), some vb, some (.ref pd), some vh, some (.int (0 + (i : Int))), some vy, some vd, some (tV (relM x D).shw)], ?_, ?_⟩
  ·obtain ⟨pe, w1, q1, e1, hp1, _, _⟩ := cqa (hd8.mono s9)
   obtain ⟨ph, w2, q2, e2, hp2, _, _⟩ := cqa (hx8.mono s9)
   rw [e1, e2]
   walk_at "rd"
   refine ⟨_, hp1, fun p1 Ha sa h1 => ?_⟩
   refine ⟨_, sa.tup hp2, fun p2 Hb sb h2 => ⟨D.h3, x.h3, (nqB h1).mono sb, nqB h2, qqV wD, qqV gx.wf, _, rfl, ?_⟩⟩
   refine ite2 (fun z => ?_) (fun _ => s9.trans (sa.trans sb))
   obtain ⟨z1, z2, z3⟩ := (tqj _ _).mp z
   obtain ⟨r1, r2, r3⟩ := nqL z1 z2 z3
   refine ⟨_, _, rfl, szr.all, fqb wr, wr, eq9 wr, fun u Hc sc hu => ?_⟩
   obtain ⟨pu, uw, uq, rfl, hpu, _, _⟩ := cqa (K := K) hu.k
   walk_at "rd"
   refine ⟨_, hpu, fun p3 Hd sd h3 => ⟨by decide, fun p4 He ne se h4 => ⟨(relM x D).h3, .tuple [st [], .none, .none], (nqB h3).mono se, .tup (.inl (.inl h4)) (.cons (.str _) (.cons .non (.cons .non .nil))), qqV wr, by decide +kernel, false, ?_, ?_⟩⟩⟩
   ·unfold Ad.h3
    rw [r1, r2, r3]
    exact congrArg V.bl (by decide +kernel)
   rw [if_neg (by decide)]
   exact s9.trans (sa.trans (sb.trans (sc.trans (sd.trans se))))
  clear s9
  rintro σ H10 ⟨s10, rfl⟩
  walk_at "rd"
  refine ⟨fun σ H11 => Same H8 H11 ∧ σ = [some (.ref a), some (tV gg), some vb, some (.ref pd), some vh, some (.int (0 + (i : Int))), some vy, some vd, some (tV (relM x D).shw)], ?_, ?_⟩
  ·refine ⟨_, _, rfl, szr.all, fqb wr, wr, eq9 wr, fun u Ha sa hu => ⟨x, _, vh, u, rfl, hx8.mono (s10.trans sa), hu.k, gx.sc, wr, by lia, by lia, fun v Hb sb hv => ?_⟩⟩
   rw [bk] at hv
   have s8b := s10.trans (sa.trans sb)
   refine ⟨D.data, D.data, hv, hd8.mono s8b, wD.shaped, wD.shaped, false, by rw [(Ad.eqv_iff D D).mpr rfl]; rfl, ?_⟩
   rw [if_neg (by decide)]
   refine dqP (dk8.same s8b) ⟨pd, x, wAt, by rw [eA], dk8.same s8b, gx.le (by lia), .inl ⟨rfl, fun Hc sc => ⟨x, vh, rfl, hx8.mono (s8b.trans sc), gx.wf, szx, fun Hd sd => ?_⟩⟩⟩
   walk_at "rd"
   exact s8b.trans (sc.trans sd)
  clear s10
  rintro σ H11 ⟨s11, rfl⟩
  walk_at "rd"
  refine ⟨fun σ H12 => SameBut pd H8 H12 ∧ Dsk K H12 g.cqq pd D ∧ IsK K H12 D.data vd ∧ σ = [some (.ref a), some (tV gg), some vb, some (.ref pd), some vh, some (.int (0 + (i : Int))), some vy, some vd, some (tV (relM x D).shw)], ?_, ?_⟩
  ·refine ⟨x, vh, rfl, hx8.mono s11, gx.wf, szx, fun Ha sa p dx np nd ne => ⟨p, dx, x, x.shw, rfl, aqk, szx.all, fqb gx.wf, gx.wf, gx.sc, by lia, eq9 gx.wf, fun Hb sb db => ⟨rfl, ?_⟩⟩⟩
   rw [px] at db
   have hsz : (Str.ofString "go ").length + (relM x D).shw.length ≤ sizeLine := aqq (by have := szr.all; rw [eG3]; lia)
   refine dqP db ⟨hsz, p, x, _, by rw [eG], db, gx.le (by lia), .inr ⟨relM x D, _, ⟨wr, tr, by lia⟩, szr.all, fqb wr, eq9 wr, .inl ⟨rfl, fun Hc sc dc => ?_⟩⟩⟩
   have s8c : Same H8 Hc := s11.trans (sa.trans (((oqG nd).trans (sb.trans sc)).same np))
   rw [bk, pD]
   refine ⟨D, vd, rfl, hd8.mono s8c, wD, szD, fun Hd sd => ?_⟩
   have s8d := s8c.trans sd
   walk_at "rd"
   refine dqP (dk8.same s8d) ⟨hsz, pd, x, _, by rw [eG], dk8.same s8d, gx.le (by lia), .inr ⟨relM x D, _, ⟨wr, tr, by lia⟩, szr.all, fqb wr, eq9 wr, .inl ⟨rfl, fun He se de => ?_⟩⟩⟩
   rw [bk, pD] at de ⊢
   have hde := (dk8.same s8d).keep se (hd8.mono s8d)
   refine ⟨D, vd, rfl, hde, wD, szD, fun Hf sf => ?_⟩
   walk_at "rd"
   exact ⟨(s8d.but.trans se).trans sf.but, de.same sf, hde.mono sf⟩
  rintro σ H12 ⟨s12, d12, h12, rfl⟩
  walk_at "rd"
  exact ⟨(sb.trans s58.but).trans s12, D, vd, _, _, _, _, ⟨rfl, rfl, rfl, rfl, rfl⟩, ⟨wD, tD, sD, by lia⟩, pD, h12, d12⟩
end
theorem usl1 {us : List Value} (h : us.length = 1) : ∃ x0, us = [x0] := List.length_eq_one_iff.mp h
local macro_rules | `(tactic| walk_at "b1") => `(tactic| exact fun _ _ _ _ _ _ us hl => by obtain ⟨x0, e⟩ := usl1 hl; subst e; rfl)
theorem usl2 {us : List Value} (h : us.length = 2) : ∃ x0 x1, us = [x0, x1] := by
 cases us with
 | nil => cases h
 | cons x0 l =>
  obtain ⟨x1, rfl⟩ := usl1 (Nat.succ.inj h)
  exact ⟨_, _, rfl⟩
local macro_rules | `(tactic| walk_at "b2") => `(tactic| exact fun _ _ _ _ _ _ us hl => by obtain ⟨x0, x1, e⟩ := usl2 hl; subst e; rfl)
theorem usl3 {us : List Value} (h : us.length = 3) : ∃ x0 x1 x2, us = [x0, x1, x2] := by
 cases us with
 | nil => cases h
 | cons x0 l =>
  obtain ⟨x1, x2, rfl⟩ := usl2 (Nat.succ.inj h)
  exact ⟨_, _, _, rfl⟩
local macro_rules | `(tactic| walk_at "b3") => `(tactic| exact fun _ _ _ _ _ _ us hl => by obtain ⟨x0, x1, x2, e⟩ := usl3 hl; subst e; rfl)
abbrev fo (n : Str) (s : Stmt) (d k a b : Value) (e : Option Addr) (c t : Value) : FuncData := W.fnOf n n (defArgs s) (defBody s) (defScope s) d k a b e c t
theorem tqK {l : PySem.W.OpenLaw} {w : World} {K : W.Frag} {h : Heap} {mg : Str → Option Value} {fa : Addr} (X : K.In h) (Gl : h.Ns mainGlobals mg) (hfa : mg "law" = some (.ref fa)) (d : D K mg)
  {kC_Cursor : Addr} (aC_Cursor : W.nsIn K mainGlobals "Cursor" = some (some (.ref kC_Cursor)))
  {kC_Desk : Addr} (aC_Desk : W.nsIn K mainGlobals "Desk" = some (some (.ref kC_Desk)))
  (a9 : W.findIn K (.ref kC_Cursor) "__init__" = some (some (.ref f9))) (i9 : W.isFn K (.ref f9) = true) (l9 : K.lookup f9 = some ⟨oc9, od9, .func (W.fnOf "__init__" "Cursor.__init__" (defArgs aqQ) (defBody aqQ) (defScope aqQ) .none kV9 dc9 pm9 an9 cd9 ct9), sl9⟩)
  (a10 : W.findIn K (.ref kC_Cursor) "at_end" = some (some (.ref f10))) (i10 : W.isFn K (.ref f10) = true) (l10 : K.lookup f10 = some ⟨oc10, od10, .func (W.fnOf "at_end" "Cursor.at_end" (defArgs aq5) (defBody aq5) (defScope aq5) .none kV10 dc10 pm10 an10 cd10 ct10), sl10⟩)
  (a11 : W.findIn K (.ref kC_Cursor) "take" = some (some (.ref f11))) (i11 : W.isFn K (.ref f11) = true) (l11 : K.lookup f11 = some ⟨oc11, od11, .func (W.fnOf "take" "Cursor.take" (defArgs bqv) (defBody bqv) (defScope bqv) .none kV11 dc11 pm11 an11 cd11 ct11), sl11⟩)
  (a12 : W.findIn K (.ref kC_Cursor) "passes" = some (some (.ref f12))) (i12 : W.isFn K (.ref f12) = true) (l12 : K.lookup f12 = some ⟨oc12, od12, .func (W.fnOf "passes" "Cursor.passes" (defArgs aq3) (defBody aq3) (defScope aq3) .none kV12 dc12 pm12 an12 cd12 ct12), sl12⟩)
  (a26 : W.findIn K (.ref kC_Cursor) "sees" = some (some (.ref f26))) (i26 : W.isFn K (.ref f26) = true) (l26 : K.lookup f26 = some ⟨oc26, od26, .func (W.fnOf "sees" "Cursor.sees" (defArgs bqA) (defBody bqA) (defScope bqA) .none kV26 dc26 pm26 an26 cd26 ct26), sl26⟩)
  {dt43_0 : Tok}
  (a43 : W.nsIn K mainGlobals "taken_text" = some (some (.ref f43))) (l43 : K.lookup f43 = some ⟨oc43, od43, .func (fo "taken_text" cq6 (.ref T43) kV43 dc43 pm43 an43 cd43 ct43), sl43⟩)
  (d43 : K.lookup T43 = some ⟨ocT43, odT43, .seq #[.none] nT43, slT43⟩)
  {dt48_0 : Tok}
  (a48 : W.nsIn K mainGlobals "taken_filled_text" = some (some (.ref f48))) (l48 : K.lookup f48 = some ⟨oc48, od48, .func (fo "taken_filled_text" bqb (.ref T48) kV48 dc48 pm48 an48 cd48 ct48), sl48⟩)
  (d48 : K.lookup T48 = some ⟨ocT48, odT48, .seq #[.none] nT48, slT48⟩)
  (a59 : W.findIn K (.ref kC_Desk) "__init__" = some (some (.ref f59))) (i59 : W.isFn K (.ref f59) = true) (l59 : K.lookup f59 = some ⟨oc59, od59, .func (W.fnOf "__init__" "Desk.__init__" (defArgs aq2) (defBody aq2) (defScope aq2) .none kV59 dc59 pm59 an59 cd59 ct59), sl59⟩)
  (a60 : W.findIn K (.ref kC_Desk) "goal_of" = some (some (.ref f60))) (i60 : W.isFn K (.ref f60) = true) (l60 : K.lookup f60 = some ⟨oc60, od60, .func (W.fnOf "goal_of" "Desk.goal_of" (defArgs bqh) (defBody bqh) (defScope bqh) .none kV60 dc60 pm60 an60 cd60 ct60), sl60⟩)
  (a61 : W.findIn K (.ref kC_Desk) "go" = some (some (.ref f61))) (i61 : W.isFn K (.ref f61) = true) (l61 : K.lookup f61 = some ⟨oc61, od61, .func (W.fnOf "go" "Desk.go" (defArgs dqn) (defBody dqn) (defScope dqn) .none kV61 dc61 pm61 an61 cd61 ct61), sl61⟩)
  (a62 : W.findIn K (.ref kC_Desk) "say" = some (some (.ref f62))) (i62 : W.isFn K (.ref f62) = true) (l62 : K.lookup f62 = some ⟨oc62, od62, .func (W.fnOf "say" "Desk.say" (defArgs cqH) (defBody cqH) (defScope cqH) .none kV62 dc62 pm62 an62 cd62 ct62), sl62⟩)
  {qa1_NO_WAY : Addr} {qd1_NO_WAY : Option Addr} {qn1_NO_WAY : Nat} {qs1_NO_WAY : Array (Option Value)} {qa0_NO_WAY : Addr} {qd0_NO_WAY : Option Addr} {qn0_NO_WAY : Nat} {qs0_NO_WAY : Array (Option Value)}
  (e_NO_WAY : W.nsIn K mainGlobals "NO_WAY" = some (some (.ref qa0_NO_WAY)))
  (y0_NO_WAY : K.lookup qa0_NO_WAY = some ⟨.type "tuple", qd0_NO_WAY, .seq #[.bool false, .ref qa1_NO_WAY, .bool false] qn0_NO_WAY, qs0_NO_WAY⟩)
  (y1_NO_WAY : K.lookup qa1_NO_WAY = some ⟨.type "tuple", qd1_NO_WAY, .seq #[] qn1_NO_WAY, qs1_NO_WAY⟩)
  {qa0_WITH_TEXT : Addr} {qd0_WITH_TEXT : Option Addr} {qn0_WITH_TEXT : Nat} {qs0_WITH_TEXT : Array (Option Value)} {qt0_0_WITH_TEXT : Tok} {qt1_0_WITH_TEXT : Tok} {qt2_0_WITH_TEXT : Tok}
  (e_WITH_TEXT : W.nsIn K mainGlobals "WITH_TEXT" = some (some (.ref qa0_WITH_TEXT)))
  (y0_WITH_TEXT : K.lookup qa0_WITH_TEXT = some ⟨.type "tuple", qd0_WITH_TEXT, .seq #[.str (Str.ofString "go") qt0_0_WITH_TEXT, .str (Str.ofString "link") qt1_0_WITH_TEXT, .str (Str.ofString "add") qt2_0_WITH_TEXT] qn0_WITH_TEXT, qs0_WITH_TEXT⟩)
  {qa_NAMES_BEHIND : Addr} (e_NAMES_BEHIND : W.nsIn K mainGlobals "NAMES_BEHIND" = some (some (.ref qa_NAMES_BEHIND)))
  (yl_NAMES_BEHIND : PyProof.Rows.KTD.tabLook PyProof.Rows.KTD.flatLooks (fun a => K.lookup a) qa_NAMES_BEHIND cql = true) (yh_NAMES_BEHIND : PyProof.Rows.KTD.hashesOf (fun a => K.lookup a) qa_NAMES_BEHIND = cql.map fun p => hashStr w p.1)
  {gq0 : Tok} (e_SIGNS : W.nsIn K mainGlobals "SIGNS" = some (some (.str (Str.ofString " !\"#$&'()*+,-./0123456789:;<=>?@ABCDEFGHIJKLMNOPQRSTUVWXYZ[\\]^_`abcdefghijklmnopqrstuvwxyz{|}~") gq0)))
  {eqp : Tok} (e_LETTERS : W.nsIn K mainGlobals "LETTERS" = some (some (.str (Str.ofString "abcdefghijklmnopqrstuvwxyzABCDEFGHIJKLMNOPQRSTUVWXYZ") eqp)))
  {aqL : Tok} (e_LETTERS_AND_FIGURES : W.nsIn K mainGlobals "LETTERS_AND_FIGURES" = some (some (.str (Str.ofString "abcdefghijklmnopqrstuvwxyzABCDEFGHIJKLMNOPQRSTUVWXYZ0123456789") aqL)))
  {eqB : Tok} (e_FIGURES : W.nsIn K mainGlobals "FIGURES" = some (some (.str (Str.ofString "0123456789") eqB)))
  {gqZ : Tok} (e_PLAIN : W.nsIn K mainGlobals "PLAIN" = some (some (.str (Str.ofString "abcdefghijklmnopqrstuvwxyzABCDEFGHIJKLMNOPQRSTUVWXYZ0123456789-_.") gqZ)))
  {bqs : Tok} (e_FREE_IN_STEPS : W.nsIn K mainGlobals "FREE_IN_STEPS" = some (some (.str (Str.ofString "!$'()*,;@&=+") bqs)))
  {aqS : Tok} (e_FREE_IN_QUESTIONS : W.nsIn K mainGlobals "FREE_IN_QUESTIONS" = some (some (.str (Str.ofString "!$'()*,;@+/?:") aqS)))
  {bqt : Tok} (e_FREE_IN_MARKS : W.nsIn K mainGlobals "FREE_IN_MARKS" = some (some (.str (Str.ofString "!$'()*,;@&=+/?:") bqt)))
  {bqG : Tok} (e_FIRST_NUMBER : W.nsIn K mainGlobals "FIRST_NUMBER" = some (some (.int 32 bqG)))
  {bqU : Tok} (e_LAST_NUMBER : W.nsIn K mainGlobals "LAST_NUMBER" = some (some (.int 126 bqU)))
  {aq4 : Tok} (e_NUMBER_LEFT_OUT : W.nsIn K mainGlobals "NUMBER_LEFT_OUT" = some (some (.int 37 aq4)))
  {bqq : Tok} (e_SMALL_FIGURES : W.nsIn K mainGlobals "SMALL_FIGURES" = some (some (.str (Str.ofString "0123456789abcdef") bqq)))
  {bqo : Tok} (e_GREAT_FIGURES : W.nsIn K mainGlobals "GREAT_FIGURES" = some (some (.str (Str.ofString "0123456789ABCDEF") bqo)))
  {fqj : Tok} (e_SCHEME : W.nsIn K mainGlobals "SCHEME" = some (some (.int 0 fqj)))
  {hql : Tok} (e_HOUSE : W.nsIn K mainGlobals "HOUSE" = some (some (.int 1 hql)))
  {kqN : Tok} (e_DOOR : W.nsIn K mainGlobals "DOOR" = some (some (.int 2 kqN)))
  {oqK : Tok} (e_WAY : W.nsIn K mainGlobals "WAY" = some (some (.int 3 oqK)))
  {dqk : Tok} (e_QUESTION : W.nsIn K mainGlobals "QUESTION" = some (some (.int 4 dqk)))
  {kqn : Tok} (e_MARK : W.nsIn K mainGlobals "MARK" = some (some (.int 5 kqn)))
  {fqr : Tok} (e_ROOTED : W.nsIn K mainGlobals "ROOTED" = some (some (.int 0 fqr)))
  {gq6 : Tok} (e_STEPS : W.nsIn K mainGlobals "STEPS" = some (some (.int 1 gq6)))
  {kqu : Tok} (e_ENDS : W.nsIn K mainGlobals "ENDS" = some (some (.int 2 kqu)))
  {bqf : Tok} (e_LONGEST_SCHEME : W.nsIn K mainGlobals "LONGEST_SCHEME" = some (some (.int 8 bqf)))
  {bql : Tok} (e_LONGEST_HOUSE : W.nsIn K mainGlobals "LONGEST_HOUSE" = some (some (.int 60 bql)))
  {cqN : Tok} (e_LAST_DOOR : W.nsIn K mainGlobals "LAST_DOOR" = some (some (.int 65535 cqN)))
  {jqW : Tok} (e_STAY : W.nsIn K mainGlobals "STAY" = some (some (.str (Str.ofString ".") jqW)))
  {t_UP : Tok} (e_UP : W.nsIn K mainGlobals "UP" = some (some (.str (Str.ofString "..") t_UP)))
  {bqu : Tok} (e_FIRST_FIGURES : W.nsIn K mainGlobals "FIRST_FIGURES" = some (some (.str (Str.ofString "234567") bqu)))
  (z_all : W.nsIn K mainGlobals "all" = some none)
  (z_ord : W.nsIn K mainGlobals "ord" = some none)
  (z_len : W.nsIn K mainGlobals "len" = some none)
  (z_int : W.nsIn K mainGlobals "int" = some none)
  (z_min : W.nsIn K mainGlobals "min" = some none)
  (z_isinstance : W.nsIn K mainGlobals "isinstance" = some none)
  (z_str : W.nsIn K mainGlobals "str" = some none)
  (z_range : W.nsIn K mainGlobals "range" = some none)
  (z_tuple : W.nsIn K mainGlobals "tuple" = some none)
  (pg_Cursor : W.plainGet K kC_Cursor Str.empty = true)
  (hd_Cursor : W.hasDictIn K kC_Cursor = true)
  (po_Cursor : W.plainOver K kC_Cursor = true)
  (sa_Cursor : W.findIn K (.ref kC_Cursor) "__setattr__" = some (some (.builtin "object.__setattr__")))
  (mk_Cursor : W.makesIn K kC_Cursor = true)
  (kc_Cursor : W.keepIn K (.ref kC_Cursor) = true)
  (nf_Cursor_text : W.findIn K (.ref kC_Cursor) "text" = some none)
  (nf_Cursor_place : W.findIn K (.ref kC_Cursor) "place" = some none)
  (pg_Desk : W.plainGet K kC_Desk Str.empty = true)
  (hd_Desk : W.hasDictIn K kC_Desk = true)
  (po_Desk : W.plainOver K kC_Desk = true)
  (sa_Desk : W.findIn K (.ref kC_Desk) "__setattr__" = some (some (.builtin "object.__setattr__")))
  (mk_Desk : W.makesIn K kC_Desk = true)
  (kc_Desk : W.keepIn K (.ref kC_Desk) = true)
  (nf_Desk_address : W.findIn K (.ref kC_Desk) "address" = some none)
  (nf_Desk_table : W.findIn K (.ref kC_Desk) "table" = some none)
  (kk : ((((W.keepIn K (.ref f9) && W.keepIn K (.ref f10)) && W.keepIn K (.ref f11)) && ((W.keepIn K (.ref f12) && W.keepIn K (.ref f26)) && W.keepIn K (.ref f43))) && (((W.keepIn K (.ref f48) && W.keepIn K (.ref f59)) && W.keepIn K (.ref f60)) && (W.keepIn K (.ref f61) && W.keepIn K (.ref f62)))) = true)
  (cc : ((((W.codeIn K cd9 "Cursor.__init__" && W.codeIn K cd10 "Cursor.at_end") && W.codeIn K cd11 "Cursor.take") && ((W.codeIn K cd12 "Cursor.passes" && W.codeIn K cd26 "Cursor.sees") && W.codeIn K cd43 "taken_text")) && (((W.codeIn K cd48 "taken_filled_text" && W.codeIn K cd59 "Desk.__init__") && W.codeIn K cd60 "Desk.goal_of") && (W.codeIn K cd61 "Desk.go" && W.codeIn K cd62 "Desk.say"))) = true) :
  ∃ fd : FuncData, (∀ (s : Shared) (v : Value), BindsTo s fd ⟨[v], []⟩ [("_law_script", v)]) ∧ ∀ base : Heap, K.In base → base.Ns mainGlobals mg → FnOk l.prog w K mg base CX0 11 fa fd ["_law_script"] (lqV K) := by
 have e2 : d.f_law.a = fa := by have e := hfa.symm.trans d.f_law.m; cases e; rfl
 subst e2
 have M : ∀ {x : Str} {v : Value}, W.nsIn K mainGlobals x = some (some v) → mg x = some v := fun a => W.mg_of X Gl a
 simp only [Bool.and_eq_true] at kk cc
 obtain ⟨⟨⟨⟨ka9, ka10⟩, ka11⟩, ⟨⟨ka12, ka26⟩, ka43⟩⟩, ⟨⟨⟨ka48, ka59⟩, ka60⟩, ⟨ka61, ka62⟩⟩⟩ := kk
 obtain ⟨⟨⟨⟨ca9, ca10⟩, ca11⟩, ⟨⟨ca12, ca26⟩, ca43⟩⟩, ⟨⟨⟨ca48, ca59⟩, ca60⟩, ⟨ca61, ca62⟩⟩⟩ := cc
 have F9 := eqi (st := aqQ) l9 ca9 ka9
 have F10 := eqi (st := aq5) l10 ca10 ka10
 have F11 := eqi (st := bqv) l11 ca11 ka11
 have F12 := eqi (st := aq3) l12 ca12 ka12
 have F26 := eqi (st := bqA) l26 ca26 ka26
 have F43 := nqS (st := cq6) l43 ca43 ka43
 have F48 := nqS (st := bqb) l48 ca48 ka48
 have F59 := eqi (st := aq2) l59 ca59 ka59
 have F60 := eqi (st := bqh) l60 ca60 ka60
 have F61 := eqi (st := dqn) l61 ca61 ka61
 have F62 := eqi (st := cqH) l62 ca62 ka62
 let g : G w K mg := {
  toD := d,
  bqz := f9, bqk := _, dqs := F9,
  dqi := F9.binds (by walk_at "b2"),
  bqZ := f10, bqL := _, eqm := F10, cqv := ⟨a10, i10, F10.kp⟩,
  cqV := F10.binds (by walk_at "b1"),
  cqB := f11, cqi := _, fqo := F11, bqi := ⟨a11, i11, F11.kp⟩,
  bqy := F11.binds (by walk_at "b1"),
  bqX := f12, bqM := _, eqF := F12, aqu := ⟨a12, i12, F12.kp⟩,
  aqy := F12.binds (by walk_at "b2"),
  cqC := f26, cqg := _, fqF := F26, bqD := ⟨a26, i26, F26.kp⟩,
  bq0 := F26.binds (by walk_at "b2"),
  cq5 := f43, bqV := _, gqm := T43, iql := dt43_0, aq6 := F43, bqn := M a43,
  gql := F43.binds (ps := ["cursor", "free", "most"]) (ds := []) d43 fun _ _ _ _ _ _ us hl => by rw [List.append_nil] at hl; obtain ⟨x0, x1, x2, e⟩ := usl3 hl; subst e; exact ⟨_, rfl, rfl⟩,
  bqx := F43.binds (ps := ["cursor", "free", "most"]) (ds := [.none]) d43 fun _ _ _ _ _ _ us hl => by obtain ⟨x, y, rfl⟩ := oqp hl; exact ⟨_, rfl, rfl⟩,
  bqc := f48, aqO := _, cqM := T48, eqC := dt48_0, aq7 := F48, bqP := M a48,
  cqY := F48.binds (ps := ["cursor", "free", "most"]) (ds := []) d48 fun _ _ _ _ _ _ us hl => by rw [List.append_nil] at hl; obtain ⟨x0, x1, x2, e⟩ := usl3 hl; subst e; exact ⟨_, rfl, rfl⟩,
  cqz := F48.binds (ps := ["cursor", "free", "most"]) (ds := [.none]) d48 fun _ _ _ _ _ _ us hl => by obtain ⟨x, y, rfl⟩ := oqp hl; exact ⟨_, rfl, rfl⟩,
  bq7 := f59, bqI := _, eqx := F59,
  cqU := F59.binds (by walk_at "b2"),
  cqj := f60, bqW := _, eq1 := F60, cq1 := ⟨a60, i60, F60.kp⟩,
  cq9 := F60.binds (by walk_at "b2"),
  fqN := f61, eqN := _, kqv := F61, iqt := ⟨a61, i61, F61.kp⟩,
  kqC := F61.binds (by walk_at "b2"),
  eqJ := f62, dqw := _, iqq := F62, cqS := ⟨a62, i62, F62.kp⟩,
  dqq := F62.binds (by walk_at "b2"),
  eqO := qa0_NO_WAY, gqX := W.mg_of X Gl e_NO_WAY, fqM := fun H => (.tup (xs := [.bl false, .ref qa1_NO_WAY, .bl false]) (.inr ⟨_, _, _, y0_NO_WAY, rfl, rfl, (by show 3 ≤ sizeLine; decide), (.cons rfl (.cons rfl (.cons rfl .nil)))⟩) (.cons (.bl _) (.cons (.tup (xs := []) (.inr ⟨_, _, _, y1_NO_WAY, rfl, rfl, (by show 0 ≤ sizeLine; decide), .nil⟩) .nil) (.cons (.bl _) .nil)))),
  cqI := qa0_WITH_TEXT, fqf := W.mg_of X Gl e_WITH_TEXT, cq0 := fun H => (.tup (xs := [.str (Str.ofString "go"), .str (Str.ofString "link"), .str (Str.ofString "add")]) (.inr ⟨_, _, _, y0_WITH_TEXT, rfl, rfl, (by show 3 ≤ sizeLine; decide), (.cons ⟨_, rfl⟩ (.cons ⟨_, rfl⟩ (.cons ⟨_, rfl⟩ .nil)))⟩) (.cons (.str _) (.cons (.str _) (.cons (.str _) .nil)))),
  bqF := qa_NAMES_BEHIND, dqf := W.mg_of X Gl e_NAMES_BEHIND, cq8 := fun P h hI => PyProof.Rows.KTD.strTab_of_look P w hI yl_NAMES_BEHIND (by decide) yh_NAMES_BEHIND,
  gq0 := gq0, lqq := W.mg_of X Gl e_SIGNS,
  eqp := eqp, kqK := W.mg_of X Gl e_LETTERS,
  aqL := aqL, cqs := W.mg_of X Gl e_LETTERS_AND_FIGURES,
  eqB := eqB, hqq := W.mg_of X Gl e_FIGURES,
  gqZ := gqZ, kq8 := W.mg_of X Gl e_PLAIN,
  bqs := bqs, cqW := W.mg_of X Gl e_FREE_IN_STEPS,
  aqS := aqS, aq8 := W.mg_of X Gl e_FREE_IN_QUESTIONS,
  bqt := bqt, eqq := W.mg_of X Gl e_FREE_IN_MARKS,
  bqG := bqG, dqd := W.mg_of X Gl e_FIRST_NUMBER,
  bqU := bqU, fqv := W.mg_of X Gl e_LAST_NUMBER,
  aq4 := aq4, cqb := W.mg_of X Gl e_NUMBER_LEFT_OUT,
  bqq := bqq, bqm := W.mg_of X Gl e_SMALL_FIGURES,
  bqo := bqo, cqX := W.mg_of X Gl e_GREAT_FIGURES,
  fqj := fqj, dqL := W.mg_of X Gl e_SCHEME,
  hql := hql, dqe := W.mg_of X Gl e_HOUSE,
  kqN := kqN, jqS := W.mg_of X Gl e_DOOR,
  oqK := oqK, gqN := W.mg_of X Gl e_WAY,
  dqk := dqk, aqV := W.mg_of X Gl e_QUESTION,
  kqn := kqn, jqY := W.mg_of X Gl e_MARK,
  fqr := fqr, eqK := W.mg_of X Gl e_ROOTED,
  gq6 := gq6, fqc := W.mg_of X Gl e_STEPS,
  kqu := kqu, hqE := W.mg_of X Gl e_ENDS,
  bqf := bqf, dqW := W.mg_of X Gl e_LONGEST_SCHEME,
  bql := bql, eqn := W.mg_of X Gl e_LONGEST_HOUSE,
  cqN := cqN, gq2 := W.mg_of X Gl e_LAST_DOOR,
  jqW := jqW, kqF := W.mg_of X Gl e_STAY,
  t_UP := t_UP, c_UP := W.mg_of X Gl e_UP,
  bqu := bqu, eql := W.mg_of X Gl e_FIRST_FIGURES,
  sqw := W.mg_none_of X Gl z_all,
  sqi := W.mg_none_of X Gl z_ord,
  dqS := W.mg_none_of X Gl z_len,
  oq5 := W.mg_none_of X Gl z_int,
  sqq := W.mg_none_of X Gl z_min,
  cqp := W.mg_none_of X Gl z_isinstance,
  mq3 := W.mg_none_of X Gl z_str,
  equ := W.mg_none_of X Gl z_range,
  gqd := W.mg_none_of X Gl z_tuple,
  aqo := kC_Cursor, aql := ⟨pg_Cursor, hd_Cursor, po_Cursor, sa_Cursor⟩, mqh := W.mg_of X Gl aC_Cursor,
  aqP := nf_Cursor_text,
  aqw := nf_Cursor_place,
  lqG := ⟨mk_Cursor, a9, i9, kc_Cursor⟩,
  cqq := kC_Desk, bqN := ⟨pg_Desk, hd_Desk, po_Desk, sa_Desk⟩, nqz := W.mg_of X Gl aC_Desk,
  aqY := nf_Desk_address,
  gqp := nf_Desk_table,
  nqM := ⟨mk_Desk, a59, i59, kc_Desk⟩ }
 refine ⟨d.f_law.fd, fun s v => ?_, fun base _ _ => sqy g⟩
 obtain ⟨_, _, _, _, _, _, _, _, _, e, _⟩ := d.f_law.F.ex
 rw [e]
 exact .of_eq rfl
theorem walk {l : PySem.W.OpenLaw} {q : Program} {loose : List Str} {XP : (Str → Option Value) → Heap → Prop} {YP : World → Heap → Prop} {d : DefRec} {K : Params → W.Frag} (hn : l.most = some 63) (hdf : d.params.defaults = [])
  (hY : ∀ (w : World) (h : Heap), YP w h → (K w.params).In h)
  (F : ∀ (w : World) (mg : Str → Option Value) (fa : Addr) (h : Heap), (K w.params).In h → h.Ns mainGlobals mg → mg d.name = some (.ref fa) →
   ∃ fd : FuncData, (∀ (s : Shared) (u : Value), BindsTo s fd ⟨[u], []⟩ [("_law_script", u)]) ∧ ∀ base : Heap, (K w.params).In base → base.Ns mainGlobals mg → FnOk l.prog w (K w.params) mg base CX0 11 fa fd ["_law_script"] (lqV (K w.params))) :
  PySem.W.WalkO q loose XP YP l.row.toRowW d [] (fun f vs => PySem.call f vs) :=
 L2.qqL (n := 63) (k := 11) (x := "_law_script") (CX := fun _ => CX0) (sp := fun w => lqV (K w.params)) hn (by decide) hdf ⟨rfl, by decide, by decide⟩ hY F (fun _ _ a ns hl _ hS => ⟨a, ns, rfl, hS, hl, fun _ => rfl⟩) fun _ _ _ _ _ z => z
end Wm
theorem PySem.W.Fast.tw8173160755188288794 : True := trivial
theorem PySem.W.Fast.tw10615584392547863473 : True := trivial
theorem PySem.W.Fast.tw10934919779857500668 : True := trivial
theorem PySem.W.Fast.tw6605340932471304813 : True := trivial
theorem PySem.W.Fast.tw14845175080438886113 : True := trivial
theorem PySem.W.Fast.tw7298798193445142935 : True := trivial
theorem PySem.W.Fast.tw7965818976981043432 : True := trivial
theorem PySem.W.Fast.tw4392988143326575629 : True := trivial
theorem PySem.W.Fast.tw10251753396902917939 : True := trivial
theorem PySem.W.Fast.tw13353718823863184472 : True := trivial
theorem PySem.W.Fast.tw9373656112737875357 : True := trivial
theorem PySem.W.Fast.tw1316627268353996962 : True := trivial
theorem PySem.W.Fast.tw14035675256178485506 : True := trivial
theorem PySem.W.Fast.tw2692384414442279338 : True := trivial
theorem PySem.W.Fast.tw8716618126590073325 : True := trivial
theorem PySem.W.Fast.tw3947756028957616225 : True := trivial
theorem PySem.W.Fast.tw2897442571504267794 : True := trivial
theorem PySem.W.Fast.tw10953335156161326611 : True := trivial
theorem PySem.W.Fast.tw7592274817465791078 : True := trivial
theorem PySem.W.Fast.tw10166861096162308372 : True := trivial
theorem PySem.W.Fast.tw8980660106376790366 : True := trivial
theorem PySem.W.Fast.tw4459945889926042788 : True := trivial
theorem PySem.W.Fast.tw7916115729216123311 : True := trivial
theorem PySem.W.Fast.tw6911145297532428186 : True := trivial
theorem PySem.W.Fast.tw3444743252063655293 : True := trivial
theorem PySem.W.Fast.tw5931460343461652257 : True := trivial
theorem PySem.W.Fast.tw8667005305688386195 : True := trivial
theorem PySem.W.Fast.tw4518956755643111414 : True := trivial
theorem PySem.W.Fast.tw12601019984823595753 : True := trivial
theorem PySem.W.Fast.tw1876057550148700770 : True := trivial
theorem PySem.W.Fast.tw16623448946699532869 : True := trivial
theorem PySem.W.Fast.tw11612661181986876207 : True := trivial
theorem PySem.W.Fast.tw2629357982751231777 : True := trivial
theorem PySem.W.Fast.tw3529186794298193305 : True := trivial
theorem PySem.W.Fast.tw14435432227627715050 : True := trivial
theorem PySem.W.Fast.tw2318740445075715796 : True := trivial
theorem PySem.W.Fast.tw12699679033580120716 : True := trivial
theorem PySem.W.Fast.tw18379151167337601063 : True := trivial
theorem PySem.W.Fast.tw7138429662573169060 : True := trivial
theorem PySem.W.Fast.tw10986298082908210075 : True := trivial
theorem PySem.W.Fast.tw7944911019716477585 : True := trivial
theorem PySem.W.Fast.tw11905711964651175008 : True := trivial
theorem PySem.W.Fast.tw3788196249234464648 : True := trivial
theorem PySem.W.Fast.tw12407154365225860823 : True := trivial
theorem PySem.W.Fast.tw12915185760663815149 : True := trivial
theorem PySem.W.Fast.tw6705253448872853182 : True := trivial
theorem PySem.W.Fast.tw8074723808035106046 : True := trivial
theorem PySem.W.Fast.tw11451998148875430087 : True := trivial
theorem PySem.W.Fast.tw6469202667752526721 : True := trivial
theorem PySem.W.Fast.tw16421790933194140715 : True := trivial
theorem PySem.W.Fast.tw8956973344345571788 : True := trivial
theorem PySem.W.Fast.tw15307659306031607965 : True := trivial
theorem PySem.W.Fast.tw10254844162359579893 : True := trivial
theorem PySem.W.Fast.tw14408782980352902156 : True := trivial
theorem PySem.W.Fast.tw8895517231496514205 : True := trivial
theorem PySem.W.Fast.tw8462808797558913038 : True := trivial
theorem PySem.W.Fast.tw2594564293003123482 : True := trivial
theorem PySem.W.Fast.tw12328757173389373528 : True := trivial
theorem PySem.W.Fast.tw4820667918906098410 : True := trivial
theorem PySem.W.Fast.tw5766606673269973738 : True := trivial
theorem PySem.W.Fast.tw7777956765627464009 : True := trivial
theorem PySem.W.Fast.tw8445464277990146824 : True := trivial
theorem PySem.W.Fast.tw18432179452181084594 : True := trivial
theorem PySem.W.Fast.tw9424578176992916297 : True := trivial
theorem PySem.W.Fast.tw1948291632282805288 : True := trivial
theorem PySem.W.Fast.tw15427641263496515629 : True := trivial
theorem PySem.W.Fast.tw15688664049806484047 : True := trivial
theorem PySem.W.Fast.tw12971973060397529003 : True := trivial
theorem PySem.W.Fast.tw8812621048099193254 : True := trivial
theorem PySem.W.Fast.tw1924008716485817914 : True := trivial
theorem PySem.W.Fast.tw11408218865289612363 : True := trivial
theorem PySem.W.Fast.tw16703875209057446807 : True := trivial
theorem PySem.W.Fast.tw10604162783939956352 : True := trivial
theorem PySem.W.Fast.tw8720714818027040687 : True := trivial
theorem PySem.W.Fast.tw4859503263725179563 : True := trivial
theorem PySem.W.Fast.tw13496692439013887028 : True := trivial
theorem PySem.W.Fast.tw13587769213335547951 : True := trivial
theorem PySem.W.Fast.tw9848685608665208408 : True := trivial
theorem PySem.W.Fast.tw14615796970412042244 : True := trivial
theorem PySem.W.Fast.tw16012430889338899456 : True := trivial
theorem PySem.W.Fast.tw15171141268276401669 : True := trivial
theorem PySem.W.Fast.tw5126788079208983968 : True := trivial
theorem PySem.W.Fast.tw1601881643095441809 : True := trivial
theorem PySem.W.Fast.tw13566489628579642456 : True := trivial
theorem PySem.W.Fast.tw8382194070179395673 : True := trivial
theorem PySem.W.Fast.tw4584937511751892144 : True := trivial
theorem PySem.W.Fast.tw17675454300853760830 : True := trivial
theorem PySem.W.Fast.tw1652658482097528414 : True := trivial
theorem PySem.W.Fast.tw8273995873481364215 : True := trivial
theorem PySem.W.Fast.tw16697522739974204822 : True := trivial
theorem PySem.W.Fast.tw4542481614499159180 : True := trivial
theorem PySem.W.Fast.tw1288890581853719846 : True := trivial
theorem PySem.W.Fast.tw15568854789211494171 : True := trivial
theorem PySem.W.Fast.tw15438674025726921548 : True := trivial
theorem PySem.W.Fast.tw6233154784949321019 : True := trivial
theorem PySem.W.Fast.tw6637010978528728660 : True := trivial
theorem PySem.W.Fast.tw13750222306320165552 : True := trivial
theorem PySem.W.Fast.tw10156010581599160851 : True := trivial
theorem PySem.W.Fast.tw7693867658336133738 : True := trivial
theorem PySem.W.Fast.tw15353928168324076156 : True := trivial
theorem PySem.W.Fast.tw9550457862717582084 : True := trivial
theorem PySem.W.Fast.tw7229496519496962236 : True := trivial
theorem PySem.W.Fast.tw17700049221101927161 : True := trivial
theorem PySem.W.Fast.tw2297192137148958881 : True := trivial
theorem PySem.W.Fast.tw12100717713135795139 : True := trivial
theorem PySem.W.Fast.tw17841500853989753241 : True := trivial
theorem PySem.W.Fast.tw15574212822122355538 : True := trivial
theorem PySem.W.Fast.tw4476556557308004148 : True := trivial
theorem PySem.W.Fast.tw16221758921383653321 : True := trivial
theorem PySem.W.Fast.tw8983637248281836082 : True := trivial
theorem PySem.W.Fast.tw9876801809616732771 : True := trivial
theorem PySem.W.Fast.tw8623002886592399952 : True := trivial
theorem PySem.W.Fast.tw9488128349295382004 : True := trivial
theorem PySem.W.Fast.tw7224039588446391050 : True := trivial
theorem PySem.W.Fast.tw1398455851773094340 : True := trivial
theorem PySem.W.Fast.tw16685850993998001558 : True := trivial
theorem PySem.W.Fast.tw17393573959672681331 : True := trivial
theorem PySem.W.Fast.tw12621998507877365965 : True := trivial
theorem PySem.W.Fast.tw2333671534853310267 : True := trivial
theorem PySem.W.Fast.tw6263850040977891386 : True := trivial
theorem PySem.W.Fast.tw3465771423253084643 : True := trivial
theorem PySem.W.Fast.tw14018387552786171497 : True := trivial
theorem PySem.W.Fast.tw4004075927470469627 : True := trivial
theorem PySem.W.Fast.tw6512480986309279414 : True := trivial
theorem PySem.W.Fast.tw4821980349728168340 : True := trivial
theorem PySem.W.Fast.tw15628449645785855908 : True := trivial
theorem PySem.W.Fast.tw13773187492841700088 : True := trivial
theorem PySem.W.Fast.tw10859307135586975263 : True := trivial
theorem PySem.W.Fast.tw18163617224470614390 : True := trivial
theorem PySem.W.Fast.tw13067643923665234696 : True := trivial
theorem PySem.W.Fast.tw13061491918618412711 : True := trivial
theorem PySem.W.Fast.tw6617656813044464480 : True := trivial
theorem PySem.W.Fast.tw10604352152651315445 : True := trivial
theorem PySem.W.Fast.tw7031957127356668068 : True := trivial
theorem PySem.W.Fast.tw13591722935376317043 : True := trivial
theorem PySem.W.Fast.tw8081490144894386796 : True := trivial
theorem PySem.W.Fast.tw785636077549559586 : True := trivial
theorem PySem.W.Fast.tw8132255903123668554 : True := trivial
theorem PySem.W.Fast.tw16107550259097761171 : True := trivial
theorem PySem.W.Fast.tw13283219732284523818 : True := trivial
theorem PySem.W.Fast.tw12817592965964092748 : True := trivial
theorem PySem.W.Fast.tw8665635292565956246 : True := trivial
theorem PySem.W.Fast.tw18272641293969492027 : True := trivial
theorem PySem.W.Fast.tw10679130857179287071 : True := trivial
theorem PySem.W.Fast.tw15120289152895501030 : True := trivial
theorem PySem.W.Fast.tw10266937776875528247 : True := trivial
theorem PySem.W.Fast.tw15630762081928077455 : True := trivial
theorem PySem.W.Fast.tw1737610222145361395 : True := trivial
theorem PySem.W.Fast.tw13483721598161721729 : True := trivial
theorem PySem.W.Fast.tw11694701446450270457 : True := trivial
theorem PySem.W.Fast.tw13860255365213392385 : True := trivial
theorem PySem.W.Fast.tw7212292942429250683 : True := trivial
theorem PySem.W.Fast.tw2735308432483929518 : True := trivial
theorem PySem.W.Fast.tw9310122995369578530 : True := trivial
theorem PySem.W.Fast.tw4708426157969279530 : True := trivial
theorem PySem.W.Fast.tw10013328564179119986 : True := trivial
theorem PySem.W.Fast.tw16385026535433909802 : True := trivial
theorem PySem.W.Fast.tw17512309882216996985 : True := trivial
theorem PySem.W.Fast.tw10302185540707979968 : True := trivial
theorem PySem.W.Fast.tw5381409812899109076 : True := trivial
theorem PySem.W.Fast.tw5696384979599411790 : True := trivial
theorem PySem.W.Fast.tw12848403580302283632 : True := trivial
theorem PySem.W.Fast.tw2699565656560323402 : True := trivial
theorem PySem.W.Fast.tw11548951531902118102 : True := trivial
theorem PySem.W.Fast.tw5533247148633202357 : True := trivial
theorem PySem.W.Fast.tw3478413361230454039 : True := trivial
theorem PySem.W.Fast.tw5025887138396441894 : True := trivial
theorem PySem.W.Fast.tw8771805985516937943 : True := trivial
theorem PySem.W.Fast.tw9360215274608357582 : True := trivial
theorem PySem.W.Fast.tw1581971781939198985 : True := trivial
theorem PySem.W.Fast.tw9289839334900412344 : True := trivial
theorem PySem.W.Fast.tw15541370531430465745 : True := trivial
theorem PySem.W.Fast.tw10225473399859700234 : True := trivial
theorem PySem.W.Fast.tw13119911970143984125 : True := trivial
theorem PySem.W.Fast.tw5598794199920744235 : True := trivial
theorem PySem.W.Fast.tw7077799668290418699 : True := trivial
theorem PySem.W.Fast.tw1318505248615360735 : True := trivial
theorem PySem.W.Fast.tw12208898345342299348 : True := trivial
theorem PySem.W.Fast.tw9013623292544898277 : True := trivial
theorem PySem.W.Fast.tw8444764144324699507 : True := trivial
theorem PySem.W.Fast.tw5226471943439418806 : True := trivial
theorem PySem.W.Fast.tw17734172929139107150 : True := trivial
theorem PySem.W.Fast.tw1411522434648602081 : True := trivial
theorem PySem.W.Fast.tw15925494406619505333 : True := trivial
theorem PySem.W.Fast.tw9801258750177596299 : True := trivial
theorem PySem.W.Fast.tw16831676652633945076 : True := trivial
theorem PySem.W.Fast.tw17254119648019938634 : True := trivial
theorem PySem.W.Fast.tw8021252746255013598 : True := trivial
theorem PySem.W.Fast.tw17674241174275606819 : True := trivial
theorem PySem.W.Fast.tw14715243960906403786 : True := trivial
theorem PySem.W.Fast.tw6626420246875467769 : True := trivial
theorem PySem.W.Fast.tw15302985434410563636 : True := trivial
theorem PySem.W.Fast.tw13579760779323894937 : True := trivial
theorem PySem.W.Fast.tw11745210294764774588 : True := trivial
theorem PySem.W.Fast.tw7124062874992792549 : True := trivial
theorem PySem.W.Fast.tw8309563222782386074 : True := trivial
theorem PySem.W.Fast.tw13362178237112067481 : True := trivial
theorem PySem.W.Fast.tw13074681939608209379 : True := trivial
theorem PySem.W.Fast.tw13435625374986383859 : True := trivial
theorem PySem.W.Fast.tw15404995476963250956 : True := trivial
theorem PySem.W.Fast.tw8557235369869987238 : True := trivial
theorem PySem.W.Fast.tw981854366520708471 : True := trivial
theorem PySem.W.Fast.tw2367303942737795033 : True := trivial
theorem PySem.W.Fast.tw6242749882081521461 : True := trivial
theorem PySem.W.Fast.tw10122977680736236421 : True := trivial
theorem PySem.W.Fast.tw5396167421116595513 : True := trivial
theorem PySem.W.Fast.tw10749478231368665842 : True := trivial
theorem PySem.W.Fast.tw5567618319668905205 : True := trivial
theorem PySem.W.Fast.tw10011358599538285669 : True := trivial
theorem PySem.W.Fast.tw12166661360865865020 : True := trivial
theorem PySem.W.Fast.tw3486831709802299149 : True := trivial
theorem PySem.W.Fast.tw7165392698495826080 : True := trivial
theorem PySem.W.Fast.tw16264642340568841305 : True := trivial
theorem PySem.W.Fast.tw3681153555825337549 : True := trivial
theorem PySem.W.Fast.tw17270784889115918535 : True := trivial
theorem PySem.W.Fast.tw4875695862740202269 : True := trivial
theorem PySem.W.Fast.tw3420586761280643519 : True := trivial
theorem PySem.W.Fast.tw579746173851332748 : True := trivial
theorem PySem.W.Fast.tw6108770932811752414 : True := trivial
theorem PySem.W.Fast.tw7400176084486202850 : True := trivial
theorem PySem.W.Fast.tw10276273277600333506 : True := trivial
theorem PySem.W.Fast.tw4597146455121578719 : True := trivial
theorem PySem.W.Fast.tw7002916548378409539 : True := trivial
theorem PySem.W.Fast.tw4042344623003015907 : True := trivial
theorem PySem.W.Fast.tw296863503115393499 : True := trivial
theorem PySem.W.Fast.tw9035555779857334923 : True := trivial
theorem PySem.W.Fast.tw13889297029173077569 : True := trivial
theorem PySem.W.Fast.tw14128502743266447952 : True := trivial
theorem PySem.W.Fast.tw2955380109279376868 : True := trivial
theorem PySem.W.Fast.tw4697541978831745814 : True := trivial
theorem PySem.W.Fast.tw4959025416303938859 : True := trivial
theorem PySem.W.Fast.tw11281120454488022718 : True := trivial
theorem PySem.W.Fast.tw7475299765941869566 : True := trivial
theorem PySem.W.Fast.tw12845707225803615446 : True := trivial
theorem PySem.W.Fast.tw13481307954299796323 : True := trivial
theorem PySem.W.Fast.tw3033584359267689786 : True := trivial
theorem PySem.W.Fast.tw7269666759534103582 : True := trivial
theorem PySem.W.Fast.tw9029550749044271316 : True := trivial
theorem PySem.W.Fast.tw2050132348002953582 : True := trivial
theorem PySem.W.Fast.tw5688413435810180356 : True := trivial
theorem PySem.W.Fast.tw12326822912456323291 : True := trivial
theorem PySem.W.Fast.tw3615500098945619592 : True := trivial
theorem PySem.W.Fast.tw9411303854246613246 : True := trivial
theorem PySem.W.Fast.tw10363839630318221824 : True := trivial
theorem PySem.W.Fast.tw11312750915848430063 : True := trivial
theorem PySem.W.Fast.tw1290995238128882757 : True := trivial
theorem PySem.W.Fast.tw15003013296996158077 : True := trivial
theorem PySem.W.Fast.tw8963518825725388750 : True := trivial
theorem PySem.W.Fast.tw8014249271784270376 : True := trivial
theorem PySem.W.Fast.tw13122621229562758032 : True := trivial
theorem PySem.W.Fast.tw17805550920294782067 : True := trivial
theorem PySem.W.Fast.tw5674158379744828006 : True := trivial
theorem PySem.W.Fast.tw2036688424580743902 : True := trivial
theorem PySem.W.Fast.tw11563141424137691787 : True := trivial
theorem PySem.W.Fast.tw15884892306826675582 : True := trivial
theorem PySem.W.Fast.tw2944353878419382078 : True := trivial
theorem PySem.W.Fast.tw2611623573475511492 : True := trivial
theorem PySem.W.Fast.tw12565921436443466912 : True := trivial
theorem PySem.W.Fast.tw15633683332609016325 : True := trivial
theorem PySem.W.Fast.tw9311201822997121107 : True := trivial
open PySem PySem.W PyProof.Rows
set_option maxRecDepth 100000 in
set_option maxHeartbeats 0 in
theorem PySem.Challenge.cw_waymark_k85_links_come_back_holds : PySem.Challenge.rw_waymark_k85_links_come_back.Holds := by
 w_on; o_law; k_head; (case hw => w_witness2)
 k_fill
 refine Wm.walk (l := PySem.Challenge.rw_waymark_k85_links_come_back) rfl rfl (fun w h Y => PySem.W.kIn_of Y) ?F
 case F =>
  intro w mg fa h KX G hmg
  refine' Wm.tqK (dt43_0 := 0) (dt48_0 := 0) KX G hmg ?d ?aC_Cursor ?aC_Desk ?a9 ?i9 ?l9 ?a10 ?i10 ?l10 ?a11 ?i11 ?l11 ?a12 ?i12 ?l12 ?a26 ?i26 ?l26 ?a43 ?l43 ?d43 ?a48 ?l48 ?d48 ?a59 ?i59 ?l59 ?a60 ?i60 ?l60 ?a61 ?i61 ?l61 ?a62 ?i62 ?l62 ?e_NO_WAY ?y0_NO_WAY ?y1_NO_WAY ?e_WITH_TEXT ?y0_WITH_TEXT ?e_NAMES_BEHIND ?yl_NAMES_BEHIND ?yh_NAMES_BEHIND ?e_SIGNS ?e_LETTERS ?e_LETTERS_AND_FIGURES ?e_FIGURES ?e_PLAIN ?e_FREE_IN_STEPS ?e_FREE_IN_QUESTIONS ?e_FREE_IN_MARKS ?e_FIRST_NUMBER ?e_LAST_NUMBER ?e_NUMBER_LEFT_OUT ?e_SMALL_FIGURES ?e_GREAT_FIGURES ?e_SCHEME ?e_HOUSE ?e_DOOR ?e_WAY ?e_QUESTION ?e_MARK ?e_ROOTED ?e_STEPS ?e_ENDS ?e_LONGEST_SCHEME ?e_LONGEST_HOUSE ?e_LAST_DOOR ?e_STAY ?e_UP ?e_FIRST_FIGURES ?z_all ?z_ord ?z_len ?z_int ?z_min ?z_isinstance ?z_str ?z_range ?z_tuple ?pg_Cursor ?hd_Cursor ?po_Cursor ?sa_Cursor ?mk_Cursor ?kc_Cursor ?nf_Cursor_text ?nf_Cursor_place ?pg_Desk ?hd_Desk ?po_Desk ?sa_Desk ?mk_Desk ?kc_Desk ?nf_Desk_address ?nf_Desk_table ?kk ?cc
  case d =>
   constructor
   all_goals
    refine' L2.tqU KX G ?a ?l ?c ?k ?b
    (case a | l => k_is)
    (case c | k => first | k_is | with_unfolding_all kernel_rfl | with_unfolding_all rfl)
    case b =>
     intro _ _ _ _ _ _ us hl
     first
     | (obtain ⟨_, e⟩ := Wm.usl1 hl; subst e; rfl)
     | (obtain ⟨_, _, e⟩ := Wm.usl2 hl; subst e; rfl)
     | (obtain ⟨_, _, _, e⟩ := Wm.usl3 hl; subst e; rfl)
  (case aC_Cursor | aC_Desk | a9 | i9 | l9 | a10 | i10 | l10 | a11 | i11 | l11 | a12 | i12 | l12 | a26 | i26 | l26 | a43 | l43 | d43 | a48 | l48 | d48 | a59 | i59 | l59 | a60 | i60 | l60 | a61 | i61 | l61 | a62 | i62 | l62 | e_NO_WAY | y0_NO_WAY | y1_NO_WAY | e_WITH_TEXT | y0_WITH_TEXT | e_NAMES_BEHIND => k_is)
  (case yl_NAMES_BEHIND | yh_NAMES_BEHIND => first | k_is | with_unfolding_all kernel_rfl | with_unfolding_all rfl)
  (case e_SIGNS | e_LETTERS | e_LETTERS_AND_FIGURES | e_FIGURES | e_PLAIN | e_FREE_IN_STEPS | e_FREE_IN_QUESTIONS | e_FREE_IN_MARKS | e_FIRST_NUMBER | e_LAST_NUMBER | e_NUMBER_LEFT_OUT | e_SMALL_FIGURES | e_GREAT_FIGURES | e_SCHEME | e_HOUSE | e_DOOR | e_WAY | e_QUESTION | e_MARK | e_ROOTED | e_STEPS | e_ENDS | e_LONGEST_SCHEME | e_LONGEST_HOUSE | e_LAST_DOOR | e_STAY | e_UP | e_FIRST_FIGURES | z_all | z_ord | z_len | z_int | z_min | z_isinstance | z_str | z_range | z_tuple | pg_Cursor | hd_Cursor | po_Cursor | sa_Cursor | mk_Cursor | kc_Cursor | nf_Cursor_text | nf_Cursor_place | pg_Desk | hd_Desk | po_Desk | sa_Desk | mk_Desk | kc_Desk | nf_Desk_address | nf_Desk_table => k_is)
  (case kk | cc => first | k_is | with_unfolding_all kernel_rfl | with_unfolding_all rfl)
