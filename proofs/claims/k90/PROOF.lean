import PyProof.Rows.All
import Wide.All
import OpenK.AllK
import Wide.FinOn
import Lean
import PyProof.EqAt
import PyProof.EqKinds
import PyProof.TupleCall
import PySem.Challenge.RW_waymark_k90_whole_each_text_read_or_refu
set_option Elab.async false
set_option linter.all false
set_option maxRecDepth 100000
namespace L2
open PySem PySem.Spec PyProof.Rows
abbrev Key := Sum Int Str
def keyIs : Key → Value → Bool
 | .inl k, v => Value.isInt k v
 | .inr x, v => Value.isStrOf x v
def keyH (w : World) : Key → Int
 | .inl k => hashInt k
 | .inr x => hashStr w x
theorem bqD : ∀ {k : Key} {v : Value}, keyIs k v = true → (∃ i t, k = Sum.inl i ∧ v = Value.int i t) ∨ (∃ x t, k = Sum.inr x ∧ v = Value.str x t)
 | .inl i, v, h => by
  obtain ⟨t, e⟩ := Value.isInt_shape (k := i) (v := v) h
  exact .inl ⟨i, t, rfl, e⟩
 | .inr x, v, h => by
  obtain ⟨t, e⟩ := Value.isStrOf_shape (x := x) (v := v) h
  exact .inr ⟨x, t, rfl, e⟩
theorem vq0 (a b : Int) : decide ((Sum.inl a : Key) = Sum.inl b) = (a == b) := by
 by_cases e : a = b
 ·subst e; simp
 ·have h : ¬ (Sum.inl a : Key) = Sum.inl b := fun q => e (Sum.inl.inj q)
  rw [decide_eq_false h]
  exact (beq_eq_false_iff_ne.mpr e).symm
theorem wqN (a b : Str) : decide ((Sum.inr a : Key) = Sum.inr b) = decide (a = b) := by
 by_cases e : a = b
 ·subst e; simp
 ·have h : ¬ (Sum.inr a : Key) = Sum.inr b := fun q => e (Sum.inr.inj q)
  rw [decide_eq_false h, decide_eq_false e]
theorem vq3 (a : Int) (b : Str) : decide ((Sum.inl a : Key) = Sum.inr b) = false := decide_eq_false (fun q => nomatch q)
theorem wqw (a : Str) (b : Int) : decide ((Sum.inr a : Key) = Sum.inl b) = false := decide_eq_false (fun q => nomatch q)
def mixKind (prog : Program) (w : World) : PySem.KeyKind prog w Key where
 is := keyIs
 hash := keyH w
 inj := fun v a b ha hb => by
  rcases bqD ha with ⟨i, t, rfl, rfl⟩ | ⟨x, t, rfl, rfl⟩
  ·rcases bqD hb with ⟨j, u, rfl, e⟩ | ⟨y, u, rfl, e⟩
   ·injection e with e1 _; rw [e1]
   ·exact nomatch e
  ·rcases bqD hb with ⟨j, u, rfl, e⟩ | ⟨y, u, rfl, e⟩
   ·exact nomatch e
   ·injection e with e1 _; rw [e1]
 byValue := fun k v h => by
  rcases bqD h with ⟨i, t, rfl, rfl⟩ | ⟨x, t, rfl, rfl⟩ <;> rfl
 pyHash := fun hv h => by
  rcases bqD hv with ⟨i, t, rfl, rfl⟩ | ⟨x, t, rfl, rfl⟩
  ·exact wpAny_pyHash_int h
  ·exact wpAny_pyHash_str h
 eqBool := fun hu hv h => by
  rcases bqD hu with ⟨i, t, rfl, rfl⟩ | ⟨x, t, rfl, rfl⟩
  ·rcases bqD hv with ⟨j, u, rfl, rfl⟩ | ⟨y, u, rfl, rfl⟩
   ·rw [vq0] at h; exact wpAny_eqBool_int h
   ·rw [vq3] at h; exact SeqAt.EqAt.int_str i t y u _ _ _ _ h
  ·rcases bqD hv with ⟨j, u, rfl, rfl⟩ | ⟨y, u, rfl, rfl⟩
   ·rw [wqw] at h; exact SeqAt.EqAt.str_int x t j u _ _ _ _ h
   ·rw [wqN] at h; exact wpAny_eqBool_str h
 «strs» := fun k x t v h => by
  rcases bqD h with ⟨i, u, rfl, e⟩ | ⟨y, u, rfl, e⟩
  ·exact nomatch e
  ·injection e with e1 _
   subst e1
   cases v <;> rfl
inductive V where
 | non | bl (b : Bool) | int (i : Int) | str (x : Str) | byt (b : Array UInt8) | flt (b : UInt64) | ref (a : Addr) | ty (n : String)
 deriving DecidableEq
def RelV : V → Value → Prop
 | .non, u => u = Value.none
 | .bl b, u => u = Value.bool b
 | .int i, u => ∃ t, u = Value.int i t
 | .str x, u => ∃ t, u = Value.str x t
 | .byt b, u => ∃ t, u = Value.bytes b t
 | .flt b, u => ∃ t, u = Value.float b t
 | .ref a, u => u = Value.ref a
 | .ty n, u => u = Value.type n
abbrev Vals : List V → List Value → Prop := Paired RelV
theorem Vals.length {xs : List V} {us : List Value} (r : Vals xs us) : xs.length = us.length := Paired.length r
theorem Vals.get : ∀ {xs : List V} {us : List Value} {i : Nat} {x : V}, Vals xs us → xs[i]? = some x → ∃ u, us[i]? = some u ∧ RelV x u
 | _, _, _, _, .nil, e => by simp at e
 | _, _, 0, _, .cons r _, e => by simp at e; subst e; exact ⟨_, rfl, r⟩
 | _, _, i + 1, x, .cons _ t, e => by
  obtain ⟨u, h1, h2⟩ := Vals.get (i := i) (x := x) t (by simpa using e)
  exact ⟨u, by simpa using h1, h2⟩
theorem Vals.append : ∀ {xs ys : List V} {us ws : List Value}, Vals xs us → Vals ys ws → Vals (xs ++ ys) (us ++ ws)
 | _, _, _, _, .nil, s => s
 | _, _, _, _, .cons r t, s => .cons r (Vals.append t s)
theorem Vals.take : ∀ {xs : List V} {us : List Value} (n : Nat), Vals xs us → Vals (xs.take n) (us.take n)
 | _, _, 0, _ => .nil
 | _, _, _ + 1, .nil => .nil
 | _, _, n + 1, .cons r t => .cons r (Vals.take n t)
theorem Vals.drop : ∀ {xs : List V} {us : List Value} (n : Nat), Vals xs us → Vals (xs.drop n) (us.drop n)
 | _, _, 0, r => r
 | _, _, _ + 1, .nil => .nil
 | _, _, n + 1, .cons _ t => Vals.drop n t
def RelO : Option V → Option Value → Prop
 | some v, some u => RelV v u
 | none, none => True
 | _, _ => False
def KV {κ : Type} : List (κ × V) → List (κ × Value) → Prop := Paired fun (p : κ × V) (q : κ × Value) => p.1 = q.1 ∧ RelV p.2 q.2
def kV : Key → V
 | .inl i => .int i
 | .inr x => .str x
inductive HO where
 | lst (xs : List V)
 | tup (xs : List V)
 | dK (kvs : List (Key × V)) | dT (kvs : List (List Key × V))
 | set (S : Int → Bool) (n : Nat)
 | ins (C dx : Addr) (fs : List (Str × V))
 | own (x : Addr)
 | xd (fs : List (Str × V))
 | met (f x : Addr)
 | rng (lo hi : Int)
 | frz (o : Obj) (u : HO)
 | tbl (ps : Array Value)
 | ext (φ : Heap → Prop)
abbrev Hp := Addr → Option HO
def upd (H : Hp) (a : Addr) (o : HO) : Hp := fun b => if b = a then some o else H b
theorem aqw {H : Hp} {a : Addr} {o : HO} : upd H a o a = some o := by unfold upd; rw [if_pos rfl]
theorem aqv {H : Hp} {a b : Addr} {o : HO} (h : b ≠ a) : upd H a o b = H b := by unfold upd; rw [if_neg h]
theorem pq5 {H : Hp} {a : Addr} {o u : HO} : upd (upd H a o) a u = upd H a u := by
 funext b; unfold upd; split <;> rfl
theorem wqT {H : Hp} {a b : Addr} {o u : HO} (h : H a = some o) (h' : H b = some u) (d : o ≠ u) : a ≠ b := by
 intro e; subst e; rw [h] at h'; exact d (Option.some.inj h')
theorem aqr {H : Hp} {a b : Addr} {o : HO} (h : H a = some o) (h' : H b = none) : a ≠ b := by
 intro e; subst e; rw [h] at h'; cases h'
section
variable (P : Program) (w : World)
def ObjOk (H : Hp) (h : Heap) (a : Addr) : HO → Prop
 | .lst xs => xs.length ≤ sizeLine ∧ ∃ (its : List Value) (n : Nat), Vals xs its ∧ h.get? a = some { cls := .type "list", data := .seq its.toArray n }
 | .tup xs => xs.length ≤ sizeLine ∧ ∃ its : List Value, Vals xs its ∧ IsTup h a its.toArray
 | .dK kvs => kvs.length ≤ sizeLine ∧ (a == sysModules) = false ∧ ∃ vs, KV kvs vs ∧ h.DictOf (mixKind P w) a vs
 | .dT kvs => kvs.length ≤ sizeLine ∧ (a == sysModules) = false ∧ ∃ xs : List (List Key × Addr × Value),
   Paired (fun (p : List Key × V) (q : List Key × Addr × Value) => p.1 = q.1 ∧ H q.2.1 = some (.tup (p.1.map kV)) ∧ RelV p.2 q.2.2) kvs xs ∧
   ∃ o es ep, h.get? a = some o ∧ o.ExactDict ∧ o.data = .dict es ep ∧ es.toList = xs.map (entryOfKey (tupleKind (mixKind P w))) ∧ (xs.map (·.1)).Nodup
 | .set S n => h.SetOf (intKind P w) a S n
 | .ins C dx fs => H dx = some (.own a) ∧ fs.length ≤ 1000 ∧ dx ≠ a ∧ h.get? a = some (PySem.W.instObj C dx) ∧
   ∃ mA, h.Ns1 dx mA ∧ (∀ f, RelO (fs.lookup f) (mA f)) ∧ PySem.Within mA (fs.map (·.1))
 | .own _ => ∃ o, h.get? a = some o
 | .xd fs => ∃ mA, h.Ns1 a mA ∧ ∀ f, RelO (fs.lookup f) (mA f)
 | .rng lo hi => ∃ t u v, h.get? a = some { cls := .type "range", data := .fields #[.int lo t, .int hi u, .int 1 v] }
 | .frz o u => h.get? a = some o ∧ ObjOk H h a u
 | .tbl ps => h.get? a = some { cls := .none, data := .fields ps }
 | .met f x => h.get? a = some (PySem.W.methodObj (.ref f) (.ref x))
 | .ext φ => φ h ∧ (∃ o, h.get? a = some o) ∧ ∀ h1 h2 : Heap, φ h1 → (∀ o, h1.get? a = some o → h2.get? a = some o) → φ h2
def HOk (H : Hp) (h : Heap) : Prop := ∀ a o, H a = some o → ObjOk P w H h a o
end
section
variable {P : Program} {w : World} {H H' : Hp} {h h' : Heap} {a : Addr} {o : HO}
theorem ObjOk.lt (x : ObjOk P w H h a o) : a < h.objs.size := by
 cases o with
 | lst xs => obtain ⟨_, _, _, _, e⟩ := x; exact Heap.lt_size e
 | tup xs => obtain ⟨_, _, _, p⟩ := x; exact p.lt
 | dK kvs => obtain ⟨_, _, _, _, o, _, _, e, _⟩ := x; exact Heap.lt_size e
 | dT kvs => obtain ⟨_, _, _, _, o, _, _, e, _⟩ := x; exact Heap.lt_size e
 | set S n => obtain ⟨o, _, _, _, e, _⟩ := x; exact Heap.lt_size e
 | ins C dx fs => obtain ⟨_, _, _, e, _⟩ := x; exact Heap.lt_size e
 | own y => obtain ⟨_, e⟩ := x; exact Heap.lt_size e
 | xd fs => obtain ⟨_, ⟨_, _, _, e, _⟩, _⟩ := x; exact Heap.lt_size e
 | rng lo hi => obtain ⟨_, _, _, e⟩ := x; exact Heap.lt_size e
 | frz ob u => obtain ⟨e, _⟩ := x; exact Heap.lt_size e
 | tbl ps => exact Heap.lt_size (show h.get? a = some _ from x)
 | met f y => exact Heap.lt_size (show h.get? a = some _ from x)
 | ext φ => obtain ⟨_, ⟨_, e⟩, _⟩ := x; exact Heap.lt_size e
theorem Paired.mapP {α β : Type} {F G : α → β → Prop} : ∀ {l₁ : List α} {l₂ : List β}, Paired F l₁ l₂ → (∀ a b, F a b → G a b) → Paired G l₁ l₂
 | _, _, .nil, _ => .nil
 | _, _, .cons r t, f => .cons (f _ _ r) (Paired.mapP t f)
theorem ObjOk.stay (x : ObjOk P w H h a o) (k : ∀ b u, (b = a ∨ H b = some (.own a)) → h.get? b = some u → h'.get? b = some u)
  (ho : ∀ b, H b = some (.own a) → H' b = some (.own a)) (ht : ∀ b xs, H b = some (.tup xs) → H' b = some (.tup xs)) : ObjOk P w H' h' a o := by
 induction o with
 | lst xs => obtain ⟨z, its, n, r, e⟩ := x; exact ⟨z, its, n, r, k _ _ (.inl rfl) e⟩
 | tup xs => obtain ⟨z, its, r, ob, e, c⟩ := x; exact ⟨z, its, r, ob, k _ _ (.inl rfl) e, c⟩
 | dK kvs => obtain ⟨z, y, vs, r, ob, es, ep, e, c⟩ := x; exact ⟨z, y, vs, r, ob, es, ep, k _ _ (.inl rfl) e, c⟩
 | dT kvs =>
  obtain ⟨z, y, xs, r, ob, es, ep, e, c⟩ := x
  exact ⟨z, y, xs, Paired.mapP r fun p q z => ⟨z.1, ht _ _ z.2.1, z.2.2⟩, ob, es, ep, k _ _ (.inl rfl) e, c⟩
 | set S n => obtain ⟨ob, es, ep, t, e, c⟩ := x; exact ⟨ob, es, ep, t, k _ _ (.inl rfl) e, c⟩
 | ins C dx fs =>
  obtain ⟨d, z, ne, e, mA, ⟨od, es, ep, e2, c⟩, r⟩ := x
  exact ⟨ho _ d, z, ne, k _ _ (.inl rfl) e, mA, ⟨od, es, ep, k _ _ (.inr d) e2, c⟩, r⟩
 | own y => obtain ⟨ob, e⟩ := x; exact ⟨ob, k _ _ (.inl rfl) e⟩
 | xd fs => obtain ⟨mA, ⟨od, es, ep, e, c⟩, r⟩ := x; exact ⟨mA, ⟨od, es, ep, k _ _ (.inl rfl) e, c⟩, r⟩
 | rng lo hi => obtain ⟨t, u, v, e⟩ := x; exact ⟨t, u, v, k _ _ (.inl rfl) e⟩
 | frz ob u ih => obtain ⟨e, q⟩ := x; exact ⟨k _ _ (.inl rfl) e, ih q⟩
 | tbl ps =>
  have e : h.get? a = some { cls := .none, data := .fields ps } := x
  show h'.get? a = some { cls := .none, data := .fields ps }
  exact k a _ (.inl rfl) e
 | met f y =>
  have e : h.get? a = some (PySem.W.methodObj (.ref f) (.ref y)) := x
  show h'.get? a = some (PySem.W.methodObj (.ref f) (.ref y))
  exact k a _ (.inl rfl) e
 | ext φ => obtain ⟨p, ⟨o, e⟩, st⟩ := x; exact ⟨st _ _ p fun o q => k _ _ (.inl rfl) q, ⟨o, k _ _ (.inl rfl) e⟩, st⟩
theorem HOk.lt (x : HOk P w H h) (e : H a = some o) : a < h.objs.size := (x a o e).lt
theorem HOk.fresh (x : HOk P w H h) (e : h.objs.size ≤ a) : H a = none := by
 cases q : H a with
 | none => rfl
 | some u => exact absurd (Nat.lt_of_lt_of_le (x.lt q) e) (Nat.lt_irrefl _)
theorem HOk.kept (x : HOk P w H h) (k : ∀ b u, h.get? b = some u → h'.get? b = some u) : HOk P w H h' := fun a o e =>
 (x a o e).stay (fun b u _ q => k b u q) (fun _ q => q) fun _ _ q => q
theorem HOk.laid (x : HOk P w H h) (k : ∀ b u, h.get? b = some u → h'.get? b = some u) (hp : h.objs.size ≤ a) (new : ObjOk P w (upd H a o) h' a o) : HOk P w (upd H a o) h' := fun b u e => by
 have hn := x.fresh hp
 by_cases hb : b = a
 ·subst hb; rw [aqw] at e; cases e; exact new
 ·rw [aqv hb] at e
  exact (x b u e).stay (fun c v _ q => k c v q) (fun c q => by rw [aqv (aqr q hn)]; exact q) fun c xs q => by rw [aqv (aqr q hn)]; exact q
end
def Rd (H : Hp) (a : Addr) (u : HO) : Prop := H a = some u ∨ ∃ o, H a = some (.frz o u)
theorem Rd.ok {P : Program} {w : World} {H : Hp} {h : Heap} {a : Addr} {u : HO} (r : Rd H a u) (x : HOk P w H h) : ObjOk P w H h a u := by
 rcases r with r | ⟨o, r⟩
 ·exact x a u r
 ·obtain ⟨_, q⟩ := x a _ r
  exact q
def Mut : Option HO → Prop
 | some (.lst _) => True
 | some (.dK _) => True
 | some (.dT _) => True
 | some (.set _ _) => True
 | some (.ins _ _ _) => True
 | some (.ext _) => True
 | _ => False
section
variable {P : Program} {w : World} {H : Hp} {h h' : Heap} {x e : Addr} {o' : HO}
theorem HOk.write (ok : HOk P w H h) (mu : Mut (H x)) (he : e = x ∨ H e = some (.own x)) (k : ∀ b u, b ≠ e → h.get? b = some u → h'.get? b = some u) (heo : ∃ u, h'.get? e = some u)
  (new : ObjOk P w (upd H x o') h' x o') : HOk P w (upd H x o') h' := fun b u q => by
 have nown : ∀ c y, H c = some (.own y) → c ≠ x := fun c y r z => by subst z; rw [r] at mu; exact mu
 have ntup : ∀ c xs, H c = some (.tup xs) → c ≠ x := fun c xs r z => by subst z; rw [r] at mu; exact mu
 by_cases hb : b = x
 ·subst hb; rw [aqw] at q; cases q; exact new
 ·rw [aqv hb] at q
  by_cases hbe : b = e
  ·have q' : H b = some (.own x) := by
    rcases he with z | z
    ·exact absurd (hbe.trans z) hb
    ·rw [hbe]; exact z
   rw [q] at q'; cases q'
   obtain ⟨v, hv⟩ := heo
   exact ⟨v, by rw [hbe]; exact hv⟩
  ·refine (ok b u q).stay (fun c v hc r => k c v ?_ r) (fun c r => by rw [aqv (nown c b r)]; exact r) fun c xs r => by rw [aqv (ntup c xs r)]; exact r
   rcases hc with rfl | hc
   ·exact hbe
   ·rintro rfl
    rcases he with z | z
    ·exact nown c b hc z
    ·rw [hc] at z; cases z; exact hb rfl
end
structure Un (fs ex : List Addr) (H H' : Hp) (h h' : Heap) : Prop where
 keep : ∀ b o, h.get? b = some o → H b = none → b ∉ fs → b ∉ ex → h'.get? b = some o
 slot : ∀ b o, h.get? b = some o → H b = none → b ∈ fs → b ∉ ex → ∃ sl, h'.get? b = some { o with slots := sl }
 free : ∀ b o, h.get? b = some o → H b = none → b ∉ ex → H' b = none
 there : ∀ b o, h.get? b = some o → b ∉ ex → ∃ o', h'.get? b = some o'
 tups : ∀ b xs, H b = some (.tup xs) → H' b = some (.tup xs)
 frzs : ∀ b o u, H b = some (.frz o u) → H' b = some (.frz o u)
 tbls : ∀ b ps, H b = some (.tbl ps) → ∃ more, H' b = some (.tbl (ps ++ more))
section
variable {fs fs' ex ex' : List Addr} {H H1 H2 : Hp} {h h1 h2 h' : Heap} {a x e : Addr} {o : HO}
theorem Un.any (u : Un fs ex H H1 h h1) {b : Addr} {ob : Obj} (q : h.get? b = some ob) (n : H b = none) (hx : b ∉ ex) : ∃ sl, h1.get? b = some { ob with slots := sl } := by
 by_cases hb : b ∈ fs
 ·exact u.slot b ob q n hb hx
 ·exact ⟨ob.slots, u.keep b ob q n hb hx⟩
theorem Un.kept (k : ∀ b u, h.get? b = some u → h'.get? b = some u) : Un fs ex H H h h' :=
 ⟨fun b ob q _ _ _ => k b ob q, fun b ob q _ _ _ => ⟨ob.slots, k b ob q⟩, fun _ _ _ n _ => n, fun b ob q _ => ⟨ob, k b ob q⟩, fun _ _ q => q, fun _ _ _ q => q, fun _ ps q => ⟨#[], by rw [q]; simp⟩⟩
theorem Un.refl : Un fs ex H H h h := Un.kept fun _ _ q => q
theorem Un.laid (k : ∀ b u, h.get? b = some u → h'.get? b = some u) (hp : h.objs.size ≤ a) (hn : H a = none) : Un fs ex H (upd H a o) h h' where
 keep := fun b u q _ _ _ => k b u q
 slot := fun b u q _ _ _ => ⟨u.slots, k b u q⟩
 free := fun b u q n _ => by rw [aqv (Nat.ne_of_lt (Nat.lt_of_lt_of_le (Heap.lt_size q) hp))]; exact n
 there := fun b u q _ => ⟨u, k b u q⟩
 tups := fun b xs q => by rw [aqv (aqr q hn)]; exact q
 frzs := fun b u xs q => by rw [aqv (aqr q hn)]; exact q
 tbls := fun b ps q => ⟨#[], by rw [aqv (aqr q hn), q]; simp⟩
theorem Un.write (mu : Mut (H x)) (he : e = x ∨ H e = some (.own x)) (k : ∀ b u, b ≠ e → h.get? b = some u → h'.get? b = some u) (heo : ∃ u, h'.get? e = some u) : Un fs ex H (upd H x o) h h' := by
 have hx : ∀ b, H b = none → b ≠ x := fun b n z => by subst z; rw [n] at mu; exact mu
 have hb : ∀ b, H b = none → b ≠ e := fun b n z => by
  subst z
  rcases he with r | r
  ·exact hx b n r
  ·rw [n] at r; cases r
 have hm : ∀ b u, H b = some u → ¬ Mut (some u) → b ≠ x := fun b u q nm z => by subst z; rw [q] at mu; exact nm mu
 refine ⟨fun b u q n _ _ => k b u (hb b n) q, fun b u q n _ _ => ⟨u.slots, k b u (hb b n) q⟩, fun b u q n _ => by rw [aqv (hx b n)]; exact n, fun b u q _ => ?_,
  fun b xs q => by rw [aqv (hm b _ q fun z => z)]; exact q, fun b u xs q => by rw [aqv (hm b _ q fun z => z)]; exact q, fun b ps q => ⟨#[], by rw [aqv (hm b _ q fun z => z), q]; simp⟩⟩
 by_cases hbe : b = e
 ·subst hbe; exact heo
 ·exact ⟨u, k b u hbe q⟩
end
def trk (h : Heap) (H : Hp) : List Addr := (List.range h.objs.size).filter fun a => (H a).isSome
def hidT (h : Heap) (H : Hp) : Heap := PySem.W.hideAll h (trk h H)
theorem rqf (h : Heap) (H : Hp) : (hidT h H).objs.size = h.objs.size := PySem.W.hideAll_size _ _
theorem sqN {h : Heap} {H : Hp} {b : Addr} {o : Obj} (e : h.get? b = some o) (n : H b = none) : (hidT h H).get? b = some o :=
 PySem.W.hideAll_get _ e fun hm => by
  have q : (H b).isSome = true := (List.mem_filter.mp hm).2
  rw [n] at q; simp at q
theorem uqR {h : Heap} {H : Hp} {b : Addr} {o : Obj} (e : (hidT h H).get? b = some o) : h.get? b = some o ∧ H b = none := by
 have e' : h.get? b = some o := PySem.W.of_hideAll (trk h H) e
 refine ⟨e', ?_⟩
 cases q : H b with
 | none => rfl
 | some x =>
  have hm : b ∈ trk h H := List.mem_filter.mpr ⟨List.mem_range.mpr (Heap.lt_size e'), by simp [q]⟩
  have z : (hidT h H).get? b = none := PySem.W.hideAll_none (trk h H) hm
  rw [z] at e; cases e
def allNews (g h : Heap) (L : Addr) : List (Addr × Obj) := (List.range h.objs.size).filterMap fun a => if a = L ∨ (g.get? a).isSome = true then none else (h.get? a).map fun o => (a, o)
def rest (g h : Heap) (L d : Addr) : List (Addr × Obj) := (allNews g h L).filter fun p => decide (p.1 ≠ d)
structure Mod (K : PySem.W.Frag) (mg : Str → Option Value) (base : Heap) : Prop where
 kin : K.In base
 glob : base.Ns mainGlobals mg
 blt : ∃ mb, base.Ns builtinsNs mb ∧ ∀ x : Str, x ≠ "__name__" → mb x = bootBuiltins x
 nolimit : base.NoLimit
structure Cx where
 prog : Program
 w : World
 K : PySem.W.Frag
 mg : Str → Option Value
 base : Heap
 A : Around
 N : List Str
 s₀ : Shared
 H₀ : Hp
 env : Env
 outer : List Env
 stack : List Env
 ex : List Addr
 fn : Str → Bool
 calm : Bool
 pn : List (Addr × Obj)
 xe : Value → Shared → Prop
def frs (l : List Env) : List Addr := l.filterMap (·.frame)
abbrev Cx.fs (X : Cx) : List Addr := frs X.outer
def Vis (sc : Scope) (x : Str) : Prop := sc.names.lookup x = some .local ∨ sc.names.lookup x = some .cell ∨ sc.names.lookup x = some .free
def Loc (sc : Scope) (x : Str) : Prop := sc.names.lookup x = some .local ∨ sc.names.lookup x = some .cell
def Look (env : Env) (h : Heap) (m : Str → Option Value) (x : Str) (u : Value) : Prop :=
 (env.kindOf x = some .local ∧ m x = some u) ∨ ((env.kindOf x = some .cell ∨ env.kindOf x = some .free) ∧ ∃ c, env.cells.lookup x = some c ∧ h.IsCell c (some u))
structure Cx.Ok (X : Cx) : Prop where
 mod : Mod X.K X.mg X.base
 kind : X.env.scope.kind = .function
 glob : X.env.globals = mainGlobals
 blt : X.env.builtins = builtinsNs
 above : X.s₀.heap.objs.size ≤ X.env.locals
 inj : ∀ x y c, X.env.cells.lookup x = some c → X.env.cells.lookup y = some c → x = y
 has : ∀ x, (X.env.kindOf x = some .cell ∨ X.env.kindOf x = some .free) → ∃ c, X.env.cells.lookup x = some c
 cab : ∀ x c, X.fn x = true → X.env.cells.lookup x = some c → X.s₀.heap.objs.size ≤ c
 hd : X.calm = true → X.A.handled = none
 frames : X.A.frames = some X.stack
 stk : X.stack = X.outer ∨ (X.stack = X.env :: X.outer ∧ X.env.frame = some X.env.locals)
 exf : ∀ b ∈ X.ex, b ≠ X.env.locals ∧ ∀ x c, X.env.cells.lookup x = some c → c ≠ b
 bs : ∀ b o, X.base.get? b = some o → X.s₀.heap.get? b = some o ∧ X.H₀ b = none
 bsz : X.base.objs.size ≤ X.s₀.heap.objs.size
 noex : ∀ b o, X.base.get? b = some o → b ∉ X.ex
 exfs : ∀ b ∈ X.ex, b ∉ X.fs
 funs : X.s₀.heap.FunFrames X.base X.outer
 frf : ∀ b ∈ X.fs, X.H₀ b = none
structure Inv (X : Cx) (pins : List (Addr × Obj)) (σ : List (Option V)) (H : Hp) (s : Shared) : Prop where
 ok : X.Ok
 os : s.os = X.s₀.os
 bare : AllBare s.gens
 base : Un X.fs X.ex X.H₀ H X.s₀.heap s.heap
 loc : ∃ m, s.heap.Ns X.env.locals m ∧ ∀ (i : Nat) (x : Str) (v : V), X.N[i]? = some x → σ[i]? = some (some v) → Vis X.env.scope x → ∃ u, RelV v u ∧ Look X.env s.heap m x u
 cell : ∀ x c, X.env.cells.lookup x = some c → ∃ v, s.heap.IsCell c v
 free : H X.env.locals = none
 freeC : ∀ x c, X.env.cells.lookup x = some c → H c = none
 pin : ∀ p ∈ X.pn ++ pins, s.heap.get? p.1 = some p.2 ∧ H p.1 = none ∧ p.1 ≠ X.env.locals ∧ p.1 ∉ X.fs ∧ ∀ v, p.2.data ≠ .cell v
 hok : HOk X.prog X.w H s.heap
 len : σ.length = X.N.length
section
variable {X : Cx} {pins : List (Addr × Obj)} {σ : List (Option V)} {H H' : Hp} {s : Shared} {h' : Heap}
theorem Cx.Ok.nofr (ok : X.Ok) {b : Addr} {o : Obj} (e : X.base.get? b = some o) : b ∉ X.fs := fun hb => by
 have := (ok.funs.mem hb).1
 rw [e] at this; cases this
theorem Inv.bs (I : Inv X pins σ H s) : ∀ b o, X.base.get? b = some o → s.heap.get? b = some o ∧ H b = none := fun b o e =>
 ⟨I.base.keep b o (I.ok.bs b o e).1 (I.ok.bs b o e).2 (I.ok.nofr e) (I.ok.noex b o e), I.base.free b o (I.ok.bs b o e).1 (I.ok.bs b o e).2 (I.ok.noex b o e)⟩
theorem Inv.bk (I : Inv X pins σ H s) : ∀ b o, X.base.get? b = some o → s.heap.get? b = some o := fun b o e => (I.bs b o e).1
theorem Inv.mod (I : Inv X pins σ H s) : Mod X.K X.mg X.base := I.ok.mod
theorem Inv.kIn (I : Inv X pins σ H s) : X.K.In s.heap := I.ok.mod.kin.keeps I.bk
theorem Inv.lt (I : Inv X pins σ H s) : X.env.locals < s.heap.objs.size := let ⟨_, hn, _⟩ := I.loc; hn.lt
theorem Inv.sz (I : Inv X pins σ H s) : X.s₀.heap.objs.size ≤ s.heap.objs.size := Nat.le_trans I.ok.above (Nat.le_of_lt I.lt)
theorem Inv.nofs (I : Inv X pins σ H s) {a : Addr} (h : s.heap.objs.size ≤ a) : a ∉ X.fs := fun hb => by
 obtain ⟨_, o, ho, _⟩ := I.ok.funs.mem hb
 exact absurd (Nat.lt_of_lt_of_le (Heap.lt_size ho) (Nat.le_trans I.sz h)) (Nat.lt_irrefl _)
theorem Inv.cne (I : Inv X pins σ H s) : ∀ x c, X.env.cells.lookup x = some c → c ≠ X.env.locals := fun x c e z => by
 obtain ⟨v, o, ho, hd⟩ := I.cell x c e
 obtain ⟨m, ⟨o', es, ep, ho', hd', _⟩, _⟩ := I.loc
 rw [z, ho'] at ho; cases ho; rw [hd'] at hd; cases hd
theorem Inv.funs (I : Inv X pins σ H s) : s.heap.FunFrames X.base X.outer := by
 have all : ∀ (l : List Env), (∀ b ∈ frs l, b ∈ X.fs) → X.s₀.heap.FunFrames X.base l → s.heap.FunFrames X.base l := by
  intro l
  induction l with
  | nil => intro _ _; trivial
  | cons env r ih =>
   intro hs hl
   obtain ⟨hk, ⟨L, o, hf, hn, ho, hd⟩, hr⟩ := hl
   have hL : L ∈ X.fs := hs L (by unfold frs; rw [List.filterMap_cons, hf]; exact List.mem_cons_self)
   obtain ⟨sl, e⟩ := I.base.slot L o ho (I.ok.frf L hL) hL fun z => I.ok.exfs L z hL
   exact ⟨hk, ⟨L, _, hf, hn, e, hd⟩, ih (fun b hb => hs b (by unfold frs; rw [List.filterMap_cons, hf]; exact List.mem_cons_of_mem _ hb)) hr⟩
 exact all X.outer (fun _ hb => hb) I.ok.funs
theorem Inv.stack (I : Inv X pins σ H s) : s.heap.FunFrames X.base X.stack := by
 rcases I.ok.stk with e | ⟨e, hf⟩
 ·rw [e]; exact I.funs
 ·rw [e]
  obtain ⟨m, hn, _⟩ := I.loc
  refine .cons (by rw [I.ok.kind]; decide) hf hn ?_ I.funs
  exact Heap.get?_none_of_le (Nat.le_trans I.ok.bsz I.ok.above)
theorem Inv.stkSub (I : Inv X pins σ H s) : ∀ b ∈ frs X.stack, b ∈ X.env.locals :: X.fs := fun b hb => by
 rcases I.ok.stk with e | ⟨e, hf⟩
 ·rw [e] at hb; exact List.mem_cons_of_mem _ hb
 ·rw [e] at hb
  unfold frs at hb
  rw [List.filterMap_cons, hf] at hb
  exact hb
theorem Inv.stkFree (I : Inv X pins σ H s) : ∀ b ∈ frs X.stack, H b = none := fun b hb => by
 rcases List.mem_cons.mp (I.stkSub b hb) with e | hb
 ·rw [e]; exact I.free
 ·obtain ⟨_, o, ho, _⟩ := I.ok.funs.mem hb
  exact I.base.free b o ho (I.ok.frf b hb) fun z => I.ok.exfs b z hb
theorem Inv.step {g' : Array GenState} {t' : Nat} {d' : Drawn} {ch : List Addr} (I : Inv X pins σ H s)
  (hch : ∀ b ∈ ch, (b ∈ X.ex ∨ X.s₀.heap.objs.size ≤ b) ∧ b ≠ X.env.locals ∧ (∀ x c, X.env.cells.lookup x = some c → c ≠ b) ∧ ∀ p ∈ X.pn ++ pins, p.1 ≠ b)
  (keep : ∀ b o, b ≠ X.env.locals → b ∉ X.fs → b ∉ ch → s.heap.get? b = some o → H b = none → h'.get? b = some o)
  (slot : ∀ b o, b ≠ X.env.locals → b ∈ X.fs → b ∉ ch → s.heap.get? b = some o → H b = none → ∃ sl, h'.get? b = some { o with slots := sl }) (free : ∀ b o, b ∉ ch → s.heap.get? b = some o → H b = none → H' b = none)
  (there : ∀ b o, b ∉ ch → s.heap.get? b = some o → ∃ o', h'.get? b = some o')
  (tups : ∀ b xs, H b = some (.tup xs) → H' b = some (.tup xs)) (frzs : ∀ b o u, H b = some (.frz o u) → H' b = some (.frz o u)) (tbls : ∀ b ps, H b = some (.tbl ps) → ∃ more, H' b = some (.tbl (ps ++ more)))
  (ns : ∀ m, s.heap.Ns X.env.locals m → h'.Ns X.env.locals m) (hok : HOk X.prog X.w H' h') (hg : AllBare g') :
  Inv X pins σ H' { s with heap := h', gens := g', drawn := d', toks := t' } := by
 have neL : ∀ b o, X.s₀.heap.get? b = some o → b ≠ X.env.locals := fun b o e => Nat.ne_of_lt (Nat.lt_of_lt_of_le (Heap.lt_size e) I.ok.above)
 have neC : ∀ b o, X.s₀.heap.get? b = some o → b ∉ X.ex → b ∉ ch := fun b o e hx hb => by
  rcases (hch b hb).1 with z | z
  ·exact hx z
  ·exact absurd (Nat.lt_of_lt_of_le (Heap.lt_size e) z) (Nat.lt_irrefl _)
 have cellK : ∀ x c, X.env.cells.lookup x = some c → ∀ v, s.heap.IsCell c v → h'.IsCell c v := fun x c e v ⟨o, ho, hd⟩ => by
  have nch : c ∉ ch := fun z => (hch c z).2.2.1 x c e rfl
  by_cases hc : c ∈ X.fs
  ·obtain ⟨sl, q⟩ := slot c o (I.cne x c e) hc nch ho (I.freeC x c e)
   exact ⟨_, q, hd⟩
  ·exact ⟨o, keep c o (I.cne x c e) hc nch ho (I.freeC x c e), hd⟩
 refine ⟨I.ok, I.os, hg, ⟨fun b o e n hb hx => ?_, fun b o e n hb hx => ?_, fun b o e n hx => ?_, fun b o e hx => ?_, fun b xs e => tups b xs (I.base.tups b xs e), fun b o xs e => frzs b o xs (I.base.frzs b o xs e), fun b ps e => ?_⟩, ?_, fun x c e => ?_, ?_, fun x c e => ?_, fun p hp => ?_, hok, I.len⟩
 ·exact keep b o (neL b o e) hb (neC b o e hx) (I.base.keep b o e n hb hx) (I.base.free b o e n hx)
 ·obtain ⟨sl, e1⟩ := I.base.slot b o e n hb hx
  obtain ⟨sl', e2⟩ := slot b _ (neL b o e) hb (neC b o e hx) e1 (I.base.free b o e n hx)
  exact ⟨sl', e2⟩
 ·obtain ⟨o', e1⟩ := I.base.there b o e hx
  exact free b o' (neC b o e hx) e1 (I.base.free b o e n hx)
 ·obtain ⟨o', e1⟩ := I.base.there b o e hx
  exact there b o' (neC b o e hx) e1
 ·obtain ⟨m1, e1⟩ := I.base.tbls b ps e
  obtain ⟨m2, e2⟩ := tbls b _ e1
  exact ⟨m1 ++ m2, by rw [e2, Array.append_assoc]⟩
 ·obtain ⟨m, hn, hl⟩ := I.loc
  refine ⟨m, ns m hn, fun i x v e1 e2 e3 => ?_⟩
  obtain ⟨u, r, l⟩ := hl i x v e1 e2 e3
  refine ⟨u, r, ?_⟩
  rcases l with l | ⟨k, c, e, z⟩
  ·exact .inl l
  ·exact .inr ⟨k, c, e, cellK x c e _ z⟩
 ·obtain ⟨v, z⟩ := I.cell x c e
  exact ⟨v, cellK x c e v z⟩
 ·obtain ⟨m, ⟨o, _, _, ho, _⟩, _⟩ := I.loc
  exact free _ o (fun z => (hch _ z).2.1 rfl) ho I.free
 ·obtain ⟨v, o, ho, hd⟩ := I.cell x c e
  exact free c o (fun z => (hch c z).2.2.1 x c e rfl) ho (I.freeC x c e)
 ·obtain ⟨e, n, ne, nf, d⟩ := I.pin p hp
  have nch : p.1 ∉ ch := fun z => (hch p.1 z).2.2.2 p hp rfl
  exact ⟨keep p.1 p.2 ne nf nch e n, free p.1 p.2 nch e n, ne, nf, d⟩
theorem Inv.un {t' : Nat} (I : Inv X pins σ H s) (u : Un X.fs [] H H' s.heap h') (hok : HOk X.prog X.w H' h') : Inv X pins σ H' { s with heap := h', toks := t' } := by
 obtain ⟨m, ⟨o, es, ep, ho, r⟩, _⟩ := id I.loc
 obtain ⟨sl, hL⟩ := u.any ho I.free (by simp)
 exact I.step (g' := s.gens) (d' := s.drawn) (ch := []) (fun _ z => nomatch z) (fun b o _ hb _ e n => u.keep b o e n hb (by simp)) (fun b o _ hb _ e n => u.slot b o e n hb (by simp)) (fun b o _ e n => u.free b o e n (by simp)) (fun b o _ e => u.there b o e (by simp)) u.tups u.frzs u.tbls (fun m' hm => by
  obtain ⟨o', es', ep', ho', r'⟩ := hm
  rw [ho] at ho'; cases ho'
  exact ⟨_, es', ep', hL, r'⟩) hok I.bare
theorem Inv.call {g' : Array GenState} {t' : Nat} {d' : Drawn} {ch : List Addr} (I : Inv X pins σ H s) (u : Un (frs X.stack) ch H H' s.heap h') (hok : HOk X.prog X.w H' h') (hg : AllBare g')
  (hch : ∀ b ∈ ch, (b ∈ X.ex ∨ X.s₀.heap.objs.size ≤ b) ∧ b ≠ X.env.locals ∧ (∀ x c, X.env.cells.lookup x = some c → c ≠ b) ∧ ∀ p ∈ X.pn ++ pins, p.1 ≠ b) :
  Inv X pins σ H' { s with heap := h', gens := g', drawn := d', toks := t' } := by
 obtain ⟨m, ⟨o, es, ep, ho, r⟩, _⟩ := id I.loc
 obtain ⟨sl, hL⟩ := u.any ho I.free fun z => (hch _ z).2.1 rfl
 exact I.step (ch := ch) hch (fun b o hL hb hc e n => u.keep b o e n (fun z => (List.mem_cons.mp (I.stkSub b z)).elim hL hb) hc) (fun b o _ _ hc e n => u.any e n hc) (fun b o hc e n => u.free b o e n hc) (fun b o hc e => u.there b o e hc) u.tups u.frzs u.tbls (fun m' hm => by
  obtain ⟨o', es', ep', ho', r'⟩ := hm
  rw [ho] at ho'; cases ho'
  exact ⟨_, es', ep', hL, r'⟩) hok hg
theorem Inv.turned {t' : Nat} {it : Addr} (I : Inv X pins σ H s) (k : ∀ b o, b ≠ it → s.heap.get? b = some o → h'.get? b = some o) (hn : H it = none) (hL : it ≠ X.env.locals)
  (h1 : it ∈ X.ex ∨ X.s₀.heap.objs.size ≤ it) (h2 : ∀ x c, X.env.cells.lookup x = some c → c ≠ it) (h3 : ∀ p ∈ X.pn ++ pins, p.1 ≠ it) : Inv X pins σ H { s with heap := h', toks := t' } := by
 have nit : ∀ b u, H b = some u → b ≠ it := fun b u e z => by rw [z, hn] at e; cases e
 refine I.step (g' := s.gens) (d' := s.drawn) (ch := [it]) (fun b hb => ?_) (fun b o _ _ hc e _ => k b o (fun z => hc (by simp [z])) e) (fun b o _ _ hc e _ => ⟨o.slots, k b o (fun z => hc (by simp [z])) e⟩) (fun _ _ _ _ n => n)
  (fun b o hc e => ⟨o, k b o (fun z => hc (by simp [z])) e⟩) (fun _ _ e => e) (fun _ _ _ e => e) (fun b ps e => ⟨#[], by rw [e]; simp⟩) (fun m hm => ?_) (fun b u e => ?_) I.bare
 ·have e : b = it := by simpa using hb
  subst e
  exact ⟨h1, hL, h2, h3⟩
 ·obtain ⟨o, es, ep, ho, r⟩ := hm
  exact ⟨o, es, ep, k _ o (Ne.symm hL) ho, r⟩
 ·refine (I.hok b u e).stay (fun c v hc q => k c v ?_ q) (fun _ q => q) fun _ _ q => q
  rcases hc with z | z
  ·rw [z]; exact nit b u e
  ·exact nit c _ z
theorem Inv.tok (I : Inv X pins σ H s) (t : Nat) : Inv X pins σ H { s with toks := t } := I.un (h' := s.heap) (t' := t) Un.refl I.hok
theorem Inv.kept {t' : Nat} (I : Inv X pins σ H s) (k : ∀ b u, s.heap.get? b = some u → h'.get? b = some u) : Inv X pins σ H { s with heap := h', toks := t' } := I.un (Un.kept k) (I.hok.kept k)
theorem Inv.laid {a : Addr} {o : HO} {t' : Nat} (I : Inv X pins σ H s) (k : ∀ b u, s.heap.get? b = some u → h'.get? b = some u) (hp : s.heap.objs.size ≤ a) (new : ObjOk X.prog X.w (upd H a o) h' a o) :
  Inv X pins σ (upd H a o) { s with heap := h', toks := t' } := I.un (Un.laid k hp (I.hok.fresh hp)) (I.hok.laid k hp new)
theorem Inv.write {x e : Addr} {o : HO} {t' : Nat} (I : Inv X pins σ H s) (mu : Mut (H x)) (he : e = x ∨ H e = some (.own x)) (k : ∀ b u, b ≠ e → s.heap.get? b = some u → h'.get? b = some u) (heo : ∃ u, h'.get? e = some u)
  (new : ObjOk X.prog X.w (upd H x o) h' x o) : Inv X pins σ (upd H x o) { s with heap := h', toks := t' } := I.un (Un.write mu he k heo) (I.hok.write mu he k heo new)
theorem Inv.pins_of {pins' : List (Addr × Obj)} (I : Inv X pins σ H s) (h : ∀ p ∈ pins', s.heap.get? p.1 = some p.2 ∧ H p.1 = none ∧ p.1 ≠ X.env.locals ∧ p.1 ∉ X.fs ∧ ∀ v, p.2.data ≠ .cell v) : Inv X pins' σ H s :=
 ⟨I.ok, I.os, I.bare, I.base, I.loc, I.cell, I.free, I.freeC, fun p hp => (List.mem_append.mp hp).elim (fun z => I.pin p (List.mem_append_left _ z)) (h p), I.hok, I.len⟩
theorem lq0 {N : List Str} (hN : N.Nodup) {i j : Nat} {x : Str} (a : N[i]? = some x) (b : N[j]? = some x) : i = j := by
 obtain ⟨h1, e1⟩ := List.getElem?_eq_some_iff.mp a
 obtain ⟨h2, e2⟩ := List.getElem?_eq_some_iff.mp b
 exact (List.getElem_inj hN).mp (e1.trans e2.symm)
theorem qqf {M : Model} {A : Around} {E : Value → Shared → Prop} {i : Nat} {x : Str} {v : V} {u : Value} {Q : Unit → Shared → Prop} (I : Inv X pins σ H s) (hN : X.N.Nodup) (hi : X.N[i]? = some x) (hx : Loc X.env.scope x) (r : RelV v u)
  (h : ∀ s', Inv X pins (σ.set i (some v)) H s' → (∃ a, Heap.SameBut a s.heap s'.heap ∧ (a = X.env.locals ∨ X.env.cells.lookup x = some a)) → Q () s') (hf : X.fn x = true ∨ X.env.scope.names.lookup x = some .local := by first | exact .inl rfl | exact .inr rfl | assumption) : wpAny M A (storeName X.env x u) Q E s := by
 obtain ⟨m, hn, hl⟩ := id I.loc
 have hcls : (X.env.scope.kind == .class || (X.env.scope.kind == .module && X.env.locals != X.env.globals)) = false := by rw [I.ok.kind]; rfl
 have hiσ : i < σ.length := by rw [I.len]; exact (List.getElem?_eq_some_iff.mp hi).1
 have cne := I.cne
 have tracked : ∀ {a : Addr} {h' : Heap}, (∃ o, s.heap.get? a = some o ∧ H a = none) → Heap.SameBut a s.heap h' → HOk X.prog X.w H h' := fun {a h'} ha hs b ob e => by
  obtain ⟨_, _, hfree⟩ := ha
  refine (I.hok b ob e).stay (fun c w' hc q => (hs.2 c ?_).trans q) (fun _ q => q) fun _ _ q => q
  rintro rfl
  rcases hc with rfl | hc
  ·rw [hfree] at e; cases e
  ·rw [hfree] at hc; cases hc
 rcases hx with hk | hk
 ·refine wpAny_storeName_local hk hn (fun h' hn' hs => ?_) hcls
  obtain ⟨oL, _, _, hoL, _⟩ := id hn
  refine h _ ⟨I.ok, I.os, I.bare, ⟨fun b o e n hb hx => ?_, fun b o e n hb hx => ?_, I.base.free, fun b o e hx => ?_, I.base.tups, I.base.frzs, I.base.tbls⟩, ⟨_, hn', fun j y v' e1 e2 e3 => ?_⟩, fun y c e => ?_, I.free, I.freeC, fun p hp => ?_, tracked ⟨oL, hoL, I.free⟩ hs, by simpa using I.len⟩ ⟨_, hs, .inl rfl⟩
  ·exact (hs.2 b (Nat.ne_of_lt (Nat.lt_of_lt_of_le (Heap.lt_size e) I.ok.above))).trans (I.base.keep b o e n hb hx)
  ·obtain ⟨sl, e1⟩ := I.base.slot b o e n hb hx
   exact ⟨sl, (hs.2 b (Nat.ne_of_lt (Nat.lt_of_lt_of_le (Heap.lt_size e) I.ok.above))).trans e1⟩
  ·obtain ⟨o', e1⟩ := I.base.there b o e hx
   exact ⟨o', (hs.2 b (Nat.ne_of_lt (Nat.lt_of_lt_of_le (Heap.lt_size e) I.ok.above))).trans e1⟩
  ·by_cases hj : j = i
   ·subst hj
    rw [hi] at e1; cases e1
    rw [List.getElem?_set_self hiσ] at e2
    cases e2
    exact ⟨u, r, .inl ⟨hk, by simp⟩⟩
   ·rw [List.getElem?_set_ne (Ne.symm hj)] at e2
    obtain ⟨u', r', q⟩ := hl j y v' e1 e2 e3
    refine ⟨u', r', ?_⟩
    rcases q with ⟨k, e⟩ | ⟨k, c, e, z⟩
    ·refine .inl ⟨k, ?_⟩
     have : y ≠ x := fun e => hj (lq0 hN e1 (e ▸ hi))
     simp [this, e]
    ·exact .inr ⟨k, c, e, z.sameBut hs (cne y c e)⟩
  ·obtain ⟨w', z⟩ := I.cell y c e
   exact ⟨w', z.sameBut hs (cne y c e)⟩
  ·obtain ⟨e, n, ne, nf, d⟩ := I.pin p hp
   exact ⟨(hs.2 p.1 ne).trans e, n, ne, nf, d⟩
 ·have hfn : X.fn x = true := by
   rcases hf with z | z
   ·exact z
   ·rw [z] at hk; cases hk
  obtain ⟨c, hc⟩ := I.ok.has x (.inl hk)
  obtain ⟨w', z⟩ := I.cell x c hc
  refine wpAny_storeName_cell I.ok.kind hk hc z (fun h' hc' hs => ?_)
  obtain ⟨oc, hoc, hocd⟩ := id z
  refine h { s with heap := h' } ⟨I.ok, I.os, I.bare, ⟨fun b o e n hb hx => ?_, fun b o e n hb hx => ?_, I.base.free, fun b o e hx => ?_, I.base.tups, I.base.frzs, I.base.tbls⟩, ⟨m, hn.sameBut hs (Ne.symm (cne x c hc)), fun j y v' e1 e2 e3 => ?_⟩, fun y c' e => ?_, I.free, I.freeC, fun p hp => ?_, tracked ⟨oc, hoc, I.freeC x c hc⟩ hs, by simpa using I.len⟩ ⟨c, hs, .inr hc⟩
  ·exact (hs.2 b (Nat.ne_of_lt (Nat.lt_of_lt_of_le (Heap.lt_size e) (I.ok.cab x c hfn hc)))).trans (I.base.keep b o e n hb hx)
  ·obtain ⟨sl, e1⟩ := I.base.slot b o e n hb hx
   exact ⟨sl, (hs.2 b (Nat.ne_of_lt (Nat.lt_of_lt_of_le (Heap.lt_size e) (I.ok.cab x c hfn hc)))).trans e1⟩
  ·obtain ⟨o', e1⟩ := I.base.there b o e hx
   exact ⟨o', (hs.2 b (Nat.ne_of_lt (Nat.lt_of_lt_of_le (Heap.lt_size e) (I.ok.cab x c hfn hc)))).trans e1⟩
  ·by_cases hj : j = i
   ·subst hj
    rw [hi] at e1; cases e1
    rw [List.getElem?_set_self hiσ] at e2
    cases e2
    exact ⟨u, r, .inr ⟨.inl hk, c, hc, hc'⟩⟩
   ·rw [List.getElem?_set_ne (Ne.symm hj)] at e2
    obtain ⟨u', r', q⟩ := hl j y v' e1 e2 e3
    refine ⟨u', r', ?_⟩
    rcases q with q | ⟨k, c', e, z'⟩
    ·exact .inl q
    ·refine .inr ⟨k, c', e, z'.sameBut hs ?_⟩
     rintro rfl
     exact hj (lq0 hN e1 (I.ok.inj _ _ _ e hc ▸ hi))
  ·by_cases hcc : c' = c
   ·subst hcc; exact ⟨_, hc'⟩
   ·obtain ⟨w2, z2⟩ := I.cell y c' e
    exact ⟨w2, z2.sameBut hs hcc⟩
  ·obtain ⟨e, n, ne, nf, d⟩ := I.pin p hp
   refine ⟨(hs.2 p.1 ?_).trans e, n, ne, nf, d⟩
   intro q
   rw [q, hoc] at e
   have q' : oc = p.2 := Option.some.inj e
   exact d w' (by rw [← q']; exact hocd)
theorem jq5 {M : Model} {A : Around} {E : Value → Shared → Prop} {i : Nat} {x : Str} {v : V} {u : Value} {Q : Unit → Shared → Prop} (I : Inv X pins σ H s) (hN : X.N.Nodup) (hi : X.N[i]? = some x) (hx : Loc X.env.scope x) (r : RelV v u)
  (h : ∀ s', Inv X pins (σ.set i (some v)) H s' → Q () s') (hf : X.fn x = true ∨ X.env.scope.names.lookup x = some .local := by first | exact .inl rfl | exact .inr rfl | assumption) : wpAny M A (storeName X.env x u) Q E s :=
 qqf I hN hi hx r (fun s' I' _ => h s' I') hf
theorem Inv.call' {s' : Shared} {ch : List Addr} (I : Inv X pins σ H s) (ho : s'.os = s.os) (u : Un (frs X.stack) ch H H' s.heap s'.heap) (hok : HOk X.prog X.w H' s'.heap) (hg : AllBare s'.gens)
  (hch : ∀ b ∈ ch, (b ∈ X.ex ∨ X.s₀.heap.objs.size ≤ b) ∧ b ≠ X.env.locals ∧ (∀ x c, X.env.cells.lookup x = some c → c ≠ b) ∧ ∀ p ∈ X.pn ++ pins, p.1 ≠ b) : Inv X pins σ H' s' := by
 obtain ⟨h', g', d', t', o'⟩ := s'
 have e : o' = s.os := ho
 subst e
 exact I.call (g' := g') (t' := t') (d' := d') u hok hg hch
end
abbrev XK := Value → Option Addr → Hp → Prop
abbrev St := List (Option V)
abbrev VK := V → Hp → Prop
abbrev TE := St → Hp → VK → Prop
abbrev TT := St → Hp → (Bool → Hp → Prop) → Prop
abbrev TA := St → Hp → (List V → Hp → Prop) → Prop
structure Ends where
 nx : St → Hp → Prop
 rt : VK
 bk : St → Hp → Prop := fun _ _ => False
 ct : St → Hp → Prop := fun _ _ => False
abbrev TS := Ends → St → Hp → Prop
def EP (X : Cx) (pins : List (Addr × Obj)) (σ : St) (Q : VK) (u : Value) (s' : Shared) : Prop := ∃ v H', Inv X pins σ H' s' ∧ RelV v u ∧ Q v H'
def TP (X : Cx) (pins : List (Addr × Obj)) (σ : St) (Q : Bool → Hp → Prop) (b : Bool) (s' : Shared) : Prop := ∃ H', Inv X pins σ H' s' ∧ Q b H'
def AP (X : Cx) (pins : List (Addr × Obj)) (σ : St) (Q : List V → Hp → Prop) (us : List Value) (s' : Shared) : Prop := ∃ vs H', Inv X pins σ H' s' ∧ Vals vs us ∧ Q vs H'
def SP (X : Cx) (pins : List (Addr × Obj)) (D : Ends) (f : Flow) (s' : Shared) : Prop :=
 match f with
 | .next => ∃ σ' H', Inv X pins σ' H' s' ∧ D.nx σ' H'
 | .brk => ∃ σ' H', Inv X pins σ' H' s' ∧ D.bk σ' H'
 | .cont => ∃ σ' H', Inv X pins σ' H' s' ∧ D.ct σ' H'
 | .ret u => ∃ v σ' H', Inv X pins σ' H' s' ∧ RelV v u ∧ D.rt v H'
def PE (X : Cx) (e : Expr) (t : TE) : Prop :=
 ∀ (pins : List (Addr × Obj)) (s : Shared) (σ : St) (H : Hp) (Q : VK), Inv X pins σ H s → t σ H Q → wpAny (model X.prog X.w) X.A (eval e X.env) (EP X pins σ Q) X.xe s
def PT (X : Cx) (e : Expr) (t : TT) : Prop :=
 ∀ (pins : List (Addr × Obj)) (s : Shared) (σ : St) (H : Hp) (Q : Bool → Hp → Prop), Inv X pins σ H s → t σ H Q → wpAny (model X.prog X.w) X.A (isTrue e X.env (eval e X.env)) (TP X pins σ Q) X.xe s
def PW (X : Cx) (e : Expr) (t : TT) : Prop :=
 ∀ (whole : Sem Value) (pins : List (Addr × Obj)) (s : Shared) (σ : St) (H : Hp) (Q : Bool → Hp → Prop), Inv X pins σ H s → t σ H Q → wpAny (model X.prog X.w) X.A (isTrue e X.env whole) (TP X pins σ Q) X.xe s
theorem PW.pt {X : Cx} {e : Expr} {t : TT} (h : PW X e t) : PT X e t := h _
def PA (X : Cx) (es : List Expr) (t : TA) : Prop :=
 ∀ (pos : Pos) (pins : List (Addr × Obj)) (s : Shared) (σ : St) (H : Hp) (Q : List V → Hp → Prop), Inv X pins σ H s → t σ H Q → wpAny (model X.prog X.w) X.A (spliced (backTo pos (starEach es X.env))) (AP X pins σ Q) X.xe s
def PS (X : Cx) (st : Stmt) (t : TS) : Prop :=
 ∀ (pins : List (Addr × Obj)) (s : Shared) (σ : St) (H : Hp) (D : Ends), Inv X pins σ H s → t D σ H → wpAny (model X.prog X.w) X.A (exec st X.env) (SP X pins D) X.xe s
def PSs (X : Cx) (st : List Stmt) (t : TS) : Prop :=
 ∀ (pins : List (Addr × Obj)) (s : Shared) (σ : St) (H : Hp) (D : Ends), Inv X pins σ H s → t D σ H → wpAny (model X.prog X.w) X.A (execs st X.env) (SP X pins D) X.xe s
theorem thn {α : Type} {t : Sem α} {Q Q' : α → Shared → Prop} {M : Model} {A : Around} {E : Value → Shared → Prop} {s : Shared} (h : wpAny M A t Q E s) (hQ : ∀ a s, Q a s → Q' a s) : wpAny M A t Q' E s := wpAny_mono h hQ fun _ _ x => x
section
variable {X : Cx}
theorem bin {a b : Expr} {ta tb : TE} (ha : PE X a ta) (hb : PE X b tb) {pins : List (Addr × Obj)} {s : Shared} {σ : St} {H : Hp} {R : V → V → Hp → Prop} (I : Inv X pins σ H s) (h : ta σ H fun x H1 => tb σ H1 fun y H2 => R x y H2)
  {α : Type} {Q : α → Shared → Prop} {f : Value → Value → Sem α}
  (hf : ∀ v u s2 x y H2, Inv X pins σ H2 s2 → RelV x v → RelV y u → R x y H2 → wpAny (model X.prog X.w) X.A (f v u) Q X.xe s2) :
  wpAny (model X.prog X.w) X.A (eval a X.env) (fun v s₁ => wpAny (model X.prog X.w) X.A (eval b X.env) (fun u s₂ => wpAny (model X.prog X.w) X.A (f v u) Q X.xe s₂) X.xe s₁) X.xe s := by
 refine thn (ha pins s σ H _ I h) fun v s1 W' => ?_
 obtain ⟨x, H1, I1, r1, q1⟩ := W'
 refine thn (hb pins s1 σ H1 _ I1 q1) fun u s2 W' => ?_
 obtain ⟨y, H2, I2, r2, q2⟩ := W'
 exact hf v u s2 x y H2 I2 r1 r2 q2
def tVar (i : Nat) : TE := fun σ H Q => ∃ v, σ[i]? = some (some v) ∧ Q v H
def tC (v : V) : TE := fun _ H Q => Q v H
theorem wqt {i : Nat} {x : Str} {pos : Pos} (hN : X.N[i]? = some x) (hv : Vis X.env.scope x) (hd : (x == ("__debug__" : Str)) = false := by decide) (hcd : (x == ("__classdict__" : Str)) = false := by decide) : PE X (.Name x pos) (tVar i) := by
 intro pins s σ H Q I h
 obtain ⟨v, e, h⟩ := h
 obtain ⟨m, hn, hl⟩ := I.loc
 obtain ⟨u, r, l⟩ := hl i x v hN e hv
 have fin : EP X pins σ Q u s := ⟨v, H, I, r, h⟩
 rcases l with ⟨hk, hm⟩ | ⟨hk, c, hc, hcell⟩
 ·exact wpAny_Name (wpAny_loadName_local I.ok.kind hk hn hm fin) hd
 ·rcases hk with hk | hk
  ·exact wpAny_Name (wpAny_loadName_cell I.ok.kind hk hc hcell fin) hd
  ·exact wpAny_Name (wpAny_loadName_free I.ok.kind hk hc hcell fin hcd) hd
theorem aqj {i j pos} : PE X (.Constant (.int i) j pos) (tC (.int i)) := fun _ _ _ H _ I h => wpAny_Constant_int ⟨.int i, H, I.tok _, ⟨_, rfl⟩, h⟩
theorem hqz {b j pos} : PE X (.Constant (.bool b) j pos) (tC (.bl b)) := fun _ _ _ H _ I h => Constant_bool ⟨.bl b, H, I, rfl, h⟩
theorem bqo {j pos} : PE X (.Constant .none j pos) (tC .non) := fun _ _ _ H _ I h => Constant_none ⟨.non, H, I, rfl, h⟩
theorem aqg {x j pos} : PE X (.Constant (.str x) j pos) (tC (.str x)) := fun _ _ _ H _ I h => Calls.Constant_str ⟨.str x, H, I.tok _, ⟨_, rfl⟩, h⟩
def Gl (X : Cx) (x : Str) : Prop := X.env.kindOf x = some .globalImplicit
theorem hq2 {E : Value → Shared → Prop} {pins : List (Addr × Obj)} {s : Shared} {σ : St} {H : Hp} {x : Str} {u : Value} {pos : Pos} {Q : Value → Shared → Prop} (I : Inv X pins σ H s) (hg : Gl X x) (hm : X.mg x = some u) (h : Q u s)
  (hd : (x == ("__debug__" : Str)) = false := by decide) : wpAny (model X.prog X.w) X.A (eval (.Name x pos) X.env) Q E s :=
 Calls.Name_function_global I.ok.kind hg (Calls.loadGlobal_global (by rw [I.ok.glob]; exact I.mod.glob.keeps I.bk) hm h) hd
theorem pqs {E : Value → Shared → Prop} {pins : List (Addr × Obj)} {s : Shared} {σ : St} {H : Hp} {x : Str} {u : Value} {pos : Pos} {Q : Value → Shared → Prop} (I : Inv X pins σ H s) (hg : Gl X x) (hm : X.mg x = none) (hv : bootBuiltins x = some u) (h : Q u s)
  (hn : x ≠ "__name__" := by decide) (hd : (x == ("__debug__" : Str)) = false := by decide) : wpAny (model X.prog X.w) X.A (eval (.Name x pos) X.env) Q E s := by
 obtain ⟨mb, h1, h2⟩ := I.mod.blt
 exact Calls.Name_function_global I.ok.kind hg (Calls.loadGlobal_builtin (by rw [I.ok.glob]; exact I.mod.glob.keeps I.bk) hm (by rw [I.ok.blt]; exact h1.keeps I.bk) ((h2 x hn).trans hv) h) hd
theorem aqy {x : Str} {v : V} {u : Value} {pos : Pos} (hg : Gl X x) (hm : X.mg x = some u) (r : RelV v u) (hd : (x == ("__debug__" : Str)) = false := by decide) : PE X (.Name x pos) (tC v) :=
 fun _ _ _ H _ I h => hq2 I hg hm ⟨v, H, I, r, h⟩ hd
theorem eqK {x : Str} {v : V} {u : Value} {pos : Pos} (hg : Gl X x) (hm : X.mg x = none) (hv : bootBuiltins x = some u) (r : RelV v u) (hn : x ≠ "__name__" := by decide) (hd : (x == ("__debug__" : Str)) = false := by decide) : PE X (.Name x pos) (tC v) :=
 fun _ _ _ H _ I h => pqs I hg hm hv ⟨v, H, I, r, h⟩ hn hd
variable {a b : Expr} {ta tb : TE} {pos : Pos}
def PC (X : Cx) (op : CmpOp) (a b : Expr) (t : TE) : Prop :=
 ∀ (pins : List (Addr × Obj)) (s : Shared) (σ : St) (H : Hp) (Q : VK), Inv X pins σ H s → t σ H Q →
  wpAny (model X.prog X.w) X.A (eval a X.env) (fun v s₁ => wpAny (model X.prog X.w) X.A (eval b X.env) (fun u s₂ => wpAny (model X.prog X.w) X.A (compareOp op v u) (EP X pins σ Q) X.xe s₂) X.xe s₁) X.xe s
def tB (t : TE) : TT := fun σ H Q => t σ H fun x H1 => ∃ c, x = .bl c ∧ Q c H1
theorem xqo {op : CmpOp} {t : TE} (h : PC X op a b t) (h1 : behindInMarks op b = false := by first | exact nobehind _ (by decide) (by decide) | rfl) : PT X (.Compare a [op] [b] pos) (tB t) := by
 intro pins s σ H Q I hw
 refine wpAny_isTrue_Compare1 (thn (h pins s σ H _ I hw) fun v s1 h1 => thn h1 fun u s2 h2 => thn h2 fun c s3 W' => ?_) h1
 obtain ⟨x, H1, I1, r1, q1⟩ := W'
 obtain ⟨d, rfl, q⟩ := q1
 cases r1
 exact wpAny_truthy_bool ⟨H1, I1, q⟩
theorem aqQ {e : Expr} {t : TE} (h : PE X e t) (he : ∀ whole, isTrue e X.env whole = (do let v ← whole; standAt e.pos; holding [v] (truthy v)) := by intro _; rfl) : PT X e (tB t) := by
 intro pins s σ H Q I hw
 refine isTrue_plain (thn (h pins s σ H _ I hw) fun v s1 W' => ?_) (he _)
 obtain ⟨x, H1, I1, r1, q1⟩ := W'
 obtain ⟨d, rfl, q⟩ := q1
 cases r1
 exact wpAny_truthy_bool ⟨H1, I1, q⟩
variable {tA tB' : TT} {rest : List Expr}
def tAnd (t u : TT) : TT := fun σ H Q => t σ H fun c H1 => if c = true then u σ H1 Q else Q false H1
def tOr (t u : TT) : TT := fun σ H Q => t σ H fun c H1 => if c = true then Q true H1 else u σ H1 Q
def tNot (t : TT) : TT := fun σ H Q => t σ H fun c H1 => Q (!c) H1
theorem cqG (ha : PT X a tA) : PW X (.BoolOp .And [a] pos) tA := by
 intro wh pins s σ H Q I h
 refine isTrue_and (thn (ha pins s σ H Q I h) fun c s1 e => ?_)
 cases c with
 | true => exact isTrue_and_nil e
 | false => exact e
theorem gq7 (ha : PT X a tA) : PW X (.BoolOp .Or [a] pos) tA := by
 intro wh pins s σ H Q I h
 refine isTrue_or (thn (ha pins s σ H Q I h) fun c s1 e => ?_)
 cases c with
 | false => exact isTrue_or_nil e
 | true => exact e
theorem dqV (ha : PT X a tA) (hb : PW X (.BoolOp .And (b :: rest) pos) tB') : PW X (.BoolOp .And (a :: b :: rest) pos) (tAnd tA tB') := by
 intro wh pins s σ H Q I h
 refine isTrue_and (thn (ha pins s σ H _ I h) fun c s1 W' => ?_)
 obtain ⟨H1, I1, q1⟩ := W'
 cases c with
 | true => exact hb wh pins s1 σ H1 Q I1 q1
 | false => exact ⟨H1, I1, q1⟩
theorem hqy (ha : PT X a tA) (hb : PW X (.BoolOp .Or (b :: rest) pos) tB') : PW X (.BoolOp .Or (a :: b :: rest) pos) (tOr tA tB') := by
 intro wh pins s σ H Q I h
 refine isTrue_or (thn (ha pins s σ H _ I h) fun c s1 W' => ?_)
 obtain ⟨H1, I1, q1⟩ := W'
 cases c with
 | true => exact ⟨H1, I1, q1⟩
 | false => exact hb wh pins s1 σ H1 Q I1 q1
theorem dqd (ha : PT X a tA) : PT X (.UnaryOp .Not a pos) (tNot tA) := by
 intro pins s σ H Q I h
 exact isTrue_not (ha pins s σ H (fun c H1 => Q (!c) H1) I h)
def tAndV (ta tb : TE) : TE := fun σ H Q => ta σ H fun x H1 => ∃ c, x = .bl c ∧ if c = true then tb σ H1 Q else Q (.bl false) H1
def tOrV (ta tb : TE) : TE := fun σ H Q => ta σ H fun x H1 => ∃ c, x = .bl c ∧ if c = true then Q (.bl true) H1 else tb σ H1 Q
def tNotV (ta : TE) : TE := fun σ H Q => ta σ H fun x H1 => ∃ c, x = .bl c ∧ Q (.bl (!c)) H1
theorem bqG {op} {t : TE} (h : PE X a t) : PE X (.BoolOp op [a] pos) t := fun pins s σ H Q I hw => BoolOp_one (h pins s σ H Q I hw)
theorem cqr (ha : PE X a ta) (hb : PE X (.BoolOp .And (b :: rest) pos) tb) : PE X (.BoolOp .And (a :: b :: rest) pos) (tAndV ta tb) := by
 intro pins s σ H Q I h
 refine BoolOp_and (thn (ha pins s σ H _ I h) fun v s1 W' => ?_)
 obtain ⟨x, H1, I1, r1, q1⟩ := W'
 obtain ⟨c, rfl, q1⟩ := q1
 cases r1
 refine wpAny_truthy_bool ?_
 cases c with
 | true => exact hb pins s1 σ H1 Q I1 q1
 | false => exact ⟨.bl false, H1, I1, rfl, q1⟩
theorem kq9 (ha : PE X a ta) (hb : PE X (.BoolOp .Or (b :: rest) pos) tb) : PE X (.BoolOp .Or (a :: b :: rest) pos) (tOrV ta tb) := by
 intro pins s σ H Q I h
 refine BoolOp_or (thn (ha pins s σ H _ I h) fun v s1 W' => ?_)
 obtain ⟨x, H1, I1, r1, q1⟩ := W'
 obtain ⟨c, rfl, q1⟩ := q1
 cases r1
 refine wpAny_truthy_bool ?_
 cases c with
 | false => exact hb pins s1 σ H1 Q I1 q1
 | true => exact ⟨.bl true, H1, I1, rfl, q1⟩
theorem mq6 (ha : PE X a ta) : PE X (.UnaryOp .Not a pos) (tNotV ta) := by
 intro pins s σ H Q I h
 refine UnaryOp_ (thn (ha pins s σ H _ I h) fun v s1 W' => ?_)
 obtain ⟨x, H1, I1, r1, q1⟩ := W'
 obtain ⟨c, rfl, q1⟩ := q1
 cases r1
 exact not_of (wpAny_truthy_bool ⟨.bl (!c), H1, I1, rfl, q1⟩)
def tIf (t : TT) (ta tb : TE) : TE := fun σ H Q => t σ H fun c H1 => if c = true then ta σ H1 Q else tb σ H1 Q
theorem jqZ {c : Expr} (hc : PT X c tA) (ha : PE X a ta) (hb : PE X b tb) : PE X (.IfExp c a b pos) (tIf tA ta tb) := by
 intro pins s σ H Q I h
 refine wpAny_IfExp (thn (hc pins s σ H _ I h) fun d s1 W' => ?_)
 obtain ⟨H1, I1, q1⟩ := W'
 cases d with
 | true => exact ha pins s1 σ H1 Q I1 q1
 | false => exact hb pins s1 σ H1 Q I1 q1
end
def SqL (K : PySem.W.Frag) (H : Hp) (a : Addr) (xs : List V) : Prop :=
 Rd H a (.lst xs) ∨
  ∃ (o : Obj) (its : Array Value) (n : Nat), K.lookup a = some o ∧ o.cls = .type "list" ∧ o.dict = none ∧ o.data = .seq its n ∧ its.size ≤ sizeLine ∧ Vals xs its.toList
def SqT (K : PySem.W.Frag) (H : Hp) (a : Addr) (xs : List V) : Prop :=
 Rd H a (.tup xs) ∨
  ∃ (o : Obj) (its : Array Value) (n : Nat), K.lookup a = some o ∧ o.cls = .type "tuple" ∧ o.data = .seq its n ∧ its.size ≤ sizeLine ∧ Vals xs its.toList
def absV : Value → Option V
 | .none => some .non
 | .bool b => some (.bl b)
 | .int i _ => some (.int i)
 | .str x _ => some (.str x)
 | .bytes b _ => some (.byt b)
 | .float b _ => some (.flt b)
 | .ref a => some (.ref a)
 | .type n => some (.ty n)
 | _ => none
theorem RelV.abs {x : V} {u : Value} (r : RelV x u) : absV u = some x := by
 cases x with
 | non => cases r; rfl
 | bl _ => cases r; rfl
 | int _ => obtain ⟨t, rfl⟩ := r; rfl
 | str _ => obtain ⟨t, rfl⟩ := r; rfl
 | byt _ => obtain ⟨t, rfl⟩ := r; rfl
 | flt _ => obtain ⟨t, rfl⟩ := r; rfl
 | ref _ => cases r; rfl
 | ty _ => cases r; rfl
theorem RelV.inj {x y : V} {u : Value} (r : RelV x u) (q : RelV y u) : x = y := Option.some.inj (r.abs.symm.trans q.abs)
theorem Vals.inj : ∀ {xs ys : List V} {us : List Value}, Vals xs us → Vals ys us → xs = ys
 | _, _, _, .nil, .nil => rfl
 | _, _, _, .cons r t, .cons r' t' => by rw [r.inj r', Vals.inj t t']
section
variable {X : Cx} {pins : List (Addr × Obj)} {σ : St} {H : Hp} {s : Shared} {a : Addr} {xs ys : List V}
theorem SqL.of {K : PySem.W.Frag} (h : H a = some (.lst xs)) : SqL K H a xs := .inl (.inl h)
theorem SqT.of {K : PySem.W.Frag} (h : H a = some (.tup xs)) : SqT K H a xs := .inl (.inl h)
theorem Inv.list (I : Inv X pins σ H s) (h : SqL X.K H a xs) : ∃ its : List Value, Vals xs its ∧ PlainL s.heap a its.toArray ∧ xs.length ≤ sizeLine := by
 rcases h with h | ⟨o, its, n, hk, hc, hd, hs, hz, r⟩
 ·obtain ⟨z, its, n, r, e⟩ := h.ok I.hok
  exact ⟨its, r, ⟨_, n, e, rfl, rfl, rfl⟩, z⟩
 ·refine ⟨its.toList, r, ⟨o, n, I.kIn a o hk, hc, hd, by simpa using hs⟩, ?_⟩
  have e := r.length
  simp only [Array.length_toList] at e
  omega
theorem Inv.tuple (I : Inv X pins σ H s) (h : SqT X.K H a xs) : ∃ its : List Value, Vals xs its ∧ IsTup s.heap a its.toArray ∧ xs.length ≤ sizeLine := by
 rcases h with h | ⟨o, its, n, hk, hc, hs, hz, r⟩
 ·obtain ⟨z, its, r, p⟩ := h.ok I.hok
  exact ⟨its, r, p, z⟩
 ·refine ⟨its.toList, r, ⟨o, I.kIn a o hk, hc, n, by simpa using hs⟩, ?_⟩
  have e := r.length
  simp only [Array.length_toList] at e
  omega
theorem Inv.list_inj (I : Inv X pins σ H s) (h : SqL X.K H a xs) (h' : SqL X.K H a ys) : xs = ys := by
 obtain ⟨its, r, ⟨o, n, e, _, _, d⟩, _⟩ := I.list h
 obtain ⟨its', r', ⟨o', n', e', _, _, d'⟩, _⟩ := I.list h'
 rw [e] at e'; cases e'
 rw [d] at d'
 injection d' with d1 _
 have : its = its' := by simpa using congrArg Array.toList d1
 subst this
 exact r.inj r'
theorem Inv.tuple_inj (I : Inv X pins σ H s) (h : SqT X.K H a xs) (h' : SqT X.K H a ys) : xs = ys := by
 obtain ⟨its, r, ⟨o, e, _, n, d⟩, _⟩ := I.tuple h
 obtain ⟨its', r', ⟨o', e', _, n', d'⟩, _⟩ := I.tuple h'
 rw [e] at e'; cases e'
 rw [d] at d'
 injection d' with d1 _
 have : its = its' := by simpa using congrArg Array.toList d1
 subst this
 exact r.inj r'
end
abbrev Cx.wish (X : Cx) (E : Value → Shared → Prop) : Cx := { X with xe := E }
abbrev Cx.nox (X : Cx) : Cx := X.wish fun _ _ => False
theorem Cx.Ok.wish {X : Cx} (ok : X.Ok) (E : Value → Shared → Prop) : (X.wish E).Ok :=
 ⟨ok.mod, ok.kind, ok.glob, ok.blt, ok.above, ok.inj, ok.has, ok.cab, ok.hd, ok.frames, ok.stk, ok.exf, ok.bs, ok.bsz, ok.noex, ok.exfs, ok.funs, ok.frf⟩
theorem Cx.Ok.unwish {X : Cx} {E : Value → Shared → Prop} (ok : (X.wish E).Ok) : X.Ok :=
 ⟨ok.mod, ok.kind, ok.glob, ok.blt, ok.above, ok.inj, ok.has, ok.cab, ok.hd, ok.frames, ok.stk, ok.exf, ok.bs, ok.bsz, ok.noex, ok.exfs, ok.funs, ok.frf⟩
section
variable {X : Cx} {pins : List (Addr × Obj)} {σ : St} {H : Hp} {s : Shared} {E : Value → Shared → Prop}
theorem Inv.wish (I : Inv X pins σ H s) (E : Value → Shared → Prop) : Inv (X.wish E) pins σ H s := ⟨I.ok.wish E, I.os, I.bare, I.base, I.loc, I.cell, I.free, I.freeC, I.pin, I.hok, I.len⟩
theorem Inv.unwish (I : Inv (X.wish E) pins σ H s) : Inv X pins σ H s := ⟨I.ok.unwish, I.os, I.bare, I.base, I.loc, I.cell, I.free, I.freeC, I.pin, I.hok, I.len⟩
theorem SP.unwish {D : Ends} {f : Flow} {s' : Shared} (h : SP (X.wish E) pins D f s') : SP X pins D f s' := by
 cases f with
 | next => obtain ⟨σ', H', I, q⟩ := h; exact ⟨σ', H', I.unwish, q⟩
 | brk => obtain ⟨σ', H', I, q⟩ := h; exact ⟨σ', H', I.unwish, q⟩
 | cont => obtain ⟨σ', H', I, q⟩ := h; exact ⟨σ', H', I.unwish, q⟩
 | ret u => obtain ⟨v, σ', H', I, r, q⟩ := h; exact ⟨v, σ', H', I.unwish, r, q⟩
theorem PSs.nox {st : List Stmt} {t : TS} (h : PSs X.nox st t) : PSs X st t := fun pins s σ H D I hw =>
 wpAny_mono (h pins s σ H D (I.wish _) hw) (fun _ _ q => q.unwish) fun _ _ z => False.elim z
end
section
variable {X : Cx} {st : Stmt} {rest : List Stmt} {t u : TS} {e : Expr} {te : TE} {pos : Pos}
def tNext : TS := fun D σ H => D.nx σ H
def tSeq (t u : TS) : TS := fun D σ H => t { D with nx := u D } σ H
theorem aqm : PSs X [] tNext := fun _ _ σ H _ I h => wpAny_execs_nil ⟨σ, H, I, h⟩
theorem aqf (h1 : PS X st t) (h2 : PSs X rest u) : PSs X (st :: rest) (tSeq t u) := by
 intro pins s σ H D I h
 refine wpAny_execs_cons (thn (h1 pins s σ H { D with nx := u D } I h) fun f s1 q => ?_)
 cases f with
 | next =>
  obtain ⟨σ', H', I', q⟩ := q
  exact h2 pins s1 σ' H' D I' q
 | ret v => exact q
 | brk => exact q
 | cont => exact q
theorem aqe (h1 : PS X st t) : PSs X [st] t := by
 intro pins s σ H D I h
 refine wpAny_execs_cons (thn (h1 pins s σ H D I h) fun f s1 q => ?_)
 cases f with
 | next => exact wpAny_execs_nil q
 | ret v => exact q
 | brk => exact q
 | cont => exact q
def tBreak : TS := fun D σ H => D.bk σ H
theorem Inv.quiet {pins : List (Addr × Obj)} {σ : St} {H : Hp} {s : Shared} (I : Inv X pins σ H s) : interactive X.env = false := by simp [interactive, I.ok.kind]
def tDrop (te : TE) : TS := fun D σ H => te σ H fun _ H1 => D.nx σ H1
theorem gqc (he : PE X e te) (hs : swapsWith e none pos.line X.env = pure false := by rfl) : PS X (.Expr e pos) (tDrop te) := by
 intro pins s σ H D I h
 exact wpAny_Expr_any (thn (he pins s σ H _ I h) fun v s1 ⟨x, H1, I1, r1, q1⟩ => ⟨σ, H1, I1, q1⟩) I.quiet hs
def tRet (te : TE) : TS := fun D σ H => te σ H D.rt
theorem aql (he : PE X e te) : PS X (.Return (some e) pos) (tRet te) := by
 intro pins s σ H D I h
 exact wpAny_Return_some (thn (he pins s σ H _ I h) fun v s1 ⟨x, H1, I1, r1, q1⟩ => ⟨x, σ, H1, I1, r1, q1⟩)
def tIfS (c : TT) (t u : TS) : TS := fun D σ H => c σ H fun b H1 => if b = true then t D σ H1 else u D σ H1
theorem aqC {c : Expr} {a b : List Stmt} {tc : TT} (hc : PT X c tc) (ha : PSs X a t) (hb : PSs X b u) : PS X (.If c a b pos) (tIfS tc t u) := by
 intro pins s σ H D I h
 refine wpAny_If (thn (hc pins s σ H _ I h) fun d s1 W' => ?_)
 obtain ⟨H1, I1, q1⟩ := W'
 cases d with
 | true => exact ha pins s1 σ H1 D I1 q1
 | false => exact hb pins s1 σ H1 D I1 q1
def tNever : TS := fun _ _ _ => False
end
abbrev TG := V → St → Hp → (St → Hp → Prop) → Prop
abbrev TGs := List V → St → Hp → (St → Hp → Prop) → Prop
def PG (X : Cx) (target : Expr) (t : TG) : Prop :=
 ∀ (pins : List (Addr × Obj)) (s : Shared) (σ : St) (H : Hp) (v : V) (u : Value) (Q : St → Hp → Prop), Inv X pins σ H s → RelV v u → t v σ H Q →
  wpAny (model X.prog X.w) X.A (assign target X.env u) (fun _ s' => ∃ σ' H', Inv X pins σ' H' s' ∧ Q σ' H') X.xe s
def PGs (X : Cx) (ts : List Expr) (t : TGs) : Prop :=
 ∀ (pins : List (Addr × Obj)) (s : Shared) (σ : St) (H : Hp) (vs : List V) (us : List Value) (Q : St → Hp → Prop), Inv X pins σ H s → Vals vs us → t vs σ H Q →
  wpAny (model X.prog X.w) X.A (assignInOrder ((assignEach ts X.env).map (·.2)) us) (fun _ s' => ∃ σ' H', Inv X pins σ' H' s' ∧ Q σ' H') X.xe s
abbrev TSet := V → V → V → Hp → (Hp → Prop) → Prop
section
variable {X : Cx} {pos : Pos}
def gName (i : Nat) : TG := fun v σ H Q => Q (σ.set i (some v)) H
theorem bqN {i : Nat} {x : Str} (hN : X.N.Nodup) (hi : X.N[i]? = some x) (hx : Loc X.env.scope x) (hf : X.fn x = true ∨ X.env.scope.names.lookup x = some .local := by first | exact .inl rfl | exact .inr rfl | assumption) : PG X (.Name x pos) (gName i) := by
 intro pins s σ H v u Q I r h
 exact wpAny_assign_Name (jq5 I hN hi hx r (fun s' I' => ⟨_, H, I', h⟩) hf)
def gNil : TGs := fun vs σ H Q => vs = [] ∧ Q σ H
def gCons (t : TG) (u : TGs) : TGs := fun vs σ H Q => ∃ v r, vs = v :: r ∧ t v σ H fun σ' H' => u r σ' H' Q
theorem oqg : PGs X [] gNil := by
 intro pins s σ H vs us Q I r h
 obtain ⟨e, h⟩ := h
 subst e
 cases r
 exact assignInOrder_nil ⟨σ, H, I, h⟩
theorem dqk {e : Expr} {es : List Expr} {t : TG} {u : TGs} (h1 : PG X e t) (h2 : PGs X es u)
  (hs : (assignEach (e :: es) X.env).map (·.2) = assign e X.env :: (assignEach es X.env).map (·.2) := by rfl) : PGs X (e :: es) (gCons t u) := by
 intro pins s σ H vs us Q I r h
 obtain ⟨v, vr, e1, h⟩ := h
 subst e1
 cases r with
 | cons r rr =>
  rw [hs]
  refine assignInOrder_cons (thn (h1 pins s σ H _ _ _ I r h) fun _ s1 W' => ?_)
  obtain ⟨σ1, H1, I1, q1⟩ := W'
  exact h2 pins s1 σ1 H1 _ _ Q I1 rr q1
def gTup (K : PySem.W.Frag) (n : Nat) (t : TGs) : TG := fun v σ H Q => ∃ a xs, v = .ref a ∧ SqT K H a xs ∧ xs.length = n ∧ t xs σ H Q
theorem vq6 {es : List Expr} {k : Nat} {t : TGs} {n : Nat} (hc : X.calm = true) (h : PGs X es t)
  (hn : (assignEach es X.env).length = n := by rfl) (hst : (assignEach es X.env).findIdx? (·.1) = none := by rfl) : PG X (.Tuple es k pos) (gTup X.K n t) := by
 intro pins s σ H v u Q I r hw
 obtain ⟨a, xs, e1, hq, hl, hw⟩ := hw
 subst e1
 cases r
 obtain ⟨its, rv, ht, hz⟩ := I.tuple hq
 refine assign_Tuple_tuple (I.ok.hd hc) ht (by simp [hn, ← hl, rv.length]) hst fun h' hx => ?_
 have I1 : Inv X pins σ H { s with heap := h' } := I.kept (t' := s.toks) fun b o e => hx b o (Nat.ne_of_lt (Heap.lt_size e)) e
 exact h pins _ σ H xs _ Q I1 (by simpa using rv) hw
def gSub (to ti : TE) (t : TSet) : TG := fun v σ H Q => to σ H fun o H1 => ti σ H1 fun i H2 => t o i v H2 fun H3 => Q σ H3
def tAsg (te : TE) (g : TG) : TS := fun D σ H => te σ H fun x H1 => g x σ H1 D.nx
theorem tqC {tg e : Expr} {te : TE} {g : TG} (he : PE X e te) (hg : PG X tg g) (hs : swapsWithSole [tg] e pos.line X.env = pure false := by rfl) (hw : swappedStores [tg] e X.env = pure none := by rfl)
  (h1 : (assignEach [tg] X.env).map (·.2) = [assign tg X.env] := by rfl) : PS X (.Assign [tg] e pos) (tAsg te g) := by
 intro pins s σ H D I h
 refine wpAny_Assign_stores (thn (he pins s σ H _ I h) fun v s1 W' => ?_) hs hw
 obtain ⟨x, H1, I1, r1, q1⟩ := W'
 rw [h1]
 exact thn (hg pins s1 σ H1 x v _ I1 r1 q1) fun _ s2 q => q
theorem aqp {i : Nat} {x : Str} {e : Expr} {te : TE} {pos' : Pos} (hN : X.N.Nodup) (hi : X.N[i]? = some x) (hx : Loc X.env.scope x) (he : PE X e te) (hs : swapsWith e (some (.Name x pos')) pos.line X.env = pure false := by rfl) (hf : X.fn x = true ∨ X.env.scope.names.lookup x = some .local := by first | exact .inl rfl | exact .inr rfl | assumption) :
  PS X (.Assign [.Name x pos'] e pos) (tAsg te (gName i)) := by
 intro pins s σ H D I h
 refine wpAny_Assign_Name (thn (he pins s σ H _ I h) fun v s1 W' => ?_) hs
 obtain ⟨y, H1, I1, r1, q1⟩ := W'
 exact jq5 I1 hN hi hx r1 (fun s2 I2 => ⟨_, H1, I2, q1⟩) hf
end
section
variable {X : Cx} {pos : Pos}
def tWhile (c : TT) (tb : TS) : TS := fun D σ H => ∃ W : Nat → St → Hp → Prop, (∃ m, W m σ H) ∧ ∀ m σ H, W m σ H →
 c σ H fun b H1 => if b = true then ∃ N : St → Hp → Prop, (∀ σ' H', N σ' H' → ∃ m', m' < m ∧ W m' σ' H') ∧ tb { D with nx := N, ct := N, bk := D.nx } σ H1 else D.nx σ H1
theorem jq4 {c : Expr} {body : List Stmt} {tc : TT} {tb : TS} (hp : PassesOwn (model X.prog X.w) X.A X.env X.xe) (hc : PT X c tc) (hb : PSs X body tb) : PS X (.While c body [] pos) (tWhile tc tb) := by
 intro pins s σ H D I h
 obtain ⟨W, ⟨m0, w0⟩, turn⟩ := h
 refine wpAny_While (codeAny_whileLoop (fun n s' => ∃ σ' H', Inv X pins σ' H' s' ∧ W n σ' H') ?_ m0 ⟨σ, H, I, w0⟩)
 rintro n s1 ⟨σ1, H1, I1, w1⟩
 refine wpAny_passesOwn hp (thn (hc pins s1 σ1 H1 _ I1 (turn n σ1 H1 w1)) fun b s2 W' => ?_)
 obtain ⟨H2, I2, q2⟩ := W'
 cases b with
 | true =>
  obtain ⟨N, hN, q2⟩ := q2
  rw [if_pos rfl]
  refine wpAny_passesOwn hp (thn (hb pins s2 σ1 H2 _ I2 q2) fun f s3 q3 => ?_)
  cases f with
  | next =>
   obtain ⟨σ3, H3, I3, n3⟩ := q3
   obtain ⟨m', hm, w3⟩ := hN σ3 H3 n3
   exact ⟨m', hm, σ3, H3, I3, w3⟩
  | cont =>
   obtain ⟨σ3, H3, I3, n3⟩ := q3
   obtain ⟨m', hm, w3⟩ := hN σ3 H3 n3
   exact ⟨m', hm, σ3, H3, I3, w3⟩
  | brk => exact q3
  | ret v => exact q3
 | false =>
  rw [if_neg Bool.false_ne_true]
  exact wpAny_execs_nil ⟨σ1, H2, I2, q2⟩
end
structure It where
 go : Nat → Hp → Prop
 yld : Nat → Hp → V → Hp → Prop
 stop : Nat → Hp → Prop
def FpOk (X : Cx) (pins : List (Addr × Obj)) (H : Hp) (b : Addr) : Prop :=
 H b = none ∧ b ≠ X.env.locals ∧ b ∉ X.fs ∧ (b ∈ X.ex ∨ X.s₀.heap.objs.size ≤ b) ∧ (∀ x c, X.env.cells.lookup x = some c → c ≠ b) ∧ ∀ p ∈ X.pn ++ pins, p.1 ≠ b
theorem Inv.fpOk {X : Cx} {pins : List (Addr × Obj)} {σ : St} {H H' : Hp} {s : Shared} {b : Addr} (I : Inv X pins σ H s) (hb : s.heap.objs.size ≤ b) (hn : H' b = none) : FpOk X pins H' b := by
 refine ⟨hn, Nat.ne_of_gt (Nat.lt_of_lt_of_le I.lt hb), I.nofs hb, .inr (Nat.le_trans I.sz hb), fun x c e z => ?_, fun p hp z => ?_⟩
 ·obtain ⟨v, q⟩ := I.cell x c e
  exact absurd (Nat.lt_of_lt_of_le q.lt (by rw [z]; exact hb)) (Nat.lt_irrefl _)
 ·exact absurd (Nat.lt_of_lt_of_le (Heap.lt_size (I.pin p hp).1) (by rw [z]; exact hb)) (Nat.lt_irrefl _)
structure Turn (P : Program) (w : World) (K : PySem.W.Frag) (tg : Expr) (J : It) (fp : List Addr) (it : Addr) (tn : Nat → Heap → Prop) : Prop where
 mem : it ∈ fp
 obj : ∀ i h, tn i h → ∀ b ∈ fp, ∃ o, h.get? b = some o ∧ ∀ v, o.data ≠ .cell v
 keep : ∀ i h h', tn i h → (∀ b ∈ fp, ∀ o, h.get? b = some o → h'.get? b = some o) → tn i h'
 item : ∀ (X : Cx), X.prog = P → X.w = w → X.K = K → X.calm = true → ∀ (i : Nat) (pins : List (Addr × Obj)) (s : Shared) (σ : St) (H : Hp) (E : Value → Shared → Prop), Inv X pins σ H s → (∀ b ∈ fp, FpOk X pins H b) → tn i s.heap → J.go i H →
  wpAny (model P w) X.A (pyNext (.ref it)) (fun r s1 => ∃ u, r = some u ∧
   wpAny (model P w) X.A (letOwnedTupleGo tg (.ref it) u) (fun _ s2 => ∃ x H', Inv X pins σ H' s2 ∧ RelV x u ∧ J.yld i H x H' ∧ tn (i + 1) s2.heap ∧ ∀ b ∈ fp, H' b = none) E s1) E s
 done : ∀ (X : Cx), X.prog = P → X.w = w → X.K = K → X.calm = true → ∀ (i : Nat) (pins : List (Addr × Obj)) (s : Shared) (σ : St) (H : Hp) (E : Value → Shared → Prop), Inv X pins σ H s → (∀ b ∈ fp, FpOk X pins H b) → tn i s.heap → J.stop i H →
  wpAny (model P w) X.A (pyNext (.ref it)) (fun r s1 => r = none ∧ Inv X pins σ H s1) E s
 self : ∀ (A : Around) (i : Nat) (s : Shared) (Q : Value → Shared → Prop) (E : Value → Shared → Prop), tn i s.heap → Q (.ref it) s → wpAny (model P w) A (pyIter (.ref it)) Q E s
abbrev TI := St → Hp → (It → Hp → Prop) → Prop
def PIE (X : Cx) (pins : List (Addr × Obj)) (σ : St) (tg : Expr) (R : It → Hp → Prop) (itv : Value) (s2 : Shared) : Prop :=
 ∃ (it : Addr) (fp : List Addr) (tn : Nat → Heap → Prop) (J : It) (H' : Hp), itv = .ref it ∧ Inv X pins σ H' s2 ∧ Turn X.prog X.w X.K tg J fp it tn ∧ tn 0 s2.heap ∧ (∀ b ∈ fp, FpOk X pins H' b) ∧ R J H'
def PI (X : Cx) (tg iter : Expr) (wi : TI) : Prop :=
 ∀ (pins : List (Addr × Obj)) (s : Shared) (σ : St) (H : Hp) (R : It → Hp → Prop), Inv X pins σ H s → wi σ H R →
  wpAny (model X.prog X.w) X.A (eval iter X.env) (fun v s1 => wpAny (model X.prog X.w) X.A (pyIter v) (PIE X pins σ tg R) X.xe s1) X.xe s
theorem rqN {M : Model} {A : Around} {E : Value → Shared → Prop} {s : Shared} {tg : Expr} {it : Addr} {u : Value} {o : Obj} {n : String} {vs : Array Value} {Q : Unit → Shared → Prop} (ho : s.heap.get? it = some o) (hc : o.cls = .type n) (hd : o.data = .fields vs)
  (hn : ["enumerate", "zip", "dict_itemiterator", "dict_reverseitemiterator", "odict_iterator", "itertools.zip_longest", "itertools.pairwise"].contains n = false) (hQ : Q () s) : wpAny M A (letOwnedTupleGo tg (.ref it) u) Q E s := by
 unfold letOwnedTupleGo
 cases tg <;> first
  | exact wpAny_pure hQ
  | (cases u <;> first
    | exact wpAny_pure hQ
    | (refine wpAny_bind (wpAny_load ho ?_)
       rw [hc, hd]
       show wpAny M A (if (["enumerate", "zip", "dict_itemiterator", "dict_reverseitemiterator", "odict_iterator", "itertools.zip_longest", "itertools.pairwise"].contains n && vs[0]? == some (rawInt _)) = true then _ else _) Q E s
       rw [if_neg (by intro h; rw [hn, Bool.false_and] at h; cases h)]
       exact wpAny_pure hQ))
def Itl (K : PySem.W.Frag) (a : Addr) : It :=
 ⟨fun i H => ∃ xs x, SqL K H a xs ∧ xs[i]? = some x, fun i H x H' => H' = H ∧ ∀ xs, SqL K H a xs → xs[i]? = some x, fun i H => ∃ xs, SqL K H a xs ∧ xs.length ≤ i⟩
def Itt (K : PySem.W.Frag) (a : Addr) : It :=
 ⟨fun i H => ∃ xs x, SqT K H a xs ∧ xs[i]? = some x, fun i H x H' => H' = H ∧ ∀ xs, SqT K H a xs → xs[i]? = some x, fun i H => ∃ xs, SqT K H a xs ∧ xs.length ≤ i⟩
def Itr (lo : Int) (n : Nat) : It := ⟨fun i _ => i < n, fun i H x H' => H' = H ∧ x = .int (lo + i), fun i _ => n ≤ i⟩
theorem rqi {P : Program} {w : World} {K : PySem.W.Frag} {tg : Expr} (a it : Addr) : Turn P w K tg (Itl K a) [it] it (fun i h => h.IsListIter it a i) where
 mem := by simp
 obj := fun i h st b hb => by
  have e : b = it := by simpa using hb
  subst e
  obtain ⟨o, e, c, d⟩ := st
  exact ⟨o, e, fun v z => by rw [d] at z; cases z⟩
 keep := fun i h h' st k => st.at fun o e => k it (by simp) o e
 item := by
  intro X hP hw hK hc i pins s σ H E I hf st hg
  subst hP hw hK
  obtain ⟨xs, x, hq, hx⟩ := hg
  obtain ⟨its, rv, p, hz⟩ := I.list hq
  obtain ⟨u, hu, ru⟩ := rv.get hx
  obtain ⟨f0, f1, f2, f3, f4, f5⟩ := hf it (by simp)
  refine wpAny_pyNext_list_item st p.isList (x := u) (by simpa using hu) fun h' st' sb => ?_
  have I1 : Inv X pins σ H { s with heap := h' } := I.turned (t' := s.toks) (fun b o hb e => (sb.2 b hb).trans e) f0 f1 f3 f4 f5
  obtain ⟨o, e, c, d⟩ := id st'
  exact ⟨u, rfl, rqN (s := { s with heap := h' }) e c d (by decide) ⟨x, H, I1, ru, ⟨rfl, fun ys hy => by rw [I.list_inj hy hq]; exact hx⟩, st', fun b hb => (hf b hb).1⟩⟩
 done := by
  intro X hP hw hK hc i pins s σ H E I hf st hg
  subst hP hw hK
  obtain ⟨xs, hq, hx⟩ := hg
  obtain ⟨its, rv, p, hz⟩ := I.list hq
  obtain ⟨f0, f1, f2, f3, f4, f5⟩ := hf it (by simp)
  have hl := rv.length
  exact wpAny_pyNext_list_end (I.ok.hd hc) st p.isList (by simp; omega) fun h' eb => ⟨rfl, I.turned (t' := s.toks) (fun b o hb e => eb b o hb e) f0 f1 f3 f4 f5⟩
 self := fun _ _ _ _ _ st h => wpAny_pyIter_listiter st h
theorem pqC {P : Program} {w : World} {K : PySem.W.Frag} {tg : Expr} (a it : Addr) : Turn P w K tg (Itt K a) [it] it (fun i h => h.IsTupleIter it a i) where
 mem := by simp
 obj := fun i h st b hb => by
  have e : b = it := by simpa using hb
  subst e
  obtain ⟨o, e, c, d⟩ := st
  exact ⟨o, e, fun v z => by rw [d] at z; cases z⟩
 keep := fun i h h' st k => st.at fun o e => k it (by simp) o e
 item := by
  intro X hP hw hK hc i pins s σ H E I hf st hg
  subst hP hw hK
  obtain ⟨xs, x, hq, hx⟩ := hg
  obtain ⟨its, rv, p, hz⟩ := I.tuple hq
  obtain ⟨u, hu, ru⟩ := rv.get hx
  obtain ⟨f0, f1, f2, f3, f4, f5⟩ := hf it (by simp)
  refine wpAny_pyNext_tuple_item st (show s.heap.IsTuple a its.toArray from p) (x := u) (by simpa using hu) fun h' st' sb => ?_
  have I1 : Inv X pins σ H { s with heap := h' } := I.turned (t' := s.toks) (fun b o hb e => (sb.2 b hb).trans e) f0 f1 f3 f4 f5
  obtain ⟨o, e, c, d⟩ := id st'
  exact ⟨u, rfl, rqN (s := { s with heap := h' }) e c d (by decide) ⟨x, H, I1, ru, ⟨rfl, fun ys hy => by rw [I.tuple_inj hy hq]; exact hx⟩, st', fun b hb => (hf b hb).1⟩⟩
 done := by
  intro X hP hw hK hc i pins s σ H E I hf st hg
  subst hP hw hK
  obtain ⟨xs, hq, hx⟩ := hg
  obtain ⟨its, rv, p, hz⟩ := I.tuple hq
  obtain ⟨f0, f1, f2, f3, f4, f5⟩ := hf it (by simp)
  have hl := rv.length
  exact wpAny_pyNext_tuple_end (I.ok.hd hc) st (show s.heap.IsTuple a its.toArray from p) (by simp; omega) fun h' eb => ⟨rfl, I.turned (t' := s.toks) (fun b o hb e => eb b o hb e) f0 f1 f3 f4 f5⟩
 self := fun _ _ _ _ _ st h => wpAny_pyIter_tupleiter st h
theorem pqv {P : Program} {w : World} {K : PySem.W.Frag} {tg : Expr} (it : Addr) (lo : Int) (n : Nat) : Turn P w K tg (Itr lo n) [it] it (fun i h => IsRangeIter h it (lo + (i : Nat) * 1) ((n : Int) - (i : Nat)) 1) where
 mem := by simp
 obj := fun i h st b hb => by
  have e : b = it := by simpa using hb
  subst e
  exact ⟨_, st, fun v z => by
   have z' : Data.fields _ = Data.cell v := z
   cases z'⟩
 keep := fun i h h' st k => k it (by simp) _ st
 item := by
  intro X hP hw hK hc i pins s σ H E I hf st hg
  subst hP hw hK
  obtain ⟨f0, f1, f2, f3, f4, f5⟩ := hf it (by simp)
  have W := Walks.range (prog := X.prog) (w := X.w) (I.ok.hd hc) it lo 1 n
  refine W.item i s _ _ hg st fun v h' tk hv st' kk => ?_
  obtain ⟨t, rfl⟩ := hv
  have I1 : Inv X pins σ H { s with heap := h', toks := tk } := I.turned (fun b o hb e => kk b o (by simpa using hb) e) f0 f1 f3 f4 f5
  refine ⟨_, rfl, rqN (s := { s with heap := h', toks := tk }) (n := "range_iterator") st' rfl rfl (by decide) ⟨.int (lo + i), H, I1, ⟨t, ?_⟩, ⟨rfl, rfl⟩, st', fun b hb => (hf b hb).1⟩⟩
  rw [Int.mul_one]
 done := by
  intro X hP hw hK hc i pins s σ H E I hf st hg
  subst hP hw hK
  obtain ⟨f0, f1, f2, f3, f4, f5⟩ := hf it (by simp)
  exact wpAny_pyNext_range_end (I.ok.hd hc) st (by have : n ≤ i := hg; omega) fun h' eb => ⟨rfl, I.turned (t' := s.toks) (fun b o hb e => eb b o hb e) f0 f1 f3 f4 f5⟩
 self := fun _ _ _ _ _ st h => wpAny_pyIter_rangeiter st h
section
variable {X : Cx} {tg : Expr}
def iList (K : PySem.W.Frag) (tl : TE) : TI := fun σ H R => tl σ H fun x H1 => ∃ a, x = .ref a ∧ (∃ xs, SqL K H1 a xs) ∧ R (Itl K a) H1
def iTup (K : PySem.W.Frag) (tl : TE) : TI := fun σ H R => tl σ H fun x H1 => ∃ a, x = .ref a ∧ (∃ xs, SqT K H1 a xs) ∧ R (Itt K a) H1
theorem uqN {l : Expr} {tl : TE} (hl : PE X l tl) : PI X tg l (iList X.K tl) := by
 intro pins s σ H R I h
 refine thn (hl pins s σ H _ I h) fun v s1 W' => ?_
 obtain ⟨x, H1, I1, r1, q1⟩ := W'
 obtain ⟨a, e, ⟨xs, hq⟩, q⟩ := q1
 subst e
 cases r1
 obtain ⟨its, rv, p, hz⟩ := I1.list hq
 refine wpAny_pyIter_list p.isList ?_
 refine ⟨s1.heap.objs.size, [s1.heap.objs.size], _, _, H1, rfl, I1.kept (t' := s1.toks) fun b o e => Heap.get?_push_of_some _ e, rqi a _, ⟨_, Heap.get?_push_size _ rfl, rfl, rfl⟩, fun b hb => ?_, q⟩
 have e : b = s1.heap.objs.size := by simpa using hb
 subst e
 exact I1.fpOk (Nat.le_refl _) (I1.hok.fresh (Nat.le_refl _))
theorem vqH {l : Expr} {tl : TE} (hl : PE X l tl) : PI X tg l (iTup X.K tl) := by
 intro pins s σ H R I h
 refine thn (hl pins s σ H _ I h) fun v s1 W' => ?_
 obtain ⟨x, H1, I1, r1, q1⟩ := W'
 obtain ⟨a, e, ⟨xs, hq⟩, q⟩ := q1
 subst e
 cases r1
 obtain ⟨its, rv, p, hz⟩ := I1.tuple hq
 refine wpAny_pyIter_tuple (show s1.heap.IsTuple a its.toArray from p) ?_
 refine ⟨s1.heap.objs.size, [s1.heap.objs.size], _, _, H1, rfl, I1.kept (t' := s1.toks) fun b o e => Heap.get?_push_of_some _ e, pqC a _, ⟨_, Heap.get?_push_size _ rfl, rfl, rfl⟩, fun b hb => ?_, q⟩
 have e : b = s1.heap.objs.size := by simpa using hb
 subst e
 exact I1.fpOk (Nat.le_refl _) (I1.hok.fresh (Nat.le_refl _))
theorem sqZ {pins : List (Addr × Obj)} {σ : St} {H : Hp} {s : Shared} {R : It → Hp → Prop} {E : Value → Shared → Prop} {lo hi : Int} {t u v : Tok} {tk : Nat} (I : Inv X pins σ H s) (h1 : -(2 ^ 62) ≤ lo) (h2 : lo < 2 ^ 62) (h3 : -(2 ^ 62) ≤ hi) (h4 : hi < 2 ^ 62)
  (q : R (Itr lo (hi - lo).toNat) H) : wpAny (model X.prog X.w) X.A (pyIter (.ref s.heap.objs.size)) (PIE X pins σ tg R) E { s with heap := s.heap.push { cls := .type "range", data := .fields #[.int lo t, .int hi u, .int 1 v] }, toks := tk } := by
 refine wpAny_pyIter_range (IsRange.new ..) (small_one h1 h2 h3 h4) ?_
 have I1 : Inv X pins σ H { s with heap := s.heap.push { cls := .type "range", data := .fields #[.int lo t, .int hi u, .int 1 v] }, toks := tk } := I.kept fun b o e => Heap.get?_push_of_some _ e
 refine ⟨(s.heap.push { cls := .type "range", data := .fields #[.int lo t, .int hi u, .int 1 v] }).objs.size, [(s.heap.push { cls := .type "range", data := .fields #[.int lo t, .int hi u, .int 1 v] }).objs.size], _, _, H, rfl,
  I1.kept (t' := tk) fun b o e => Heap.get?_push_of_some _ e, pqv _ lo (hi - lo).toNat, ?_, fun b hb => ?_, q⟩
 ·have e1 : lo + ((0 : Nat) : Int) * 1 = lo := by simp
  have e2 : (((hi - lo).toNat : Nat) : Int) - ((0 : Nat) : Int) = Builtin.Range.rangeSize lo hi 1 := by rw [rangeSize_one]; split <;> omega
  show IsRangeIter _ _ (lo + ((0 : Nat) : Int) * 1) ((((hi - lo).toNat : Nat) : Int) - ((0 : Nat) : Int)) 1
  rw [e1, e2]
  exact Heap.get?_push_size _ rfl
 ·have e : b = (s.heap.push { cls := .type "range", data := .fields #[.int lo t, .int hi u, .int 1 v] }).objs.size := by simpa using hb
  subst e
  exact I1.fpOk (Nat.le_refl _) (I1.hok.fresh (Nat.le_refl _))
def iRng1 (ta : TA) : TI := fun σ H R => ta σ H fun vs H1 => ∃ j : Int, vs = [.int j] ∧ -(2 ^ 62) ≤ j ∧ j < 2 ^ 62 ∧ R (Itr 0 j.toNat) H1
theorem iqJ {a : Expr} {ta : TA} {p pos : Pos} (hg : Gl X "range") (hm : X.mg "range" = none) (ha : PA X [a] ta) (hs : starEach [a] X.env = [(false, eval a X.env)] := by rfl) : PI X tg (.Call (.Name "range" p) [a] [] pos) (iRng1 ta) := by
 intro pins s σ H R I h
 refine Call_ (pqs I hg hm boot_range (PyProof.Rows.callWith_type1 (thn (ha pos pins s σ H _ I h) fun us s1 W' => ?_) hs rfl))
 obtain ⟨vs, H1, I1, r1, q1⟩ := W'
 obtain ⟨j, e, q1, q2, q⟩ := q1
 subst e
 cases r1 with
 | cons r rr =>
  cases rr
  obtain ⟨t, rfl⟩ := r
  exact call_range_1 (sqZ I1 (by omega) (by omega) q1 q2 (by simpa using q))
def tFor (wi : TI) (g : TG) (tb : TS) : TS := fun D σ H => wi σ H fun J H1 => ∃ W : Nat → Nat → St → Hp → Prop, (∃ m, W 0 m σ H1) ∧ ∀ i m σ H, W i m σ H →
 (J.stop i H ∧ D.nx σ H) ∨ (J.go i H ∧ ∃ N : St → Hp → Prop, (∀ σ' H', N σ' H' → ∃ m', m' < m ∧ W (i + 1) m' σ' H') ∧ ∀ x H', J.yld i H x H' → g x σ H' fun σ2 H2 => tb { D with nx := N, ct := N, bk := D.nx } σ2 H2)
def pinsAt (fp : List Addr) (h : Heap) : List (Addr × Obj) := fp.filterMap fun b => (h.get? b).map fun o => (b, o)
theorem hqx {fp : List Addr} {h : Heap} {b : Addr} {o : Obj} (hb : b ∈ fp) (e : h.get? b = some o) : (b, o) ∈ pinsAt fp h := List.mem_filterMap.mpr ⟨b, hb, by rw [e]; rfl⟩
theorem qqe {fp : List Addr} {h : Heap} {p : Addr × Obj} (hp : p ∈ pinsAt fp h) : p.1 ∈ fp ∧ h.get? p.1 = some p.2 := by
 obtain ⟨b, hb, e⟩ := List.mem_filterMap.mp hp
 cases q : h.get? b with
 | none => rw [q] at e; cases e
 | some o =>
  rw [q] at e
  have e' : (b, o) = p := Option.some.inj e
  subst e'
  exact ⟨hb, q⟩
theorem Inv.pinned {pins : List (Addr × Obj)} {σ : St} {H : Hp} {s : Shared} {fp : List Addr} (I : Inv X pins σ H s) (hf : ∀ b ∈ fp, FpOk X pins H b) (ho : ∀ b ∈ fp, ∃ o, s.heap.get? b = some o ∧ ∀ v, o.data ≠ .cell v) : Inv X (pins ++ pinsAt fp s.heap) σ H s :=
 I.pins_of fun p hp => (List.mem_append.mp hp).elim (fun z => I.pin p (List.mem_append_right _ z)) fun z => by
  obtain ⟨hb, e⟩ := qqe z
  obtain ⟨f0, f1, f2, _⟩ := hf p.1 hb
  obtain ⟨o, e', d⟩ := ho p.1 hb
  rw [e] at e'; cases e'
  exact ⟨e, f0, f1, f2, d⟩
theorem Inv.unpinned {pins pl : List (Addr × Obj)} {σ : St} {H : Hp} {s : Shared} (I : Inv X (pins ++ pl) σ H s) : Inv X pins σ H s := I.pins_of fun p hp => I.pin p (List.mem_append_right _ (List.mem_append_left _ hp))
theorem kqV {iter : Expr} {body : List Stmt} {wi : TI} {g : TG} {tb : TS} {pos : Pos} (hp : PassesOwn (model X.prog X.w) X.A X.env X.xe) (hc : X.calm = true) (hi : PI X tg iter wi) (hg : PG X tg g) (hb : PSs X body tb)
  (hs : ∀ x, foldedSetIterable iter X.env x = pure x := by intro _; rfl) : PS X (.For tg iter body [] pos) (tFor wi g tb) := by
 intro pins s σ H D I h
 refine wpAny_For (thn (hi pins s σ H _ I h) fun v s1 h1 => thn h1 fun itv s2 h2 => ?_) hs
 obtain ⟨it, fp, tn, J, H2, e, I2, T, st2, f2, W, ⟨m0, w0⟩, turn⟩ := h2
 subst e
 have stat : ∀ {H' : Hp}, (∀ b ∈ fp, H' b = none) → ∀ b ∈ fp, FpOk X pins H' b := fun hn b hb => ⟨hn b hb, (f2 b hb).2⟩
 refine codeAny_forLoop_any (fun n s' => ∃ i σ' H', Inv X pins σ' H' s' ∧ tn i s'.heap ∧ (∀ b ∈ fp, H' b = none) ∧ W i n σ' H') ?_ m0 ⟨0, σ, H2, I2, st2, fun b hb => (f2 b hb).1, w0⟩
 rintro n s3 ⟨i, σ3, H3, I3, st3, fr3, w3⟩
 rcases turn i n σ3 H3 w3 with ⟨stop, qn⟩ | ⟨go, N, hN, step⟩
 ·refine wpAny_passesOwn hp (thn (T.done X rfl rfl rfl hc i pins s3 σ3 H3 X.xe I3 (stat fr3) st3 stop) fun r s4 W' => ?_)
  obtain ⟨hr, I4⟩ := W'
  subst hr
  exact wpAny_execs_nil ⟨σ3, H3, I4, qn⟩
 ·refine wpAny_passesOwn hp (thn (T.item X rfl rfl rfl hc i pins s3 σ3 H3 X.xe I3 (stat fr3) st3 go) fun r s4 W' => ?_)
  obtain ⟨u, hr, h4⟩ := W'
  subst hr
  refine wpAny_passesOwn hp (thn h4 fun _ s5 W' => ?_)
  obtain ⟨x, H5, I5, r5, y5, st5, fr5⟩ := W'
  have I5' := I5.pinned (stat fr5) (T.obj _ _ st5)
  refine wpAny_passesOwn hp (thn (hg _ s5 σ3 H5 x u _ I5' r5 (step x H5 y5)) fun _ s6 W' => ?_)
  obtain ⟨σ6, H6, I6, q6⟩ := W'
  refine wpAny_passesOwn hp (thn (hb _ s6 σ6 H6 _ I6 q6) fun f s7 q7 => ?_)
  have again : ∀ {σ7 : St} {H7 : Hp}, Inv X (pins ++ pinsAt fp s5.heap) σ7 H7 s7 → N σ7 H7 → ∃ m, m < n ∧ ∃ i σ' H', Inv X pins σ' H' s7 ∧ tn i s7.heap ∧ (∀ b ∈ fp, H' b = none) ∧ W i m σ' H' := fun {σ7 H7} I7 n7 => by
   obtain ⟨m', hm, w7⟩ := hN σ7 H7 n7
   refine ⟨m', hm, i + 1, σ7, H7, I7.unpinned, T.keep _ _ _ st5 fun b hb o e => (I7.pin (b, o) (List.mem_append_right _ (List.mem_append_right _ (hqx hb e)))).1, fun b hb => ?_, w7⟩
   obtain ⟨o, e, d⟩ := T.obj _ _ st5 b hb
   exact (I7.pin (b, o) (List.mem_append_right _ (List.mem_append_right _ (hqx hb e)))).2.1
  cases f with
  | next => obtain ⟨σ7, H7, I7, n7⟩ := q7; exact again I7 n7
  | cont => obtain ⟨σ7, H7, I7, n7⟩ := q7; exact again I7 n7
  | brk => obtain ⟨σ7, H7, I7, q7⟩ := q7; exact ⟨σ7, H7, I7.unpinned, q7⟩
  | ret v => obtain ⟨x7, σ7, H7, I7, r7, q7⟩ := q7; exact ⟨x7, σ7, H7, I7.unpinned, r7, q7⟩
end
theorem sqS {K : PySem.W.Frag} {a : Addr} {xs : List V} {g : TG} {tb : TS} {D : Ends} {σ : St} {H : Hp} (Pv : Nat → St → Hp → Prop) (h0 : Pv 0 σ H) (hl : ∀ i σ H, i ≤ xs.length → Pv i σ H → SqL K H a xs)
  (hs : ∀ i x σ H, xs[i]? = some x → Pv i σ H → g x σ H fun σ2 H2 => tb { D with nx := Pv (i + 1), ct := Pv (i + 1), bk := D.nx } σ2 H2) (hd : ∀ σ H, Pv xs.length σ H → D.nx σ H) :
  ∃ W : Nat → Nat → St → Hp → Prop, (∃ m, W 0 m σ H) ∧ ∀ i m σ H, W i m σ H →
   ((Itl K a).stop i H ∧ D.nx σ H) ∨ ((Itl K a).go i H ∧ ∃ N : St → Hp → Prop, (∀ σ' H', N σ' H' → ∃ m', m' < m ∧ W (i + 1) m' σ' H') ∧ ∀ x H', (Itl K a).yld i H x H' → g x σ H' fun σ2 H2 => tb { D with nx := N, ct := N, bk := D.nx } σ2 H2) := by
 refine ⟨fun i m σ H => m = xs.length - i ∧ i ≤ xs.length ∧ Pv i σ H, ⟨xs.length, by simp, Nat.zero_le _, h0⟩, ?_⟩
 rintro i m σ H ⟨rfl, hi, p⟩
 have q := hl i σ H hi p
 by_cases hlt : i < xs.length
 ·refine .inr ⟨⟨xs, xs[i], q, by simp [hlt]⟩, Pv (i + 1), fun σ' H' p' => ⟨xs.length - (i + 1), by omega, rfl, hlt, p'⟩, fun x H' y => ?_⟩
  obtain ⟨e, y⟩ := y
  subst e
  exact hs i x σ _ (y xs q) p
 ·have e : i = xs.length := by omega
  subst e
  exact .inl ⟨⟨xs, q, Nat.le_refl _⟩, hd σ H p⟩
theorem qqg {lo : Int} {n : Nat} {g : TG} {tb : TS} {D : Ends} {σ : St} {H : Hp} (Pv : Nat → St → Hp → Prop) (h0 : Pv 0 σ H)
  (hs : ∀ i σ H, i < n → Pv i σ H → g (.int (lo + i)) σ H fun σ2 H2 => tb { D with nx := Pv (i + 1), ct := Pv (i + 1), bk := D.nx } σ2 H2) (hd : ∀ σ H, Pv n σ H → D.nx σ H) :
  ∃ W : Nat → Nat → St → Hp → Prop, (∃ m, W 0 m σ H) ∧ ∀ i m σ H, W i m σ H →
   ((Itr lo n).stop i H ∧ D.nx σ H) ∨ ((Itr lo n).go i H ∧ ∃ N : St → Hp → Prop, (∀ σ' H', N σ' H' → ∃ m', m' < m ∧ W (i + 1) m' σ' H') ∧ ∀ x H', (Itr lo n).yld i H x H' → g x σ H' fun σ2 H2 => tb { D with nx := N, ct := N, bk := D.nx } σ2 H2) := by
 refine ⟨fun i m σ H => m = n - i ∧ i ≤ n ∧ Pv i σ H, ⟨n, by simp, Nat.zero_le _, h0⟩, ?_⟩
 rintro i m σ H ⟨rfl, hi, p⟩
 by_cases hlt : i < n
 ·refine .inr ⟨hlt, Pv (i + 1), fun σ' H' p' => ⟨n - (i + 1), by omega, rfl, hlt, p'⟩, fun x H' y => ?_⟩
  obtain ⟨e, y⟩ := y
  subst e y
  exact hs i σ _ hlt p
 ·have e : i = n := by omega
  subst e
  exact .inl ⟨Nat.le_refl _, hd σ H p⟩
abbrev R2 := V → V → Hp → VK → Prop
def OpR (X : Cx) (f : Value → Value → Sem Value) (r : R2) : Prop :=
 ∀ (pins : List (Addr × Obj)) (s : Shared) (σ : St) (H : Hp) (x y : V) (v u : Value) (Q : VK), Inv X pins σ H s → RelV x v → RelV y u → r x y H Q →
  wpAny (model X.prog X.w) X.A (f v u) (EP X pins σ Q) X.xe s
def UnR (X : Cx) (f : Value → Sem Value) (r : V → Hp → VK → Prop) : Prop :=
 ∀ (pins : List (Addr × Obj)) (s : Shared) (σ : St) (H : Hp) (x : V) (v : Value) (Q : VK), Inv X pins σ H s → RelV x v → r x H Q →
  wpAny (model X.prog X.w) X.A (f v) (EP X pins σ Q) X.xe s
def CallR (X : Cx) (f : Value) (r : List V → Hp → VK → Prop) : Prop :=
 ∀ (pins : List (Addr × Obj)) (s : Shared) (σ : St) (H : Hp) (xs : List V) (us : List Value) (Q : VK), Inv X pins σ H s → Vals xs us → r xs H Q →
  wpAny (model X.prog X.w) X.A (call f us) (EP X pins σ Q) X.xe s
def tOp (r : R2) (ta tb : TE) : TE := fun σ H Q => ta σ H fun x H1 => tb σ H1 fun y H2 => r x y H2 Q
def tUn (r : V → Hp → VK → Prop) (ta : TE) : TE := fun σ H Q => ta σ H fun x H1 => r x H1 Q
def rI (C : Int → Int → Prop) (g : Int → Int → V) : R2 := fun x y H Q => ∃ i j, x = .int i ∧ y = .int j ∧ C i j ∧ Q (g i j) H
def rI0 (g : Int → Int → V) : R2 := fun x y H Q => ∃ i j, x = .int i ∧ y = .int j ∧ Q (g i j) H
def rU (g : Int → V) : V → Hp → VK → Prop := fun x H Q => ∃ i, x = .int i ∧ Q (g i) H
section
variable {X : Cx} {a b c : Expr} {ta tb tc : TE} {pos : Pos}
theorem binT (ha : PE X a ta) (hb : PE X b tb) {pins : List (Addr × Obj)} {s : Shared} {σ : St} {H : Hp} {R : V → V → Hp → Prop} (I : Inv X pins σ H s)
  (h : ta σ H fun x H1 => tb σ H1 fun y H2 => R x y H2) {Q : Value → Shared → Prop} {f : Value → Value → Sem Value}
  (hf : ∀ v u s2 x y H2, Inv X pins σ H2 s2 → RelV x v → RelV y u → R x y H2 → wpAny (model X.prog X.w) X.A (f v u) Q X.xe s2) :
  wpAny (model X.prog X.w) X.A (eval a X.env) (fun v s₁ => wpAny (model X.prog X.w) X.A (eval b X.env) (fun u s₂ => wpAny (model X.prog X.w) X.A (f v u) Q X.xe s₂) X.xe s₁) X.xe s := by
 refine thn (ha pins s σ H _ I h) fun v s1 W' => ?_
 obtain ⟨x, H1, I1, r1, q1⟩ := W'
 refine thn (hb pins s1 σ H1 _ I1 q1) fun u s2 W' => ?_
 obtain ⟨y, H2, I2, r2, q2⟩ := W'
 exact hf v u s2 x y H2 I2 r1 r2 q2
theorem aqN {op : Operator} {r : R2} (ho : OpR X (binaryOp op) r) (ha : PE X a ta) (hb : PE X b tb) : PE X (.BinOp a op b pos) (tOp r ta tb) := by
 intro pins s σ H Q I h
 exact wpAny_BinOp (binT ha hb I h fun v u s2 x y H2 I2 rx ry q => ho pins s2 σ H2 x y v u Q I2 rx ry q)
theorem lq3 {op : UnaryOp} {r : V → Hp → VK → Prop} (ho : UnR X (unaryOp op) r) (ha : PE X a ta) : PE X (.UnaryOp op a pos) (tUn r ta) := by
 intro pins s σ H Q I h
 exact UnaryOp_ (thn (ha pins s σ H _ I h) fun v s1 ⟨x, H1, I1, r1, q1⟩ => ho pins s1 σ H1 x v Q I1 r1 q1)
theorem opI {f : Value → Value → Sem Value} {C : Int → Int → Prop} {g : Int → Int → Int}
  (rule : ∀ (i j : Int) (t u : Tok) (s : Shared) (Q : Value → Shared → Prop) (E : Value → Shared → Prop), C i j → Q (.int (g i j) s.toks) { s with toks := s.toks + 1 } → wpAny (model X.prog X.w) X.A (f (.int i t) (.int j u)) Q E s) :
  OpR X f (rI C fun i j => .int (g i j)) := by
 intro pins s σ H x y v u Q I rx ry h
 obtain ⟨i, j, rfl, rfl, hc, q⟩ := h
 obtain ⟨t, rfl⟩ := rx
 obtain ⟨t', rfl⟩ := ry
 exact rule i j t t' s _ _ hc ⟨.int (g i j), H, I.tok _, ⟨_, rfl⟩, q⟩
theorem opI0 {f : Value → Value → Sem Value} {g : Int → Int → Int}
  (rule : ∀ (i j : Int) (t u : Tok) (s : Shared) (Q : Value → Shared → Prop) (E : Value → Shared → Prop), Q (.int (g i j) s.toks) { s with toks := s.toks + 1 } → wpAny (model X.prog X.w) X.A (f (.int i t) (.int j u)) Q E s) :
  OpR X f (rI0 fun i j => .int (g i j)) := by
 intro pins s σ H x y v u Q I rx ry h
 obtain ⟨i, j, rfl, rfl, q⟩ := h
 obtain ⟨t, rfl⟩ := rx
 obtain ⟨t', rfl⟩ := ry
 exact rule i j t t' s _ _ ⟨.int (g i j), H, I.tok _, ⟨_, rfl⟩, q⟩
theorem opB0 {f : Value → Value → Sem Value} {g : Int → Int → Bool}
  (rule : ∀ (i j : Int) (t u : Tok) (s : Shared) (Q : Value → Shared → Prop) (E : Value → Shared → Prop), Q (.bool (g i j)) s → wpAny (model X.prog X.w) X.A (f (.int i t) (.int j u)) Q E s) :
  OpR X f (rI0 fun i j => .bl (g i j)) := by
 intro pins s σ H x y v u Q I rx ry h
 obtain ⟨i, j, rfl, rfl, q⟩ := h
 obtain ⟨t, rfl⟩ := rx
 obtain ⟨t', rfl⟩ := ry
 exact rule i j t t' s _ _ ⟨.bl (g i j), H, I, rfl, q⟩
def CDiv (i j : Int) : Prop := 0 < j ∧ j < 1073741824
def CMul (i j : Int) : Prop := (-(2 ^ 64) < i ∧ i < 2 ^ 64) ∨ (-(2 ^ 64) < j ∧ j < 2 ^ 64)
theorem CMul.ok {i j : Int} (h : CMul i j) : IntMulOk i j := by
 rcases h with ⟨h1, h2⟩ | ⟨h1, h2⟩
 ·exact .of_left (intBits_le_64 h1 h2)
 ·exact .of_right (intBits_le_64 h1 h2)
theorem wqg : OpR X (binaryOp .Add) (rI0 fun i j => .int (i + j)) := opI0 fun _ _ _ _ _ _ _ q => add_int q
theorem tqz : OpR X (binaryOp .Sub) (rI0 fun i j => .int (i - j)) := opI0 fun _ _ _ _ _ _ _ q => sub_int q
theorem wqU : OpR X (binaryOp .Mult) (rI CMul fun i j => .int (i * j)) := opI fun _ _ _ _ _ _ _ hc q => mul_int q hc.ok
theorem oqq : OpR X (binaryOp .FloorDiv) (rI CDiv fun i j => .int (i / j)) := opI fun i j _ _ _ _ _ hc q => by
 have h1 : (0 : Int) < j := hc.1
 have h2 : j < 1073741824 := hc.2
 exact floordiv_int (by omega) (by rw [Int.fdiv_eq_ediv_of_nonneg i (by omega)]; exact q) (.inl (PyProof.noPylong_small (by omega)))
theorem kqK : OpR X (binaryOp .Mod) (rI (fun _ j => 0 < j) fun i j => .int (i % j)) := opI fun i j _ _ _ _ _ hc q => by
 have h1 : (0 : Int) < j := hc
 exact mod_int' (by omega) (by rw [Int.fmod_eq_emod_of_nonneg i (by omega)]; exact q)
theorem unI {f : Value → Sem Value} {g : Int → Int}
  (rule : ∀ (i : Int) (t : Tok) (s : Shared) (Q : Value → Shared → Prop) (E : Value → Shared → Prop), Q (.int (g i) s.toks) { s with toks := s.toks + 1 } → wpAny (model X.prog X.w) X.A (f (.int i t)) Q E s) :
  UnR X f (rU fun i => .int (g i)) := by
 intro pins s σ H x v Q I rx h
 obtain ⟨i, rfl, q⟩ := h
 obtain ⟨t, rfl⟩ := rx
 exact rule i t s _ _ ⟨.int (g i), H, I.tok _, ⟨_, rfl⟩, q⟩
theorem iqz : UnR X (unaryOp .USub) (rU fun i => .int (-i)) := unI fun _ _ _ _ _ q => neg_int q
end
def scal : V → V → Bool
 | .non, .non => true | .non, .int _ => true | .int _, .non => true | .non, .bl _ => true | .bl _, .non => true | .non, .str _ => true | .str _, .non => true
 | .int _, .int _ => true | .bl _, .bl _ => true | .str _, .str _ => true | .byt _, .byt _ => true
 | .int _, .str _ => true | .str _, .int _ => true | .bl _, .str _ => true | .str _, .bl _ => true
 | _, _ => false
def rEq : R2 := fun x y H Q => scal x y = true ∧ Q (.bl (decide (x = y))) H
def rNe : R2 := fun x y H Q => scal x y = true ∧ Q (.bl (!decide (x = y))) H
theorem qqm {i j : Int} : decide (V.int i = V.int j) = (i == j) := by
 rw [Bool.eq_iff_iff]
 simp
theorem sq3 {i j : Bool} : decide (V.bl i = V.bl j) = (i == j) := by
 rw [Bool.eq_iff_iff]
 simp
theorem rqP {i j : Str} : decide (V.str i = V.str j) = (i == j) := by
 rw [Bool.eq_iff_iff]
 simp
theorem rqj {i j : Array UInt8} : decide (V.byt i = V.byt j) = (i.toList == j.toList) := by
 rw [Bool.eq_iff_iff]
 cases i
 cases j
 simp
section
variable {X : Cx} {a b c : Expr} {ta tb tc : TE} {pos : Pos}
theorem aq0 {pins : List (Addr × Obj)} {σ : St} {H : Hp} {s : Shared} {Q : VK} {k k' : Bool} (I : Inv X pins σ H s) (q : Q (.bl k) H) (e : k = k') : EP X pins σ Q (.bool k') s := by
 subst e
 exact ⟨.bl k, H, I, rfl, q⟩
theorem dq2 : OpR X (compareOp .Eq) rEq := by
 intro pins s σ H x y v u Q I rx ry h
 obtain ⟨hs, q⟩ := h
 cases x with
 | non =>
  cases rx
  cases y with
  | non => cases ry; exact PySem.EqNone.eq_none_none (aq0 I q (by simp))
  | bl j => cases ry; exact PySem.EqNone.eq_none_bool (aq0 I q (by simp))
  | int j => obtain ⟨t', rfl⟩ := ry; exact PySem.EqNone.eq_none_int (aq0 I q (by simp))
  | str j => obtain ⟨t', rfl⟩ := ry; exact PySem.EqNone.eq_none_str (aq0 I q (by simp))
  | _ => exact absurd (show false = true from hs) Bool.false_ne_true
 | bl i =>
  cases rx
  cases y with
  | non => cases ry; exact PySem.EqNone.eq_bool_none (aq0 I q (by simp))
  | bl j => cases ry; exact eq_bool (aq0 I q sq3)
  | str j => obtain ⟨t', rfl⟩ := ry; exact PySem.EqMixed.eq_bool_str (aq0 I q (by simp))
  | _ => exact absurd (show false = true from hs) Bool.false_ne_true
 | int i =>
  obtain ⟨t, rfl⟩ := rx
  cases y with
  | non => cases ry; exact PySem.EqNone.eq_int_none (aq0 I q (by simp))
  | int j => obtain ⟨t', rfl⟩ := ry; exact eq_int (aq0 I q qqm)
  | str j => obtain ⟨t', rfl⟩ := ry; exact PySem.EqMixed.eq_int_str (aq0 I q (by simp))
  | _ => exact absurd (show false = true from hs) Bool.false_ne_true
 | str i =>
  obtain ⟨t, rfl⟩ := rx
  cases y with
  | non => cases ry; exact PySem.EqNone.eq_str_none (aq0 I q (by simp))
  | bl j => cases ry; exact PySem.EqMixed.eq_str_bool (aq0 I q (by simp))
  | int j => obtain ⟨t', rfl⟩ := ry; exact PySem.EqMixed.eq_str_int (aq0 I q (by simp))
  | str j => obtain ⟨t', rfl⟩ := ry; exact eq_str (aq0 I q rqP)
  | _ => exact absurd (show false = true from hs) Bool.false_ne_true
 | byt i =>
  obtain ⟨t, rfl⟩ := rx
  cases y with
  | byt j => obtain ⟨t', rfl⟩ := ry; exact PySem.W.eq_bytes (aq0 I q rqj)
  | _ => exact absurd (show false = true from hs) Bool.false_ne_true
 | _ => cases y <;> exact absurd (show false = true from hs) Bool.false_ne_true
theorem kqr : OpR X (compareOp .NotEq) rNe := by
 intro pins s σ H x y v u Q I rx ry h
 obtain ⟨hs, q⟩ := h
 cases x with
 | non =>
  cases rx
  cases y with
  | non => cases ry; exact PySem.EqNone.ne_none_none (aq0 I q (by simp))
  | bl j => cases ry; exact PySem.EqNone.ne_none_bool (aq0 I q (by simp))
  | int j => obtain ⟨t', rfl⟩ := ry; exact PySem.EqNone.ne_none_int (aq0 I q (by simp))
  | str j => obtain ⟨t', rfl⟩ := ry; exact PySem.EqNone.ne_none_str (aq0 I q (by simp))
  | _ => exact absurd (show false = true from hs) Bool.false_ne_true
 | bl i =>
  cases rx
  cases y with
  | non => cases ry; exact PySem.EqNone.ne_bool_none (aq0 I q (by simp))
  | bl j => cases ry; exact ne_bool (aq0 I q (congrArg not sq3))
  | str j => obtain ⟨t', rfl⟩ := ry; exact PySem.EqMixed.ne_bool_str (aq0 I q (by simp))
  | _ => exact absurd (show false = true from hs) Bool.false_ne_true
 | int i =>
  obtain ⟨t, rfl⟩ := rx
  cases y with
  | non => cases ry; exact PySem.EqNone.ne_int_none (aq0 I q (by simp))
  | int j => obtain ⟨t', rfl⟩ := ry; exact ne_int (aq0 I q (congrArg not qqm))
  | str j => obtain ⟨t', rfl⟩ := ry; exact PySem.EqMixed.ne_int_str (aq0 I q (by simp))
  | _ => exact absurd (show false = true from hs) Bool.false_ne_true
 | str i =>
  obtain ⟨t, rfl⟩ := rx
  cases y with
  | non => cases ry; exact PySem.EqNone.ne_str_none (aq0 I q (by simp))
  | bl j => cases ry; exact PySem.EqMixed.ne_str_bool (aq0 I q (by simp))
  | int j => obtain ⟨t', rfl⟩ := ry; exact PySem.EqMixed.ne_str_int (aq0 I q (by simp))
  | str j => obtain ⟨t', rfl⟩ := ry; exact ne_str (aq0 I q (congrArg not rqP))
  | _ => exact absurd (show false = true from hs) Bool.false_ne_true
 | byt i =>
  obtain ⟨t, rfl⟩ := rx
  cases y with
  | byt j => obtain ⟨t', rfl⟩ := ry; exact PySem.W.ne_bytes (aq0 I q (congrArg not rqj))
  | _ => exact absurd (show false = true from hs) Bool.false_ne_true
 | _ => cases y <;> exact absurd (show false = true from hs) Bool.false_ne_true
theorem mqB : OpR X (compareOp .Lt) (rI0 fun i j => .bl (decide (i < j))) := opB0 fun _ _ _ _ _ _ _ q => lt_int q
theorem qqp : OpR X (compareOp .LtE) (rI0 fun i j => .bl (decide (i ≤ j))) := opB0 fun _ _ _ _ _ _ _ q => le_int q
theorem kqO : OpR X (compareOp .Gt) (rI0 fun i j => .bl (decide (j < i))) := opB0 fun _ _ _ _ _ _ _ q => gt_int q
theorem qqb : OpR X (compareOp .In) (fun x y H Q => ∃ i j, x = .str i ∧ y = .str j ∧ Q (.bl (!(Builtin.Str.occurrences j i 0 j.length 1).isEmpty)) H) := by
 intro pins s σ H x y v u Q I rx ry h
 obtain ⟨i, j, rfl, rfl, q⟩ := h
 obtain ⟨t, rfl⟩ := rx
 obtain ⟨t', rfl⟩ := ry
 exact in_str (aq0 I q rfl)
theorem wqi : OpR X (compareOp .Is) (fun x y H Q => y = .non ∧ Q (.bl (decide (x = .non))) H) := by
 intro pins s σ H x y v u Q I rx ry h
 obtain ⟨rfl, q⟩ := h
 cases ry
 refine is_none_gen (aq0 I q ?_)
 cases x <;> first
  | (cases rx; rfl)
  | (obtain ⟨t, rfl⟩ := rx; rfl)
theorem uqI : OpR X (compareOp .IsNot) (fun x y H Q => y = .non ∧ Q (.bl (!decide (x = .non))) H) := by
 intro pins s σ H x y v u Q I rx ry h
 obtain ⟨rfl, q⟩ := h
 cases ry
 refine isnot_none_gen (aq0 I q ?_)
 cases x <;> first
  | (cases rx; rfl)
  | (obtain ⟨t, rfl⟩ := rx; rfl)
theorem nqO : OpR X (compareOp .NotIn) (fun x y H Q => ∃ i j, x = .str i ∧ y = .str j ∧ Q (.bl (!(!(Builtin.Str.occurrences j i 0 j.length 1).isEmpty))) H) := by
 intro pins s σ H x y v u Q I rx ry h
 obtain ⟨i, j, rfl, rfl, q⟩ := h
 obtain ⟨t, rfl⟩ := rx
 obtain ⟨t', rfl⟩ := ry
 exact notIn_str (aq0 I q rfl)
theorem nomark (b : Expr) {op : CmpOp} (h : op ≠ .In := by decide) (h2 : op ≠ .NotIn := by decide) : behindInMarks op b = false := by
 have e1 : (op == CmpOp.In) = false := by cases op <;> first | rfl | exact absurd rfl h
 have e2 : (op == CmpOp.NotIn) = false := by cases op <;> first | rfl | exact absurd rfl h2
 cases b <;> simp [behindInMarks, e1, e2]
theorem aq1 {op : CmpOp} {r : R2} (ho : OpR X (compareOp op) r) (ha : PE X a ta) (hb : PE X b tb) (hm : behindInMarks op b = false) : PE X (.Compare a [op] [b] pos) (tOp r ta tb) := by
 intro pins s σ H Q I h
 exact wpAny_Compare1 (binT ha hb I h fun v u s2 x y H2 I2 rx ry q => ho pins s2 σ H2 x y v u Q I2 rx ry q) hm
def tTest (t : TE) : TT := fun σ H Q => t σ H fun x H' => ∃ k, x = .bl k ∧ Q k H'
theorem aqi {op : CmpOp} {r : R2} (ho : OpR X (compareOp op) r) (ha : PE X a ta) (hb : PE X b tb) (hm : behindInMarks op b = false) : PT X (.Compare a [op] [b] pos) (tTest (tOp r ta tb)) := by
 intro pins s σ H Q I h
 refine wpAny_isTrue_Compare1 (thn (ha pins s σ H _ I h) fun v s1 ⟨x, H1, I1, r1, q1⟩ => thn (hb pins s1 σ H1 _ I1 q1) fun u s2 ⟨y, H2, I2, r2, q2⟩ =>
  thn (ho pins s2 σ H2 x y v u _ I2 r1 r2 q2) fun c s3 ⟨z, H3, I3, r3, k, e, q3⟩ => ?_) hm
 subst e
 cases r3
 exact wpAny_truthy_bool ⟨H3, I3, q3⟩
def tChain (r r' : R2) (ta tb tc : TE) : TE := fun σ H Q => ta σ H fun x H1 => tb σ H1 fun y H2 => r x y H2 fun z H3 => ∃ k, z = .bl k ∧
 (if k = true then tc σ H3 fun w' H4 => r' y w' H4 Q else Q (.bl false) H3)
theorem sql {op op' : CmpOp} {r r' : R2} (ho : OpR X (compareOp op) r) (ho' : OpR X (compareOp op') r') (ha : PE X a ta) (hb : PE X b tb) (hc : PE X c tc)
  (hm : lastMarks [op, op'] [b, c] = false := by with_unfolding_all rfl) : PE X (.Compare a [op, op'] [b, c] pos) (tChain r r' ta tb tc) := by
 intro pins s σ H Q I h
 refine Compare_chain (thn (ha pins s σ H _ I h) fun v s1 ⟨x, H1, I1, r1, q1⟩ => chain_link (thn (hb pins s1 σ H1 _ I1 q1) fun u s2 ⟨y, H2, I2, r2, q2⟩ =>
  thn (ho pins s2 σ H2 x y v u _ I2 r1 r2 q2) fun d s3 ⟨z, H3, I3, r3, k, e, q3⟩ => ?_)) hm
 subst e
 cases r3
 refine wpAny_truthy_bool ?_
 cases k with
 | false => exact ite_ff ⟨.bl false, H3, I3, rfl, q3⟩
 | true => exact ite_tt (chain_last (thn (hc pins s3 σ H3 _ I3 q3) fun w' s4 ⟨z', H4, I4, r4, q4⟩ => ho' pins s4 σ H4 y z' u w' Q I4 r2 r4 q4))
theorem line63 : (sizeLine : Nat) < 2 ^ 63 := by rw [sizeLine_eq]; decide
theorem pqw : OpR X (binaryOp .Add) (fun x y H Q => ∃ i j, x = .str i ∧ y = .str j ∧ i.length + j.length ≤ sizeLine ∧ Q (.str (i ++ j)) H) := by
 intro pins s σ H x y v u Q I rx ry h
 obtain ⟨i, j, rfl, rfl, hz, q⟩ := h
 obtain ⟨t, rfl⟩ := rx
 obtain ⟨t', rfl⟩ := ry
 exact add_str (fun t' tk => ⟨.str (i ++ j), H, I.tok _, ⟨_, rfl⟩, q⟩) hz
theorem vals1 {x : V} {us : List Value} (r : Vals [x] us) : ∃ u, us = [u] ∧ RelV x u := by
 cases r with
 | cons r1 r2 => cases r2; exact ⟨_, rfl, r1⟩
theorem vals2 {x y : V} {us : List Value} (r : Vals [x, y] us) : ∃ u w', us = [u, w'] ∧ RelV x u ∧ RelV y w' := by
 cases r with
 | cons r1 r2 =>
  cases r2 with
  | cons r3 r4 => cases r4; exact ⟨_, _, rfl, r1, r3⟩
theorem qqd (hc : X.calm = true) : CallR X (.builtin "max") (fun xs H Q => ∃ i j, xs = [.int i, .int j] ∧ Q (.int (if j > i then j else i)) H) := by
 intro pins s σ H xs us Q I r h
 obtain ⟨i, j, rfl, q⟩ := h
 obtain ⟨u, w', rfl, ⟨t, rfl⟩, ⟨t', rfl⟩⟩ := vals2 r
 refine max_two_ints (I.ok.hd hc) fun h' tk k => ⟨_, H, I.kept k, ?_, q⟩
 by_cases hj : j > i
 ·rw [if_pos hj, if_pos hj]; exact ⟨_, rfl⟩
 ·rw [if_neg hj, if_neg hj]; exact ⟨_, rfl⟩
theorem nqT : CallR X (.type "int") (fun xs H Q => (∃ i, xs = [.int i] ∧ Q (.int i) H) ∨ ∃ k, xs = [.bl k] ∧ Q (.int (if k then 1 else 0)) H) := by
 intro pins s σ H xs us Q I r h
 rcases h with ⟨i, rfl, q⟩ | ⟨k, rfl, q⟩
 ·obtain ⟨u, rfl, t, rfl⟩ := vals1 r
  exact call_int_int ⟨.int i, H, I, ⟨_, rfl⟩, q⟩
 ·obtain ⟨u, rfl, r1⟩ := vals1 r
  cases r1
  exact call_int_bool ⟨.int (if k then 1 else 0), H, I.tok _, ⟨_, rfl⟩, q⟩
theorem mqY : CallR X (.type "str") (fun xs H Q => ∃ i, xs = [.int i] ∧ i.natAbs.log2 < 1920 ∧ Q (.str (toString i)) H) := by
 intro pins s σ H xs us Q I r h
 obtain ⟨i, rfl, hz, q⟩ := h
 obtain ⟨u, rfl, t, rfl⟩ := vals1 r
 exact PySem.P.str_of_int hz ⟨.str _, H, I.tok _, ⟨_, rfl⟩, q⟩
end
structure ObjM (h : Heap) (x dx C : Addr) (mA : Str → Option Value) : Prop where
 obj : h.get? x = some (PySem.W.instObj C dx)
 ns : h.Ns1 dx mA
 ne : dx ≠ x
theorem mq3 {h : Heap} {dx : Addr} {mA : Str → Option Value} (n : h.Ns1 dx mA) : ∃ od, h.get? dx = some od ∧ ∀ name, PySem.W.lookIn name od = some (mA name) := by
 obtain ⟨o, es, ep, ho, hd, hk, _, hm⟩ := n
 refine ⟨o, ho, fun name => ?_⟩
 have e := hm name
 unfold nsFind findBy at e
 rw [← Array.find?_toList] at e
 unfold PySem.W.lookIn
 rw [hd]
 dsimp only
 split
 ·rename_i y q
  rw [q] at e
  exact congrArg some e
 ·rename_i q
  rw [q] at e
  have a : es.toList.any (·.refKey) = false := by
   rw [List.any_eq_false]
   intro y hy
   obtain ⟨z, t, hkey⟩ := hk y (Array.mem_toList_iff.mp hy)
   simp [DictEntry.refKey, hkey]
  have a' : ¬ es.toList.any (·.refKey) = true := by rw [a]; exact Bool.false_ne_true
  rw [if_neg a']
  exact congrArg some e
theorem ObjM.look {h : Heap} {x dx C : Addr} {mA : Str → Option Value} (I : ObjM h x dx C mA) : ∃ od, PySem.W.InstAt h x (PySem.W.instObj C dx) C (some od) ∧ ∀ name, PySem.W.lookIn name od = some (mA name) :=
 let ⟨od, ho, hl⟩ := mq3 I.ns
 ⟨od, ⟨I.obj, rfl, rfl, ho⟩, hl⟩
section
variable {prog : Program} {w : World} {A : Around} {E : Value → Shared → Prop} {s : Shared} {K : PySem.W.Frag} {x dx C f : Addr} {mA : Str → Option Value} {name : Str} {v : Value}
theorem tq9 {expr : Bool} {Q : Value → Shared → Prop} (X : K.In s.heap) (I : ObjM s.heap x dx C mA) (hg : PySem.W.plainGet K C name = true) (hh : PySem.W.hasDictIn K C = true)
  (ha : PySem.W.findIn K (.ref C) name = some none) (hv : mA name = some v) (hv' : PySem.W.handedIn v = true) (h : Q v { s with toks := s.toks + 1 }) :
  wpAny (model prog w) A (getAttr (.ref x) name expr) Q E s := by
 obtain ⟨od, J, hl⟩ := I.look
 exact PySem.W.get_value X J (PySem.W.plainGet_of hg).1 (PySem.W.findObj_own hh ha rfl (by rw [hl, hv])) hv' h
theorem sqC {pl : Sem Bool} {Q : Value × List Value → Shared → Prop} (X : K.In s.heap) (I : ObjM s.heap x dx C mA) (hg : PySem.W.plainGet K C name = true)
  (hf : PySem.W.findIn K (.ref C) name = some (some (.ref f))) (ht : PySem.W.isFn K (.ref f) = true) (hv : mA name = none) (h : Q (.ref f, [.ref x]) s) :
  wpAny (model prog w) A (getMethod (.ref x) name pl) Q E s := by
 obtain ⟨od, J, hl⟩ := I.look
 exact PySem.W.method_fn X J (PySem.W.plainGet_of hg).1 (PySem.W.plainGet_of hg).2 hf (beq_iff_eq.mp ht) (by show (PySem.W.lookIn name od).map (·.isSome) = some false; rw [hl, hv]; rfl) h
theorem tqH {ns : List Str} {Q : Unit → Shared → Prop} (X : K.In s.heap) (I : ObjM s.heap x dx C mA)
  (hs : PySem.W.findIn K (.ref C) "__setattr__" = some (some (.builtin "object.__setattr__"))) (hp : PySem.W.plainOver K C = true) (ht : PySem.W.takerIn K C name = some none) (hh : PySem.W.hasDictIn K C = true)
  (hw : PySem.Within mA ns) (hsz : ns.length ≤ sizeLine)
  (h : ∀ h', ObjM h' x dx C (fun y => if y = name then some v else mA y) → Heap.SameBut dx s.heap h' → Q () { s with heap := h', toks := s.toks + 2 }) :
  wpAny (model prog w) A (setAttr (.ref x) name v) Q E s := by
 obtain ⟨od, J, hl⟩ := I.look
 refine PySem.W.set_plain X J hs (PySem.W.osa_open (s := { s with toks := s.toks + 1 }) (r := none) X J hp ht fun b => ?_)
 obtain ⟨cd, hc, hd'⟩ := PySem.W.any_some hh
 have hx : s.heap.get? x = some ⟨.ref C, some dx, .plain, #[]⟩ := I.obj
 refine wpAny_bind (wpAny_pure (wpAny_bind (wpAny_bind (wpAny_loadPart hx (wpAny_bind (PySem.W.Looks.here (s := { s with toks := s.toks + 1 }) (PySem.W.looks_clsIn X hc) ?_))))))
 rw [hd']
 refine wpAny_pure (a := some dx) (wpAny_bind (wpAny_pure (wpAny_bind ?_)))
 refine wpAny_nsSet1 (s := { s with toks := s.toks + 1 }) I.ns fun h' hn2 hs2 => ?_
 obtain ⟨oD, esD, epD, hoD, hdD, hcD⟩ := hn2.count (PySem.Within.cons name v hw)
 refine wpAny_bind (wpAny_lookBehind hoD (by rw [hdD]; exact pastItsLine_dict (Nat.le_trans hcD (by rw [List.length_cons]; omega))) ?_)
 exact wpAny_pure (h _ ⟨(hs2.2 _ (Ne.symm I.ne)).trans I.obj, hn2, I.ne⟩ hs2)
theorem rq7 {R : Result → Shared → Prop} {vs : List Value} {kw : List (Str × Value)} (X : K.In s.heap) (hm : PySem.W.makesIn K C = true)
  (hi : PySem.W.findIn K (.ref C) "__init__" = some (some (.ref f))) (hf : PySem.W.typeIn K (.ref f) = some (.type "function"))
  (h : codeAny (model prog w) (A.under (.builtin "type.__call__" ⟨.ref C :: vs, kw⟩)) (.call (.ref f) ⟨.ref (s.heap.objs.size + 1) :: vs, kw⟩) (PySem.W.InitBack (s.heap.objs.size + 1) R)
   { s with heap := (s.heap.push PySem.W.emptyDict).push (PySem.W.instObj C s.heap.objs.size) }) :
  codeAny (model prog w) A (.call (.ref C) ⟨vs, kw⟩) R s := by
 obtain ⟨hh, g, d, t, os⟩ := s
 exact PySem.W.make_core (PySem.W.makes_of X hm) (PySem.W.looks_findIn X hi) (fun self => PySem.W.bind_fn X self hf) (.inl rfl) h
end
def putF (f : Str) (v : V) : List (Str × V) → List (Str × V)
 | [] => [(f, v)]
 | (g, x) :: r => if g = f then (g, v) :: r else (g, x) :: putF f v r
theorem kqG (f g : Str) (v : V) : ∀ fs : List (Str × V), (putF f v fs).lookup g = if g = f then some v else fs.lookup g
 | [] => by
  show List.lookup g [(f, v)] = _
  by_cases h : g = f
  ·have hb : (g == f) = true := beq_iff_eq.mpr h
   simp only [List.lookup, hb, if_pos h]
  ·have hb : (g == f) = false := beq_eq_false_iff_ne.mpr h
   simp only [List.lookup, hb, if_neg h]
 | (k, x) :: r => by
  have ih := kqG f g v r
  rw [show putF f v ((k, x) :: r) = (if k = f then (k, v) :: r else (k, x) :: putF f v r) from rfl]
  by_cases hk : k = f
  ·rw [if_pos hk]
   by_cases h : g = k
   ·have hb : (g == k) = true := beq_iff_eq.mpr h
    simp only [List.lookup, hb, if_pos (h.trans hk)]
   ·have hb : (g == k) = false := beq_eq_false_iff_ne.mpr h
    simp only [List.lookup, hb, if_neg (fun e : g = f => h (e.trans hk.symm))]
  ·rw [if_neg hk]
   by_cases h : g = k
   ·have hb : (g == k) = true := beq_iff_eq.mpr h
    simp only [List.lookup, hb, if_neg (fun e : g = f => hk (h.symm.trans e))]
   ·have hb : (g == k) = false := beq_eq_false_iff_ne.mpr h
    simp only [List.lookup, hb]
    exact ih
theorem kqZ (f : Str) (v : V) : ∀ fs : List (Str × V), f ∈ (putF f v fs).map (·.1) ∧ ∀ g, g ∈ fs.map (·.1) → g ∈ (putF f v fs).map (·.1)
 | [] => ⟨by simp [putF], fun g h => by simp at h⟩
 | (k, x) :: r => by
  obtain ⟨i1, i2⟩ := kqZ f v r
  rw [show putF f v ((k, x) :: r) = (if k = f then (k, v) :: r else (k, x) :: putF f v r) from rfl]
  by_cases hk : k = f
  ·rw [if_pos hk]
   subst hk
   exact ⟨by simp, fun g h => by simpa using h⟩
  ·rw [if_neg hk]
   refine ⟨?_, fun g h => ?_⟩
   ·rw [List.map_cons]
    exact List.mem_cons_of_mem _ i1
   ·rw [List.map_cons] at h ⊢
    rcases List.mem_cons.mp h with e | e
    ·exact List.mem_cons.mpr (.inl e)
    ·exact List.mem_cons_of_mem _ (i2 g e)
theorem kqT (f : Str) (v : V) : ∀ fs : List (Str × V), (putF f v fs).length ≤ fs.length + 1
 | [] => by simp [putF]
 | (k, x) :: r => by
  have ih := kqT f v r
  rw [show putF f v ((k, x) :: r) = (if k = f then (k, v) :: r else (k, x) :: putF f v r) from rfl]
  by_cases hk : k = f
  ·rw [if_pos hk, List.length_cons, List.length_cons]; omega
  ·rw [if_neg hk, List.length_cons, List.length_cons]; omega
theorem RelO.some_of {v : V} {o : Option Value} (r : RelO (some v) o) : ∃ u, o = some u ∧ RelV v u := by
 cases o with
 | none => exact (show False from r).elim
 | some u => exact ⟨u, rfl, r⟩
theorem RelO.none_of {o : Option Value} (r : RelO none o) : o = none := by
 cases o with
 | none => rfl
 | some u => exact (show False from r).elim
theorem nqb {v : V} {u : Value} (r : RelV v u) : PySem.W.handedIn u = true := by
 cases v with
 | non => cases (show u = Value.none from r); rfl
 | bl b => cases (show u = Value.bool b from r); rfl
 | int i => obtain ⟨t, e⟩ := (show ∃ t, u = Value.int i t from r); cases e; rfl
 | str x => obtain ⟨t, e⟩ := (show ∃ t, u = Value.str x t from r); cases e; rfl
 | byt b => obtain ⟨t, e⟩ := (show ∃ t, u = Value.bytes b t from r); cases e; rfl
 | flt b => obtain ⟨t, e⟩ := (show ∃ t, u = Value.float b t from r); cases e; rfl
 | ref a => cases (show u = Value.ref a from r); rfl
 | ty n => cases (show u = Value.type n from r); rfl
section
variable {P : Program} {w : World} {H H' : Hp} {h h' : Heap} {a C dx : Addr} {fs fs' : List (Str × V)}
theorem mqq (hok : HOk P w H h) (e : H a = some (.ins C dx fs)) : ∃ mA, ObjM h a dx C mA ∧ (∀ f, RelO (fs.lookup f) (mA f)) ∧ PySem.Within mA (fs.map (·.1)) ∧ fs.length ≤ 1000 ∧ H dx = some (.own a) := by
 obtain ⟨d, z, ne, ob, mA, n, r, q⟩ := (show ObjOk P w H h a (.ins C dx fs) from hok a _ e)
 exact ⟨mA, ⟨ob, n, ne⟩, r, q, z, d⟩
end
structure Cls (K : PySem.W.Frag) (C : Addr) : Prop where
 pg : PySem.W.plainGet K C Str.empty = true
 hd : PySem.W.hasDictIn K C = true
 po : PySem.W.plainOver K C = true
 sa : PySem.W.findIn K (.ref C) "__setattr__" = some (some (.builtin "object.__setattr__"))
theorem Cls.get {K : PySem.W.Frag} {C : Addr} (c : Cls K C) (f : Str) : PySem.W.plainGet K C f = true := c.pg
def NoAttr (K : PySem.W.Frag) (C : Addr) (f : Str) : Prop := PySem.W.findIn K (.ref C) f = some none
theorem NoAttr.taker {K : PySem.W.Frag} {C : Addr} {f : Str} (n : NoAttr K C f) : PySem.W.takerIn K C f = some none := by
 unfold PySem.W.takerIn
 rw [show PySem.W.findIn K (.ref C) f = some none from n]
 rfl
structure Con (K : PySem.W.Frag) (C : Addr) (f : Str) (v : V) (u : Value) : Prop where
 at_ : PySem.W.findIn K (.ref C) f = some (some u)
 rel : RelV v u
 get : PySem.W.specialIn K u "__get__" = some none
 cp : PySem.W.copiedNames.contains f = false
structure Meth (K : PySem.W.Frag) (C : Addr) (m : Str) (f : Addr) : Prop where
 at_ : PySem.W.findIn K (.ref C) m = some (some (.ref f))
 fn : PySem.W.isFn K (.ref f) = true
 kp : PySem.W.keepIn K (.ref f) = true
section
variable {X : Cx} {pins : List (Addr × Obj)} {σ : St} {H : Hp} {s : Shared} {a C dx : Addr} {fs : List (Str × V)} {f : Str} {v : V} {A : Around} {E : Value → Shared → Prop}
theorem pqB {b : Bool} {Q : Value → Shared → Prop} (I : Inv X pins σ H s) (e : H a = some (.ins C dx fs)) (c : Cls X.K C) (n : NoAttr X.K C f) (l : fs.lookup f = some v)
  (h : ∀ u s', Inv X pins σ H s' → RelV v u → Q u s') : wpAny (model X.prog X.w) A (getAttr (.ref a) f b) Q E s := by
 obtain ⟨mA, O, r, _, _, _⟩ := mqq I.hok e
 obtain ⟨u, hu, ru⟩ := RelO.some_of (v := v) (o := mA f) (by rw [← l]; exact r f)
 exact tq9 I.kIn O (c.get f) c.hd n hu (nqb ru) (h u _ (I.tok _) ru)
theorem jqa {m : Str} {g : Addr} {pl : Sem Bool} {Q : Value × List Value → Shared → Prop} (I : Inv X pins σ H s) (e : H a = some (.ins C dx fs)) (c : Cls X.K C) (k : Meth X.K C m g) (l : fs.lookup m = none)
  (h : Q (.ref g, [.ref a]) s) : wpAny (model X.prog X.w) A (getMethod (.ref a) m pl) Q E s := by
 obtain ⟨mA, O, r, _, _, _⟩ := mqq I.hok e
 have hn : mA m = none := RelO.none_of (by rw [← l]; exact r m)
 exact sqC I.kIn O (c.get m) k.at_ k.fn hn h
theorem pqz {y : V} {u : Value} {Q : Unit → Shared → Prop} (I : Inv X pins σ H s) (e : H a = some (.ins C dx fs)) (c : Cls X.K C) (n : NoAttr X.K C f) (hl : fs.length < 1000) (ry : RelV y u)
  (h : ∀ s', Inv X pins σ (upd H a (.ins C dx (putF f y fs))) s' → Q () s') : wpAny (model X.prog X.w) A (setAttr (.ref a) f u) Q E s := by
 obtain ⟨mA, O, r, wi, _, ho⟩ := mqq I.hok e
 have hz : (fs.map (·.1)).length ≤ sizeLine := by rw [List.length_map, sizeLine_eq]; omega
 refine tqH I.kIn O c.sa c.po n.taker c.hd wi hz fun h' O' sb => h _ ?_
 have hd : ∃ o, h'.get? dx = some o := let ⟨o, _, _, e', _⟩ := O'.ns; ⟨o, e'⟩
 refine I.write (x := a) (e := dx) (by rw [e]; exact True.intro) (.inr ho) (fun b q hb z => (sb.2 b hb).trans z) hd ?_
 refine ⟨by rw [aqv O.ne]; exact ho, ?_, O.ne, O'.obj, _, O'.ns, fun g => ?_, fun g hg => ?_⟩
 ·have := kqT f y fs; omega
 ·show RelO ((putF f y fs).lookup g) (if g = f then some u else mA g)
  rw [kqG]
  by_cases q : g = f
  ·rw [if_pos q, if_pos q]; exact ry
  ·rw [if_neg q, if_neg q]; exact r g
 ·by_cases q : g = f
  ·rw [q]; exact (kqZ f y fs).1
  ·refine (kqZ f y fs).2 g (wi g fun z => hg ?_)
   show (if g = f then some u else mA g) = none
   rw [if_neg q]; exact z
theorem Inv.made (I : Inv X pins σ H s) : Inv X pins σ (upd (upd H s.heap.objs.size (.own (s.heap.objs.size + 1))) (s.heap.objs.size + 1) (.ins C s.heap.objs.size []))
  { s with heap := (s.heap.push PySem.W.emptyDict).push (PySem.W.instObj C s.heap.objs.size) } := by
 have e1 : (s.heap.push PySem.W.emptyDict).get? s.heap.objs.size = some PySem.W.emptyDict := Heap.get?_push_size s.heap rfl
 have e2 : ((s.heap.push PySem.W.emptyDict).push (PySem.W.instObj C s.heap.objs.size)).get? (s.heap.objs.size + 1) = some (PySem.W.instObj C s.heap.objs.size) := by
  have := Heap.get?_push_size (s.heap.push PySem.W.emptyDict) (o := PySem.W.instObj C s.heap.objs.size) rfl
  rwa [Heap.size_push] at this
 have e3 : (s.heap.push PySem.W.emptyDict).Ns s.heap.objs.size (fun _ => none) := ⟨PySem.W.emptyDict, #[], _, e1, rfl, (fun e he => absurd he (by simp)), fun _ => rfl⟩
 have I1 := I.laid (a := s.heap.objs.size) (o := .own (s.heap.objs.size + 1)) (h' := s.heap.push PySem.W.emptyDict) (t' := s.toks) (fun b u q => Heap.get?_push_of_some _ q) (Nat.le_refl _) ⟨_, e1⟩
 refine I1.laid (a := s.heap.objs.size + 1) (o := .ins C s.heap.objs.size []) (t' := s.toks) (fun b u q => Heap.get?_push_of_some _ q) (Nat.le_of_eq (Heap.size_push _ _)) ?_
 have ne : s.heap.objs.size ≠ s.heap.objs.size + 1 := Nat.ne_of_lt (Nat.lt_succ_self _)
 refine ⟨by rw [aqv ne, aqw], Nat.zero_le _, ne, e2, fun _ => none, (Heap.Ns1.of_empty e3).at fun o q => Heap.get?_push_of_some _ q, fun _ => True.intro, fun y hy => absurd rfl hy⟩
theorem rqc {prog : Program} {w : World} {env : Env} {e : Expr} {f : Str} {pos : Pos} {s : Shared} {Q : Value → Shared → Prop} (hb : attributeBase e f env (eval e env) = eval e env)
  (h : wpAny (model prog w) A (eval e env) (fun o s₁ => wpAny (model prog w) A (getAttr o f true) Q E s₁) E s) : wpAny (model prog w) A (eval (.Attribute e f pos) env) Q E s :=
 Attribute_any_ h (by rw [arm_eval_Attribute, hb])
end
def tFld (K : PySem.W.Frag) (ta : TE) (f : Str) : TE := fun σ H Q => ta σ H fun x H1 => ∃ a C dx fs v, x = .ref a ∧ H1 a = some (.ins C dx fs) ∧ Cls K C ∧ NoAttr K C f ∧ fs.lookup f = some v ∧ Q v H1
def sFld (K : PySem.W.Frag) (ta tv : TE) (f : Str) : TS := fun D σ H => tv σ H fun y H1 => ta σ H1 fun x H2 => ∃ a C dx fs, x = .ref a ∧ H2 a = some (.ins C dx fs) ∧ Cls K C ∧ NoAttr K C f ∧ fs.length < 1000 ∧
 D.nx σ (upd H2 a (.ins C dx (putF f y fs)))
section
variable {X : Cx} {o e value : Expr} {f : Str} {pos pos' tpos : Pos} {ta tv : TE}
theorem cqq (he : PE X e ta) (hb : attributeBase e f X.env (eval e X.env) = eval e X.env) : PE X (.Attribute e f pos) (tFld X.K ta f) := by
 intro pins s σ H Q I h
 refine rqc hb (thn (he pins s σ H _ I h) fun u s1 W' => ?_)
 obtain ⟨x, H1, I1, rx, a, C, dx, fs, v, ex, ea, c, n, l, q⟩ := W'
 subst ex
 obtain rfl : u = Value.ref a := rx
 exact pqB I1 ea c n l fun u' s2 I2 ru => ⟨v, H1, I2, ru, q⟩
theorem oq3 (ha : PE X o ta) (hv : PE X value tv) (hs : swapsWith value (some (.Attribute o f pos')) pos.line X.env = pure false) : PS X (.Assign [.Attribute o f pos'] value pos) (sFld X.K ta tv f) := by
 intro pins s σ H D I h
 refine plainObj_wpAny_Assign_Attribute (thn (hv pins s σ H _ I h) fun u s1 ⟨y, H1, I1, ry, q⟩ => thn (ha pins s1 σ H1 _ I1 q) fun ov s2 W' => ?_) hs
 obtain ⟨x, H2, I2, rx, a, C, dx, fs, ex, ea, c, n, l, q2⟩ := W'
 subst ex
 obtain rfl : ov = Value.ref a := rx
 exact pqz I2 ea c n l ry fun s3 I3 => ⟨σ, _, I3, q2⟩
theorem uqM {pl : Sem Bool} {m : Str} {apos : Pos} {args : List Expr} {pins : List (Addr × Obj)} {s : Shared} {σ : St} {H : Hp} {Q : Value → Shared → Prop} {te : TE} (he : PE X e te) (I : Inv X pins σ H s)
  (h : te σ H fun x H1 => ∃ a C dx fs g, x = .ref a ∧ H1 a = some (.ins C dx fs) ∧ Cls X.K C ∧ Meth X.K C m g ∧ fs.lookup m = none ∧
   ∀ s1, Inv X pins σ H1 s1 → wpAny (model X.prog X.w) X.A (callWith pos (.ref g) [.ref a] (backTo pos (starEach args X.env)) (backToKw pos (keywordEach [] X.env))) Q X.xe s1)
  (ht : eval (.Call (.Attribute e m apos) args [] pos) X.env = (do
   let ov ← eval e X.env
   standAt apos.atName
   let (f, first) ← holding [ov] (getMethod ov m pl)
   callWith pos f first (backTo pos (starEach args X.env)) (backToKw pos (keywordEach [] X.env)))) :
  wpAny (model X.prog X.w) X.A (eval (.Call (.Attribute e m apos) args [] pos) X.env) Q X.xe s := by
 refine PySem.W.methodCall_KW (pl := pl) (thn (he pins s σ H _ I h) fun u s1 W' => ?_) ht
 obtain ⟨x, H1, I1, rx, a, C, dx, fs, g, ex, ea, c, k, l, q⟩ := W'
 subst ex
 obtain rfl : u = Value.ref a := rx
 exact jqa I1 ea c k l (q s1 I1)
end
section
variable {X : Cx} {pins : List (Addr × Obj)} {σ : St} {H : Hp} {s : Shared} {A : Around} {E : Value → Shared → Prop} {Q : Value → Shared → Prop} {c : Value} {b : Bool}
inductive TyOf (K : PySem.W.Frag) (H : Hp) : V → Value → Prop where
 | non : TyOf K H .non (.type "NoneType")
 | bl (x : Bool) : TyOf K H (.bl x) (.type "bool")
 | int (i : Int) : TyOf K H (.int i) (.type "int")
 | str (x : Str) : TyOf K H (.str x) (.type "str")
 | flt (x : UInt64) : TyOf K H (.flt x) (.type "float")
 | lst {a : Addr} {xs : List V} (e : H a = some (.lst xs)) : TyOf K H (.ref a) (.type "list")
 | frz {a : Addr} {o : Obj} {xs : List V} (e : H a = some (.frz o (.lst xs))) : TyOf K H (.ref a) (.type "list")
 | tup {a : Addr} {xs : List V} (e : H a = some (.tup xs)) : TyOf K H (.ref a) (.type "tuple")
 | dK {a : Addr} {kvs : List (Key × V)} (e : H a = some (.dK kvs)) : TyOf K H (.ref a) (.type "dict")
 | dT {a : Addr} {kvs : List (List Key × V)} (e : H a = some (.dT kvs)) : TyOf K H (.ref a) (.type "dict")
 | ins {a C dx : Addr} {fs : List (Str × V)} (e : H a = some (.ins C dx fs)) (cl : Cls K C) (ha : PySem.W.findIn K (.ref C) "__class__" = some (some (.builtin "object.__class__")))
   (hn : PySem.W.specialIn K (.builtin "object.__class__") "__get__" = some (some (.builtin "getset_descriptor.__get__"))) (htk : PySem.W.takesIn K (.builtin "object.__class__") = some true)
   (hm : PySem.W.mroIn K C (.type "object") = some true) : TyOf K H (.ref a) (.ref C)
theorem qq2 {x : V} {u t : Value} (I : Inv X pins σ H s) (rx : RelV x u) (ty : TyOf X.K H x t) (e : PySem.W.kitOne X.K t c = some b) (h : ∀ tk, Q (.bool b) { s with toks := tk }) :
  wpAny (model X.prog X.w) A (call (.builtin "isinstance") [u, c]) Q E s := by
 cases ty with
 | non => cases (show u = Value.none from rx); exact PySem.W.kia_one PySem.W.kitx_none I.kIn True.intro e (fun z => nomatch z) h
 | bl y => cases (show u = Value.bool y from rx); exact PySem.W.kia_one PySem.W.kitx_bool I.kIn True.intro e (fun z => nomatch z) h
 | int i => obtain ⟨t, q⟩ := (show ∃ t, u = Value.int i t from rx); cases q; exact PySem.W.kia_one PySem.W.kitx_int I.kIn True.intro e (fun z => nomatch z) h
 | str y => obtain ⟨t, q⟩ := (show ∃ t, u = Value.str y t from rx); cases q; exact PySem.W.kia_one PySem.W.kitx_str I.kIn True.intro e (fun z => nomatch z) h
 | flt y => obtain ⟨t, q⟩ := (show ∃ t, u = Value.float y t from rx); cases q; exact PySem.W.kia_one PySem.W.kitx_float I.kIn True.intro e (fun z => nomatch z) h
 | @lst a xs ea =>
  cases (show u = Value.ref a from rx)
  obtain ⟨_, _, n, _, h1⟩ := (show ObjOk X.prog X.w H s.heap a (.lst xs) from I.hok a _ ea)
  exact PySem.W.kia_one PySem.W.kitx_list I.kIn ⟨_, h1, rfl⟩ e (fun z => nomatch z) h
 | @frz a ob xs ea =>
  cases (show u = Value.ref a from rx)
  obtain ⟨_, _, _, n, _, h1⟩ := (show ObjOk X.prog X.w H s.heap a (.frz ob (.lst xs)) from I.hok a _ ea)
  exact PySem.W.kia_one PySem.W.kitx_list I.kIn ⟨_, h1, rfl⟩ e (fun z => nomatch z) h
 | @tup a xs ea =>
  cases (show u = Value.ref a from rx)
  obtain ⟨_, _, _, p⟩ := (show ObjOk X.prog X.w H s.heap a (.tup xs) from I.hok a _ ea)
  obtain ⟨o, h1, h2, _⟩ := p
  exact PySem.W.kia_one PySem.W.kitx_tuple I.kIn ⟨o, h1, h2⟩ e (fun z => nomatch z) h
 | @dK a kvs ea =>
  cases (show u = Value.ref a from rx)
  obtain ⟨_, _, vs, _, p⟩ := (show ObjOk X.prog X.w H s.heap a (.dK kvs) from I.hok a _ ea)
  obtain ⟨o, es, ep, h1, h2, _⟩ := p
  exact PySem.W.kia_one PySem.W.kitx_dict I.kIn ⟨o, h1, h2.1⟩ e (fun z => nomatch z) h
 | @dT a kvs ea =>
  cases (show u = Value.ref a from rx)
  obtain ⟨_, _, xs, _, o, es, ep, h1, h2, _⟩ := (show ObjOk X.prog X.w H s.heap a (.dT kvs) from I.hok a _ ea)
  exact PySem.W.kia_one PySem.W.kitx_dict I.kIn ⟨o, h1, h2.1⟩ e (fun z => nomatch z) h
 | @ins a C dx fs ea cl ha hn htk hm =>
  cases (show u = Value.ref a from rx)
  obtain ⟨mA, O, _⟩ := mqq I.hok ea
  obtain ⟨od, J, _⟩ := O.look
  exact PySem.W.kia_one (PySem.W.kitx_own (cl.get _) cl.hd ha hn htk hm) I.kIn J e (fun z => nomatch z) h
end
structure Room (k : Nat) (A : Around) : Prop where
 hd : A.handled = none
 dp : A.depth + 3 * k + 5 < recursionLimit
 un : A.units + 16 * k + 200 < cLine
theorem Room.mono {j k : Nat} {A : Around} (r : Room k A) (h : j ≤ k) : Room j A := ⟨r.hd, by have := r.dp; omega, by have := r.un; omega⟩
theorem Room.deeper {k : Nat} {A : Around} (r : Room (k + 1) A) (env : Env) : Room k (A.deeper env) :=
 ⟨r.hd, by have := r.dp; show A.depth + 1 + 3 * k + 5 < _; omega, by have := r.un; show A.units + 3 + 16 * k + 200 < _; omega⟩
theorem pqT {A : Around} {C : Addr} {us : List Value} {kw : List (Str × Value)} : (A.under (.builtin "type.__call__" ⟨.ref C :: us, kw⟩)).depth = A.depth + 1 := by
 first | rfl | simp [Around.under, Code.weight, Code.isCreation, Code.isGuard, Code.isCaller, Code.frames, Code.isFrame, guardIds]
theorem pqQ {A : Around} {C : Addr} {us : List Value} {kw : List (Str × Value)} : (A.under (.builtin "type.__call__" ⟨.ref C :: us, kw⟩)).units = A.units + 1 := by
 first | rfl | simp [Around.under, Code.cUnits, Code.frames, Code.isFrame]
theorem Room.make {k : Nat} {A : Around} (r : Room (k + 1) A) (C : Addr) (us : List Value) (kw : List (Str × Value)) : Room k (A.under (.builtin "type.__call__" ⟨.ref C :: us, kw⟩)) :=
 ⟨r.hd, by have := r.dp; rw [pqT]; omega, by have := r.un; rw [pqQ]; omega⟩
theorem Room.depth {k : Nat} {A : Around} (r : Room k A) : A.depth < recursionLimit := by have := r.dp; omega
theorem Room.units {k : Nat} {A : Around} (r : Room k A) : A.units + 64 < cLine := by have := r.un; omega
def tNil : TA := fun _ H Q => Q [] H
def tCons (ta : TE) (tr : TA) : TA := fun σ H Q => ta σ H fun x H1 => tr σ H1 fun xs H2 => Q (x :: xs) H2
section
variable {X : Cx} {e : Expr} {es : List Expr} {te : TE} {t : TA} {pos : Pos}
theorem aqb : PA X [] tNil := fun _ _ _ _ H Q I h => Calls.spliced_nil ⟨[], H, I, .nil, h⟩
theorem aqa (ha : PE X e te) (hr : PA X es t) (hs : starEach (e :: es) X.env = (false, eval e X.env) :: starEach es X.env := by rfl) : PA X (e :: es) (tCons te t) := by
 intro pos pins s σ H Q I h
 rw [hs]
 show wpAny _ _ (spliced ((false, eval e X.env) :: backTo pos (starEach es X.env))) _ _ s
 refine Calls.spliced_cons (thn (ha pins s σ H _ I h) fun u s1 W' => ?_)
 obtain ⟨x, H1, I1, r1, q1⟩ := W'
 exact thn (hr pos pins s1 σ H1 _ I1 q1) fun us s2 ⟨xs, H2, I2, r2, q2⟩ => ⟨x :: xs, H2, I2, .cons r1 r2, q2⟩
def tTup (t : TA) : TE := fun σ H Q => t σ H fun xs H1 => xs.length ≤ sizeLine ∧ ∀ p, H1 p = none → Q (.ref p) (upd H1 p (.tup xs))
def tLst (t : TA) : TE := fun σ H Q => t σ H fun xs H1 => xs.length ≤ sizeLine ∧ ∀ p, H1 p = none → Q (.ref p) (upd H1 p (.lst xs))
theorem wqk (h : PA X es t) : PE X (.List es pos) (tLst t) := by
 intro pins s σ H Q I hq
 refine wpAny_List_spliced (thn (h pos pins s σ H _ I hq) fun us s1 ⟨xs, H1, I1, r, z, q⟩ => ⟨by rw [← r.length]; exact z, ?_⟩)
 have hf : H1 s1.heap.objs.size = none := I1.hok.fresh (Nat.le_refl _)
 refine ⟨.ref s1.heap.objs.size, upd H1 s1.heap.objs.size (.lst xs), I1.laid (t' := s1.toks) (fun b u e => Heap.get?_push_of_some _ e) (Nat.le_refl _) ?_, rfl, q _ hf⟩
 exact ⟨z, us, 0, r, Heap.get?_push_size _ rfl⟩
end
abbrev Sp := List V → Hp → VK → XK → Prop
abbrev CXT := List Env → Hp → Shared → XK → Value → Shared → Prop
structure Env0 (P : Program) (w : World) (K : PySem.W.Frag) (mg : Str → Option Value) (base : Heap) (A : Around) (outer : List Env) (s : Shared) (H : Hp) : Prop where
 frames : A.frames = some outer
 mod : Mod K mg base
 bs : ∀ b o, base.get? b = some o → s.heap.get? b = some o ∧ H b = none
 bsz : base.objs.size ≤ s.heap.objs.size
 funs : s.heap.FunFrames base outer
 frf : ∀ b ∈ frs outer, H b = none
 hok : HOk P w H s.heap
 bare : AllBare s.gens
def CE (outer : List Env) (P : Program) (w : World) (H : Hp) (s : Shared) (Q : VK) (u : Value) (s' : Shared) : Prop :=
 ∃ v H', s'.os = s.os ∧ AllBare s'.gens ∧ Un (frs outer) [] H H' s.heap s'.heap ∧ HOk P w H' s'.heap ∧ RelV v u ∧ Q v H'
def CR (CX : CXT) (outer : List Env) (P : Program) (w : World) (H : Hp) (s : Shared) (Q : VK) (E : XK) (r : Result) (s' : Shared) : Prop :=
 match r with
 | .ok (.ret u) => CE outer P w H s Q u s'
 | .ok _ => False
 | .error e => CX outer H s E e s'
structure FnOk (P : Program) (w : World) (K : PySem.W.Frag) (mg : Str → Option Value) (base : Heap) (CX : CXT) (k : Nat) (f : Addr) (fd : FuncData) (ps : List Str) (sp : Sp) : Prop where
 len : ∀ vs H Q E, sp vs H Q E → vs.length = ps.length
 run : ∀ (A : Around) (outer : List Env) (s : Shared) (H : Hp) (args : Args) (us : List Value) (vs : List V) (Q : VK) (E : XK), Room k A → Env0 P w K mg base A outer s H → BindsTo s fd args (ps.zip us) → Vals vs us → sp vs H Q E →
  codeAny (model P w) A (.call (.ref f) args) (CR CX outer P w H s Q E) s
theorem Env0.make {P : Program} {w : World} {K : PySem.W.Frag} {mg : Str → Option Value} {base : Heap} {A : Around} {outer : List Env} {s : Shared} {H : Hp} (e : Env0 P w K mg base A outer s H) (C : Addr) (us : List Value) (kw : List (Str × Value)) :
  Env0 P w K mg base (A.under (.builtin "type.__call__" ⟨.ref C :: us, kw⟩)) outer s H := ⟨by first | exact e.frames | (simpa [Around.under, Code.envs, Code.isFrame, pushEnvs] using e.frames), e.mod, e.bs, e.bsz, e.funs, e.frf, e.hok, e.bare⟩
section
variable {X : Cx} {pins : List (Addr × Obj)} {σ : St} {H : Hp} {s s' : Shared}
theorem Inv.env0 (I : Inv X pins σ H s) : Env0 X.prog X.w X.K X.mg X.base X.A X.stack s H :=
 ⟨I.ok.frames, I.ok.mod, I.bs, Nat.le_trans I.ok.bsz I.sz, I.stack, I.stkFree, I.hok, I.bare⟩
theorem Inv.after {Q : VK} {u : Value} (I : Inv X pins σ H s) (h : CE X.stack X.prog X.w H s Q u s') : EP X pins σ Q u s' := by
 obtain ⟨v, H', os, bare, un, hok, r, q⟩ := h
 obtain ⟨hh, g, d, t, os'⟩ := s'
 obtain rfl : os' = s.os := os
 exact ⟨v, H', I.call (h' := hh) (g' := g) (d' := d) (t' := t) (ch := []) un hok bare (fun b z => absurd z (by simp)), r, q⟩
end
def tCall (sp : Sp) (dvs : List V) (E : XK) (t : TA) : TE := fun σ H Q => t σ H fun vs H1 => sp (vs ++ dvs) H1 Q E
def tMeth (C : Addr) (m : Str) (sp : Sp) (dvs : List V) (E : XK) (ta : TE) (t : TA) : TE := fun σ H Q => ta σ H fun x H1 => ∃ a dx fs, x = .ref a ∧ H1 a = some (.ins C dx fs) ∧ fs.lookup m = none ∧
 t σ H1 fun vs H2 => sp (x :: (vs ++ dvs)) H2 Q E
def tMake (C : Addr) (sp : Sp) (dvs : List V) (E : XK) (t : TA) : TE := fun σ H Q => t σ H fun vs H1 => ∀ x dx, H1 x = none → H1 dx = none → dx ≠ x →
 sp (.ref x :: (vs ++ dvs)) (upd (upd H1 dx (.own x)) x (.ins C dx [])) (fun v H2 => v = .non ∧ Q (.ref x) H2) E
def Binds (K : PySem.W.Frag) (fd : FuncData) (ps : List Str) (ds : List Value) : Prop :=
 ∀ (s : Shared) (us : List Value), K.In s.heap → (us ++ ds).length = ps.length → BindsTo s fd ⟨us, []⟩ (ps.zip (us ++ ds))
theorem Binds.all {K : PySem.W.Frag} {fd : FuncData} {ps : List Str} (h : ∀ us : List Value, us.length = ps.length → bindArgs fd ⟨us, []⟩ = pure (ps.zip us)) : Binds K fd ps [] := fun s us _ hl => by
 rw [List.append_nil] at hl ⊢
 exact .of_eq (h us hl)
def Passes (CX : CXT) (X : Cx) (E : XK) : Prop := ∀ (pins : List (Addr × Obj)) (σ : St) (H : Hp) (s : Shared) (e : Value) (s' : Shared), Inv X pins σ H s → CX X.stack H s E e s' → X.xe e s'
section
variable {X : Cx} {CX : CXT} {k : Nat} {f C : Addr} {fd : FuncData} {ps : List Str} {sp : Sp} {dvs : List V} {ds : List Value} {E : XK} {x m : Str} {p pos apos : Pos} {e o : Expr} {es : List Expr} {ta : TE} {t : TA}
theorem pql {pins : List (Addr × Obj)} {σ : St} {H : Hp} {s : Shared} {Q : VK} {us : List Value} {vs : List V} (F : FnOk X.prog X.w X.K X.mg X.base CX k f fd ps sp) (hr : Room k X.A) (hb : Binds X.K fd ps ds) (hd : Vals dvs ds) (hx : Passes CX X E)
  (I : Inv X pins σ H s) (r : Vals vs us) (h : sp (vs ++ dvs) H Q E) : wpAny (model X.prog X.w) X.A (call (.ref f) us) (EP X pins σ Q) X.xe s := by
 have r2 : Vals (vs ++ dvs) (us ++ ds) := r.append hd
 have hl : (us ++ ds).length = ps.length := by rw [← r2.length]; exact F.len _ _ _ _ h
 refine wpAny_call (codeAny_mono (F.run X.A X.stack s H ⟨us, []⟩ (us ++ ds) (vs ++ dvs) Q E hr I.env0 (hb s us I.kIn hl) r2 h) fun r s' hq => ?_)
 cases r with
 | error e => exact hx pins σ H s e s' I hq
 | ok fl =>
  cases fl with
  | ret u => exact I.after hq
  | next => exact False.elim hq
  | brk => exact False.elim hq
  | cont => exact False.elim hq
theorem aqh (F : FnOk X.prog X.w X.K X.mg X.base CX k f fd ps sp) (hr : Room k X.A) (hg : Gl X x) (hm : X.mg x = some (.ref f)) (hk : PySem.W.keepIn X.K (.ref f) = true) (hb : Binds X.K fd ps ds) (hd : Vals dvs ds) (hx : Passes CX X E)
  (ha : PA X (e :: es) t) (hdb : (x == ("__debug__" : Str)) = false := by decide) (he : starEach (e :: es) X.env = (false, eval e X.env) :: starEach es X.env := by rfl) (hpl : (backTo pos (starEach es X.env)).any (·.1) = false := by rfl) :
  PE X (.Call (.Name x p) (e :: es) [] pos) (tCall sp dvs E t) := by
 intro pins s σ H Q I h
 refine wpAny_Call_Name_kw (hq2 I hg hm ?_ hdb)
 refine PySem.W.callWith_K (h₀ := X.base) I.ok.mod.kin hk (thn (ha pos pins s σ H _ I h) fun us s1 ⟨vs, H1, I1, r, q⟩ => ⟨I1.kIn, ?_⟩) he hpl
 exact pql F hr hb hd hx I1 r q
theorem iqr (F : FnOk X.prog X.w X.K X.mg X.base CX k f fd ps sp) (hr : Room k X.A) (hg : Gl X x) (hm : X.mg x = some (.ref f)) (hk : PySem.W.keepIn X.K (.ref f) = true) (hb : Binds X.K fd ps ds) (hd : Vals dvs ds) (hx : Passes CX X E)
  (hdb : (x == ("__debug__" : Str)) = false := by decide) : PE X (.Call (.Name x p) [] [] pos) (tCall sp dvs E tNil) := by
 intro pins s σ H Q I h
 refine wpAny_Call_Name_kw (hq2 I hg hm ?_ hdb)
 exact PySem.W.callWith_K0 I.kIn hk (pql (us := []) F hr hb hd hx I .nil h)
theorem cq1 {pl : Sem Bool} (he : PE X o ta) (c : Cls X.K C) (hm : Meth X.K C m f) (F : FnOk X.prog X.w X.K X.mg X.base CX k f fd ps sp) (hr : Room k X.A) (hb : Binds X.K fd ps ds) (hd : Vals dvs ds) (hx : Passes CX X E) (ha : PA X (e :: es) t)
  (hst : starEach (e :: es) X.env = (false, eval e X.env) :: starEach es X.env := by rfl) (hpl : (backTo pos (starEach es X.env)).any (·.1) = false := by rfl)
  (ht : eval (.Call (.Attribute o m apos) (e :: es) [] pos) X.env = (do
   let ov ← eval o X.env
   standAt apos.atName
   let (f, first) ← holding [ov] (getMethod ov m pl)
   callWith pos f first (backTo pos (starEach (e :: es) X.env)) (backToKw pos (keywordEach [] X.env))) := by rfl) :
  PE X (.Call (.Attribute o m apos) (e :: es) [] pos) (tMeth C m sp dvs E ta t) := by
 intro pins s σ H Q I h
 refine PySem.W.methodCall_KW (pl := pl) (thn (he pins s σ H _ I h) fun u s1 W' => ?_) ht
 obtain ⟨x, H1, I1, rx, a, dx, fs, ex, ea, l, q⟩ := W'
 subst ex
 obtain rfl : u = Value.ref a := rx
 refine jqa I1 ea c hm l ?_
 refine PySem.W.callWith_K (first := [.ref a]) (h₀ := X.base) I.ok.mod.kin hm.kp (thn (ha pos pins s1 σ H1 _ I1 q) fun us s2 ⟨vs, H2, I2, r, q2⟩ => ⟨I2.kIn, ?_⟩) hst hpl
 exact pql (us := .ref a :: us) (vs := .ref a :: vs) F hr hb hd hx I2 (.cons rfl r) q2
theorem gqm {pl : Sem Bool} (he : PE X o ta) (c : Cls X.K C) (hm : Meth X.K C m f) (F : FnOk X.prog X.w X.K X.mg X.base CX k f fd ps sp) (hr : Room k X.A) (hb : Binds X.K fd ps ds) (hd : Vals dvs ds) (hx : Passes CX X E)
  (ht : eval (.Call (.Attribute o m apos) [] [] pos) X.env = (do
   let ov ← eval o X.env
   standAt apos.atName
   let (f, first) ← holding [ov] (getMethod ov m pl)
   callWith pos f first (backTo pos (starEach [] X.env)) (backToKw pos (keywordEach [] X.env))) := by rfl) :
  PE X (.Call (.Attribute o m apos) [] [] pos) (tMeth C m sp dvs E ta tNil) := by
 intro pins s σ H Q I h
 refine PySem.W.methodCall_KW (pl := pl) (thn (he pins s σ H _ I h) fun u s1 W' => ?_) ht
 obtain ⟨x, H1, I1, rx, a, dx, fs, ex, ea, l, q⟩ := W'
 subst ex
 obtain rfl : u = Value.ref a := rx
 refine jqa I1 ea c hm l ?_
 exact PySem.W.callWith_K0 (first := [.ref a]) I1.kIn hm.kp (pql (us := [.ref a]) (vs := [.ref a]) F hr hb hd hx I1 (.cons rfl .nil) q)
structure Mk (K : PySem.W.Frag) (C f : Addr) : Prop where
 makes : PySem.W.makesIn K C = true
 init : PySem.W.findIn K (.ref C) "__init__" = some (some (.ref f))
 fn : PySem.W.isFn K (.ref f) = true
 kp : PySem.W.keepIn K (.ref C) = true
theorem sqo {pins : List (Addr × Obj)} {σ : St} {H : Hp} {s : Shared} {Q : VK} {us : List Value} {vs : List V} (M : Mk X.K C f) (F : FnOk X.prog X.w X.K X.mg X.base CX k f fd ps sp) (hr : Room (k + 1) X.A) (hb : Binds X.K fd ps ds) (hd : Vals dvs ds)
  (hx : Passes CX X E) (I : Inv X pins σ H s) (r : Vals vs us)
  (h : ∀ x dx, H x = none → H dx = none → dx ≠ x → sp (.ref x :: (vs ++ dvs)) (upd (upd H dx (.own x)) x (.ins C dx [])) (fun v H2 => v = .non ∧ Q (.ref x) H2) E) :
  wpAny (model X.prog X.w) X.A (call (.ref C) us) (EP X pins σ Q) X.xe s := by
 have hq := h (s.heap.objs.size + 1) s.heap.objs.size (I.hok.fresh (Nat.le_succ _)) (I.hok.fresh (Nat.le_refl _)) (Nat.ne_of_lt (Nat.lt_succ_self _))
 have I2 := Inv.made (C := C) I
 have r2 : Vals (V.ref (s.heap.objs.size + 1) :: (vs ++ dvs)) (Value.ref (s.heap.objs.size + 1) :: (us ++ ds)) := .cons rfl (r.append hd)
 have hl : (Value.ref (s.heap.objs.size + 1) :: us ++ ds).length = ps.length := by
  have e := r2.length
  rw [F.len _ _ _ _ hq] at e
  exact e.symm
 refine wpAny_call (rq7 (f := f) I.kIn M.makes M.init (beq_iff_eq.mp M.fn) (codeAny_mono (F.run _ X.stack _ _ ⟨Value.ref (s.heap.objs.size + 1) :: us, []⟩ (Value.ref (s.heap.objs.size + 1) :: (us ++ ds)) _ _ E (hr.make C us [])
  (I2.env0.make C us []) (hb _ (Value.ref (s.heap.objs.size + 1) :: us) I2.kIn hl) r2 hq) fun r s' hq' => ?_))
 cases r with
 | error e => exact hx pins σ _ _ e s' I2 hq'
 | ok fl =>
  cases fl with
  | ret u =>
   obtain ⟨v, H', I3, rv, ev, q3⟩ := I2.after hq'
   subst ev
   exact ⟨rv, ⟨V.ref (s.heap.objs.size + 1), H', I3, rfl, q3⟩⟩
  | next => exact False.elim hq'
  | brk => exact False.elim hq'
  | cont => exact False.elim hq'
theorem tqX (M : Mk X.K C f) (F : FnOk X.prog X.w X.K X.mg X.base CX k f fd ps sp) (hr : Room (k + 1) X.A) (hg : Gl X x) (hm : X.mg x = some (.ref C)) (hb : Binds X.K fd ps ds) (hd : Vals dvs ds) (hx : Passes CX X E)
  (ha : PA X (e :: es) t) (hdb : (x == ("__debug__" : Str)) = false := by decide) (he : starEach (e :: es) X.env = (false, eval e X.env) :: starEach es X.env := by rfl) (hpl : (backTo pos (starEach es X.env)).any (·.1) = false := by rfl) :
  PE X (.Call (.Name x p) (e :: es) [] pos) (tMake C sp dvs E t) := by
 intro pins s σ H Q I h
 refine wpAny_Call_Name_kw (hq2 I hg hm ?_ hdb)
 refine PySem.W.callWith_K (h₀ := X.base) I.ok.mod.kin M.kp (thn (ha pos pins s σ H _ I h) fun us s1 ⟨vs, H1, I1, r, q⟩ => ⟨I1.kIn, ?_⟩) he hpl
 exact sqo M F hr hb hd hx I1 r q
end
section
variable {X : Cx} {CX : CXT} {k : Nat} {f C : Addr} {fd : FuncData} {ps ks : List Str} {sp : Sp} {E : XK} {x m : Str} {p pos apos kpos : Pos} {e o : Expr} {es : List Expr} {kws : List Keyword} {te ta : TE} {t tk : TA} {nm : Option Str}
structure KBinds (K : PySem.W.Frag) (fd : FuncData) (ps ks : List Str) (g : List Value → List Value → List Value) (gV : List V → List V → List V) : Prop where
 to : ∀ (s : Shared) (us ws : List Value), K.In s.heap → (g us ws).length = ps.length → BindsTo s fd ⟨us, ks.zip ws⟩ (ps.zip (g us ws))
 rel : ∀ {vs : List V} {us : List Value} {zs : List V} {ws : List Value}, Vals vs us → Vals zs ws → Vals (gV vs zs) (g us ws)
variable {g : List Value → List Value → List Value} {gV : List V → List V → List V}
end
structure FnScope (N P : List Str) (sc : Scope) : Prop where
 kind : sc.kind = .function
 co : sc.isCoroutine = false
 gen : sc.isGenerator = false
 nd : N.Nodup
 pre : N.take P.length = P
 par : ∀ x ∈ P, sc.names.lookup x = some .local ∨ sc.names.lookup x = some .cell
 nofree : ∀ y ∈ sc.names, y.2 ≠ .free
theorem mqV {kindOf : Str → Option NameKind} {x : Str} : ∀ {binds : List (Str × Value)} {m : Str → Option Value}, (∀ v, (x, v) ∉ binds) → bindL kindOf binds m x = m x
 | [], _, _ => rfl
 | (n, v) :: r, m, h => by
  unfold bindL
  rw [mqV fun w hw => h w (List.mem_cons_of_mem _ hw)]
  split
  ·have : x ≠ n := by rintro rfl; exact h v List.mem_cons_self
   simp [this]
  ·rfl
theorem nqc {kindOf : Str → Option NameKind} {x : Str} : ∀ {binds : List (Str × Value)} {m : Str → Option Value}, (∀ v, (x, v) ∉ binds) → bindC kindOf binds m x = m x
 | [], _, _ => rfl
 | (n, v) :: r, m, h => by
  unfold bindC
  rw [nqc fun w hw => h w (List.mem_cons_of_mem _ hw)]
  split
  ·rfl
  ·have : x ≠ n := by rintro rfl; exact h v List.mem_cons_self
   simp [this]
theorem nqf {kindOf : Str → Option NameKind} {x : Str} {v : Value} : ∀ {P : List Str} {vs : List Value} {i : Nat} {m : Str → Option Value}, P.Nodup → P[i]? = some x → vs[i]? = some v → kindOf x = some .local →
  bindL kindOf (P.zip vs) m x = some v
 | [], _, _, _, _, h, _, _ => by simp at h
 | _ :: _, [], _, _, _, _, h, _ => by simp at h
 | p :: P, w :: vs, 0, m, nd, h1, h2, hk => by
  simp at h1 h2; subst h1; subst h2
  show bindL kindOf ((p, w) :: P.zip vs) m p = _
  unfold bindL
  rw [mqV fun v hv => (List.nodup_cons.mp nd).1 (List.of_mem_zip hv).1, if_pos hk]
  simp
 | p :: P, w :: vs, i + 1, m, nd, h1, h2, hk => by
  show bindL kindOf ((p, w) :: P.zip vs) m x = _
  unfold bindL
  exact nqf (i := i) (List.nodup_cons.mp nd).2 (by simpa using h1) (by simpa using h2) hk
theorem nqk {kindOf : Str → Option NameKind} {x : Str} {v : Value} : ∀ {P : List Str} {vs : List Value} {i : Nat} {m : Str → Option Value}, P.Nodup → P[i]? = some x → vs[i]? = some v → kindOf x ≠ some .local →
  bindC kindOf (P.zip vs) m x = some v
 | [], _, _, _, _, h, _, _ => by simp at h
 | _ :: _, [], _, _, _, _, h, _ => by simp at h
 | p :: P, w :: vs, 0, m, nd, h1, h2, hk => by
  simp at h1 h2; subst h1; subst h2
  show bindC kindOf ((p, w) :: P.zip vs) m p = _
  unfold bindC
  rw [nqc fun v hv => (List.nodup_cons.mp nd).1 (List.of_mem_zip hv).1, if_neg hk]
  simp
 | p :: P, w :: vs, i + 1, m, nd, h1, h2, hk => by
  show bindC kindOf ((p, w) :: P.zip vs) m x = _
  unfold bindC
  exact nqk (i := i) (List.nodup_cons.mp nd).2 (by simpa using h1) (by simpa using h2) hk
def start (N : List Str) (vs : List V) : St := vs.map some ++ List.replicate (N.length - vs.length) none
def cxOf (CX : CXT) (P : Program) (w : World) (K : PySem.W.Frag) (mg : Str → Option Value) (base : Heap) (N : List Str) (qual : Str) (scope : Scope) (f : Addr) (cd : Value) (A : Around) (outer : List Env) (s : Shared) (H : Hp) (E : XK) : Cx where
 prog := P
 w := w
 K := K
 mg := mg
 base := base
 A := A.deeper (envOfC qual scope s.heap.objs.size f cd)
 N := N
 s₀ := s
 H₀ := H
 env := envOfC qual scope s.heap.objs.size f cd
 outer := outer
 stack := envOfC qual scope s.heap.objs.size f cd :: outer
 ex := []
 calm := true
 fn := fun _ => true
 pn := []
 xe := fun e s' => wpAny (model P w) (A.deeper (envOfC qual scope s.heap.objs.size f cd)) (leaving (envOfC qual scope s.heap.objs.size f cd) e) (fun _ s'' => CX outer H s E e s'') (fun e' s'' => CX outer H s E e' s'') s'
theorem pqi {sc : Scope} {n : Nat} {x : Str} (h : sc.names.lookup x = some .cell) : ∃ c, (cellsFrom n sc.names []).lookup x = some c := by
 have q := PySem.W.cellsFrom_some sc.names n [] (.inl h)
 exact Option.isSome_iff_exists.mp q
theorem rqJ {CX : CXT} {P : Program} {w : World} {K : PySem.W.Frag} {mg : Str → Option Value} {base : Heap} {N ps : List Str} {qual : Str} {scope : Scope} {f : Addr} {cd : Value} {A : Around} {outer : List Env} {s s1 : Shared} {H : Hp} {E : XK} {us : List Value} {vs : List V}
  (S : FnScope N ps scope) (hd : A.handled = none) (e0 : Env0 P w K mg base A outer s H) (hl : vs.length = ps.length) (r : Vals vs us)
  (x : InCallC s s.heap.objs.size (bindL (envOfC qual scope s.heap.objs.size f cd).kindOf (ps.zip us) fun _ => none) (cellsFrom (s.heap.objs.size + 1) scope.names []) (bindC (envOfC qual scope s.heap.objs.size f cd).kindOf (ps.zip us) fun _ => none) s1) :
  Inv (cxOf CX P w K mg base N qual scope f cd A outer s H E) [] (start N vs) H s1 := by
 have hpl : ps.length ≤ N.length := by have := congrArg List.length S.pre; rw [List.length_take] at this; omega
 obtain ⟨h1, tk, rfl, hk⟩ := x.done
 have noA : ∀ b : Addr, b ∉ (cxOf CX P w K mg base N qual scope f cd A outer s H E).ex := fun b z => absurd (show b ∈ ([] : List Addr) from z) (by simp)
 refine ⟨⟨e0.mod, S.kind, rfl, rfl, Nat.le_refl _, fun y z c h1 h2 => ?_, fun y hy => ?_, fun y c _ h => ?_, fun _ => hd, Around.frames_deeper e0.frames, .inr ⟨rfl, rfl⟩, fun b z => absurd z (noA b), e0.bs, e0.bsz, fun b _ _ => noA b, fun b z => absurd z (noA b), e0.funs, e0.frf⟩,
  rfl, e0.bare, Un.kept hk, ⟨_, x.toInCall.ns, fun i y v h1 h2 h3 => ?_⟩, fun y c h => ⟨_, x.cell y c h⟩, e0.hok.fresh (Nat.le_refl _), fun y c h => ?_, fun p hp => absurd (show p ∈ ([] : List (Addr × Obj)) from hp) (by simp), e0.hok.kept hk, ?_⟩
 ·exact name_of_addr x.apart (PySem.mem_of_lookup h1) (PySem.mem_of_lookup h2)
 ·have hy : scope.names.lookup y = some .cell ∨ scope.names.lookup y = some .free := hy
  rcases hy with hy | hy
  ·exact pqi hy
  ·exact absurd rfl (S.nofree _ (PySem.mem_of_lookup hy))
 ·exact Nat.le_of_lt (x.above y c (PySem.mem_of_lookup h))
 ·have hi : i < vs.length := by
   unfold start at h2
   by_cases hi : i < vs.length
   ·exact hi
   ·rw [List.getElem?_append_right (by simpa using hi)] at h2
    rw [List.getElem?_replicate] at h2
    split at h2 <;> cases h2
  have ha : vs[i]? = some v := by
   unfold start at h2
   rw [List.getElem?_append_left (by simpa using hi), List.getElem?_map] at h2
   cases e : vs[i]? with
   | none => rw [e] at h2; cases h2
   | some a => rw [e] at h2; cases h2; rfl
  obtain ⟨u, hu, rv⟩ := r.get ha
  have hp : ps[i]? = some y := by
   rw [← S.pre, List.getElem?_take_of_lt (by omega)]; exact h1
  have ndP : ps.Nodup := by rw [← S.pre]; exact S.nd.sublist (List.take_sublist _ _)
  refine ⟨u, rv, ?_⟩
  rcases S.par y (List.mem_of_getElem? hp) with k | k
  ·exact .inl ⟨k, nqf ndP hp hu k⟩
  ·obtain ⟨c, e⟩ := pqi (n := s.heap.objs.size + 1) k
   refine .inr ⟨.inl k, c, e, ?_⟩
   have q := x.cell y c e
   rw [nqk ndP hp hu (by show scope.names.lookup y ≠ _; rw [k]; decide)] at q
   exact q
 ·exact e0.hok.fresh (Nat.le_of_lt (x.above y c (PySem.mem_of_lookup h)))
 ·unfold start
  show _ = N.length
  rw [List.length_append, List.length_map, List.length_replicate]
  omega
theorem uqU {CX : CXT} {P : Program} {w : World} {K : PySem.W.Frag} {mg : Str → Option Value} {base : Heap} {k : Nat} {f : Addr} {name qual : Str} {params : Arguments} {body : List Stmt} {scope : Scope} {dV kV doc pm cdv ct oc : Value} {an od : Option Addr}
  {osl : Array (Option Value)} {N ps : List Str} {sp : Sp} (lk : K.lookup f = some ⟨oc, od, .func (PySem.W.fnOf name qual params body scope dV kV doc pm an cdv ct), osl⟩) (hcd : PySem.W.codeIn K cdv qual = true) (S : FnScope N ps scope)
  (len : ∀ vs H Q E, sp vs H Q E → vs.length = ps.length)
  (hbody : ∀ (A : Around) (outer : List Env) (s : Shared) (H : Hp) (vs : List V) (Q : VK) (E : XK), Room k (A.deeper (envOfC qual scope s.heap.objs.size f cdv)) → sp vs H Q E →
   ∃ t, PSs (cxOf CX P w K mg base N qual scope f cdv A outer s H E) body t ∧ t { nx := fun _ H' => Q .non H', rt := Q } (start N vs) H) :
  FnOk P w K mg base CX (k + 1) f (PySem.W.fnOf name qual params body scope dV kV doc pm an cdv ct) ps sp := by
 refine ⟨len, fun A outer s H args us vs Q E hr e0 hb r hsp => ?_⟩
 have hl := len _ _ _ _ hsp
 have KX : K.In s.heap := e0.mod.kin.keeps fun b o e => (e0.bs b o e).1
 have lim : s.heap.NoLimit := e0.mod.nolimit.keeps fun b o e => (e0.bs b o e).1
 have hkind : ∀ y ∈ ps.zip us, scope.names.lookup y.1 = some .local ∨ (scope.names.lookup y.1 = some .cell ∧ ((cellsFrom (s.heap.objs.size + 1) scope.names []).lookup y.1).isSome = true) := fun ⟨n, v⟩ hy => by
  rcases S.par n (List.of_mem_zip hy).1 with q | q
  ·exact .inl q
  ·exact .inr ⟨q, PySem.W.cellsFrom_some _ _ _ (.inl q)⟩
 refine codeAny_call_function hr.depth (KX _ _ lk) rfl S.co S.gen rfl (PySem.W.codeRec_of KX hcd) (hb _ _ _ _ ?_)
 refine wpAny_newFunctionEnv_cells S.kind hkind fun env he s1 x => ?_
 subst he
 refine ⟨lim.keeps x.toInCall.keep, codeAny_func ?_⟩
 obtain ⟨t, ht, hq⟩ := hbody A outer s H vs Q E (hr.deeper _) hsp
 have I : Inv (cxOf CX P w K mg base N qual scope f cdv A outer s H E) [] (start N vs) H s1 := rqJ S hr.hd e0 hl r x
 refine wpAny_mono (ht [] s1 (start N vs) H _ I hq) (fun fl s' hs => ?_) fun e s' hs => hs
 have fin : ∀ {σ' : St} {H' : Hp} {v : V} {u : Value}, Inv (cxOf CX P w K mg base N qual scope f cdv A outer s H E) [] σ' H' s' → RelV v u → Q v H' → CE outer P w H s Q u s' :=
  fun {σ' H' v u} J rv q => ⟨v, H', J.os, J.bare, J.base, J.hok, rv, q⟩
 cases fl with
 | ret u =>
  obtain ⟨v, σ', H', J, rv, q⟩ := hs
  exact fin J rv q
 | next =>
  obtain ⟨σ', H', J, q⟩ := hs
  exact fin (v := V.non) (u := Value.none) J rfl q
 | brk =>
  obtain ⟨_, _, _, q⟩ := hs
  exact False.elim q
 | cont =>
  obtain ⟨_, _, _, q⟩ := hs
  exact False.elim q
section
variable {X : Cx} {x : Str} {p pos : Pos} {e : Expr} {es : List Expr} {t : TA} {id T : String} {r : List V → Hp → VK → Prop}
def tCB (r : List V → Hp → VK → Prop) (t : TA) : TE := fun σ H Q => t σ H fun vs H1 => r vs H1 Q
theorem aqA (hc : CallR X (.builtin id) r) (hg : Gl X x) (hm : X.mg x = none) (hv : bootBuiltins x = some (.builtin id)) (ha : PA X (e :: es) t) (hn : x ≠ "__name__" := by decide) (hdb : (x == ("__debug__" : Str)) = false := by decide)
  (he : starEach (e :: es) X.env = (false, eval e X.env) :: starEach es X.env := by rfl) (hpl : (backTo pos (starEach es X.env)).any (·.1) = false := by rfl) : PE X (.Call (.Name x p) (e :: es) [] pos) (tCB r t) := by
 intro pins s σ H Q I h
 refine wpAny_Call_Name_kw (pqs I hg hm hv ?_ hn hdb)
 exact PyProof.Rows.callWith_builtin1 (thn (ha pos pins s σ H _ I h) fun us s1 ⟨vs, H1, I1, r1, q1⟩ => hc pins s1 σ H1 vs us Q I1 r1 q1) he hpl
theorem dqb (hc : CallR X (.type T) r) (hg : Gl X x) (hm : X.mg x = none) (hv : bootBuiltins x = some (.type T)) (ha : PA X (e :: es) t) (hn : x ≠ "__name__" := by decide) (hdb : (x == ("__debug__" : Str)) = false := by decide)
  (he : starEach (e :: es) X.env = (false, eval e X.env) :: starEach es X.env := by rfl) (hpl : (backTo pos (starEach es X.env)).any (·.1) = false := by rfl) : PE X (.Call (.Name x p) (e :: es) [] pos) (tCB r t) := by
 intro pins s σ H Q I h
 refine wpAny_Call_Name_kw (pqs I hg hm hv ?_ hn hdb)
 exact PyProof.Rows.callWith_type1 (thn (ha pos pins s σ H _ I h) fun us s1 ⟨vs, H1, I1, r1, q1⟩ => hc pins s1 σ H1 vs us Q I1 r1 q1) he hpl
end
end L2
namespace HT
open PySem PyProof.Rows
section
open PySem.SeqAt
open PySem.AutoSeq1 (wpAny_loadPart')
open PySem.MeetsSeq PySem.MeetsSeq2 PySem.MeetsSeq3
end
section
variable {prog : Program} {w : World} {A : Around} {E : Value → Shared → Prop} {s : Shared}
theorem cat_tup {t b : Addr} {vs ws : List Value} {Q : Value → Shared → Prop} (ht : IsTup s.heap t vs.toArray) (hb : IsTup s.heap b ws.toArray) (hv : vs ≠ [])
  (h1 : ws = [] → Q (.ref t) s) (h2 : ws ≠ [] → Q (.ref s.heap.objs.size) { s with heap := s.heap.push { cls := .type "tuple", data := .seq (vs ++ ws).toArray } })
  (hsz : vs.length + ws.length ≤ sizeLine) : wpAny (model prog w) A (binaryOp .Add (.ref t) (.ref b)) Q E s := by
 obtain ⟨⟨cls, dd, data, sl⟩, ho, hc, n, hd⟩ := id ht
 obtain ⟨⟨cls2, dd2, data2, sl2⟩, ho2, hc2, n2, hd2⟩ := id hb
 simp only at hc hd hc2 hd2
 subst hc hd hc2 hd2
 have e : vs.toArray ++ ws.toArray = (vs ++ ws).toArray := by simp
 by_cases hw : ws = []
 ·exact concat_meets ⟨_, ho, rfl⟩ ⟨_, ho2, rfl⟩ noFill_tuple_add seq_tuple_add PySem.F.slot_tuple_add PySem.F.entry_tuple_add (PySem.F.args_tuple_add_2 _ _)
   (tuple_addW1 t b vs.toArray ws.toArray n n2 dd dd2 sl sl2 (by simpa using hv) (by simp [hw])) ⟨ho, ho2, h1 hw⟩
 ·refine concat_meets ⟨_, ho, rfl⟩ ⟨_, ho2, rfl⟩ noFill_tuple_add seq_tuple_add PySem.F.slot_tuple_add PySem.F.entry_tuple_add (PySem.F.args_tuple_add_2 _ _)
   (tuple_addW2 t b vs.toArray ws.toArray n n2 dd dd2 sl sl2 (by simpa using hv) (by simpa using hw) (by rw [List.size_toArray, List.size_toArray]; exact hsz)) ⟨ho, ho2, ?_⟩
  rw [e]
  exact h2 hw
def sIx (n d : Nat) : Option Int → Nat
 | none => d
 | some v => if v < 0 then (v + (n : Int)).toNat else min v.toNat n
end
end HT
namespace L2
open PySem PySem.Spec PyProof.Rows
abbrev TO := St → Hp → (Option Int → Hp → Prop) → Prop
def PO (X : Cx) (e : Option Expr) (t : TO) : Prop :=
 ∀ (pins : List (Addr × Obj)) (s : Shared) (σ : St) (H : Hp) (Q : Option Int → Hp → Prop), Inv X pins σ H s → t σ H Q →
  wpAny (model X.prog X.w) X.A (evalPart e X.env) (fun u s' => ∃ o H', Inv X pins σ H' s' ∧ IsPart u o ∧ Q o H') X.xe s
def tNoPart : TO := fun _ H Q => Q none H
def tPart (t : TE) : TO := fun σ H Q => t σ H fun x H1 => ∃ i, x = .int i ∧ Q (some i) H1
section
variable {X : Cx} {e : Expr} {te : TE} {lo hi : Option Expr} {tl th : TO} {pos p2 : Pos}
theorem kqn : PO X none tNoPart := by
 intro pins s σ H Q I h
 rw [evalPart_none]
 exact wpAny_pure ⟨none, H, I, .none, h⟩
theorem bqU (h : PE X e te) : PO X (some e) (tPart te) := by
 intro pins s σ H Q I hw
 rw [evalPart_some]
 refine thn (h pins s σ H _ I hw) fun u s1 W' => ?_
 obtain ⟨x, H1, I1, r1, q1⟩ := W'
 obtain ⟨i, rfl, q⟩ := q1
 obtain ⟨t, rfl⟩ := r1
 exact ⟨some i, H1, I1, .int i t, q⟩
def SlR (X : Cx) (r : V → Option Int → Option Int → Hp → VK → Prop) : Prop :=
 ∀ (pins : List (Addr × Obj)) (s : Shared) (σ : St) (H : Hp) (x : V) (v vl vu : Value) (lo hi : Option Int) (sl : Addr) (Q : VK), Inv X pins σ H s → RelV x v → s.heap.IsSliceOf sl vl vu .none → IsPart vl lo → IsPart vu hi → r x lo hi H Q →
  ∃ T id, typeLookup (.type T) "__getitem__" = pure (some (.builtin id)) ∧ s.TypeIs v T ∧ wpAny (model X.prog X.w) X.A (getItem v (.ref sl)) (EP X pins σ Q) X.xe s
theorem SlR.or {r r' : V → Option Int → Option Int → Hp → VK → Prop} (h : SlR X r) (h' : SlR X r') : SlR X (fun x lo hi H Q => r x lo hi H Q ∨ r' x lo hi H Q) := by
 intro pins s σ H x v vl vu lo hi sl Q I rx hs pl pu q
 rcases q with q | q
 ·exact h pins s σ H x v vl vu lo hi sl Q I rx hs pl pu q
 ·exact h' pins s σ H x v vl vu lo hi sl Q I rx hs pl pu q
def tSl (r : V → Option Int → Option Int → Hp → VK → Prop) (te : TE) (tl th : TO) : TE := fun σ H Q => te σ H fun x H1 => tl σ H1 fun l H2 => th σ H2 fun u H3 => r x l u H3 Q
theorem dqi {r : V → Option Int → Option Int → Hp → VK → Prop} (hr : SlR X r) (he : PE X e te) (hl : PO X lo tl) (hu : PO X hi th) : PE X (.Subscript e (.Slice lo hi none p2) pos) (tSl r te tl th) := by
 intro pins s σ H Q I h
 refine Subscript_ (thn (he pins s σ H _ I h) fun v s1 W' => ?_)
 obtain ⟨x, H1, I1, r1, q1⟩ := W'
 refine wpAny_Slice (thn (hl pins s1 σ H1 _ I1 q1) fun vl s2 ⟨l, H2, I2, pl, q2⟩ => thn (hu pins s2 σ H2 _ I2 q2) fun vu s3 W' => ?_)
 obtain ⟨u, H3, I3, pu, q3⟩ := W'
 rw [evalPart_none]
 refine wpAny_pure ?_
 have I4 : Inv X pins σ H3 { s3 with heap := s3.heap.push { cls := .type "slice", data := .fields #[vl, vu, .none] } } := I3.kept (t' := s3.toks) fun b ob q => Heap.get?_push_of_some _ q
 obtain ⟨T, id, hT, ht, hg⟩ := hr pins { s3 with heap := s3.heap.push { cls := .type "slice", data := .fields #[vl, vu, .none] } } σ H3 x v vl vu l u s3.heap.objs.size Q I4 r1 (Heap.IsSliceOf.new ..) pl pu q3
 show wpAny (model X.prog X.w) X.A (subscriptTail e (.Slice lo hi none p2) v (.ref s3.heap.objs.size)) (EP X pins σ Q) X.xe { s3 with heap := s3.heap.push { cls := .type "slice", data := .fields #[vl, vu, .none] } }
 exact tail_any (ops := [.ref s3.heap.objs.size, v]) ht hT hg (by with_unfolding_all rfl)
def cutV (xs : List V) (lo hi : Option Int) : List V := (xs.drop (HT.sIx xs.length 0 lo)).take (HT.sIx xs.length xs.length hi - HT.sIx xs.length 0 lo)
theorem oqL (xs : List V) (lo hi : Option Int) : (cutV xs lo hi).length ≤ xs.length := by
 unfold cutV
 rw [List.length_take, List.length_drop]
 omega
def rSlT (K : PySem.W.Frag) : V → Option Int → Option Int → Hp → VK → Prop := fun x lo hi H Q => ∃ a xs, x = .ref a ∧ SqT K H a xs ∧
 ¬ (HT.sIx xs.length 0 lo = 0 ∧ HT.sIx xs.length xs.length hi = xs.length) ∧ ∀ p, H p = none → Q (.ref p) (upd H p (.tup (cutV xs lo hi)))
def rCatT (K : PySem.W.Frag) : R2 := fun x y H Q => ∃ a b xs ys, x = .ref a ∧ y = .ref b ∧ SqT K H a xs ∧ SqT K H b ys ∧ xs ≠ [] ∧ xs.length + ys.length ≤ sizeLine ∧
 (ys = [] → Q (.ref a) H) ∧ (ys ≠ [] → ∀ p, H p = none → Q (.ref p) (upd H p (.tup (xs ++ ys))))
theorem Vals.nil_iff {xs : List V} {us : List Value} (r : Vals xs us) : us = [] ↔ xs = [] := by
 cases r with
 | nil => simp
 | cons _ _ => simp
theorem uqG : OpR X (binaryOp .Add) (rCatT X.K) := by
 intro pins s σ H x y v u Q I rx ry h
 obtain ⟨a, b, xs, ys, rfl, rfl, ha, hb, hx, hz, q1, q2⟩ := h
 cases rx
 cases ry
 obtain ⟨its, r1, p1, _⟩ := I.tuple ha
 obtain ⟨its2, r2, p2, _⟩ := I.tuple hb
 refine HT.cat_tup p1 p2 (fun z => hx (r1.nil_iff.mp z)) (fun z => ⟨.ref a, H, I, rfl, q1 (r2.nil_iff.mp z)⟩) (fun z => ?_) (by rw [← r1.length, ← r2.length]; exact hz)
 refine ⟨.ref s.heap.objs.size, _, I.laid (t' := s.toks) (o := .tup (xs ++ ys)) (fun b ob q => Heap.get?_push_of_some _ q) (Nat.le_refl _) ?_, rfl, q2 (fun w => z (r2.nil_iff.mpr w)) _ (I.hok.fresh (Nat.le_refl _))⟩
 exact ⟨by rw [List.length_append]; exact hz, _, r1.append r2, IsTup.new _ _⟩
end
def ixN (n : Nat) (i : Int) : Option Nat := if 0 ≤ i then (if i < n then some i.toNat else none) else if -(n : Int) ≤ i then some (i + n).toNat else none
def atI {α : Type} (xs : List α) (i : Int) : Option α := (ixN xs.length i).bind fun j => xs[j]?
theorem uqn {n : Nat} {i : Int} {j : Nat} (h : ixN n i = some j) : seqIndex? i n = some j ∧ j < n ∧ -(n : Int) ≤ i ∧ i < n := by
 unfold ixN at h
 by_cases h0 : 0 ≤ i
 ·rw [if_pos h0] at h
  by_cases h1 : i < n
  ·rw [if_pos h1] at h
   have e : i.toNat = j := Option.some.inj h
   exact ⟨by rw [seqIndex_of h0 h1, e], by omega, by omega, h1⟩
  ·rw [if_neg h1] at h; cases h
 ·rw [if_neg h0] at h
  by_cases h1 : -(n : Int) ≤ i
  ·rw [if_pos h1] at h
   have e : (i + n).toNat = j := Option.some.inj h
   exact ⟨by rw [seqIndex_neg (by omega) h1, e], by omega, h1, by omega⟩
  ·rw [if_neg h1] at h; cases h
theorem oqC {α : Type} {xs : List α} {i : Int} {v : α} (h : atI xs i = some v) : ∃ j, seqIndex? i xs.length = some j ∧ xs[j]? = some v ∧ j < xs.length ∧ -(xs.length : Int) ≤ i ∧ i < xs.length := by
 unfold atI at h
 cases e : ixN xs.length i with
 | none => rw [e] at h; cases h
 | some j =>
  rw [e] at h
  obtain ⟨h1, h2, h3, h4⟩ := uqn e
  exact ⟨j, h1, h, h2, h3, h4⟩
theorem aqu {α : Type} {xs : List α} {j : Nat} {v : α} (h : xs[j]? = some v) : atI xs (j : Int) = some v := by
 have hj : j < xs.length := (List.getElem?_eq_some_iff.mp h).1
 have e : ixN xs.length (j : Int) = some j := by
  unfold ixN
  rw [if_pos (by omega), if_pos (by omega)]; simp
 unfold atI; rw [e]; exact h
def PlainIx (b : Expr) : Prop := ∀ o i, subscripted b false o i = operate [o, i] (getItem o i)
def IxR (X : Cx) (r : R2) : Prop :=
 ∀ (value slice : Expr) (pins : List (Addr × Obj)) (s : Shared) (σ : St) (H : Hp) (x y : V) (v u : Value) (Q : VK), Inv X pins σ H s → RelV x v → RelV y u → r x y H Q →
  subscripted slice false v u = operate [v, u] (getItem v u) → wpAny (model X.prog X.w) X.A (subscriptTail value slice v u) (EP X pins σ Q) X.xe s
def MtR (X : Cx) (id : String) (r : V → List V → Hp → VK → Prop) : Prop :=
 ∀ (pins : List (Addr × Obj)) (s : Shared) (σ : St) (H : Hp) (x : V) (xs : List V) (v : Value) (us : List Value) (Q : VK), Inv X pins σ H s → RelV x v → Vals xs us → r x xs H Q →
  wpAny (model X.prog X.w) X.A (call (.builtin id) (v :: us)) (EP X pins σ Q) X.xe s
section
variable {X : Cx} {a b : Expr} {ta tb : TE} {pos : Pos}
theorem IxR.or {r r' : R2} (h : IxR X r) (h' : IxR X r') : IxR X (fun x y H Q => r x y H Q ∨ r' x y H Q) := by
 intro value slice pins s σ H x y v u Q I rx ry q hs
 rcases q with q | q
 ·exact h value slice pins s σ H x y v u Q I rx ry q hs
 ·exact h' value slice pins s σ H x y v u Q I rx ry q hs
theorem aqK {r : R2} (hr : IxR X r) (ha : PE X a ta) (hb : PE X b tb) (hs : PlainIx b) : PE X (.Subscript a b pos) (tOp r ta tb) := by
 intro pins s σ H Q I h
 exact Subscript_ (binT ha hb I h fun v u s2 x y H2 I2 rx ry q => hr a b pins s2 σ H2 x y v u Q I2 rx ry q (hs _ _))
def rIxL (K : PySem.W.Frag) : R2 := fun x y H Q => ∃ p xs i v, x = .ref p ∧ y = .int i ∧ SqL K H p xs ∧ atI xs i = some v ∧ Q v H
def rIxT (K : PySem.W.Frag) : R2 := fun x y H Q => ∃ p xs i v, x = .ref p ∧ y = .int i ∧ SqT K H p xs ∧ atI xs i = some v ∧ Q v H
def rIxS : R2 := fun x y H Q => ∃ z i c, x = .str z ∧ y = .int i ∧ z.length ≤ sizeLine ∧ atI z.cps.toList i = some c ∧ Q (.str ⟨#[c]⟩) H
theorem vqd : IxR X (rIxL X.K) := by
 intro value slice pins s σ H x y v u Q I rx ry h hs
 obtain ⟨p, xs, i, z, rfl, rfl, hq, he, q⟩ := h
 cases rx
 obtain ⟨t, rfl⟩ := ry
 obtain ⟨its, r, pl, hz⟩ := I.list hq
 obtain ⟨j, h1, h2, h3, h4, h5⟩ := oqC he
 obtain ⟨w, ew, rw'⟩ := r.get h2
 have hl := r.length
 have hn := line63
 have fin : EP X pins σ Q w s := ⟨z, H, I, rw', q⟩
 by_cases h0 : 0 ≤ i
 ·have hj : i.toNat = j := by
   rw [seqIndex_of h0 h5] at h1
   exact Option.some.inj h1
  exact item_listR pl.isList h0 (by omega) (by rw [hj]; simpa using ew) fin hs
 ·have hj : (i + (its.toArray.size : Int)).toNat = j := by
   rw [seqIndex_neg (by omega) h4] at h1
   rw [List.size_toArray, ← hl]
   exact Option.some.inj h1
  exact subscriptTail_builtinR (x := w) pl.isList.typeIs slot_list_getitem.lookup
   (wpAny_getItem_list_neg (Q := fun r s' => r = w ∧ EP X pins σ Q r s') pl.isList (by omega) (by rw [List.size_toArray] <;> omega) (by omega) (by rw [hj]; simpa using ew) ⟨rfl, fin⟩) hs
theorem vqY : IxR X (rIxT X.K) := by
 intro value slice pins s σ H x y v u Q I rx ry h hs
 obtain ⟨p, xs, i, z, rfl, rfl, hq, he, q⟩ := h
 cases rx
 obtain ⟨t, rfl⟩ := ry
 obtain ⟨its, r, pl, hz⟩ := I.tuple hq
 obtain ⟨j, h1, h2, h3, h4, h5⟩ := oqC he
 obtain ⟨w, ew, rw'⟩ := r.get h2
 have hl := r.length
 have hn := line63
 have fin : EP X pins σ Q w s := ⟨z, H, I, rw', q⟩
 exact subscriptTail_builtinR (x := w) pl.typeIs slot_tuple_getitem.lookup
  (getItem_tuple (j := j) (Q := fun r s' => r = w ∧ EP X pins σ Q r s') pl (by omega) (by omega) (by rw [List.size_toArray, ← hl]; exact h1) (by simpa using ew) ⟨rfl, fin⟩) hs
theorem wqx : IxR X rIxS := by
 intro value slice pins s σ H x y v u Q I rx ry h hs
 obtain ⟨z, i, c, rfl, rfl, hz, he, q⟩ := h
 obtain ⟨t, rfl⟩ := rx
 obtain ⟨t', rfl⟩ := ry
 obtain ⟨j, h1, h2, h3, h4, h5⟩ := oqC he
 have hl : z.cps.toList.length = z.length := by simp [Str.length]
 rw [hl] at h1 h4 h5
 have hn := line63
 exact tail_any (typeIs_str s z t) slot_str_getitem.lookup (getItem_str (c := c) (by
  have e1 : decide (i < -(2 ^ 63 : Int)) = false := decide_eq_false (by omega)
  have e2 : decide (i ≥ 2 ^ 63) = false := decide_eq_false (by omega)
  rw [e1, e2, Bool.or_false]) (by rw [h1]; simpa using h2) ⟨.str ⟨#[c]⟩, H, I.tok _, ⟨_, rfl⟩, q⟩) hs
def rIx (K : PySem.W.Frag) : R2 := fun x y H Q => rIxL K x y H Q ∨ rIxT K x y H Q ∨ rIxS x y H Q
theorem wqF : IxR X (rIx X.K) := vqd.or (vqY.or wqx)
def rSetL : V → V → V → Hp → (Hp → Prop) → Prop := fun o i v H Q => ∃ p xs k j, o = .ref p ∧ i = .int k ∧ H p = some (.lst xs) ∧ ixN xs.length k = some j ∧ Q (upd H p (.lst (xs.set j v)))
theorem mq0 (lo hi : Option Int) (n : Nat) : (sliceBounds lo hi none n).1 = ((HT.sIx n 0 lo : Nat) : Int) ∧ (sliceBounds lo hi none n).2.1 = ((HT.sIx n n hi : Nat) : Int) ∧ (sliceBounds lo hi none n).2.2 = 1 := by
 refine ⟨?_, ?_, rfl⟩
 ·cases lo with
  | none => simp [sliceBounds, HT.sIx]
  | some i =>
   simp only [sliceBounds, HT.sIx, Option.getD_none, show (1 : Int) > 0 by decide, if_true]
   by_cases h : i < 0
   ·simp only [h, if_true] <;> omega
   ·simp only [h, if_false] <;> omega
 ·cases hi with
  | none => simp [sliceBounds, HT.sIx]
  | some i =>
   simp only [sliceBounds, HT.sIx, Option.getD_none, show (1 : Int) > 0 by decide, if_true]
   by_cases h : i < 0
   ·simp only [h, if_true] <;> omega
   ·simp only [h, if_false] <;> omega
theorem lqZ (its : List Value) (lo hi : Option Int) : slicePick its.toArray lo hi none = ((its.drop (HT.sIx its.length 0 lo)).take (HT.sIx its.length its.length hi - HT.sIx its.length 0 lo)).toArray := by
 obtain ⟨h1, h2, h3⟩ := mq0 lo hi its.toArray.size
 unfold slicePick
 rw [h1, h2, h3]
 simp only [sliceRange_one, pick_run, List.size_toArray] <;> rfl
def rSlL (K : PySem.W.Frag) : V → Option Int → Option Int → Hp → VK → Prop := fun x lo hi H Q => ∃ a xs, x = .ref a ∧ SqL K H a xs ∧ ∀ p, H p = none → Q (.ref p) (upd H p (.lst (cutV xs lo hi)))
theorem uq0 : SlR X (rSlL X.K) := by
 intro pins s σ H x v vl vu lo hi sl Q I rx hs pl pu h
 obtain ⟨a, xs, rfl, hx, q⟩ := h
 cases rx
 obtain ⟨its, r, ht, hz⟩ := I.list hx
 have hlen := r.length
 refine ⟨"list", _, slot_list_getitem.lookup, ht.isList.typeIs, ?_⟩
 refine wpAny_getItem_list_slice ht.isList hs pl pu .none (by simp) ?_ (by rw [List.size_toArray] <;> omega)
 rw [lqZ, ← hlen]
 refine ⟨.ref s.heap.objs.size, _, I.laid (t' := s.toks) (o := .lst (cutV xs lo hi)) (fun b ob q => Heap.get?_push_of_some _ q) (Nat.le_refl _) ?_, rfl, q _ (I.hok.fresh (Nat.le_refl _))⟩
 exact ⟨Nat.le_trans (oqL xs lo hi) hz, _, 0, (r.drop (HT.sIx xs.length 0 lo)).take (HT.sIx xs.length xs.length hi - HT.sIx xs.length 0 lo), Heap.get?_push_size _ rfl⟩
def flatV : V → Bool
 | .non => true
 | .bl _ => true
 | .int _ => true
 | .str _ => true
 | _ => false
def eqV : V → V → Bool
 | .non, .non => true
 | .bl a, .bl b => a == b
 | .bl a, .int b => (if a then 1 else 0) == b
 | .int a, .bl b => a == (if b then 1 else 0)
 | .int a, .int b => a == b
 | .str a, .str b => a == b
 | _, _ => false
theorem wqQ {A : Around} {s : Shared} {y x : V} {u v : Value} (ry : RelV y u) (rx : RelV x v) (fy : flatV y = true) (fx : flatV x = true) : SeqAt.EqAt A s u v (eqV y x) := by
 cases y with
 | non =>
  cases ry
  cases x with
  | non => cases rx; exact SeqAt.EqAt.same _
  | bl b => cases rx; exact SeqAt.EqAt.none_bool b
  | int b => obtain ⟨t, rfl⟩ := rx; exact SeqAt.EqAt.none_int b t
  | str b => obtain ⟨t, rfl⟩ := rx; exact SeqAt.EqAt.none_str b t
  | _ => exact absurd (show false = true from fx) Bool.false_ne_true
 | bl a =>
  cases ry
  cases x with
  | non => cases rx; exact SeqAt.EqAt.bool_none a
  | bl b => cases rx; exact SeqAt.EqAt.bool_bool a b
  | int b => obtain ⟨t, rfl⟩ := rx; exact SeqAt.EqAt.bool_int a b t
  | str b => obtain ⟨t, rfl⟩ := rx; exact SeqAt.EqAt.bool_str a b t
  | _ => exact absurd (show false = true from fx) Bool.false_ne_true
 | int a =>
  obtain ⟨t', rfl⟩ := ry
  cases x with
  | non => cases rx; exact SeqAt.EqAt.int_none a t'
  | bl b => cases rx; exact SeqAt.EqAt.int_bool a t' b
  | int b => obtain ⟨t, rfl⟩ := rx; exact SeqAt.EqAt.int_int a t' b t
  | str b => obtain ⟨t, rfl⟩ := rx; exact SeqAt.EqAt.int_str a t' b t
  | _ => exact absurd (show false = true from fx) Bool.false_ne_true
 | str a =>
  obtain ⟨t', rfl⟩ := ry
  cases x with
  | non => cases rx; exact SeqAt.EqAt.str_none a t'
  | bl b => cases rx; exact SeqAt.EqAt.str_bool a t' b
  | int b => obtain ⟨t, rfl⟩ := rx; exact SeqAt.EqAt.str_int a t' b t
  | str b => obtain ⟨t, rfl⟩ := rx; exact SeqAt.EqAt.str_str a t' b t
  | _ => exact absurd (show false = true from fx) Bool.false_ne_true
 | _ => exact absurd (show false = true from fy) Bool.false_ne_true
def eqU (x : V) (u : Value) : Bool := match u with
 | .none => eqV .non x
 | .bool b => eqV (.bl b) x
 | .int i _ => eqV (.int i) x
 | .str z _ => eqV (.str z) x
 | _ => false
theorem tqo {x y : V} {u : Value} (r : RelV y u) (f : flatV y = true) : eqU x u = eqV y x := by
 cases y with
 | non => cases r; rfl
 | bl b => cases r; rfl
 | int i => obtain ⟨t, rfl⟩ := r; rfl
 | str z => obtain ⟨t, rfl⟩ := r; rfl
 | _ => exact absurd (show false = true from f) Bool.false_ne_true
theorem kqM {x : V} : ∀ {xs : List V} {us : List Value}, Vals xs us → xs.all flatV = true → us.any (eqU x) = xs.any fun y => eqV y x
 | _, _, .nil, _ => rfl
 | y :: xs, u :: us, .cons r t, f => by
  rw [List.all_cons, Bool.and_eq_true] at f
  rw [List.any_cons, List.any_cons, tqo r f.1, kqM t f.2]
theorem iqe {A : Around} {s : Shared} {x : V} {v : Value} (rx : RelV x v) (fx : flatV x = true) : ∀ {xs : List V} {us : List Value}, Vals xs us → xs.all flatV = true → ∀ u ∈ us, SeqAt.EqAt A s u v (eqU x u)
 | _, _, .nil, _ => fun u hu => by cases hu
 | y :: xs, u :: us, .cons r t, f => fun u' hu => by
  rw [List.all_cons, Bool.and_eq_true] at f
  rcases List.mem_cons.mp hu with rfl | hu
  ·rw [tqo r f.1]; exact wqQ r rx f.1 fx
  ·exact iqe rx fx t f.2 u' hu
def inV (x : V) (xs : List V) : Bool := xs.any fun y => eqV y x
def rIn (K : PySem.W.Frag) (neg : Bool) : R2 := fun x y H Q => ∃ p xs, y = .ref p ∧ (SqL K H p xs ∨ SqT K H p xs) ∧ flatV x = true ∧ xs.all flatV = true ∧ Q (.bl (if neg then !inV x xs else inV x xs)) H
theorem pq2 : OpR X (compareOp .In) (rIn X.K false) := by
 intro pins s σ H x y v u Q I rx ry h
 obtain ⟨p, xs, rfl, hq, fx, fs, q⟩ := h
 cases ry
 rcases hq with hq | hq
 ·obtain ⟨its, r, pl, hz⟩ := I.list hq
  refine SeqAt.in_listAt (eqU x) pl.isList (fun w hw => iqe rx fx r fs w (by simpa using hw)) ⟨.bl _, H, I, rfl, ?_⟩
  rw [show its.toArray.any (eqU x) = its.any (eqU x) by simp, kqM r fs]
  exact q
 ·obtain ⟨its, r, pl, hz⟩ := I.tuple hq
  refine SeqAt.in_tupleAt (eqU x) pl (fun w hw => iqe rx fx r fs w (by simpa using hw)) ⟨.bl _, H, I, rfl, ?_⟩
  rw [show its.toArray.any (eqU x) = its.any (eqU x) by simp, kqM r fs]
  exact q
theorem nqt : OpR X (compareOp .NotIn) (rIn X.K true) := by
 intro pins s σ H x y v u Q I rx ry h
 obtain ⟨p, xs, rfl, hq, fx, fs, q⟩ := h
 cases ry
 rcases hq with hq | hq
 ·obtain ⟨its, r, pl, hz⟩ := I.list hq
  refine SeqAt.notIn_listAt (eqU x) pl.isList (fun w hw => iqe rx fx r fs w (by simpa using hw)) ⟨.bl _, H, I, rfl, ?_⟩
  rw [show its.toArray.any (eqU x) = its.any (eqU x) by simp, kqM r fs]
  exact q
 ·obtain ⟨its, r, pl, hz⟩ := I.tuple hq
  refine SeqAt.notIn_tupleAt (eqU x) pl (fun w hw => iqe rx fx r fs w (by simpa using hw)) ⟨.bl _, H, I, rfl, ?_⟩
  rw [show its.toArray.any (eqU x) = its.any (eqU x) by simp, kqM r fs]
  exact q
theorem nqy : CallR X (.builtin "len") (fun xs H Q => ∃ p ys, xs = [.ref p] ∧ (SqL X.K H p ys ∨ SqT X.K H p ys) ∧ Q (.int ys.length) H) := by
 intro pins s σ H xs us Q I r h
 obtain ⟨p, ys, rfl, hq, q⟩ := h
 obtain ⟨u, rfl, rx⟩ := vals1 r
 cases rx
 have hn := line63
 rcases hq with hq | hq
 ·obtain ⟨its, r', pl, hz⟩ := I.list hq
  have hlen := r'.length
  exact Calls.call_len_list pl.isList (by simp only [List.size_toArray] <;> omega) ⟨.int ys.length, H, I.tok _, ⟨s.toks + 1, by rw [List.size_toArray, hlen]⟩, q⟩
 ·obtain ⟨its, r', pl, hz⟩ := I.tuple hq
  have hlen := r'.length
  exact len_tuple pl (by simp only [List.size_toArray] <;> omega) ⟨.int ys.length, H, I.tok _, ⟨s.toks + 1, by rw [List.size_toArray, hlen]⟩, q⟩
theorem nqQ : CallR X (.builtin "len") (fun xs H Q => ∃ z, xs = [.str z] ∧ z.length ≤ sizeLine ∧ Q (.int z.length) H) := by
 intro pins s σ H xs us Q I r h
 obtain ⟨z, rfl, hz, q⟩ := h
 obtain ⟨u, rfl, t, rfl⟩ := vals1 r
 have hn := line63
 exact len_str (by omega) ⟨.int z.length, H, I.tok _, ⟨_, rfl⟩, q⟩
theorem iqt : CallR X (.type "tuple") (fun xs H Q => ∃ p ys, xs = [.ref p] ∧ ((SqL X.K H p ys ∧ ∀ l, H l = none → Q (.ref l) (upd H l (.tup ys))) ∨ (SqT X.K H p ys ∧ Q (.ref p) H))) := by
 intro pins s σ H xs us Q I r h
 obtain ⟨p, ys, rfl, h⟩ := h
 obtain ⟨u, rfl, rx⟩ := vals1 r
 cases rx
 rcases h with ⟨hq, q⟩ | ⟨hq, q⟩
 ·obtain ⟨its, r', pl, hz⟩ := I.list hq
  have hlen := r'.length
  refine call_tuple_list pl.isList (fun h' kp => ?_) (by simp only [List.size_toArray] <;> omega)
  have I1 : Inv X pins σ H { s with heap := h' } := I.kept (t' := s.toks) kp
  have I2 : Inv X pins σ (upd H h'.objs.size (.tup ys)) { s with heap := h'.push { cls := .type "tuple", data := .seq its.toArray } } :=
   I1.laid (t' := s.toks) (fun b o e => Heap.get?_push_of_some _ e) (Nat.le_refl _) (show ObjOk X.prog X.w _ _ _ (.tup ys) from ⟨hz, its, r', IsTup.new _ _⟩)
  exact ⟨.ref h'.objs.size, _, I2, rfl, q _ (I1.hok.fresh (Nat.le_refl _))⟩
 ·obtain ⟨its, r', pl, hz⟩ := I.tuple hq
  exact call_tuple_same pl ⟨.ref p, H, I, rfl, q⟩
def tyV (K : PySem.W.Frag) (T : String) (x : V) (H : Hp) : Prop := match x with
 | .str _ => T = "str"
 | .int _ => T = "int"
 | .ref p => (T = "list" ∧ ∃ xs, SqL K H p xs) ∨ (T = "tuple" ∧ ∃ o, K.lookup p = some o ∧ o.cls = .type "tuple" ∧ o.dict = none) ∨
   (T = "dict" ∧ ((∃ kvs, H p = some (.dK kvs)) ∨ ∃ kvs, H p = some (.dT kvs))) ∨ (T = "set" ∧ ∃ S n, H p = some (.set S n))
 | _ => False
theorem tqn {pins : List (Addr × Obj)} {σ : St} {H : Hp} {s : Shared} {T : String} {x : V} {v : Value} (I : Inv X pins σ H s) (r : RelV x v) (ty : tyV X.K T x H) :
  s.TypeIs v T ∧ ∀ a, v = .ref a → ∃ ob, s.heap.get? a = some ob ∧ ob.dict = none := by
 cases x with
 | str z =>
  obtain ⟨t, rfl⟩ := r
  cases (show T = "str" from ty)
  exact ⟨typeIs_str s z t, fun _ e => nomatch e⟩
 | int i =>
  obtain ⟨t, rfl⟩ := r
  cases (show T = "int" from ty)
  exact ⟨typeIs_int s i t, fun _ e => nomatch e⟩
 | ref p =>
  cases r
  rcases ty with ⟨rfl, xs, hq⟩ | ⟨rfl, o, hk, hc, hd⟩ | ⟨rfl, hk⟩ | ⟨rfl, S, n, hk⟩
  ·obtain ⟨its, _, pl, _⟩ := I.list hq
   refine ⟨pl.isList.typeIs, fun a e => ?_⟩
   cases e
   obtain ⟨o, n, e, c, hd, _⟩ := pl
   exact ⟨o, e, hd⟩
  ·refine ⟨⟨o, I.kIn p o hk, hc⟩, fun a e => ?_⟩
   cases e
   exact ⟨o, I.kIn _ o hk, hd⟩
  ·have z : ∃ o, s.heap.get? p = some o ∧ o.ExactDict := by
    rcases hk with ⟨kvs, hk⟩ | ⟨kvs, hk⟩
    ·obtain ⟨_, _, _, _, o, _, _, e, ex, _⟩ := I.hok p _ hk
     exact ⟨o, e, ex⟩
    ·obtain ⟨_, _, _, _, o, _, _, e, ex, _⟩ := I.hok p _ hk
     exact ⟨o, e, ex⟩
   obtain ⟨o, e, ex⟩ := z
   refine ⟨⟨o, e, ex.1⟩, fun a e2 => ?_⟩
   cases e2
   exact ⟨o, e, ex.2.1⟩
  ·obtain ⟨o, _, _, _, e, ex, _⟩ := I.hok p _ hk
   refine ⟨⟨o, e, ex.1⟩, fun a e2 => ?_⟩
   cases e2
   exact ⟨o, e, ex.2.1⟩
 | _ => exact False.elim ty
def tBM0 (K : PySem.W.Frag) (T : String) (r : V → List V → Hp → VK → Prop) (to : TE) : TE := fun σ H Q => to σ H fun x H1 => tyV K T x H1 ∧ r x [] H1 Q
def tBM (K : PySem.W.Frag) (T : String) (r : V → List V → Hp → VK → Prop) (to : TE) (t : TA) : TE := fun σ H Q => to σ H fun x H1 => tyV K T x H1 ∧ t σ H1 fun xs H2 => r x xs H2 Q
variable {o e : Expr} {es : List Expr} {to : TE} {t : TA} {name : Str} {apos cpos : Pos} {T id : String} {r : V → List V → Hp → VK → Prop}
theorem vqV (pa : PlainAttrs T) (slot : Slot T name id) (hty : typeOf (.builtin id) = pure (.type "method_descriptor")) (hm : MtR X id r) (ho : PE X o to)
  (hbase : attributeBase o name X.env (eval o X.env) = eval o X.env := by rfl) (hline : (apos.endLine == cpos.line) = true := by rfl) : PE X (.Call (.Attribute o name apos) [] [] cpos) (tBM0 X.K T r to) := by
 intro pins s σ H Q I h
 refine wpAny_Call_method0_late hbase hline (thn (ho pins s σ H _ I h) fun v s1 W' => ?_)
 obtain ⟨x, H1, I1, r1, ty, q1⟩ := W'
 obtain ⟨h1, h2⟩ := tqn I1 r1 ty
 exact ⟨T, id, pa, slot, hty, h1, h2, Calls.callWith_builtin rfl (PySem.evalArgs_none (hm pins s1 σ H1 x [] v [] Q I1 r1 .nil q1))⟩
theorem wq9 (pa : PlainAttrs T) (slot : Slot T name id) (hty : typeOf (.builtin id) = pure (.type "method_descriptor")) (hm : MtR X id r) (ho : PE X o to) (ha : PA X (e :: es) t)
  (hbase : attributeBase o name X.env (eval o X.env) = eval o X.env := by rfl)
  (hfew : ((backTo cpos (starEach (e :: es) X.env)).all (fun x => !x.1) && (backToKw cpos (keywordEach [] X.env)).all (fun x => x.1.isSome)
   && decide ((e :: es).length + ([] : List Keyword).length + (if ([] : List Keyword).isEmpty then 0 else 1) < 30)) = true := by rfl)
  (hline : (apos.endLine == cpos.line) = true := by rfl) (hs : starEach (e :: es) X.env = (false, eval e X.env) :: starEach es X.env := by rfl) (hplain : (backTo cpos (starEach es X.env)).any (·.1) = false := by rfl) :
  PE X (.Call (.Attribute o name apos) (e :: es) [] cpos) (tBM X.K T r to t) := by
 intro pins s σ H Q I h
 refine wpAny_Call_method_late hbase hfew hline rfl (thn (ho pins s σ H _ I h) fun v s1 W' => ?_)
 obtain ⟨x, H1, I1, r1, ty, q1⟩ := W'
 obtain ⟨h1, h2⟩ := tqn I1 r1 ty
 refine ⟨T, id, pa, slot, hty, h1, h2, ?_⟩
 have hA := ha cpos pins s1 σ H1 _ I1 q1
 rw [hs] at hA ⊢
 refine Calls.callWith_builtin (by show (false || (backTo cpos (starEach es X.env)).any (·.1)) = false; rw [hplain] <;> rfl) (Calls.evalArgs_plain ?_)
 exact thn hA fun us s2 ⟨vs, H2, I2, r2, q2⟩ => hm pins s2 σ H2 x vs v us Q I2 r1 r2 q2
end
def MtM (X : Cx) (id : String) (r : V → List V → Hp → VK → Prop) : Prop :=
 ∀ (pins : List (Addr × Obj)) (s : Shared) (σ : St) (H : Hp) (x : V) (xs : List V) (v : Value) (us : List Value) (Q : VK), Inv X pins σ H s → RelV x v → Vals xs us → r x xs H Q →
  wpAny (model X.prog X.w) X.A (call (.builtin id) (v :: us)) (EP X pins σ Q) X.xe s
theorem Vals.one : ∀ {x : V} {us : List Value}, Vals [x] us → ∃ u, us = [u] ∧ RelV x u
 | _, _, .cons r .nil => ⟨_, rfl, r⟩
section
variable {X : Cx} {pins : List (Addr × Obj)} {σ : St} {H : Hp} {s : Shared} {l b : Addr} {xs ys zs : List V}
theorem Inv.lset {its its' : List Value} {n : Nat} {f : Array Value → Array Value} {t' : Nat} (I : Inv X pins σ H s) (hH : H l = some (.lst xs))
  (e : s.heap.get? l = some { cls := .type "list", data := .seq its.toArray n }) (hf : f its.toArray = its'.toArray) (hv : Vals ys its') (hz : ys.length ≤ sizeLine) :
  Inv X pins σ (upd H l (.lst ys)) { s with heap := s.heap.update l (Obj.mapSeq f), toks := t' } := by
 have q := PySem.IsL.update e f
 rw [hf] at q
 refine I.write (x := l) (e := l) (by rw [hH]; exact trivial) (.inl rfl) (fun b' u hb hu => (Heap.get?_update_other s.heap (Obj.mapSeq f) (Ne.symm hb)).trans hu) ⟨_, q⟩ ?_
 exact ⟨hz, its', _, hv, q⟩
theorem Inv.lnew {its : List Value} {t' : Nat} (I : Inv X pins σ H s) (hv : Vals ys its) (hz : ys.length ≤ sizeLine) :
  Inv X pins σ (upd H s.heap.objs.size (.lst ys)) { s with heap := s.heap.push { cls := .type "list", data := .seq its.toArray }, toks := t' } :=
 I.laid (fun _ _ q => Heap.get?_push_of_some _ q) (Nat.le_refl _) ⟨hz, its, 0, hv, Heap.get?_push_size _ rfl⟩
theorem Inv.fresh (I : Inv X pins σ H s) : H s.heap.objs.size = none := I.hok.fresh (Nat.le_refl _)
theorem Inv.lstM (I : Inv X pins σ H s) (hH : H l = some (.lst xs)) : xs.length ≤ sizeLine ∧ ∃ (its : List Value) (n : Nat), Vals xs its ∧ xs.length = its.length ∧ s.heap.get? l = some { cls := .type "list", data := .seq its.toArray n } := by
 obtain ⟨z, its, n, r, e⟩ := I.hok l _ hH
 exact ⟨z, its, n, r, r.length, e⟩
theorem notLongL {n : Nat} (h : n ≤ sizeLine) : Builtin.List.listTooLong n = false := by
 unfold Builtin.List.listTooLong
 exact decide_eq_false (by omega)
end
section
variable {X : Cx}
def rAppend : V → List V → Hp → VK → Prop := fun x vs H Q => ∃ l xs y, x = .ref l ∧ vs = [y] ∧ H l = some (.lst xs) ∧ xs.length < sizeLine ∧ Q .non (upd H l (.lst (xs ++ [y])))
theorem dqW : MtM X "list.append" rAppend := by
 intro pins s σ H x vs v us Q I rx rv h
 obtain ⟨l, xs, y, rfl, rfl, hH, hz, q⟩ := h
 cases rx
 obtain ⟨u, rfl, ru⟩ := rv.one
 obtain ⟨z, its, n, r, hl, e⟩ := I.lstM hH
 refine call_meets F.slot_list_append ⟨_, e, rfl⟩ F.entry_list_append (F.args_list_append_2 _ _) (PySem.list_append l its.toArray n u (by rw [List.size_toArray]; omega)) ⟨e, ?_⟩
 refine ⟨.non, _, I.lset (its' := its ++ [u]) hH e (by simp) (r.append (.cons ru .nil)) ?_, rfl, q⟩
 rw [List.length_append, List.length_singleton]
 omega
def rExtend : V → List V → Hp → VK → Prop := fun x vs H Q => ∃ l b xs zs, x = .ref l ∧ vs = [.ref b] ∧ H l = some (.lst xs) ∧ H b = some (.lst zs) ∧ xs.length + zs.length ≤ sizeLine ∧ Q .non (upd H l (.lst (xs ++ zs)))
theorem vqD : MtM X "list.extend" rExtend := by
 intro pins s σ H x vs v us Q I rx rv h
 obtain ⟨l, b, xs, zs, rfl, rfl, hH, hB, hz, q⟩ := h
 cases rx
 obtain ⟨u, rfl, ru⟩ := rv.one
 cases ru
 obtain ⟨z, its, n, r, hl, e⟩ := I.lstM hH
 obtain ⟨z2, its2, n2, r2, hl2, e2⟩ := I.lstM hB
 have hsz : its.toArray.size + its2.toArray.size ≤ sizeLine := by rw [List.size_toArray, List.size_toArray]; omega
 have hlong : ¬ (!its.toArray.isEmpty && Builtin.List.listTooLong (its.toArray.size + its2.toArray.size)) = true := by
  rw [notLongL hsz, Bool.and_false]
  exact Bool.false_ne_true
 refine call_meets F.slot_list_extend ⟨_, e, rfl⟩ F.entry_list_extend (F.args_list_extend_2 _ _)
  (AutoSeq1.list_extend_list_list_0 l its.toArray n b its2.toArray n2 hlong (by rw [List.size_toArray]; omega) (by omega)) ⟨e, e2, ?_⟩
 refine ⟨.non, _, I.lset (its' := its ++ its2) hH e (by simp) (r.append r2) ?_, rfl, q⟩
 rw [List.length_append]
 omega
def rPop : V → List V → Hp → VK → Prop := fun x vs H Q => ∃ l xs y, x = .ref l ∧ vs = [] ∧ H l = some (.lst xs) ∧ xs[xs.length - 1]? = some y ∧ Q y (upd H l (.lst xs.dropLast))
def rPopAt : V → List V → Hp → VK → Prop := fun x vs H Q => ∃ l xs i k y, x = .ref l ∧ vs = [.int i] ∧ H l = some (.lst xs) ∧ -(2 ^ 63) ≤ i ∧ i < 2 ^ 63 ∧ seqIndex? i xs.length = some k ∧ xs[k]? = some y ∧ Q y (upd H l (.lst (xs.eraseIdx k)))
def rReverse : V → List V → Hp → VK → Prop := fun x vs H Q => ∃ l xs, x = .ref l ∧ vs = [] ∧ H l = some (.lst xs) ∧ Q .non (upd H l (.lst xs.reverse))
def rCat : R2 := fun x y H Q => ∃ l b xs zs, x = .ref l ∧ y = .ref b ∧ H l = some (.lst xs) ∧ H b = some (.lst zs) ∧ xs.length + zs.length ≤ sizeLine ∧ ∀ p, H p = none → Q (.ref p) (upd H p (.lst (xs ++ zs)))
theorem vqO : OpR X (binaryOp .Add) rCat := by
 intro pins s σ H x y v u Q I rx ry h
 obtain ⟨l, b, xs, zs, rfl, rfl, hH, hB, hz, q⟩ := h
 cases rx
 cases ry
 obtain ⟨z, its, n, r, hl, e⟩ := I.lstM hH
 obtain ⟨z2, its2, n2, r2, hl2, e2⟩ := I.lstM hB
 refine PySem.P.add_list e e2 ?_ (by rw [List.size_toArray, List.size_toArray]; omega)
 have ea : its.toArray ++ its2.toArray = (its ++ its2).toArray := by simp
 rw [ea]
 exact ⟨.ref _, _, I.lnew (t' := s.toks) (r.append r2) (by rw [List.length_append]; omega), rfl, q _ I.fresh⟩
end
section
variable {prog : Program} {w : World} {A : Around} {E : Value → Shared → Prop} {s : Shared}
set_option maxRecDepth 100000 in
end
section
variable {X : Cx}
end
end L2
namespace Att
open PySem PySem.W PySem.Calls PyProof.Rows
theorem kqk {P : Params} {h : Heap} : ∀ (ns : List Int) (vs : List Value), WellAll P h vs (ns.map WData.int) → IntsAre vs ns := by
 intro ns
 induction ns with
 | nil =>
  intro vs w
  rw [List.map_nil] at w
  cases w
  exact .nil
 | cons n ns ih =>
  intro vs w
  rw [List.map_cons] at w
  cases w with
  | cons a b =>
   cases a
   exact .cons _ _ (ih _ b)
theorem rql {l : OpenLaw} {n : Nat} (hn : l.most = some n) {P : Params} {h : Heap} {args : List WData} {vals : List Value}
  (hpre : l.row.toRowW.claim.pre args = true) (hwl : WellAll P h vals args) :
  ∃ a vs ns, vals = [Value.ref a] ∧ args = [WData.list (ns.map WData.int)] ∧ h.get? a = some { cls := .type "list", data := .seq vs.toArray } ∧ IntsAre vs ns ∧ ns.length ≤ n := by
 have hsh : WShape.hasAll [] args [.list .int] = true := (pre_splitW hpre).1
 have hc : l.pre.holds [] { args := args } = true := (pre_splitW hpre).2
 obtain ⟨d, r, rfl, h1, h2⟩ := hasAllW_cons hsh
 obtain rfl := hasAllW_nil h2
 obtain ⟨xs, rfl, h3⟩ := hasW_list h1
 obtain ⟨ns, rfl⟩ := items_int h3
 have hlen : ns.length ≤ n := by
  unfold OpenLaw.pre at hc
  have h4 : (WTm.not (.lt (.lit (.int (n : Int))) (.len (.arg 0)))).holds [] { args := [.list (ns.map .int)] } = true := by
   have h4 := (holds_andW hc).1
   rw [hn] at h4
   exact h4
  have h5 := condW_of h4 (w_not (w_lt w_lit (w_len_list (w_arg rfl))))
  rw [List.length_map] at h5
  refine Nat.le_of_not_lt fun q => ?_
  have q' : (n : Int) < ((ns.length : Nat) : Int) := by omega
  first
   | (rw [decide_eq_true q'] at h5; exact absurd h5 (by decide))
   | (simp at h5; omega)
 cases hwl with
 | cons w1 w2 =>
  cases w2
  cases w1 with
  | list ho hall => exact ⟨_, _, ns, rfl, rfl, ho, kqk ns _ hall, hlen⟩
theorem qqq (l : OpenLaw) (args : List WData) : l.row.toRowW.claim.post args (.bool true) args = true :=
 postW_of (r := l.row.toRowW) (X := (true == true))
  (show WShape.has [] (.bool true) .bool = true by first | rfl | decide | simp [WShape.has, WShape.arms, WShape.armsAll])
  (show (WTm.eq .res (.lit (.bool true))).value [] { args := args, res := some (.bool true), after := args } = some (.bool (true == true)) from w_eq_bool (w_res rfl) w_lit) rfl
theorem attach_call {l : OpenLaw} {n : Nat} {q : Program} {loose : List Str} {XP : (Str → Option Value) → Heap → Prop} {YP : World → Heap → Prop} {d : DefRec}
  (hn : l.most = some n) (hdf : d.params.defaults = [])
  (call : ∀ (w : World) (s₀ s₁ : Shared) (mg mb : Str → Option Value) (fa : Addr) (o : Obj) (pm cd doc : Value) (a : Addr) (vs : List Value) (ns : List Int),
   Ground q loose [] XP w s₀ mg mb s₁.heap → YP w s₁.heap →
   s₁.heap.get? fa = some o → o.data = .func (docDef d.name d.params d.body d.scope pm cd doc) → s₁.heap.CodeRec cd d.name → mg d.name = some (.ref fa) →
   s₁.heap.get? a = some { cls := .type "list", data := .seq vs.toArray } → IntsAre vs ns → ns.length ≤ n → s₁.gens = #[] →
   codeAny (model l.prog w) callerA (.call (.ref fa) ⟨[.ref a], []⟩) (fun r s' => r = .ok (.ret (.bool true)) ∧ OldK s₁.heap s'.heap ∧ s'.os = s₁.os ∧ AllBare s'.gens) s₁) :
  WalkO q loose XP YP l.row.toRowW d [] (fun f vs => PySem.call f vs) := by
 intro w s₀ s₁ mg mb G Y fa o pm cd doc dV kV ho hd hcd hD hmg hg args vals as hpre hlay hrd hwl hlo
 obtain rfl : dV = .none := Dflts.none hD hdf
 obtain rfl : kV = .none := Dflts.noKw hD
 obtain ⟨a, vs, ns, rfl, rfl, hobj, hints, hlen⟩ := rql hn hpre hwl
 refine enter_call (codeAny_mono (call w s₀ s₁ mg mb fa o pm cd doc a vs ns G Y ho (fd_plain hd) hcd hmg hobj hints hlen hg) fun r s' hq => ?_)
 obtain ⟨rfl, h2, h3, h4⟩ := hq
 exact ⟨.inl ⟨.bool true, .bool true, [], rfl, fun _ => rfl, .bool true, qqq l _, fun _ => ⟨List.Pairwise.nil, fun _ hm => (nomatch hm)⟩⟩, h2, h3, h4⟩
section
variable {prog : Program} {w : World} {A : Around} {E : Value → Shared → Prop} {s : Shared} {K : Frag}
def ledger (h : Heap) (L d : Addr) : List (Addr × Obj) := (List.range h.objs.size).filterMap fun a => if a = L ∨ a = d then none else (h.get? a).map fun o => (a, o)
end
end Att
namespace L2
open PySem PySem.Spec PyProof.Rows
theorem nqE : ∀ {vs : List Value} {ns : List Int}, IntsAre vs ns → Vals (ns.map V.int) vs
 | _, _, .nil => .nil
 | _, _, .cons n t h => .cons ⟨t, rfl⟩ (nqE h)
def Only (H : Hp) : Prop := ∀ b, H b = none ∨ ∃ o xs, H b = some (.frz o (.lst xs))
theorem rq0 {P : Program} {w : World} {K : PySem.W.Frag} {mg mb : Str → Option Value} {CX : CXT} {k : Nat} {fa a : Addr} {fd : FuncData} {x : Str} {sp : Sp} {s₁ : Shared} {vs : List Value} {ns : List Int}
  (KX : K.In s₁.heap) (hns : s₁.heap.Ns mainGlobals mg) (hb : s₁.heap.Ns builtinsNs mb) (hbb : ∀ x : Str, x ≠ "__name__" → mb x = bootBuiltins x) (hlim : s₁.heap.NoLimit) (hg : s₁.gens = #[])
  (ha : s₁.heap.get? a = some { cls := .type "list", data := .seq vs.toArray }) (hi : IntsAre vs ns) (hl : ns.length ≤ sizeLine) (hr : Room k callerA)
  (F : ∀ base : Heap, K.In base → base.Ns mainGlobals mg → FnOk P w K mg base CX k fa fd [x] sp) (hbind : ∀ (s : Shared) (u : Value), BindsTo s fd ⟨[u], []⟩ [(x, u)])
  (hsp : ∀ H : Hp, Only H → SqL K H a (ns.map V.int) → sp [.ref a] H (fun v _ => v = .bl true) fun _ _ _ => False)
  (hCX : ∀ H e s', CX [] H s₁ (fun _ _ _ => False) e s' → False) :
  codeAny (model P w) callerA (.call (.ref fa) ⟨[.ref a], []⟩) (fun r s' => r = .ok (.ret (.bool true)) ∧ OldK s₁.heap s'.heap ∧ s'.os = s₁.os ∧ AllBare s'.gens) s₁ := by
 have rv := nqE hi
 have lenV := hi.length
 have core : ∀ H : Hp, Only H → SqL K H a (ns.map V.int) → HOk P w H s₁.heap → (∀ b, H b ≠ none → b = a) → (H a ≠ none → K.lookup a = none) →
   codeAny (model P w) callerA (.call (.ref fa) ⟨[.ref a], []⟩) (fun r s' => r = .ok (.ret (.bool true)) ∧ OldK s₁.heap s'.heap ∧ s'.os = s₁.os ∧ AllBare s'.gens) s₁ := by
  intro H hO hS hok hA hK
  have base_of : ∀ {b : Addr} {o : Obj}, s₁.heap.get? b = some o → H b = none → (hidT s₁.heap H).get? b = some o := fun e n => sqN e n
  have noA : ∀ {b : Addr} {o : Obj} {es : Array DictEntry} {ep : Nat}, s₁.heap.get? b = some o → o.data = .dict es ep → H b = none := fun {b o es ep} e d => by
   cases q : H b with
   | none => rfl
   | some u =>
    have e' : b = a := hA b (by rw [q]; simp)
    subst e'
    rw [ha] at e; cases e
    have d' : Data.seq vs.toArray _ = Data.dict es ep := d
    cases d'
  have nsK : ∀ {b : Addr} {m : Str → Option Value}, s₁.heap.Ns b m → (hidT s₁.heap H).Ns b m := fun {b m} ⟨o, es, ep, e, d, r⟩ => ⟨o, es, ep, base_of e (noA e d), d, r⟩
  have hKb : K.In (hidT s₁.heap H) := fun b o e => base_of (KX b o e) (by
   cases q : H b with
   | none => rfl
   | some u =>
    have e' : b = a := hA b (by rw [q]; simp)
    subst e'
    rw [hK (by rw [q]; simp)] at e; cases e)
  have hM : Mod K mg (hidT s₁.heap H) := ⟨hKb, nsK hns, ⟨mb, nsK hb, hbb⟩, let ⟨mc, h1, h2⟩ := hlim; ⟨mc, nsK h1, h2⟩⟩
  have e0 : Env0 P w K mg (hidT s₁.heap H) callerA [] s₁ H := ⟨rfl, hM, fun b o e => uqR e, Nat.le_of_eq (rqf _ _), trivial, fun b hb => absurd (show b ∈ ([] : List Addr) from hb) (by simp), hok, .of_eq hg⟩
  refine codeAny_mono ((F _ hKb (nsK hns)).run callerA [] s₁ H ⟨[.ref a], []⟩ [.ref a] [.ref a] _ _ hr e0 (hbind s₁ (.ref a)) (.cons rfl .nil) (hsp H hO hS)) fun r s' h => ?_
  cases r with
  | error e => exact (hCX H e s' h).elim
  | ok fl =>
   cases fl with
   | next => exact False.elim h
   | brk => exact False.elim h
   | cont => exact False.elim h
   | ret u =>
    obtain ⟨v, H', os, bare, un, hok', r', q⟩ := h
    have q' : v = .bl true := q
    subst q'
    obtain rfl : u = Value.bool true := r'
    refine ⟨rfl, OldK.of_keep fun b o e => ?_, os, bare⟩
    cases q : H b with
    | none => exact un.keep b o e q (by intro z; exact absurd (show b ∈ ([] : List Addr) from z) (by simp)) (by simp)
    | some u =>
     rcases hO b with z | ⟨ob, xs, z⟩
     ·rw [q] at z; cases z
     ·have z2 := un.frzs b ob _ z
      obtain ⟨e1, _⟩ := hok b _ z
      obtain ⟨e2, _⟩ := hok' b _ z2
      rw [e] at e1; cases e1
      exact e2
 cases hk : K.lookup a with
 | some o =>
  have e := KX a o hk
  rw [ha] at e
  cases e
  refine core (fun _ => none) (fun _ => .inl rfl) (.inr ⟨_, vs.toArray, _, hk, rfl, rfl, rfl, by rw [List.size_toArray, lenV]; exact hl, by simpa using rv⟩) (fun b u z => by have z' : (none : Option HO) = some u := z; cases z') (fun b z => absurd rfl z) fun z => absurd rfl z
 | none =>
  refine core (fun b => if b = a then some (.frz { cls := .type "list", data := .seq vs.toArray } (.lst (ns.map V.int))) else none) (fun b => ?_) (.inl (.inr ⟨{ cls := .type "list", data := .seq vs.toArray }, if_pos rfl⟩)) (fun b u z => ?_) (fun b z => ?_) fun _ => hk
  ·by_cases hb : b = a
   ·exact .inr ⟨_, _, if_pos hb⟩
   ·exact .inl (if_neg hb)
  ·by_cases hb : b = a
   ·have z' := (if_pos hb).symm.trans z
    cases z'
    subst hb
    exact ⟨ha, by rw [List.length_map]; exact hl, vs, _, rv, ha⟩
   ·have z' := (if_neg hb).symm.trans z
    cases z'
  ·by_cases hb : b = a
   ·exact hb
   ·exact absurd (if_neg hb) z
abbrev KOf {K : PySem.W.Frag} {h : Heap} (_ : K.In h) : PySem.W.Frag := K
theorem uq6 {l : PySem.W.OpenLaw} {n k : Nat} {q : Program} {loose : List Str} {XP : (Str → Option Value) → Heap → Prop} {YP : World → Heap → Prop} {d : DefRec} {K : Params → PySem.W.Frag} {CX : World → CXT} {sp : World → Sp} {x : Str}
  (hn : l.most = some n) (hn2 : n ≤ sizeLine) (hdf : d.params.defaults = []) (hr : Room k callerA)
  (hY : ∀ (w : World) (h : Heap), YP w h → (K w.params).In h)
  (F : ∀ (w : World) (mg : Str → Option Value) (fa : Addr) (h : Heap), (K w.params).In h → h.Ns mainGlobals mg → mg d.name = some (.ref fa) →
   ∃ fd : FuncData, (∀ (s : Shared) (u : Value), BindsTo s fd ⟨[u], []⟩ [(x, u)]) ∧
    ∀ base : Heap, (K w.params).In base → base.Ns mainGlobals mg → FnOk l.prog w (K w.params) mg base (CX w) k fa fd [x] (sp w))
  (hsp : ∀ (w : World) (H : Hp) (a : Addr) (ns : List Int), ns.length ≤ n → Only H → SqL (K w.params) H a (ns.map V.int) → sp w [.ref a] H (fun v _ => v = .bl true) fun _ _ _ => False)
  (hCX : ∀ (w : World) (H : Hp) (s : Shared) (e : Value) (s' : Shared), CX w [] H s (fun _ _ _ => False) e s' → False) :
  PySem.W.WalkO q loose XP YP l.row.toRowW d [] (fun f vs => PySem.call f vs) := by
 refine Att.attach_call hn hdf fun w s₀ s₁ mg mb fa o pm cd doc a vs ns G Y ho hd hcd hmg hobj hints hlen hg => ?_
 have KX := hY w _ Y
 obtain ⟨fd, hb, hF⟩ := F w mg fa _ KX G.T.g hmg
 exact rq0 KX G.T.g G.T.b G.T.builtins G.T.nolimit hg hobj hints (Nat.le_trans hlen hn2) hr hF hb (fun H hO hS => hsp w H a ns hlen hO hS) fun H e s' => hCX w H s₁ e s'
def inClass (s : Stmt) (j : Nat) : Stmt := match s with
 | .ClassDef _ _ _ body _ _ _ _ _ _ _ => body.getD j (.Pass ⟨0, 0, 0, 0⟩)
 | _ => .Pass ⟨0, 0, 0, 0⟩
def defArgs (s : Stmt) : Arguments := match s with
 | .FunctionDef _ a _ _ _ _ _ _ _ _ => a
 | _ => { posonlyargs := [], args := [], vararg := none, kwonlyargs := [], kw_defaults := [], kwarg := none, defaults := [] }
def defBody (s : Stmt) : List Stmt := match s with
 | .FunctionDef _ _ b _ _ _ _ _ _ _ => b
 | _ => []
def defScope (s : Stmt) : Scope := match s with
 | .FunctionDef _ _ _ _ _ _ sc _ _ _ => sc
 | _ => { kind := .function, names := [], isGenerator := false, isCoroutine := false }
abbrev CX0 : CXT := fun _ _ _ _ _ _ => False
abbrev E0 : XK := fun _ _ _ => False
theorem pass0 {X : Cx} : Passes CX0 X E0 := fun _ _ _ _ _ _ _ h => h.elim
structure Fun (K : PySem.W.Frag) (x qual : Str) (st : Stmt) (f : Addr) (fd : FuncData) : Prop where
 ex : ∃ (oc : Value) (od : Option Addr) (kV doc pm : Value) (an : Option Addr) (cdv ct : Value) (osl : Array (Option Value)),
  fd = PySem.W.fnOf x qual (defArgs st) (defBody st) (defScope st) .none kV doc pm an cdv ct ∧ K.lookup f = some ⟨oc, od, .func fd, osl⟩ ∧ PySem.W.codeIn K cdv qual = true
 kp : PySem.W.keepIn K (.ref f) = true
section
variable {P : Program} {w : World} {K : PySem.W.Frag} {mg : Str → Option Value} {base : Heap}
theorem Fun.ok {x qual : Str} {st : Stmt} {f : Addr} {fd : FuncData} {N ps : List Str} {k : Nat} {sp : Sp} (F : Fun K x qual st f fd) (S : FnScope N ps (defScope st)) (len : ∀ vs H Q E, sp vs H Q E → vs.length = ps.length)
  (hbody : ∀ (cdv : Value) (A : Around) (outer : List Env) (s : Shared) (H : Hp) (vs : List V) (Q : VK) (E : XK), Room k (A.deeper (envOfC qual (defScope st) s.heap.objs.size f cdv)) → sp vs H Q E →
   ∃ t, PSs (cxOf CX0 P w K mg base N qual (defScope st) f cdv A outer s H E).nox (defBody st) t ∧ t { nx := fun _ H' => Q .non H', rt := Q } (start N vs) H) : FnOk P w K mg base CX0 (k + 1) f fd ps sp := by
 obtain ⟨oc, od, kV, doc, pm, an, cdv, ct, osl, rfl, lk, hcd⟩ := F.ex
 refine uqU lk hcd S len fun A outer s H vs Q E hr hsp => ?_
 obtain ⟨t, h, q⟩ := hbody cdv A outer s H vs Q E hr hsp
 exact ⟨t, h.nox, q⟩
theorem Fun.binds {x qual : Str} {st : Stmt} {f : Addr} {fd : FuncData} {ps : List Str} (F : Fun K x qual st f fd)
  (h : ∀ (kV doc pm : Value) (an : Option Addr) (cdv ct : Value) (us : List Value), us.length = ps.length → bindArgs (PySem.W.fnOf x qual (defArgs st) (defBody st) (defScope st) .none kV doc pm an cdv ct) ⟨us, []⟩ = pure (ps.zip us)) : Binds K fd ps [] := by
 obtain ⟨oc, od, kV, doc, pm, an, cdv, ct, osl, rfl, lk, hcd⟩ := F.ex
 exact .all (h kV doc pm an cdv ct)
theorem aqB {x qual : Str} {st : Stmt} {f : Addr} {oc : Value} {od an : Option Addr} {osl : Array (Option Value)} {kV doc pm cdv ct : Value} (l : K.lookup f = some ⟨oc, od, .func (PySem.W.fnOf x qual (defArgs st) (defBody st) (defScope st) .none kV doc pm an cdv ct), osl⟩)
  (c : PySem.W.codeIn K cdv qual = true) (k : PySem.W.keepIn K (.ref f) = true) : Fun K x qual st f (PySem.W.fnOf x qual (defArgs st) (defBody st) (defScope st) .none kV doc pm an cdv ct) := ⟨⟨oc, od, kV, doc, pm, an, cdv, ct, osl, rfl, l, c⟩, k⟩
end
section
variable {X : Cx}
theorem pv (i : Nat) {x : Str} {pos : Pos} (hN : X.N[i]? = some x := by rfl) (hv : Vis X.env.scope x := by first | exact Or.inl rfl | exact Or.inr (Or.inl rfl) | exact Or.inr (Or.inr rfl)) (hd : (x == ("__debug__" : Str)) = false := by decide)
  (hcd : (x == ("__classdict__" : Str)) = false := by decide) : PE X (.Name x pos) (tVar i) := wqt hN hv hd hcd
end
theorem ite2 {c A B : Prop} [Decidable c] (h1 : c → A) (h2 : ¬ c → B) : if c then A else B := by
 by_cases h : c
 ·rw [if_pos h]
  exact h1 h
 ·rw [if_neg h]
  exact h2 h
def Same (H H' : Hp) : Prop := ∀ b o, H b = some o → H' b = some o
theorem Same.refl (H : Hp) : Same H H := fun _ _ h => h
theorem Same.trans {H H1 H2 : Hp} (a : Same H H1) (b : Same H1 H2) : Same H H2 := fun c o h => b c o (a c o h)
theorem Same.free {H H' : Hp} (e : Same H H') {l : Addr} (h : H' l = Option.none) : H l = Option.none := by
 cases q : H l with
 | none => rfl
 | some o =>
  rw [e l o q] at h
  cases h
theorem Same.seq {K : PySem.W.Frag} {H H' : Hp} {a : Addr} {xs : List V} (e : Same H H') (h : SqL K H a xs) : SqL K H' a xs := by
 rcases h with (h | ⟨o, h⟩) | h
 ·exact .inl (.inl (e _ _ h))
 ·exact .inl (.inr ⟨o, e _ _ h⟩)
 ·exact .inr h
end L2
set_option maxHeartbeats 4000000
namespace L2
open PySem PySem.Spec PyProof.Rows
def Its (z : Str) : It := ⟨fun i _ => i < z.length, fun i H x H' => H' = H ∧ ∃ c, z.cps.toList[i]? = some c ∧ x = .str ⟨#[c]⟩, fun i _ => z.length ≤ i⟩
theorem qqX {z : Str} {i : Nat} (h : i < z.length) : ∃ c, z.cps[i]? = some c ∧ z.cps.toList[i]? = some c := by
 have h' : i < z.cps.size := h
 exact ⟨z.cps[i], by simp [h'], by simp [h']⟩
theorem pqr {z : Str} {i : Nat} (h : z.length ≤ i) : z.cps[i]? = none := by
 have h' : z.cps.size ≤ i := h
 simp [h']
theorem qqN {P : Program} {w : World} {K : PySem.W.Frag} {tg : Expr} (it : Addr) (z : Str) (t : Tok) : Turn P w K tg (Its z) [it] it (fun i h => h.IsStrIter it "str_ascii_iterator" z t i) where
 mem := by simp
 obj := fun i h st b hb => by
  have e : b = it := by simpa using hb
  subst e
  obtain ⟨o, e, c, d⟩ := st
  exact ⟨o, e, fun v z => by rw [d] at z; cases z⟩
 keep := fun i h h' st k => by
  obtain ⟨o, e, r⟩ := st
  exact ⟨o, k it (by simp) o e, r⟩
 item := by
  intro X hP hw hK hc i pins s σ H E I hf st hg
  subst hP hw hK
  obtain ⟨c, h1, h2⟩ := qqX (z := z) (i := i) hg
  obtain ⟨f0, f1, f2, f3, f4, f5⟩ := hf it (by simp)
  refine wpAny_pyNext_ascii_item st h1 fun h' st' sb => ?_
  have I1 : Inv X pins σ H { s with heap := h', toks := s.toks + 1 } := I.turned (t' := s.toks + 1) (fun b o hb e => (sb.2 b hb).trans e) f0 f1 f3 f4 f5
  obtain ⟨o, e, cl, d⟩ := id st'
  exact ⟨_, rfl, rqN (s := { s with heap := h', toks := s.toks + 1 }) e cl d (by decide) ⟨.str ⟨#[c]⟩, H, I1, ⟨_, rfl⟩, ⟨rfl, c, h2, rfl⟩, st', fun b hb => (hf b hb).1⟩⟩
 done := by
  intro X hP hw hK hc i pins s σ H E I hf st hg
  subst hP hw hK
  obtain ⟨f0, f1, f2, f3, f4, f5⟩ := hf it (by simp)
  exact wpAny_pyNext_ascii_end (I.ok.hd hc) st (pqr hg) fun h' eb => ⟨rfl, I.turned (t' := s.toks) (fun b o hb e => eb b o hb e) f0 f1 f3 f4 f5⟩
 self := fun _ _ _ _ _ st h => wpAny_pyIter_striter_ascii st h
theorem qqj {P : Program} {w : World} {K : PySem.W.Frag} {tg : Expr} (it : Addr) (z : Str) (t : Tok) : Turn P w K tg (Its z) [it] it (fun i h => h.IsStrIter it "str_iterator" z t i) where
 mem := by simp
 obj := fun i h st b hb => by
  have e : b = it := by simpa using hb
  subst e
  obtain ⟨o, e, c, d⟩ := st
  exact ⟨o, e, fun v z => by rw [d] at z; cases z⟩
 keep := fun i h h' st k => by
  obtain ⟨o, e, r⟩ := st
  exact ⟨o, k it (by simp) o e, r⟩
 item := by
  intro X hP hw hK hc i pins s σ H E I hf st hg
  subst hP hw hK
  obtain ⟨c, h1, h2⟩ := qqX (z := z) (i := i) hg
  obtain ⟨f0, f1, f2, f3, f4, f5⟩ := hf it (by simp)
  refine wpAny_pyNext_wide_item st h1 fun h' st' sb => ?_
  have I1 : Inv X pins σ H { s with heap := h', toks := s.toks + 1 } := I.turned (t' := s.toks + 1) (fun b o hb e => (sb.2 b hb).trans e) f0 f1 f3 f4 f5
  obtain ⟨o, e, cl, d⟩ := id st'
  exact ⟨_, rfl, rqN (s := { s with heap := h', toks := s.toks + 1 }) e cl d (by decide) ⟨.str ⟨#[c]⟩, H, I1, ⟨_, rfl⟩, ⟨rfl, c, h2, rfl⟩, st', fun b hb => (hf b hb).1⟩⟩
 done := by
  intro X hP hw hK hc i pins s σ H E I hf st hg
  subst hP hw hK
  obtain ⟨f0, f1, f2, f3, f4, f5⟩ := hf it (by simp)
  exact wpAny_pyNext_wide_end (I.ok.hd hc) st (pqr hg) fun h' eb => ⟨rfl, I.turned (t' := s.toks) (fun b o hb e => eb b o hb e) f0 f1 f3 f4 f5⟩
 self := fun _ _ _ _ _ st h => wpAny_pyIter_striter_wide st h
section
variable {X : Cx} {tg : Expr}
def iStr (tl : TE) : TI := fun σ H R => tl σ H fun x H1 => ∃ z, x = .str z ∧ R (Its z) H1
theorem tqF {l : Expr} {tl : TE} (hl : PE X l tl) : PI X tg l (iStr tl) := by
 intro pins s σ H R I h
 refine thn (hl pins s σ H _ I h) fun v s1 W' => ?_
 obtain ⟨x, H1, I1, r1, q1⟩ := W'
 obtain ⟨z, rfl, q⟩ := q1
 obtain ⟨t, rfl⟩ := r1
 have fp : ∀ b ∈ [s1.heap.objs.size], FpOk X pins H1 b := fun b hb => by
  have e : b = s1.heap.objs.size := by simpa using hb
  subst e
  exact I1.fpOk (Nat.le_refl _) (I1.hok.fresh (Nat.le_refl _))
 cases ha : z.cps.all (· < 128)
 ·refine wpAny_pyIter_wide ha ?_
  exact ⟨s1.heap.objs.size, [s1.heap.objs.size], _, _, H1, rfl, I1.kept (t' := s1.toks) fun b o e => Heap.get?_push_of_some _ e, qqj _ z t, ⟨_, Heap.get?_push_size _ rfl, rfl, rfl⟩, fp, q⟩
 ·refine wpAny_pyIter_ascii ha ?_
  exact ⟨s1.heap.objs.size, [s1.heap.objs.size], _, _, H1, rfl, I1.kept (t' := s1.toks) fun b o e => Heap.get?_push_of_some _ e, qqN _ z t, ⟨_, Heap.get?_push_size _ rfl, rfl, rfl⟩, fp, q⟩
end
theorem uqE {z : Str} {g : TG} {tb : TS} {D : Ends} {σ : St} {H : Hp} (Pv : Nat → St → Hp → Prop) (h0 : Pv 0 σ H)
  (hs : ∀ i c σ H, z.cps.toList[i]? = some c → Pv i σ H → g (.str ⟨#[c]⟩) σ H fun σ2 H2 => tb { D with nx := Pv (i + 1), ct := Pv (i + 1), bk := D.nx } σ2 H2) (hd : ∀ σ H, Pv z.length σ H → D.nx σ H) :
  ∃ W : Nat → Nat → St → Hp → Prop, (∃ m, W 0 m σ H) ∧ ∀ i m σ H, W i m σ H →
   ((Its z).stop i H ∧ D.nx σ H) ∨ ((Its z).go i H ∧ ∃ N : St → Hp → Prop, (∀ σ' H', N σ' H' → ∃ m', m' < m ∧ W (i + 1) m' σ' H') ∧ ∀ x H', (Its z).yld i H x H' → g x σ H' fun σ2 H2 => tb { D with nx := N, ct := N, bk := D.nx } σ2 H2) := by
 refine ⟨fun i m σ H => m = z.length - i ∧ i ≤ z.length ∧ Pv i σ H, ⟨z.length, by simp, Nat.zero_le _, h0⟩, ?_⟩
 rintro i m σ H ⟨rfl, hi, p⟩
 by_cases hlt : i < z.length
 ·refine .inr ⟨hlt, Pv (i + 1), fun σ' H' p' => ⟨z.length - (i + 1), by omega, rfl, hlt, p'⟩, fun x H' y => ?_⟩
  obtain ⟨e, c, hc, ex⟩ := y
  subst e ex
  exact hs i c σ _ hc p
 ·have e : i = z.length := by omega
  subst e
  exact .inl ⟨Nat.le_refl _, hd σ H p⟩
section
variable {X : Cx}
def rSlS : V → Option Int → Option Int → Hp → VK → Prop := fun x lo hi H Q => ∃ z, x = .str z ∧ z.length ≤ sizeLine ∧ Q (.str (Txt.slice z lo hi)) H
theorem wqo : SlR X rSlS := by
 intro pins s σ H x v vl vu lo hi sl Q I rx hs pl pu h
 obtain ⟨z, rfl, hz, q⟩ := h
 obtain ⟨t, rfl⟩ := rx
 refine ⟨"str", _, F.slot_str_getitem.lookup, typeIs_str _ _ _, ?_⟩
 obtain ⟨o, ho, hc, hd⟩ := hs
 cases pl with
 | none =>
  cases pu with
  | none => exact wpAny_getItem_str_slice (l := none) (u := none) (st := none) ⟨o, ho, hc, hd⟩ rfl (post_val_or_str ⟨Nat.le_trans (Txt.slice_le z none none) hz, fun t' k => ⟨.str (Txt.slice z none none), H, I.tok k, ⟨t', rfl⟩, q⟩⟩)
  | int j uj => exact wpAny_getItem_str_slice (l := none) (u := some (j, uj)) (st := none) ⟨o, ho, hc, hd⟩ rfl (post_val_or_str ⟨Nat.le_trans (Txt.slice_le z none (some j)) hz, fun t' k => ⟨.str (Txt.slice z none (some j)), H, I.tok k, ⟨t', rfl⟩, q⟩⟩)
 | int i ui =>
  cases pu with
  | none => exact wpAny_getItem_str_slice (l := some (i, ui)) (u := none) (st := none) ⟨o, ho, hc, hd⟩ rfl (post_val_or_str ⟨Nat.le_trans (Txt.slice_le z (some i) none) hz, fun t' k => ⟨.str (Txt.slice z (some i) none), H, I.tok k, ⟨t', rfl⟩, q⟩⟩)
  | int j uj => exact wpAny_getItem_str_slice (l := some (i, ui)) (u := some (j, uj)) (st := none) ⟨o, ho, hc, hd⟩ rfl (post_val_or_str ⟨Nat.le_trans (Txt.slice_le z (some i) (some j)) hz, fun t' k => ⟨.str (Txt.slice z (some i) (some j)), H, I.tok k, ⟨t', rfl⟩, q⟩⟩)
def rSl (K : PySem.W.Frag) : V → Option Int → Option Int → Hp → VK → Prop := fun x lo hi H Q => rSlL K x lo hi H Q ∨ rSlS x lo hi H Q
theorem wqS : SlR X (rSl X.K) := uq0.or wqo
def rIndex : V → List V → Hp → VK → Prop := fun x vs H Q => match x, vs with
 | .str z, [.str y] => ∃ i r, Builtin.Str.occurrences z y 0 z.length 1 = i :: r ∧ Q (.int (i : Nat)) H
 | _, _ => False
theorem sqP {z y : Str} {H : Hp} {Q : VK} : (rIndex (.str z) [.str y] H Q) = (∃ i r, Builtin.Str.occurrences z y 0 z.length 1 = i :: r ∧ Q (.int (i : Nat)) H) := rfl
theorem mqd : MtR X "str.index" rIndex := by
 intro pins s σ H x vs v us Q I rx rv h
 unfold rIndex at h
 split at h
 rotate_left
 ·exact h.elim
 rename_i z y
 obtain ⟨i, r, ho, q⟩ := h
 obtain ⟨t, rfl⟩ := rx
 obtain ⟨u, rfl, t', rfl⟩ := vals1 rv
 exact SC.index ho ⟨.int (i : Nat), H, I.tok _, ⟨_, rfl⟩, q⟩
theorem notTooLong {n : Nat} (h : n ≤ 1000000) : Builtin.Str.tooLong n = false := by
 unfold Builtin.Str.tooLong
 rw [sizeLine_eq]
 exact decide_eq_false (by omega)
def rUpper : V → List V → Hp → VK → Prop := fun x vs H Q => match x, vs with
 | .str z, [] => (∀ c ∈ z.cps.toList, c < 128) ∧ z.length ≤ 1000000 ∧ Q (.str ⟨z.cps.map up1⟩) H
 | _, _ => False
theorem vqx {z : Str} {H : Hp} {Q : VK} : (rUpper (.str z) [] H Q) = ((∀ c ∈ z.cps.toList, c < 128) ∧ z.length ≤ 1000000 ∧ Q (.str ⟨z.cps.map up1⟩) H) := rfl
def rLower : V → List V → Hp → VK → Prop := fun x vs H Q => match x, vs with
 | .str z, [] => (∀ c ∈ z.cps.toList, c < 128) ∧ z.length ≤ 1000000 ∧ Q (.str ⟨z.cps.map lo1⟩) H
 | _, _ => False
theorem vqA {z : Str} {H : Hp} {Q : VK} : (rLower (.str z) [] H Q) = ((∀ c ∈ z.cps.toList, c < 128) ∧ z.length ≤ 1000000 ∧ Q (.str ⟨z.cps.map lo1⟩) H) := rfl
theorem oq5 : MtR X "str.lower" rLower := by
 intro pins s σ H x vs v us Q I rx rv h
 unfold rLower at h
 split at h
 rotate_left
 ·exact h.elim
 rename_i z
 obtain ⟨ha, hz, q⟩ := h
 obtain ⟨t, rfl⟩ := rx
 cases rv
 have e := lower_ascii ha
 refine SC.lower ?_ ⟨.str ⟨z.cps.map lo1⟩, H, I.tok _, ⟨_, by rw [e]⟩, q⟩
 rw [e]
 exact notTooLong (by show (z.cps.map lo1).size ≤ _; rw [Array.size_map]; exact hz)
def rAlnum : V → List V → Hp → VK → Prop := fun x vs H Q => match x, vs with
 | .str z, [] => Q (.bl (Txt.isalnum z)) H
 | _, _ => False
theorem wqO {z : Str} {H : Hp} {Q : VK} : (rAlnum (.str z) [] H Q) = (Q (.bl (Txt.isalnum z)) H) := rfl
theorem mqu : MtR X "str.isalnum" rAlnum := by
 intro pins s σ H x vs v us Q I rx rv q
 unfold rAlnum at q
 split at q
 rotate_left
 ·exact q.elim
 rename_i z
 obtain ⟨t, rfl⟩ := rx
 cases rv
 exact SC.isalnum ⟨.bl _, H, I, rfl, q⟩
theorem pqE {ys : List Str} : ∀ {us : List Value}, Vals (ys.map V.str) us → StrsAre us ys := by
 induction ys with
 | nil => intro us r; rw [List.map_nil] at r; cases r; exact .nil
 | cons y ys ih =>
  intro us r
  rw [List.map_cons] at r
  cases r with
  | cons r1 r2 =>
   obtain ⟨t, e⟩ := r1
   subst e
   exact .cons y t (ih r2)
def rJoin (K : PySem.W.Frag) : V → List V → Hp → VK → Prop := fun x vs H Q => ∃ z p ys, x = .str z ∧ vs = [.ref p] ∧ SqL K H p (ys.map V.str) ∧ (ys.map (·.length)).sum + ys.length * z.length ≤ 16777216 ∧ Q (.str (Txt.join z ys)) H
theorem tq5 : MtR X "str.join" (rJoin X.K) := by
 intro pins s σ H x vs v us Q I rx rv h
 obtain ⟨z, p, ys, rfl, rfl, hq, hz, q⟩ := h
 obtain ⟨t, rfl⟩ := rx
 obtain ⟨u, rfl, ru⟩ := vals1 rv
 cases ru
 obtain ⟨its, r, pl, hl⟩ := I.list hq
 exact join_list pl.isList (by simpa using pqE r) hz fun t' k => ⟨.str (Txt.join z ys), H, I.tok k, ⟨t', rfl⟩, q⟩
def rIsi (K : PySem.W.Frag) : List V → Hp → VK → Prop := fun vs H Q => ∃ x T t b, vs = [x, .ty T] ∧ TyOf K H x t ∧ PySem.W.kitOne K t (.type T) = some b ∧ Q (.bl b) H
theorem oq2 : CallR X (.builtin "isinstance") (rIsi X.K) := by
 intro pins s σ H xs us Q I r h
 obtain ⟨x, T, t, b, rfl, ty, e, q⟩ := h
 obtain ⟨u, v, rfl, ru, rv⟩ := vals2 r
 cases (show v = Value.type T from rv)
 exact qq2 I ru ty e fun tk => ⟨.bl b, H, I.tok tk, rfl, q⟩
def rCatD : R2 := fun x y H Q => ∃ a b xs ys, x = .ref a ∧ y = .ref b ∧ H a = some (.tup xs) ∧ H b = some (.tup ys) ∧ xs.length + ys.length ≤ sizeLine ∧ ∀ p H', Same H H' → H' p = some (.tup (xs ++ ys)) → Q (.ref p) H'
theorem tqQ : OpR X (binaryOp .Add) rCatD := by
 intro pins s σ H x y v u Q I rx ry h
 obtain ⟨a, b, xs, ys, rfl, rfl, ha, hb, hz, q⟩ := h
 by_cases hx : xs = []
 ·subst hx
  cases rx
  cases ry
  obtain ⟨its, r1, p1, _⟩ := I.tuple (SqT.of ha)
  obtain ⟨its2, r2, p2, _⟩ := I.tuple (SqT.of hb)
  cases r1
  obtain ⟨⟨cls, dd, data, sl⟩, ho, hc, n, hd⟩ := id p1
  obtain ⟨⟨cls2, dd2, data2, sl2⟩, ho2, hc2, n2, hd2⟩ := id p2
  simp only at hc hd hc2 hd2
  subst hc hd hc2 hd2
  exact concat_meets ⟨_, ho, rfl⟩ ⟨_, ho2, rfl⟩ noFill_tuple_add seq_tuple_add PySem.F.slot_tuple_add PySem.F.entry_tuple_add (PySem.F.args_tuple_add_2 _ _)
   (tuple_addW0 a b ([] : List Value).toArray its2.toArray n n2 dd dd2 sl sl2 rfl) ⟨ho, ho2, ⟨.ref b, H, I, rfl, q b H (Same.refl _) hb⟩⟩
 ·refine uqG pins s σ H _ _ v u Q I rx ry ⟨a, b, xs, ys, rfl, rfl, SqT.of ha, SqT.of hb, hx, hz, fun e => q a H (Same.refl _) (by rw [e, List.append_nil]; exact ha), fun _ p hp => q p _ (fun b o e => by rw [aqv (aqr e hp)]; exact e) aqw⟩
def rAddU (K : PySem.W.Frag) : R2 := fun x y H Q => match x, y with
 | .int i, .int j => Q (.int (i + j)) H
 | .str i, .str j => i.length + j.length ≤ sizeLine ∧ Q (.str (i ++ j)) H
 | .ref a, .ref b => (∃ xs zs, H a = some (.lst xs) ∧ H b = some (.lst zs) ∧ xs.length + zs.length ≤ sizeLine ∧ ∀ p, H p = none → Q (.ref p) (upd H p (.lst (xs ++ zs)))) ∨
   (∃ xs ys, H a = some (.tup xs) ∧ H b = some (.tup ys) ∧ xs.length + ys.length ≤ sizeLine ∧ ∀ p H', Same H H' → H' p = some (.tup (xs ++ ys)) → Q (.ref p) H')
 | _, _ => False
theorem qqR : OpR X (binaryOp .Add) (rAddU X.K) := by
 intro pins s σ H x y v u Q I rx ry h
 cases x with
 | int i =>
  cases y with
  | int j => exact wqg pins s σ H _ _ v u Q I rx ry ⟨i, j, rfl, rfl, h⟩
  | _ => exact h.elim
 | str i =>
  cases y with
  | str j => exact pqw pins s σ H _ _ v u Q I rx ry ⟨i, j, rfl, rfl, h.1, h.2⟩
  | _ => exact h.elim
 | ref a =>
  cases y with
  | ref b =>
   rcases h with ⟨xs, zs, h1, h2, h3, h4⟩ | ⟨xs, ys, h1, h2, h3, h4⟩
   ·exact vqO pins s σ H _ _ v u Q I rx ry ⟨a, b, xs, zs, rfl, rfl, h1, h2, h3, h4⟩
   ·exact tqQ pins s σ H _ _ v u Q I rx ry ⟨a, b, xs, ys, rfl, rfl, h1, h2, h3, h4⟩
  | _ => exact h.elim
 | _ => exact h.elim
theorem wql {K : PySem.W.Frag} {i j : Int} {H : Hp} {Q : VK} : (rAddU K (.int i) (.int j) H Q) = (Q (.int (i + j)) H) := rfl
theorem wqp {K : PySem.W.Frag} {i j : Str} {H : Hp} {Q : VK} : (rAddU K (.str i) (.str j) H Q) = (i.length + j.length ≤ sizeLine ∧ Q (.str (i ++ j)) H) := rfl
end
section
variable {X : Cx}
def rMulU : R2 := fun x y H Q => match x, y with
 | .int i, .int j => CMul i j ∧ Q (.int (i * j)) H
 | .str z, .int k => MulOk z k ∧ Q (.str (Txt.mul z k)) H
 | _, _ => False
theorem kqD : OpR X (binaryOp .Mult) rMulU := by
 intro pins s σ H x y v u Q I rx ry h
 cases x with
 | int i =>
  cases y with
  | int j => exact wqU pins s σ H _ _ v u Q I rx ry ⟨i, j, rfl, rfl, h.1, h.2⟩
  | _ => exact h.elim
 | str z =>
  cases y with
  | int k =>
   obtain ⟨t, rfl⟩ := rx
   obtain ⟨t', rfl⟩ := ry
   exact SB.mul h.1 fun t' k' => ⟨.str (Txt.mul z k), H, I.tok k', ⟨t', rfl⟩, h.2⟩
  | _ => exact h.elim
 | _ => exact h.elim
theorem wqG {i j : Int} {H : Hp} {Q : VK} : (rMulU (.int i) (.int j) H Q) = (CMul i j ∧ Q (.int (i * j)) H) := rfl
theorem vqz {z : Str} {k : Int} {H : Hp} {Q : VK} : (rMulU (.str z) (.int k) H Q) = (MulOk z k ∧ Q (.str (Txt.mul z k)) H) := rfl
def rLenU (K : PySem.W.Frag) : List V → Hp → VK → Prop := fun xs H Q => match xs with
 | [.str z] => z.length ≤ sizeLine ∧ Q (.int z.length) H
 | [.ref p] => ∃ ys, (SqL K H p ys ∨ SqT K H p ys) ∧ Q (.int ys.length) H
 | _ => False
theorem qqs : CallR X (.builtin "len") (rLenU X.K) := by
 intro pins s σ H xs us Q I r h
 unfold rLenU at h
 split at h
 ·exact nqQ pins s σ H _ us Q I r ⟨_, rfl, h.1, h.2⟩
 ·obtain ⟨ys, h1, h2⟩ := h
  exact nqy pins s σ H _ us Q I r ⟨_, ys, rfl, h1, h2⟩
 ·exact h.elim
theorem vqN {K : PySem.W.Frag} {z : Str} {H : Hp} {Q : VK} : (rLenU K [.str z] H Q) = (z.length ≤ sizeLine ∧ Q (.int z.length) H) := rfl
theorem vqU {K : PySem.W.Frag} {p : Addr} {H : Hp} {Q : VK} : (rLenU K [.ref p] H Q) = (∃ ys, (SqL K H p ys ∨ SqT K H p ys) ∧ Q (.int ys.length) H) := rfl
def rOrdU : List V → Hp → VK → Prop := fun xs H Q => match xs with
 | [.str z] => z.length = 1 ∧ Q (.int (z.cps.getD 0 0 : Nat)) H
 | _ => False
theorem wqn {c : Nat} {H : Hp} {Q : VK} : rOrdU [.str ⟨#[c]⟩] H Q ↔ Q (.int (c : Nat)) H := ⟨fun h => h.2, fun h => ⟨rfl, h⟩⟩
theorem jqx : bootBuiltins "int" = some (.type "int") := by decide +kernel
theorem qqF : bootBuiltins "str" = some (.type "str") := by decide +kernel
theorem lq9 : bootBuiltins "bool" = some (.type "bool") := by decide +kernel
theorem iqI : bootBuiltins "tuple" = some (.type "tuple") := by decide +kernel
theorem aqG : bootBuiltins "isinstance" = some (.builtin "isinstance") := by decide +kernel
def rIntU : List V → Hp → VK → Prop := fun xs H Q => match xs with
 | [.int i] => Q (.int i) H
 | [.bl k] => Q (.int (if k then 1 else 0)) H
 | _ => False
theorem kq1 : CallR X (.type "int") rIntU := by
 intro pins s σ H xs us Q I r h
 unfold rIntU at h
 split at h
 ·exact nqT pins s σ H _ us Q I r (.inl ⟨_, rfl, h⟩)
 ·exact nqT pins s σ H _ us Q I r (.inr ⟨_, rfl, h⟩)
 ·exact h.elim
theorem xqm {k : Bool} {H : Hp} {Q : VK} : (rIntU [.bl k] H Q) = (Q (.int (if k then 1 else 0)) H) := rfl
def rInU : R2 := fun x y H Q => match x, y with
 | .str i, .str j => Q (.bl (!(Builtin.Str.occurrences j i 0 j.length 1).isEmpty)) H
 | _, _ => False
theorem gqq : OpR X (compareOp .In) rInU := by
 intro pins s σ H x y v u Q I rx ry h
 cases x with
 | str i =>
  cases y with
  | str j => exact qqb pins s σ H _ _ v u Q I rx ry ⟨i, j, rfl, rfl, h⟩
  | _ => exact h.elim
 | _ => exact h.elim
def rNotInU : R2 := fun x y H Q => match x, y with
 | .str i, .str j => Q (.bl (!(!(Builtin.Str.occurrences j i 0 j.length 1).isEmpty))) H
 | _, _ => False
theorem rqy : OpR X (compareOp .NotIn) rNotInU := by
 intro pins s σ H x y v u Q I rx ry h
 cases x with
 | str i =>
  cases y with
  | str j => exact nqO pins s σ H _ _ v u Q I rx ry ⟨i, j, rfl, rfl, h⟩
  | _ => exact h.elim
 | _ => exact h.elim
theorem wqb {c : Nat} {j : Str} {H : Hp} {Q : VK} : rInU (.str ⟨#[c]⟩) (.str j) H Q ↔ Q (.bl (decide (c ∈ j.cps.toList))) H := by
 show Q (.bl (!(Builtin.Str.occurrences j ⟨#[c]⟩ 0 j.length 1).isEmpty)) H ↔ _
 rw [StrLaws.found_one]
theorem rqd {c : Nat} {j : Str} {H : Hp} {Q : VK} : rNotInU (.str ⟨#[c]⟩) (.str j) H Q ↔ Q (.bl (!decide (c ∈ j.cps.toList))) H := by
 show Q (.bl (!(!(Builtin.Str.occurrences j ⟨#[c]⟩ 0 j.length 1).isEmpty))) H ↔ _
 rw [StrLaws.found_one]
def rIsN (neg : Bool) : R2 := fun x y H Q => y = .non ∧ Q (.bl (if neg then !decide (x = .non) else decide (x = .non))) H
theorem gqk : OpR X (compareOp .Is) (rIsN false) := fun pins s σ H x y v u Q I rx ry h => wqi pins s σ H x y v u Q I rx ry h
theorem eq9 : OpR X (compareOp .IsNot) (rIsN true) := fun pins s σ H x y v u Q I rx ry h => uqI pins s σ H x y v u Q I rx ry h
theorem wqX {x : V} {H : Hp} {Q : VK} : rIsN false x .non H Q ↔ Q (.bl (decide (x = .non))) H := ⟨fun h => h.2, fun h => ⟨rfl, h⟩⟩
theorem wq0 {x : V} {H : Hp} {Q : VK} : rIsN true x .non H Q ↔ Q (.bl (!decide (x = .non))) H := ⟨fun h => h.2, fun h => ⟨rfl, h⟩⟩
def kindV (x : V) (H : Hp) : Option String := match x with
 | .non => some "NoneType"
 | .bl _ => some "bool"
 | .int _ => some "int"
 | .str _ => some "str"
 | .ref a => match H a with
  | some (.lst _) => some "list"
  | some (.tup _) => some "tuple"
  | _ => none
 | _ => none
def subT (a b : String) : Bool := a == b || (a == "bool" && b == "int")
theorem rqe (K : PySem.W.Frag) : ∀ a ∈ ["NoneType", "bool", "int", "str", "list", "tuple"], ∀ b ∈ ["bool", "int", "str", "list", "tuple"], PySem.W.kitOne K (.type a) (.type b) = some (subT a b) := by
 intro a ha b hb
 simp only [List.mem_cons, List.not_mem_nil, or_false] at ha hb
 rcases ha with rfl | rfl | rfl | rfl | rfl | rfl <;> rcases hb with rfl | rfl | rfl | rfl | rfl <;> with_unfolding_all kernel_rfl
def rIsiU : List V → Hp → VK → Prop := fun vs H Q => match vs with
 | [x, .ty T] => ∃ k, kindV x H = some k ∧ T ∈ ["bool", "int", "str", "list", "tuple"] ∧ Q (.bl (subT k T)) H
 | _ => False
theorem cqu : CallR X (.builtin "isinstance") rIsiU := by
 intro pins s σ H xs us Q I r h
 unfold rIsiU at h
 split at h
 ·rename_i x T
  obtain ⟨k, hk, hT, q⟩ := h
  have key : TyOf X.K H x (.type k) ∧ k ∈ ["NoneType", "bool", "int", "str", "list", "tuple"] := by
   unfold kindV at hk
   split at hk
   ·cases hk; exact ⟨.non, by decide⟩
   ·cases hk; exact ⟨.bl _, by decide⟩
   ·cases hk; exact ⟨.int _, by decide⟩
   ·cases hk; exact ⟨.str _, by decide⟩
   ·split at hk
    ·rename_i e; cases hk; exact ⟨.lst e, by decide⟩
    ·rename_i e; cases hk; exact ⟨.tup e, by decide⟩
    ·cases hk
   ·cases hk
  exact oq2 pins s σ H _ us Q I r ⟨x, T, .type k, subT k T, rfl, key.1, rqe X.K k key.2 T hT, q⟩
 ·exact h.elim
end
section
variable {σ : St} {H : Hp} {Q : VK} {D : Ends} {K : PySem.W.Frag} {ta tb te : TE} {tt tu : TT} {t u : TS} {aa ab : TA} {v x y : V} {r r' : R2}
theorem wqh {i : Nat} : (tVar i σ H Q) = (∃ v, σ[i]? = some (some v) ∧ Q v H) := rfl
theorem rd_C : (tC v σ H Q) = (Q v H) := rfl
theorem rqa : (tSeq t u D σ H) = (t { D with nx := u D } σ H) := rfl
theorem vqQ {g : TG} : (tAsg te g D σ H) = (te σ H fun x H1 => g x σ H1 D.nx) := rfl
theorem uqW {i : Nat} {R : St → Hp → Prop} : (gName i v σ H R) = (R (σ.set i (some v)) H) := rfl
theorem wqf : (tIfS tt t u D σ H) = (tt σ H fun b H1 => if b = true then t D σ H1 else u D σ H1) := rfl
theorem tqY : (tNext D σ H) = (D.nx σ H) := rfl
theorem wqW : (tBreak D σ H) = (D.bk σ H) := rfl
theorem wqz : (tRet te D σ H) = (te σ H D.rt) := rfl
theorem tq4 : (tDrop te D σ H) = (te σ H fun _ H1 => D.nx σ H1) := rfl
theorem xqd : (tOp r ta tb σ H Q) = (ta σ H fun x H1 => tb σ H1 fun y H2 => r x y H2 Q) := rfl
theorem vqp {R : Bool → Hp → Prop} : (tTest te σ H R) = (te σ H fun x H' => ∃ k, x = .bl k ∧ R k H') := rfl
theorem rd_B {R : Bool → Hp → Prop} : (tB te σ H R) = (te σ H fun x H' => ∃ k, x = .bl k ∧ R k H') := rfl
theorem vq5 {R : Bool → Hp → Prop} : (tAnd tt tu σ H R) = (tt σ H fun c H1 => if c = true then tu σ H1 R else R false H1) := rfl
theorem xqh {R : Bool → Hp → Prop} : (tOr tt tu σ H R) = (tt σ H fun c H1 => if c = true then R true H1 else tu σ H1 R) := rfl
theorem wqM {R : Bool → Hp → Prop} : (tNot tt σ H R) = (tt σ H fun c H1 => R (!c) H1) := rfl
theorem uqS : (tAndV ta tb σ H Q) = (ta σ H fun x H1 => ∃ c, x = .bl c ∧ if c = true then tb σ H1 Q else Q (.bl false) H1) := rfl
theorem vq9 : (tOrV ta tb σ H Q) = (ta σ H fun x H1 => ∃ c, x = .bl c ∧ if c = true then Q (.bl true) H1 else tb σ H1 Q) := rfl
theorem uqV : (tNotV ta σ H Q) = (ta σ H fun x H1 => ∃ c, x = .bl c ∧ Q (.bl (!c)) H1) := rfl
theorem xqg : (tIf tt ta tb σ H Q) = (tt σ H fun c H1 => if c = true then ta σ H1 Q else tb σ H1 Q) := rfl
theorem rqW {tc : TE} : (tChain r r' ta tb tc σ H Q) = (ta σ H fun x H1 => tb σ H1 fun y H2 => r x y H2 fun z H3 => ∃ k, z = .bl k ∧ (if k = true then tc σ H3 fun w' H4 => r' y w' H4 Q else Q (.bl false) H3)) := rfl
theorem vqy {R : List V → Hp → Prop} : (tNil σ H R) = (R [] H) := rfl
theorem uq4 {R : List V → Hp → Prop} : (tCons te aa σ H R) = (te σ H fun x H1 => aa σ H1 fun xs H2 => R (x :: xs) H2) := rfl
theorem vqP : (tLst aa σ H Q) = (aa σ H fun xs H1 => xs.length ≤ sizeLine ∧ ∀ p, H1 p = none → Q (.ref p) (upd H1 p (.lst xs))) := rfl
theorem wqe : (tTup aa σ H Q) = (aa σ H fun xs H1 => xs.length ≤ sizeLine ∧ ∀ p, H1 p = none → Q (.ref p) (upd H1 p (.tup xs))) := rfl
theorem uqf {sp : Sp} {dvs : List V} {E : XK} : (tCall sp dvs E aa σ H Q) = (aa σ H fun vs H1 => sp (vs ++ dvs) H1 Q E) := rfl
theorem xqa {c : List V → Hp → VK → Prop} : (tCB c aa σ H Q) = (aa σ H fun vs H1 => c vs H1 Q) := rfl
theorem wq7 {T : String} {m : V → List V → Hp → VK → Prop} : (tBM K T m te aa σ H Q) = (te σ H fun x H1 => tyV K T x H1 ∧ aa σ H1 fun xs H2 => m x xs H2 Q) := rfl
theorem vq8 {T : String} {m : V → List V → Hp → VK → Prop} : (tBM0 K T m te σ H Q) = (te σ H fun x H1 => tyV K T x H1 ∧ m x [] H1 Q) := rfl
theorem xqi {m : V → Option Int → Option Int → Hp → VK → Prop} {tl th : TO} : (tSl m te tl th σ H Q) = (te σ H fun x H1 => tl σ H1 fun l H2 => th σ H2 fun u H3 => m x l u H3 Q) := rfl
theorem rqu {R : Option Int → Hp → Prop} : (tNoPart σ H R) = (R none H) := rfl
theorem tqP {R : Option Int → Hp → Prop} : (tPart te σ H R) = (te σ H fun x H1 => ∃ i, x = .int i ∧ R (some i) H1) := rfl
theorem sqD {z : Str} : tyV K "str" (.str z) H ↔ True := ⟨fun _ => trivial, fun _ => rfl⟩
theorem rd_I {C : Int → Int → Prop} {g : Int → Int → V} {i j : Int} : rI C g (.int i) (.int j) H Q ↔ C i j ∧ Q (g i j) H :=
 ⟨fun ⟨_, _, h1, h2, h3⟩ => by cases h1; cases h2; exact h3, fun h => ⟨i, j, rfl, rfl, h⟩⟩
theorem tqO {g : Int → Int → V} {i j : Int} : rI0 g (.int i) (.int j) H Q ↔ Q (g i j) H :=
 ⟨fun ⟨_, _, h1, h2, h3⟩ => by cases h1; cases h2; exact h3, fun h => ⟨i, j, rfl, rfl, h⟩⟩
theorem vqn {i j : Int} : rEq (.int i) (.int j) H Q ↔ Q (.bl (decide (i = j))) H := by
 unfold rEq scal; simp only [true_and, V.int.injEq]
theorem fqB {i j : Str} : rEq (.str i) (.str j) H Q ↔ Q (.bl (decide (i = j))) H := by
 unfold rEq scal; simp only [true_and, V.str.injEq]
theorem uqr {i j : Bool} : rEq (.bl i) (.bl j) H Q ↔ Q (.bl (decide (i = j))) H := by
 unfold rEq scal; simp only [true_and, V.bl.injEq]
theorem qq7 {i j : Int} : rNe (.int i) (.int j) H Q ↔ Q (.bl (!decide (i = j))) H := by
 unfold rNe scal; simp only [true_and, V.int.injEq]
theorem pq7 {i j : Str} : rNe (.str i) (.str j) H Q ↔ Q (.bl (!decide (i = j))) H := by
 unfold rNe scal; simp only [true_and, V.str.injEq]
theorem uqC {i j : Bool} : rNe (.bl i) (.bl j) H Q ↔ Q (.bl (!decide (i = j))) H := by
 unfold rNe scal; simp only [true_and, V.bl.injEq]
theorem uqJ : rNe .non .non H Q ↔ Q (.bl false) H := ⟨fun h => h.2, fun h => ⟨rfl, h⟩⟩
theorem tqJ {i : Str} : rNe (.str i) .non H Q ↔ Q (.bl true) H := ⟨fun h => h.2, fun h => ⟨rfl, h⟩⟩
theorem squ {i : Str} : rNe .non (.str i) H Q ↔ Q (.bl true) H := ⟨fun h => h.2, fun h => ⟨rfl, h⟩⟩
theorem tqG : rEq .non .non H Q ↔ Q (.bl true) H := ⟨fun h => h.2, fun h => ⟨rfl, h⟩⟩
theorem uqz {i : Str} : rEq (.str i) .non H Q ↔ Q (.bl false) H := ⟨fun h => h.2, fun h => ⟨rfl, h⟩⟩
theorem sqL {i : Str} : rEq .non (.str i) H Q ↔ Q (.bl false) H := ⟨fun h => h.2, fun h => ⟨rfl, h⟩⟩
theorem vqw {z : Str} {i : Int} : rIx K (.str z) (.int i) H Q ↔ ∃ c, z.length ≤ sizeLine ∧ atI z.cps.toList i = some c ∧ Q (.str ⟨#[c]⟩) H := by
 constructor
 ·rintro (⟨p, xs, j, v, h, _⟩ | ⟨p, xs, j, v, h, _⟩ | ⟨z', j, c, h1, h2, h3, h4, h5⟩)
  ·cases h
  ·cases h
  ·cases h1; cases h2; exact ⟨c, h3, h4, h5⟩
 ·rintro ⟨c, h3, h4, h5⟩
  exact .inr (.inr ⟨z, i, c, rfl, rfl, h3, h4, h5⟩)
theorem tqm {z : Str} {lo hi : Option Int} : rSl K (.str z) lo hi H Q ↔ z.length ≤ sizeLine ∧ Q (.str (Txt.slice z lo hi)) H := by
 constructor
 ·rintro (⟨a, xs, h, _⟩ | ⟨z', h1, h2, h3⟩)
  ·cases h
  ·cases h1; exact ⟨h2, h3⟩
 ·rintro ⟨h2, h3⟩
  exact .inr ⟨z, rfl, h2, h3⟩
end
section
variable {σ : St} {H : Hp} {Q : VK} {K : PySem.W.Frag}
theorem vqR {a : Addr} {lo hi : Option Int} : rSl K (.ref a) lo hi H Q ↔ ∃ xs, SqL K H a xs ∧ ∀ p, H p = none → Q (.ref p) (upd H p (.lst (cutV xs lo hi))) := by
 constructor
 ·rintro (⟨a', xs, h, h2⟩ | ⟨z', h1, _⟩)
  ·cases h; exact ⟨xs, h2⟩
  ·cases h1
 ·rintro ⟨xs, h2⟩
  exact .inl ⟨a, xs, rfl, h2⟩
theorem kqz {p : Addr} {i : Int} : rIx K (.ref p) (.int i) H Q ↔ ∃ xs v, (SqL K H p xs ∨ SqT K H p xs) ∧ atI xs i = some v ∧ Q v H := by
 constructor
 ·rintro (⟨p', xs, j, v, h, h2, h3, h4⟩ | ⟨p', xs, j, v, h, h2, h3, h4⟩ | ⟨z', j, c, h1, _⟩)
  ·cases h; cases h2; exact ⟨xs, v, .inl h3, h4⟩
  ·cases h; cases h2; exact ⟨xs, v, .inr h3, h4⟩
  ·cases h1
 ·rintro ⟨xs, v, h | h, h2⟩
  ·exact .inl ⟨p, xs, i, v, rfl, rfl, h, h2⟩
  ·exact .inr (.inl ⟨p, xs, i, v, rfl, rfl, h, h2⟩)
theorem wqD {a b : Addr} : rAddU K (.ref a) (.ref b) H Q ↔ (∃ xs zs, H a = some (.lst xs) ∧ H b = some (.lst zs) ∧ xs.length + zs.length ≤ sizeLine ∧ ∀ p, H p = none → Q (.ref p) (upd H p (.lst (xs ++ zs)))) ∨
   (∃ xs ys, H a = some (.tup xs) ∧ H b = some (.tup ys) ∧ xs.length + ys.length ≤ sizeLine ∧ ∀ p H', Same H H' → H' p = some (.tup (xs ++ ys)) → Q (.ref p) H') := Iff.rfl
theorem cx_K {CX : CXT} {P : Program} {w : World} {mg : Str → Option Value} {base : Heap} {N : List Str} {qual : Str} {scope : Scope} {f : Addr} {cd : Value} {A : Around} {outer : List Env} {s : Shared} {E : XK} :
  (cxOf CX P w K mg base N qual scope f cd A outer s H E).K = K := rfl
end
def LoopI (J : It) (g : TG) (tb : TS) (D : Ends) (σ : St) (H : Hp) : Prop := ∃ W : Nat → Nat → St → Hp → Prop, (∃ m, W 0 m σ H) ∧ ∀ i m σ H, W i m σ H →
 (J.stop i H ∧ D.nx σ H) ∨ (J.go i H ∧ ∃ N : St → Hp → Prop, (∀ σ' H', N σ' H' → ∃ m', m' < m ∧ W (i + 1) m' σ' H') ∧ ∀ x H', J.yld i H x H' → g x σ H' fun σ2 H2 => tb { D with nx := N, ct := N, bk := D.nx } σ2 H2)
section
variable {σ : St} {H : Hp} {D : Ends} {K : PySem.W.Frag} {te : TE} {g : TG} {tb : TS} {aa : TA}
theorem tq0 : (tFor (iStr te) g tb D σ H) = (te σ H fun x H1 => ∃ z, x = .str z ∧ LoopI (Its z) g tb D σ H1) := rfl
theorem vqi : (tFor (iList K te) g tb D σ H) = (te σ H fun x H1 => ∃ a, x = .ref a ∧ (∃ xs, SqL K H1 a xs) ∧ LoopI (Itl K a) g tb D σ H1) := rfl
theorem vqk : (tFor (iRng1 aa) g tb D σ H) = (aa σ H fun vs H1 => ∃ j : Int, vs = [.int j] ∧ -(2 ^ 62) ≤ j ∧ j < 2 ^ 62 ∧ LoopI (Itr 0 j.toNat) g tb D σ H1) := rfl
theorem sqn {z : Str} (Pv : Nat → St → Hp → Prop) (h0 : Pv 0 σ H)
  (hs : ∀ i c σ H, z.cps.toList[i]? = some c → Pv i σ H → g (.str ⟨#[c]⟩) σ H fun σ2 H2 => tb { D with nx := Pv (i + 1), ct := Pv (i + 1), bk := D.nx } σ2 H2) (hd : ∀ σ H, Pv z.length σ H → D.nx σ H) : LoopI (Its z) g tb D σ H := uqE Pv h0 hs hd
theorem nqz {a : Addr} {xs : List V} (Pv : Nat → St → Hp → Prop) (h0 : Pv 0 σ H) (hl : ∀ i σ H, i ≤ xs.length → Pv i σ H → SqL K H a xs)
  (hs : ∀ i x σ H, xs[i]? = some x → Pv i σ H → g x σ H fun σ2 H2 => tb { D with nx := Pv (i + 1), ct := Pv (i + 1), bk := D.nx } σ2 H2) (hd : ∀ σ H, Pv xs.length σ H → D.nx σ H) : LoopI (Itl K a) g tb D σ H := sqS Pv h0 hl hs hd
theorem hqf {lo : Int} {n : Nat} (Pv : Nat → St → Hp → Prop) (h0 : Pv 0 σ H)
  (hs : ∀ i σ H, i < n → Pv i σ H → g (.int (lo + i)) σ H fun σ2 H2 => tb { D with nx := Pv (i + 1), ct := Pv (i + 1), bk := D.nx } σ2 H2) (hd : ∀ σ H, Pv n σ H → D.nx σ H) : LoopI (Itr lo n) g tb D σ H := qqg Pv h0 hs hd
end
section
variable {prog : Program} {w : World} {A : Around} {R : Result → Shared → Prop} {s : Shared}
theorem nqG {elt target iter : Expr} {ifs : List Expr} {scope : Scope} {pos : Pos} {it acc : Value} {env : Env} (I : Nat → Shared → Prop)
  (turn : ∀ n s, I n s → wpAny (model prog w) A (pyNext it) (fun r s₁ => match r with
   | none => R (.ok .next) s₁
   | some v => wpAny (model prog w) A (letOwnedTupleGo target it v) (fun _ s₁' => wpAny (model prog w) A (assign target env v) (fun _ s₂ =>
     wpAny (model prog w) A (forIn ifs true fun c r => if r = true then do let ok ← isTrue c env (eval c env); pure (ForInStep.yield ok) else pure (ForInStep.yield r)) (fun ok s₃ =>
      if ok = true then wpAny (model prog w) A (eval elt env) (fun x s₄ =>
       wpAny (model prog w) A (call (.builtin "list.append") [acc, x]) (fun _ s₅ => ∃ m, m < n ∧ I m s₅) (fun _ _ => False) s₄) (fun _ _ => False) s₃
      else ∃ m, m < n ∧ I m s₃) (fun _ _ => False) s₂) (fun _ _ => False) s₁') (fun _ _ => False) s₁) (fun _ _ => False) s)
  (n : Nat) (h : I n s) : codeAny (model prog w) A (.compLoop (.ListComp elt [⟨target, iter, ifs, 0⟩] scope pos) 0 it acc env) R s := by
 refine codeAny_loop rfl I (fun n s hI => ?_) n h
 show wpAny _ A ((compTurn (.ListComp elt [⟨target, iter, ifs, 0⟩] scope pos) 0 it acc env).onRaise (fun x => do noteFrame x env; theTreesLotGoes x)) _ _ s
 refine wpAny_noted ?_
 rw [compTurn_list]
 refine wpAny_bind (wpAny_standAt (wpAny_bind (wpAny_mono (turn n s hI) (fun r s₁ h₁ => ?_) fun _ _ h' => h'.elim)))
 cases r with
 | none => exact wpAny_pure h₁
 | some v =>
  refine wpAny_bind (wpAny_mono h₁ (fun _ s₁' h₁' => wpAny_bind (wpAny_mono h₁' (fun _ s₂ h₂ => wpAny_bind (wpAny_mono h₂ (fun ok s₃ h₃ => ?_) fun _ _ h' => h'.elim)) fun _ _ h' => h'.elim)) fun _ _ h' => h'.elim)
  cases ok with
  | false => exact wpAny_pure ⟨rfl, h₃⟩
  | true =>
   exact wpAny_bind (wpAny_bind (wpAny_mono h₃ (fun x s₄ h₄ => wpAny_bind (wpAny_mono h₄ (fun _ s₅ h₅ => wpAny_pure (wpAny_pure ⟨rfl, h₅⟩)) fun _ _ h' => h'.elim)) fun _ _ h' => h'.elim))
end
def compCx (X : Cx) (N' : List Str) (scope : Scope) (cl : List (Str × Addr)) (s : Shared) (H : Hp) (fp : List Addr) : Cx :=
 { X with N := N', s₀ := s, H₀ := H, env := compEnvC scope cl s.heap.objs.size X.env, outer := X.stack, stack := X.stack, ex := fp, fn := fun _ => false, pn := [], xe := fun _ _ => False }
inductive Frees (X : Cx) (rs : Scope) (cl : List (Str × Addr)) : List Str → List Nat → Prop where
 | nil : Frees X rs cl [] []
 | cons {y : Str} {i : Nat} {fx : List Str} {fr : List Nat} (h1 : X.N[i]? = some y) (h2 : X.env.kindOf y = some .cell) (h3 : rs.names.lookup y = some .cell) (h4 : cl.lookup y = X.env.cells.lookup y) (r : Frees X rs cl fx fr) : Frees X rs cl (y :: fx) (i :: fr)
def frV (σ : St) (fr : List Nat) : St := fr.map fun i => (σ[i]?).getD none
theorem Frees.len {X : Cx} {rs : Scope} {cl : List (Str × Addr)} {fx : List Str} {fr : List Nat} (F : Frees X rs cl fx fr) : fr.length = fx.length := by
 induction F with
 | nil => rfl
 | cons _ _ _ _ _ ih => simp [ih]
theorem Frees.at {X : Cx} {rs : Scope} {cl : List (Str × Addr)} {σ : St} : ∀ {fx : List Str} {fr : List Nat}, Frees X rs cl fx fr → ∀ (j : Nat) (y : Str) (v : V), fx[j]? = some y → (frV σ fr)[j]? = some (some v) →
  ∃ i : Nat, X.N[i]? = some y ∧ σ[i]? = some (some v) ∧ X.env.kindOf y = some .cell ∧ rs.names.lookup y = some .cell ∧ cl.lookup y = X.env.cells.lookup y
 | _, _, .nil, j, y, v, h, _ => by simp at h
 | _, _, .cons (y := z) (i := i) h1 h2 h3 h4 r, 0, y, v, h, hv => by
  simp only [List.getElem?_cons_zero, Option.some.injEq] at h
  subst h
  simp only [frV, List.map_cons, List.getElem?_cons_zero, Option.some.injEq] at hv
  refine ⟨i, h1, ?_, h2, h3, h4⟩
  cases e : σ[i]? with
  | none => rw [e] at hv; cases hv
  | some o => rw [e] at hv; exact congrArg some hv
 | _, _, .cons h1 h2 h3 h4 r, j + 1, y, v, h, hv => by
  simp only [List.getElem?_cons_succ] at h
  simp only [frV, List.map_cons, List.getElem?_cons_succ] at hv
  exact r.at j y v h hv
theorem Frees.mem {X : Cx} {rs : Scope} {cl : List (Str × Addr)} : ∀ {fx : List Str} {fr : List Nat}, Frees X rs cl fx fr → ∀ y ∈ fx, X.env.kindOf y = some .cell ∧ cl.lookup y = X.env.cells.lookup y
 | _, _, .nil, y, h => by simp at h
 | _, _, .cons h1 h2 h3 h4 r, y, h => by
  rcases List.mem_cons.mp h with rfl | h
  ·exact ⟨h2, h4⟩
  ·exact r.mem y h
section
variable {X : Cx} {pins : List (Addr × Obj)} {σ : St} {H1 : Hp} {s3 : Shared} {x : Str} {fx : List Str} {fr : List Nat} {scope : Scope} {cl : List (Str × Addr)} {fp : List Addr}
theorem uqD (I : Inv X pins σ H1 s3) (hkind : scope.kind = .function) (hcl : ∀ y c, cl.lookup y = some c → X.env.cells.lookup y = some c)
  (F : Frees X (relabel scope X.env) cl fx fr) (hfx : ((relabel scope X.env).names.all fun p => if (p.2 == .cell || p.2 == .free) then fx.contains p.1 else true) = true)
  (ffp : ∀ b ∈ fp, FpOk X pins H1 b) (flt : ∀ b ∈ fp, b < s3.heap.objs.size) : (compCx X (x :: fx) scope cl s3 H1 fp).Ok where
 mod := I.ok.mod
 kind := hkind
 glob := I.ok.glob
 blt := I.ok.blt
 above := Nat.le_refl _
 inj := fun y z c h1 h2 => I.ok.inj y z c (hcl y c h1) (hcl z c h2)
 has := fun y h => by
  have h : (relabel scope X.env).names.lookup y = some .cell ∨ (relabel scope X.env).names.lookup y = some .free := h
  have key : y ∈ fx := by
   rcases h with h | h
   ·have q := List.all_eq_true.mp hfx _ (PySem.mem_of_lookup h)
    simpa using q
   ·have q := List.all_eq_true.mp hfx _ (PySem.mem_of_lookup h)
    simpa using q
  obtain ⟨k1, k2⟩ := F.mem y key
  obtain ⟨c, e⟩ := I.ok.has y (.inl k1)
  exact ⟨c, k2.trans e⟩
 cab := fun y c h => by cases (show false = true from h)
 hd := I.ok.hd
 frames := I.ok.frames
 stk := .inl rfl
 exf := fun b hb => ⟨Nat.ne_of_lt (flt b hb), fun y c e => (ffp b hb).2.2.2.2.1 y c (hcl y c e)⟩
 bs := I.bs
 bsz := Nat.le_trans I.ok.bsz I.sz
 noex := fun b o e hb => by
  rcases (ffp b hb).2.2.2.1 with z | z
  ·exact I.ok.noex b o e z
  ·exact absurd (Nat.lt_of_lt_of_le (Heap.lt_size (I.ok.bs b o e).1) z) (Nat.lt_irrefl _)
 exfs := fun b hb z => by
  rcases List.mem_cons.mp (I.stkSub b z) with q | q
  ·exact (ffp b hb).2.1 q
  ·exact (ffp b hb).2.2.1 q
 funs := I.stack
 frf := I.stkFree
theorem pqu (I : Inv X pins σ H1 s3) (hkind : scope.kind = .function) (hcl : ∀ y c, cl.lookup y = some c → X.env.cells.lookup y = some c)
  (F : Frees X (relabel scope X.env) cl fx fr) (hfx : ((relabel scope X.env).names.all fun p => if (p.2 == .cell || p.2 == .free) then fx.contains p.1 else true) = true)
  (ffp : ∀ b ∈ fp, FpOk X pins H1 b) (flt : ∀ b ∈ fp, b < s3.heap.objs.size) {h1 : Heap} {t : Nat} {m : Str → Option Value} (hn : h1.Ns s3.heap.objs.size m)
  (keep : ∀ b u, s3.heap.get? b = some u → h1.get? b = some u) : Inv (compCx X (x :: fx) scope cl s3 H1 fp) [] (none :: frV σ fr) H1 { s3 with heap := h1, toks := t } := by
 refine ⟨uqD I hkind hcl F hfx ffp flt, rfl, I.bare, Un.kept keep, ⟨m, hn, fun i y v e1 e2 e3 => ?_⟩, fun y c e => ?_, I.hok.fresh (Nat.le_refl _), fun y c e => I.freeC y c (hcl y c e), fun p hp => absurd (show p ∈ ([] : List (Addr × Obj)) from hp) (by simp), I.hok.kept keep, ?_⟩
 ·cases i with
  | zero => simp at e2
  | succ j =>
   obtain ⟨i0, k1, k2, k3, k4, k5⟩ := F.at (σ := σ) j y v (by simpa [compCx] using e1) (by simpa using e2)
   obtain ⟨m0, hn0, hl0⟩ := I.loc
   obtain ⟨u, r, l⟩ := hl0 i0 y v k1 k2 (.inr (.inl k3))
   refine ⟨u, r, ?_⟩
   rcases l with ⟨z, _⟩ | ⟨_, c, e, o, ho, hd⟩
   ·rw [k3] at z; cases z
   ·exact .inr ⟨.inl k4, c, k5.trans e, o, keep c o ho, hd⟩
 ·obtain ⟨v, o, ho, hd⟩ := I.cell y c (hcl y c e)
  exact ⟨v, o, keep c o ho, hd⟩
 ·show (none :: frV σ fr).length = (x :: fx).length
  simp [frV, F.len]
theorem qqG {N' : List Str} {pins' : List (Addr × Obj)} {σ' : St} {H2 : Hp} {s' : Shared} {h' : Heap} (I : Inv X pins σ H1 s3) (J : Inv (compCx X N' scope cl s3 H1 fp) pins' σ' H2 s') (ffp : ∀ b ∈ fp, FpOk X pins H1 b)
  (sb : Heap.SameBut s3.heap.objs.size s'.heap h') : Inv X pins σ H2 { s' with heap := h' } := by
 have k : ∀ b u, b ≠ s3.heap.objs.size → s'.heap.get? b = some u → h'.get? b = some u := fun b u hb e => sb.extBut b u hb e
 have lt : ∀ b u, s3.heap.get? b = some u → b ≠ s3.heap.objs.size := fun b u e => Nat.ne_of_lt (Heap.lt_size e)
 have u : Un (frs X.stack) fp H1 H2 s3.heap s'.heap := J.base
 have u' : Un (frs X.stack) fp H1 H2 s3.heap h' :=
  ⟨fun b o q n hb hx => k b o (lt b o q) (u.keep b o q n hb hx), fun b o q n hb hx => by
    obtain ⟨sl, e⟩ := u.slot b o q n hb hx
    exact ⟨sl, k b _ (lt b o q) e⟩, u.free, fun b o q hx => by
    obtain ⟨o', e⟩ := u.there b o q hx
    exact ⟨o', k b _ (lt b o q) e⟩, u.tups, u.frzs, u.tbls⟩
 have nC : H2 s3.heap.objs.size = none := J.free
 have hok : HOk X.prog X.w H2 h' := fun b uo e => by
  refine (J.hok b uo e).stay (fun c v hc q => k c v ?_ q) (fun _ q => q) fun _ _ q => q
  rintro rfl
  rcases hc with z | z
  ·rw [← z, nC] at e; cases e
  ·rw [nC] at z; cases z
 have os : s'.os = s3.os := J.os
 have bare := J.bare
 obtain ⟨hh, g, d, t, os'⟩ := s'
 obtain rfl : os' = s3.os := os
 have fin := I.call (h' := h') (g' := g) (d' := d) (t' := t) (ch := fp) u' hok bare fun b hb => by
  obtain ⟨f0, f1, f2, f3, f4, f5⟩ := ffp b hb
  exact ⟨f3, f1, f4, f5⟩
 exact fin
end
def PF (X : Cx) (ifs : List Expr) (t : TT) : Prop :=
 ∀ (pins : List (Addr × Obj)) (s : Shared) (σ : St) (H : Hp) (Q : Bool → Hp → Prop), Inv X pins σ H s → t σ H Q →
  wpAny (model X.prog X.w) X.A (forIn ifs true fun c r => if r = true then do let ok ← isTrue c X.env (eval c X.env); pure (ForInStep.yield ok) else pure (ForInStep.yield r)) (TP X pins σ Q) X.xe s
def tYes : TT := fun _ H Q => Q true H
theorem mq4 {X : Cx} : PF X [] tYes := fun _ _ _ H _ I h => wpAny_tests_nil ⟨H, I, h⟩
def CompI (J : It) (p : Addr) (fv : St) (tt : TT) (te : TE) (Q : VK) (H1 : Hp) : Prop :=
 ∃ W : Nat → Nat → List V → Hp → Prop, (∃ m, W 0 m [] (upd H1 p (.lst []))) ∧ ∀ i m ys H2, W i m ys H2 → H2 p = some (.lst ys) ∧
  ((J.stop i H2 ∧ Q (.ref p) H2) ∨ (J.go i H2 ∧ ys.length < sizeLine ∧ ∀ x H3, J.yld i H2 x H3 → tt (some x :: fv) H3 fun b H4 =>
   if b = true then te (some x :: fv) H4 fun y H5 => H5 p = some (.lst ys) ∧ ∃ m', m' < m ∧ W (i + 1) m' (ys ++ [y]) (upd H5 p (.lst (ys ++ [y])))
   else ∃ m', m' < m ∧ W (i + 1) m' ys H4))
def tComp (wi : TI) (fr : List Nat) (tt : TT) (te : TE) : TE := fun σ H Q => wi σ H fun J H1 => ∀ p, H1 p = none → CompI J p (frV σ fr) tt te Q H1
section
variable {X : Cx} {elt iter : Expr} {x : Str} {px pos : Pos} {ifs : List Expr} {scope : Scope} {cl : List (Str × Addr)} {fx : List Str} {fr : List Nat} {wi : TI} {tt : TT} {te : TE}
theorem pqV {pins : List (Addr × Obj)} {σ : St} {H3 : Hp} {s3 : Shared} {it p : Addr} {fp : List Addr} {tn : Nat → Heap → Prop} {J : It} {Q : VK} {W : Nat → Nat → List V → Hp → Prop} {m0 t : Nat} {h₁ : Heap} {m : Str → Option Value} {RR : Result → Shared → Prop}
  (hc : X.calm = true) (hkind : scope.kind = .function) (hx : scope.names.lookup x = some .local) (hnd : (x :: fx).Nodup)
  (hcl : ∀ y c, cl.lookup y = some c → X.env.cells.lookup y = some c) (F : Frees X (relabel scope X.env) cl fx fr)
  (hfx : ((relabel scope X.env).names.all fun p => if (p.2 == .cell || p.2 == .free) then fx.contains p.1 else true) = true)
  (ht : ∀ s H fp, PF (compCx X (x :: fx) scope cl s H fp) ifs tt) (he : ∀ s H fp, PE (compCx X (x :: fx) scope cl s H fp) elt te)
  (I3 : Inv X pins σ H3 s3) (T : Turn X.prog X.w X.K (.Name x px) J fp it tn) (st3 : tn 0 s3.heap) (ffp : ∀ b ∈ fp, FpOk X pins H3 b) (flt3 : ∀ b ∈ fp, b < s3.heap.objs.size)
  (w0 : W 0 m0 [] H3) (turn : ∀ i m ys H2, W i m ys H2 → H2 p = some (.lst ys) ∧
   ((J.stop i H2 ∧ Q (.ref p) H2) ∨ (J.go i H2 ∧ ys.length < sizeLine ∧ ∀ x H3, J.yld i H2 x H3 → tt (some x :: frV σ fr) H3 fun b H4 =>
    if b = true then te (some x :: frV σ fr) H4 fun y H5 => H5 p = some (.lst ys) ∧ ∃ m', m' < m ∧ W (i + 1) m' (ys ++ [y]) (upd H5 p (.lst (ys ++ [y])))
    else ∃ m', m' < m ∧ W (i + 1) m' ys H4)))
  (hns : h₁.Ns s3.heap.objs.size m) (keep1 : ∀ b u, s3.heap.get? b = some u → h₁.get? b = some u)
  (fin : ∀ s6 H5 o, Inv (compCx X (x :: fx) scope cl s3 H3 fp) [] (o :: frV σ fr) H5 s6 → Q (.ref p) H5 → RR (.ok .next) s6) :
  codeAny (model X.prog X.w) X.A (.compStart (.ListComp elt [⟨.Name x px, iter, ifs, 0⟩] scope pos) 0 (.ref it) (.ref p) (compEnvC scope cl s3.heap.objs.size X.env))
   RR { s3 with heap := h₁, toks := t } := by
 have I4 := pqu (x := x) (t := t) I3 hkind hcl F hfx ffp flt3 hns keep1
 have st4 : tn 0 h₁ := T.keep _ _ _ st3 fun b hb o e => keep1 b o e
 have fp0 : ∀ b ∈ fp, H3 b = none := fun b hb => (ffp b hb).1
 have hcal : (compCx X (x :: fx) scope cl s3 H3 fp).calm = true := hc
 have stat : ∀ {H' : Hp}, (∀ b ∈ fp, H' b = none) → ∀ b ∈ fp, FpOk (compCx X (x :: fx) scope cl s3 H3 fp) [] H' b := fun {H'} hn b hb => by
  obtain ⟨f0, f1, f2, f3, f4, f5⟩ := ffp b hb
  exact ⟨hn b hb, Nat.ne_of_lt (flt3 b hb), I4.ok.exfs b hb, .inl hb, fun y c e => f4 y c (hcl y c e), fun q hq => absurd (show q ∈ ([] : List (Addr × Obj)) from hq) (by simp)⟩
 have hxl : (relabel scope X.env).names.lookup x = some .local := lookup_relabel_local hx
 have pg : PG (compCx X (x :: fx) scope cl s3 H3 fp) (.Name x px) (gName 0) := bqN (i := 0) hnd rfl (.inl hxl) (.inr hxl)
 have loop : codeAny (model X.prog X.w) X.A (.compLoop (.ListComp elt [⟨.Name x px, iter, ifs, 0⟩] scope pos) 0 (.ref it) (.ref p) (compEnvC scope cl s3.heap.objs.size X.env))
    RR { s3 with heap := h₁, toks := t } := by
  refine nqG (fun n s' => ∃ i ys H' o, Inv (compCx X (x :: fx) scope cl s3 H3 fp) [] (o :: frV σ fr) H' s' ∧ tn i s'.heap ∧ (∀ b ∈ fp, H' b = none) ∧ W i n ys H') ?_ m0 ⟨0, [], _, none, I4, st4, fp0, w0⟩
  rintro n s5 ⟨i, ys, H5, o, I5, st5, fr5, w5⟩
  obtain ⟨hp5, alt⟩ := turn i n ys H5 w5
  rcases alt with ⟨stop, qn⟩ | ⟨go, hlen, step⟩
  ·refine thn (T.done (compCx X (x :: fx) scope cl s3 H3 fp) rfl rfl rfl hcal i [] s5 (o :: frV σ fr) H5 _ I5 (stat fr5) st5 stop) fun r s6 W' => ?_
   obtain ⟨hr, I6⟩ := W'
   subst hr
   exact fin s6 H5 o I6 qn
  ·refine thn (T.item (compCx X (x :: fx) scope cl s3 H3 fp) rfl rfl rfl hcal i [] s5 (o :: frV σ fr) H5 _ I5 (stat fr5) st5 go) fun r s6 W' => ?_
   obtain ⟨u, hr, h6⟩ := W'
   subst hr
   refine thn h6 fun _ s7 W' => ?_
   obtain ⟨y7, H7, I7, r7, yl7, st7, fr7⟩ := W'
   have I7' := I7.pinned (stat fr7) (T.obj _ _ st7)
   have back : ∀ {σ' : St} {H' : Hp} {s' : Shared}, Inv (compCx X (x :: fx) scope cl s3 H3 fp) ([] ++ pinsAt fp s7.heap) σ' H' s' → tn (i + 1) s'.heap ∧ ∀ b ∈ fp, H' b = none := fun {σ' H' s'} I' => by
    refine ⟨T.keep _ _ _ st7 fun b hb o e => (I'.pin (b, o) (List.mem_append_right _ (List.mem_append_right _ (hqx hb e)))).1, fun b hb => ?_⟩
    obtain ⟨o, e, d⟩ := T.obj _ _ st7 b hb
    exact (I'.pin (b, o) (List.mem_append_right _ (List.mem_append_right _ (hqx hb e)))).2.1
   refine thn (pg _ s7 _ H7 y7 u (fun σ' H' => σ' = some y7 :: frV σ fr ∧ H' = H7) I7' r7 ⟨rfl, rfl⟩) fun _ s8 W' => ?_
   obtain ⟨σ8, H8, I8, e8, e8'⟩ := W'
   subst e8 e8'
   refine thn (ht s3 H3 fp _ s8 _ _ _ I8 (step y7 _ yl7)) fun b s9 W' => ?_
   obtain ⟨H9, I9, q9⟩ := W'
   cases b with
   | false =>
    rw [if_neg Bool.false_ne_true] at q9 ⊢
    obtain ⟨m', hm, w9⟩ := q9
    exact ⟨m', hm, i + 1, ys, H9, some y7, I9.unpinned, (back I9).1, (back I9).2, w9⟩
   | true =>
    rw [if_pos rfl] at q9 ⊢
    refine thn (he s3 H3 fp _ s9 _ H9 _ I9 q9) fun u10 s10 W' => ?_
    obtain ⟨y10, H10, I10, r10, hp10, m', hm, w10⟩ := W'
    refine thn (dqW _ s10 _ H10 (.ref p) [y10] (.ref p) [u10] (fun _ H' => H' = upd H10 p (.lst (ys ++ [y10]))) I10 rfl (.cons r10 .nil) ⟨p, ys, y10, rfl, rfl, hp10, hlen, rfl⟩) fun _ s11 W' => ?_
    obtain ⟨_, H11, I11, _, e11⟩ := W'
    subst e11
    exact ⟨m', hm, i + 1, ys ++ [y10], _, some y7, I11.unpinned, (back I11).1, (back I11).2, w10⟩
 exact codeAny_compStart_list loop (T.self _ 0 _ _ _ st4 loop)
theorem kql (hc : X.calm = true) (hclos : closureFor scope X.env = pure cl) (hcell : ∀ y ∈ scope.names, y.2 ≠ .cell) (hkind : scope.kind = .function)
  (hnames : ∀ y ∈ scope.names, y.2 = .local → scope.names.lookup y.1 = some .local) (hx : scope.names.lookup x = some .local) (hnd : (x :: fx).Nodup)
  (hk : (cl.all fun q => fx.contains q.1) = true) (F : Frees X (relabel scope X.env) cl fx fr)
  (hfx : ((relabel scope X.env).names.all fun p => if (p.2 == .cell || p.2 == .free) then fx.contains p.1 else true) = true)
  (hi : PI X (.Name x px) iter wi) (ht : ∀ s H fp, PF (compCx X (x :: fx) scope cl s H fp) ifs tt) (he : ∀ s H fp, PE (compCx X (x :: fx) scope cl s H fp) elt te)
  (hs : ∀ x, foldedSetIterable iter X.env x = pure x := by intro _; rfl) :
  PE X (.ListComp elt [⟨.Name x px, iter, ifs, 0⟩] scope pos) (tComp wi fr tt te) := by
 intro pins s σ H Q I h
 have hcl : ∀ y c, cl.lookup y = some c → X.env.cells.lookup y = some c := fun y c e => by
  have q := List.all_eq_true.mp hk _ (PySem.mem_of_lookup e)
  rw [← (F.mem y (by simpa using q)).2]
  exact e
 rw [eval_ListComp]
 refine wpAny_comprehension_free (use := none) rfl hs hclos hkind hnames ?_
 refine thn (hi pins s σ H _ I h) fun v s1 h1 => thn h1 fun itv s2 h2 => ?_
 obtain ⟨it, fp, tn, J, H2, e, I2, T, st2, f2, q2⟩ := h2
 subst e
 have hp0 : H2 s2.heap.objs.size = none := I2.hok.fresh (Nat.le_refl _)
 obtain ⟨W, ⟨m0, w0⟩, turn⟩ := q2 _ hp0
 have flt : ∀ b ∈ fp, b < s2.heap.objs.size := fun b hb => by
  obtain ⟨o, e, _⟩ := T.obj _ _ st2 b hb
  exact Heap.lt_size e
 refine wpAny_newObj_type (wpAny_newFunctionEnv hcell (by intro y hy; simp at hy) (fun h₁ hns₁ hsb₁ => ?_) hkind)
 dsimp only at hns₁ hsb₁ ⊢
 have hlay : ∀ b u, s2.heap.get? b = some u → (s2.heap.push { cls := .type "list", dict := none, data := .seq ([] : List Value).toArray }).get? b = some u := fun b u e => Heap.get?_push_of_some _ e
 have hnew : (s2.heap.push { cls := .type "list", dict := none, data := .seq ([] : List Value).toArray }).get? s2.heap.objs.size = some { cls := .type "list", dict := none, data := .seq ([] : List Value).toArray } := Heap.get?_push_size _ rfl
 have hsz : (s2.heap.push { cls := .type "list", dict := none, data := .seq ([] : List Value).toArray }).objs.size = s2.heap.objs.size + 1 := Heap.size_push _ _
 generalize hHH : s2.heap.push { cls := .type "list", dict := none, data := .seq ([] : List Value).toArray } = HH at hns₁ hsb₁ hlay hnew hsz ⊢
 have I3 : Inv X pins σ (upd H2 s2.heap.objs.size (.lst [])) { s2 with heap := HH, toks := s2.toks } :=
  I2.laid (t' := s2.toks) (o := .lst []) hlay (Nat.le_refl _) ⟨Nat.zero_le _, [], 0, .nil, hnew⟩
 have ffp : ∀ b ∈ fp, FpOk X pins (upd H2 s2.heap.objs.size (.lst [])) b := fun b hb => by
  obtain ⟨f0, fr'⟩ := f2 b hb
  exact ⟨by rw [aqv (Nat.ne_of_lt (flt b hb))]; exact f0, fr'⟩
 have keep1 : ∀ b u, HH.get? b = some u → h₁.get? b = some u := fun b u e => hsb₁.extBut b u (Nat.ne_of_lt (Heap.lt_size e)) (Heap.get?_push_of_some _ e)
 exact pqV (s3 := { s2 with heap := HH, toks := s2.toks }) hc hkind hx hnd hcl F hfx ht he I3 T (T.keep _ _ _ st2 fun b hb o e => hlay b o e) ffp (fun b hb => by show b < HH.objs.size; rw [hsz]; exact Nat.lt_succ_of_lt (flt b hb)) w0 turn hns₁ keep1 fun s6 H5 o I6 qn => by
  obtain ⟨m, hn6, _⟩ := id I6.loc
  exact ⟨m, hn6, fun h' sb => ⟨.ref _, H5, qqG I3 I6 ffp sb, rfl, qn⟩⟩
end
section
variable {p : Addr} {fv : St} {te : TE} {Q : VK} {H1 : Hp}
theorem sqa {z : Str} (hz : z.length ≤ sizeLine) (hp : H1 p = none) (f : Nat → V)
  (he : ∀ c, c ∈ z.cps.toList → ∀ (H' : Hp) (R : VK), (∀ H'', Same H' H'' → R (f c) H'') → te (some (.str ⟨#[c]⟩) :: fv) H' R)
  (hQ : ∀ H', Same H1 H' → H' p = some (.lst (z.cps.toList.map f)) → Q (.ref p) H') : CompI (Its z) p fv tYes te Q H1 := by
 have hl : z.cps.toList.length = z.length := by simp [Str.length]
 refine ⟨fun i m ys H2 => m = z.length - i ∧ i ≤ z.length ∧ ys = (z.cps.toList.take i).map f ∧ H2 p = some (.lst ys) ∧ Same H1 H2, ⟨z.length, by simp, Nat.zero_le _, by simp, aqw, fun b o e => by rw [aqv (aqr e hp)]; exact e⟩, ?_⟩
 rintro i m ys H2 ⟨rfl, hi, rfl, hp2, sm⟩
 refine ⟨hp2, ?_⟩
 by_cases hlt : i < z.length
 ·refine .inr ⟨hlt, ?_, fun x H3 y => ?_⟩
  ·rw [List.length_map, List.length_take]; omega
  ·obtain ⟨rfl, c, hc, rfl⟩ := y
   unfold tYes
   dsimp only
   rw [if_pos rfl]
   refine he c (List.mem_of_getElem? hc) _ _ fun H5 s5 => ⟨s5 _ _ hp2, z.length - (i + 1), by omega, rfl, hlt, ?_, aqw, fun b o e => ?_⟩
   ·rw [List.take_add_one, hc, List.map_append]; rfl
   ·rw [aqv (aqr e hp)]; exact s5 _ _ (sm _ _ e)
 ·have e : i = z.length := by omega
  subst e
  refine .inl ⟨Nat.le_refl _, hQ H2 sm ?_⟩
  rw [hp2, ← hl, List.take_length]
end
section
variable {σ : St} {H : Hp} {Q : VK} {K : PySem.W.Frag} {tl te : TE} {tt : TT} {fr : List Nat}
theorem vqe : frV σ [] = [] := rfl
theorem rq6 {i : Nat} {r : List Nat} : frV σ (i :: r) = (σ[i]?).getD none :: frV σ r := rfl
theorem tqx {z : Str} {p : Addr} : rJoin K (.str z) [.ref p] H Q ↔ ∃ ys : List Str, SqL K H p (ys.map V.str) ∧ (ys.map (·.length)).sum + ys.length * z.length ≤ 16777216 ∧ Q (.str (Txt.join z ys)) H := by
 constructor
 ·rintro ⟨z', p', ys, h1, h2, h3⟩
  cases h1; cases h2
  exact ⟨ys, h3⟩
 ·rintro ⟨ys, h⟩
  exact ⟨z, p, ys, rfl, rfl, h⟩
theorem sqv : (tComp (iStr tl) fr tt te σ H Q) = (tl σ H fun x H1 => ∃ z, x = .str z ∧ ∀ p, H1 p = none → CompI (Its z) p (frV σ fr) tt te Q H1) := rfl
theorem rq3 : (tComp (iList K tl) fr tt te σ H Q) = (tl σ H fun x H1 => ∃ a, x = .ref a ∧ (∃ xs, SqL K H1 a xs) ∧ ∀ p, H1 p = none → CompI (Itl K a) p (frV σ fr) tt te Q H1) := rfl
end
section
variable {X : Cx} {K : PySem.W.Frag}
theorem dqz (h : X.K = K) : OpR X (binaryOp .Add) (rAddU K) := by subst h; exact qqR
theorem aqn (h : X.K = K) : IxR X (rIx K) := by subst h; exact wqF
theorem eqM (h : X.K = K) : SlR X (rSl K) := by subst h; exact wqS
theorem aqT (h : X.K = K) : CallR X (.builtin "len") (rLenU K) := by subst h; exact qqs
theorem oqW (h : X.K = K) : MtR X "str.join" (rJoin K) := by subst h; exact tq5
theorem jq1 {tg l : Expr} {tl : TE} (h : X.K = K) (hl : PE X l tl) : PI X tg l (iList K tl) := by subst h; exact uqN hl
variable {o e : Expr} {es : List Expr} {to : TE} {t : TA} {name : Str} {apos cpos : Pos} {T id : String} {r : V → List V → Hp → VK → Prop}
theorem hqX (h : X.K = K) (pa : PlainAttrs T) (slot : Slot T name id) (hty : typeOf (.builtin id) = pure (.type "method_descriptor")) (hm : MtR X id r) (ho : PE X o to)
  (hbase : attributeBase o name X.env (eval o X.env) = eval o X.env := by rfl) (hline : (apos.endLine == cpos.line) = true := by rfl) : PE X (.Call (.Attribute o name apos) [] [] cpos) (tBM0 K T r to) := by
 subst h; exact vqV pa slot hty hm ho hbase hline
theorem fqi (h : X.K = K) (pa : PlainAttrs T) (slot : Slot T name id) (hty : typeOf (.builtin id) = pure (.type "method_descriptor")) (hm : MtR X id r) (ho : PE X o to) (ha : PA X (e :: es) t)
  (hbase : attributeBase o name X.env (eval o X.env) = eval o X.env := by rfl)
  (hfew : ((backTo cpos (starEach (e :: es) X.env)).all (fun x => !x.1) && (backToKw cpos (keywordEach [] X.env)).all (fun x => x.1.isSome)
   && decide ((e :: es).length + ([] : List Keyword).length + (if ([] : List Keyword).isEmpty then 0 else 1) < 30)) = true := by rfl)
  (hline : (apos.endLine == cpos.line) = true := by rfl) (hs : starEach (e :: es) X.env = (false, eval e X.env) :: starEach es X.env := by rfl) (hplain : (backTo cpos (starEach es X.env)).any (·.1) = false := by rfl) :
  PE X (.Call (.Attribute o name apos) (e :: es) [] cpos) (tBM K T r to t) := by
 subst h; exact wq9 pa slot hty hm ho ha hbase hfew hline hs hplain
end
structure FunD (K : PySem.W.Frag) (x qual : Str) (st : Stmt) (f : Addr) (fd : FuncData) (T : Addr) : Prop where
 ex : ∃ (oc : Value) (od : Option Addr) (kV doc pm : Value) (an : Option Addr) (cdv ct : Value) (osl : Array (Option Value)),
  fd = PySem.W.fnOf x qual (defArgs st) (defBody st) (defScope st) (.ref T) kV doc pm an cdv ct ∧ K.lookup f = some ⟨oc, od, .func fd, osl⟩ ∧ PySem.W.codeIn K cdv qual = true
 kp : PySem.W.keepIn K (.ref f) = true
section
variable {P : Program} {w : World} {K : PySem.W.Frag} {mg : Str → Option Value} {base : Heap}
theorem FunD.binds {x qual : Str} {st : Stmt} {f T : Addr} {fd : FuncData} {ps : List Str} {ds : List Value} {oc : Value} {od : Option Addr} {items : Array Value} {n : Nat} {sl : Array (Option Value)} (F : FunD K x qual st f fd T) (hT : K.lookup T = some ⟨oc, od, .seq items n, sl⟩)
  (h : ∀ (kV doc pm : Value) (an : Option Addr) (cdv ct : Value) (us : List Value), (us ++ ds).length = ps.length → ∃ k : Option (Array Value) → Sem (List (Str × Value)),
   bindArgs (PySem.W.fnOf x qual (defArgs st) (defBody st) (defScope st) (.ref T) kV doc pm an cdv ct) ⟨us, []⟩ = seqItems? (.ref T) >>= k ∧ k (some items) = pure (ps.zip (us ++ ds))) : Binds K fd ps ds := by
 obtain ⟨oc', od', kV, doc, pm, an, cdv, ct, osl, rfl, lk, hcd⟩ := F.ex
 intro s us X hl
 obtain ⟨k, h1, h2⟩ := h kV doc pm an cdv ct us hl
 exact BindsTo.of_defaults (T := T) rfl (X T _ hT) rfl h1 h2
theorem qqt {x qual : Str} {st : Stmt} {f T : Addr} {oc : Value} {od an : Option Addr} {osl : Array (Option Value)} {kV doc pm cdv ct : Value} (l : K.lookup f = some ⟨oc, od, .func (PySem.W.fnOf x qual (defArgs st) (defBody st) (defScope st) (.ref T) kV doc pm an cdv ct), osl⟩)
  (c : PySem.W.codeIn K cdv qual = true) (k : PySem.W.keepIn K (.ref f) = true) : FunD K x qual st f (PySem.W.fnOf x qual (defArgs st) (defBody st) (defScope st) (.ref T) kV doc pm an cdv ct) T := ⟨⟨oc, od, kV, doc, pm, an, cdv, ct, osl, rfl, l, c⟩, k⟩
end
theorem lq2 {c : TT} {tb : TS} {D : Ends} {σ : St} {H : Hp} (W : Nat → St → Hp → Prop) (m0 : Nat) (h0 : W m0 σ H)
  (hs : ∀ m σ H, W m σ H → c σ H fun b H1 => if b = true then ∃ N : St → Hp → Prop, (∀ σ' H', N σ' H' → ∃ m', m' < m ∧ W m' σ' H') ∧ tb { D with nx := N, ct := N, bk := D.nx } σ H1 else D.nx σ H1) : tWhile c tb D σ H := ⟨W, ⟨m0, h0⟩, hs⟩
section
variable {σ : St} {H : Hp} {Q : VK}
theorem wq5 {r : V → Hp → VK → Prop} {ta : TE} : (tUn r ta σ H Q) = (ta σ H fun x H1 => r x H1 Q) := rfl
theorem rd_U {g : Int → V} {i : Int} : rU g (.int i) H Q ↔ Q (g i) H := ⟨fun ⟨_, h1, h2⟩ => by cases h1; exact h2, fun h => ⟨i, rfl, h⟩⟩
theorem tqi {l : Addr} {y : V} : rAppend (.ref l) [y] H Q ↔ ∃ xs, H l = some (.lst xs) ∧ xs.length < sizeLine ∧ Q .non (upd H l (.lst (xs ++ [y]))) := by
 constructor
 ·rintro ⟨l', xs, y', h1, h2, h3⟩
  cases h1; cases h2
  exact ⟨xs, h3⟩
 ·rintro ⟨xs, h⟩
  exact ⟨l, xs, y, rfl, rfl, h⟩
theorem rqk {K : PySem.W.Frag} {p : Addr} : tyV K "list" (.ref p) H ↔ ∃ xs, SqL K H p xs := by
 constructor
 ·rintro (⟨_, h⟩ | ⟨h, _⟩ | ⟨h, _⟩ | ⟨h, _⟩)
  ·exact h
  ·exact absurd h (by decide)
  ·exact absurd h (by decide)
  ·exact absurd h (by decide)
 ·intro h; exact .inl ⟨rfl, h⟩
end
mutual
inductive Is (H : Hp) : PyData → V → Prop
 | non : Is H .none .non
 | bl (b : Bool) : Is H (.bool b) (.bl b)
 | int (i : Int) : Is H (.int i) (.int i)
 | str (x : Str) : Is H (.str x) (.str x)
 | lst {p : Addr} {xs : List V} {ds : List PyData} : H p = some (.lst xs) → IsAll H ds xs → Is H (.list ds) (.ref p)
 | tup {p : Addr} {xs : List V} {ds : List PyData} : H p = some (.tup xs) → IsAll H ds xs → Is H (.tuple ds) (.ref p)
inductive IsAll (H : Hp) : List PyData → List V → Prop
 | nil : IsAll H [] []
 | cons {d : PyData} {x : V} {ds : List PyData} {xs : List V} : Is H d x → IsAll H ds xs → IsAll H (d :: ds) (x :: xs)
end
mutual
theorem Is.mono {H H' : Hp} (sm : Same H H') : ∀ {d : PyData} {x : V}, Is H d x → Is H' d x
 | _, _, .non => .non
 | _, _, .bl b => .bl b
 | _, _, .int i => .int i
 | _, _, .str x => .str x
 | _, _, .lst h r => .lst (sm _ _ h) (IsAll.mono sm r)
 | _, _, .tup h r => .tup (sm _ _ h) (IsAll.mono sm r)
theorem IsAll.mono {H H' : Hp} (sm : Same H H') : ∀ {ds : List PyData} {xs : List V}, IsAll H ds xs → IsAll H' ds xs
 | _, _, .nil => .nil
 | _, _, .cons h r => .cons (Is.mono sm h) (IsAll.mono sm r)
end
theorem IsAll.length {H : Hp} : ∀ {ds : List PyData} {xs : List V}, IsAll H ds xs → ds.length = xs.length
 | _, _, .nil => rfl
 | _, _, .cons _ r => by rw [List.length_cons, List.length_cons, IsAll.length r]
theorem IsAll.at {H : Hp} : ∀ {ds : List PyData} {xs : List V}, IsAll H ds xs → ∀ (i : Nat) (x : V), xs[i]? = some x → ∃ d, ds[i]? = some d ∧ Is H d x
 | _, _, .nil, i, x, h => by simp at h
 | _, _, .cons q r, 0, x, h => by simp at h; subst h; exact ⟨_, rfl, q⟩
 | _, _, .cons q r, i + 1, x, h => by
  obtain ⟨d, h1, h2⟩ := r.at i x (by simpa using h)
  exact ⟨d, by simpa using h1, h2⟩
section
variable {X : Cx} {pins : List (Addr × Obj)} {σ : St} {H : Hp} {s : Shared}
mutual
theorem Is.reads (I : Inv X pins σ H s) : ∀ {d : PyData} {x : V} {v : Value}, Is H d x → RelV x v → ∃ as, Reads s.heap v d as
 | _, _, _, .non, r => by cases r; exact ⟨_, .none⟩
 | _, _, _, .bl b, r => by cases r; exact ⟨_, .bool b⟩
 | _, _, _, .int i, r => by obtain ⟨t, rfl⟩ := r; exact ⟨_, .int i t⟩
 | _, _, _, .str x, r => by obtain ⟨t, rfl⟩ := r; exact ⟨_, .str x t⟩
 | _, _, _, .lst h q, r => by
  cases r
  obtain ⟨its, vs, ⟨o, n, e, c, _, dt⟩, _⟩ := I.list (SqL.of h)
  obtain ⟨as, ra⟩ := IsAll.reads I q vs
  exact ⟨_, .list e c dt (by simpa using ra)⟩
 | _, _, _, .tup h q, r => by
  cases r
  obtain ⟨its, vs, ⟨o, e, c, n, dt⟩, _⟩ := I.tuple (SqT.of h)
  obtain ⟨as, ra⟩ := IsAll.reads I q vs
  exact ⟨_, .tuple e c dt (by simpa using ra)⟩
theorem IsAll.reads (I : Inv X pins σ H s) : ∀ {ds : List PyData} {xs : List V} {vs : List Value}, IsAll H ds xs → Vals xs vs → ∃ as, ReadsAll s.heap vs ds as
 | _, _, _, .nil, r => by cases r; exact ⟨_, .nil⟩
 | _, _, _, .cons q t, r => by
  cases r with
  | cons r1 r2 =>
   obtain ⟨as, h1⟩ := Is.reads I q r1
   obtain ⟨bs, h2⟩ := IsAll.reads I t r2
   exact ⟨_, .cons h1 h2⟩
end
def rEqD : R2 := fun x y H Q => ∃ d e, Is H d x ∧ Is H e y ∧ SeqAt.shaped d = true ∧ SeqAt.shaped e = true ∧ Q (.bl (PyData.eqv d e)) H
def rNeD : R2 := fun x y H Q => ∃ d e, Is H d x ∧ Is H e y ∧ SeqAt.shaped d = true ∧ SeqAt.shaped e = true ∧ Q (.bl (!PyData.eqv d e)) H
theorem pqg (hu : X.A.units + 64 < cLine) : OpR X (compareOp .Eq) rEqD := by
 intro pins s σ H x y v u Q I rx ry h
 obtain ⟨d, e, hx, hy, sx, sy, q⟩ := h
 obtain ⟨as, ra⟩ := hx.reads I rx
 obtain ⟨bs, rb⟩ := hy.reads I ry
 exact eq_dataH ra rb sx sy hu ⟨.bl _, H, I, rfl, q⟩
theorem qq0 (hu : X.A.units + 64 < cLine) : OpR X (compareOp .NotEq) rNeD := by
 intro pins s σ H x y v u Q I rx ry h
 obtain ⟨d, e, hx, hy, sx, sy, q⟩ := h
 obtain ⟨as, ra⟩ := hx.reads I rx
 obtain ⟨bs, rb⟩ := hy.reads I ry
 exact ne_dataH ra rb sx sy hu ⟨.bl _, H, I, rfl, q⟩
end
mutual
inductive IsT (H : Hp) : PyData → V → Prop
 | non : IsT H .none .non
 | bl (b : Bool) : IsT H (.bool b) (.bl b)
 | int (i : Int) : IsT H (.int i) (.int i)
 | str (x : Str) : IsT H (.str x) (.str x)
 | tup {p : Addr} {xs : List V} {ds : List PyData} : H p = some (.tup xs) → IsTAll H ds xs → IsT H (.tuple ds) (.ref p)
inductive IsTAll (H : Hp) : List PyData → List V → Prop
 | nil : IsTAll H [] []
 | cons {d : PyData} {x : V} {ds : List PyData} {xs : List V} : IsT H d x → IsTAll H ds xs → IsTAll H (d :: ds) (x :: xs)
end
def SameT (H H' : Hp) : Prop := ∀ b xs, H b = some (.tup xs) → H' b = some (.tup xs)
theorem Same.toT {H H' : Hp} (h : Same H H') : SameT H H' := fun b xs e => h b _ e
theorem iqY {H : Hp} {p : Addr} {xs : List V} {o : HO} (h : H p = some (.lst xs)) : SameT H (upd H p o) := fun b ys e => by
 rw [aqv (wqT e h (by intro z; cases z))]; exact e
mutual
theorem IsT.mono {H H' : Hp} (sm : SameT H H') : ∀ {d : PyData} {x : V}, IsT H d x → IsT H' d x
 | _, _, .non => .non
 | _, _, .bl b => .bl b
 | _, _, .int i => .int i
 | _, _, .str x => .str x
 | _, _, .tup h r => .tup (sm _ _ h) (IsTAll.mono sm r)
theorem IsTAll.mono {H H' : Hp} (sm : SameT H H') : ∀ {ds : List PyData} {xs : List V}, IsTAll H ds xs → IsTAll H' ds xs
 | _, _, .nil => .nil
 | _, _, .cons h r => .cons (IsT.mono sm h) (IsTAll.mono sm r)
end
mutual
theorem IsT.is {H : Hp} : ∀ {d : PyData} {x : V}, IsT H d x → Is H d x
 | _, _, .non => .non
 | _, _, .bl b => .bl b
 | _, _, .int i => .int i
 | _, _, .str x => .str x
 | _, _, .tup h r => .tup h (IsTAll.is r)
theorem IsTAll.is {H : Hp} : ∀ {ds : List PyData} {xs : List V}, IsTAll H ds xs → IsAll H ds xs
 | _, _, .nil => .nil
 | _, _, .cons h r => .cons (IsT.is h) (IsTAll.is r)
end
theorem IsTAll.append {H : Hp} : ∀ {ds es : List PyData} {xs ys : List V}, IsTAll H ds xs → IsTAll H es ys → IsTAll H (ds ++ es) (xs ++ ys)
 | _, _, _, _, .nil, r => r
 | _, _, _, _, .cons h t, r => .cons h (t.append r)
theorem IsTAll.length {H : Hp} {ds : List PyData} {xs : List V} (h : IsTAll H ds xs) : ds.length = xs.length := h.is.length
section
variable {p : Addr} {fv : St} {te : TE} {Q : VK} {H1 : Hp}
inductive All2 (R : V → V → Hp → Prop) (H : Hp) : List V → List V → Prop
 | nil : All2 R H [] []
 | cons {x y : V} {xs ys : List V} : R x y H → All2 R H xs ys → All2 R H (x :: xs) (y :: ys)
theorem All2.mono {R : V → V → Hp → Prop} (hm : ∀ x y H H', SameT H H' → R x y H → R x y H') {H H' : Hp} (sm : SameT H H') : ∀ {xs ys : List V}, All2 R H xs ys → All2 R H' xs ys
 | _, _, .nil => .nil
 | _, _, .cons h t => .cons (hm _ _ _ _ sm h) (t.mono hm sm)
theorem All2.snoc {R : V → V → Hp → Prop} {H : Hp} {x y : V} (h : R x y H) : ∀ {xs ys : List V}, All2 R H xs ys → All2 R H (xs ++ [x]) (ys ++ [y])
 | _, _, .nil => .cons h .nil
 | _, _, .cons q t => .cons q (t.snoc h)
theorem All2.length {R : V → V → Hp → Prop} {H : Hp} : ∀ {xs ys : List V}, All2 R H xs ys → xs.length = ys.length
 | _, _, .nil => rfl
 | _, _, .cons _ t => by rw [List.length_cons, List.length_cons, t.length]
theorem pqY {K : PySem.W.Frag} {a : Addr} {xs : List V} (hxs : SqL K H1 a xs) (hlen : xs.length ≤ sizeLine) (hp : H1 p = none) (R : V → V → Hp → Prop) (hm : ∀ x y H H', SameT H H' → R x y H → R x y H')
  (he : ∀ x, x ∈ xs → ∀ (H' : Hp) (T : VK), Same H1 H' → (∀ y H'', Same H' H'' → R x y H'' → T y H'') → te (some x :: fv) H' T)
  (hQ : ∀ ys H', Same H1 H' → All2 R H' xs ys → H' p = some (.lst ys) → Q (.ref p) H') : CompI (Itl K a) p fv tYes te Q H1 := by
 refine ⟨fun i m ys H2 => m = xs.length - i ∧ i ≤ xs.length ∧ All2 R H2 (xs.take i) ys ∧ H2 p = some (.lst ys) ∧ Same H1 H2, ⟨xs.length, by simp, Nat.zero_le _, by rw [List.take_zero]; exact .nil, aqw, fun b o e => by rw [aqv (aqr e hp)]; exact e⟩, ?_⟩
 rintro i m ys H2 ⟨rfl, hi, hys, hp2, sm⟩
 refine ⟨hp2, ?_⟩
 have q := sm.seq hxs
 have hl := hys.length
 rw [List.length_take] at hl
 by_cases hlt : i < xs.length
 ·refine .inr ⟨⟨xs, xs[i], q, by simp [hlt]⟩, by omega, fun x H3 y => ?_⟩
  obtain ⟨rfl, y⟩ := y
  have hc := y xs q
  unfold tYes
  dsimp only
  rw [if_pos rfl]
  refine he x (List.mem_of_getElem? hc) _ _ sm fun y H5 s5 hr => ⟨s5 _ _ hp2, xs.length - (i + 1), by omega, rfl, hlt, ?_, aqw, fun b o e => ?_⟩
  ·rw [List.take_add_one, hc]
   exact ((hys.mono hm s5.toT).snoc hr).mono hm (iqY (s5 _ _ hp2))
  ·rw [aqv (aqr e hp)]; exact s5 _ _ (sm _ _ e)
 ·have e : i = xs.length := by omega
  subst e
  refine .inl ⟨⟨xs, q, Nat.le_refl _⟩, hQ ys H2 sm ?_ hp2⟩
  rw [List.take_length] at hys
  exact hys
end
section
variable {X : Cx}
def rAllB (K : PySem.W.Frag) : List V → Hp → VK → Prop := fun vs H Q => ∃ (p : Addr) (bs : List Bool), vs = [.ref p] ∧ SqL K H p (bs.map V.bl) ∧ Q (.bl (bs.all id)) H
def rAnyB (K : PySem.W.Frag) : List V → Hp → VK → Prop := fun vs H Q => ∃ (p : Addr) (bs : List Bool), vs = [.ref p] ∧ SqL K H p (bs.map V.bl) ∧ Q (.bl (bs.any id)) H
theorem oq1 {bs : List Bool} : ∀ {us : List Value}, Vals (bs.map V.bl) us → ∀ (i : Nat) (v : Value), us[i]? = some v → ∃ b, bs[i]? = some b ∧ v = .bool b := by
 induction bs with
 | nil => intro us r i v h; rw [List.map_nil] at r; cases r; simp at h
 | cons b bs ih =>
  intro us r i v h
  rw [List.map_cons] at r
  cases r with
  | cons r1 r2 =>
   cases i with
   | zero => simp at h; subst h; exact ⟨b, rfl, r1⟩
   | succ i =>
    obtain ⟨c, h1, h2⟩ := ih r2 i v (by simpa using h)
    exact ⟨c, by simpa using h1, h2⟩
theorem qqk (hc : X.calm = true) : CallR X (.builtin "all") (rAllB X.K) := by
 intro pins s σ H xs us Q I r h
 obtain ⟨p, bs, rfl, hq, q⟩ := h
 obtain ⟨u, rfl, ru⟩ := vals1 r
 cases ru
 obtain ⟨its, vs, pl, hl⟩ := I.list hq
 have hI := pl.isList
 have hlt : p < s.heap.objs.size := by obtain ⟨_, e, _⟩ := hI; exact Heap.lt_size e
 refine call_all_walk (wpAny_pyIter_list hI ?_)
 refine ⟨s.heap.objs.size, [s.heap.objs.size, p], [s.heap.objs.size], its.toArray.size, _, _, fun i => (bs[i]?).getD true, rfl, Walks.list (A := X.A.in1) (I.ok.hd hc) _ p (Nat.ne_of_lt hlt) its.toArray,
  ⟨⟨_, Heap.get?_push_size _ rfl, rfl, rfl⟩, hI.push _⟩, fun i v s' Q' E' hP hQ => ?_, fun h' tk hk => ?_⟩
 ·obtain ⟨b, e, rfl⟩ := oq1 vs i v (by simpa using hP)
  simp only [e, Option.getD_some] at hQ
  exact wpAny_truthy_bool hQ
 ·have hbl := vs.length
  rw [List.length_map] at hbl
  have e : ((List.range its.toArray.size).all fun i => (bs[i]?).getD true) = bs.all id := by
   rw [List.size_toArray, ← hbl]; exact PyProof.Rows.LSm.range_all bs
  exact ⟨.bl _, H, I.kept (t' := tk) (PyProof.Rows.LSm.kept_iter hk), rfl, by rw [e]; exact q⟩
theorem rqD (hc : X.calm = true) : CallR X (.builtin "any") (rAnyB X.K) := by
 intro pins s σ H xs us Q I r h
 obtain ⟨p, bs, rfl, hq, q⟩ := h
 obtain ⟨u, rfl, ru⟩ := vals1 r
 cases ru
 obtain ⟨its, vs, pl, hl⟩ := I.list hq
 have hI := pl.isList
 have hlt : p < s.heap.objs.size := by obtain ⟨_, e, _⟩ := hI; exact Heap.lt_size e
 refine call_any_walk (wpAny_pyIter_list hI ?_)
 refine ⟨s.heap.objs.size, [s.heap.objs.size, p], [s.heap.objs.size], its.toArray.size, _, _, fun i => (bs[i]?).getD false, rfl, Walks.list (A := X.A.in1) (I.ok.hd hc) _ p (Nat.ne_of_lt hlt) its.toArray,
  ⟨⟨_, Heap.get?_push_size _ rfl, rfl, rfl⟩, hI.push _⟩, fun i v s' Q' E' hP hQ => ?_, fun h' tk hk => ?_⟩
 ·obtain ⟨b, e, rfl⟩ := oq1 vs i v (by simpa using hP)
  simp only [e, Option.getD_some] at hQ
  exact wpAny_truthy_bool hQ
 ·have hbl := vs.length
  rw [List.length_map] at hbl
  have e : ((List.range its.toArray.size).any fun i => (bs[i]?).getD false) = bs.any id := by
   rw [List.size_toArray, ← hbl]; exact PyProof.Rows.LSm.range_any bs
  exact ⟨.bl _, H, I.kept (t' := tk) (PyProof.Rows.LSm.kept_iter hk), rfl, by rw [e]; exact q⟩
variable {K : PySem.W.Frag}
theorem kqY (h : X.K = K) (hc : X.calm = true) : CallR X (.builtin "all") (rAllB K) := by subst h; exact qqk hc
theorem rqF (h : X.K = K) (hc : X.calm = true) : CallR X (.builtin "any") (rAnyB K) := by subst h; exact rqD hc
def rListU (K : PySem.W.Frag) : List V → Hp → VK → Prop := fun xs H Q => ∃ p ys, xs = [.ref p] ∧ (SqL K H p ys ∨ SqT K H p ys) ∧ ∀ l, H l = none → Q (.ref l) (upd H l (.lst ys))
def rTupleU (K : PySem.W.Frag) : List V → Hp → VK → Prop := fun xs H Q => ∃ p ys, xs = [.ref p] ∧ ((SqL K H p ys ∧ ∀ l, H l = none → Q (.ref l) (upd H l (.tup ys))) ∨ (SqT K H p ys ∧ Q (.ref p) H))
theorem qqC {tg l : Expr} {tl : TE} (h : X.K = K) (hl : PE X l tl) : PI X tg l (iTup K tl) := by subst h; exact vqH hl
end
section
variable {H : Hp} {Q : VK} {K : PySem.W.Frag}
theorem uq5 {x : V} {T : String} : (rIsiU [x, .ty T] H Q) = (∃ k, kindV x H = some k ∧ T ∈ ["bool", "int", "str", "list", "tuple"] ∧ Q (.bl (subT k T)) H) := rfl
theorem sqY : kindV .non H = some "NoneType" := rfl
theorem uqP {b : Bool} : kindV (.bl b) H = some "bool" := rfl
theorem sqB {i : Int} : kindV (.int i) H = some "int" := rfl
theorem rqT {x : Str} : kindV (.str x) H = some "str" := rfl
theorem hqt {p : Addr} {xs : List V} (h : H p = some (.lst xs)) : kindV (.ref p) H = some "list" := by simp only [kindV, h]
theorem hqg {p : Addr} {xs : List V} (h : H p = some (.tup xs)) : kindV (.ref p) H = some "tuple" := by simp only [kindV, h]
theorem rqz : ("bool" ∈ ["bool", "int", "str", "list", "tuple"]) = True := by simp
theorem sqh : ("int" ∈ ["bool", "int", "str", "list", "tuple"]) = True := by simp
theorem sqI : ("str" ∈ ["bool", "int", "str", "list", "tuple"]) = True := by simp
theorem qqn : ("list" ∈ ["bool", "int", "str", "list", "tuple"]) = True := by simp
theorem pqy : ("tuple" ∈ ["bool", "int", "str", "list", "tuple"]) = True := by simp
theorem iq8 : subT "NoneType" "bool" = false := by decide
theorem jqW : subT "NoneType" "int" = false := by decide
theorem jqS : subT "NoneType" "str" = false := by decide
theorem iq7 : subT "NoneType" "list" = false := by decide
theorem iqp : subT "NoneType" "tuple" = false := by decide
theorem mqy : subT "bool" "bool" = true := by decide
theorem nqR : subT "bool" "int" = true := by decide
theorem nqu : subT "bool" "str" = false := by decide
theorem lq8 : subT "bool" "list" = false := by decide
theorem lqa : subT "bool" "tuple" = false := by decide
theorem nqH : subT "int" "bool" = false := by decide
theorem oqo : subT "int" "int" = true := by decide
theorem oqa : subT "int" "str" = false := by decide
theorem nq3 : subT "int" "list" = false := by decide
theorem mqv : subT "int" "tuple" = false := by decide
theorem nqv : subT "str" "bool" = false := by decide
theorem oqF : subT "str" "int" = false := by decide
theorem oqQ : subT "str" "str" = true := by decide
theorem mqX : subT "str" "list" = false := by decide
theorem mqM : subT "str" "tuple" = false := by decide
theorem mqD : subT "list" "bool" = false := by decide
theorem mq5 : subT "list" "int" = false := by decide
theorem nqa : subT "list" "str" = false := by decide
theorem lqY : subT "list" "list" = true := by decide
theorem lqn : subT "list" "tuple" = false := by decide
theorem lqm : subT "tuple" "bool" = false := by decide
theorem mqs : subT "tuple" "int" = false := by decide
theorem mqz : subT "tuple" "str" = false := by decide
theorem lqk : subT "tuple" "list" = false := by decide
theorem kqQ : subT "tuple" "tuple" = true := by decide
def kindD : PyData → String
 | .none => "NoneType" | .bool _ => "bool" | .int _ => "int" | .str _ => "str" | .list _ => "list" | .tuple _ => "tuple" | .dict _ => "dict"
theorem Is.kind {d : PyData} {x : V} (h : Is H d x) : kindV x H = some (kindD d) := by
 cases h with
 | non => rfl
 | bl => rfl
 | int => rfl
 | str => rfl
 | lst h _ => exact hqt h
 | tup h _ => exact hqg h
theorem vqa {n : Nat} {t : TGs} {v : V} {σ : St} {R : St → Hp → Prop} : (gTup K n t v σ H R) = (∃ a xs, v = .ref a ∧ SqT K H a xs ∧ xs.length = n ∧ t xs σ H R) := rfl
theorem rqZ {t : TG} {u : TGs} {vs : List V} {σ : St} {R : St → Hp → Prop} : (gCons t u vs σ H R) = (∃ v r, vs = v :: r ∧ t v σ H fun σ' H' => u r σ' H' R) := rfl
theorem uqo {vs : List V} {σ : St} {R : St → Hp → Prop} : (gNil vs σ H R) = (vs = [] ∧ R σ H) := rfl
theorem uqc {to ti : TE} {t : TSet} {v : V} {σ : St} {R : St → Hp → Prop} : (gSub to ti t v σ H R) = (to σ H fun o H1 => ti σ H1 fun i H2 => t o i v H2 fun H3 => R σ H3) := rfl
theorem uq2 {p : Addr} {k : Int} {v : V} {R : Hp → Prop} : rSetL (.ref p) (.int k) v H R ↔ ∃ xs j, H p = some (.lst xs) ∧ ixN xs.length k = some j ∧ R (upd H p (.lst (xs.set j v))) := by
 constructor
 ·rintro ⟨p', xs, k', j, h1, h2, h3⟩; cases h1; cases h2; exact ⟨xs, j, h3⟩
 ·rintro ⟨xs, j, h⟩; exact ⟨p, xs, k, j, rfl, rfl, h⟩
end
section
variable {X : Cx} {K : PySem.W.Frag}
theorem oqP {es : List Expr} {k : Nat} {t : TGs} {n : Nat} {pos : Pos} (h : X.K = K) (hc : X.calm = true) (hg : PGs X es t)
  (hn : (assignEach es X.env).length = n := by rfl) (hst : (assignEach es X.env).findIdx? (·.1) = none := by rfl) : PG X (.Tuple es k pos) (gTup K n t) := by
 subst h; exact vq6 hc hg hn hst
end
def SameBut (p : Addr) (H H' : Hp) : Prop := ∀ b o, b ≠ p → H b = some o → H' b = some o
theorem SameBut.refl (p : Addr) (H : Hp) : SameBut p H H := fun _ _ _ e => e
theorem SameBut.trans {p : Addr} {H H' H'' : Hp} (h : SameBut p H H') (h' : SameBut p H' H'') : SameBut p H H'' := fun b o n e => h' b o n (h b o n e)
theorem Same.but {p : Addr} {H H' : Hp} (h : Same H H') : SameBut p H H' := fun b o _ e => h b o e
theorem kqS {p : Addr} {H : Hp} {o : HO} : SameBut p H (upd H p o) := fun b u n e => by rw [aqv n]; exact e
theorem SameBut.same {p : Addr} {H H' : Hp} (h : SameBut p H H') (hp : H p = none) : Same H H' := fun b o e => h b o (aqr e hp) e
section
variable {p : Addr} {fv : St} {te : TE} {Q : VK} {H1 : Hp} {K : PySem.W.Frag}
theorem Same.tup {H H' : Hp} {a : Addr} {xs : List V} (e : Same H H') (h : SqT K H a xs) : SqT K H' a xs := by
 rcases h with (h | ⟨o, h⟩) | h
 ·exact .inl (.inl (e _ _ h))
 ·exact .inl (.inr ⟨o, e _ _ h⟩)
 ·exact .inr h
theorem nq1 {a : Addr} {xs zs : List V} (hxs : SqT K H1 a xs) (hlen : xs.length ≤ sizeLine) (hp : H1 p = none) (hz : zs.length = xs.length)
  (he : ∀ (i : Nat) (x z : V), xs[i]? = some x → zs[i]? = some z → ∀ (H' : Hp) (T : VK), Same H1 H' → (∀ H'', Same H' H'' → T z H'') → te (some x :: fv) H' T)
  (hQ : ∀ H', Same H1 H' → H' p = some (.lst zs) → Q (.ref p) H') : CompI (Itt K a) p fv tYes te Q H1 := by
 refine ⟨fun i m ys H2 => m = xs.length - i ∧ i ≤ xs.length ∧ ys = zs.take i ∧ H2 p = some (.lst ys) ∧ Same H1 H2, ⟨xs.length, by simp, Nat.zero_le _, by simp, aqw, fun b o e => by rw [aqv (aqr e hp)]; exact e⟩, ?_⟩
 rintro i m ys H2 ⟨rfl, hi, rfl, hp2, sm⟩
 refine ⟨hp2, ?_⟩
 have q := sm.tup hxs
 by_cases hlt : i < xs.length
 ·refine .inr ⟨⟨xs, xs[i], q, by simp [hlt]⟩, ?_, fun x H3 y => ?_⟩
  ·rw [List.length_take]; omega
  ·obtain ⟨rfl, y⟩ := y
   have hc := y xs q
   have hzi : zs[i]? = some zs[i] := List.getElem?_eq_getElem (by omega)
   unfold tYes
   dsimp only
   rw [if_pos rfl]
   refine he i x _ hc hzi _ _ sm fun H5 s5 => ⟨s5 _ _ hp2, xs.length - (i + 1), by omega, rfl, hlt, ?_, aqw, fun b o e => ?_⟩
   ·rw [List.take_add_one, hzi]; rfl
   ·rw [aqv (aqr e hp)]; exact s5 _ _ (sm _ _ e)
 ·have e : i = xs.length := by omega
  subst e
  refine .inl ⟨⟨xs, q, Nat.le_refl _⟩, hQ H2 sm ?_⟩
  rw [hp2, ← hz, List.take_length]
theorem pqF {a : Addr} {xs zs : List V} (hxs : SqL K H1 a xs) (hlen : xs.length ≤ sizeLine) (hp : H1 p = none) (hz : zs.length = xs.length)
  (he : ∀ (i : Nat) (x z : V), xs[i]? = some x → zs[i]? = some z → ∀ (H' : Hp) (T : VK), Same H1 H' → (∀ H'', Same H' H'' → T z H'') → te (some x :: fv) H' T)
  (hQ : ∀ H', Same H1 H' → H' p = some (.lst zs) → Q (.ref p) H') : CompI (Itl K a) p fv tYes te Q H1 := by
 refine ⟨fun i m ys H2 => m = xs.length - i ∧ i ≤ xs.length ∧ ys = zs.take i ∧ H2 p = some (.lst ys) ∧ Same H1 H2, ⟨xs.length, by simp, Nat.zero_le _, by simp, aqw, fun b o e => by rw [aqv (aqr e hp)]; exact e⟩, ?_⟩
 rintro i m ys H2 ⟨rfl, hi, rfl, hp2, sm⟩
 refine ⟨hp2, ?_⟩
 have q := sm.seq hxs
 by_cases hlt : i < xs.length
 ·refine .inr ⟨⟨xs, xs[i], q, by simp [hlt]⟩, ?_, fun x H3 y => ?_⟩
  ·rw [List.length_take]; omega
  ·obtain ⟨rfl, y⟩ := y
   have hc := y xs q
   have hzi : zs[i]? = some zs[i] := List.getElem?_eq_getElem (by omega)
   unfold tYes
   dsimp only
   rw [if_pos rfl]
   refine he i x _ hc hzi _ _ sm fun H5 s5 => ⟨s5 _ _ hp2, xs.length - (i + 1), by omega, rfl, hlt, ?_, aqw, fun b o e => ?_⟩
   ·rw [List.take_add_one, hzi]; rfl
   ·rw [aqv (aqr e hp)]; exact s5 _ _ (sm _ _ e)
 ·have e : i = xs.length := by omega
  subst e
  refine .inl ⟨⟨xs, q, Nat.le_refl _⟩, hQ H2 sm ?_⟩
  rw [hp2, ← hz, List.take_length]
variable {σ : St} {H : Hp} {tl : TE} {tt : TT} {fr : List Nat} {g : TG} {tb : TS} {D : Ends}
theorem rqV : (tComp (iTup K tl) fr tt te σ H Q) = (tl σ H fun x H1 => ∃ a, x = .ref a ∧ (∃ xs, SqT K H1 a xs) ∧ ∀ p, H1 p = none → CompI (Itt K a) p (frV σ fr) tt te Q H1) := rfl
theorem uqi : (tFor (iTup K te) g tb D σ H) = (te σ H fun x H1 => ∃ a, x = .ref a ∧ (∃ xs, SqT K H1 a xs) ∧ LoopI (Itt K a) g tb D σ H1) := rfl
theorem mqh {a : Addr} : rAllB K [.ref a] H Q ↔ ∃ bs : List Bool, SqL K H a (bs.map V.bl) ∧ Q (.bl (bs.all id)) H := by
 constructor
 ·rintro ⟨p, bs, h1, h2⟩; cases h1; exact ⟨bs, h2⟩
 ·rintro ⟨bs, h⟩; exact ⟨a, bs, rfl, h⟩
theorem pq3 {a : Addr} : rAnyB K [.ref a] H Q ↔ ∃ bs : List Bool, SqL K H a (bs.map V.bl) ∧ Q (.bl (bs.any id)) H := by
 constructor
 ·rintro ⟨p, bs, h1, h2⟩; cases h1; exact ⟨bs, h2⟩
 ·rintro ⟨bs, h⟩; exact ⟨a, bs, rfl, h⟩
theorem vqM {a : Addr} : rListU K [.ref a] H Q ↔ ∃ ys, (SqL K H a ys ∨ SqT K H a ys) ∧ ∀ l, H l = none → Q (.ref l) (upd H l (.lst ys)) := by
 constructor
 ·rintro ⟨p, bs, h1, h2⟩; cases h1; exact ⟨bs, h2⟩
 ·rintro ⟨bs, h⟩; exact ⟨a, bs, rfl, h⟩
theorem vqT {a : Addr} : rTupleU K [.ref a] H Q ↔ ∃ ys, (SqL K H a ys ∧ ∀ l, H l = none → Q (.ref l) (upd H l (.tup ys))) ∨ (SqT K H a ys ∧ Q (.ref a) H) := by
 constructor
 ·rintro ⟨p, bs, h1, h2⟩; cases h1; exact ⟨bs, h2⟩
 ·rintro ⟨bs, h⟩; exact ⟨a, bs, rfl, h⟩
theorem uqH {a : Addr} {lo hi : Option Int} : rSlT K (.ref a) lo hi H Q ↔ ∃ xs, SqT K H a xs ∧ ¬ (HT.sIx xs.length 0 lo = 0 ∧ HT.sIx xs.length xs.length hi = xs.length) ∧ ∀ p, H p = none → Q (.ref p) (upd H p (.tup (cutV xs lo hi))) := by
 constructor
 ·rintro ⟨p, bs, h1, h2⟩; cases h1; exact ⟨bs, h2⟩
 ·rintro ⟨bs, h⟩; exact ⟨a, bs, rfl, h⟩
end
def tCut (t u : TS) : TS := fun D σ H => ∃ P : St → Hp → Prop, t { D with nx := P } σ H ∧ ∀ σ' H', P σ' H' → u D σ' H'
section
variable {X : Cx} {st : Stmt} {rest : List Stmt} {t u : TS}
theorem aqE (h1 : PS X st t) (h2 : PSs X rest u) : PSs X (st :: rest) (tCut t u) := by
 intro pins s σ H D I h
 obtain ⟨P, h, hu⟩ := h
 refine wpAny_execs_cons (thn (h1 pins s σ H { D with nx := P } I h) fun f s1 q => ?_)
 cases f with
 | next =>
  obtain ⟨σ', H', I', q⟩ := q
  exact h2 pins s1 σ' H' D I' (hu _ _ q)
 | ret v => exact q
 | brk => exact q
 | cont => exact q
def Later (u : TS) (D : Ends) (σ : St) (H : Hp) : Prop := u D σ H
theorem sqb {D : Ends} {x : Option V} {σ : St} {H : Hp} : (Later u D (x :: σ) H) = (u D (x :: σ) H) := rfl
theorem vqC {D : Ends} {σ : St} {H : Hp} : (tCut t u D σ H) = (∃ P : St → Hp → Prop, t { D with nx := P } σ H ∧ ∀ σ' H', P σ' H' → Later u D σ' H') := rfl
end
theorem SameBut.free {p q : Addr} {H H' : Hp} (sb : SameBut p H H') (hq : H' q = none) (hne : q ≠ p) : H q = none := by
 cases e : H q with
 | none => rfl
 | some o => rw [sb q o hne e] at hq; cases hq
theorem SameBut.upd {p q : Addr} {H H' : Hp} {o : HO} (sb : SameBut p H H') (hq : H q = none) : SameBut p H (upd H' q o) := fun b u n e => by
 rw [aqv (aqr e hq)]; exact sb b u n e
theorem IsTAll.strs {H : Hp} : ∀ (l : List (List Nat)), IsTAll H (l.map fun z => PyData.str ⟨z.toArray⟩) (l.map fun z => V.str ⟨z.toArray⟩)
 | [] => .nil
 | x :: r => .cons (.str _) (IsTAll.strs r)
theorem fqu {H : Hp} {p : Addr} {o : HO} (hp : H p = none) : Same H (upd H p o) := fun b u e => by rw [aqv (aqr e hp)]; exact e
def tTupS (t : TA) : TE := fun σ H Q => t σ H fun xs H1 => xs.length ≤ sizeLine ∧ ∀ p H', H1 p = none → Same H1 H' → H' p = some (.tup xs) → Q (.ref p) H'
def tLstS (t : TA) : TE := fun σ H Q => t σ H fun xs H1 => xs.length ≤ sizeLine ∧ ∀ p H', H1 p = none → Same H1 H' → H' p = some (.lst xs) → Q (.ref p) H'
section
variable {X : Cx} {es : List Expr} {t : TA} {pos : Pos} {K : PySem.W.Frag}
theorem aqo {x1} (h : PA X es t) : PE X (.Tuple es x1 pos) (tTupS t) := by
 intro pins s σ H Q I hq
 refine wpAny_Tuple_spliced (thn (h pos pins s σ H _ I hq) fun us s1 ⟨xs, H1, I1, r, z, q⟩ => ⟨by rw [← r.length]; exact z, ?_⟩)
 have hf : H1 s1.heap.objs.size = none := I1.hok.fresh (Nat.le_refl _)
 refine ⟨.ref s1.heap.objs.size, upd H1 s1.heap.objs.size (.tup xs), I1.laid (t' := s1.toks) (fun b u e => Heap.get?_push_of_some _ e) (Nat.le_refl _) ?_, rfl, q _ _ hf (fqu hf) aqw⟩
 exact ⟨z, us, r, ⟨_, Heap.get?_push_size _ rfl, rfl, _, rfl⟩⟩
theorem aqL (h : PA X es t) : PE X (.List es pos) (tLstS t) := by
 intro pins s σ H Q I hq
 refine wpAny_List_spliced (thn (h pos pins s σ H _ I hq) fun us s1 ⟨xs, H1, I1, r, z, q⟩ => ⟨by rw [← r.length]; exact z, ?_⟩)
 have hf : H1 s1.heap.objs.size = none := I1.hok.fresh (Nat.le_refl _)
 refine ⟨.ref s1.heap.objs.size, upd H1 s1.heap.objs.size (.lst xs), I1.laid (t' := s1.toks) (fun b u e => Heap.get?_push_of_some _ e) (Nat.le_refl _) ?_, rfl, q _ _ hf (fqu hf) aqw⟩
 exact ⟨z, us, 0, r, Heap.get?_push_size _ rfl⟩
def rAddS (K : PySem.W.Frag) : R2 := fun x y H Q => match x, y with
 | .int i, .int j => Q (.int (i + j)) H
 | .str i, .str j => i.length + j.length ≤ sizeLine ∧ Q (.str (i ++ j)) H
 | .ref a, .ref b => (∃ xs zs, H a = some (.lst xs) ∧ H b = some (.lst zs) ∧ xs.length + zs.length ≤ sizeLine ∧ ∀ p H', H p = none → Same H H' → H' p = some (.lst (xs ++ zs)) → Q (.ref p) H') ∨
   (∃ xs ys, H a = some (.tup xs) ∧ H b = some (.tup ys) ∧ xs.length + ys.length ≤ sizeLine ∧ ∀ p H', Same H H' → H' p = some (.tup (xs ++ ys)) → Q (.ref p) H')
 | _, _ => False
theorem aqJ : OpR X (binaryOp .Add) (rAddS K) := by
 intro pins s σ H x y v u Q I rx ry h
 refine qqR pins s σ H x y v u Q I rx ry ?_
 cases x with
 | int i =>
  cases y with
  | int j => exact h
  | _ => exact h.elim
 | str i =>
  cases y with
  | str j => exact h
  | _ => exact h.elim
 | ref a =>
  cases y with
  | ref b =>
   rcases h with ⟨xs, zs, h1, h2, h3, h4⟩ | h
   ·exact .inl ⟨xs, zs, h1, h2, h3, fun p hp => h4 p _ hp (fqu hp) aqw⟩
   ·exact .inr h
  | _ => exact h.elim
 | _ => exact h.elim
def rListS (K : PySem.W.Frag) : List V → Hp → VK → Prop := fun xs H Q => ∃ p ys, xs = [.ref p] ∧ (SqL K H p ys ∨ SqT K H p ys) ∧ ∀ l H', H l = none → Same H H' → H' l = some (.lst ys) → Q (.ref l) H'
def rTupleS (K : PySem.W.Frag) : List V → Hp → VK → Prop := fun xs H Q => ∃ p ys, xs = [.ref p] ∧ (SqL K H p ys ∨ H p = some (.tup ys)) ∧ ∀ l H', Same H H' → H' l = some (.tup ys) → Q (.ref l) H'
theorem kqb (h : X.K = K) : CallR X (.type "tuple") (rTupleS K) := by
 subst h
 intro pins s σ H xs us Q I r h
 obtain ⟨p, ys, h1, h2, h3⟩ := h
 rcases h2 with h2 | h2
 ·exact iqt pins s σ H xs us Q I r ⟨p, ys, h1, .inl ⟨h2, fun l hl => h3 l _ (fqu hl) aqw⟩⟩
 ·exact iqt pins s σ H xs us Q I r ⟨p, ys, h1, .inr ⟨SqT.of h2, h3 p H (Same.refl _) h2⟩⟩
def rSlS2 (K : PySem.W.Frag) : V → Option Int → Option Int → Hp → VK → Prop := fun x lo hi H Q => ∃ a xs, x = .ref a ∧ SqT K H a xs ∧
 ¬ (HT.sIx xs.length 0 lo = 0 ∧ HT.sIx xs.length xs.length hi = xs.length) ∧ ∀ p H', H p = none → Same H H' → H' p = some (.tup (cutV xs lo hi)) → Q (.ref p) H'
end
section
variable {σ : St} {H : Hp} {Q : VK} {K : PySem.W.Frag} {aa : TA}
theorem tq1 : (tTupS aa σ H Q) = (aa σ H fun xs H1 => xs.length ≤ sizeLine ∧ ∀ p H', H1 p = none → Same H1 H' → H' p = some (.tup xs) → Q (.ref p) H') := rfl
theorem uqq : (tLstS aa σ H Q) = (aa σ H fun xs H1 => xs.length ≤ sizeLine ∧ ∀ p H', H1 p = none → Same H1 H' → H' p = some (.lst xs) → Q (.ref p) H') := rfl
theorem oqm {i j : Int} : (rAddS K (.int i) (.int j) H Q) = (Q (.int (i + j)) H) := rfl
theorem uqv {i j : Str} : (rAddS K (.str i) (.str j) H Q) = (i.length + j.length ≤ sizeLine ∧ Q (.str (i ++ j)) H) := rfl
theorem uqQ {a : Addr} : rListS K [.ref a] H Q ↔ ∃ ys, (SqL K H a ys ∨ SqT K H a ys) ∧ ∀ l H', H l = none → Same H H' → H' l = some (.lst ys) → Q (.ref l) H' := by
 constructor
 ·rintro ⟨p, bs, h1, h2⟩; cases h1; exact ⟨bs, h2⟩
 ·rintro ⟨bs, h⟩; exact ⟨a, bs, rfl, h⟩
theorem uqp {a : Addr} : rTupleS K [.ref a] H Q ↔ ∃ ys, (SqL K H a ys ∨ H a = some (.tup ys)) ∧ ∀ l H', Same H H' → H' l = some (.tup ys) → Q (.ref l) H' := by
 constructor
 ·rintro ⟨p, bs, h1, h2⟩; cases h1; exact ⟨bs, h2⟩
 ·rintro ⟨bs, h⟩; exact ⟨a, bs, rfl, h⟩
theorem tq3 {a : Addr} {lo hi : Option Int} : rSlS2 K (.ref a) lo hi H Q ↔ ∃ xs, SqT K H a xs ∧ ¬ (HT.sIx xs.length 0 lo = 0 ∧ HT.sIx xs.length xs.length hi = xs.length) ∧ ∀ p H', H p = none → Same H H' → H' p = some (.tup (cutV xs lo hi)) → Q (.ref p) H' := by
 constructor
 ·rintro ⟨p, bs, h1, h2⟩; cases h1; exact ⟨bs, h2⟩
 ·rintro ⟨bs, h⟩; exact ⟨a, bs, rfl, h⟩
end
def rSlLS (K : PySem.W.Frag) : V → Option Int → Option Int → Hp → VK → Prop := fun x lo hi H Q => ∃ a xs, x = .ref a ∧ SqL K H a xs ∧ ∀ p H', H p = none → Same H H' → H' p = some (.lst (cutV xs lo hi)) → Q (.ref p) H'
theorem sqQ {K : PySem.W.Frag} {H : Hp} {Q : VK} {a : Addr} {lo hi : Option Int} : rSlLS K (.ref a) lo hi H Q ↔ ∃ xs, SqL K H a xs ∧ ∀ p H', H p = none → Same H H' → H' p = some (.lst (cutV xs lo hi)) → Q (.ref p) H' := by
 constructor
 ·rintro ⟨p, bs, h1, h2⟩; cases h1; exact ⟨bs, h2⟩
 ·rintro ⟨bs, h⟩; exact ⟨a, bs, rfl, h⟩
def rIsB (neg : Bool) : R2 := fun x y H Q => match x, y with
 | .bl b, .bl c => Q (.bl (if neg then !decide (b = c) else decide (b = c))) H
 | _, _ => False
theorem xqb {b c : Bool} {H : Hp} {Q : VK} : (rIsB false (.bl b) (.bl c) H Q) = (Q (.bl (decide (b = c))) H) := rfl
end L2
namespace Wm
open PySem L2
def isSg (c : Nat) : Bool := decide (32 ≤ c) && decide (c ≤ 126) && !decide (c = 37)
def SG : List Nat := (List.range 127).filter isSg
def hexd (n : Nat) : Nat := if n < 10 then 48 + n else 87 + n
def fig (a : Nat) : Option Nat := if 48 ≤ a ∧ a ≤ 57 then some (a - 48) else if 97 ≤ a ∧ a ≤ 102 then some (a - 87) else if 65 ≤ a ∧ a ≤ 70 then some (a - 55) else none
def figV (a : Nat) : V := match fig a with | some n => .int (n : Nat) | none => .non
abbrev one (c : Nat) : V := .str ⟨#[c]⟩
def sgV (n : Nat) : V := if isSg n then one n else .non
def signOf (a b : Nat) : V := match fig a, fig b with | some h, some l => sgV (h * 16 + l) | _, _ => .non
def signOfL : List Nat → V
 | [a, b] => signOf a b
 | _ => .non
theorem vqB {c : Nat} : c ∈ SG ↔ isSg c = true := by
 unfold SG
 rw [List.mem_filter, List.mem_range]
 constructor
 ·exact fun h => h.2
 ·intro h
  refine ⟨?_, h⟩
  simp only [isSg, Bool.and_eq_true, decide_eq_true_eq] at h
  omega
theorem eqN {c : Nat} (h : isSg c = true) : 32 ≤ c ∧ c ≤ 126 ∧ c ≠ 37 := by
 simp only [isSg, Bool.and_eq_true, decide_eq_true_eq, Bool.not_eq_true', decide_eq_false_iff_not] at h
 omega
theorem uqL : ∀ n, n < 16 → (Str.ofString "0123456789abcdef").cps.toList[n]? = some (hexd n) := by decide +kernel
theorem vqu {i : Int} {n : Nat} (e : i = (n : Int)) (h : n < 16) : atI (Str.ofString "0123456789abcdef").cps.toList i = some (hexd n) := by
 rw [e]; exact aqu (uqL n h)
theorem nqS : (Str.ofString "0123456789abcdef").length ≤ sizeLine := by decide +kernel
theorem sqd : ∀ a, a < 128 → a ∈ (Str.ofString "0123456789abcdef").cps.toList →
  Builtin.Str.occurrences (Str.ofString "0123456789abcdef") ⟨#[a]⟩ 0 (Str.ofString "0123456789abcdef").length 1 = [(fig a).getD 0] ∧ (fig a).isSome = true := by decide +kernel
theorem sqJ : ∀ a, a < 128 → ¬ a ∈ (Str.ofString "0123456789abcdef").cps.toList → a ∈ (Str.ofString "0123456789ABCDEF").cps.toList →
  Builtin.Str.occurrences (Str.ofString "0123456789ABCDEF") ⟨#[a]⟩ 0 (Str.ofString "0123456789ABCDEF").length 1 = [(fig a).getD 0] ∧ (fig a).isSome = true := by decide +kernel
theorem xqc : ∀ a, a < 128 → ¬ a ∈ (Str.ofString "0123456789abcdef").cps.toList → ¬ a ∈ (Str.ofString "0123456789ABCDEF").cps.toList → fig a = none := by decide +kernel
theorem sqm : ∀ n, n < 127 → isSg n = true → (Str.ofString " !\"#$&'()*+,-./0123456789:;<=>?@ABCDEFGHIJKLMNOPQRSTUVWXYZ[\\]^_`abcdefghijklmnopqrstuvwxyz{|}~").cps.toList[n - 32 - (if 37 < n then 1 else 0)]? = some n := by decide +kernel
theorem nq2 : (Str.ofString " !\"#$&'()*+,-./0123456789:;<=>?@ABCDEFGHIJKLMNOPQRSTUVWXYZ[\\]^_`abcdefghijklmnopqrstuvwxyz{|}~").length ≤ sizeLine := by decide +kernel
theorem vqG : (Str.ofString " !\"#$&'()*+,-./0123456789:;<=>?@ABCDEFGHIJKLMNOPQRSTUVWXYZ[\\]^_`" ++ Str.ofString "abcdefghijklmnopqrstuvwxyz{|}~" : Str) = ⟨SG.toArray⟩ := by decide +kernel
theorem tqN : (Str.ofString " !\"#$&'()*+,-./0123456789:;<=>?@ABCDEFGHIJKLMNOPQRSTUVWXYZ[\\]^_`").length + (Str.ofString "abcdefghijklmnopqrstuvwxyz{|}~").length ≤ sizeLine := by decide +kernel
def ixT (c : Nat) : Nat := c - 32 - (if 37 < c then 1 else 0)
theorem vqE : ∀ c, c < 127 → isSg c = true → Builtin.Str.occurrences (⟨SG.toArray⟩ : Str) ⟨#[c]⟩ 0 (⟨SG.toArray⟩ : Str).length 1 = [ixT c] := by decide +kernel
theorem tqV {c : Nat} (h : isSg c = true) : (32 : Int) + (ixT c : Int) + (if 4 < (ixT c : Int) then 1 else 0) = (c : Int) := by
 have h := eqN h
 unfold ixT
 by_cases h1 : 37 < c
 ·rw [if_pos h1, if_pos (by omega)]; omega
 ·rw [if_neg h1, if_neg (by omega)]; omega
theorem nqW (l : List Nat) (a : Nat) : ∀ k, ((List.range k).map fun j => a + j).filterMap (fun i => l[i]?) = (l.drop a).take k
 | 0 => by simp
 | k + 1 => by
  rw [List.range_succ, List.map_append, List.filterMap_append, nqW l a k, List.take_add_one, List.getElem?_drop]
  simp only [List.map_cons, List.map_nil]
  cases e : l[a + k]? with
  | none => simp [e]
  | some c => simp [e]
def clipI (n : Nat) (v : Int) : Nat := (max 0 (min (if v < 0 then v + n else v) n)).toNat
theorem sqq (a b : Nat) : sliceRange (a : Int) (b : Int) 1 = (List.range (b - a)).map fun j => a + j := by
 unfold sliceRange
 have h1 : (1 : Int) > 0 := by decide
 simp only [h1, if_true, Int.one_mul, Int.ediv_one]
 have e : (if (a : Int) < (b : Int) then (b : Int) - (a : Int) + 1 - 1 else 0).toNat = b - a := by split <;> omega
 rw [e]
 apply List.map_congr_left
 intro j _
 omega
theorem oqR (lo hi : Option Int) (n : Nat) : Builtin.Str.strSliceIndices lo hi 1 n = (List.range ((hi.elim n (clipI n)) - (lo.elim 0 (clipI n)))).map fun j => (lo.elim 0 (clipI n)) + j := by
 unfold Builtin.Str.strSliceIndices
 have h1 : (1 : Int) > 0 := by decide
 simp only [h1, if_true]
 rw [← sqq]
 congr 1
 ·cases lo with
  | none => rfl
  | some v => simp only [Option.elim_some, clipI]; omega
 ·cases hi with
  | none => rfl
  | some v => simp only [Option.elim_some, clipI]; omega
theorem iqD (l : List Nat) (lo hi : Option Int) : Txt.slice (⟨l.toArray⟩ : Str) lo hi = ⟨((l.drop (lo.elim 0 (clipI l.length))).take ((hi.elim l.length (clipI l.length)) - (lo.elim 0 (clipI l.length)))).toArray⟩ := by
 have hl : (⟨l.toArray⟩ : Str).length = l.length := by simp [Str.length]
 have hb : hi.elim l.length (clipI l.length) ≤ l.length := by
  cases hi with
  | none => exact Nat.le_refl _
  | some v => simp only [Option.elim_some, clipI]; omega
 have hb' : lo.elim 0 (clipI l.length) ≤ l.length := by
  cases lo with
  | none => exact Nat.zero_le _
  | some v => simp only [Option.elim_some, clipI]; omega
 have ef : (fun i : Nat => (⟨l.toArray⟩ : Str).cps[i]?) = fun i => l[i]? := by funext i; simp
 unfold Txt.slice
 rw [hl, oqR, ef]
 split
 ·rename_i h
  simp only [List.length_map, List.length_range, beq_self_eq_true, Bool.true_and, beq_iff_eq] at h
  have e1 : lo.elim 0 (clipI l.length) = 0 := by omega
  have e2 : hi.elim l.length (clipI l.length) = l.length := by omega
  rw [e1, e2]
  simp
 ·rw [nqW l (lo.elim 0 (clipI l.length)) ((hi.elim l.length (clipI l.length)) - (lo.elim 0 (clipI l.length)))]
theorem mqT (n k : Nat) : clipI n (k : Int) = min k n := by unfold clipI; split <;> omega
theorem lqG (l : List Nat) (k : Nat) : Txt.slice (⟨l.toArray⟩ : Str) (some (k : Int)) none = ⟨(l.drop k).toArray⟩ := by
 rw [iqD]
 simp only [Option.elim_some, Option.elim_none, mqT]
 by_cases h : k ≤ l.length
 ·rw [Nat.min_eq_left h, List.take_of_length_le (by simp)]
 ·rw [Nat.min_eq_right (by omega), List.drop_eq_nil_of_le (Nat.le_refl _), List.drop_eq_nil_of_le (by omega)]
  simp
theorem mqI (l : List Nat) (k : Nat) : Txt.slice (⟨l.toArray⟩ : Str) none (some (k : Int)) = ⟨(l.take k).toArray⟩ := by
 rw [iqD]
 simp only [Option.elim_some, Option.elim_none, mqT, List.drop_zero, Nat.sub_zero]
 by_cases h : k ≤ l.length
 ·rw [Nat.min_eq_left h]
 ·rw [Nat.min_eq_right (by omega), List.take_length, List.take_of_length_le (by omega)]
theorem gq1 (l : List Nat) (i j : Nat) : Txt.slice (⟨l.toArray⟩ : Str) (some (i : Int)) (some (j : Int)) = ⟨((l.drop i).take (j - i)).toArray⟩ := by
 rw [iqD]
 simp only [Option.elim_some, mqT]
 by_cases h : i ≤ l.length
 ·rw [Nat.min_eq_left h]
  by_cases h2 : j ≤ l.length
  ·rw [Nat.min_eq_left h2]
  ·rw [Nat.min_eq_right (by omega : l.length ≤ j), List.take_of_length_le (by simp), List.take_of_length_le (by simp; omega)]
 ·rw [Nat.min_eq_right (by omega : l.length ≤ i), List.drop_eq_nil_of_le (Nat.le_refl _), List.drop_eq_nil_of_le (by omega)]
  simp
theorem vqS : Str.ofString "" = ⟨([] : List Nat).toArray⟩ := by decide +kernel
theorem oq6 (ys : List Str) : Txt.join (⟨([] : List Nat).toArray⟩ : Str) ys = ⟨(ys.flatMap fun y => y.cps.toList).toArray⟩ := by
 show Builtin.Str.glued _ _ = _
 rw [StrLaws.glued_eq_join]
 induction ys with
 | nil => rfl
 | cons y r ih =>
  cases r with
  | nil =>
   show y = _
   simp
  | cons z r =>
   show y ++ (⟨#[]⟩ : Str) ++ Str.join ⟨#[]⟩ (z :: r) = _
   rw [ih]
   show Str.mk (y.cps ++ #[] ++ _) = _
   simp [List.flatMap_cons]
theorem pqh (l m : List Nat) : ((⟨l.toArray⟩ : Str) ++ (⟨m.toArray⟩ : Str)) = ⟨(l ++ m).toArray⟩ := by
 show Str.mk (l.toArray ++ m.toArray) = _
 simp
theorem hqO {l m : List Nat} : ((⟨l.toArray⟩ : Str) = ⟨m.toArray⟩) ↔ l = m := by
 constructor
 ·intro h; injection h with h; injection h
 ·rintro rfl; rfl
theorem dq0 (l : List Nat) : (⟨l.toArray⟩ : Str).length = l.length := by simp [Str.length]
theorem sqf : Str.ofString "~" = ⟨[126].toArray⟩ := by decide +kernel
theorem uqu (l : List Nat) : Txt.slice (⟨l.toArray⟩ : Str) (some 1) none = ⟨(l.drop 1).toArray⟩ := lqG l 1
theorem gq5 {a n : Nat} (h : fig a = some n) : figV a = .int (n : Nat) := by unfold figV; rw [h]
theorem kqL {a : Nat} (h : fig a = none) : figV a = .non := by unfold figV; rw [h]
theorem uq7 {n : Nat} (h : isSg n = true) : sgV n = one n := by unfold sgV; rw [if_pos h]
theorem qqJ {n : Nat} (h : ¬ isSg n = true) : sgV n = .non := by unfold sgV; rw [if_neg h]
theorem tqZ {n : Nat} (h1 : 32 ≤ n) (h2 : n ≤ 126) (h3 : n ≠ 37) : isSg n = true := by
 simp only [isSg, Bool.and_eq_true, decide_eq_true_eq, Bool.not_eq_true', decide_eq_false_iff_not]
 omega
theorem pqA {l : List Nat} (h : l.length ≠ 2) : signOfL l = .non := by
 match l with
 | [] => rfl
 | [_] => rfl
 | [_, _] => exact absurd rfl h
 | _ :: _ :: _ :: _ => rfl
theorem vqZ {l : List Nat} (h : l.length = 2) : ∃ a b, l = [a, b] := by
 match l, h with
 | [a, b], _ => exact ⟨a, b, rfl⟩
def isPl (c : Nat) : Bool := decide (48 ≤ c ∧ c ≤ 57) || decide (65 ≤ c ∧ c ≤ 90) || decide (97 ≤ c ∧ c ≤ 122) || decide (c = 45) || decide (c = 46) || decide (c = 95)
theorem rqS : ∀ c, c < 128 → (decide (c ∈ (Str.ofString "abcdefghijklmnopqrstuvwxyzABCDEFGHIJKLMNOPQRSTUVWXYZ0123456789-_.").cps.toList)) = isPl c := by decide +kernel
theorem nqj : ∀ c, c < 128 → (Txt.isalnum ⟨#[c]⟩ || decide (c ∈ (Str.ofString "-_.").cps.toList)) = isPl c := by decide +kernel
def wr1 (c : Nat) : List Nat := if isPl c then [c] else [126, hexd (c / 16), hexd (c % 16)]
def wr (l : List Nat) : List Nat := l.flatMap wr1
theorem vqc (c : Nat) : (wr1 c).length ≤ 3 := by unfold wr1; split <;> simp
theorem nqm (l : List Nat) : (wr l).length ≤ 3 * l.length := by
 induction l with
 | nil => simp [wr]
 | cons c r ih =>
  have := vqc c
  unfold wr at ih ⊢
  rw [List.flatMap_cons, List.length_append, List.length_cons]
  omega
def sgO (a b : Nat) : Option Nat := match fig a, fig b with
 | some h, some l => if isSg (h * 16 + l) then some (h * 16 + l) else none
 | _, _ => none
def oV : Option Nat → V
 | some c => one c
 | none => .non
theorem rqE (a b : Nat) : signOf a b = oV (sgO a b) := by
 unfold signOf sgO
 cases fig a with
 | none => rfl
 | some h =>
  cases fig b with
  | none => rfl
  | some l =>
   simp only [sgV]
   split <;> rfl
theorem tqS {ns : List Int} {k : Nat} (h : k < ns.length) : atI (ns.map V.int) (k : Int) = some (.int (ns.getD k 0)) := by
 refine aqu ?_
 rw [List.getElem?_map, List.getElem?_eq_getElem h, List.getD_eq_getElem?_getD, List.getElem?_eq_getElem h]
 rfl
theorem aqz {n : Nat} (h : n ≤ 100000) : n ≤ sizeLine := Nat.le_trans h (by decide)
theorem uqt (f : Nat → Nat) (l : List Nat) : (l.toArray).map f = (l.map f).toArray := by simp
theorem qqr (l : List Nat) : (⟨l.toArray⟩ : Str).cps.toList = l := rfl
theorem pqU (dn : List Nat) : ((dn.map fun c => (⟨[c].toArray⟩ : Str)).flatMap fun y => y.cps.toList) = dn := by
 induction dn with
 | nil => rfl
 | cons c r ih => rw [List.map_cons, List.flatMap_cons, ih]; rfl
theorem rqw (dn : List Nat) : ((dn.map fun c => (⟨[c].toArray⟩ : Str)).map (·.length)).sum = dn.length := by
 induction dn with
 | nil => rfl
 | cons c r ih => rw [List.map_cons, List.map_cons, List.sum_cons, ih, List.length_cons]; show 1 + _ = _; omega
theorem wqC {a b d : Nat} (h : sgO a b = some d) : d < 128 := by
 unfold sgO at h
 split at h
 ·split at h
  ·rename_i hs
   cases h
   have := eqN hs
   omega
  ·cases h
 ·cases h
mutual
def smallD : PyData → Bool
 | .str x => decide (x.length ≤ 100000)
 | .list xs => decide (xs.length ≤ 100000) && smallAll xs
 | .tuple xs => decide (xs.length ≤ 100000) && smallAll xs
 | .dict _ => false
 | .none => true
 | .bool _ => true
 | .int _ => true
def smallAll : List PyData → Bool
 | [] => true
 | d :: ds => smallD d && smallAll ds
end
theorem aqX : ∀ {ds : List PyData} {d : PyData}, smallAll ds = true → d ∈ ds → smallD d = true
 | e :: ds, d, h, hm => by
  simp only [smallAll, Bool.and_eq_true] at h
  rcases List.mem_cons.mp hm with rfl | hm
  ·exact h.1
  ·exact aqX h.2 hm
theorem hqU : ∀ {ds : List PyData}, (∀ d ∈ ds, smallD d = true) → smallAll ds = true
 | [], _ => rfl
 | d :: ds, h => by
  simp only [smallAll, Bool.and_eq_true]
  exact ⟨h d List.mem_cons_self, hqU fun e he => h e (List.mem_cons_of_mem _ he)⟩
theorem iqf {x : Str} (h : smallD (.str x) = true) : x.length ≤ 100000 := by simpa [smallD] using h
theorem eq0 {ds : List PyData} (h : smallD (.tuple ds) = true) : ds.length ≤ 100000 ∧ smallAll ds = true := by simpa [smallD] using h
theorem dqU {ds : List PyData} (h : ds.length ≤ 100000) (h2 : smallAll ds = true) : smallD (.tuple ds) = true := by simp [smallD, h, h2]
def isLet (c : Nat) : Bool := decide (65 ≤ c ∧ c ≤ 90) || decide (97 ≤ c ∧ c ≤ 122)
def isAln (c : Nat) : Bool := isLet c || decide (48 ≤ c ∧ c ≤ 57)
theorem vqv : ∀ c, c < 128 → (decide (c ∈ (Str.ofString "abcdefghijklmnopqrstuvwxyzABCDEFGHIJKLMNOPQRSTUVWXYZ").cps.toList)) = isLet c := by decide +kernel
theorem wqs : ∀ c, c < 128 → (decide (c ∈ (Str.ofString "abcdefghijklmnopqrstuvwxyzABCDEFGHIJKLMNOPQRSTUVWXYZ0123456789").cps.toList)) = isAln c := by decide +kernel
theorem wqm : (Str.ofString " !\"#$&'()*+,-./0123456789:;<=>?@ABCDEFGHIJKLMNOPQRSTUVWXYZ[\\]^_`abcdefghijklmnopqrstuvwxyz{|}~").cps.toList = SG := by decide +kernel
theorem wqr (c : Nat) : (decide (c ∈ (Str.ofString " !\"#$&'()*+,-./0123456789:;<=>?@ABCDEFGHIJKLMNOPQRSTUVWXYZ[\\]^_`abcdefghijklmnopqrstuvwxyz{|}~").cps.toList)) = isSg c := by
 rw [wqm, Bool.eq_iff_iff, decide_eq_true_eq, vqB]
def tx : PyData → Bool
 | .str x => x.cps.toList.all isSg
 | _ => false
def ftx : PyData → Bool
 | .str x => x.cps.toList.all isSg && decide (0 < x.length)
 | _ => false
def ntx : PyData → Bool
 | .none => true
 | .str x => x.cps.toList.all isSg
 | _ => false
def schD : PyData → Bool
 | .str x => x.cps.toList.all isSg && decide (x.length ≤ 8) && (x.cps.toList.take 1).all isLet && x.cps.toList.all isAln
 | _ => false
def houD : PyData → Bool
 | .none => true
 | .str x => x.cps.toList.all isSg && decide (0 < x.length) && decide (x.length ≤ 60)
 | _ => false
def dooD : PyData → Bool
 | .none => true
 | .int i => decide (0 ≤ i) && decide (i ≤ 65535)
 | _ => false
def stpD : PyData → Bool
 | .tuple ds => ds.all ftx
 | _ => false
def isB : PyData → Bool
 | .bool _ => true
 | _ => false
def tupN (n : Int) : PyData → Bool
 | .tuple ds => decide ((ds.length : Int) = n)
 | _ => false
def wayD : PyData → Bool
 | .tuple [a, b, c] => match a, b, c with
  | .bool r, .tuple ds, .bool e => ds.all ftx && (decide (0 < ds.length) || decide (r = e))
  | _, _, _ => false
 | _ => false
def askD : PyData → Bool
 | .tuple [a, b] => ftx a && ntx b
 | _ => false
def queD : PyData → Bool
 | .none => true
 | .tuple ds => ds.all askD
 | _ => false
def nonD : PyData → Bool
 | .none => true
 | _ => false
def agrD (a b c d : PyData) : Bool := (nonD c || !nonD b) && ((match d with | .tuple (.bool r :: _) => r | _ => false) || !((match a with | .str x => !decide (x = ⟨#[]⟩) | _ => false) || !nonD b))
def addrD : PyData → Bool
 | .tuple [a, b, c, d, e, f] => (schD a && (houD b && (dooD c && (wayD d && (queD e && ntx f))))) && agrD a b c d
 | _ => false
theorem pqN {d : PyData} (h : wayD d = true) : ∃ r ds e, d = .tuple [.bool r, .tuple ds, .bool e] := by
 unfold wayD at h
 split at h
 ·split at h
  ·exact ⟨_, _, _, rfl⟩
  ·cases h
 ·cases h
theorem pqG {d : PyData} (h : schD d = true) : ∃ x, d = .str x := by
 unfold schD at h
 split at h
 ·exact ⟨_, rfl⟩
 ·cases h
abbrev st (l : List Nat) : PyData := .str ⟨l.toArray⟩
def oD : Option (List Nat) → PyData
 | none => .none
 | some l => st l
def otV : Option (List Nat) → V
 | none => .non
 | some l => .str ⟨l.toArray⟩
theorem sqG {H : Hp} (o : Option (List Nat)) : IsT H (oD o) (otV o) := by
 cases o with
 | none => exact .non
 | some x => exact .str _
def iD : Option Int → PyData
 | none => .none
 | some i => .int i
def qD : Option (List (List Nat × Option (List Nat))) → PyData
 | none => .none
 | some ps => .tuple (ps.map fun p => .tuple [st p.1, oD p.2])
structure Ad where
 scheme : List Nat
 house : Option (List Nat)
 door : Option Int
 rooted : Bool
 steps : List (List Nat)
 ends : Bool
 quest : Option (List (List Nat × Option (List Nat)))
 mark : Option (List Nat)
def Ad.way (x : Ad) : PyData := .tuple [.bool x.rooted, .tuple (x.steps.map st), .bool x.ends]
def Ad.data (x : Ad) : PyData := .tuple [st x.scheme, oD x.house, iD x.door, x.way, qD x.quest, oD x.mark]
def Tx (n : Nat) (l : List Nat) : Prop := l.length ≤ n ∧ ∀ c ∈ l, isSg c = true
structure Ad.Ok (x : Ad) : Prop where
 sch : x.scheme.length ≤ 8 ∧ (∀ c ∈ x.scheme, isAln c = true) ∧ ∀ c ∈ x.scheme.take 1, isLet c = true
 hou : ∀ l, x.house = some l → 0 < l.length ∧ Tx 60 l
 doo : ∀ i, x.door = some i → (0 ≤ i ∧ i ≤ 65535) ∧ x.house ≠ none
 stp : x.steps.length ≤ 50 ∧ ∀ l ∈ x.steps, 0 < l.length ∧ Tx 60 l
 roo : x.scheme ≠ [] ∨ x.house ≠ none → x.rooted = true
 end_ : x.steps = [] → x.ends = x.rooted
 que : ∀ ps, x.quest = some ps → ps.length ≤ 20 ∧ ∀ p ∈ ps, (0 < p.1.length ∧ Tx 6 p.1) ∧ ∀ v, p.2 = some v → Tx 6 v
 mar : ∀ l, x.mark = some l → Tx 60 l
theorem qqQ {c : Nat} (h : isAln c = true) : isSg c = true := by
 simp only [isAln, isLet, Bool.or_eq_true, decide_eq_true_eq] at h
 simp only [isSg, Bool.and_eq_true, decide_eq_true_eq, Bool.not_eq_true', decide_eq_false_iff_not]
 omega
theorem pqn (l : List Nat) : (⟨l.toArray⟩ : Str).length = l.length := dq0 l
theorem tqc {l : List Nat} {n : Nat} (h : 0 < l.length ∧ Tx n l) : ftx (st l) = true := by
 simp only [ftx, pqn, Bool.and_eq_true, decide_eq_true_eq]
 exact ⟨List.all_eq_true.mpr h.2.2, h.1⟩
theorem uqw {l : List Nat} {n : Nat} (h : Tx n l) : (⟨l.toArray⟩ : Str).cps.toList.all isSg = true := List.all_eq_true.mpr h.2
theorem jqb {n : Int} {d : PyData} (h : tupN n d = true) : ∃ ds, d = .tuple ds ∧ (ds.length : Int) = n := by
 unfold tupN at h
 split at h
 ·exact ⟨_, rfl, by simpa using h⟩
 ·cases h
theorem len2 {α : Type} {l : List α} (h : (l.length : Int) = 2) : ∃ a b, l = [a, b] := by
 match l, h with
 | [a, b], _ => exact ⟨a, b, rfl⟩
 | [], h => simp at h
 | [_], h => simp at h
 | _ :: _ :: _ :: _, h => simp at h; omega
theorem len3 {α : Type} {l : List α} (h : (l.length : Int) = 3) : ∃ a b c, l = [a, b, c] := by
 match l, h with
 | [a, b, c], _ => exact ⟨a, b, c, rfl⟩
 | [], h => simp at h
 | [_], h => simp at h
 | [_, _], h => simp at h
 | _ :: _ :: _ :: _ :: _, h => simp at h; omega
theorem len6 {α : Type} {l : List α} (h : (l.length : Int) = 6) : ∃ a b c d e f, l = [a, b, c, d, e, f] := by
 match l, h with
 | [a, b, c, d, e, f], _ => exact ⟨a, b, c, d, e, f, rfl⟩
 | [], h => simp at h
 | [_], h => simp at h
 | [_, _], h => simp at h
 | [_, _, _], h => simp at h
 | [_, _, _, _], h => simp at h
 | [_, _, _, _, _], h => simp at h
 | _ :: _ :: _ :: _ :: _ :: _ :: _ :: _, h => simp at h; omega
theorem tup2 {d : PyData} (h : tupN 2 d = true) : ∃ a b, d = .tuple [a, b] := by
 obtain ⟨ds, rfl, e⟩ := jqb h
 obtain ⟨a, b, rfl⟩ := len2 e
 exact ⟨a, b, rfl⟩
theorem tup3 {d : PyData} (h : tupN 3 d = true) : ∃ a b c, d = .tuple [a, b, c] := by
 obtain ⟨ds, rfl, e⟩ := jqb h
 obtain ⟨a, b, c, rfl⟩ := len3 e
 exact ⟨a, b, c, rfl⟩
theorem tup6 {d : PyData} (h : tupN 6 d = true) : ∃ a b c x e f, d = .tuple [a, b, c, x, e, f] := by
 obtain ⟨ds, rfl, hl⟩ := jqb h
 obtain ⟨a, b, c, x, e, f, rfl⟩ := len6 hl
 exact ⟨a, b, c, x, e, f, rfl⟩
theorem uq1 {d : PyData} (h : ¬ tupN 2 d = true) : askD d = false := by
 unfold askD
 split
 ·exact absurd rfl h
 ·rfl
theorem tqR {d : PyData} (h : ¬ tupN 3 d = true) : wayD d = false := by
 unfold wayD
 split
 ·exact absurd rfl h
 ·rfl
theorem sqV {d : PyData} (h : ¬ tupN 6 d = true) : addrD d = false := by
 unfold addrD
 split
 ·exact absurd rfl h
 ·rfl
theorem isAll2 {H : Hp} {a b : PyData} {xs : List V} (h : IsAll H [a, b] xs) : ∃ x y, xs = [x, y] ∧ Is H a x ∧ Is H b y := by
 cases h with
 | cons h1 r => cases r with
  | cons h2 r => cases r; exact ⟨_, _, rfl, h1, h2⟩
theorem isAll3 {H : Hp} {a b c : PyData} {xs : List V} (h : IsAll H [a, b, c] xs) : ∃ x y z, xs = [x, y, z] ∧ Is H a x ∧ Is H b y ∧ Is H c z := by
 cases h with
 | cons h1 r => obtain ⟨y, z, rfl, h2, h3⟩ := isAll2 r; exact ⟨_, _, _, rfl, h1, h2, h3⟩
theorem isAll6 {H : Hp} {a b c d e f : PyData} {xs : List V} (h : IsAll H [a, b, c, d, e, f] xs) : ∃ x0 x1 x2 x3 x4 x5, xs = [x0, x1, x2, x3, x4, x5] ∧ Is H a x0 ∧ Is H b x1 ∧ Is H c x2 ∧ Is H d x3 ∧ Is H e x4 ∧ Is H f x5 := by
 cases h with
 | cons h1 r => cases r with
  | cons h2 r => cases r with
   | cons h3 r => obtain ⟨x, y, z, rfl, h4, h5, h6⟩ := isAll3 r; exact ⟨_, _, _, _, _, _, rfl, h1, h2, h3, h4, h5, h6⟩
theorem rqM (d : PyData) : subT (kindD d) "bool" = isB d := by cases d <;> simp only [kindD, isB] <;> decide
theorem nqF {d : PyData} (h : isB d = true) : ∃ r, d = .bool r := by
 cases d with
 | bool r => exact ⟨r, rfl⟩
 | _ => cases h
theorem pqX {d : PyData} (h : stpD d = true) : ∃ ds, d = .tuple ds := by
 cases d with
 | tuple ds => exact ⟨ds, rfl⟩
 | _ => cases h
theorem mqQ (a b c : PyData) : wayD (.tuple [a, b, c]) = (isB a && (stpD b && (isB c && (match a, b, c with | .bool r, .tuple ds, .bool e => decide (0 < ds.length) || decide (r = e) | _, _, _ => false)))) := by
 cases a <;> cases b <;> cases c <;> simp [wayD, isB, stpD]
def itV : Option Int → V
 | none => .non
 | some i => .int i
theorem wq6 {H : Hp} (o : Option Int) : IsT H (iD o) (itV o) := by
 cases o with
 | none => exact .non
 | some x => exact .int _
theorem oqX : ∀ {ss : List (List Nat)}, (∀ l ∈ ss, ∀ c ∈ l, isSg c = true) → PyData.canLayAll0 (ss.map st) = true ∧ PyData.depthAll (ss.map st) = 0
 | [], _ => ⟨rfl, rfl⟩
 | l :: r, h => by
  obtain ⟨h1, h2⟩ := oqX (ss := r) fun l' hl' => h l' (List.mem_cons_of_mem _ hl')
  have hc : PyData.strOk ⟨l.toArray⟩ = true := by
   simp only [PyData.strOk, List.all_toArray, List.all_eq_true, decide_eq_true_eq]
   intro c hc
   have := eqN (h l List.mem_cons_self c hc)
   omega
  refine ⟨?_, ?_⟩
  ·simp only [List.map_cons, PyData.canLayAll0, PyData.canLay0, hc, h1]; rfl
  ·simp only [List.map_cons, PyData.depthAll, PyData.depth, h2]; rfl
theorem mq1 {ss : List (List Nat)} (h : ∀ l ∈ ss, ∀ c ∈ l, isSg c = true) : SeqAt.shaped (.tuple (ss.map st)) = true := by
 obtain ⟨h1, h2⟩ := oqX h
 unfold SeqAt.shaped
 simp only [PyData.canLay0, PyData.depth, h1, h2]
 decide
theorem tqU (ds : List PyData) : PyData.eqv (.tuple ds) (.tuple []) = ds.isEmpty := by
 cases ds <;> simp [PyData.eqv, PyData.eqvAll]
theorem hqJ {l : List Nat} : ((⟨l.toArray⟩ : Str) = ⟨#[]⟩) ↔ l = [] := hqO (m := [])
def Bad (f : PyData → Bool) (H : Hp) (v : V) : Prop := ∃ d, Is H d v ∧ smallD d = true ∧ f d = false
def Bads (f : PyData → Bool) (H : Hp) (vs : List V) : Prop := ∀ v ∈ vs, Bad f H v
theorem Bads.cons {f : PyData → Bool} {H : Hp} {v : V} {vs : List V} (h : Bad f H v) (r : Bads f H vs) : Bads f H (v :: vs) := fun w hw => by
 rcases List.mem_cons.mp hw with rfl | hw
 ·exact h
 ·exact r w hw
theorem nqB {q : Addr} {H H' : Hp} {o : HO} (hq : H q = none) (sm : Same H H') : Same H (upd H' q o) := fun b u e => by
 rw [aqv (aqr e hq)]; exact sm _ _ e
def dg (i : Int) : List Nat := (Str.ofString (toString i)).cps.toList
theorem tqv {i : Int} (hi : 0 ≤ i) (hi' : i ≤ 65535) : (dg i).length ≤ 5 := by
 have := PyProof.Rows.toString_length_le hi (k := 5) (by decide) (by omega)
 simpa [dg, Str.length] using this
def Hd (p : Nat → Bool) (r : List Nat) : Prop := ∀ c r', r = c :: r' → p c = true
theorem Hd.cons {p : Nat → Bool} {c : Nat} {r : List Nat} (h : p c = true) : Hd p (c :: r) := fun d r' e => by injection e with e; exact e ▸ h
def wch (c : Nat) : Bool := isPl c || decide (c = 126)
theorem pq9 : ∀ n, n < 16 → isPl (hexd n) = true := by decide +kernel
theorem xqp {l : List Nat} (h : ∀ c ∈ l, isSg c = true) : ∀ c ∈ wr l, wch c = true := by
 intro c hc
 unfold wr at hc
 obtain ⟨d, hd, hc⟩ := List.mem_flatMap.mp hc
 have := eqN (h d hd)
 unfold wr1 at hc
 split at hc
 ·next hp => rw [List.mem_singleton] at hc; rw [hc, wch, hp]; rfl
 ·simp only [List.mem_cons, List.not_mem_nil, or_false] at hc
  rcases hc with rfl | rfl | rfl
  ·rfl
  ·rw [wch, pq9 _ (by omega)]; rfl
  ·rw [wch, pq9 _ (by omega)]; rfl
def tlT (sep : Nat) : List (List Nat) → List Nat
 | [] => []
 | s :: r => sep :: (s ++ tlT sep r)
def joinT (sep : Nat) : List (List Nat) → List Nat
 | [] => []
 | s :: r => s ++ tlT sep r
def oT (sep : Nat) : Option (List Nat) → List Nat
 | none => []
 | some l => sep :: wr l
def pairT (p : List Nat × Option (List Nat)) : List Nat := wr p.1 ++ oT 61 p.2
def queT : Option (List (List Nat × Option (List Nat))) → List Nat
 | none => []
 | some ps => 63 :: joinT 38 (ps.map pairT)
def wayT (r : Bool) (ss : List (List Nat)) (e : Bool) : List Nat := (if r then [47] else []) ++ (joinT 47 (ss.map wr) ++ (if e && !ss.isEmpty then [47] else []))
def dooT : Option Int → List Nat
 | none => []
 | some i => 58 :: dg i
def houT : Option (List Nat) → List Nat
 | none => []
 | some l => 47 :: 47 :: wr l
def schT (s : List Nat) : List Nat := if s = [] then [] else s ++ [58]
def Ad.wayT (x : Ad) : List Nat := Wm.wayT x.rooted x.steps x.ends
def Ad.shw (x : Ad) : List Nat := schT x.scheme ++ (houT x.house ++ (dooT x.door ++ (x.wayT ++ (queT x.quest ++ oT 35 x.mark))))
def PairOk (p : List Nat × Option (List Nat)) : Prop := (0 < p.1.length ∧ ∀ c ∈ p.1, isSg c = true) ∧ ∀ v, p.2 = some v → ∀ c ∈ v, isSg c = true
def StepOk (s : List Nat) : Prop := 0 < s.length ∧ ∀ c ∈ s, isSg c = true
structure Ad.Wf (x : Ad) : Prop where
 sch : x.scheme.length ≤ 8 ∧ (∀ c ∈ x.scheme, isAln c = true) ∧ ∀ c ∈ x.scheme.take 1, isLet c = true
 hou : ∀ l, x.house = some l → (0 < l.length ∧ l.length ≤ 60) ∧ ∀ c ∈ l, isSg c = true
 doo : ∀ i, x.door = some i → (0 ≤ i ∧ i ≤ 65535) ∧ x.house ≠ none
 stp : ∀ s ∈ x.steps, StepOk s
 roo : x.scheme ≠ [] ∨ x.house ≠ none → x.rooted = true
 end_ : x.steps = [] → x.ends = x.rooted
 que : ∀ ps, x.quest = some ps → ∀ p ∈ ps, PairOk p
 mar : ∀ l, x.mark = some l → ∀ c ∈ l, isSg c = true
def Ad.mid (x : Ad) : List Nat := houT x.house ++ (dooT x.door ++ x.wayT)
def Ad.pre (x : Ad) : List Nat := schT x.scheme ++ x.mid
theorem sq4 (l m : List Nat) : PyData.eqv (st l) (st m) = true ↔ l = m := by
 simp only [PyData.eqv, beq_iff_eq]; exact hqO
theorem rqo (a b : Option (List Nat)) : PyData.eqv (oD a) (oD b) = true ↔ a = b := by
 match a, b with
 | none, none => simp [oD, PyData.eqv]
 | none, some m => simp [oD, PyData.eqv]
 | some l, none => simp [oD, PyData.eqv]
 | some l, some m => exact (sq4 l m).trans (by simp)
theorem wqK (a b : Option Int) : PyData.eqv (iD a) (iD b) = true ↔ a = b := by
 match a, b with
 | none, none => simp [iD, PyData.eqv]
 | none, some m => simp [iD, PyData.eqv]
 | some l, none => simp [iD, PyData.eqv]
 | some l, some m => simp [iD, PyData.eqv]
theorem jqk {α : Type} {f : α → PyData} (hf : ∀ a b, PyData.eqv (f a) (f b) = true ↔ a = b) : ∀ (l m : List α), PyData.eqvAll (l.map f) (m.map f) = true ↔ l = m
 | [], [] => by simp [PyData.eqvAll]
 | [], b :: m => by simp [PyData.eqvAll]
 | a :: l, [] => by simp [PyData.eqvAll]
 | a :: l, b :: m => by
  simp only [List.map_cons, PyData.eqvAll, Bool.and_eq_true, List.cons.injEq]
  rw [hf a b, jqk hf l m]
theorem wqq (a b : Option (List (List Nat × Option (List Nat)))) : PyData.eqv (qD a) (qD b) = true ↔ a = b := by
 match a, b with
 | none, none => simp [qD, PyData.eqv]
 | none, some m => simp [qD, PyData.eqv]
 | some l, none => simp [qD, PyData.eqv]
 | some l, some m =>
  simp only [qD, PyData.eqv, Option.some.injEq]
  refine jqk (fun a b => ?_) l m
  simp only [PyData.eqv, PyData.eqvAll, Bool.and_eq_true, Bool.and_true]
  rw [rqo, beq_iff_eq]
  exact ⟨fun h => Prod.ext (hqO.mp h.1) h.2, fun h => by rw [h]; exact ⟨rfl, rfl⟩⟩
theorem uqx (x y : Ad) : PyData.eqv x.way y.way = true ↔ x.rooted = y.rooted ∧ x.steps = y.steps ∧ x.ends = y.ends := by
 simp only [Ad.way, PyData.eqv, PyData.eqvAll, Bool.and_eq_true, Bool.and_true, beq_iff_eq]
 rw [jqk sq4]
theorem Ad.eqv_iff (x y : Ad) : PyData.eqv x.data y.data = true ↔ x = y := by
 simp only [Ad.data, PyData.eqv, PyData.eqvAll, Bool.and_eq_true, Bool.and_true, beq_iff_eq]
 rw [rqo, wqK, uqx, wqq, rqo]
 cases x; cases y
 simp only [Ad.mk.injEq]
 constructor
 ·rintro ⟨h1, h2, h3, ⟨h4, h5, h6⟩, h7, h8⟩
  exact ⟨hqO.mp h1, h2, h3, h4, h5, h6, h7, h8⟩
 ·rintro ⟨h1, h2, h3, h4, h5, h6, h7, h8⟩
  exact ⟨by rw [h1], h2, h3, ⟨h4, h5, h6⟩, h7, h8⟩
def LayAt (n : Nat) (d : PyData) : Prop := d.canLay0 = true ∧ d.depth ≤ n
theorem LayAt.shaped {n : Nat} {d : PyData} (h : LayAt n d) (hn : n ≤ 64) : SeqAt.shaped d = true := by
 unfold SeqAt.shaped; rw [h.1, decide_eq_true (Nat.le_trans h.2 hn)]; rfl
theorem LayAt.le {n m : Nat} {d : PyData} (h : LayAt n d) (hn : n ≤ m) : LayAt m d := ⟨h.1, Nat.le_trans h.2 hn⟩
theorem layAll {n : Nat} : ∀ {ds : List PyData}, (∀ d ∈ ds, LayAt n d) → PyData.canLayAll0 ds = true ∧ PyData.depthAll ds ≤ n
 | [], _ => ⟨rfl, Nat.zero_le _⟩
 | d :: ds, h => by
  obtain ⟨h1, h2⟩ := layAll (ds := ds) fun e he => h e (List.mem_cons_of_mem _ he)
  have := h d (List.mem_cons_self ..)
  simp only [PyData.canLayAll0, PyData.depthAll, this.1, h1, Bool.and_self, true_and]
  exact Nat.max_le.mpr ⟨this.2, h2⟩
theorem LayAt.tup {n : Nat} {ds : List PyData} (h : ∀ d ∈ ds, LayAt n d) : LayAt (n + 1) (.tuple ds) := by
 obtain ⟨h1, h2⟩ := layAll h
 exact ⟨by simp only [PyData.canLay0, h1], by simp only [PyData.depth]; omega⟩
theorem LayAt.st {l : List Nat} (h : ∀ c ∈ l, isSg c = true) : LayAt 0 (st l) := by
 refine ⟨?_, Nat.le_refl _⟩
 simp only [PyData.canLay0, PyData.strOk, List.all_toArray, List.all_eq_true, decide_eq_true_eq]
 intro c hc
 have := eqN (h c hc)
 omega
theorem LayAt.bool {b : Bool} : LayAt 0 (.bool b) := ⟨rfl, Nat.le_refl _⟩
theorem LayAt.oD {o : Option (List Nat)} (h : ∀ l, o = some l → ∀ c ∈ l, isSg c = true) : LayAt 0 (oD o) := by
 cases o with
 | none => exact ⟨rfl, Nat.le_refl _⟩
 | some l => exact .st (h l rfl)
theorem LayAt.iD {o : Option Int} : LayAt 0 (iD o) := by
 cases o with
 | none => exact ⟨rfl, Nat.le_refl _⟩
 | some l => exact ⟨rfl, Nat.le_refl _⟩
theorem LayAt.qD {q : Option (List (List Nat × Option (List Nat)))} (h : ∀ ps, q = some ps → ∀ p ∈ ps, PairOk p) : LayAt 2 (qD q) := by
 cases q with
 | none => exact ⟨rfl, Nat.zero_le _⟩
 | some ps =>
  refine .tup (n := 1) fun d hd => ?_
  obtain ⟨p, hp, rfl⟩ := List.mem_map.mp hd
  have hk := h ps rfl p hp
  refine .tup (n := 0) fun e he => ?_
  simp only [List.mem_cons, List.not_mem_nil, or_false] at he
  rcases he with rfl | rfl
  ·exact .st hk.1.2
  ·exact .oD hk.2
theorem Ad.Wf.layWay {x : Ad} (h : x.Wf) : LayAt 2 x.way := by
 refine .tup (n := 1) fun e he => ?_
 simp only [List.mem_cons, List.not_mem_nil, or_false] at he
 rcases he with rfl | rfl | rfl
 ·exact LayAt.bool.le (by decide)
 ·refine .tup (n := 0) fun d hd => ?_
  obtain ⟨s, hs, rfl⟩ := List.mem_map.mp hd
  exact .st (h.stp s hs).2
 ·exact LayAt.bool.le (by decide)
theorem Ad.Wf.lay {x : Ad} (h : x.Wf) : LayAt 3 x.data := by
 refine .tup (n := 2) fun e he => ?_
 simp only [List.mem_cons, List.not_mem_nil, or_false] at he
 rcases he with rfl | rfl | rfl | rfl | rfl | rfl
 ·exact (LayAt.st fun c hc => qqQ (h.sch.2.1 c hc)).le (by decide)
 ·exact (LayAt.oD fun l e => (h.hou l e).2).le (by decide)
 ·exact LayAt.iD.le (by decide)
 ·exact h.layWay
 ·exact .qD h.que
 ·exact (LayAt.oD h.mar).le (by decide)
theorem oq8 {H : Hp} {l : List Nat} {v : V} (h : IsT H (st l) v) : v = .str ⟨l.toArray⟩ := by cases h; rfl
theorem qqh {H : Hp} {o : Option (List Nat)} {v : V} (h : IsT H (oD o) v) : v = otV o := by
 cases o with
 | none => cases h; rfl
 | some l => exact oq8 h
theorem vqX {H : Hp} {o : Option Int} {v : V} (h : IsT H (iD o) v) : v = itV o := by
 cases o with
 | none => cases h; rfl
 | some l => cases h; rfl
theorem pqq {H : Hp} {b : Bool} {v : V} (h : IsT H (.bool b) v) : v = .bl b := by cases h; rfl
theorem jqg {H : Hp} {ds : List PyData} {v : V} (h : IsT H (.tuple ds) v) : ∃ p xs, v = .ref p ∧ H p = some (.tup xs) ∧ IsTAll H ds xs := by
 cases h with
 | tup h1 h2 => exact ⟨_, _, rfl, h1, h2⟩
theorem isT2 {H : Hp} {a b : PyData} {v : V} (h : IsT H (.tuple [a, b]) v) : ∃ p x y, v = .ref p ∧ H p = some (.tup [x, y]) ∧ IsT H a x ∧ IsT H b y := by
 obtain ⟨p, xs, rfl, hp, r⟩ := jqg h
 cases r with
 | cons h1 r => cases r with
  | cons h2 r => cases r; exact ⟨p, _, _, rfl, hp, h1, h2⟩
theorem isT3 {H : Hp} {a b c : PyData} {v : V} (h : IsT H (.tuple [a, b, c]) v) : ∃ p x y z, v = .ref p ∧ H p = some (.tup [x, y, z]) ∧ IsT H a x ∧ IsT H b y ∧ IsT H c z := by
 obtain ⟨p, xs, rfl, hp, r⟩ := jqg h
 cases r with
 | cons h1 r => cases r with
  | cons h2 r => cases r with
   | cons h3 r => cases r; exact ⟨p, _, _, _, rfl, hp, h1, h2, h3⟩
theorem isT6 {H : Hp} {a b c d e f : PyData} {v : V} (h : IsT H (.tuple [a, b, c, d, e, f]) v) : ∃ p x0 x1 x2 x3 x4 x5, v = .ref p ∧ H p = some (.tup [x0, x1, x2, x3, x4, x5]) ∧ IsT H a x0 ∧ IsT H b x1 ∧ IsT H c x2 ∧ IsT H d x3 ∧ IsT H e x4 ∧ IsT H f x5 := by
 obtain ⟨p, xs, rfl, hp, r⟩ := jqg h
 cases r with
 | cons h1 r => cases r with
  | cons h2 r => cases r with
   | cons h3 r => cases r with
    | cons h4 r => cases r with
     | cons h5 r => cases r with
      | cons h6 r => cases r; exact ⟨p, _, _, _, _, _, _, rfl, hp, h1, h2, h3, h4, h5, h6⟩
theorem nq4 {H : Hp} : ∀ {ss : List (List Nat)} {xs : List V}, IsTAll H (ss.map st) xs → xs = ss.map fun l => V.str ⟨l.toArray⟩
 | [], _, h => by cases h; rfl
 | s :: ss, _, h => by
  cases h with
  | cons h1 h2 => rw [oq8 h1, nq4 h2]; rfl
end Wm
namespace Wm
structure Ad.Sz (x : Ad) : Prop where
 stp : ∀ s ∈ x.steps, s.length ≤ 2000
 que : ∀ ps, x.quest = some ps → ps.length ≤ 2000 ∧ ∀ p ∈ ps, p.1.length ≤ 2000 ∧ ∀ v, p.2 = some v → v.length ≤ 2000
 mar : ∀ l, x.mark = some l → l.length ≤ 2000
 num : x.steps.length ≤ 2000
 all : x.shw.length ≤ 90000
theorem lg {i : Int} (h : 0 ≤ i) (h' : i ≤ 65535) : i.natAbs.log2 < 1920 := by
 by_cases h0 : i.natAbs = 0
 ·rw [h0]; simp
 ·refine (Nat.log2_lt h0).mpr (Nat.lt_of_lt_of_le (show i.natAbs < 2 ^ 16 by omega) (Nat.pow_le_pow_right (by decide) (by decide)))
theorem qql (i : Int) : PySem.Str.ofString (toString i) = ⟨(dg i).toArray⟩ := rfl
end Wm
namespace Wm
open PySem L2
theorem nqJ {H : Hp} {α : Type} {f : α → PyData} : ∀ {l : List α} {xs : List V}, IsTAll H (l.map f) xs → xs.length = l.length ∧ ∀ (i : Nat) (v : V), xs[i]? = some v → ∃ a, l[i]? = some a ∧ IsT H (f a) v
 | [], _, h => by cases h; exact ⟨rfl, fun i v e => by simp at e⟩
 | a :: l, _, h => by
  cases h with
  | cons h1 h2 =>
   obtain ⟨e, r⟩ := nqJ h2
   refine ⟨by simp [e], fun i v hv => ?_⟩
   cases i with
   | zero => exact ⟨a, rfl, by simp at hv; exact hv ▸ h1⟩
   | succ i => exact r i v (by simpa using hv)
theorem vqt {sep n : Nat} {o : Option (List Nat)} (h : ∀ l, o = some l → l.length ≤ n) : (oT sep o).length ≤ 3 * n + 1 := by
 cases o with
 | none => simp [oT]
 | some l => have := h l rfl; have := nqm l; simp only [oT, List.length_cons]; omega
theorem xqf {a : V} {r : List V} : atI (a :: r) 0 = some a := by
 unfold atI ixN
 simp
end Wm
namespace L2
open PySem
theorem IsTAll.get {H : Hp} : ∀ {ds : List PyData} {xs : List V} {i : Nat} {d : PyData} {x : V}, IsTAll H ds xs → ds[i]? = some d → xs[i]? = some x → IsT H d x
 | _, _, 0, _, _, .cons h _, h1, h2 => by
  simp only [List.getElem?_cons_zero, Option.some.injEq] at h1 h2
  subst h1 h2; exact h
 | _, _, i + 1, _, _, .cons _ r, h1, h2 => by
  simp only [List.getElem?_cons_succ] at h1 h2
  exact r.get h1 h2
end L2
namespace Wm
open PySem L2
abbrev Stp := List Nat
def sUp : Stp := [46, 46]
def sStay : Stp := [46]
def isDot (s : Stp) : Bool := decide (s = sUp) || decide (s = sStay)
def fwd (r : Bool) (q : Nat × List Stp) (s : Stp) : Nat × List Stp :=
 if s = sUp then (match q.2 with | [] => (if r then q.1 else q.1 + 1, []) | _ :: t => (q.1, t))
 else if s = sStay then q else (q.1, s :: q.2)
def goneS (r : Bool) (ss : List Stp) : List Stp := List.replicate (ss.foldl (fwd r) (0, [])).1 sUp ++ (ss.foldl (fwd r) (0, [])).2.reverse
def lastDot (ss : List Stp) : Bool := match ss.getLast? with | some s => isDot s | none => false
def goneW (r : Bool) (ss : List Stp) (e : Bool) : Bool × List Stp × Bool :=
 if ss = [] then (r, [], e) else if goneS r ss = [] then (r, if r then [] else [sStay], true) else (r, goneS r ss, e || lastDot ss)
def stk (q : Nat × List Stp) : List Stp := List.replicate q.1 sUp ++ q.2.reverse
end Wm
namespace L2
open PySem PySem.Spec PyProof.Rows HT
section
variable {prog : Program} {w : World} {A : Around} {E : Value → Shared → Prop} {s : Shared}
end
section
variable {X : Cx} {K : PySem.W.Frag}
def rSlTA : V → Option Int → Option Int → Hp → VK → Prop := fun x lo hi H Q => ∃ a xs, x = .ref a ∧ H a = some (.tup xs) ∧ ∀ p H', Same H H' → H' p = some (.tup (cutV xs lo hi)) → Q (.ref p) H'
theorem sqz {a : Addr} {lo hi : Option Int} {H : Hp} {Q : VK} : rSlTA (.ref a) lo hi H Q ↔ ∃ xs, H a = some (.tup xs) ∧ ∀ p H', Same H H' → H' p = some (.tup (cutV xs lo hi)) → Q (.ref p) H' := by
 constructor
 ·rintro ⟨p, bs, h1, h2⟩; cases h1; exact ⟨bs, h2⟩
 ·rintro ⟨bs, h⟩; exact ⟨a, bs, rfl, h⟩
end
mutual
inductive IsK (K : PySem.W.Frag) (H : Hp) : PyData → V → Prop
 | non : IsK K H .none .non
 | bl (b : Bool) : IsK K H (.bool b) (.bl b)
 | int (i : Int) : IsK K H (.int i) (.int i)
 | str (x : Str) : IsK K H (.str x) (.str x)
 | tup {p : Addr} {xs : List V} {ds : List PyData} : SqT K H p xs → IsKAll K H ds xs → IsK K H (.tuple ds) (.ref p)
inductive IsKAll (K : PySem.W.Frag) (H : Hp) : List PyData → List V → Prop
 | nil : IsKAll K H [] []
 | cons {d : PyData} {x : V} {ds : List PyData} {xs : List V} : IsK K H d x → IsKAll K H ds xs → IsKAll K H (d :: ds) (x :: xs)
end
section
variable {K : PySem.W.Frag} {H H' : Hp}
mutual
theorem IsK.mono (sm : Same H H') : ∀ {d : PyData} {x : V}, IsK K H d x → IsK K H' d x
 | _, _, .non => .non
 | _, _, .bl b => .bl b
 | _, _, .int i => .int i
 | _, _, .str x => .str x
 | _, _, .tup h r => .tup (sm.tup h) (IsKAll.mono sm r)
theorem IsKAll.mono (sm : Same H H') : ∀ {ds : List PyData} {xs : List V}, IsKAll K H ds xs → IsKAll K H' ds xs
 | _, _, .nil => .nil
 | _, _, .cons h r => .cons (IsK.mono sm h) (IsKAll.mono sm r)
end
mutual
theorem IsT.k : ∀ {d : PyData} {x : V}, IsT H d x → IsK K H d x
 | _, _, .non => .non
 | _, _, .bl b => .bl b
 | _, _, .int i => .int i
 | _, _, .str x => .str x
 | _, _, .tup h r => .tup (SqT.of h) (IsTAll.k r)
theorem IsTAll.k : ∀ {ds : List PyData} {xs : List V}, IsTAll H ds xs → IsKAll K H ds xs
 | _, _, .nil => .nil
 | _, _, .cons h r => .cons (IsT.k h) (IsTAll.k r)
end
end
section
variable {X : Cx} {pins : List (Addr × Obj)} {σ : St} {H : Hp} {s : Shared}
mutual
theorem IsK.reads (I : Inv X pins σ H s) : ∀ {d : PyData} {x : V} {v : Value}, IsK X.K H d x → RelV x v → ∃ as, Reads s.heap v d as
 | _, _, _, .non, r => by cases r; exact ⟨_, .none⟩
 | _, _, _, .bl b, r => by cases r; exact ⟨_, .bool b⟩
 | _, _, _, .int i, r => by obtain ⟨t, rfl⟩ := r; exact ⟨_, .int i t⟩
 | _, _, _, .str x, r => by obtain ⟨t, rfl⟩ := r; exact ⟨_, .str x t⟩
 | _, _, _, .tup h q, r => by
  cases r
  obtain ⟨its, vs, ⟨o, e, c, n, dt⟩, _⟩ := I.tuple h
  obtain ⟨as, ra⟩ := IsKAll.reads I q vs
  exact ⟨_, .tuple e c dt (by simpa using ra)⟩
theorem IsKAll.reads (I : Inv X pins σ H s) : ∀ {ds : List PyData} {xs : List V} {vs : List Value}, IsKAll X.K H ds xs → Vals xs vs → ∃ as, ReadsAll s.heap vs ds as
 | _, _, _, .nil, r => by cases r; exact ⟨_, .nil⟩
 | _, _, _, .cons q t, r => by
  cases r with
  | cons r1 r2 =>
   obtain ⟨as, h1⟩ := IsK.reads I q r1
   obtain ⟨bs, h2⟩ := IsKAll.reads I t r2
   exact ⟨_, .cons h1 h2⟩
end
variable {K : PySem.W.Frag}
def rSlX (K : PySem.W.Frag) : V → Option Int → Option Int → Hp → VK → Prop := fun x lo hi H Q => ∃ a xs, x = .ref a ∧ SqT K H a xs ∧ ∀ p H', Same H H' → SqT K H' p (cutV xs lo hi) → Q (.ref p) H'
theorem uqB {a : Addr} {lo hi : Option Int} {H : Hp} {Q : VK} : rSlX K (.ref a) lo hi H Q ↔ ∃ xs, SqT K H a xs ∧ ∀ p H', Same H H' → SqT K H' p (cutV xs lo hi) → Q (.ref p) H' := by
 constructor
 ·rintro ⟨p, bs, h1, h2⟩; cases h1; exact ⟨bs, h2⟩
 ·rintro ⟨bs, h⟩; exact ⟨a, bs, rfl, h⟩
def rCatX (K : PySem.W.Frag) : R2 := fun x y H Q => ∃ a b xs ys, x = .ref a ∧ y = .ref b ∧ SqT K H a xs ∧ SqT K H b ys ∧ xs.length + ys.length ≤ sizeLine ∧ ∀ p H', Same H H' → SqT K H' p (xs ++ ys) → Q (.ref p) H'
theorem sqw {a b : Addr} {H : Hp} {Q : VK} : rCatX K (.ref a) (.ref b) H Q ↔ ∃ xs ys, SqT K H a xs ∧ SqT K H b ys ∧ xs.length + ys.length ≤ sizeLine ∧ ∀ p H', Same H H' → SqT K H' p (xs ++ ys) → Q (.ref p) H' := by
 constructor
 ·rintro ⟨p, p', xs, ys, h1, h2, h3⟩; cases h1; cases h2; exact ⟨xs, ys, h3⟩
 ·rintro ⟨xs, ys, h⟩; exact ⟨a, b, xs, ys, rfl, rfl, h⟩
def KindK (K : PySem.W.Frag) (H : Hp) (x : V) (k : String) : Prop := kindV x H = some k ∨ ∃ a xs, x = .ref a ∧ SqT K H a xs ∧ k = "tuple"
theorem KindK.tup {K : PySem.W.Frag} {H : Hp} {a : Addr} {xs : List V} (h : SqT K H a xs) : KindK K H (.ref a) "tuple" := .inr ⟨a, xs, rfl, h, rfl⟩
def rIsiX (K : PySem.W.Frag) : List V → Hp → VK → Prop := fun vs H Q => match vs with
 | [x, .ty T] => ∃ k, KindK K H x k ∧ T ∈ ["bool", "int", "str", "list", "tuple"] ∧ Q (.bl (subT k T)) H
 | _ => False
theorem rqY {x : V} {T : String} {H : Hp} {Q : VK} : (rIsiX K [x, .ty T] H Q) = (∃ k, KindK K H x k ∧ T ∈ ["bool", "int", "str", "list", "tuple"] ∧ Q (.bl (subT k T)) H) := rfl
end
end L2
namespace Wm
open PySem L2
section
variable {K : PySem.W.Frag} {H : Hp}
end
end Wm
namespace L2
open PySem PySem.Spec PyProof.Rows
def pickV {α : Type} (xs : List α) (lo hi st : Option Int) : List α :=
 (sliceRange (sliceBounds lo hi st xs.length).1 (sliceBounds lo hi st xs.length).2.1 (sliceBounds lo hi st xs.length).2.2).filterMap fun i => xs[i]?
section
variable {X : Cx}
def tSl3 (K : PySem.W.Frag) (te : TE) (tl th ts : TO) : TE := fun σ H Q => te σ H fun x H1 => tl σ H1 fun l H2 => th σ H2 fun u H3 => ts σ H3 fun k H4 =>
 ∃ a xs, x = .ref a ∧ SqL K H4 a xs ∧ k ≠ some 0 ∧ (pickV xs l u k).length ≤ sizeLine ∧ ∀ p, H4 p = none → Q (.ref p) (upd H4 p (.lst (pickV xs l u k)))
end
theorem wqE {K : PySem.W.Frag} {te : TE} {tl th ts : TO} {σ : St} {H : Hp} {Q : VK} : tSl3 K te tl th ts σ H Q ↔ te σ H fun x H1 => tl σ H1 fun l H2 => th σ H2 fun u H3 => ts σ H3 fun k H4 =>
 ∃ a xs, x = .ref a ∧ SqL K H4 a xs ∧ k ≠ some 0 ∧ (pickV xs l u k).length ≤ sizeLine ∧ ∀ p, H4 p = none → Q (.ref p) (upd H4 p (.lst (pickV xs l u k))) := Iff.rfl
end L2
namespace Wm
open PySem L2
abbrev Way := Bool × List Stp × Bool
def Ad.w (x : Ad) : Way := (x.rooted, x.steps, x.ends)
def Ad.withWay (x : Ad) (w : Way) : Ad := { x with rooted := w.1, steps := w.2.1, ends := w.2.2 }
def goneV (w : Way) : Way := goneW w.1 w.2.1 w.2.2
def Ad.gone (x : Ad) : Ad := x.withWay (goneV x.w)
def wayOf (w : Way) : PyData := .tuple [.bool w.1, .tuple (w.2.1.map st), .bool w.2.2]
theorem vq1 {l : Addr} {H : Hp} {Q : VK} : rReverse (.ref l) [] H Q ↔ ∃ xs, H l = some (.lst xs) ∧ Q .non (upd H l (.lst xs.reverse)) :=
 ⟨fun ⟨_, xs, e, _, h, q⟩ => by cases e; exact ⟨xs, h, q⟩, fun ⟨xs, h, q⟩ => ⟨l, xs, rfl, rfl, h, q⟩⟩
abbrev sV (l : List Nat) : V := .str ⟨l.toArray⟩
theorem rq4 {H : Hp} : ∀ (ss : List (List Nat)), IsAll H (ss.map st) (ss.map sV)
 | [] => .nil
 | s :: ss => .cons (.str _) (rq4 ss)
theorem nqI {H : Hp} : ∀ (ss : List (List Nat)), IsTAll H (ss.map st) (ss.map sV)
 | [] => .nil
 | s :: ss => .cons (.str _) (nqI ss)
end Wm
namespace L2
open PySem
theorem dqo {X : Cx} {K : PySem.W.Frag} (h : X.K = K) : OpR X (compareOp .In) (rIn K false) := by subst h; exact pq2
theorem vqK {l : Addr} {H : Hp} {Q : VK} : rPop (.ref l) [] H Q ↔ ∃ xs y, H l = some (.lst xs) ∧ xs[xs.length - 1]? = some y ∧ Q y (upd H l (.lst xs.dropLast)) :=
 ⟨fun ⟨_, xs, y, h1, _, h3, h4, h5⟩ => by cases h1; exact ⟨xs, y, h3, h4, h5⟩, fun ⟨xs, y, h3, h4, h5⟩ => ⟨_, xs, y, rfl, rfl, h3, h4, h5⟩⟩
theorem sqW {D : Ends} {σ : St} {H : Hp} : (tNever D σ H) = (False) := rfl
end L2
namespace Wm
open PySem L2
structure Ad.Tiny (x : Ad) : Prop where
 stp : ∀ s ∈ x.steps, s.length ≤ 9
 que : ∀ ps, x.quest = some ps → ps.length ≤ 3 ∧ ∀ p ∈ ps, p.1.length ≤ 5 ∧ ∀ v, p.2 = some v → v.length ≤ 6
 mar : ∀ l, x.mark = some l → l.length ≤ 7
 hou : ∀ l, x.house = some l → l.length ≤ 13
end Wm
namespace Wm
end Wm
namespace Wm
open PySem L2
end Wm
namespace L2
open PySem
end L2
namespace Wm
open PySem L2
section
variable {H : Hp}
theorem vqm {r e : Bool} {ss : List (List Nat)} {v : V} (h : IsT H (.tuple [.bool r, .tuple (ss.map st), .bool e]) v) : ∃ p q, v = .ref p ∧ H p = some (.tup [.bl r, .ref q, .bl e]) ∧ H q = some (.tup (ss.map fun l => V.str ⟨l.toArray⟩)) := by
 obtain ⟨p, x, y, z, rfl, hp, h1, h2, h3⟩ := isT3 h
 cases pqq h1
 cases pqq h3
 obtain ⟨q, xs, rfl, hq, r⟩ := jqg h2
 cases nq4 r
 exact ⟨p, q, rfl, hp, hq⟩
theorem wayT' {r e : Bool} {ss : List (List Nat)} {p q : Addr} (hp : H p = some (.tup [.bl r, .ref q, .bl e])) (hq : H q = some (.tup (ss.map fun l => V.str ⟨l.toArray⟩))) : IsT H (.tuple [.bool r, .tuple (ss.map st), .bool e]) (.ref p) :=
 .tup hp (.cons (.bl _) (.cons (.tup hq (nqI _)) (.cons (.bl _) .nil)))
theorem wqd {x : Ad} {v : V} (h : IsT H x.data v) : ∃ p w q, v = .ref p ∧ H p = some (.tup [.str ⟨x.scheme.toArray⟩, otV x.house, itV x.door, w, q, otV x.mark]) ∧ IsT H x.way w ∧ IsT H (qD x.quest) q := by
 obtain ⟨p, x0, x1, x2, x3, x4, x5, rfl, hp, i0, i1, i2, i3, i4, i5⟩ := isT6 (show IsT H (.tuple [st x.scheme, oD x.house, iD x.door, x.way, qD x.quest, oD x.mark]) v from h)
 cases oq8 i0
 cases qqh i1
 cases vqX i2
 cases qqh i5
 exact ⟨p, x3, x4, rfl, hp, i3, i4⟩
theorem adT {x : Ad} {p : Addr} {w q : V} (hp : H p = some (.tup [.str ⟨x.scheme.toArray⟩, otV x.house, itV x.door, w, q, otV x.mark])) (hw : IsT H x.way w) (hq : IsT H (qD x.quest) q) : IsT H x.data (.ref p) :=
 .tup hp (.cons (.str _) (.cons (sqG _) (.cons (wq6 _) (.cons hw (.cons hq (.cons (sqG _) .nil))))))
end
theorem Ad.Wf.local {x : Ad} (h : x.Wf) : ({ x with scheme := [], house := none, door := none } : Ad).Wf :=
 ⟨⟨Nat.zero_le _, (fun c hc => by cases hc), (fun c hc => by cases hc)⟩, (fun l e => by cases e), (fun l e => by cases e), h.stp, (fun z => z.elim (fun y => absurd rfl y) (fun y => absurd rfl y)), h.end_, h.que, h.mar⟩
def Goods (n : Nat) (H : Hp) (vs : List V) : Prop := ∀ v ∈ vs, ∃ x : Ad, x.Wf ∧ x.steps.length ≤ n ∧ IsT H x.data v
theorem Goods.cons {n : Nat} {H : Hp} {v : V} {vs : List V} {x : Ad} (h1 : x.Wf) (h2 : x.steps.length ≤ n) (h3 : IsT H x.data v) (h : Goods n H vs) : Goods n H (v :: vs) := fun u hu => by
 rcases List.mem_cons.mp hu with rfl | hu
 ·exact ⟨x, h1, h2, h3⟩
 ·exact h u hu
end Wm
namespace L2
open PySem PySem.Spec PyProof.Rows
theorem sqE {X : Cx} : OpR X (compareOp .IsNot) (rIsB true) := by
 intro pins s σ H x y v u Q I rx ry h
 cases x with
 | bl b =>
  cases y with
  | bl c => cases rx; cases ry; exact isnot_bool (aq0 I h (by cases b <;> cases c <;> rfl))
  | _ => exact h.elim
 | _ => exact h.elim
theorem xql {b c : Bool} {H : Hp} {Q : VK} : (rIsB true (.bl b) (.bl c) H Q) = (Q (.bl (!decide (b = c))) H) := rfl
end L2
namespace Wm
open PySem L2
structure GoodAd (n : Nat) (x : Ad) : Prop where
 wf : x.Wf
 ti : x.Tiny
 sc : x.scheme ≠ []
 ln : x.steps.length ≤ n
end Wm
namespace L2
open PySem PySem.Spec PyProof.Rows
section
variable {prog : Program} {w : World} {A : Around} {E : Value → Shared → Prop} {s : Shared}
end
def Itv (K : PySem.W.Frag) (a : Addr) (n : Nat) : It :=
 ⟨fun i H => ∃ xs x, SqT K H a xs ∧ xs.length = n ∧ i < n ∧ xs[n - 1 - i]? = some x, fun i H x H' => H' = H ∧ ∀ xs, SqT K H a xs → xs.length = n → xs[n - 1 - i]? = some x, fun i _ => n ≤ i⟩
section
variable {X : Cx} {tg : Expr} {K : PySem.W.Frag}
def iRev (K : PySem.W.Frag) (ta : TA) : TI := fun σ H R => ta σ H fun vs H1 => ∃ a xs, vs = [.ref a] ∧ SqT K H1 a xs ∧ R (Itv K a xs.length) H1
variable {σ : St} {H : Hp} {D : Ends} {g : TG} {tb : TS} {aa : TA}
theorem uqF : (tFor (iRev K aa) g tb D σ H) = (aa σ H fun vs H1 => ∃ a xs, vs = [.ref a] ∧ SqT K H1 a xs ∧ LoopI (Itv K a xs.length) g tb D σ H1) := rfl
end
section
variable {X : Cx}
def rRepT : R2 := fun x y H Q => ∃ a k xs, x = .ref a ∧ y = .int k ∧ H a = some (.tup xs) ∧ 2 ≤ k ∧ k < 1000 ∧ xs.length * k.toNat ≤ sizeLine ∧ ∀ p H', Same H H' → H' p = some (.tup (List.replicate k.toNat xs).flatten) → Q (.ref p) H'
theorem sqK {a : Addr} {k : Int} {H : Hp} {Q : VK} : rRepT (.ref a) (.int k) H Q ↔ ∃ xs, H a = some (.tup xs) ∧ 2 ≤ k ∧ k < 1000 ∧ xs.length * k.toNat ≤ sizeLine ∧ ∀ p H', Same H H' → H' p = some (.tup (List.replicate k.toNat xs).flatten) → Q (.ref p) H' := by
 constructor
 ·rintro ⟨a', k', xs, h1, h2, h⟩; cases h1; cases h2; exact ⟨xs, h⟩
 ·rintro ⟨xs, h⟩; exact ⟨a, k, xs, rfl, rfl, h⟩
def rRepS : R2 := fun x y H Q => ∃ l k xs, x = .ref l ∧ y = .int k ∧ H l = some (.lst xs) ∧ 0 ≤ k ∧ k < 1000000 ∧ xs.length * k.toNat ≤ sizeLine ∧ ∀ p H', H p = none → Same H H' → H' p = some (.lst (List.replicate k.toNat xs).flatten) → Q (.ref p) H'
theorem sqp {a : Addr} {k : Int} {H : Hp} {Q : VK} : rRepS (.ref a) (.int k) H Q ↔ ∃ xs, H a = some (.lst xs) ∧ 0 ≤ k ∧ k < 1000000 ∧ xs.length * k.toNat ≤ sizeLine ∧ ∀ p H', H p = none → Same H H' → H' p = some (.lst (List.replicate k.toNat xs).flatten) → Q (.ref p) H' := by
 constructor
 ·rintro ⟨a', k', xs, h1, h2, h⟩; cases h1; cases h2; exact ⟨xs, h⟩
 ·rintro ⟨xs, h⟩; exact ⟨a, k, xs, rfl, rfl, h⟩
end
section
variable {X : Cx}
def rRepN : R2 := fun x y H Q => ∃ a k xs, x = .ref a ∧ y = .int k ∧ H a = some (.tup xs) ∧ 0 ≤ k ∧ k < 1000 ∧ xs.length * k.toNat ≤ sizeLine ∧ ∀ p H', Same H H' → H' p = some (.tup (List.replicate k.toNat xs).flatten) → Q (.ref p) H'
theorem sqc {a : Addr} {k : Int} {H : Hp} {Q : VK} : rRepN (.ref a) (.int k) H Q ↔ ∃ xs, H a = some (.tup xs) ∧ 0 ≤ k ∧ k < 1000 ∧ xs.length * k.toNat ≤ sizeLine ∧ ∀ p H', Same H H' → H' p = some (.tup (List.replicate k.toNat xs).flatten) → Q (.ref p) H' := by
 constructor
 ·rintro ⟨a', k', xs, h1, h2, h⟩; cases h1; cases h2; exact ⟨xs, h⟩
 ·rintro ⟨xs, h⟩; exact ⟨a, k, xs, rfl, rfl, h⟩
end
section
variable {X : Cx}
def intsV (lo : Int) (n : Nat) : List V := (List.range n).map fun k => .int (lo + (k : Nat))
def tLR (ta : TA) : TE := fun σ H Q => ta σ H fun vs H1 => ∃ j : Int, vs = [.int j] ∧ 0 ≤ j ∧ j ≤ 1000000 ∧ ∀ p, H1 p = none → Q (.ref p) (upd H1 p (.lst (intsV 0 j.toNat)))
end
theorem wq8 {ta : TA} {σ : St} {H : Hp} {Q : VK} : (tLR ta σ H Q) = (ta σ H fun vs H1 => ∃ j : Int, vs = [.int j] ∧ 0 ≤ j ∧ j ≤ 1000000 ∧ ∀ p, H1 p = none → Q (.ref p) (upd H1 p (.lst (intsV 0 j.toNat)))) := rfl
end L2
namespace L2
open PySem
section
variable {p : Addr} {fv : St} {tt : TT} {te : TE} {Q : VK} {H1 : Hp} {K : PySem.W.Frag}
end
end L2
namespace L2
open PySem PySem.Spec PyProof.Rows
section
variable {X : Cx} {pins : List (Addr × Obj)} {σ : St} {H1 : Hp} {s3 : Shared} {x x2 : Str} {fx : List Str} {fr : List Nat} {scope : Scope} {cl : List (Str × Addr)} {fp : List Addr}
end
def CompI2 (K : PySem.W.Frag) (J : It) (p : Addr) (fv : St) (tt : TT) (te : TE) (Q : VK) (H1 : Hp) : Prop :=
 ∃ W : Nat → Nat → List V → Hp → Prop, (∃ m, W 0 m [] (upd H1 p (.lst []))) ∧ ∀ i m ys H2, W i m ys H2 → H2 p = some (.lst ys) ∧
  ((J.stop i H2 ∧ Q (.ref p) H2) ∨ (J.go i H2 ∧ ys.length < sizeLine ∧ ∀ z H3, J.yld i H2 z H3 → ∃ a x y, z = .ref a ∧ SqT K H3 a [x, y] ∧ tt (some x :: some y :: fv) H3 fun b H4 =>
   if b = true then te (some x :: some y :: fv) H4 fun y H5 => H5 p = some (.lst ys) ∧ ∃ m', m' < m ∧ W (i + 1) m' (ys ++ [y]) (upd H5 p (.lst (ys ++ [y])))
   else ∃ m', m' < m ∧ W (i + 1) m' ys H4))
def tComp2 (K : PySem.W.Frag) (wi : TI) (fr : List Nat) (tt : TT) (te : TE) : TE := fun σ H Q => wi σ H fun J H1 => ∀ p, H1 p = none → CompI2 K J p (frV σ fr) tt te Q H1
section
variable {X : Cx} {elt iter : Expr} {x x2 : Str} {px px2 ptx pos : Pos} {kx : Nat} {ifs : List Expr} {scope : Scope} {cl : List (Str × Addr)} {fx : List Str} {fr : List Nat} {wi : TI} {tt : TT} {te : TE}
end
section
variable {p : Addr} {fv : St} {te : TE} {Q : VK} {H1 : Hp} {K : PySem.W.Frag}
theorem rqL {tl : TE} {tt : TT} {fr : List Nat} {σ : St} {H : Hp} : (tComp2 K (iTup K tl) fr tt te σ H Q) = (tl σ H fun x H1 => ∃ a, x = .ref a ∧ (∃ xs, SqT K H1 a xs) ∧ ∀ p, H1 p = none → CompI2 K (Itt K a) p (frV σ fr) tt te Q H1) := rfl
end
section
variable {X : Cx}
def rFind : V → List V → Hp → VK → Prop := fun x vs H Q => match x, vs with
 | .str z, [.str y] => Q (.int (Txt.find z y)) H
 | _, _ => False
theorem uqK {z y : Str} {H : Hp} {Q : VK} : (rFind (.str z) [.str y] H Q) = (Q (.int (Txt.find z y)) H) := rfl
end
end L2
namespace Wm
open PySem L2
end Wm
namespace Wm
end Wm
namespace L2
open PySem
theorem wqA {l : Addr} {H : Hp} {Q : VK} {i : Int} : rPopAt (.ref l) [.int i] H Q ↔ ∃ xs k y, H l = some (.lst xs) ∧ -(2 ^ 63) ≤ i ∧ i < 2 ^ 63 ∧ seqIndex? i xs.length = some k ∧ xs[k]? = some y ∧ Q y (upd H l (.lst (xs.eraseIdx k))) :=
 ⟨fun ⟨_, xs, _, k, y, h1, h2, h⟩ => by cases h1; cases h2; exact ⟨xs, k, y, h⟩, fun ⟨xs, k, y, h⟩ => ⟨_, xs, _, k, y, rfl, rfl, h⟩⟩
end L2
namespace L2
open PySem PySem.Spec PySem.W PyProof.Rows
abbrev vErr : List Value := [.type "ValueError", .type "Exception", .type "BaseException", .type "object"]
abbrev vNew : String := "ValueError.__new__"
def tRaise (E : XK) (C : Addr) : TS := fun _ _ H => E (.ref C) none H
theorem oq7 {E : XK} {C : Addr} {D : Ends} {σ : St} {H : Hp} : (tRaise E C D σ H) = (E (.ref C) none H) := rfl
theorem ObjOk.ex {P : Program} {w : World} {H : Hp} {h : Heap} {a : Addr} {o : HO} (x : ObjOk P w H h a o) : ∃ u, h.get? a = some u := by
 cases o with
 | lst xs => obtain ⟨_, _, _, _, e⟩ := x; exact ⟨_, e⟩
 | tup xs => obtain ⟨_, _, _, _, e, _⟩ := x; exact ⟨_, e⟩
 | dK kvs => obtain ⟨_, _, _, _, _, _, _, e, _⟩ := x; exact ⟨_, e⟩
 | dT kvs => obtain ⟨_, _, _, _, _, _, _, e, _⟩ := x; exact ⟨_, e⟩
 | set S n => obtain ⟨_, _, _, _, e, _⟩ := x; exact ⟨_, e⟩
 | ins C dx fs => obtain ⟨_, _, _, e, _⟩ := x; exact ⟨_, e⟩
 | own y => exact x
 | xd fs => obtain ⟨_, ⟨_, _, _, e, _⟩, _⟩ := x; exact ⟨_, e⟩
 | rng lo hi => obtain ⟨_, _, _, e⟩ := x; exact ⟨_, e⟩
 | frz ob u => exact ⟨_, x.1⟩
 | tbl ps => exact ⟨_, x⟩
 | met f y => exact ⟨_, x⟩
 | ext φ => exact x.2.1
structure Flown (P : Program) (w : World) (base : Heap) (outer : List Env) (H : Hp) (s : Shared) (a t C : Addr) (B : Heap) (H' : Hp) (s' : Shared) : Prop where
 os : s'.os = s.os
 bare : AllBare s'.gens
 st : base.StaysIn B
 fly : Heap.FlyingW B outer a (.ref C) (.ref t) s'.heap
 hok : HOk P w H' B
 un : Un (frs outer) [] H H' s.heap s'.heap
 kb : ∀ b o, s.heap.get? b = some o → H b = none → b ∉ frs outer → B.get? b = some o
 thB : ∀ b o, s.heap.get? b = some o → b ∉ frs outer → ∃ o', B.get? b = some o'
def CXE (P : Program) (w : World) (base : Heap) : CXT := fun outer H s E e s' => ∃ (a t C : Addr) (B : Heap) (H' : Hp), e = .ref a ∧ E (.ref C) none H' ∧ Flown P w base outer H s a t C B H' s'
theorem iqP {env : Env} {L : Addr} {outer : List Env} (hf : env.frame = some L) {b : Addr} : b ∈ frs (env :: outer) ↔ b = L ∨ b ∈ frs outer := by
 unfold frs
 rw [List.filterMap_cons, hf]
 exact List.mem_cons
section
variable {P : Program} {w : World} {K : Frag} {mg : Str → Option Value} {base : Heap} {N : List Str} {qual : Str} {scope : Scope} {f : Addr} {cd : Value} {A : Around} {outer : List Env} {s : Shared} {H : Hp} {E : XK}
theorem qq5 : Passes (CXE P w base) (cxOf (CXE P w base) P w K mg base N qual scope f cd A outer s H E) E := by
 intro pins σ H1 s1 e s2 I hq
 obtain ⟨a, t, C, B, H2, rfl, hE, W⟩ := hq
 have hf : (envOfC qual scope s.heap.objs.size f cd).frame = some s.heap.objs.size := rfl
 have ib : Un (frs outer) [] H H1 s.heap s1.heap := I.base
 have W : Flown P w base (envOfC qual scope s.heap.objs.size f cd :: outer) H1 s1 a t C B H2 s2 := W
 have ne : ∀ b o, s.heap.get? b = some o → b ∉ frs outer → b ∉ frs (envOfC qual scope s.heap.objs.size f cd :: outer) := fun b o q n z => by
  rcases (iqP hf).mp z with z | z
  ·exact absurd (Heap.lt_size q) (by rw [z]; exact Nat.lt_irrefl _)
  ·exact n z
 show wpAny (model P w) (A.deeper (envOfC qual scope s.heap.objs.size f cd)) (leaving (envOfC qual scope s.heap.objs.size f cd) (.ref a)) _ _ _
 refine wpAny_leaves_onW I.ok.frames hf W.fly fun h3 x1 x2 => ?_
 have keepB : ∀ b o, s.heap.get? b = some o → H b = none → b ∉ frs outer → B.get? b = some o := fun b o q n nf =>
  W.kb b o (ib.keep b o q n nf (by simp)) (ib.free b o q n (by simp)) (ne b o q nf)
 have thB : ∀ b o, s.heap.get? b = some o → b ∉ frs outer → ∃ o', B.get? b = some o' := fun b o q nf => by
  obtain ⟨o', z⟩ := ib.there b o q (by simp)
  exact W.thB b o' z (ne b o q nf)
 have slotF : ∀ b, b ∈ frs outer → ∀ o, s2.heap.get? b = some o → ∃ sl, h3.get? b = some { o with slots := sl } := fun b hb o q => by
  obtain ⟨_, o2, q2, nd⟩ := W.fly.2.2.1.mem ((iqP hf).mpr (.inr hb))
  rw [q] at q2
  cases q2
  exact x2 b o q nd
 refine ⟨a, t, C, B, H2, rfl, hE, ⟨W.os.trans I.os, W.bare, W.st, x1, W.hok, ⟨fun b o q n nf _ => x1.1 b o (keepB b o q n nf), fun b o q n hb _ => ?_, fun b o q n _ => ?_, fun b o q _ => ?_, fun b xs q => W.un.tups b xs (ib.tups b xs q), fun b o u q => W.un.frzs b o u (ib.frzs b o u q), fun b ps q => ?_⟩, keepB, thB⟩⟩
 ·obtain ⟨sl, z⟩ := ib.slot b o q n hb (by simp)
  obtain ⟨sl1, z1⟩ := W.un.slot b _ z (ib.free b o q n (by simp)) ((iqP hf).mpr (.inr hb)) (by simp)
  obtain ⟨sl', z'⟩ := slotF b hb _ z1
  exact ⟨sl', z'⟩
 ·obtain ⟨o', z⟩ := ib.there b o q (by simp)
  exact W.un.free b o' z (ib.free b o q n (by simp)) (by simp)
 ·by_cases hb : b ∈ frs outer
  ·obtain ⟨o', z⟩ := ib.there b o q (by simp)
   obtain ⟨o'', z1⟩ := W.un.there b o' z (by simp)
   obtain ⟨sl', z'⟩ := slotF b hb _ z1
   exact ⟨_, z'⟩
  ·obtain ⟨o', z⟩ := thB b o q hb
   exact ⟨o', x1.1 b o' z⟩
 ·obtain ⟨m1, z⟩ := ib.tbls b ps q
  obtain ⟨m2, z2⟩ := W.un.tbls b _ z
  exact ⟨m1 ++ m2, by rw [z2, Array.append_assoc]⟩
end
def exO (a C : Addr) : HO := .ext fun h => ∃ o, h.get? a = some o ∧ o.cls = .ref C
abbrev Cx.handling (X : Cx) (e : Value) : Cx := { X with A := X.A.mark (some e), calm := false, xe := fun _ _ => False }
section
variable {X : Cx} {pins : List (Addr × Obj)} {σ : St} {H H1 H2 : Hp} {s s1 s2 : Shared}
theorem Inv.handling (e : Value) (I : Inv X pins σ H s) : Inv (X.handling e) pins σ H s :=
 ⟨⟨I.ok.mod, I.ok.kind, I.ok.glob, I.ok.blt, I.ok.above, I.ok.inj, I.ok.has, I.ok.cab, (fun z => by cases z), I.ok.frames, I.ok.stk, I.ok.exf, I.ok.bs, I.ok.bsz, I.ok.noex, I.ok.exfs, I.ok.funs, I.ok.frf⟩, I.os, I.bare, I.base, I.loc, I.cell, I.free, I.freeC, I.pin, I.hok, I.len⟩
theorem Inv.handled {e : Value} (J : X.Ok) (I : Inv (X.handling e) pins σ H s) : Inv X pins σ H s := ⟨J, I.os, I.bare, I.base, I.loc, I.cell, I.free, I.freeC, I.pin, I.hok, I.len⟩
theorem Flown.new {P : Program} {w : World} {base B h5 : Heap} {outer : List Env} {a t C : Addr} {a0 : Value} (W : Flown P w base outer H1 s1 a t C B H2 s2) : H2 a = none := by
 cases q : H2 a with
 | none => rfl
 | some u =>
  obtain ⟨o, z⟩ := (W.hok a u q).ex
  rw [W.fly.2.1] at z
  cases z
theorem Inv.caught {a t C : Addr} {B h5 : Heap} {a0 : Value} (I : Inv X pins σ H1 s1) (W : Flown X.prog X.w X.base X.stack H1 s1 a t C B H2 s2) (f5 : Heap.FlyingW B X.stack a (.ref C) a0 h5) (sm : s2.heap.UpToSlots h5) :
  Inv X pins σ (upd H2 a (exO a C)) { s2 with heap := h5 } := by
 have hn : H2 a = none := W.new (h5 := h5) (a0 := a0)
 obtain ⟨oe, vs, T, oT, ts, he, _, hd, _⟩ := W.fly.2.2.2
 have fr : ∀ b ∈ frs X.stack, ∀ o, s2.heap.get? b = some o → b ≠ a ∧ ∃ sl, h5.get? b = some { o with slots := sl } := fun b hb o q => by
  obtain ⟨_, o2, q2, nd⟩ := W.fly.2.2.1.mem hb
  rw [q] at q2
  cases q2
  refine ⟨fun z => ?_, sm b o q nd⟩
  rw [z, he] at q
  cases q
  exact nd _ hd
 have na : ∀ b o, s1.heap.get? b = some o → b ≠ a := fun b o q => by
  by_cases hb : b ∈ frs X.stack
  ·obtain ⟨o', z⟩ := W.un.there b o q (by simp)
   exact (fr b hb o' z).1
  ·obtain ⟨o', z⟩ := W.thB b o q hb
   rintro rfl
   rw [W.fly.2.1] at z
   cases z
 refine I.call' (H' := upd H2 a (exO a C)) (s' := { s2 with heap := h5 }) (ch := []) W.os ⟨fun b o q n nf _ => f5.1 b o (W.kb b o q n nf), fun b o q n hb _ => ?_, fun b o q n _ => ?_, fun b o q _ => ?_, fun b xs q => ?_, fun b o u q => ?_, fun b ps q => ?_⟩ (fun b u q => ?_) W.bare (fun b z => by cases z)
 ·obtain ⟨sl, z⟩ := W.un.slot b o q n hb (by simp)
  obtain ⟨_, sl', z'⟩ := fr b hb _ z
  exact ⟨sl', z'⟩
 ·rw [aqv (na b o q)]
  exact W.un.free b o q n (by simp)
 ·by_cases hb : b ∈ frs X.stack
  ·obtain ⟨o', z⟩ := W.un.there b o q (by simp)
   obtain ⟨_, sl', z'⟩ := fr b hb _ z
   exact ⟨_, z'⟩
  ·obtain ⟨o', z⟩ := W.thB b o q hb
   exact ⟨o', f5.1 b o' z⟩
 ·have z := W.un.tups b xs q
  rw [aqv (aqr z hn)]
  exact z
 ·have z := W.un.frzs b o u q
  rw [aqv (aqr z hn)]
  exact z
 ·obtain ⟨m, z⟩ := W.un.tbls b ps q
  exact ⟨m, by rw [aqv (aqr z hn)]; exact z⟩
 ·by_cases hb : b = a
  ·subst hb
   rw [aqw] at q
   cases q
   obtain ⟨ob, hob, hoc⟩ := f5.there
   exact ⟨⟨ob, hob, hoc⟩, ⟨ob, hob⟩, fun h1 h2 ⟨o, z, c⟩ k => ⟨o, k o z, c⟩⟩
  ·rw [aqv hb] at q
   refine (W.hok b u q).stay (fun c v _ z => f5.1 c v z) (fun c z => ?_) fun c xs z => ?_
   ·rw [aqv (aqr z hn)]; exact z
   ·rw [aqv (aqr z hn)]; exact z
theorem Inv.goes {M : Model} {A : Around} {E : Value → Shared → Prop} {i : Nat} {n : Str} {pos : Pos} {Q : Unit → Shared → Prop} (I : Inv X pins σ H s) (nd : X.N.Nodup) (hi : X.N[i]? = some n) (hl : X.env.scope.names.lookup n = some .local)
  (h : ∀ s', Inv X pins (σ.set i none) H s' → Q () s') : wpAny M A (do bindName X.env n .none; unbindBehindTheSuite X.env n pos) Q E s := by
 obtain ⟨m, hn, hlk⟩ := id I.loc
 have hcls : (X.env.scope.kind == .class || (X.env.scope.kind == .module && X.env.locals != X.env.globals)) = false := by rw [I.ok.kind]; rfl
 have hiσ : i < σ.length := by rw [I.len]; exact (List.getElem?_eq_some_iff.mp hi).1
 refine wpAny_nameGoes_keeps hl hn hcls fun h' v hn' hs => h _ ?_
 have neL : ∀ b o, X.s₀.heap.get? b = some o → b ≠ X.env.locals := fun b o e => Nat.ne_of_lt (Nat.lt_of_lt_of_le (Heap.lt_size e) I.ok.above)
 refine ⟨I.ok, I.os, I.bare, ⟨fun b o e z hb hx => (hs.2 b (neL b o e)).trans (I.base.keep b o e z hb hx), fun b o e z hb hx => ?_, I.base.free, fun b o e hx => ?_, I.base.tups, I.base.frzs, I.base.tbls⟩, ⟨_, hn', fun j y v' e1 e2 e3 => ?_⟩, fun y c e => ?_, I.free, I.freeC, fun p hp => ?_, fun b ob e => ?_, by simpa using I.len⟩
 ·obtain ⟨sl, e1⟩ := I.base.slot b o e z hb hx
  exact ⟨sl, (hs.2 b (neL b o e)).trans e1⟩
 ·obtain ⟨o', e1⟩ := I.base.there b o e hx
  exact ⟨o', (hs.2 b (neL b o e)).trans e1⟩
 ·by_cases hj : j = i
  ·subst hj
   rw [List.getElem?_set_self hiσ] at e2
   cases e2
  ·rw [List.getElem?_set_ne (Ne.symm hj)] at e2
   obtain ⟨u', r', q⟩ := hlk j y v' e1 e2 e3
   refine ⟨u', r', ?_⟩
   rcases q with ⟨k, e⟩ | ⟨k, c, e, z⟩
   ·refine .inl ⟨k, ?_⟩
    have : y ≠ n := fun e => hj (lq0 nd e1 (e ▸ hi))
    simp [this, e]
   ·exact .inr ⟨k, c, e, z.sameBut hs (I.cne y c e)⟩
 ·obtain ⟨w', z⟩ := I.cell y c e
  exact ⟨w', z.sameBut hs (I.cne y c e)⟩
 ·obtain ⟨e, n1, ne, nf, d⟩ := I.pin p hp
  exact ⟨(hs.2 p.1 ne).trans e, n1, ne, nf, d⟩
 ·refine (I.hok b ob e).stay (fun c w' hc q => (hs.2 c ?_).trans q) (fun _ q => q) fun _ _ q => q
  rintro rfl
  rcases hc with rfl | hc
  ·rw [I.free] at e; cases e
  ·rw [I.free] at hc; cases hc
end
structure Catch (K : Frag) (W : Addr) : Prop where
 ty : typeIn K (.ref W) = some (.type "type")
 ex : subIn K (.ref W) (.type "BaseException") = some true
 cl : (clsIn K W).isSome = true
theorem oqc {K : Frag} {M : Model} {h : Heap} {a W C : Addr} {o : Obj} (kin : K.In h) (ha : h.get? a = some o) (hc : o.cls = .ref C) (cw : Catch K W) (hs : subIn K (.ref C) (.ref W) = some true) : Looks M h (excMatches (.ref a) (.ref W)) true := by
 have L1 := looks_typeIn (M := M) kin cw.ty
 have L2 := looks_subIn (M := M) kin cw.ex
 have L3 := looks_subIn (M := M) kin hs
 have L4 : Looks M h (typeOf (.ref a)) (.ref C) := hc ▸ (Looks.ld ha).andThen .now
 have L5 : Looks M h (isInstance (.ref W) (.type "tuple")) false := L1.andThen (Looks.of_pure tc_notTuple)
 have L6 : Looks M h (isType (.ref W)) true := by
  have z := cw.cl
  unfold clsIn at z
  split at z
  ·next lk =>
   intro A' Q' E' s' k q
   unfold isType loadHead
   exact wpAny_bind (wpAny_loadPart (k _ _ (kin _ _ lk)) (wpAny_pure q))
  ·cases z
 intro A Q E s k q
 unfold excMatches isExcClass
 refine wpAny_bind (L5 A _ E s k ?_)
 simp only [Bool.false_eq_true, if_false]
 refine wpAny_bind (wpAny_pure ?_)
 refine wpAny_bind ?_
 rw [List.forIn_cons]
 refine wpAny_bind (wpAny_bind (wpAny_bind (L6 A _ E s k ?_)))
 simp only [if_true]
 refine L2 A _ E s k ?_
 simp only [Bool.not_true, Bool.false_eq_true, if_false]
 refine wpAny_pure ?_
 dsimp only
 rw [List.forIn_nil]
 refine wpAny_pure ?_
 refine wpAny_bind (L4 A _ E s k ?_)
 refine wpAny_bind ?_
 rw [List.forIn_cons]
 refine wpAny_bind (wpAny_bind (L3 A _ E s k ?_))
 simp only [if_true]
 refine wpAny_pure ?_
 dsimp only
 exact wpAny_pure (wpAny_pure q)
def tTry (K : Frag) (sp : Sp) (t : TA) (W : Addr) (i : Nat) (tb : TS) : TS := fun D σ H => t σ H fun vs H1 => sp vs H1 (fun _ H2 => D.nx σ H2) fun cls _ H2 =>
 ∃ C, cls = .ref C ∧ subIn K (.ref C) (.ref W) = some true ∧ ∀ a, H2 a = none → tb { nx := fun σ' H' => D.nx (σ'.set i none) H', rt := D.rt } (σ.set i (some (.ref a))) (upd H2 a (exO a C))
end L2
namespace L2
open PySem PySem.Spec PySem.W PySem.Calls PyProof.Rows PySem.Builtin PySem.Builtin.ObjectAttr PySem.Builtin.Getset_descriptor
structure ExLook (K : Frag) (C : Addr) : Prop where
 ga : findIn K (.ref C) "__getattribute__" = some (some (.builtin "BaseException.__getattribute__"))
 cl : findIn K (.ref C) "__class__" = some (some (.builtin "object.__class__"))
 na : findIn K (.ref C) "__getattr__" = some none
 mo : mroIn K C (.type "object") = some true
 mb : mroIn K C (.type "BaseException") = some true
 is : (clsIn K C).isSome = true
section
variable {prog : Program} {w : World} {A : Around} {E : Value → Shared → Prop} {hh : Heap} {g : Array GenState} {dr : Drawn} {t : Nat} {os : OsState} {K : Frag} {a C : Addr} {o : Obj}
theorem pqd {M : Model} (hx : hh.get? a = some o) (hc : o.cls = .ref C) : Looks M hh (typeOf (.ref a)) (.ref C) := hc ▸ (Looks.ld hx).andThen .now
theorem nqw {M : Model} {nv : Value} {Q : Unit → Shared → Prop} (kin : K.In hh) (hx : hh.get? a = some o) (hc : o.cls = .ref C) (L : ExLook K C) (hq : Q () ⟨hh, g, dr, t, os⟩) :
  wpAny M A (checkBuiltinCall "BaseException.__getattribute__" ⟨[.ref a, nv], []⟩) Q E ⟨hh, g, dr, t, os⟩ := by
 have lt := pqd (M := M) hx hc; have lb := looks_mroIn (M := M) kin L.mb
 have z1 : builtinKind "BaseException.__getattribute__" = some .slot := by decide +kernel
 have z2 : splitId "BaseException.__getattribute__" = some ("BaseException", "__getattribute__") := by decide +kernel
 have z3 := F.args_bexc_ga (.ref a) nv
 simp only [checkBuiltinCall, z1, z2]; refine wpAny_bind ?_; unfold isInstance
 repeat (first | with_reducible refine Looks.at lt ?_ | with_reducible refine Looks.at lb ?_ | wp_step)
 exact hq
end
inductive KitAns (K : Frag) (H : Hp) (C : Addr) : V → Bool → Prop
 | cls {W : Addr} {b : Bool} : kitOne K (.ref C) (.ref W) = some b → KitAns K H C (.ref W) b
 | ty {T : String} {b : Bool} : kitOne K (.ref C) (.type T) = some b → KitAns K H C (.ty T) b
 | tup {p : Addr} {cs : List Addr} {b : Bool} : H p = some (.tup (cs.map V.ref)) → kitAny K (.ref C) (cs.map Value.ref) = some b → KitAns K H C (.ref p) b
def rIsE (K : Frag) : List V → Hp → VK → Prop := fun vs H Q => ∃ a c C b, vs = [.ref a, c] ∧ H a = some (exO a C) ∧ ExLook K C ∧ KitAns K H C c b ∧ Q (.bl b) H
end L2
namespace L2
open PySem PySem.W
theorem wqv {K : Frag} {a : Addr} {c : V} {H : Hp} {Q : VK} : rIsE K [.ref a, c] H Q ↔ ∃ C b, H a = some (exO a C) ∧ ExLook K C ∧ KitAns K H C c b ∧ Q (.bl b) H :=
 ⟨fun ⟨_, _, C, b, e, h⟩ => by cases e; exact ⟨C, b, h⟩, fun ⟨C, b, h⟩ => ⟨a, c, C, b, rfl, h⟩⟩
theorem wqc {K : Frag} {sp : Sp} {t : TA} {W : Addr} {i : Nat} {tb : TS} {D : Ends} {σ : St} {H : Hp} : tTry K sp t W i tb D σ H ↔ t σ H fun vs H1 => sp vs H1 (fun _ H2 => D.nx σ H2) fun cls _ H2 =>
 ∃ C, cls = .ref C ∧ subIn K (.ref C) (.ref W) = some true ∧ ∀ a, H2 a = none → tb { nx := fun σ' H' => D.nx (σ'.set i none) H', rt := D.rt } (σ.set i (some (.ref a))) (upd H2 a (exO a C)) := Iff.rfl
end L2
namespace L2
open PySem PySem.Spec PyProof.Rows
theorem sw3 (x y : Str) (t u : Tok) (i : Nat) (v : Tok) :
  Meets (Builtin.«str.startswith» ⟨[.str x t, .str y u, .int (i : Int) v], []⟩) (fun _ R s => R (.ok (.ret (.bool (decide (i + y.length ≤ x.length) && Builtin.Str.subAt x y i)))) s) :=
 .of_wp fun prog w A R s h => by
  obtain ⟨hp, g, d, tk, os⟩ := s
  unfold Builtin.«str.startswith»
  wp_walk
  rw [F.slot_int_index.lookup]
  wp_walk
  refine ⟨_, rfl, ?_⟩
  have e1 : (max (0 : Int) (if (i : Int) < 0 then (i : Int) + (x.length : Int) else (i : Int))).toNat = i := by
   rw [if_neg (by omega)]; omega
  have e2 : min ((x.length : Nat) : Int).toNat x.length = x.length := by omega
  dsimp only
  rw [e1, e2]
  exact h
section
variable {X : Cx}
def rStarts : V → List V → Hp → VK → Prop := fun x vs H Q => ∃ z y, ∃ i : Nat, x = .str z ∧ vs = [.str y, .int (i : Int)] ∧ Q (.bl (decide (i + y.length ≤ z.length) && Builtin.Str.subAt z y i)) H
theorem pq0 : MtR X "str.startswith" rStarts := by
 intro pins s σ H x vs v us Q I rx rv h
 obtain ⟨z, y, i, rfl, rfl, q⟩ := h
 obtain ⟨t, rfl⟩ := rx
 obtain ⟨u1, u2, rfl, r1, r2⟩ := vals2 rv
 obtain ⟨t1, rfl⟩ := r1
 obtain ⟨t2, rfl⟩ := r2
 exact call_meets F.slot_str_startswith (typeIs_str _ _ _) F.entry_str_startswith (F.args_str_startswith_3 _ _ _) (sw3 z y t t1 i t2) ⟨.bl _, H, I, rfl, q⟩
end
section
variable {X : Cx}
def rPart : V → List V → Hp → VK → Prop := fun x vs H Q => ∃ z y, x = .str z ∧ vs = [.str y] ∧ (y.length == 0) = false ∧ z.length ≤ sizeLine ∧
 ∀ p, H p = none → Q (.ref p) (upd H p (.tup [.str (Txt.partition z y).1, .str (Txt.partition z y).2.1, .str (Txt.partition z y).2.2]))
theorem mq8 : MtR X "str.partition" rPart := by
 intro pins s σ H x vs v us Q I rx rv h
 obtain ⟨z, y, rfl, rfl, hy, hz, q⟩ := h
 obtain ⟨t, rfl⟩ := rx
 obtain ⟨u, rfl, t', rfl⟩ := vals1 rv
 have hf : H s.heap.objs.size = none := I.hok.fresh (Nat.le_refl _)
 have q := q _ hf
 refine call_meets F.slot_str_partition (typeIs_str _ _ _) F.entry_str_partition (F.args_str_partition_2 _ _) (meets_str_partition z y t t' hy hz) ?_
 unfold Txt.partition at q
 revert q
 cases Builtin.Str.occurrences z y 0 z.length 1 with
 | nil =>
  intro q
  refine ⟨.ref s.heap.objs.size, _, I.laid (t' := s.toks + 1) (o := .tup _) (fun b u e => Heap.get?_push_of_some _ e) (by omega) ?_, rfl, q⟩
  exact ⟨by show 3 ≤ sizeLine; decide, _, .cons ⟨_, rfl⟩ (.cons ⟨_, rfl⟩ (.cons ⟨_, rfl⟩ .nil)), IsTup.new _ _⟩
 | cons i r =>
  intro q
  refine ⟨.ref s.heap.objs.size, _, I.laid (t' := s.toks + 1 + 1) (o := .tup _) (fun b u e => Heap.get?_push_of_some _ e) (by omega) ?_, rfl, q⟩
  exact ⟨by show 3 ≤ sizeLine; decide, _, .cons ⟨_, rfl⟩ (.cons ⟨_, rfl⟩ (.cons ⟨_, rfl⟩ .nil)), IsTup.new _ _⟩
end
theorem rqh {us : List Value} {d : Value} (h : (us ++ [d]).length = 3) : ∃ x y, us = [x, y] := by
 match us, h with
 | [x, y], _ => exact ⟨x, y, rfl⟩
 | [], h => simp at h
 | [_], h => simp at h
 | _ :: _ :: _ :: _, h => simp at h
section
variable {X : Cx}
def rIntS : List V → Hp → VK → Prop := fun xs H Q => ∃ z n, xs = [.str z] ∧ z.length ≤ 640 ∧ PySem.intText? z = some n ∧ Q (.int n) H
theorem jq8 : CallR X (.type "int") rIntS := by
 intro pins s σ H xs us Q I r h
 obtain ⟨z, n, rfl, hz, hn, q⟩ := h
 obtain ⟨u, rfl, t, rfl⟩ := vals1 r
 exact PySem.W.KIN.call_text hn hz ⟨.int n, H, I.tok _, ⟨_, rfl⟩, q⟩
theorem tqL {z : Str} {H : Hp} {Q : VK} : rIntS [.str z] H Q ↔ ∃ n, z.length ≤ 640 ∧ PySem.intText? z = some n ∧ Q (.int n) H :=
 ⟨fun ⟨_, n, e, h⟩ => by cases e; exact ⟨n, h⟩, fun ⟨n, h⟩ => ⟨z, n, rfl, h⟩⟩
theorem wqH {z y : Str} {i : Nat} {H : Hp} {Q : VK} : rStarts (.str z) [.str y, .int (i : Int)] H Q ↔ Q (.bl (decide (i + y.length ≤ z.length) && Builtin.Str.subAt z y i)) H :=
 ⟨fun ⟨_, _, j, e1, e2, h⟩ => by
  cases e1
  injection e2 with e2 e3
  cases e2
  injection e3 with e3
  injection e3 with e3
  obtain rfl : i = j := by omega
  exact h, fun h => ⟨z, y, i, rfl, rfl, h⟩⟩
theorem tqB {z y : Str} {H : Hp} {Q : VK} : rPart (.str z) [.str y] H Q ↔ (y.length == 0) = false ∧ z.length ≤ sizeLine ∧ ∀ p, H p = none → Q (.ref p) (upd H p (.tup [.str (Txt.partition z y).1, .str (Txt.partition z y).2.1, .str (Txt.partition z y).2.2])) :=
 ⟨fun ⟨_, _, e1, e2, h⟩ => by cases e1; cases e2; exact h, fun h => ⟨z, y, rfl, rfl, h⟩⟩
theorem vqs {K : PySem.W.Frag} {ta : TE} {f : Str} {σ : St} {H : Hp} {Q : VK} : (tFld K ta f σ H Q) = (ta σ H fun x H1 => ∃ a C dx fs v, x = .ref a ∧ H1 a = some (.ins C dx fs) ∧ Cls K C ∧ NoAttr K C f ∧ fs.lookup f = some v ∧ Q v H1) := rfl
theorem uqj {K : PySem.W.Frag} {ta tv : TE} {f : Str} {D : Ends} {σ : St} {H : Hp} : (sFld K ta tv f D σ H) = (tv σ H fun y H1 => ta σ H1 fun x H2 => ∃ a C dx fs, x = .ref a ∧ H2 a = some (.ins C dx fs) ∧ Cls K C ∧ NoAttr K C f ∧ fs.length < 1000 ∧ D.nx σ (upd H2 a (.ins C dx (putF f y fs)))) := rfl
theorem uqm {C : Addr} {m : Str} {sp : Sp} {dvs : List V} {E : XK} {ta : TE} {t : TA} {σ : St} {H : Hp} {Q : VK} : (tMeth C m sp dvs E ta t σ H Q) = (ta σ H fun x H1 => ∃ a dx fs, x = .ref a ∧ H1 a = some (.ins C dx fs) ∧ fs.lookup m = none ∧ t σ H1 fun vs H2 => sp (x :: (vs ++ dvs)) H2 Q E) := rfl
theorem uqO {C : Addr} {sp : Sp} {dvs : List V} {E : XK} {t : TA} {σ : St} {H : Hp} {Q : VK} : (tMake C sp dvs E t σ H Q) = (t σ H fun vs H1 => ∀ x dx, H1 x = none → H1 dx = none → dx ≠ x → sp (.ref x :: (vs ++ dvs)) (upd (upd H1 dx (.own x)) x (.ins C dx [])) (fun v H2 => v = .non ∧ Q (.ref x) H2) E) := rfl
end
end L2
namespace Wm
open PySem L2
theorem sq2 (t w : List Nat) (i : Nat) (hi : i ≤ t.length) : (decide (i + (⟨w.toArray⟩ : Str).length ≤ (⟨t.toArray⟩ : Str).length) && Builtin.Str.subAt ⟨t.toArray⟩ ⟨w.toArray⟩ i) = decide ((t.drop i).take w.length = w) := by
 rw [dq0, dq0]
 have e : Builtin.Str.subAt ⟨t.toArray⟩ ⟨w.toArray⟩ i = decide ((t.drop i).take w.length = w) := by
  unfold Builtin.Str.subAt
  rw [dq0, Bool.eq_iff_iff, beq_iff_eq, decide_eq_true_eq]
  show (t.toArray.extract i (i + w.length) = w.toArray) ↔ _
  rw [← Array.toList_inj]
  simp
 rw [e]
 by_cases h : (t.drop i).take w.length = w
 ·have hl := congrArg List.length h
  rw [List.length_take, List.length_drop] at hl
  rw [decide_eq_true h, Bool.and_true]
  by_cases hw : w.length = 0
  ·rw [hw, Nat.add_zero]
   exact decide_eq_true hi
  ·exact decide_eq_true (by omega)
 ·rw [decide_eq_false h, Bool.and_false]
theorem occ1 (x y : Str) : ∀ (l : List Nat) (free : Nat), (∀ i ∈ l, free ≤ i) →
  (forIn l ((#[] : Array Nat), free) (StrLaws.occBody x y x.length 1)).run.fst.toList = (l.find? fun i => decide (i + y.length ≤ x.length) && Builtin.Str.subAt x y i).toList
 | [], free, _ => rfl
 | a :: l, free, hf => by
  rw [List.forIn_cons, List.find?_cons]
  have ha : free ≤ a := hf a (List.mem_cons_self ..)
  by_cases hc : a + y.length ≤ x.length ∧ Builtin.Str.subAt x y a = true
  ·have e : (decide (a + y.length ≤ x.length) && Builtin.Str.subAt x y a) = true := by rw [decide_eq_true hc.1, hc.2]; rfl
   rw [e]
   unfold StrLaws.occBody
   rw [if_pos ⟨⟨⟨by simp, ha⟩, hc.1⟩, hc.2⟩]
   have full : ∀ (l : List Nat) (st : Array Nat × Nat), st.1.size = 1 → (forIn l st (StrLaws.occBody x y x.length 1)).run.fst = st.1 := by
    intro l
    induction l with
    | nil => intro st _; rfl
    | cons b l ih =>
     intro st hs
     rw [List.forIn_cons]
     unfold StrLaws.occBody
     rw [if_neg (fun h => by have := h.1.1.1; omega)]
     exact ih st hs
   show (forIn l ((#[] : Array Nat).push a, a + y.length) (StrLaws.occBody x y x.length 1)).run.fst.toList = _
   rw [full l _ (by simp)]
   simp
  ·have e : (decide (a + y.length ≤ x.length) && Builtin.Str.subAt x y a) = false := by
    cases h1 : Builtin.Str.subAt x y a with
    | false => rw [Bool.and_false]
    | true => rw [Bool.and_true]; exact decide_eq_false fun z => hc ⟨z, h1⟩
   rw [e]
   unfold StrLaws.occBody
   rw [if_neg (fun h => hc ⟨h.1.2, h.2⟩)]
   exact occ1 x y l free fun i hi => hf i (List.mem_cons_of_mem _ hi)
def ahead (t : List Nat) : List Nat := t.takeWhile fun c => decide (c ≠ 58)
theorem sqs (t : List Nat) (i : Nat) : (decide (i + (⟨[58].toArray⟩ : Str).length ≤ (⟨t.toArray⟩ : Str).length) && Builtin.Str.subAt ⟨t.toArray⟩ ⟨[58].toArray⟩ i) = decide (t[i]? = some 58) := by
 by_cases hi : i ≤ t.length
 ·rw [sq2 t [58] i hi, decide_eq_decide]
  cases h : t.drop i with
  | nil =>
   have : t[i]? = none := List.getElem?_eq_none (by have := congrArg List.length h; rw [List.length_drop, List.length_nil] at this; omega)
   rw [this]
   simp
  | cons c r =>
   have : t[i]? = some c := by rw [← List.head?_drop, h]; rfl
   rw [this]
   simp
 ·rw [List.getElem?_eq_none (by omega), dq0, dq0, decide_eq_false (by rw [List.length_singleton]; omega)]
  rfl
theorem pqR (t : List Nat) : ∀ (k : Nat), k ≤ t.length → (t.take k).all (fun c => decide (c ≠ 58)) = true →
  ((List.range' k (t.length + 1 - k)).find? fun i => decide (t[i]? = some 58)) = if 58 ∈ t then some (ahead t).length else none := by
 intro k
 induction hn : t.length - k generalizing k with
 | zero =>
  intro hk ha
  have e : k = t.length := by omega
  subst e
  rw [List.take_length] at ha
  have hno : 58 ∉ t := fun h => by have := List.all_eq_true.mp ha 58 h; simp at this
  rw [if_neg hno, show t.length + 1 - t.length = 1 by omega]
  simp
 | succ n ih =>
  intro hk ha
  have hk' : k < t.length := by omega
  have hc : t[k]? = some t[k] := List.getElem?_eq_getElem hk'
  rw [show t.length + 1 - k = (t.length + 1 - (k + 1)) + 1 by omega, List.range'_succ, List.find?_cons, hc]
  by_cases h58 : t[k] = 58
  ·rw [h58]
   simp only [decide_true]
   rw [if_pos (by rw [← h58]; exact List.getElem_mem hk')]
   congr 1
   have ht : t = t.take k ++ 58 :: t.drop (k + 1) := by
    rw [← h58, List.getElem_cons_drop, List.take_append_drop]
   unfold ahead
   rw [ht, List.takeWhile_append_of_pos (fun c hc' => List.all_eq_true.mp ha c hc'), List.takeWhile_cons_of_neg (by simp)]
   simp; omega
  ·rw [show decide (some t[k] = some 58) = false from decide_eq_false (by simpa using h58)]
   refine ih (k + 1) (by omega) (by omega) ?_
   rw [List.take_add_one, hc, List.all_append, ha]
   simpa using h58
theorem pqI (t : List Nat) : (Txt.partition ⟨t.toArray⟩ ⟨[58].toArray⟩).1 = ⟨(ahead t).toArray⟩ := by
 have e : Builtin.Str.occurrences (⟨t.toArray⟩ : Str) ⟨[58].toArray⟩ 0 (⟨t.toArray⟩ : Str).length 1 = (if 58 ∈ t then some (ahead t).length else none).toList := by
  rw [StrLaws.occ_eq, occ1 _ _ _ _ (fun i _ => Nat.zero_le i)]
  simp only [sqs]
  rw [dq0]
  exact congrArg Option.toList (pqR t 0 (Nat.zero_le _) rfl)
 unfold Txt.partition
 rw [e]
 by_cases h : 58 ∈ t
 ·rw [if_pos h]
  show Builtin.Str.strSub ⟨t.toArray⟩ 0 (ahead t).length = _
  unfold Builtin.Str.strSub
  have hp : t.take (ahead t).length = ahead t := (List.prefix_iff_eq_take.mp (List.takeWhile_prefix _)).symm
  rw [← hp, List.length_take]
  have : (ahead t).length ≤ t.length := (List.takeWhile_prefix _).length_le
  rw [show min (ahead t).length t.length = (ahead t).length by omega]
  show (⟨t.toArray.extract 0 (ahead t).length⟩ : Str) = _
  simp
 ·rw [if_neg h]
  have all : ∀ l : List Nat, 58 ∉ l → ahead l = l := fun l => by
   induction l with
   | nil => intro _; rfl
   | cons c l ih =>
    intro hl
    have h1 : c ≠ 58 := fun z => hl (by rw [z]; exact List.mem_cons_self ..)
    unfold ahead
    rw [List.takeWhile_cons, if_pos (decide_eq_true h1)]
    exact congrArg (c :: ·) (ih fun z => hl (List.mem_cons_of_mem _ z))
  have : ahead t = t := all t h
  rw [this]
  rfl
def Cur (H : Hp) (C p : Addr) (t : List Nat) (k : Nat) : Prop := ∃ dx, H p = some (.ins C dx [("text", .str ⟨t.toArray⟩), ("place", .int (k : Int))])
inductive WrT (fr : List Nat) : List Nat → List Nat → Prop
 | nil : WrT fr [] []
 | self {c : Nat} {s w : List Nat} : (isPl c = true ∨ c ∈ fr) → c ≠ 126 → WrT fr s w → WrT fr (c :: s) (c :: w)
 | pair {c a b : Nat} {s w : List Nat} : sgO a b = some c → WrT fr s w → WrT fr (c :: s) (126 :: a :: b :: w)
def Stops (fr r : List Nat) : Prop := ∀ c, r.head? = some c → isPl c = false ∧ c ∉ fr ∧ c ≠ 126
def moV : Option Nat → V
 | none => .non
 | some m => .int (m : Int)
theorem sq9 {a n : Nat} (h : fig a = some n) : a < 128 ∧ n < 16 ∧ (n < 10 → a = 48 + n) := by
 unfold fig at h
 split at h
 ·cases h; omega
 ·split at h
  ·cases h; omega
  ·split at h
   ·cases h; omega
   ·cases h
theorem kqJ {a b c : Nat} (h : sgO a b = some c) : a ∈ (Str.ofString "234567").cps.toList ∧ a < 128 ∧ b < 128 ∧ isSg c = true := by
 unfold sgO at h
 cases ha : fig a with
 | none => simp [ha] at h
 | some n =>
  cases hb : fig b with
  | none => simp [ha, hb] at h
  | some m =>
   simp only [ha, hb] at h
   split at h
   ·next hs =>
    cases h
    obtain ⟨a1, a2, a3⟩ := sq9 ha
    obtain ⟨b1, b2, _⟩ := sq9 hb
    have hr := hs
    simp only [isSg, Bool.and_eq_true, decide_eq_true_eq] at hr
    have e := a3 (by omega)
    refine ⟨?_, a1, b1, hs⟩
    have key : ∀ n, n < 8 → 2 ≤ n → 48 + n ∈ (Str.ofString "234567").cps.toList := by decide +kernel
    rw [e]
    exact key n (by omega) (by omega)
   ·cases h
section
variable {K : PySem.W.Frag} {H : Hp} {C p : Addr} {t : List Nat} {i : Nat}
theorem tq7 {v u : V} : List.lookup (Str.ofString "text") [(Str.ofString "text", v), (Str.ofString "place", u)] = some v := by
 rw [List.lookup_cons, beq_self_eq_true]
theorem sqF {v u : V} : List.lookup (Str.ofString "place") [(Str.ofString "text", v), (Str.ofString "place", u)] = some u := by
 rw [List.lookup_cons, show (Str.ofString "place" == Str.ofString "text") = false by decide +kernel, List.lookup_cons, beq_self_eq_true]
theorem gqp {R : V → Prop} (h : Cur H C p t i) (cl : Cls K C) (n : NoAttr K C "text") (r : R (.str ⟨t.toArray⟩)) : ∃ a C dx fs v, p = a ∧ H a = some (.ins C dx fs) ∧ Cls K C ∧ NoAttr K C (Str.ofString "text") ∧ List.lookup (Str.ofString "text") fs = some v ∧ R v :=
 let ⟨dx, hp⟩ := h
 ⟨p, C, dx, _, _, rfl, hp, cl, n, tq7, r⟩
theorem aqW {R : V → Prop} (h : Cur H C p t i) (cl : Cls K C) (n : NoAttr K C "place") (r : R (.int (i : Int))) : ∃ a C dx fs v, p = a ∧ H a = some (.ins C dx fs) ∧ Cls K C ∧ NoAttr K C (Str.ofString "place") ∧ List.lookup (Str.ofString "place") fs = some v ∧ R v :=
 let ⟨dx, hp⟩ := h
 ⟨p, C, dx, _, _, rfl, hp, cl, n, sqF, r⟩
theorem rqI {v u w : V} : putF (Str.ofString "place") w [(Str.ofString "text", v), (Str.ofString "place", u)] = [(Str.ofString "text", v), (Str.ofString "place", w)] := by
 have h : Str.ofString "text" ≠ Str.ofString "place" := by decide +kernel
 simp only [putF, if_neg h, if_true]
theorem nqM {N : Hp → Prop} {z : Int} (h : Cur H C p t i) (cl : Cls K C) (n : NoAttr K C "place") (j : Nat) (hz : z = (j : Int)) (hN : ∀ H', SameBut p H H' → Cur H' C p t j → N H') :
  ∃ a C dx fs, p = a ∧ H a = some (.ins C dx fs) ∧ Cls K C ∧ NoAttr K C (Str.ofString "place") ∧ fs.length < 1000 ∧ N (upd H a (.ins C dx (putF (Str.ofString "place") (.int z) fs))) := by
 obtain ⟨dx, hp⟩ := h
 refine ⟨p, C, dx, _, rfl, hp, cl, n, by show 2 < 1000; decide, ?_⟩
 rw [rqI, hz]
 exact hN _ kqS ⟨dx, aqw⟩
theorem uqg {m : Str} {v u : V} (h1 : (m == Str.ofString "text") = false) (h2 : (m == Str.ofString "place") = false) : List.lookup m [(Str.ofString "text", v), (Str.ofString "place", u)] = none := by
 rw [List.lookup_cons, h1, List.lookup_cons, h2]; rfl
theorem aqS {R : Prop} {m : Str} (h : Cur H C p t i) (r : R) (h1 : (m == Str.ofString "text") = false := by decide +kernel) (h2 : (m == Str.ofString "place") = false := by decide +kernel) :
  ∃ a dx fs, p = a ∧ H a = some (.ins C dx fs) ∧ List.lookup m fs = none ∧ R :=
 let ⟨dx, hp⟩ := h
 ⟨p, dx, _, rfl, hp, uqg h1 h2, r⟩
theorem Cur.same {H' : Hp} (h : Cur H C p t i) (s : Same H H') : Cur H' C p t i := let ⟨dx, hp⟩ := h; ⟨dx, s _ _ hp⟩
end
def plS : List Nat := (Str.ofString "abcdefghijklmnopqrstuvwxyzABCDEFGHIJKLMNOPQRSTUVWXYZ0123456789-_.").cps.toList
theorem qqZ : plS.length = 65 := by decide +kernel
theorem tqf {c : Nat} (h : c < 128) : (c ∈ plS) ↔ isPl c = true := by
 have := rqS c h
 rw [← this, decide_eq_true_eq]
 exact Iff.rfl
def seesB (t sg : List Nat) (i : Nat) : Bool := ((t[i]?).map fun c => decide (c ∈ sg)).getD false
theorem fqP {t sg : List Nat} {i c : Nat} (h : t[i]? = some c) : seesB t sg i = decide (c ∈ sg) := by unfold seesB; rw [h]; rfl
theorem fqJ {t sg : List Nat} {i : Nat} (h : t[i]? = none) : seesB t sg i = false := by unfold seesB; rw [h]; rfl
theorem kqm {t w : List Nat} {i c : Nat} (h : t.drop i = c :: w) : t[i]? = some c ∧ i < t.length := by
 have e : t[i]? = some c := by rw [← List.head?_drop, h]; rfl
 exact ⟨e, (List.getElem?_eq_some_iff.mp e).1⟩
theorem oqt {fr s w : List Nat} (h : WrT fr s w) : s.length ≤ w.length := by
 induction h with
 | nil => exact Nat.le_refl _
 | self _ _ _ ih => simp only [List.length_cons]; omega
 | pair _ _ ih => simp only [List.length_cons]; omega
def frS : List Nat := (Str.ofString "!$'()*,;@&=+").cps.toList
def frQ : List Nat := (Str.ofString "!$'()*,;@+/?:").cps.toList
def frM : List Nat := (Str.ofString "!$'()*,;@&=+/?:").cps.toList
theorem oqH : frS.length ≤ 100 := by decide +kernel
theorem oqB : frQ.length ≤ 100 := by decide +kernel
theorem uqd : frM.length ≤ 100 := by decide +kernel
theorem mq9 {fr : List Nat} : Stops fr [] := fun c h => by cases h
theorem lqN {fr r : List Nat} {c : Nat} (h : isPl c = false ∧ c ∉ fr ∧ c ≠ 126) : Stops fr (c :: r) := fun d e => by cases e; exact h
def MarW (o : Option (List Nat)) (w : List Nat) : Prop := match o with
 | none => w = []
 | some s => ∃ v, w = 35 :: v ∧ WrT frM s v
def ValW (o : Option (List Nat)) (w : List Nat) : Prop := match o with
 | none => w = []
 | some s => ∃ v, w = 61 :: v ∧ WrT frQ s v
def HouW (o : Option (List Nat)) (w : List Nat) : Prop := match o with
 | none => w = []
 | some s => ∃ v, w = 47 :: 47 :: v ∧ WrT [] s v ∧ s ≠ [] ∧ s.length ≤ 60
inductive TlW : List (List Nat) → Bool → List Nat → Prop
 | stop : TlW [] false []
 | ends : TlW [] true [47]
 | more {s w : List Nat} {ss : List (List Nat)} {e : Bool} {v : List Nat} : WrT frS s w → s ≠ [] → TlW ss e v → TlW (s :: ss) e (47 :: (w ++ v))
inductive StpW : List (List Nat) → Bool → List Nat → Prop
 | none {e : Bool} : StpW [] e []
 | some {s w : List Nat} {ss : List (List Nat)} {e : Bool} {v : List Nat} : WrT frS s w → s ≠ [] → TlW ss e v → StpW (s :: ss) e (w ++ v)
inductive PrsW : List (List Nat × Option (List Nat)) → List Nat → Prop
 | nil : PrsW [] []
 | cons {n w v : List Nat} {o : Option (List Nat)} {ps : List (List Nat × Option (List Nat))} {r : List Nat} : WrT frQ n w → n ≠ [] → ValW o v → PrsW ps r → PrsW ((n, o) :: ps) (38 :: (w ++ (v ++ r)))
def QueW (q : Option (List (List Nat × Option (List Nat)))) (w : List Nat) : Prop := match q with
 | none => w = []
 | some [] => w = [63]
 | some ((n, o) :: ps) => ∃ a v r, w = 63 :: (a ++ (v ++ r)) ∧ WrT frQ n a ∧ n ≠ [] ∧ ValW o v ∧ PrsW ps r
theorem Cur.toT {H H' : Hp} {C p : Addr} {t : List Nat} {i : Nat} (h : Cur H C p t i) (s : SameBut p H H') : SameT H H' := fun b xs e => s b _ (by
 obtain ⟨dx, hp⟩ := h
 exact wqT e hp (by intro z; cases z)) e
def pD (a : List Nat × Option (List Nat)) : PyData := .tuple [st a.1, oD a.2]
def PrL (H : Hp) (vs : List V) (dn : List (List Nat × Option (List Nat))) : Prop := vs.length = dn.length ∧ ∀ (i : Nat) (a : List Nat × Option (List Nat)) (y : V), dn[i]? = some a → vs[i]? = some y → IsT H (pD a) y
theorem PrL.mono {H H' : Hp} {vs : List V} {dn : List (List Nat × Option (List Nat))} (h : PrL H vs dn) (s : SameT H H') : PrL H' vs dn := ⟨h.1, fun i a y e1 e2 => (h.2 i a y e1 e2).mono s⟩
theorem PrL.snoc {H : Hp} {vs : List V} {dn : List (List Nat × Option (List Nat))} {a : List Nat × Option (List Nat)} {y : V} (h : PrL H vs dn) (hy : IsT H (pD a) y) : PrL H (vs ++ [y]) (dn ++ [a]) := by
 refine ⟨by simp [h.1], fun i b z e1 e2 => ?_⟩
 by_cases hi : i < dn.length
 ·rw [List.getElem?_append_left hi] at e1
  rw [List.getElem?_append_left (by rw [h.1]; exact hi)] at e2
  exact h.2 i b z e1 e2
 ·have := (List.getElem?_eq_some_iff.mp e1).1
  rw [List.length_append, List.length_singleton] at this
  have e : i = dn.length := by omega
  subst e
  rw [List.getElem?_append_right (Nat.le_refl _), Nat.sub_self] at e1
  rw [← h.1, List.getElem?_append_right (Nat.le_refl _), Nat.sub_self] at e2
  cases e1
  cases e2
  exact hy
theorem lqJ {H : Hp} {α : Type} {g : α → PyData} : ∀ {l : List α} {ys : List V}, ys.length = l.length → (∀ (i : Nat) (a : α) (y : V), l[i]? = some a → ys[i]? = some y → IsT H (g a) y) → IsTAll H (l.map g) ys
 | [], [], _, _ => .nil
 | [], _ :: _, h, _ => by simp at h
 | _ :: _, [], h, _ => by simp at h
 | a :: l, y :: ys, h, k => .cons (k 0 a y rfl rfl) (lqJ (by simpa using h) fun i b z e1 e2 => k (i + 1) b z (by simpa using e1) (by simpa using e2))
def fgS : List Nat := (Str.ofString "0123456789").cps.toList
theorem pqe {c : Nat} : c ∈ fgS ↔ 48 ≤ c ∧ c ≤ 57 := by
 rw [show fgS = [48, 49, 50, 51, 52, 53, 54, 55, 56, 57] by decide +kernel]
 simp only [List.mem_cons, List.not_mem_nil, or_false]
 omega
def valD (ds : List Nat) : Nat := ds.foldl (fun a c => a * 10 + (c - 48)) 0
theorem kqo (ds : List Nat) (c : Nat) : valD (ds ++ [c]) = valD ds * 10 + (c - 48) := by unfold valD; rw [List.foldl_append]; rfl
theorem rqn : ∀ (es ds : List Nat), valD ds ≤ valD (ds ++ es)
 | [], ds => by rw [List.append_nil]; exact Nat.le_refl _
 | c :: es, ds => by
  have h := rqn es (ds ++ [c])
  rw [kqo, List.append_assoc] at h
  exact Nat.le_trans (by omega) h
theorem sqt {ds : List Nat} {c : Nat} {r : List Nat} (h : ds = c :: r) (hc : 49 ≤ c) : 0 < valD ds := by
 have := rqn r [c]
 rw [h]
 have e : valD [c] = c - 48 := by unfold valD; simp
 show 0 < valD ([c] ++ r)
 omega
def DooW (o : Option Int) (w : List Nat) : Prop := match o with
 | none => w = []
 | some n => ∃ ds, w = 58 :: ds ∧ ds ≠ [] ∧ (∀ c ∈ ds, 48 ≤ c ∧ c ≤ 57) ∧ (valD ds : Int) = n ∧ valD ds ≤ 65535 ∧ (ds = [48] ∨ ds.head? ≠ some 48)
theorem oqi : ∀ c, c < 58 → 48 ≤ c → PySem.intText? ⟨#[c]⟩ = some (((c - 48 : Nat)) : Int) := by decide +kernel
theorem rqH {s r : List Nat} (h : ∀ c ∈ s, c ≠ 58) : ahead (s ++ 58 :: r) = s := by
 unfold ahead
 rw [List.takeWhile_append_of_pos (fun c hc => decide_eq_true (h c hc)), List.takeWhile_cons_of_neg (by simp), List.append_nil]
theorem iqx (t : List Nat) : ∃ r, t = ahead t ++ r := ⟨t.dropWhile fun c => decide (c ≠ 58), (List.takeWhile_append_dropWhile (p := fun c => decide (c ≠ 58))).symm⟩
theorem pq8 (t : List Nat) : (ahead t).length ≤ t.length := by
 obtain ⟨r, h⟩ := iqx t
 have := congrArg List.length h
 rw [List.length_append] at this
 omega
theorem lqM (t : List Nat) : t.take (ahead t ++ [58]).length = ahead t ++ [58] ↔ t[(ahead t).length]? = some 58 := by
 obtain ⟨r, h⟩ := iqx t
 generalize ahead t = a at h
 subst h
 rw [List.length_append, List.length_singleton, List.getElem?_append_right (Nat.le_refl _), Nat.sub_self, List.take_append]
 rw [List.take_of_length_le (by omega), show a.length + 1 - a.length = 1 by omega]
 constructor
 ·intro e
  have e := List.append_cancel_left e
  cases r with
  | nil => simp at e
  | cons c r => simp at e; rw [e]; rfl
 ·intro e
  cases r with
  | nil => simp at e
  | cons c r => simp at e; rw [e]; rfl
def schM (t : List Nat) : List Nat := if ahead t ≠ [] ∧ schD (.str ⟨(ahead t).toArray⟩) = true ∧ t[(ahead t).length]? = some 58 then ahead t else []
def schP (t : List Nat) : Nat := (schT (schM t)).length
theorem hqe {t : List Nat} (h1 : ahead t ≠ []) (h2 : schD (.str ⟨(ahead t).toArray⟩) = true) (h3 : t[(ahead t).length]? = some 58) : schM t = ahead t ∧ schP t = (ahead t ++ [58]).length := by
 have e : schM t = ahead t := by unfold schM; rw [if_pos ⟨h1, h2, h3⟩]
 exact ⟨e, by unfold schP schT; rw [e, if_neg h1]⟩
theorem hq0 {t : List Nat} (h : ¬ (ahead t ≠ [] ∧ schD (.str ⟨(ahead t).toArray⟩) = true ∧ t[(ahead t).length]? = some 58)) : schM t = [] ∧ schP t = 0 := by
 have e : schM t = [] := by unfold schM; rw [if_neg h]
 exact ⟨e, by unfold schP schT; rw [e, if_pos rfl]; rfl⟩
end Wm
namespace L2
open PySem
end L2
namespace Wm
open PySem L2
def GoodsT (n : Nat) (H : Hp) (vs : List V) : Prop := ∀ v ∈ vs, ∃ x : Ad, (x.Wf ∧ x.Tiny ∧ x.steps.length ≤ n) ∧ IsT H x.data v
theorem GoodsT.cons {n : Nat} {H : Hp} {v : V} {vs : List V} {x : Ad} (h1 : x.Wf ∧ x.Tiny ∧ x.steps.length ≤ n) (h3 : IsT H x.data v) (h : GoodsT n H vs) : GoodsT n H (v :: vs) := fun u hu => by
 rcases List.mem_cons.mp hu with rfl | hu
 ·exact ⟨x, h1, h3⟩
 ·exact h u hu
theorem Ad.Tiny.local {x : Ad} (h : x.Tiny) : ({ x with scheme := [], house := none, door := none } : Ad).Tiny := ⟨h.stp, h.que, h.mar, fun l e => by cases e⟩
end Wm
namespace L2
open PySem
end L2
namespace Wm
open PySem L2
def PrW (p : List Nat × Option (List Nat)) (w : List Nat) : Prop := ∃ a v, w = a ++ v ∧ WrT frQ p.1 a ∧ ValW p.2 v
inductive PrWs : List (List Nat × Option (List Nat)) → List (List Nat) → Prop
 | nil : PrWs [] []
 | cons {p : List Nat × Option (List Nat)} {w : List Nat} {ps : List (List Nat × Option (List Nat))} {ws : List (List Nat)} : PrW p w → PrWs ps ws → PrWs (p :: ps) (w :: ws)
inductive StWs : List (List Nat) → List (List Nat) → Prop
 | nil : StWs [] []
 | cons {s w : List Nat} {ss ws : List (List Nat)} : WrT frS s w → StWs ss ws → StWs (s :: ss) (w :: ws)
end Wm
namespace L2
open PySem PySem.Spec PyProof.Rows
section
variable {X : Cx} {pins : List (Addr × Obj)} {σ : St} {H : Hp} {s : Shared} {h' : Heap}
end
def ItW (n : Nat) (ok : Hp → Prop) (pt : Nat → Hp → List V → Prop) : It :=
 ⟨fun i H => i < n ∧ ok H, fun i H x H' => ∃ T xs, x = .ref T ∧ H T = none ∧ H' = upd H T (.tup xs) ∧ pt i H xs, fun i H => i = n ∧ ok H⟩
section
variable {σ : St} {H : Hp} {D : Ends} {g : TG} {tb : TS}
end
section
variable {prog : Program} {w : World} {A : Around} {E : Value → Shared → Prop} {s : Shared}
end
section
variable {prog : Program} {w : World} {A : Around} {E : Value → Shared → Prop} {s : Shared}
end
def ItE (K : PySem.W.Frag) (a : Addr) (xs : List V) : It := ItW xs.length (fun H => SqT K H a xs) fun i _ ys => ∃ v, xs[i]? = some v ∧ ys = [.int (i : Int), v]
section
variable {X : Cx} {K : PySem.W.Frag} {elts : List Expr} {kk : Nat} {tpos : Pos}
def iEnum (K : PySem.W.Frag) (ta : TA) : TI := fun σ H R => ta σ H fun vs H1 => ∃ a xs, vs = [.ref a] ∧ SqT K H1 a xs ∧ R (ItE K a xs) H1
variable {σ : St} {H : Hp} {D : Ends} {g : TG} {tb : TS} {aa : TA}
theorem uqh : (tFor (iEnum K aa) g tb D σ H) = (aa σ H fun vs H1 => ∃ a xs, vs = [.ref a] ∧ SqT K H1 a xs ∧ LoopI (ItE K a xs) g tb D σ H1) := rfl
end
structure Zap (z TI TO i1 i2 l1 l2 : Addr) : Prop where
 a1 : TI ≠ z ∧ TO ≠ z ∧ i1 ≠ z ∧ i2 ≠ z ∧ l1 ≠ z ∧ l2 ≠ z
 a2 : TI ≠ TO ∧ TI ≠ i1 ∧ TI ≠ i2 ∧ TO ≠ i1 ∧ TO ≠ i2 ∧ i1 ≠ i2
 a3 : l1 ≠ TO ∧ l2 ≠ TO ∧ l1 ≠ i2 ∧ l2 ≠ i1
section
variable {prog : Program} {w : World} {A : Around} {E : Value → Shared → Prop} {s : Shared}
variable {z TI TO i1 i2 l1 l2 : Addr} {n1 n2 k : Nat} {P1 P2 : Nat → Value → Prop} {S1 S2 : Nat → Heap → Prop}
end
section
variable {prog : Program} {w : World} {A : Around} {E : Value → Shared → Prop} {s : Shared}
end
def ItZ (K : PySem.W.Frag) (a b : Addr) (xs ys : List V) : It := ItW (min xs.length ys.length) (fun H => SqT K H a xs ∧ SqT K H b ys) fun i _ vs => ∃ x y, xs[i]? = some x ∧ ys[i]? = some y ∧ vs = [x, y]
section
variable {X : Cx} {K : PySem.W.Frag} {elts : List Expr} {kk : Nat} {tpos : Pos}
def iZip (K : PySem.W.Frag) (ta : TA) : TI := fun σ H R => ta σ H fun vs H1 => ∃ a b xs ys, vs = [.ref a, .ref b] ∧ SqT K H1 a xs ∧ SqT K H1 b ys ∧ R (ItZ K a b xs ys) H1
variable {σ : St} {H : Hp} {D : Ends} {g : TG} {tb : TS} {aa : TA}
theorem uqT : (tFor (iZip K aa) g tb D σ H) = (aa σ H fun vs H1 => ∃ a b xs ys, vs = [.ref a, .ref b] ∧ SqT K H1 a xs ∧ SqT K H1 b ys ∧ LoopI (ItZ K a b xs ys) g tb D σ H1) := rfl
variable {p : Addr} {fv : St} {tt : TT} {te : TE} {Q : VK} {H1 : Hp} {fr : List Nat}
theorem qqP : (tComp2 K (iZip K aa) fr tt te σ H Q) = (aa σ H fun vs H1 => ∃ a b xs ys, vs = [.ref a, .ref b] ∧ SqT K H1 a xs ∧ SqT K H1 b ys ∧ ∀ p, H1 p = none → CompI2 K (ItZ K a b xs ys) p (frV σ fr) tt te Q H1) := rfl
end
section
variable {p : Addr} {fv : St} {tt : TT} {te : TE} {Q : VK} {H1 H : Hp} {fr : List Nat} {aa : TA} {σ : St}
theorem rqp : (tComp (iRng1 aa) fr tt te σ H Q) = (aa σ H fun vs H1 => ∃ j : Int, vs = [.int j] ∧ -(2 ^ 62) ≤ j ∧ j < 2 ^ 62 ∧ ∀ p, H1 p = none → CompI (Itr 0 j.toNat) p (frV σ fr) tt te Q H1) := rfl
end
section
variable {X : Cx}
def rDigit : V → List V → Hp → VK → Prop := fun x vs H Q => ∃ z, x = .str z ∧ vs = [] ∧ Q (.bl (Txt.isdigit z)) H
theorem qql {z : Str} {H : Hp} {Q : VK} : rDigit (.str z) [] H Q ↔ Q (.bl (Txt.isdigit z)) H := ⟨fun ⟨_, e, _, q⟩ => by cases e; exact q, fun q => ⟨z, rfl, rfl, q⟩⟩
theorem oqZ : MtR X "str.isdigit" rDigit := by
 intro pins s σ H x vs v us Q I rx rv q
 obtain ⟨z, rfl, rfl, q⟩ := q
 obtain ⟨t, rfl⟩ := rx
 cases rv
 exact SC.isdigit ⟨.bl _, H, I, rfl, q⟩
end
end L2
namespace L2
open PySem PySem.Spec PySem.W PyProof.Rows
def SameD (h h' : Heap) : Prop := ∀ (b : Nat) (o : Obj), h.objs[b]? = some o → ∃ o', h'.objs[b]? = some o' ∧ o'.dict = o.dict
theorem SameD.refl (h : Heap) : SameD h h := fun _ o e => ⟨o, e, rfl⟩
theorem SameD.trans {a b c : Heap} (x : SameD a b) (y : SameD b c) : SameD a c := fun d o e => by
 obtain ⟨o1, e1, q1⟩ := x d o e
 obtain ⟨o2, e2, q2⟩ := y d o1 e1
 exact ⟨o2, e2, q2.trans q1⟩
theorem SameD.push (h : Heap) (o : Obj) : SameD h (h.push o) := fun b u e => by
 refine ⟨u, ?_, rfl⟩
 have hb : b < h.objs.size := (Array.getElem?_eq_some_iff.mp e).1
 show (h.objs.push o)[b]? = some u
 rw [Array.getElem?_push, if_neg (Nat.ne_of_lt hb)]
 exact e
theorem SameD.upd (h : Heap) (a : Addr) {f : Obj → Obj} (hf : ∀ o, (f o).dict = o.dict) : SameD h (h.update a f) := fun b u e => by
 show ∃ o', (h.objs.modify a f)[b]? = some o' ∧ _
 rw [Array.getElem?_modify]
 by_cases q : a = b
 ·rw [if_pos q, e]; exact ⟨f u, rfl, hf u⟩
 ·rw [if_neg q, e]; exact ⟨u, rfl, rfl⟩
theorem SameD.get {h h' : Heap} (x : SameD h h') {b : Addr} {o o' : Obj} (e : h.get? b = some o) (e' : h'.get? b = some o') : o'.dict = o.dict := by
 obtain ⟨o1, q, r⟩ := x b o (Heap.get?_some_iff.mp e).1
 have := (Heap.get?_some_iff.mp e').1
 rw [q] at this
 cases this
 exact r
def kd {α : Type} : Sem α → Prop
 | .pure _ => True
 | .raise _ => False
 | .unsupported _ => True
 | .finish _ => True
 | .rule _ k => kd (k ())
 | .at _ k => kd (k ())
 | .load _ _ k => ∀ o, kd (k o)
 | .update _ _ f k => (∀ o, (f o).dict = o.dict) ∧ kd (k ())
 | .alloc _ k => ∀ a, kd (k a)
 | .loadIfAlive _ k => ∀ o, kd (k o)
 | .point _ k => kd (k ())
 | .register _ _ => True
 | .fresh k => ∀ t, kd (k t)
 | .ask k => ∀ t, kd (k t)
 | .choose _ _ k => ∀ t, kd (k t)
 | .os _ _ _ => False
 | .call _ _ _ _ _ => False
 | .handled _ k => ∀ t, kd (k t)
 | .newGen _ _ => False
 | .genState _ _ => False
 | .resume _ _ _ _ => False
 | .yield _ _ _ _ => True
 | .stack k => ∀ t, kd (k t)
 | .fork _ _ => True
 | .thread k => ∀ t, kd (k t)
 | .await _ _ _ _ _ => True
theorem bqe {α β : Type} {m : Sem α} {f : α → Sem β} (a : kd m) (b : ∀ x, kd (f x)) : kd (m >>= f) := by
 show kd (Sem.bind m f)
 induction m with
 | pure x => exact b x
 | raise _ => exact a.elim
 | unsupported _ => exact True.intro
 | finish _ => exact True.intro
 | rule _ k ih => exact ih () a
 | «at» _ k ih => exact ih () a
 | load _ _ k ih => exact fun o => ih o (a o)
 | update _ _ g k ih => exact ⟨a.1, ih () a.2⟩
 | alloc _ k ih => exact fun o => ih o (a o)
 | loadIfAlive _ k ih => exact fun o => ih o (a o)
 | point _ k ih => exact ih () a
 | register _ k ih => exact True.intro
 | fresh k ih => exact fun o => ih o (a o)
 | ask k ih => exact fun o => ih o (a o)
 | choose _ _ k ih => exact fun o => ih o (a o)
 | os _ _ k ih => exact a.elim
 | call _ _ _ _ k ih => exact a.elim
 | handled _ k ih => exact fun o => ih o (a o)
 | newGen _ k ih => exact a.elim
 | genState _ k ih => exact a.elim
 | resume _ _ _ k ih => exact a.elim
 | yield _ _ _ k ih => exact True.intro
 | stack k ih => exact fun o => ih o (a o)
 | fork _ k ih => exact True.intro
 | thread k ih => exact fun o => ih o (a o)
 | await _ _ _ _ k ih => exact True.intro
theorem wq1 {α : Type} {M : Model} {Γ : PySem.Ctx} (t : Sem α) : ∀ {Q : α → Pos → Shared → Prop} {E : Value → Pos → Shared → Prop} {p : Pos} {s : Shared}, kd t → Sem.wp M Γ t Q E p s →
  Sem.wp M Γ t (fun a p' s' => Q a p' s' ∧ SameD s.heap s'.heap) (fun _ _ _ => False) p s := by
 induction t with
 | pure x => intro Q E p s _ h; exact ⟨h, .refl _⟩
 | raise _ => intro Q E p s a h; exact a.elim
 | unsupported _ => intro Q E p s _ h; exact h.elim
 | finish _ => intro Q E p s _ h; exact h.elim
 | rule _ k ih => intro Q E p s a h; exact ih () a h
 | «at» _ k ih => intro Q E p s a h; exact ih () a h
 | load _ _ k ih => intro Q E p s a h; obtain ⟨o, e, h⟩ := h; exact ⟨o, e, ih o (a o) h⟩
 | update x _ g k ih =>
  intro Q E p s a h
  obtain ⟨e, h⟩ := h
  exact ⟨e, Sem.wp_mono M Γ (k ()) (fun _ _ _ z => ⟨z.1, (SameD.upd _ _ a.1).trans z.2⟩) (fun _ _ _ z => z) _ _ (ih () a.2 h)⟩
 | alloc o k ih => intro Q E p s a h; exact Sem.wp_mono M Γ (k _) (fun _ _ _ z => ⟨z.1, (SameD.push _ _).trans z.2⟩) (fun _ _ _ z => z) _ _ (ih _ (a _) h)
 | loadIfAlive _ k ih => intro Q E p s a h; exact ih _ (a _) h
 | point _ k ih => intro Q E p s a h; exact ih () a h
 | register _ k ih => intro Q E p s _ h; exact h.elim
 | fresh k ih => intro Q E p s a h; exact ih _ (a _) h
 | ask k ih => intro Q E p s a h; exact ih _ (a _) h
 | choose _ _ k ih => intro Q E p s a h; exact ⟨h.1, ih _ (a _) h.2⟩
 | os _ _ k ih => intro Q E p s a h; exact a.elim
 | call _ _ _ _ k ih => intro Q E p s a h; exact a.elim
 | handled _ k ih => intro Q E p s a h; exact ih _ (a _) h
 | newGen _ k ih => intro Q E p s a h; exact a.elim
 | genState _ k ih => intro Q E p s a h; exact a.elim
 | resume _ _ _ k ih => intro Q E p s a h; exact a.elim
 | yield _ _ _ k ih => intro Q E p s a h; exact h.elim
 | stack k ih => intro Q E p s a h; exact ih _ (a _) h
 | fork _ k ih => intro Q E p s a h; exact h.elim
 | thread k ih => intro Q E p s a h; exact ih _ (a _) h
 | await _ _ _ _ k ih => intro Q E p s a h; exact h.elim
theorem iqV {α : Type} {M : Model} {A : Around} {t : Sem α} {Q : α → Shared → Prop} {E : Value → Shared → Prop} {s : Shared} (k : kd t) (h : wpAny M A t Q E s) : wpAny M A t (fun a s' => Q a s' ∧ SameD s.heap s'.heap) (fun _ _ => False) s :=
 fun Γ p hΓ => wq1 t k (h Γ p hΓ)
theorem oqx (v : Value) : kd (fieldsOf v) := by
 cases v <;> first | exact True.intro | (refine bqe (fun _ => True.intro) fun o => ?_; split <;> exact True.intro)
theorem jqY (v : Value) (i : Nat) : kd (field v i) := by
 refine bqe (oqx v) fun x => ?_
 split <;> exact True.intro
theorem hqW (v : Value) (i : Nat) (x : Value) : kd (setField v i x) := by
 cases v <;> first | exact True.intro | skip
 refine bqe (fun _ => True.intro) fun o => ?_
 split
 ·split
  ·refine ⟨fun o => ?_, True.intro⟩
   unfold Obj.mapFields
   first | rfl | (split <;> rfl) | (cases o; rename_i d _; cases d <;> rfl)
  ·exact True.intro
 ·exact True.intro
theorem gq2 (e : Value) (f : Option Addr) : kd (setFlight e f) := by
 refine bqe (jqY e 1) fun tb => ?_
 try dsimp only
 split
 ·exact hqW _ _ _
 ·exact True.intro
theorem hqG : ∀ l : List Env, kd (readyFrames l)
 | [] => True.intro
 | env :: outer => by
  unfold readyFrames
  split
  ·refine bqe (fun _ => True.intro) fun o => ?_
   try dsimp only
   split
   ·exact True.intro
   ·refine bqe ?_ fun im => ?_
    ·unfold behindIsImport
     try dsimp only
     split
     ·exact True.intro
     ·split
      ·exact True.intro
      ·exact bqe (jqY _ _) fun _ => True.intro
    ·refine bqe ?_ fun bk => ?_
     ·unfold keptBack
      split
      ·split
       ·exact True.intro
       ·exact bqe (bqe (fun _ => True.intro) fun _ => True.intro) fun _ => by split <;> exact True.intro
      ·exact True.intro
     ·exact bqe ⟨fun _ => rfl, True.intro⟩ fun _ => hqG outer
  ·exact True.intro
theorem pqM (env : Env) : kd (PySem.frameOf env) := by
 unfold PySem.frameOf
 refine bqe (bqe (fun _ => True.intro) fun _ => True.intro) fun l => bqe ?_ fun r => ?_
 ·unfold frameObject
  split
  ·exact True.intro
  ·exact bqe (hqG _) fun _ => True.intro
 ·split <;> exact True.intro
theorem nql (ty : String) (vs : List Value) : kd (newFields ty vs) := by
 unfold newFields newObj newObjAsIs
 try dsimp only
 split
 ·exact True.intro
 ·exact fun _ => True.intro
theorem jqn (e : Value) (env : Env) : kd (noteFrame e env) := by
 unfold noteFrame
 split
 ·refine bqe (jqY e 1) fun hd => ?_
  try dsimp only
  have rest : ∀ (x : Unit) (f : Addr) (hd : Value), kd (do setField e 1 (← EntryCells.newEntry hd (← PySem.frameOf env) .none (rawInt f) .none (← entryPlaceOf f (hd != .none))) : Sem Unit) := fun _ f hd => by
   refine bqe (pqM env) fun _ => bqe ?_ fun _ => bqe ?_ fun _ => hqW _ _ _
   ·unfold entryPlaceOf
    refine bqe (fun _ => True.intro) fun acts => ?_
    split <;> exact True.intro
   ·unfold EntryCells.newEntry
    exact nql _ _
  split
  ·refine bqe (jqY _ _) fun g => ?_
   try dsimp only
   split
   ·exact True.intro
   ·exact bqe (hqW _ _ _) fun _ => rest () _ _
  ·exact rest () _ _
 ·exact True.intro
theorem lqT (env : Env) (e : Value) : kd (leaving env e) := bqe (jqn e env) fun _ => gq2 e none
end L2
namespace L2
open PySem PySem.Spec PySem.W PySem.Calls PyProof.Rows PySem.Builtin PySem.Builtin.ObjectAttr
def errTail : List Value → Bool
 | .ref _ :: r => errTail r
 | l => l == vErr
theorem lqO (self : Value) : ∀ {l : List Value}, errTail l = true → refuseLoop self "__setattr__" l = pure ()
 | [], e => by cases e
 | v :: r, e => by
  cases v <;> first | (rw [refuseLoop_ref]; exact lqO self (by unfold errTail at e; exact e)) | (rw [show (_ :: r) = vErr from beq_iff_eq.mp e]; exact PySem.F.store_ValueError.passes self)
theorem rqr : ∀ {l : List Value}, errTail l = true → l.contains (.type "object") = true
 | [], e => by cases e
 | v :: r, e => by
  cases v <;> first | (rw [List.contains_cons, rqr (l := r) (by unfold errTail at e; exact e), Bool.or_true]) | (rw [show (_ :: r) = vErr from beq_iff_eq.mp e]; decide +kernel)
def overErr (K : Frag) (C : Addr) : Bool := (clsIn K C).any fun cd => errTail cd.mro
section
variable {prog : Program} {w : World} {A : Around} {E : Value → Shared → Prop} {s : Shared} {K : Frag} {x C : Addr} {name : Str} {v : Value} {ox : Obj} {od : Option Obj}
theorem uq3 {tk : Tok} {R : Result → Shared → Prop} (X : K.In s.heap) (I : PySem.W.InstAt s.heap x ox C od) (hp : overErr K C = true) (ht : takerIn K C name = some none)
  (h : ∀ b, wpAny (model prog w) A.in1 (storeInOwnDict (.ref x) (.ref C) (.str name tk) name v b)
   (fun fin s' => match fin with | .done f => R (.ok f) s' | .again c' => c'.quiet = true ∧ codeAny (model prog w) A c' R s') (fun e s' => R (.error e) s') s) :
  codeAny (model prog w) A (.call (.builtin "object.__setattr__") ⟨[.ref x, .str name tk, v], []⟩) R s := by
 have SF := PySem.F.store_object
 obtain ⟨cd, hc, ho⟩ := any_some hp
 have ne : cd.mro.isEmpty = false := by cases q : cd.mro with | nil => rw [q] at ho; cases ho | cons _ _ => rfl
 have sub : Looks (model prog w) s.heap (isInstance (.ref x) (.type "object")) true := I.type.andThen (looks_mroIn X (by unfold mroIn; rw [hc, Option.bind_some, if_neg (by rw [ne]; decide), rqr ho]))
 refine codeAny_call_builtin SF.slot.plain SF.entry (@check_slot (model prog w) _ _ s "object.__setattr__" "object" "__setattr__" (.ref x) [.str name tk, v] [] _ SF.kind SF.split sub (SF.args (.ref x) (.str name tk) v) ?_)
 obtain ⟨attr, ha, hr⟩ := Option.bind_eq_some_iff.mp ht
 have hm : Looks (model prog w) s.heap (mroOf (.ref C)) cd.mro := (looks_clsIn X hc).andThen .now
 have L3 : Looks (model prog w) s.heap (storeTaker? attr) none := by
  cases attr with
  | none => exact .now
  | some a =>
   obtain ⟨b, hb, hbn⟩ := Option.map_eq_some_iff.mp hr
   refine (looks_takesIn X hb).andThen ?_
   cases b with
   | true => cases hbn
   | false => exact .now
 rw [osa_eq, refuse_eq]
 refine wpAny_bind (wpAny_bind (I.type.here (wpAny_bind (hm.here ?_))))
 rw [lqO _ ho]
 refine wpAny_pure (wpAny_bind (I.type.here (wpAny_bind ((looks_findIn X ha).here (wpAny_bind (L3.here ?_))))))
 exact h _
theorem tq8 {Q : Unit → Shared → Prop} (X : K.In s.heap) (hx : s.heap.get? x = some ox) (hc : ox.cls = .ref C) (hd : ox.dict = none) (hn : notCls ox = true)
  (hs : findIn K (.ref C) "__setattr__" = some (some (.builtin "object.__setattr__"))) (hp : overErr K C = true) (ht : takerIn K C name = some none) (hh : hasDictIn K C = true)
  (h : ∀ h' tk, h'.get? x = some { ox with dict := some s.heap.objs.size } → h'.Ns1 s.heap.objs.size (fun y => if y = name then some v else none) → (∀ b o, b ≠ x → s.heap.get? b = some o → h'.get? b = some o) → Q () { s with heap := h', toks := tk }) :
  wpAny (model prog w) A (setAttr (.ref x) name v) Q E s := by
 have J : PySem.W.InstAt s.heap x ox C none := ⟨hx, hc, hn, by rw [hd]; exact True.intro⟩
 refine PySem.W.set_plain X J hs (uq3 (s := { s with toks := s.toks + 1 }) X J hp ht fun b => ?_)
 obtain ⟨cd, hcd, hd'⟩ := any_some hh
 obtain ⟨oc, odi, oda, osl⟩ := ox
 dsimp only at hc hd
 subst hc hd
 refine wpAny_bind (wpAny_pure (wpAny_bind (wpAny_bind (wpAny_loadPart hx (wpAny_bind (Looks.here (s := { s with toks := s.toks + 1 }) (looks_clsIn X hcd) ?_))))))
 rw [hd']
 have nc : ∀ c, oda ≠ .cls c := fun c q => by subst q; cases hn
 have hx₁ : (s.heap.push { cls := .type "dict", data := .dict #[] }).get? x = some ⟨.ref C, none, oda, osl⟩ := Heap.get?_push_of_some _ hx
 have hxs : x ≠ s.heap.objs.size := Nat.ne_of_lt (Heap.lt_size hx)
 have hgd : ((s.heap.push { cls := .type "dict", data := .dict #[] }).update x fun o => { o with dict := some s.heap.objs.size }).get? s.heap.objs.size = some { cls := .type "dict", data := .dict #[] } :=
  (Heap.get?_update_ne _ _ _ _ hxs.symm).trans (Heap.get?_push_at rfl rfl)
 have hnd : ((s.heap.push { cls := .type "dict", data := .dict #[] }).update x fun o => { o with dict := some s.heap.objs.size }).Ns s.heap.objs.size (fun _ => none) :=
  ⟨_, #[], _, hgd, rfl, fun e he => absurd he (by simp), fun _ => rfl⟩
 have fin : wpAny (model prog w) A.in1 (storeInDict s.heap.objs.size (.str name (s.toks)) name v)
   (fun fin s' => match fin with | .done f => (match (Except.ok f : Result) with | .ok (.ret _) => Q () s' | .ok _ => False | .error e => E e s') | .again c' => c'.quiet = true ∧ codeAny (model prog w) A c' (fun r s' => match r with | .ok (.ret _) => Q () s' | .ok _ => False | .error e => E e s') s') (fun e s' => E e s')
   { s with heap := ((s.heap.push { cls := .type "dict", data := .dict #[] }).update x fun o => { o with dict := some s.heap.objs.size }), toks := s.toks + 1 } := by
  unfold storeInDict newKeyGuard
  refine wpAny_bind (wpAny_pure (wpAny_bind (wpAny_nsSet1 (s := { s with heap := ((s.heap.push { cls := .type "dict", data := .dict #[] }).update x fun o => { o with dict := some s.heap.objs.size }), toks := s.toks + 1 }) (Heap.Ns1.of_empty hnd) fun h' hn' hs' => ?_)))
  obtain ⟨oD, esD, epD, hoD, hdD, hcD⟩ := hn'.count (Within.cons name v Within.nil)
  refine wpAny_bind (wpAny_lookBehind hoD (by rw [hdD]; exact pastItsLine_dict (Nat.le_trans hcD (by rw [List.length_cons, List.length_nil, sizeLine_eq]; omega))) ?_)
  refine wpAny_pure (h h' _ ?_ hn' fun b o hb e => ?_)
  ·refine (hs'.2 x hxs).trans (Heap.get?_update_self _ hx₁ ?_)
   have hfr := (Heap.get?_some_iff.mp hx).2
   cases oda <;> first | rfl | exact hfr
  ·exact (hs'.2 b (Nat.ne_of_lt (Heap.lt_size e))).trans ((Heap.get?_update_ne _ _ _ _ hb).trans (Heap.get?_push_of_some _ e))
 cases oda <;> first | exact absurd rfl (nc _) | exact wpAny_bind (wpAny_alloc' (wpAny_bind (wpAny_update' hx₁ (wpAny_pure fin))))
end
end L2
namespace L2
open PySem PySem.Spec PySem.W PySem.Calls PyProof.Rows
def excInI (K : Frag) (C : Addr) (bmB : List Value) (newId : String) (fI : Addr) : Bool := match K.lookup C with
 | some o => (match o.data with
  | .cls cd => o.cls == .type "type" && cd.mro.head? == some (.ref C) && o.slots.size == 6 && o.slots[4]? == some (some (.builtin newId)) && !cd.hasDel && tailIn K bmB cd.mro.tail && nsOkIn K cd.ns && nsIn K cd.ns "__init__" == some (some (.ref fI))
  | _ => false)
 | _ => false
theorem uqy {K : Frag} {h : Heap} {N : Addr} {m : Str → Option Value} {n : Str} {v : Value} (X : K.In h) (G : h.Ns N m) (e : nsIn K N n = some (some v)) : m n = some v := by
 obtain ⟨o, es, ep, ho, hd, _, hf⟩ := G
 unfold nsIn at e
 split at e
 ·next q =>
  have := X _ _ q
  rw [ho] at this
  cases this
  cases hd
  split at e
  ·next he =>
   cases e
   rw [← hf]
   unfold nsFind findBy
   rw [← Array.find?_toList, he]
   rfl
  ·split at e <;> cases e
 ·cases e
theorem excObjI {K : Frag} {h : Heap} {C fI : Addr} {bb : List Value} {nid : String} (kin : K.In h) (q : excInI K C bb nid fI = true) :
  ∃ tl N nm qn bs hd sn sub ab col dd k0 k1 k2 k3 k5, h.get? C = some (excClassObj nm qn C N bs tl hd sn sub ab col dd k0 k1 k2 k3 k5 nid) ∧ (∃ mN, h.Ns N mN ∧ mN "__init__" = some (.ref fI)) ∧ OwnTail h bb tl := by
 unfold excInI at q
 generalize lk : K.lookup C = r at q
 obtain _ | ⟨cl, dd, dat, ⟨sl⟩⟩ := r
 ·cases q
 cases dat <;> first | cases q | skip
 next cd =>
 simp only [beq_iff_eq, Bool.and_eq_true, Bool.not_eq_true'] at q
 obtain ⟨⟨⟨⟨⟨⟨⟨rfl, e0⟩, e1⟩, e2⟩, e3⟩, e4⟩, e5⟩, e6⟩ := q
 obtain ⟨nm, bs, mro, ns, qn, hd, sn, sub, ab, col, del⟩ := cd
 cases e3
 obtain _ | ⟨m0, tl⟩ := mro
 ·cases e0
 cases e0
 obtain _ | ⟨a0, _ | ⟨a1, _ | ⟨a2, _ | ⟨a3, _ | ⟨a4, _ | ⟨a5, _ | ⟨a6, l⟩⟩⟩⟩⟩⟩⟩ := sl <;> first | cases e1 | skip
 cases e2
 exact ⟨tl, ns, nm, qn, bs, hd, sn, sub, ab, col, dd, a0, a1, a2, a3, a5, kin _ _ lk, ⟨_, .of_isNs (isNs_of_in kin e5), uqy kin (.of_isNs (isNs_of_in kin e5)) e6⟩, tail_of_in kin e4⟩
abbrev newExc (C t : Addr) : Obj := { cls := .ref C, data := .fields #[.ref t, .none, .none, .none, .bool false, .none] }
abbrev newTup (vs : List Value) : Obj := { cls := .type "tuple", data := .seq vs.toArray }
section
variable {prog : Program} {w : World} {A : Around} {E : Value → Shared → Prop} {h : Heap} {g : Array GenState} {d : Drawn} {t : Nat} {os : OsState}
variable {nm q : Str} {C N : Addr} {bs bm bmB : List Value} {hdct : Bool} {sn : List Str} {sub : List Value} {ab : Bool} {col : Option Bool} {dd : Option Addr} {k0 k1 k2 k3 k5 : Option Value} {B newId initId : String}
theorem lql (F : ExcBaseFacts B newId initId bmB) (T : OwnTail h bmB bm) {mN : Str → Option Value} {rest : List Value} {fI : Addr} {oI : Obj} {Q : Fin → Shared → Prop}
  (hC : h.get? C = some (excClassObj nm q C N bs bm hdct sn sub ab col dd k0 k1 k2 k3 k5 newId)) (hn : h.Ns N mN) (hi : mN "__init__" = some (.ref fI))
  (hfI : h.get? fI = some oI) (hfc : oI.cls = .type "function")
  (hq : wpAny (model prog w) A (call (.ref fI) (.ref (h.objs.size + 1) :: rest)) (fun r s' => r = .none ∧ Q (.done (.ret (.ref (h.objs.size + 1)))) s') E ⟨(h.push (newTup rest)).push (newExc C h.objs.size), g, d, t, os⟩) (hrest : rest.length ≤ sizeLine) :
  wpAny (model prog w) A (Builtin.«type.__call__» ⟨.ref C :: rest, []⟩) Q E ⟨h, g, d, t, os⟩ := by
 repeat (first | with_reducible refine wpAny_loadPart_at hC ?_ | with_reducible refine wpAny_madeBy_exc hC ?_ | wp_step)
 refine codeAny_call_builtin_code (Code.quiet_builtin _ F.quiet) (wpAny_check_new_subU F F.hasB T hC ?_)
 refine codeAny_exc_new_subU F F.hasB F T hC ?_ hrest
 show wpAny _ _ _ _ _ _
 have kp : ∀ b o, h.get? b = some o → ((h.push (newTup rest)).push (newExc C h.objs.size)).get? b = some o := fun b o e => Heap.get?_push_of_some _ (Heap.get?_push_of_some _ e)
 have hC₁ := kp _ _ hC
 have hfI₁ := kp _ _ hfI
 have hn₁ : ((h.push (newTup rest)).push (newExc C h.objs.size)).Ns N mN := hn.keeps kp
 have hget : ((h.push (newTup rest)).push (newExc C h.objs.size)).get? (h.objs.size + 1) = some (newExc C h.objs.size) := by heap_get
 have hcC : (Value.ref C :: bm).contains (.ref C) = true := by simp
 have T₁ := T.keeps kp
 unfold isInstance
 repeat (first | with_reducible refine wpAny_loadPart_at hget ?_ | (with_reducible refine wpAny_isSubtype_exc hC₁ ?_; rw [hcC]) | wp_step)
 show wpAny _ _ (typeLookup (.ref C) _) _ _ _
 refine wpAny_typeLookup_tail hC₁ hn₁ T₁ F.mroIs F.init.lookup ?_
 rw [hi]
 refine wpAny_holding (wpAny_bind ?_)
 unfold bindSpecial
 refine wpAny_bind (wpAny_typeOf (T := "function") ⟨_, hfI₁, hfc⟩ ?_)
 rw [if_pos (by decide)]
 refine wpAny_pure (wpAny_bind (wpAny_mono hq (fun r s' hr => ?_) fun _ _ x => x))
 obtain ⟨rfl, hQ⟩ := hr
 wp_walk
 exact hQ
theorem rqq (F : ExcBaseFacts B newId initId bmB) (T : OwnTail h bmB bm) {mN : Str → Option Value} {rest : List Value} {fI : Addr} {oI : Obj} {Q : Value → Shared → Prop}
  (hC : h.get? C = some (excClassObj nm q C N bs bm hdct sn sub ab col dd k0 k1 k2 k3 k5 newId)) (hn : h.Ns N mN) (hi : mN "__init__" = some (.ref fI))
  (hfI : h.get? fI = some oI) (hfc : oI.cls = .type "function")
  (hq : wpAny (model prog w) (A.under (.builtin "type.__call__" ⟨.ref C :: rest, []⟩)) (call (.ref fI) (.ref (h.objs.size + 1) :: rest)) (fun r s' => r = .none ∧ Q (.ref (h.objs.size + 1)) s') E ⟨(h.push (newTup rest)).push (newExc C h.objs.size), g, d, t, os⟩) (hrest : rest.length ≤ sizeLine) :
  wpAny (model prog w) A (call (.ref C) rest) Q E ⟨h, g, d, t, os⟩ := by
 have f1 := tc_lookup
 have f2 := tc_bind (.ref C)
 have hT : (⟨h, g, d, t, os⟩ : Shared).TypeIs (.ref C) "type" := ⟨_, hC, rfl⟩
 refine wpAny_call (codeAny_of_tree ?_)
 show wpAny _ _ (callAny (.ref C) _) _ _ _
 repeat (any_goals (first | assumption | with_reducible refine wpAny_loadPart_at hC ?_ | wp_step))
 refine ⟨rfl, ?_⟩
 exact codeAny_call_builtin_at (Code.quiet_builtin _ (by decide +kernel)) entry_typeCall (wpAny_check_type_call_sub hC (lql (hrest := hrest) F T hC hn hi hfI hfc hq))
theorem mqK {M : Model} {s : Shared} {env : Env} {x : Sem Value} {Q : Flow → Shared → Prop} (hbase : bm.contains (.type "BaseException") = true) (hh : A.handled = none)
  (h : wpAny M A x (fun v s₁ => ∃ e t dx sl, v = .ref e ∧ s₁.heap.get? C = some (excClassObj nm q C N bs bm hdct sn sub ab col dd k0 k1 k2 k3 k5 newId) ∧
   s₁.heap.get? e = some ⟨.ref C, dx, .fields #[.ref t, .none, .none, .none, .bool false, .none], sl⟩ ∧ E (.ref e) s₁) E s) :
  wpAny M A (raiseStmt env (some x) none) Q E s := by
 have hcB : (Value.ref C :: bm).contains (.type "BaseException") = true := by rw [List.contains_cons, hbase, Bool.or_true]
 unfold raiseStmt
 refine wpAny_bind (wpAny_mono h (fun v s₁ h₁ => ?_) fun _ _ x => x)
 obtain ⟨e, t, dx, sl, rfl, hC, he, hE⟩ := h₁
 obtain ⟨hp, g, d, tk, os⟩ := s₁
 repeat (first | with_reducible refine wpAny_loadPart_at he ?_ | with_reducible refine wpAny_loadPart_at hC ?_ | (with_reducible refine wpAny_isSubtype_exc hC ?_; rw [hcB]) | wp_step)
 exact wpAny_raiseNew_none hh hE
end
def exNew (e C : Addr) : HO := .ext fun h => ∃ t sl, h.get? e = some ⟨.ref C, none, .fields #[.ref t, .none, .none, .none, .bool false, .none], sl⟩
def exSet (e C d : Addr) : HO := .ext fun h => ∃ t sl, h.get? e = some ⟨.ref C, some d, .fields #[.ref t, .none, .none, .none, .bool false, .none], sl⟩
def exC (a C : Addr) (d : Option Addr) : HO := .ext fun h => ∃ o, h.get? a = some o ∧ o.cls = .ref C ∧ (∀ x, d = some x → o.dict = some x) ∧ notCls o = true
structure ExSt (K : Frag) (C : Addr) (f : Str) : Prop where
 sa : findIn K (.ref C) "__setattr__" = some (some (.builtin "object.__setattr__"))
 po : overErr K C = true
 na : findIn K (.ref C) f = some none
 hd : hasDictIn K C = true
def sFldE (K : Frag) (ta tv : TE) (f : Str) : TS := fun D σ H => tv σ H fun y H1 => ta σ H1 fun x H2 => ∃ a C, x = .ref a ∧ H2 a = some (exNew a C) ∧ ExSt K C f ∧ ∀ d, H2 d = none → D.nx σ (upd (upd H2 a (exSet a C d)) d (.xd [(f, y)]))
section
variable {X : Cx} {ta tv : TE} {o value : Expr} {f : Str} {pos pos' : Pos}
theorem uqb (ha : PE X o ta) (hv : PE X value tv) (hs : swapsWith value (some (.Attribute o f pos')) pos.line X.env = pure false) : PS X (.Assign [.Attribute o f pos'] value pos) (sFldE X.K ta tv f) := by
 intro pins s σ H D I h
 refine plainObj_wpAny_Assign_Attribute (thn (hv pins s σ H _ I h) fun u s1 ⟨y, H1, I1, ry, q⟩ => thn (ha pins s1 σ H1 _ I1 q) fun ov s2 W' => ?_) hs
 obtain ⟨x, H2, I2, rx, a, C, ex, ea, c, q2⟩ := W'
 subst ex
 obtain rfl : ov = Value.ref a := rx
 obtain ⟨⟨t, sl, hx⟩, _, _⟩ := I2.hok a _ ea
 refine tq8 I2.kIn hx rfl rfl rfl c.sa c.po (NoAttr.taker (show NoAttr X.K C f from c.na)) c.hd fun h' tk e1 e2 e3 => ?_
 have hd : H2 s2.heap.objs.size = none := I2.hok.fresh (Nat.le_refl _)
 have na : ∀ b u, H2 b = some u → u ≠ exNew a C → b ≠ a := fun b u q n z => by subst z; rw [ea] at q; exact n (Option.some.inj q).symm
 have nd : ∀ b u, s2.heap.get? b = some u → b ≠ s2.heap.objs.size := fun b u q => Nat.ne_of_lt (Heap.lt_size q)
 have nf : ∀ b, H2 b = none → b ≠ a := fun b q z => by subst z; rw [ea] at q; cases q
 have ndh : ∀ b u, H2 b = some u → b ≠ s2.heap.objs.size := fun b u q => aqr q hd
 refine ⟨σ, upd (upd H2 a (exSet a C s2.heap.objs.size)) s2.heap.objs.size (.xd [(f, y)]), I2.un (t' := tk) ⟨fun b ob q n _ _ => e3 b ob (nf b n) q, fun b ob q n _ _ => ⟨ob.slots, e3 b ob (nf b n) q⟩, fun b ob q n _ => ?_, fun b ob q _ => ?_, fun b xs q => ?_, fun b ob u q => ?_, fun b ps q => ?_⟩ (fun b u q => ?_), q2 _ hd⟩
 ·rw [aqv (nd b ob q), aqv (nf b n)]; exact n
 ·by_cases z : b = a
  ·subst z; exact ⟨_, e1⟩
  ·exact ⟨ob, e3 b ob z q⟩
 ·rw [aqv (ndh b _ q), aqv (na b _ q (by intro z; cases z))]; exact q
 ·rw [aqv (ndh b _ q), aqv (na b _ q (by intro z; cases z))]; exact q
 ·exact ⟨#[], by rw [aqv (ndh b _ q), aqv (na b _ q (by intro z; cases z)), Array.append_empty]; exact q⟩
 ·by_cases zd : b = s2.heap.objs.size
  ·subst zd
   rw [aqw] at q
   cases q
   refine ⟨_, e2, fun g => ?_⟩
   by_cases z : g = f
   ·subst z
    rw [if_pos rfl]
    simp only [List.lookup, beq_self_eq_true]
    exact ry
   ·rw [if_neg z]
    simp only [List.lookup, beq_eq_false_iff_ne.mpr z]
    exact True.intro
  ·rw [aqv zd] at q
   by_cases za : b = a
   ·subst za
    rw [aqw] at q
    cases q
    exact ⟨⟨t, sl, e1⟩, ⟨_, e1⟩, fun h1 h2 ⟨t, sl, z⟩ k => ⟨t, sl, k _ z⟩⟩
   ·rw [aqv za] at q
    refine (I2.hok b u q).stay (fun c v hc z => e3 c v ?_ z) (fun c z => ?_) fun c xs z => ?_
    ·rcases hc with rfl | hc
     ·exact za
     ·exact na c _ hc (by intro z; cases z)
    ·rw [aqv (ndh c _ z), aqv (na c _ z (by intro z; cases z))]; exact z
    ·rw [aqv (ndh c _ z), aqv (na c _ z (by intro z; cases z))]; exact z
theorem vqo {K : Frag} {D : Ends} {σ : St} {H : Hp} : (sFldE K ta tv f D σ H) = (tv σ H fun y H1 => ta σ H1 fun x H2 => ∃ a C, x = .ref a ∧ H2 a = some (exNew a C) ∧ ExSt K C f ∧ ∀ d, H2 d = none → D.nx σ (upd (upd H2 a (exSet a C d)) d (.xd [(f, y)]))) := rfl
end
def forget (H : Hp) (a : Addr) : Hp := fun b => if b = a then none else H b
theorem oqd {H : Hp} {a : Addr} : forget H a a = none := if_pos rfl
theorem cq0 {H : Hp} {a b : Addr} (h : b ≠ a) : forget H a b = H b := if_neg h
structure FlownN (P : Program) (w : World) (base : Heap) (outer : List Env) (H : Hp) (s : Shared) (a t C : Addr) (d : Option Addr) (B : Heap) (H' : Hp) (s' : Shared) : Prop where
 f : Flown P w base outer H s a t C B H' s'
 dc : ∀ x, d = some x → ∃ oe, s'.heap.get? a = some oe ∧ oe.dict = some x
def CXN (P : Program) (w : World) (base : Heap) : CXT := fun outer H s E e s' => ∃ (a t C : Addr) (d : Option Addr) (B : Heap) (H' : Hp), e = .ref a ∧ E (.ref C) d H' ∧ FlownN P w base outer H s a t C d B H' s'
theorem Inv.xe {X : Cx} {pins : List (Addr × Obj)} {σ : St} {H : Hp} {s : Shared} (y : Value → Shared → Prop) (I : Inv X pins σ H s) : Inv { X with xe := y } pins σ H s :=
 ⟨⟨I.ok.mod, I.ok.kind, I.ok.glob, I.ok.blt, I.ok.above, I.ok.inj, I.ok.has, I.ok.cab, I.ok.hd, I.ok.frames, I.ok.stk, I.ok.exf, I.ok.bs, I.ok.bsz, I.ok.noex, I.ok.exfs, I.ok.funs, I.ok.frf⟩, I.os, I.bare, I.base, I.loc, I.cell, I.free, I.freeC, I.pin, I.hok, I.len⟩
section
variable {P : Program} {w : World} {K : Frag} {mg : Str → Option Value} {base : Heap} {N : List Str} {qual : Str} {scope : Scope} {f : Addr} {cd : Value} {A : Around} {outer : List Env} {s : Shared} {H : Hp} {E : XK}
theorem aqO : Passes (CXN P w base) (cxOf (CXN P w base) P w K mg base N qual scope f cd A outer s H E) E := by
 intro pins σ H1 s1 e s2 I hq
 obtain ⟨a, t, C, d, B, H2, rfl, hE, W⟩ := hq
 have I' : Inv (cxOf (CXE P w base) P w K mg base N qual scope f cd A outer s H fun c _ H' => E c d H') pins σ H1 s1 := I.xe _
 have z := qq5 (E := fun c _ H' => E c d H') pins σ H1 s1 (.ref a) s2 I' ⟨a, t, C, B, H2, rfl, hE, W.f⟩
 refine wpAny_mono (iqV (lqT _ _) z) (fun _ s3 W' => ?_) fun _ _ z => z.elim
 obtain ⟨⟨a', t', C', B', H', ea, hE', W'⟩, sd⟩ := W'
 cases ea
 refine ⟨a, t', C', d, B', H', rfl, hE', W', fun x hx => ?_⟩
 obtain ⟨oe, ho, hd⟩ := W.dc x hx
 obtain ⟨ob, hob, _⟩ := W'.fly.there
 exact ⟨ob, hob, (sd.get ho hob).trans hd⟩
def Raises1 (X : Cx) (E : XK) : Prop := ∀ (pins : List (Addr × Obj)) (σ : St) (H : Hp) (s : Shared) (a C d : Addr), Inv X pins σ H s → H a = some (exSet a C d) → X.s₀.heap.objs.size ≤ a → E (.ref C) (some d) (forget H a) → X.xe (.ref a) s
theorem eqH : Raises1 (cxOf (CXN P w base) P w K mg base N qual scope f cd A outer s H E) E := by
 intro pins σ H1 s1 e C d I ha hsz hE
 have hf : (envOfC qual scope s.heap.objs.size f cd).frame = some s.heap.objs.size := rfl
 have stk : s1.heap.FunFrames base (envOfC qual scope s.heap.objs.size f cd :: outer) := I.stack
 have stf : ∀ b ∈ frs (envOfC qual scope s.heap.objs.size f cd :: outer), H1 b = none := I.stkFree
 have ib : Un (frs outer) [] H H1 s.heap s1.heap := I.base
 obtain ⟨⟨t, sl, he⟩, _, _⟩ := I.hok e _ ha
 have hsz' : s.heap.objs.size ≤ e := hsz
 have nde : ∀ b o, s.heap.get? b = some o → b ≠ e := fun b o q => Nat.ne_of_lt (Nat.lt_of_lt_of_le (Heap.lt_size q) hsz')
 have ne : ∀ b o, s.heap.get? b = some o → b ∉ frs outer → b ∉ e :: frs (envOfC qual scope s.heap.objs.size f cd :: outer) := fun b o q n z => by
  rcases List.mem_cons.mp z with z | z
  ·exact nde b o q z
  ·rcases (iqP hf).mp z with z | z
   ·exact absurd (Heap.lt_size q) (by rw [z]; exact Nat.lt_irrefl _)
   ·exact n z
 have eN : e ∉ frs (envOfC qual scope s.heap.objs.size f cd :: outer) := fun z => by rw [stf e z] at ha; cases ha
 show wpAny (model P w) (A.deeper (envOfC qual scope s.heap.objs.size f cd)) (leaving (envOfC qual scope s.heap.objs.size f cd) (.ref e)) _ _ _
 have kB : Heap.StaysIn (hideAll s1.heap (e :: frs (envOfC qual scope s.heap.objs.size f cd :: outer))) s1.heap := fun b o q => of_hideAll _ q
 refine wpAny_mono (iqV (lqT _ _) (wpAny_leaving_firstW (E := fun _ _ => False) (Q := fun _ s3 => ∃ h', s3 = { s1 with heap := h' } ∧ Heap.LeftW (hideAll s1.heap (e :: frs (envOfC qual scope s.heap.objs.size f cd :: outer))) (envOfC qual scope s.heap.objs.size f cd :: outer) e (.ref C) (.ref t) s1.heap h')
  (base := hideAll s1.heap (e :: frs (envOfC qual scope s.heap.objs.size f cd :: outer))) (oe := ⟨.ref C, some d, .fields #[.ref t, .none, .none, .none, .bool false, .none], sl⟩) (a0 := .ref t) I.ok.frames
  (funFrames_hide stk fun env he b hb => List.mem_cons_of_mem _ (List.mem_filterMap.mpr ⟨env, he, hb⟩)) hf he kB (hideAll_none _ (.head _)) rfl rfl rfl fun h' L => ⟨h', rfl, L⟩)) (fun _ s3 ⟨⟨h2, es3, L⟩, sd⟩ => ?_) fun _ _ z => z.elim
 subst es3
 obtain ⟨x1, ⟨_, _, x2⟩, x3, x4⟩ := L
 have keepB : ∀ b o, s.heap.get? b = some o → H b = none → b ∉ frs outer → (hideAll s1.heap (e :: frs (envOfC qual scope s.heap.objs.size f cd :: outer))).get? b = some o := fun b o q n nf =>
  hideAll_get _ (ib.keep b o q n nf (by simp)) (ne b o q nf)
 have thB : ∀ b o, s.heap.get? b = some o → b ∉ frs outer → ∃ o', (hideAll s1.heap (e :: frs (envOfC qual scope s.heap.objs.size f cd :: outer))).get? b = some o' := fun b o q nf => by
  obtain ⟨o', z⟩ := ib.there b o q (by simp)
  exact ⟨o', hideAll_get _ z (ne b o q nf)⟩
 have slotF : ∀ b, b ∈ frs outer → ∀ o, s1.heap.get? b = some o → ∃ sl, h2.get? b = some { o with slots := sl } := fun b hb o q => by
  obtain ⟨_, o2, q2, nd⟩ := stk.mem ((iqP hf).mpr (.inr hb))
  rw [q] at q2
  cases q2
  exact x4 b o q nd
 have fly : Heap.FlyingW (hideAll s1.heap (e :: frs (envOfC qual scope s.heap.objs.size f cd :: outer))) outer e (.ref C) (.ref t) h2 := ⟨x1, hideAll_none _ (.head _), x2, x3⟩
 have nee : ∀ b u, H1 b = some u → u ≠ exSet e C d → b ≠ e := fun b u q n z => by subst z; rw [ha] at q; exact n (Option.some.inj q).symm
 refine ⟨e, t, C, some d, _, forget H1 e, rfl, hE, ⟨I.os, I.bare, fun b o q => ?_, fly, fun a u q => ?_, ⟨fun b o q n nf _ => x1 b o (keepB b o q n nf), fun b o q n hb _ => ?_, fun b o q n hx => ?_, fun b o q _ => ?_, fun b xs q => ?_, fun b o u q => ?_, fun b ps q => ?_⟩, keepB, thB⟩, fun x hx => ?_⟩
 ·refine hideAll_get _ (I.bk b o q) fun z => ?_
  rcases List.mem_cons.mp z with z | z
  ·exact absurd (Nat.lt_of_lt_of_le (Heap.lt_size q) (Nat.le_trans I.ok.bsz hsz')) (by rw [z]; exact Nat.lt_irrefl _)
  ·rw [(stk.mem z).1] at q; cases q
 ·by_cases z : a = e
  ·subst z; rw [oqd] at q; cases q
  ·rw [cq0 z] at q
   refine (I.hok a u q).stay (fun b v hb y => hideAll_get _ y fun m => ?_) (fun b y => ?_) fun b xs y => ?_
   ·rcases List.mem_cons.mp m with m | m
    ·rcases hb with rfl | hb
     ·exact z m
     ·exact nee b _ hb (by intro y; cases y) m
    ·have := stf b m
     rcases hb with rfl | hb
     ·rw [q] at this; cases this
     ·rw [hb] at this; cases this
   ·rw [cq0 (nee b _ y (by intro y; cases y))]; exact y
   ·rw [cq0 (nee b _ y (by intro y; cases y))]; exact y
 ·obtain ⟨sl, z⟩ := ib.slot b o q n hb (by simp)
  obtain ⟨sl', z'⟩ := slotF b hb _ z
  exact ⟨sl', z'⟩
 ·rw [cq0 (nde b o q)]
  exact ib.free b o q n hx
 ·by_cases hb : b ∈ frs outer
  ·obtain ⟨o', z⟩ := ib.there b o q (by simp)
   obtain ⟨sl', z'⟩ := slotF b hb _ z
   exact ⟨_, z'⟩
  ·obtain ⟨o', z⟩ := thB b o q hb
   exact ⟨o', x1 b o' z⟩
 ·have z := ib.tups b xs q
  rw [cq0 (nee b _ z (by intro y; cases y))]; exact z
 ·have z := ib.frzs b o u q
  rw [cq0 (nee b _ z (by intro y; cases y))]; exact z
 ·obtain ⟨m, z⟩ := ib.tbls b ps q
  exact ⟨m, by rw [cq0 (nee b _ z (by intro y; cases y))]; exact z⟩
 ·cases hx
  obtain ⟨ob, hob, _⟩ := fly.there
  exact ⟨ob, hob, sd.get he hob⟩
end
structure Mk1 (K : Frag) (C f : Addr) : Prop where
 ex : excInI K C vErr vNew f = true
 fn : isFn K (.ref f) = true
 kp : keepIn K (.ref C) = true
def tRaise1 (E : XK) (C : Addr) (sp : Sp) (t : TA) : TS := fun _ σ H => t σ H fun vs H1 => ∀ a, H1 a = none → sp (.ref a :: vs) (upd H1 a (exNew a C)) (fun v H2 => v = .non ∧ ∃ d, H2 a = some (exSet a C d) ∧ E (.ref C) (some d) (forget H2 a)) E0
theorem qqz {E : XK} {C : Addr} {sp : Sp} {t : TA} {D : Ends} {σ : St} {H : Hp} : (tRaise1 E C sp t D σ H) = (t σ H fun vs H1 => ∀ a, H1 a = none → sp (.ref a :: vs) (upd H1 a (exNew a C)) (fun v H2 => v = .non ∧ ∃ d, H2 a = some (exSet a C d) ∧ E (.ref C) (some d) (forget H2 a)) E0) := rfl
theorem fqR {X : Cx} {x : Str} {C f : Addr} {E : XK} {CX : CXT} {k : Nat} {fd : FuncData} {ps : List Str} {sp : Sp} {np cpos pos : Pos} {e : Expr} {t : TA}
  (hx : Raises1 X E) (hg : Gl X x) (hm : X.mg x = some (.ref C)) (M : Mk1 X.K C f) (F : FnOk X.prog X.w X.K X.mg X.base CX k f fd ps sp) (hr : Room (k + 1) X.A) (hb : Binds X.K fd ps []) (hps : ps.length = 2) (h0 : Passes CX X E0) (hcalm : X.calm = true) (ha : PA X [e] t)
  (hdb : (x == ("__debug__" : Str)) = false := by decide) (he : starEach [e] X.env = (false, eval e X.env) :: starEach [] X.env := by rfl) (hpl : (backTo cpos (starEach [] X.env)).any (·.1) = false := by rfl) :
  PS X (.Raise (some (.Call (.Name x np) [e] [] cpos)) none pos) (tRaise1 E C sp t) := by
 intro pins s σ H D I h
 obtain ⟨tl, N, nm, qn, bs, hd', sn, sub, ab, col, dd, k0, k1, k2, k3, k5, hC, ⟨mN, hN, hni⟩, T⟩ := excObjI I.ok.mod.kin M.ex
 obtain ⟨oI, hoI, hcI⟩ : ∃ oI, X.base.get? f = some oI ∧ oI.cls = .type "function" := by
  have z : typeIn X.K (.ref f) = some (.type "function") := beq_iff_eq.mp M.fn
  unfold typeIn at z
  obtain ⟨o, ho, hc⟩ := Option.map_eq_some_iff.mp z
  exact ⟨o, I.ok.mod.kin _ _ ho, hc⟩
 rw [arm_exec_Raise]
 have hbase := T.hasType PySem.F.excBase_ValueError.hasBase
 refine wpAny_bind (wpAny_standAt (mqK (C := C) (nm := nm) (q := qn) (N := N) (bs := bs) (bm := tl) (hdct := hd') (sn := sn) (sub := sub) (ab := ab) (col := col) (dd := dd) (k0 := k0) (k1 := k1) (k2 := k2) (k3 := k3) (k5 := k5) (newId := vNew) hbase (I.ok.hd hcalm) ?_))
 refine wpAny_bind (wpAny_mono (wpAny_Call_Name_kw (hq2 I hg hm ?_ hdb)) (fun v s₃ h₃ => wpAny_bind (wpAny_standAt (wpAny_pure h₃))) fun _ _ x => x)
 refine callWith_K (h₀ := X.base) I.ok.mod.kin M.kp (thn (ha cpos pins s σ H _ I h) fun us s1 ⟨vs, H1, I1, r, q⟩ => ⟨I1.kIn, ?_⟩) he hpl
 rw [List.nil_append]
 obtain ⟨hh, g, dw, tk, os⟩ := s1
 have hlu : us.length ≤ sizeLine := by
  have z := F.len _ _ _ _ (q (hh.objs.size + 1) (I1.hok.fresh (Nat.le_succ _)))
  rw [List.length_cons, hps] at z
  rw [← r.length, sizeLine_eq]
  omega
 have kb : ∀ b o, X.base.get? b = some o → hh.get? b = some o := fun b o e => I1.bk b o e
 refine rqq PySem.F.excBase_ValueError (T.keeps kb) (kb _ _ hC) (hN.keeps kb) hni (kb _ _ hoI) hcI ?_ hlu
 have I2 : Inv X pins σ (upd H1 (hh.objs.size + 1) (exNew (hh.objs.size + 1) C)) ⟨(hh.push (newTup us)).push (newExc C hh.objs.size), g, dw, tk, os⟩ := by
  refine I1.laid (t' := tk) (fun b u e => Heap.get?_push_of_some _ (Heap.get?_push_of_some _ e)) (Nat.le_succ _) ?_
  have hg2 : ((hh.push (newTup us)).push (newExc C hh.objs.size)).get? (hh.objs.size + 1) = some (newExc C hh.objs.size) := by heap_get
  exact ⟨⟨_, _, hg2⟩, ⟨_, hg2⟩, fun h1 h2 ⟨t, sl, z⟩ k => ⟨t, sl, k _ z⟩⟩
 have q2 := q (hh.objs.size + 1) (I1.hok.fresh (Nat.le_succ _))
 have r2 : Vals (V.ref (hh.objs.size + 1) :: vs) (Value.ref (hh.objs.size + 1) :: us) := .cons rfl r
 have hl : (Value.ref (hh.objs.size + 1) :: us).length = ps.length := by rw [← r2.length]; exact F.len _ _ _ _ q2
 have hbb := hb ⟨(hh.push (newTup us)).push (newExc C hh.objs.size), g, dw, tk, os⟩ (Value.ref (hh.objs.size + 1) :: us) I2.kIn (by rw [List.append_nil]; exact hl)
 rw [List.append_nil] at hbb
 refine wpAny_call (codeAny_mono (F.run _ X.stack _ _ ⟨Value.ref (hh.objs.size + 1) :: us, []⟩ (Value.ref (hh.objs.size + 1) :: us) _ _ E0 (hr.make C us []) (I2.env0.make C us []) hbb r2 q2) fun r s' hq' => ?_)
 cases r with
 | error ev => exact h0 pins σ _ _ ev s' I2 hq'
 | ok fl =>
  cases fl with
  | ret u =>
   obtain ⟨v, H', I3, rv, ev, d, hd, hE⟩ := I2.after hq'
   subst ev
   obtain ⟨⟨t, sl, hx3⟩, _, _⟩ := I3.hok _ _ hd
   exact ⟨rv, _, t, some d, sl, rfl, I3.bk _ _ hC, hx3, hx pins σ H' s' _ C d I3 hd (Nat.le_trans I1.sz (Nat.le_succ _)) hE⟩
  | next => exact False.elim hq'
  | brk => exact False.elim hq'
  | cont => exact False.elim hq'
theorem Fun.okn {P : Program} {w : World} {K : Frag} {mg : Str → Option Value} {base : Heap} {x qual : Str} {st : Stmt} {f : Addr} {fd : FuncData} {N ps : List Str} {k : Nat} {sp : Sp} (F : Fun K x qual st f fd) (S : FnScope N ps (defScope st)) (len : ∀ vs H Q E, sp vs H Q E → vs.length = ps.length)
  (hbody : ∀ (cdv : Value) (A : Around) (outer : List Env) (s : Shared) (H : Hp) (vs : List V) (Q : VK) (E : XK), Room k (A.deeper (envOfC qual (defScope st) s.heap.objs.size f cdv)) → sp vs H Q E →
   ∃ t, PSs (cxOf (CXN P w base) P w K mg base N qual (defScope st) f cdv A outer s H E) (defBody st) t ∧ t { nx := fun _ H' => Q .non H', rt := Q } (start N vs) H) : FnOk P w K mg base (CXN P w base) (k + 1) f fd ps sp := by
 obtain ⟨oc, od, kV, doc, pm, an, cdv, ct, osl, rfl, lk, hcd⟩ := F.ex
 exact uqU lk hcd S len fun A outer s H vs Q E hr hsp => hbody cdv A outer s H vs Q E hr hsp
def TryB (X : Cx) (body : List Stmt) (t : XK → TS) : Prop := ∀ (pins : List (Addr × Obj)) (s : Shared) (σ : St) (H : Hp) (D : Ends) (Eh : XK), Inv X pins σ H s → t Eh D σ H →
 wpAny (model X.prog X.w) X.A (execs body X.env) (SP X pins D) (fun e s' => ∃ H1 s1, Inv X pins σ H1 s1 ∧ CXN X.prog X.w X.base X.stack H1 s1 Eh e s') s
def tTryCall (sp : Sp) (t : TA) : XK → TS := fun Eh D σ H => t σ H fun vs H1 => sp vs H1 (fun _ H2 => D.nx σ H2) Eh
theorem Inv.sharp {X : Cx} {pins : List (Addr × Obj)} {σ : St} {H : Hp} {s : Shared} {a : Addr} {φ ψ : Heap → Prop} (I : Inv X pins σ (upd H a (.ext φ)) s) (h : ψ s.heap) (st : ∀ h1 h2 : Heap, ψ h1 → (∀ o, h1.get? a = some o → h2.get? a = some o) → ψ h2) : Inv X pins σ (upd H a (.ext ψ)) s := by
 have e : upd H a (.ext φ) a = some (.ext φ) := aqw
 obtain ⟨_, ex, _⟩ := I.hok a _ e
 have := I.write (x := a) (e := a) (o := .ext ψ) (t' := s.toks) (h' := s.heap) (by rw [e]; exact True.intro) (.inl rfl) (fun b u _ q => q) ex ⟨h, ex, st⟩
 rwa [pq5] at this
def tTryN (K : Frag) (t : XK → TS) (W : Addr) (i : Nat) (tb : TS) : TS := fun D σ H => t (fun cls d H2 =>
 ∃ C, cls = .ref C ∧ subIn K (.ref C) (.ref W) = some true ∧ ∀ a, H2 a = none → tb { nx := fun σ' H' => D.nx (σ'.set i none) H', rt := D.rt } (σ.set i (some (.ref a))) (upd H2 a (exC a C d))) { nx := D.nx, rt := D.rt } σ H
theorem tqT {X : Cx} {W : Addr} {x n : Str} {np hpos pos : Pos} {body : List Stmt} {b₀ : Stmt} {suite : List Stmt} {t : XK → TS} {tb : TS} {i : Nat}
  (hb : TryB X body t) (hstk : X.stack = X.env :: X.outer) (hf : X.env.frame = some X.env.locals) (hgW : Gl X x) (hmW : X.mg x = some (.ref W)) (cw : Catch X.K W)
  (nd : X.N.Nodup) (hi : X.N[i]? = some n) (hl : X.env.scope.names.lookup n = some .local) (hbd : ∀ a, PSs (X.handling (.ref a)) (b₀ :: suite) tb) (hdW : (x == ("__debug__" : Str)) = false := by decide) :
  PS X (.Try body [.ExceptHandler (some (.Name x np)) (some n) (b₀ :: suite) hpos] [] [] pos) (tTryN X.K t W i tb) := by
 intro pins s σ H D I h
 refine wpAny_Try_except (wpAny_mono (hb pins s σ H _ _ I h) (fun fl s2 q => ?_) fun ev s2 ⟨H1, s1, I1, hq⟩ => ?_)
 ·cases fl with
  | next => exact wpAny_execs_nil q
  | ret u => exact q
  | brk => obtain ⟨_, _, _, q⟩ := q; exact q.elim
  | cont => obtain ⟨_, _, _, q⟩ := q; exact q.elim
 ·obtain ⟨a, tt, C, d, B, H2, rfl, ⟨C', ce, hsub, hq⟩, Wn⟩ := hq
  cases ce
  have hn : H2 a = none := Wn.f.new (h5 := s.heap) (a0 := .none)
  have fl : Heap.FlyingW B (X.env :: X.outer) a (.ref C) (.ref tt) s2.heap := hstk ▸ Wn.f.fly
  have fr : X.A.frames = some (X.env :: X.outer) := hstk ▸ I1.ok.frames
  refine wpAny_mono (iqV (jqn _ _) (wpAny_looks_onW (E := fun _ _ => False) (Q := fun _ s3 => ∃ h4, s3 = { s2 with heap := h4 } ∧ Heap.HeldW B (X.env :: X.outer) a (.ref C) (.ref tt) X.env.locals h4 ∧ s2.heap.UpToSlots h4) fr hf fl fun h4 held4 sm4 => ⟨h4, rfl, held4, sm4⟩)) (fun _ s3 W' => ?_) fun _ _ z => z.elim
  obtain ⟨⟨h4, e3, held4, sm4⟩, sd4⟩ := W'
  subst e3
  refine wpAny_mono (iqV (gq2 _ _) (wpAny_landsW (E := fun _ _ => False) (s := { s2 with heap := h4 }) (Q := fun _ s3 => ∃ h5, s3 = { s2 with heap := h5 } ∧ Heap.FlyingW B (X.env :: X.outer) a (.ref C) (.ref tt) h5 ∧ h4.UpToSlots h5) held4 fun h5 f5 sm5 => ⟨h5, rfl, f5, sm5⟩)) (fun _ s3 W' => ?_) fun _ _ z => z.elim
  obtain ⟨⟨h5, e3, f5, sm5⟩, sd5⟩ := W'
  subst e3
  have I5 := I1.caught Wn.f (hstk.symm ▸ f5) (sm4.trans sm5)
  refine wpAny_handleBy_cons (codeAny_handlers_test (hq2 (X := X.handling (.ref a)) (I5.handling _) hgW hmW ?_ hdW)) (by intro q; cases q)
  obtain ⟨ob, hob, hoc⟩ := f5.there
  refine (oqc I5.kIn hob hoc cw hsub) _ _ _ _ (fun b o q => q) ?_
  refine codeAny_handlers_suite_as ?_
  refine wpAny_mono (iqV (gq2 _ _) (lands_againW (E := fun _ _ => False) (s := { s2 with heap := h5 }) (Q := fun _ s3 => ∃ h6, s3 = { s2 with heap := h6 } ∧ Heap.FlyingW B (X.env :: X.outer) a (.ref C) (.ref tt) h6 ∧ h5.UpToSlots h6) f5 fun h6 f6 sm6 => ⟨h6, rfl, f6, sm6⟩)) (fun _ s3 W' => ?_) fun _ _ z => z.elim
  obtain ⟨⟨h6, e3, f6, sm6⟩, sd6⟩ := W'
  subst e3
  have I6' := I1.caught Wn.f (hstk.symm ▸ f6) ((sm4.trans sm5).trans sm6)
  obtain ⟨oe, vs6, ho6, hc6, hd6, _⟩ := f6.first
  have I6 : Inv X pins σ (upd H2 a (exC a C d)) { s2 with heap := h6 } := by
   refine I6'.sharp ⟨oe, ho6, hc6, fun y hy => ?_, by unfold notCls; rw [hd6]⟩ fun h1 h2 ⟨o, z, c⟩ k => ⟨o, k o z, c⟩
   obtain ⟨o2, z2, zd⟩ := Wn.dc y hy
   exact (((sd4.trans sd5).trans sd6).get z2 ho6).trans zd
  refine jq5 (X := X.handling (.ref a)) (i := i) (v := .ref a) (I6.handling _) nd hi (.inl hl) rfl (fun s7 I7 => ?_) (.inr hl)
  refine wpAny_mono (hbd a pins s7 _ _ _ I7 (hq a hn)) (fun fl s8 q8 => ?_) fun e s8 z => z.elim
  cases fl with
  | next =>
   obtain ⟨σ', H', I', q'⟩ := q8
   exact (Inv.handled I1.ok I').goes nd hi hl fun s9 I9 => ⟨_, _, I9, q'⟩
  | ret u =>
   obtain ⟨v, σ', H', I', rv, q'⟩ := q8
   exact (Inv.handled I1.ok I').goes nd hi hl fun s9 I9 => ⟨_, _, _, I9, rv, q'⟩
  | brk =>
   obtain ⟨_, _, _, q'⟩ := q8
   exact q'.elim
  | cont =>
   obtain ⟨_, _, _, q'⟩ := q8
   exact q'.elim
theorem tqK {K : Frag} {t : XK → TS} {W : Addr} {i : Nat} {tb : TS} {D : Ends} {σ : St} {H : Hp} : tTryN K t W i tb D σ H ↔ t (fun cls d H2 =>
 ∃ C, cls = .ref C ∧ subIn K (.ref C) (.ref W) = some true ∧ ∀ a, H2 a = none → tb { nx := fun σ' H' => D.nx (σ'.set i none) H', rt := D.rt } (σ.set i (some (.ref a))) (upd H2 a (exC a C d))) { nx := D.nx, rt := D.rt } σ H := Iff.rfl
theorem pqZ {sp : Sp} {t : TA} {Eh : XK} {D : Ends} {σ : St} {H : Hp} : (tTryCall sp t Eh D σ H) = (t σ H fun vs H1 => sp vs H1 (fun _ H2 => D.nx σ H2) Eh) := rfl
def rIsX (K : Frag) : List V → Hp → VK → Prop := fun vs H Q => ∃ a c C d b, vs = [.ref a, c] ∧ H a = some (exC a C d) ∧ ExLook K C ∧ KitAns K H C c b ∧ Q (.bl b) H
theorem wqI {K : Frag} {a : Addr} {c : V} {H : Hp} {Q : VK} : rIsX K [.ref a, c] H Q ↔ ∃ C d b, H a = some (exC a C d) ∧ ExLook K C ∧ KitAns K H C c b ∧ Q (.bl b) H :=
 ⟨fun ⟨_, _, C, d, b, e, h⟩ => by cases e; exact ⟨C, d, b, h⟩, fun ⟨C, d, b, h⟩ => ⟨a, c, C, d, b, rfl, h⟩⟩
end L2
namespace L2
open PySem PySem.Spec PySem.W PySem.Calls PyProof.Rows PySem.Builtin PySem.Builtin.ObjectAttr
section
variable {prog : Program} {w : World} {A : Around} {E : Value → Shared → Prop} {hh : Heap} {g : Array GenState} {dr : Drawn} {t : Nat} {os : OsState} {K : Frag} {a C : Addr} {o : Obj} {od : Option Obj} {name : Str} {v : Value}
theorem mqk {tk : Tok} {Q : Fin → Shared → Prop} (kin : K.In hh) (I : PySem.W.InstAt hh a o C od) (hf : findObj K C od name = some (.value v)) (hq : Q (.done (.ret v)) ⟨hh, g, dr, t, os⟩) :
  wpAny (model prog w) A (Builtin.«object.__getattribute__» ⟨[.ref a, .str name tk], []⟩) Q E ⟨hh, g, dr, t, os⟩ := by
 have L0 := I.type (M := model prog w)
 have L1 := looks_find (M := model prog w) kin I hf
 refine wpAny_bind (wpAny_pure (wpAny_bind (wpAny_pure (wpAny_bind (L0.at (wpAny_bind (L1.at ?_)))))))
 exact wpAny_pure hq
theorem pqO {tk : Tok} {n1 ex : Bool} {Q : Value → Shared → Prop} (kin : K.In hh) (I : PySem.W.InstAt hh a o C od) (hf : findObj K C od name = some (.value v)) (hv : handedIn v = true) (L : ExLook K C) (gb : Slot "ValueError" "__getattribute__" "BaseException.__getattribute__") (hq : Q v ⟨hh, g, dr, t, os⟩) :
  wpAny (model prog w) A (getAttrBy (.ref a) (.str name tk) n1 ex) Q E ⟨hh, g, dr, t, os⟩ := by
 have lt := pqd (M := model prog w) I.at_ I.cls; have lg := looks_findIn (M := model prog w) kin L.ga; have ln := looks_findIn (M := model prog w) kin L.na
 have f3 := gb.bind (.ref a)
 have y2 : (Value.builtin "BaseException.__getattribute__" == Value.builtin "object.__getattribute__") = false := by decide +kernel
 have y1 : (onTheHeap (Value.ref C) && Value.builtin "BaseException.__getattribute__" == Value.builtin "object.__getattribute__") = false := by rw [y2]; rfl
 have y0 : (ex && onTheHeap (Value.builtin "BaseException.__getattribute__")) = false := by cases ex <;> rfl
 repeat (any_goals (first | assumption | with_reducible refine Looks.at lt ?_ | with_reducible refine Looks.at lg ?_ | with_reducible refine Looks.at ln ?_ | rw [y0] | wp_step))
 refine codeAny_call_builtin gb.plain PySem.F.entry_bexc_ga (nqw kin I.at_ I.cls L (mqk kin I hf ?_))
 have hz := handedOut_of hv
 repeat (any_goals (first | assumption | rw [hz] | wp_step))
end
structure ExFld (K : Frag) (C : Addr) (f : Str) : Prop where
 look : ExLook K C
 na : findIn K (.ref C) f = some none
 hd : hasDictIn K C = true
def tFldE (K : Frag) (te : TE) (f : Str) : TE := fun σ H Q => te σ H fun x H1 => ∃ a C d fs v, x = .ref a ∧ H1 a = some (exC a C (some d)) ∧ H1 d = some (.xd fs) ∧ ExFld K C f ∧ fs.lookup f = some v ∧ Q v H1
theorem uql {K : Frag} {te : TE} {f : Str} {σ : St} {H : Hp} {Q : VK} : (tFldE K te f σ H Q) = (te σ H fun x H1 => ∃ a C d fs v, x = .ref a ∧ H1 a = some (exC a C (some d)) ∧ H1 d = some (.xd fs) ∧ ExFld K C f ∧ fs.lookup f = some v ∧ Q v H1) := rfl
theorem uqZ {X : Cx} {e : Expr} {f : Str} {pos : Pos} {te : TE} (he : PE X e te) (hb : attributeBase e f X.env (eval e X.env) = eval e X.env) : PE X (.Attribute e f pos) (tFldE X.K te f) := by
 intro pins s σ H Q I h
 refine rqc hb (thn (he pins s σ H _ I h) fun u s1 W' => ?_)
 obtain ⟨x, H1, I1, rx, a, C, d, fs, v, ex, ea, ed, c, l, q⟩ := W'
 subst ex
 obtain rfl : u = Value.ref a := rx
 obtain ⟨⟨o, ho, hc, hdc, hnc⟩, _, _⟩ := I1.hok a _ ea
 obtain ⟨mA, hN, hR⟩ := I1.hok d _ ed
 obtain ⟨od, hod, hl⟩ := mq3 hN
 have dd := hdc d rfl
 have J : PySem.W.InstAt s1.heap a o C (some od) := ⟨ho, hc, hnc, by rw [dd]; exact hod⟩
 obtain ⟨v', hv', rv⟩ := RelO.some_of (v := v) (o := mA f) (by rw [← l]; exact hR f)
 have K1 := I1.kIn
 have fo : findObj X.K C (some od) f = some (.value v') := findObj_own c.hd c.na rfl (by rw [hl, hv'])
 have I2 := I1.tok (s1.toks + 1)
 obtain ⟨hh, g, dr, tk, os⟩ := s1
 unfold getAttr
 refine wpAny_bind (wpAny_mkText ?_)
 refine pqO K1 J fo (nqb rv) c.look PySem.F.attrBase_ValueError.ga ?_
 exact ⟨v, H1, I2, rv, q⟩
end L2
namespace L2
open PySem PySem.Spec PySem.W PySem.Calls PyProof.Rows
theorem FunD.okn {P : Program} {w : World} {K : Frag} {mg : Str → Option Value} {base : Heap} {x qual : Str} {st : Stmt} {f T : Addr} {fd : FuncData} {N ps : List Str} {k : Nat} {sp : Sp} (F : FunD K x qual st f fd T) (S : FnScope N ps (defScope st)) (len : ∀ vs H Q E, sp vs H Q E → vs.length = ps.length)
  (hbody : ∀ (cdv : Value) (A : Around) (outer : List Env) (s : Shared) (H : Hp) (vs : List V) (Q : VK) (E : XK), Room k (A.deeper (envOfC qual (defScope st) s.heap.objs.size f cdv)) → sp vs H Q E →
   ∃ t, PSs (cxOf (CXN P w base) P w K mg base N qual (defScope st) f cdv A outer s H E) (defBody st) t ∧ t { nx := fun _ H' => Q .non H', rt := Q } (start N vs) H) : FnOk P w K mg base (CXN P w base) (k + 1) f fd ps sp := by
 obtain ⟨oc, od, kV, doc, pm, an, cdv, ct, osl, rfl, lk, hcd⟩ := F.ex
 exact uqU lk hcd S len fun A outer s H vs Q E hr hsp => hbody cdv A outer s H vs Q E hr hsp
section
variable {P : Program} {w : World} {K : Frag} {mg : Str → Option Value} {base : Heap} {j k : Nat} {A : Around} {outer : List Env} {s : Shared} {H : Hp} {E : XK}
structure RoomU (k : Nat) (A : Around) : Prop where
 dp : A.depth + 3 * k + 5 < recursionLimit
 un : A.units + 16 * k + 200 < cLine
structure FnU (P : Program) (w : World) (K : Frag) (mg : Str → Option Value) (base : Heap) (k : Nat) (f : Addr) (fd : FuncData) (ps : List Str) (sp : Sp) : Prop where
 len : ∀ vs H Q E, sp vs H Q E → vs.length = ps.length
 go : ∀ (A : Around) (outer : List Env) (s : Shared) (H : Hp) (args : Args) (us : List Value) (vs : List V) (Q : VK) (E : XK), RoomU k A → Env0 P w K mg base A outer s H → BindsTo s fd args (ps.zip us) → Vals vs us → sp vs H Q E →
  codeAny (model P w) A (.call (.ref f) args) (CR CX0 outer P w H s Q E) s
end
section
variable {X : Cx}
def tTryIf (tc : TT) (ta tb : XK → TS) : XK → TS := fun Eh D σ H => tc σ H fun b H1 => if b = true then ta Eh D σ H1 else tb Eh D σ H1
theorem sqM {tc : TT} {ta tb : XK → TS} {Eh : XK} {D : Ends} {σ : St} {H : Hp} : (tTryIf tc ta tb Eh D σ H) = (tc σ H fun b H1 => if b = true then ta Eh D σ H1 else tb Eh D σ H1) := rfl
def TryE (X : Cx) (e : Expr) (t : XK → TE) : Prop := ∀ (pins : List (Addr × Obj)) (s : Shared) (σ : St) (H : Hp) (Q : VK) (Eh : XK), Inv X pins σ H s → t Eh σ H Q →
 wpAny (model X.prog X.w) X.A (eval e X.env) (EP X pins σ Q) (fun e s' => ∃ H1 s1, Inv X pins σ H1 s1 ∧ CXN X.prog X.w X.base X.stack H1 s1 Eh e s') s
def tTryE (sp : Sp) (t : TA) : XK → TE := fun Eh σ H Q => t σ H fun vs H1 => sp vs H1 Q Eh
theorem qqK {k : Nat} {f : Addr} {fd : FuncData} {ps : List Str} {sp : Sp} {fx : Str} {p cpos : Pos} {e : Expr} {es : List Expr} {t : TA}
  (F : FnOk X.prog X.w X.K X.mg X.base (CXN X.prog X.w X.base) k f fd ps sp) (hr : Room k X.A) (hg : Gl X fx) (hm : X.mg fx = some (.ref f)) (hk : keepIn X.K (.ref f) = true) (hb : Binds X.K fd ps []) (ha : PA X (e :: es) t)
  (hx0 : ∀ e s, X.xe e s → False)
  (hdb : (fx == ("__debug__" : Str)) = false := by decide)
  (he : starEach (e :: es) X.env = (false, eval e X.env) :: starEach es X.env := by rfl) (hpl : (backTo cpos (starEach es X.env)).any (·.1) = false := by rfl) :
  TryE X (.Call (.Name fx p) (e :: es) [] cpos) (tTryE sp t) := by
 intro pins s σ H Q Eh I h
 refine wpAny_Call_Name_kw (hq2 I hg hm ?_ hdb)
 refine callWith_K (h₀ := X.base) I.ok.mod.kin hk (wpAny_mono (ha cpos pins s σ H _ I h) (fun us s1 ⟨vs, H1, I1, r, q⟩ => ⟨I1.kIn, ?_⟩) fun e s1 z => (hx0 e s1 z).elim) he hpl
 have hlen : (us ++ []).length = ps.length := by rw [List.append_nil, ← r.length]; exact F.len _ _ _ _ q
 have hbb := hb s1 us I1.kIn hlen
 rw [List.append_nil] at hbb
 refine wpAny_call (codeAny_mono (F.run X.A X.stack s1 H1 ⟨us, []⟩ us vs _ _ hr I1.env0 hbb r q) fun r s2 hq => ?_)
 cases r with
 | ok fl =>
  cases fl with
  | ret u => exact I1.after hq
  | next => exact False.elim hq
  | brk => exact False.elim hq
  | cont => exact False.elim hq
 | error ev => exact ⟨H1, s1, I1, hq⟩
def tTryP (ta : TE) (te : XK → TE) : XK → TE := fun Eh σ H Q => ta σ H fun x H1 => te Eh σ H1 fun y H2 => ∀ p H', H2 p = none → Same H2 H' → H' p = some (.tup [x, y]) → Q (.ref p) H'
theorem qqi {a e : Expr} {ta : TE} {te : XK → TE} {x1} {pos : Pos} (ha : PE X a ta) (he : TryE X e te) (hx0 : ∀ e s, X.xe e s → False)
  (hs1 : starEach [a, e] X.env = (false, eval a X.env) :: starEach [e] X.env := by rfl) (hs2 : starEach [e] X.env = (false, eval e X.env) :: starEach [] X.env := by rfl) : TryE X (.Tuple [a, e] x1 pos) (tTryP ta te) := by
 intro pins s σ H Q Eh I h
 refine wpAny_Tuple_spliced ?_
 rw [hs1]
 show wpAny _ _ (spliced ((false, eval a X.env) :: backTo pos (starEach [e] X.env))) _ _ s
 refine Calls.spliced_cons (wpAny_mono (ha pins s σ H _ I h) (fun u s1 W' => ?_) fun e s1 z => (hx0 e s1 z).elim)
 obtain ⟨x, H1, I1, r1, q1⟩ := W'
 rw [hs2]
 show wpAny _ _ (spliced ((false, eval e X.env) :: backTo pos (starEach [] X.env))) _ _ s1
 refine Calls.spliced_cons (wpAny_mono (he pins s1 σ H1 _ Eh I1 q1) (fun v s2 W' => ?_) fun _ _ z => z)
 obtain ⟨y, H2, I2, r2, q2⟩ := W'
 refine Calls.spliced_nil ⟨by show 2 ≤ sizeLine; decide, ?_⟩
 have hf : H2 s2.heap.objs.size = none := I2.hok.fresh (Nat.le_refl _)
 refine ⟨.ref s2.heap.objs.size, upd H2 s2.heap.objs.size (.tup [x, y]), I2.laid (t' := s2.toks) (fun b u e => Heap.get?_push_of_some _ e) (Nat.le_refl _) ?_, rfl, q2 _ _ hf (fqu hf) aqw⟩
 exact ⟨by show 2 ≤ sizeLine; decide, [u, v], .cons r1 (.cons r2 .nil), ⟨_, Heap.get?_push_size _ rfl, rfl, _, rfl⟩⟩
def tTryS (i : Nat) (te : XK → TE) : XK → TS := fun Eh D σ H => te Eh σ H fun v H1 => D.nx (σ.set i (some v)) H1
theorem vqg {i : Nat} {x : Str} {e : Expr} {te : XK → TE} {pos pos' : Pos} (hN : X.N.Nodup) (hi : X.N[i]? = some x) (hl : X.env.scope.names.lookup x = some .local) (he : TryE X e te) (hs : swapsWith e (some (.Name x pos')) pos.line X.env = pure false := by rfl) :
  TryB X [.Assign [.Name x pos'] e pos] (tTryS i te) := by
 intro pins s σ H D Eh I h
 refine wpAny_execs_cons (wpAny_Assign_Name (wpAny_mono (he pins s σ H _ Eh I h) (fun v s1 W' => ?_) fun _ _ z => z) hs)
 obtain ⟨y, H1, I1, r1, q1⟩ := W'
 exact jq5 I1 hN hi (.inl hl) r1 (fun s2 I2 => wpAny_execs_nil ⟨_, H1, I2, q1⟩) (.inr hl)
theorem uq9 {sp : Sp} {t : TA} {Eh : XK} {σ : St} {H : Hp} {Q : VK} : (tTryE sp t Eh σ H Q) = (t σ H fun vs H1 => sp vs H1 Q Eh) := rfl
theorem vqh {ta : TE} {te : XK → TE} {Eh : XK} {σ : St} {H : Hp} {Q : VK} : (tTryP ta te Eh σ H Q) = (ta σ H fun x H1 => te Eh σ H1 fun y H2 => ∀ p H', H2 p = none → Same H2 H' → H' p = some (.tup [x, y]) → Q (.ref p) H') := rfl
theorem uqs {i : Nat} {te : XK → TE} {Eh : XK} {D : Ends} {σ : St} {H : Hp} : (tTryS i te Eh D σ H) = (te Eh σ H fun v H1 => D.nx (σ.set i (some v)) H1) := rfl
end
end L2
namespace L2
open PySem
theorem sqT {X : Cx} {K : PySem.W.Frag} {e : Expr} {f : Str} {pos : Pos} {te : TE} (hk : X.K = K) (he : PE X e te) (hb : attributeBase e f X.env (eval e X.env) = eval e X.env) : PE X (.Attribute e f pos) (tFldE K te f) := by subst hk; exact uqZ he hb
theorem mqP {X : Cx} {K : PySem.W.Frag} (h : X.K = K) : OpR X (compareOp .NotIn) (rIn K true) := by subst h; exact nqt
end L2
namespace Wm
open PySem L2
abbrev Rs (α : Type) := Except Nat (α × Nat)
def sh {α : Type} (k : Nat) : Rs α → Rs α
 | .ok (a, n) => .ok (a, k + n)
 | .error n => .error (k + n)
def mp {α β : Type} (f : α → β) : Rs α → Rs β
 | .ok (a, n) => .ok (f a, n)
 | .error n => .error n
def pre {α : Type} (c : α) (k : Nat) : Rs (List α) → Rs (List α)
 | .ok (l, n) => .ok (c :: l, k + n)
 | .error n => .error (k + n)
section
variable {α β γ : Type}
theorem qqo {a b : Nat} {r : Rs α} : sh a (sh b r) = sh (a + b) r := by
 cases r with
 | error n => show Except.error _ = Except.error _; rw [Nat.add_assoc]
 | ok x => show Except.ok _ = Except.ok _; rw [Nat.add_assoc]
theorem wq2 {a : Nat} {f : α → β} {r : Rs α} : mp f (sh a r) = sh a (mp f r) := by cases r <;> rfl
theorem wq3 {g : β → γ} {f : α → β} {r : Rs α} : mp g (mp f r) = mp (fun x => g (f x)) r := by cases r <;> rfl
theorem sh_0 {r : Rs α} : sh 0 r = r := by
 cases r with
 | error n => show Except.error _ = Except.error _; rw [Nat.zero_add]
 | ok x => show Except.ok _ = Except.ok _; rw [Nat.zero_add]
theorem wqY {r : Rs α} : mp (fun x => x) r = r := by cases r <;> rfl
theorem sq5 {c : α} {k : Nat} {r : Rs (List α)} : pre c k r = sh k (mp (fun l => c :: l) r) := by cases r <;> rfl
def Via (tot : Rs γ) (b : Nat) (f : α → γ) (r : Rs α) : Prop := tot = sh b (mp f r)
theorem Via.refl {r : Rs α} : Via r 0 (fun x => x) r := by unfold Via; rw [wqY, sh_0]
theorem Via.step {tot : Rs γ} {b a : Nat} {f : β → γ} {g : α → β} {r : Rs β} {r' : Rs α} (h : Via tot b f r) (e : r = sh a (mp g r')) : Via tot (b + a) (fun x => f (g x)) r' := by
 unfold Via at *
 rw [h, e, wq2, qqo, wq3]
theorem Via.ok {tot : Rs γ} {b n : Nat} {f : α → γ} {r : Rs α} {x : α} (h : Via tot b f r) (e : r = .ok (x, n)) : tot = .ok (f x, b + n) := by
 unfold Via at h
 rw [h, e]; rfl
theorem Via.err {tot : Rs γ} {b n : Nat} {f : α → γ} {r : Rs α} (h : Via tot b f r) (e : r = .error n) : tot = .error (b + n) := by
 unfold Via at h
 rw [h, e]; rfl
end
theorem take1 {r : List Nat} {c : Nat} : r.take [c].length = [c] ↔ r.head? = some c := by
 cases r with
 | nil => simp
 | cons d r => simp
def dec (mo : Option Nat) : Option Nat := mo.map fun m => m - 1
def Capd (mo : Option Nat) (k : Nat) : Prop := ∀ z, mo = some z → k ≤ z
def fsF : List Nat := [50, 51, 52, 53, 54, 55]
def prM : List Nat → Rs Nat
 | a :: b :: _ => if a ∈ fsF then (match sgO a b with | some c => .ok (c, 2) | none => .error 1) else .error 0
 | [a] => if a ∈ fsF then .error 1 else .error 0
 | [] => .error 0
theorem tqg {r : List Nat} {c n : Nat} (h : prM r = .ok (c, n)) : ∃ a b r', r = a :: b :: r' ∧ sgO a b = some c ∧ n = 2 ∧ a ∈ fsF := by
 match r, h with
 | [], h => cases h
 | [a], h =>
  have h : (if a ∈ fsF then (.error 1 : Rs Nat) else .error 0) = .ok (c, n) := h
  by_cases hf : a ∈ fsF
  ·rw [if_pos hf] at h; cases h
  ·rw [if_neg hf] at h; cases h
 | a :: b :: r', h =>
  have h : (if a ∈ fsF then (match sgO a b with | some c => (.ok (c, 2) : Rs Nat) | none => .error 1) else .error 0) = .ok (c, n) := h
  by_cases hf : a ∈ fsF
  ·rw [if_pos hf] at h
   cases hs : sgO a b with
   | none => rw [hs] at h; cases h
   | some d => rw [hs] at h; cases h; exact ⟨a, b, r', rfl, hs, rfl, hf⟩
  ·rw [if_neg hf] at h; cases h
def txtM (fr : List Nat) (r : List Nat) (mo : Option Nat) : Rs (List Nat) :=
 match r with
 | [] => .ok ([], 0)
 | c :: r' =>
  if mo = some 0 then .ok ([], 0)
  else if c = 126 then (match prM r' with | .error n => .error (n + 1) | .ok (s, n) => pre s (n + 1) (txtM fr (r'.drop n) (dec mo)))
  else if isPl c = true ∨ c ∈ fr then pre c 1 (txtM fr r' (dec mo))
  else .ok ([], 0)
termination_by r.length
decreasing_by
 ·simp only [List.length_drop, List.length_cons]; omega
 ·simp only [List.length_cons]; omega
theorem cqI {fr : List Nat} {mo : Option Nat} : txtM fr [] mo = .ok ([], 0) := by rw [txtM]
theorem jq3 {fr r : List Nat} : txtM fr r (some 0) = .ok ([], 0) := by
 cases r with
 | nil => exact cqI
 | cons c r => rw [txtM, if_pos rfl]
theorem fqD {fr r : List Nat} {mo : Option Nat} (h : mo ≠ some 0) : txtM fr (126 :: r) mo = (match prM r with | .error n => .error (n + 1) | .ok (s, n) => pre s (n + 1) (txtM fr (r.drop n) (dec mo))) := by
 rw [txtM, if_neg h, if_pos rfl]
theorem iqs {fr r : List Nat} {mo : Option Nat} {c : Nat} (h : mo ≠ some 0) (h1 : c ≠ 126) (h2 : isPl c = true ∨ c ∈ fr) : txtM fr (c :: r) mo = pre c 1 (txtM fr r (dec mo)) := by
 rw [txtM, if_neg h, if_neg h1, if_pos h2]
theorem lq5 {fr r : List Nat} {mo : Option Nat} (h : Stops fr r) : txtM fr r mo = .ok ([], 0) := by
 cases r with
 | nil => exact cqI
 | cons c r =>
  obtain ⟨h1, h2, h3⟩ := h c rfl
  by_cases h0 : mo = some 0
  ·rw [h0]; exact jq3
  ·rw [txtM, if_neg h0, if_neg h3, if_neg (fun z => z.elim (fun z => by rw [h1] at z; cases z) h2)]
theorem dq6 {fr : List Nat} : ∀ (k : Nat) {r : List Nat} {mo : Option Nat} {s : List Nat} {n : Nat}, r.length ≤ k → txtM fr r mo = .ok (s, n) →
  ∃ w r', r = w ++ r' ∧ w.length = n ∧ WrT fr s w ∧ (Stops fr r' ∨ mo = some s.length) ∧ ∀ m, mo = some m → s.length ≤ m := by
 intro k
 induction k with
 | zero =>
  intro r mo s n hk h
  have hr : r = [] := List.length_eq_zero_iff.mp (by omega)
  subst hr
  rw [cqI] at h
  cases h
  exact ⟨[], [], rfl, rfl, .nil, .inl mq9, fun m _ => Nat.zero_le _⟩
 | succ k ih =>
  intro r mo s n hk h
  cases r with
  | nil =>
   rw [cqI] at h
   cases h
   exact ⟨[], [], rfl, rfl, .nil, .inl mq9, fun m _ => Nat.zero_le _⟩
  | cons c r =>
   simp only [List.length_cons] at hk
   by_cases h0 : mo = some 0
   ·subst h0
    rw [jq3] at h
    cases h
    exact ⟨[], _, rfl, rfl, .nil, .inr rfl, fun m _ => Nat.zero_le _⟩
   have hm : ∀ (s' : List Nat) (x : Nat), (∀ m, dec mo = some m → s'.length ≤ m) → ∀ m, mo = some m → (x :: s').length ≤ m := fun s' x hh m e => by
    subst e
    have := hh (m - 1) rfl
    have h1 : m ≠ 0 := fun z => h0 (by rw [z])
    simp only [List.length_cons]; omega
   have hst : ∀ (s' r' : List Nat) (x : Nat), (Stops fr r' ∨ dec mo = some s'.length) → (Stops fr r' ∨ mo = some (x :: s').length) := fun s' r' x hh => hh.imp id fun e => by
    cases mo with
    | none => cases e
    | some m =>
     have e : some (m - 1) = some s'.length := e
     have h1 : m ≠ 0 := fun z => h0 (by rw [z])
     have e := Option.some.inj e
     rw [List.length_cons, ← e]
     congr 1; omega
   by_cases hc : c = 126
   ·subst hc
    rw [fqD h0] at h
    cases hp : prM r with
    | error e => rw [hp] at h; cases h
    | ok x =>
     obtain ⟨x, nx⟩ := x
     obtain ⟨a, b, r2, rfl, hs, rfl, _⟩ := tqg hp
     rw [hp] at h
     simp only [List.drop_succ_cons, List.drop_zero] at h
     cases ht : txtM fr r2 (dec mo) with
     | error e => rw [ht] at h; cases h
     | ok y =>
      obtain ⟨s', m⟩ := y
      rw [ht] at h
      cases h
      obtain ⟨w, r', e1, e2, e3, e4, e5⟩ := ih (by simp only [List.length_cons] at hk; omega) ht
      refine ⟨126 :: a :: b :: w, r', by rw [e1]; rfl, by simp only [List.length_cons]; omega, .pair hs e3, hst s' r' x e4, hm s' x e5⟩
   ·by_cases hp : isPl c = true ∨ c ∈ fr
    ·rw [iqs h0 hc hp] at h
     cases ht : txtM fr r (dec mo) with
     | error e => rw [ht] at h; cases h
     | ok y =>
      obtain ⟨s', m⟩ := y
      rw [ht] at h
      cases h
      obtain ⟨w, r', e1, e2, e3, e4, e5⟩ := ih (by omega) ht
      exact ⟨c :: w, r', by rw [e1]; rfl, by simp only [List.length_cons]; omega, .self hp hc e3, hst s' r' c e4, hm s' c e5⟩
    ·rw [txtM, if_neg h0, if_neg hc, if_neg hp] at h
     cases h
     refine ⟨[], c :: r, rfl, rfl, .nil, .inl (lqN ⟨?_, fun z => hp (.inr z), hc⟩), fun m _ => Nat.zero_le _⟩
     cases hi : isPl c with
     | false => rfl
     | true => exact absurd (.inl hi) hp
theorem cqp {fr r s : List Nat} {mo : Option Nat} {n : Nat} (h : txtM fr r mo = .ok (s, n)) : n ≤ r.length ∧ s.length ≤ n ∧ (s ≠ [] → 0 < n) := by
 obtain ⟨w, r', e1, e2, e3, _⟩ := dq6 r.length (Nat.le_refl _) h
 have := oqt e3
 refine ⟨by rw [e1, List.length_append]; omega, by omega, fun z => ?_⟩
 have := List.length_pos_iff.mpr z
 omega
def filM (fr r : List Nat) (mo : Option Nat) : Rs (List Nat) := match txtM fr r mo with
 | .error n => .error n
 | .ok (s, n) => if s = [] then .error n else .ok (s, n)
def houM (r : List Nat) : Rs (Option (List Nat)) := if r.take 2 = [47, 47] then sh 2 (mp some (filM [] (r.drop 2) (some 60))) else .ok (none, 0)
def dooG : List Nat → Nat → Nat × Nat
 | [], n => (n, 0)
 | c :: r, n => if 0 < n ∧ 48 ≤ c ∧ c ≤ 57 ∧ n * 10 + (c - 48) ≤ 65535 then ((dooG r (n * 10 + (c - 48))).1, (dooG r (n * 10 + (c - 48))).2 + 1) else (n, 0)
def dooM (r : List Nat) : Rs (Option Int) := if r.head? = some 58 then
  match r.drop 1 with
  | [] => .error 1
  | c :: r' => if 48 ≤ c ∧ c ≤ 57 then .ok (some ((dooG r' (c - 48)).1 : Int), 2 + (dooG r' (c - 48)).2) else .error 1
 else .ok (none, 0)
def stpF : Nat → List Nat → Bool → Rs (List (List Nat) × Bool)
 | 0, _, e => .ok (([], e), 0)
 | f + 1, r, e => match txtM frS r none with
  | .error n => .error n
  | .ok (s, n) => if s = [] then .ok (([], e), n)
   else if (r.drop n).head? = some 47 then sh (n + 1) (mp (fun x => (s :: x.1, x.2)) (stpF f (r.drop (n + 1)) true))
   else sh n (mp (fun x => (s :: x.1, x.2)) (stpF f (r.drop n) false))
def wayM (must : Bool) (r : List Nat) : Rs (Bool × List (List Nat) × Bool) :=
 if r.head? = some 47 then sh 1 (mp (fun x => (true, x)) (stpF (r.length + 1) (r.drop 1) true))
 else if must = true then .ok ((true, [], true), 0)
 else mp (fun x => (false, x)) (stpF (r.length + 1) r false)
def valM (r : List Nat) : Rs (Option (List Nat)) := if r.head? = some 61 then sh 1 (mp some (txtM frQ (r.drop 1) none)) else .ok (none, 0)
def marM (r : List Nat) : Rs (Option (List Nat)) := if r.head? = some 35 then sh 1 (mp some (txtM frM (r.drop 1) none)) else .ok (none, 0)
def bdR {α β : Type} (x : Rs α) (f : α → Nat → Rs β) : Rs β := match x with
 | .error n => .error n
 | .ok (a, n) => sh n (f a n)
def prsF : Nat → List Nat → Rs (List (List Nat × Option (List Nat)))
 | 0, _ => .ok ([], 0)
 | f + 1, r => if r.head? = some 38 then
   sh 1 (bdR (filM frQ (r.drop 1) none) fun s n => bdR (valM (r.drop (1 + n))) fun v m => mp (fun l => (s, v) :: l) (prsF f (r.drop (1 + n + m))))
  else .ok ([], 0)
def queM (r : List Nat) : Rs (Option (List (List Nat × Option (List Nat)))) := if r.head? = some 63 then
  sh 1 (bdR (txtM frQ (r.drop 1) none) fun s n => if s = [] then .ok (some [], 0) else
   bdR (valM (r.drop (1 + n))) fun v m => mp (fun l => some ((s, v) :: l)) (prsF (r.length + 1) (r.drop (1 + n + m))))
 else .ok (none, 0)
def bdA {α β : Type} (x : Rs α) (i : Nat) (f : α → Nat → Except Nat β) : Except Nat β := match x with
 | .error n => .error (i + n)
 | .ok (a, n) => f a (i + n)
theorem lqI {α β : Type} {a : α} {n i : Nat} {f : α → Nat → Except Nat β} : bdA (.ok (a, n)) i f = f a (i + n) := rfl
theorem iq6 {α β : Type} {n i : Nat} {f : α → Nat → Except Nat β} : bdA (.error n : Rs α) i f = .error (i + n) := rfl
def dorM (h : Option (List Nat)) (r : List Nat) : Rs (Option Int) := if h = none then .ok (none, 0) else dooM r
def readM (t : List Nat) : Except Nat Ad :=
 bdA (houM (t.drop (schP t))) (schP t) fun h i => bdA (dorM h (t.drop i)) i fun d i => bdA (wayM (decide (schM t ≠ [] ∨ h ≠ none)) (t.drop i)) i fun w i =>
  bdA (queM (t.drop i)) i fun q i => bdA (marM (t.drop i)) i fun m i => if i = t.length then .ok ⟨schM t, h, d, w.1, w.2.1, w.2.2, q, m⟩ else .error i
section
variable {t : List Nat} {h : Option (List Nat)} {d : Option Int} {w : Bool × List (List Nat) × Bool} {q : Option (List (List Nat × Option (List Nat)))} {m : Option (List Nat)} {n n1 n2 n3 n4 n5 : Nat}
theorem tqd (e1 : houM (t.drop (schP t)) = .error n) : readM t = .error (schP t + n) := by unfold readM; simp only [e1, lqI, iq6]
theorem tqE (e1 : houM (t.drop (schP t)) = .ok (h, n1)) (e2 : dorM h (t.drop (schP t + n1)) = .error n) : readM t = .error (schP t + n1 + n) := by
 unfold readM; simp only [e1, e2, lqI, iq6]
theorem sq6 (e1 : houM (t.drop (schP t)) = .ok (h, n1)) (e2 : dorM h (t.drop (schP t + n1)) = .ok (d, n2)) (e3 : wayM (decide (schM t ≠ [] ∨ h ≠ none)) (t.drop (schP t + n1 + n2)) = .error n) : readM t = .error (schP t + n1 + n2 + n) := by
 unfold readM; simp only [e1, e2, e3, lqI, iq6]
theorem tqy (e1 : houM (t.drop (schP t)) = .ok (h, n1)) (e2 : dorM h (t.drop (schP t + n1)) = .ok (d, n2)) (e3 : wayM (decide (schM t ≠ [] ∨ h ≠ none)) (t.drop (schP t + n1 + n2)) = .ok (w, n3)) (e4 : queM (t.drop (schP t + n1 + n2 + n3)) = .error n) : readM t = .error (schP t + n1 + n2 + n3 + n) := by
 unfold readM; simp only [e1, e2, e3, e4, lqI, iq6]
theorem tqq (e1 : houM (t.drop (schP t)) = .ok (h, n1)) (e2 : dorM h (t.drop (schP t + n1)) = .ok (d, n2)) (e3 : wayM (decide (schM t ≠ [] ∨ h ≠ none)) (t.drop (schP t + n1 + n2)) = .ok (w, n3)) (e4 : queM (t.drop (schP t + n1 + n2 + n3)) = .ok (q, n4)) (e5 : marM (t.drop (schP t + n1 + n2 + n3 + n4)) = .error n) : readM t = .error (schP t + n1 + n2 + n3 + n4 + n) := by
 unfold readM; simp only [e1, e2, e3, e4, e5, lqI, iq6]
theorem tqk (e1 : houM (t.drop (schP t)) = .ok (h, n1)) (e2 : dorM h (t.drop (schP t + n1)) = .ok (d, n2)) (e3 : wayM (decide (schM t ≠ [] ∨ h ≠ none)) (t.drop (schP t + n1 + n2)) = .ok (w, n3)) (e4 : queM (t.drop (schP t + n1 + n2 + n3)) = .ok (q, n4)) (e5 : marM (t.drop (schP t + n1 + n2 + n3 + n4)) = .ok (m, n5)) :
  readM t = if schP t + n1 + n2 + n3 + n4 + n5 = t.length then .ok ⟨schM t, h, d, w.1, w.2.1, w.2.2, q, m⟩ else .error (schP t + n1 + n2 + n3 + n4 + n5) := by
 unfold readM; simp only [e1, e2, e3, e4, e5, lqI, iq6]
end
section
variable {r : List Nat} {n : Nat}
theorem hqC {fr : List Nat} {mo : Option Nat} {s : List Nat} (h : filM fr r mo = .ok (s, n)) : txtM fr r mo = .ok (s, n) ∧ s ≠ [] := by
 unfold filM at h
 cases e : txtM fr r mo with
 | error k => rw [e] at h; cases h
 | ok x =>
  obtain ⟨s', k⟩ := x
  rw [e] at h
  have h : (if s' = [] then (.error k : Rs (List Nat)) else .ok (s', k)) = .ok (s, n) := h
  by_cases hs : s' = []
  ·rw [if_pos hs] at h; cases h
  ·rw [if_neg hs] at h; cases h; exact ⟨rfl, hs⟩
theorem dqX {α : Type} {k : Nat} {x : Rs α} {a : α} (h : sh k x = .ok (a, n)) : ∃ m, x = .ok (a, m) ∧ n = k + m := by
 cases x with
 | error e => cases h
 | ok y => obtain ⟨y, m⟩ := y; cases h; exact ⟨m, rfl, rfl⟩
theorem dql {α β : Type} {f : α → β} {x : Rs α} {b : β} (h : mp f x = .ok (b, n)) : ∃ a, x = .ok (a, n) ∧ b = f a := by
 cases x with
 | error e => cases h
 | ok y => obtain ⟨y, m⟩ := y; cases h; exact ⟨y, rfl, rfl⟩
theorem gqs {α β : Type} {x : Rs α} {f : α → Nat → Rs β} {b : β} (h : bdR x f = .ok (b, n)) : ∃ a k m, x = .ok (a, k) ∧ f a k = .ok (b, m) ∧ n = k + m := by
 cases x with
 | error e => cases h
 | ok y =>
  obtain ⟨y, k⟩ := y
  obtain ⟨m, e, en⟩ := dqX (show sh k (f y k) = _ from h)
  exact ⟨y, k, m, rfl, e, en⟩
theorem cq3 {c : Nat} (h : r.head? = some c) : 1 ≤ r.length := by
 cases r with
 | nil => cases h
 | cons d r => simp
theorem qqy {o : Option (List Nat)} (h : houM r = .ok (o, n)) : n ≤ r.length := by
 unfold houM at h
 by_cases h2 : r.take 2 = [47, 47]
 ·rw [if_pos h2] at h
  obtain ⟨m, e, rfl⟩ := dqX h
  obtain ⟨a, e', rfl⟩ := dql e
  have h1 := (cqp (hqC e').1).1
  have h3 := congrArg List.length h2
  rw [List.length_take] at h3
  simp only [List.length_cons, List.length_nil] at h3
  rw [List.length_drop] at h1
  omega
 ·rw [if_neg h2] at h; cases h; omega
theorem tqb {o : Option (List Nat)} (h : valM r = .ok (o, n)) : n ≤ r.length := by
 unfold valM at h
 by_cases h2 : r.head? = some 61
 ·rw [if_pos h2] at h
  obtain ⟨m, e, rfl⟩ := dqX h
  obtain ⟨a, e', rfl⟩ := dql e
  have h1 := (cqp e').1
  have := cq3 h2
  rw [List.length_drop] at h1
  omega
 ·rw [if_neg h2] at h; cases h; omega
theorem vq4 {o : Option (List Nat)} (h : marM r = .ok (o, n)) : n ≤ r.length := by
 unfold marM at h
 by_cases h2 : r.head? = some 35
 ·rw [if_pos h2] at h
  obtain ⟨m, e, rfl⟩ := dqX h
  obtain ⟨a, e', rfl⟩ := dql e
  have h1 := (cqp e').1
  have := cq3 h2
  rw [List.length_drop] at h1
  omega
 ·rw [if_neg h2] at h; cases h; omega
theorem oqz : ∀ (r : List Nat) (k : Nat), k ≤ 65535 → (dooG r k).2 ≤ r.length ∧ (dooG r k).1 ≤ 65535
 | [], k, h => ⟨Nat.zero_le _, h⟩
 | c :: r, k, h => by
  unfold dooG
  by_cases hc : 0 < k ∧ 48 ≤ c ∧ c ≤ 57 ∧ k * 10 + (c - 48) ≤ 65535
  ·rw [if_pos hc]
   have := oqz r _ hc.2.2.2
   simp only [List.length_cons]
   exact ⟨by omega, this.2⟩
  ·rw [if_neg hc]; exact ⟨Nat.zero_le _, h⟩
theorem qq4 {o : Option Int} (h : dooM r = .ok (o, n)) : n ≤ r.length ∧ ∀ i, o = some i → 0 ≤ i ∧ i ≤ 65535 := by
 unfold dooM at h
 by_cases h2 : r.head? = some 58
 ·rw [if_pos h2] at h
  have hl := cq3 h2
  cases hd : r.drop 1 with
  | nil => rw [hd] at h; cases h
  | cons c r' =>
   rw [hd] at h
   have h : (if 48 ≤ c ∧ c ≤ 57 then (.ok (some ((dooG r' (c - 48)).1 : Int), 2 + (dooG r' (c - 48)).2) : Rs (Option Int)) else .error 1) = .ok (o, n) := h
   by_cases hc : 48 ≤ c ∧ c ≤ 57
   ·rw [if_pos hc] at h
    cases h
    have := oqz r' (c - 48) (by omega)
    have h3 := congrArg List.length hd
    rw [List.length_drop, List.length_cons] at h3
    exact ⟨by omega, fun i e => by cases e; omega⟩
   ·rw [if_neg hc] at h; cases h
 ·rw [if_neg h2] at h; cases h; exact ⟨Nat.zero_le _, fun i e => by cases e⟩
theorem tqu {ho : Option (List Nat)} {o : Option Int} (h : dorM ho r = .ok (o, n)) : n ≤ r.length ∧ ∀ i, o = some i → (0 ≤ i ∧ i ≤ 65535) ∧ ho ≠ none := by
 unfold dorM at h
 by_cases h2 : ho = none
 ·rw [if_pos h2] at h; cases h; exact ⟨Nat.zero_le _, fun i e => by cases e⟩
 ·rw [if_neg h2] at h
  exact ⟨(qq4 h).1, fun i e => ⟨(qq4 h).2 i e, h2⟩⟩
theorem rqC : ∀ (f : Nat) {r : List Nat} {e : Bool} {ss : List (List Nat)} {e' : Bool} {n : Nat}, stpF f r e = .ok ((ss, e'), n) → n ≤ r.length ∧ (∀ s ∈ ss, ∃ w, s ≠ [] ∧ WrT frS s w ∧ w.length ≤ r.length) ∧ ss.length ≤ n ∧ (ss = [] → e' = e)
 | 0, r, e, ss, e', n, h => by cases h; exact ⟨Nat.zero_le _, (fun s hs => by cases hs), Nat.le_refl _, fun _ => rfl⟩
 | f + 1, r, e, ss, e', n, h => by
  unfold stpF at h
  cases ht : txtM frS r none with
  | error k => rw [ht] at h; cases h
  | ok x =>
   obtain ⟨s, k⟩ := x
   rw [ht] at h
   have h : (if s = [] then (.ok (([], e), k) : Rs (List (List Nat) × Bool)) else if (r.drop k).head? = some 47 then sh (k + 1) (mp (fun x => (s :: x.1, x.2)) (stpF f (r.drop (k + 1)) true)) else sh k (mp (fun x => (s :: x.1, x.2)) (stpF f (r.drop k) false))) = .ok ((ss, e'), n) := h
   obtain ⟨t1, t2, t3⟩ := cqp ht
   by_cases hs : s = []
   ·rw [if_pos hs] at h; cases h; exact ⟨t1, (fun s hs => by cases hs), Nat.zero_le _, fun _ => rfl⟩
   rw [if_neg hs] at h
   have hk := t3 hs
   obtain ⟨w, r', e1, e2, e3, _⟩ := dq6 r.length (Nat.le_refl _) ht
   have fin : ∀ (b : Nat) (en : Bool) (k' : Nat), k ≤ k' → k' ≤ r.length → sh k' (mp (fun x => (s :: x.1, x.2)) (stpF f (r.drop k') en)) = .ok ((ss, e'), n) → n ≤ r.length ∧ (∀ s ∈ ss, ∃ w, s ≠ [] ∧ WrT frS s w ∧ w.length ≤ r.length) ∧ ss.length ≤ n ∧ (ss = [] → e' = e) := fun b en k' hkk hkl h => by
    obtain ⟨m, h2, rfl⟩ := dqX h
    obtain ⟨a, h3, ea⟩ := dql h2
    obtain ⟨as, ae⟩ := a
    cases ea
    obtain ⟨i1, i2, i3, i4⟩ := rqC f h3
    rw [List.length_drop] at i1 i2
    refine ⟨by omega, fun x hx => ?_, by simp only [List.length_cons]; omega, fun z => by cases z⟩
    rcases List.mem_cons.mp hx with rfl | hx
    ·exact ⟨w, hs, e3, by omega⟩
    ·obtain ⟨w, z1, z2, z3⟩ := i2 x hx
     exact ⟨w, z1, z2, by omega⟩
   by_cases h47 : (r.drop k).head? = some 47
   ·rw [if_pos h47] at h
    have := cq3 h47
    rw [List.length_drop] at this
    exact fin 0 true (k + 1) (by omega) (by omega) h
   ·rw [if_neg h47] at h
    exact fin 0 false k (Nat.le_refl _) t1 h
theorem pq1 {must : Bool} {w : Bool × List (List Nat) × Bool} (h : wayM must r = .ok (w, n)) : n ≤ r.length ∧ (∀ s ∈ w.2.1, ∃ v, s ≠ [] ∧ WrT frS s v ∧ v.length ≤ r.length) ∧ w.2.1.length ≤ n ∧ (w.2.1 = [] → w.2.2 = w.1) ∧ (must = true → w.1 = true) := by
 unfold wayM at h
 by_cases h1 : r.head? = some 47
 ·rw [if_pos h1] at h
  obtain ⟨m, h2, rfl⟩ := dqX h
  obtain ⟨a, h3, rfl⟩ := dql h2
  obtain ⟨as, ae⟩ := a
  obtain ⟨i1, i2, i3, i4⟩ := rqC _ h3
  have := cq3 h1
  rw [List.length_drop] at i1 i2
  refine ⟨by omega, fun s hs => ?_, by show as.length ≤ _; omega, i4, fun _ => rfl⟩
  obtain ⟨v, z1, z2, z3⟩ := i2 s hs
  exact ⟨v, z1, z2, by omega⟩
 ·rw [if_neg h1] at h
  by_cases h2 : must = true
  ·rw [if_pos h2] at h
   cases h
   exact ⟨Nat.zero_le _, (fun s hs => by cases hs), Nat.zero_le _, fun _ => rfl, fun _ => rfl⟩
  ·rw [if_neg h2] at h
   obtain ⟨a, h3, rfl⟩ := dql h
   obtain ⟨as, ae⟩ := a
   obtain ⟨i1, i2, i3, i4⟩ := rqC _ h3
   exact ⟨i1, i2, i3, i4, fun z => absurd z h2⟩
end
def Tk {α : Type} (CN : Addr) (H : Hp) (C p : Addr) (t : List Nat) (i : Nat) (r : Rs α) (ok : α → Hp → Prop) (E : XK) : Prop :=
 (∀ a n, r = .ok (a, n) → ∀ H', SameBut p H H' → Cur H' C p t (i + n) → ok a H') ∧
 (∀ n, r = .error n → ∀ d H', SameBut p H H' → H' d = some (.xd [("at", .int ((i + n : Nat) : Int))]) → E (.ref CN) (some d) H')
section
variable {r : List Nat} {n : Nat}
theorem tqh {o : Option (List Nat)} (h : valM r = .ok (o, n)) : n ≤ r.length ∧ ∀ s, o = some s → ∃ w, WrT frQ s w ∧ w.length ≤ r.length := by
 refine ⟨tqb h, fun s es => ?_⟩
 unfold valM at h
 by_cases h2 : r.head? = some 61
 ·rw [if_pos h2] at h
  obtain ⟨m, e, rfl⟩ := dqX h
  obtain ⟨a, e', rfl⟩ := dql e
  cases es
  obtain ⟨w, r', e1, e2, e3, _⟩ := dq6 _ (Nat.le_refl _) e'
  refine ⟨w, e3, ?_⟩
  have := congrArg List.length e1
  rw [List.length_drop, List.length_append] at this
  omega
 ·rw [if_neg h2] at h; cases h; cases es
theorem sq8 {o : Option (List Nat)} (h : marM r = .ok (o, n)) : n ≤ r.length ∧ ∀ s, o = some s → ∃ w, WrT frM s w ∧ w.length ≤ r.length := by
 refine ⟨vq4 h, fun s es => ?_⟩
 unfold marM at h
 by_cases h2 : r.head? = some 35
 ·rw [if_pos h2] at h
  obtain ⟨m, e, rfl⟩ := dqX h
  obtain ⟨a, e', rfl⟩ := dql e
  cases es
  obtain ⟨w, r', e1, e2, e3, _⟩ := dq6 _ (Nat.le_refl _) e'
  refine ⟨w, e3, ?_⟩
  have := congrArg List.length e1
  rw [List.length_drop, List.length_append] at this
  omega
 ·rw [if_neg h2] at h; cases h; cases es
theorem wqj {o : Option (List Nat)} (h : houM r = .ok (o, n)) : n ≤ r.length ∧ ∀ s, o = some s → s ≠ [] ∧ s.length ≤ 60 ∧ ∃ w, WrT [] s w := by
 refine ⟨qqy h, fun s es => ?_⟩
 unfold houM at h
 by_cases h2 : r.take 2 = [47, 47]
 ·rw [if_pos h2] at h
  obtain ⟨m, e, rfl⟩ := dqX h
  obtain ⟨a, e', rfl⟩ := dql e
  cases es
  obtain ⟨e1, e2⟩ := hqC e'
  obtain ⟨w, r', z1, z2, z3, z4, z5⟩ := dq6 _ (Nat.le_refl _) e1
  exact ⟨e2, z5 60 rfl, w, z3⟩
 ·rw [if_neg h2] at h; cases h; cases es
def PrOk (k : Nat) (p : List Nat × Option (List Nat)) : Prop := (p.1 ≠ [] ∧ ∃ w, WrT frQ p.1 w ∧ w.length ≤ k) ∧ ∀ s, p.2 = some s → ∃ w, WrT frQ s w ∧ w.length ≤ k
theorem PrOk.mono {k k' : Nat} {p : List Nat × Option (List Nat)} (h : PrOk k p) (z : k ≤ k') : PrOk k' p :=
 ⟨⟨h.1.1, let ⟨w, a, b⟩ := h.1.2; ⟨w, a, Nat.le_trans b z⟩⟩, fun s e => let ⟨w, a, b⟩ := h.2 s e; ⟨w, a, Nat.le_trans b z⟩⟩
theorem sq1 : ∀ (f : Nat) {r : List Nat} {l : List (List Nat × Option (List Nat))} {n : Nat}, prsF f r = .ok (l, n) → n ≤ r.length ∧ (∀ p ∈ l, PrOk r.length p) ∧ l.length ≤ n
 | 0, r, l, n, h => by cases h; exact ⟨Nat.zero_le _, (fun s hs => by cases hs), Nat.le_refl _⟩
 | f + 1, r, l, n, h => by
  unfold prsF at h
  by_cases h2 : r.head? = some 38
  ·rw [if_pos h2] at h
   obtain ⟨m, h3, rfl⟩ := dqX h
   obtain ⟨s, k, m2, e1, h4, rfl⟩ := gqs h3
   obtain ⟨v, k2, m3, e2, h5, rfl⟩ := gqs h4
   obtain ⟨l', h6, rfl⟩ := dql h5
   obtain ⟨i1, i2, i3⟩ := sq1 f h6
   obtain ⟨t1, t2⟩ := hqC e1
   obtain ⟨w, r', z1, z2, z3, _⟩ := dq6 _ (Nat.le_refl _) t1
   have hh := cq3 h2
   have tl := (cqp t1).1
   have vl := tqh e2
   rw [List.length_drop] at i1 i2 tl vl
   have wl := congrArg List.length z1
   rw [List.length_drop, List.length_append] at wl
   refine ⟨by omega, fun p hp => ?_, by simp only [List.length_cons]; omega⟩
   rcases List.mem_cons.mp hp with rfl | hp
   ·exact ⟨⟨t2, w, z3, by omega⟩, fun s e => let ⟨w, a, b⟩ := vl.2 s e; ⟨w, a, by omega⟩⟩
   ·exact (i2 p hp).mono (by omega)
  ·rw [if_neg h2] at h; cases h; exact ⟨Nat.zero_le _, (fun s hs => by cases hs), Nat.zero_le _⟩
theorem qq1 {o : Option (List (List Nat × Option (List Nat)))} (h : queM r = .ok (o, n)) : n ≤ r.length ∧ ∀ l, o = some l → (∀ p ∈ l, PrOk r.length p) ∧ l.length ≤ n := by
 unfold queM at h
 by_cases h2 : r.head? = some 63
 ·rw [if_pos h2] at h
  obtain ⟨m, h3, rfl⟩ := dqX h
  obtain ⟨s, k, m2, e1, h4, rfl⟩ := gqs h3
  have hh := cq3 h2
  have tl := (cqp e1).1
  rw [List.length_drop] at tl
  have h4 : (if s = [] then (.ok (some [], 0) : Rs (Option (List (List Nat × Option (List Nat))))) else bdR (valM (r.drop (1 + k))) fun v m => mp (fun l => some ((s, v) :: l)) (prsF (r.length + 1) (r.drop (1 + k + m)))) = .ok (o, m2) := h4
  by_cases hs : s = []
  ·rw [if_pos hs] at h4
   cases h4
   exact ⟨by omega, fun l e => by cases e; exact ⟨(fun s hs => by cases hs), Nat.zero_le _⟩⟩
  ·rw [if_neg hs] at h4
   obtain ⟨v, k2, m3, e2, h5, rfl⟩ := gqs h4
   obtain ⟨l', h6, rfl⟩ := dql h5
   obtain ⟨i1, i2, i3⟩ := sq1 _ h6
   obtain ⟨w, r', z1, z2, z3, _⟩ := dq6 _ (Nat.le_refl _) e1
   have vl := tqh e2
   rw [List.length_drop] at i1 i2 vl
   have wl := congrArg List.length z1
   rw [List.length_drop, List.length_append] at wl
   have hk := (cqp e1).2.2 hs
   refine ⟨by omega, fun l e => ?_⟩
   cases e
   refine ⟨fun p hp => ?_, by simp only [List.length_cons]; omega⟩
   rcases List.mem_cons.mp hp with rfl | hp
   ·exact ⟨⟨hs, w, z3, by omega⟩, fun s e => let ⟨w, a, b⟩ := vl.2 s e; ⟨w, a, by omega⟩⟩
   ·exact (i2 p hp).mono (by omega)
 ·rw [if_neg h2] at h; cases h; exact ⟨Nat.zero_le _, fun l e => by cases e⟩
end
theorem kqI {α β : Type} {x : Rs α} {i : Nat} {f : α → Nat → Except Nat β} {b : β} (h : bdA x i f = .ok b) : ∃ a n, x = .ok (a, n) ∧ f a (i + n) = .ok b := by
 cases x with
 | error e => cases h
 | ok y => obtain ⟨a, n⟩ := y; exact ⟨a, n, rfl, h⟩
theorem mqa {t : List Nat} {x : Ad} (e : readM t = .ok x) : ∃ n1 n2 n3 n4 n5, houM (t.drop (schP t)) = .ok (x.house, n1) ∧ dorM x.house (t.drop (schP t + n1)) = .ok (x.door, n2) ∧ wayM (decide (schM t ≠ [] ∨ x.house ≠ none)) (t.drop (schP t + n1 + n2)) = .ok ((x.rooted, x.steps, x.ends), n3) ∧
  queM (t.drop (schP t + n1 + n2 + n3)) = .ok (x.quest, n4) ∧ marM (t.drop (schP t + n1 + n2 + n3 + n4)) = .ok (x.mark, n5) ∧ schP t + n1 + n2 + n3 + n4 + n5 = t.length ∧ x.scheme = schM t := by
 unfold readM at e
 obtain ⟨h, n1, e1, e⟩ := kqI e
 obtain ⟨d, n2, e2, e⟩ := kqI e
 obtain ⟨w, n3, e3, e⟩ := kqI e
 obtain ⟨q, n4, e4, e⟩ := kqI e
 obtain ⟨m, n5, e5, e⟩ := kqI e
 by_cases hl : schP t + n1 + n2 + n3 + n4 + n5 = t.length
 ·rw [if_pos hl] at e
  cases e
  exact ⟨n1, n2, n3, n4, n5, e1, e2, e3, e4, e5, hl, rfl⟩
 ·rw [if_neg hl] at e; cases e
theorem wqy : ∀ c ∈ frS, isSg c = true := by decide +kernel
theorem tqa : ∀ c ∈ frQ, isSg c = true := by decide +kernel
theorem wqP : ∀ c ∈ frM, isSg c = true := by decide +kernel
theorem xqe {c : Nat} (h : isPl c = true) : isSg c = true := by
 simp only [isPl, isSg, Bool.or_eq_true, Bool.and_eq_true, decide_eq_true_eq, Bool.not_eq_true', decide_eq_false_iff_not] at *
 omega
theorem nqX {fr s w : List Nat} (hf : ∀ c ∈ fr, isSg c = true) (h : WrT fr s w) : ∀ c ∈ s, isSg c = true := by
 induction h with
 | nil => intro c hc; cases hc
 | self a _ _ ih =>
  intro c hc
  rcases List.mem_cons.mp hc with rfl | hc
  ·exact a.elim xqe (hf _)
  ·exact ih c hc
 | pair a _ ih =>
  intro c hc
  rcases List.mem_cons.mp hc with rfl | hc
  ·exact (kqJ a).2.2.2
  ·exact ih c hc
theorem vqq (t : List Nat) : (schM t).length ≤ 8 ∧ (∀ c ∈ schM t, isAln c = true) ∧ ∀ c ∈ (schM t).take 1, isLet c = true := by
 by_cases h : ahead t ≠ [] ∧ schD (.str ⟨(ahead t).toArray⟩) = true ∧ t[(ahead t).length]? = some 58
 ·rw [(hqe h.1 h.2.1 h.2.2).1]
  have h2 := h.2.1
  simp only [schD, Bool.and_eq_true, List.all_eq_true, decide_eq_true_eq] at h2
  exact ⟨h2.1.1.2, h2.2, h2.1.2⟩
 ·rw [(hq0 h).1]
  exact ⟨Nat.zero_le _, (fun c hc => by cases hc), fun c hc => by cases hc⟩
theorem oqf (t : List Nat) : schP t ≤ t.length := by
 by_cases h : ahead t ≠ [] ∧ schD (.str ⟨(ahead t).toArray⟩) = true ∧ t[(ahead t).length]? = some 58
 ·rw [(hqe h.1 h.2.1 h.2.2).2, List.length_append, List.length_singleton]
  have := (List.getElem?_eq_some_iff.mp h.2.2).1
  omega
 ·rw [(hq0 h).2]; exact Nat.zero_le _
theorem uq8 {t : List Nat} {x : Ad} (e : readM t = .ok x) : x.Wf := by
 obtain ⟨n1, n2, n3, n4, n5, e1, e2, e3, e4, e5, hl, es⟩ := mqa e
 have w3 := pq1 e3
 have q4 := qq1 e4
 have m5 := sq8 e5
 refine ⟨by rw [es]; exact vqq t, fun l z => ?_, fun i z => (tqu e2).2 i z, fun s hs => ?_, fun z => ?_, w3.2.2.2.1, fun ps z p hp => ?_, fun l z => ?_⟩
 ·obtain ⟨h1, h2, w, h3⟩ := (wqj e1).2 l z
  exact ⟨⟨List.length_pos_iff.mpr h1, h2⟩, nqX (fun c hc => by cases hc) h3⟩
 ·obtain ⟨w, h1, h2, _⟩ := w3.2.1 s hs
  exact ⟨List.length_pos_iff.mpr h1, nqX wqy h2⟩
 ·refine w3.2.2.2.2 (decide_eq_true ?_)
  rw [es] at z
  exact z
 ·obtain ⟨⟨h1, w, h2, _⟩, h3⟩ := (q4.2 ps z).1 p hp
  exact ⟨⟨List.length_pos_iff.mpr h1, nqX tqa h2⟩, fun v ev => let ⟨w, a, _⟩ := h3 v ev; nqX tqa a⟩
 ·obtain ⟨w, h1, _⟩ := m5.2 l z
  exact nqX wqP h1
def sumL (l : List (List Nat)) : Nat := (l.map List.length).sum
theorem eq1 (s : List Nat) (l : List (List Nat)) : sumL (s :: l) = s.length + sumL l := by unfold sumL; rw [List.map_cons, List.sum_cons]
theorem rqK (sep : Nat) : ∀ l : List (List Nat), (tlT sep l).length = sumL l + l.length
 | [] => rfl
 | s :: r => by
  have := rqK sep r
  rw [eq1, tlT, List.length_cons, List.length_append, List.length_cons]; omega
theorem oq0 (sep : Nat) (l : List (List Nat)) : (joinT sep l).length ≤ sumL l + l.length := by
 cases l with
 | nil => exact Nat.zero_le _
 | cons s r =>
  have := rqK sep r
  rw [eq1, joinT, List.length_append, List.length_cons]; omega
theorem tq2 (l : List (List Nat)) : sumL (l.map wr) ≤ 3 * sumL l := by
 induction l with
 | nil => exact Nat.le_refl _
 | cons s r ih => rw [List.map_cons, eq1, eq1]; have := nqm s; omega
theorem oqN : ∀ (f : Nat) {r : List Nat} {e : Bool} {ss : List (List Nat)} {e' : Bool} {n : Nat}, stpF f r e = .ok ((ss, e'), n) → sumL ss ≤ n
 | 0, r, e, ss, e', n, h => by cases h; exact Nat.le_refl _
 | f + 1, r, e, ss, e', n, h => by
  unfold stpF at h
  cases ht : txtM frS r none with
  | error k => rw [ht] at h; cases h
  | ok x =>
   obtain ⟨s, k⟩ := x
   rw [ht] at h
   have h : (if s = [] then (.ok (([], e), k) : Rs (List (List Nat) × Bool)) else if (r.drop k).head? = some 47 then sh (k + 1) (mp (fun x => (s :: x.1, x.2)) (stpF f (r.drop (k + 1)) true)) else sh k (mp (fun x => (s :: x.1, x.2)) (stpF f (r.drop k) false))) = .ok ((ss, e'), n) := h
   have t2 := (cqp ht).2.1
   by_cases hs : s = []
   ·rw [if_pos hs] at h; cases h; exact Nat.zero_le _
   rw [if_neg hs] at h
   have fin : ∀ (en : Bool) (k' : Nat), k ≤ k' → sh k' (mp (fun x => (s :: x.1, x.2)) (stpF f (r.drop k') en)) = .ok ((ss, e'), n) → sumL ss ≤ n := fun en k' hkk h => by
    obtain ⟨m, h2, rfl⟩ := dqX h
    obtain ⟨a, h3, ea⟩ := dql h2
    obtain ⟨as, ae⟩ := a
    cases ea
    have := oqN f h3
    rw [eq1]
    show s.length + sumL as ≤ _
    omega
   by_cases h47 : (r.drop k).head? = some 47
   ·rw [if_pos h47] at h; exact fin true (k + 1) (by omega) h
   ·rw [if_neg h47] at h; exact fin false k (Nat.le_refl _) h
theorem uqA {must : Bool} {r : List Nat} {n : Nat} {w : Bool × List (List Nat) × Bool} (h : wayM must r = .ok (w, n)) : sumL w.2.1 ≤ n := by
 unfold wayM at h
 by_cases h1 : r.head? = some 47
 ·rw [if_pos h1] at h
  obtain ⟨m, h2, rfl⟩ := dqX h
  obtain ⟨a, h3, rfl⟩ := dql h2
  obtain ⟨as, ae⟩ := a
  have := oqN _ h3
  show sumL as ≤ _
  omega
 ·rw [if_neg h1] at h
  by_cases h2 : must = true
  ·rw [if_pos h2] at h; cases h; exact Nat.zero_le _
  ·rw [if_neg h2] at h
   obtain ⟨a, h3, rfl⟩ := dql h
   obtain ⟨as, ae⟩ := a
   exact oqN _ h3
def prL (p : List Nat × Option (List Nat)) : Nat := p.1.length + (p.2.getD []).length
def sumP (l : List (List Nat × Option (List Nat))) : Nat := (l.map prL).sum
theorem iqv (p : List Nat × Option (List Nat)) (l : List (List Nat × Option (List Nat))) : sumP (p :: l) = prL p + sumP l := by unfold sumP; rw [List.map_cons, List.sum_cons]
theorem qqU {r : List Nat} {n : Nat} {o : Option (List Nat)} (h : valM r = .ok (o, n)) : (o.getD []).length ≤ n := by
 unfold valM at h
 by_cases h2 : r.head? = some 61
 ·rw [if_pos h2] at h
  obtain ⟨m, e, rfl⟩ := dqX h
  obtain ⟨a, e', rfl⟩ := dql e
  have := (cqp e').2.1
  show a.length ≤ _
  omega
 ·rw [if_neg h2] at h; cases h; exact Nat.zero_le _
theorem qqY : ∀ (f : Nat) {r : List Nat} {l : List (List Nat × Option (List Nat))} {n : Nat}, prsF f r = .ok (l, n) → sumP l ≤ n
 | 0, r, l, n, h => by cases h; exact Nat.le_refl _
 | f + 1, r, l, n, h => by
  unfold prsF at h
  by_cases h2 : r.head? = some 38
  ·rw [if_pos h2] at h
   obtain ⟨m, h3, rfl⟩ := dqX h
   obtain ⟨s, k, m2, e1, h4, rfl⟩ := gqs h3
   obtain ⟨v, k2, m3, e2, h5, rfl⟩ := gqs h4
   obtain ⟨l', h6, rfl⟩ := dql h5
   have i1 := qqY f h6
   have t1 := (cqp (hqC e1).1).2.1
   have v1 := qqU e2
   rw [iqv]
   show s.length + (v.getD []).length + _ ≤ _
   omega
  ·rw [if_neg h2] at h; cases h; exact Nat.zero_le _
theorem uqk {r : List Nat} {n : Nat} {o : Option (List (List Nat × Option (List Nat)))} (h : queM r = .ok (o, n)) : ∀ l, o = some l → sumP l ≤ n := by
 intro l el
 unfold queM at h
 by_cases h2 : r.head? = some 63
 ·rw [if_pos h2] at h
  obtain ⟨m, h3, rfl⟩ := dqX h
  obtain ⟨s, k, m2, e1, h4, rfl⟩ := gqs h3
  have h4 : (if s = [] then (.ok (some [], 0) : Rs (Option (List (List Nat × Option (List Nat))))) else bdR (valM (r.drop (1 + k))) fun v m => mp (fun l => some ((s, v) :: l)) (prsF (r.length + 1) (r.drop (1 + k + m)))) = .ok (o, m2) := h4
  by_cases hs : s = []
  ·rw [if_pos hs] at h4; cases h4; cases el; exact Nat.zero_le _
  ·rw [if_neg hs] at h4
   obtain ⟨v, k2, m3, e2, h5, rfl⟩ := gqs h4
   obtain ⟨l', h6, rfl⟩ := dql h5
   cases el
   have i1 := qqY _ h6
   have t1 := (cqp e1).2.1
   have v1 := qqU e2
   rw [iqv]
   show s.length + (v.getD []).length + _ ≤ _
   omega
 ·rw [if_neg h2] at h; cases h; cases el
theorem sqO {l : List (List Nat)} {s : List Nat} (h : s ∈ l) : s.length ≤ sumL l := by
 induction l with
 | nil => cases h
 | cons a l ih =>
  rw [eq1]
  rcases List.mem_cons.mp h with rfl | h
  ·omega
  ·have := ih h; omega
theorem rq5 {l : List (List Nat × Option (List Nat))} {p : List Nat × Option (List Nat)} (h : p ∈ l) : prL p ≤ sumP l := by
 induction l with
 | nil => cases h
 | cons a l ih =>
  rw [iqv]
  rcases List.mem_cons.mp h with rfl | h
  ·omega
  ·have := ih h; omega
theorem qq3 (l : List (List Nat × Option (List Nat))) : sumL (l.map pairT) ≤ 3 * sumP l + l.length := by
 induction l with
 | nil => exact Nat.le_refl _
 | cons p l ih =>
  rw [List.map_cons, eq1, iqv, List.length_cons]
  have h1 := nqm p.1
  have h2 : (oT 61 p.2).length ≤ 1 + 3 * (p.2.getD []).length := by
   cases h : p.2 with
   | none => exact Nat.zero_le _
   | some v => have := nqm v; show (61 :: wr v).length ≤ _; simp only [List.length_cons, Option.getD_some]; omega
  have : (pairT p).length ≤ 3 * prL p + 1 := by unfold pairT prL; rw [List.length_append]; omega
  omega
structure Ad.Lim (x : Ad) : Prop where
 stp : sumL x.steps ≤ 2000 ∧ x.steps.length ≤ 2000
 que : ∀ ps, x.quest = some ps → sumP ps ≤ 2000 ∧ ps.length ≤ 2000
 mar : ∀ l, x.mark = some l → l.length ≤ 2000
theorem Ad.Lim.sz {x : Ad} (h : x.Lim) (wf : x.Wf) : x.Sz where
 stp := fun s hs => by have := sqO hs; have := h.stp.1; omega
 que := fun ps e => ⟨by have := (h.que ps e).2; omega, fun p hp => by
  have h1 := rq5 hp
  have h2 := (h.que ps e).1
  unfold prL at h1
  refine ⟨by omega, fun v hv => ?_⟩
  rw [hv] at h1
  have h1 : p.1.length + v.length ≤ sumP ps := h1
  omega⟩
 mar := fun l e => by have := h.mar l e; omega
 num := by have := h.stp.2; omega
 all := by
  have a1 : (schT x.scheme).length ≤ 9 := by
   unfold schT
   split
   ·simp
   ·have := wf.sch.1; simp only [List.length_append, List.length_cons, List.length_nil]; omega
  have a2 : (houT x.house).length ≤ 200 := by
   cases hh : x.house with
   | none => simp [houT]
   | some l => have := (wf.hou l hh).1.2; have := nqm l; simp only [houT, List.length_cons]; omega
  have a3 : (dooT x.door).length ≤ 6 := by
   cases hh : x.door with
   | none => simp [dooT]
   | some i => have b := (wf.doo i hh).1; have := tqv b.1 b.2; simp only [dooT, List.length_cons]; omega
  have a4 : x.wayT.length ≤ 9000 := by
   have h1 := oq0 47 (x.steps.map wr)
   have h2 := tq2 x.steps
   rw [List.length_map] at h1
   have := h.stp
   have e1 : (if x.rooted then [47] else [] : List Nat).length ≤ 1 := by split <;> simp
   have e2 : (if x.ends && !x.steps.isEmpty then [47] else [] : List Nat).length ≤ 1 := by split <;> simp
   simp only [Ad.wayT, Wm.wayT, List.length_append]
   omega
  have a5 : (queT x.quest).length ≤ 11000 := by
   cases hq : x.quest with
   | none => simp [queT]
   | some ps =>
    have hk := h.que ps hq
    have h1 := oq0 38 (ps.map pairT)
    have h2 := qq3 ps
    rw [List.length_map] at h1
    simp only [queT, List.length_cons]
    omega
  have a6 := vqt (sep := 35) (n := 2000) (o := x.mark) fun l e => h.mar l e
  simp only [Ad.shw, List.length_append]
  omega
theorem qqI {t : List Nat} {x : Ad} (e : readM t = .ok x) (hl : t.length ≤ 2000) : x.Lim := by
 obtain ⟨n1, n2, n3, n4, n5, e1, e2, e3, e4, e5, he, es⟩ := mqa e
 have w1 : x.steps.length ≤ n3 := (pq1 e3).2.2.1
 have w2 : sumL x.steps ≤ n3 := uqA e3
 have q1 := qq1 e4
 have q2 := uqk e4
 have m1 := sq8 e5
 refine ⟨⟨by omega, by omega⟩, fun ps h => ?_, fun l h => ?_⟩
 ·have a := q2 ps h
  have b := (q1.2 ps h).2
  omega
 ·obtain ⟨w, a, b⟩ := m1.2 l h
  have := oqt a
  rw [List.length_drop] at b
  omega
section
variable {r : List Nat}
theorem lqA {α : Type} {c : α} {k n : Nat} {x : Rs (List α)} {s : List α} (h : pre c k x = .ok (s, n)) : ∃ s' m, x = .ok (s', m) ∧ s = c :: s' ∧ n = k + m := by
 cases x with
 | error e => cases h
 | ok y => obtain ⟨y, m⟩ := y; cases h; exact ⟨y, m, rfl, rfl, rfl⟩
theorem jqe {α : Type} {c : α} {k n : Nat} {x : Rs (List α)} (h : pre c k x = .error n) : ∃ m, x = .error m ∧ n = k + m := by
 cases x with
 | error e => cases h; exact ⟨e, rfl, rfl⟩
 | ok y => cases h
theorem tqs {α : Type} {k n : Nat} {x : Rs α} (h : sh k x = .error n) : ∃ m, x = .error m ∧ n = k + m := by
 cases x with
 | error e => cases h; exact ⟨e, rfl, rfl⟩
 | ok y => cases h
theorem tqe {α β : Type} {f : α → β} {n : Nat} {x : Rs α} (h : mp f x = .error n) : x = .error n := by
 cases x with
 | error e => cases h; rfl
 | ok y => cases h
structure Loc {α : Type} (M : List Nat → Rs α) (p r : List Nat) : Prop where
 ok : ∀ a n, M p = .ok (a, n) → n < p.length → M (p ++ r) = .ok (a, n)
 err : ∀ n, M p = .error n → n < p.length → M (p ++ r) = .error n
end
theorem qqA {c : Nat} (h : isAln c = true) : isPl c = true := by
 simp only [isAln, isLet, isPl, Bool.or_eq_true, decide_eq_true_eq] at *
 omega
inductive Au where
 | start | scheme (n : Nat) | colon | slash (b : Bool) | slashes | house (n : Nat) | door (v : Int) | step | between | first | name | value | next | mark
 | pair (g : Au) | second (g : Au) (c : Nat)
deriving DecidableEq
def auS (g : Au) (c : Nat) (fr : List Nat) : List Au := if c = 126 then [.pair g] else if isPl c = true ∨ c ∈ fr then [g] else []
def auE (c : Nat) : List (Nat × Au) → List Au
 | [] => []
 | (e, g) :: l => if c = e then g :: auE c l else auE c l
def isDg (c : Nat) : Bool := decide (48 ≤ c) && decide (c ≤ 57)
def tailE (c : Nat) : List Au := auE c [(63, .first), (35, .mark)]
def move : Au → Nat → List Au
 | .start, c => auS .step c frS ++ ((if isAln c = true ∧ isDg c = false then [.scheme 1] else []) ++ (auE c [(47, .slash true)] ++ tailE c))
 | .scheme n, c => (if isAln c = true ∧ n < 8 then [.scheme (n + 1)] else []) ++ auE c [(58, .colon)]
 | .colon, c => auE c [(47, .slash true)] ++ tailE c
 | .slash b, c => auS .step c frS ++ ((if b = true then auE c [(47, .slashes)] else []) ++ tailE c)
 | .slashes, c => auS (.house 1) c []
 | .house n, c => (if n < 60 then auS (.house (n + 1)) c [] else []) ++ (auE c [(58, .door (-1))] ++ auE c [(47, .slash false), (63, .first), (35, .mark)])
 | .door v, c => (if isDg c = true then (if v ≠ 0 ∧ max v 0 * 10 + ((c - 48 : Nat) : Int) ≤ 65535 then [.door (max v 0 * 10 + ((c - 48 : Nat) : Int))] else []) else []) ++ (if v ≠ -1 then auE c [(47, .slash false), (63, .first), (35, .mark)] else [])
 | .step, c => auS .step c frS ++ (auE c [(47, .between)] ++ tailE c)
 | .between, c => auS .step c frS ++ tailE c
 | .mark, c => auS .mark c frM
 | .value, c => auS .value c frQ ++ (auE c [(38, .next)] ++ auE c [(35, .mark)])
 | .name, c => auS .name c frQ ++ (auE c [(61, .value)] ++ (auE c [(38, .next)] ++ auE c [(35, .mark)]))
 | .first, c => auS .name c frQ ++ auE c [(35, .mark)]
 | .next, c => auS .name c frQ
 | .pair g, c => if c ∈ fsF then [.second g c] else []
 | .second g a, c => if (sgO a c).isSome = true then [g] else []
def mayEnd : Au → Bool
 | .door v => decide (v ≠ -1)
 | .scheme _ | .slashes | .next | .pair _ | .second _ _ => false
 | _ => true
def runA : List Au → List Nat → Nat → Int
 | S, [], i => if S.any mayEnd = true then -1 else (i : Int)
 | S, c :: r, i => if S.flatMap (move · c) = [] then (i : Int) else runA (S.flatMap (move · c)) r (i + 1)
def outM : Except Nat Ad → Int
 | .ok _ => -1
 | .error k => (k : Int)
section
variable {r : List Nat} {i c : Nat} {s g : Au}
theorem hq8 : runA [s] [] i = if mayEnd s = true then -1 else (i : Int) := by simp [runA]
theorem cqv (h : move s c = [g]) : runA [s] (c :: r) i = runA [g] r (i + 1) := by
 show (if [s].flatMap (move · c) = [] then (i : Int) else runA ([s].flatMap (move · c)) r (i + 1)) = _
 rw [List.flatMap_cons, List.flatMap_nil, List.append_nil, h, if_neg (by simp)]
theorem jqC (h : move s c = []) : runA [s] (c :: r) i = (i : Int) := by
 show (if [s].flatMap (move · c) = [] then (i : Int) else runA ([s].flatMap (move · c)) r (i + 1)) = _
 rw [List.flatMap_cons, List.flatMap_nil, List.append_nil, h, if_pos rfl]
theorem hqj {n : Nat} : (∀ n, prM r = .error n → runA [.pair g] r i = ((i + n : Nat) : Int)) ∧ ∀ c n, prM r = .ok (c, n) → runA [.pair g] r i = runA [g] (r.drop n) (i + n) := by
 match r with
 | [] =>
  refine ⟨fun n h => ?_, fun c n h => by cases h⟩
  cases h
  rw [hq8]; rfl
 | [a] =>
  have e : prM [a] = if a ∈ fsF then .error 1 else .error 0 := rfl
  rw [e]
  by_cases hf : a ∈ fsF
  ·rw [if_pos hf]
   refine ⟨fun n h => ?_, fun c n h => by cases h⟩
   cases h
   rw [cqv (g := .second g a) (by show (if a ∈ fsF then _ else _) = _; rw [if_pos hf]), hq8]; rfl
  ·rw [if_neg hf]
   refine ⟨fun n h => ?_, fun c n h => by cases h⟩
   cases h
   rw [jqC (by show (if a ∈ fsF then _ else _) = _; rw [if_neg hf])]; rfl
 | a :: b :: r =>
  have e : prM (a :: b :: r) = if a ∈ fsF then (match sgO a b with | some c => (.ok (c, 2) : Rs Nat) | none => .error 1) else .error 0 := rfl
  rw [e]
  by_cases hf : a ∈ fsF
  ·rw [if_pos hf, cqv (g := .second g a) (by show (if a ∈ fsF then _ else _) = _; rw [if_pos hf])]
   cases hs : sgO a b with
   | none =>
    refine ⟨fun n h => ?_, fun c n h => by cases h⟩
    cases h
    rw [jqC (by show (if (sgO a b).isSome = true then _ else _) = _; rw [hs]; rfl)]
   | some d =>
    refine ⟨(fun n h => by cases h), fun c n h => ?_⟩
    cases h
    rw [cqv (g := g) (by show (if (sgO a b).isSome = true then _ else _) = _; rw [hs]; rfl)]
    rfl
  ·rw [if_neg hf]
   refine ⟨fun n h => ?_, fun c n h => by cases h⟩
   cases h
   rw [jqC (by show (if a ∈ fsF then _ else _) = _; rw [if_neg hf])]; rfl
def Takes (s g : Au) (fr : List Nat) : Prop := ∀ c, (c = 126 ∨ isPl c = true ∨ c ∈ fr) → move s c = auS g c fr
theorem dqm {l : List (Nat × Au)} (h : ∀ p ∈ l, c ≠ p.1) : auE c l = [] := by
 induction l with
 | nil => rfl
 | cons p l ih =>
  obtain ⟨e, g⟩ := p
  unfold auE
  rw [if_neg (h (e, g) (List.mem_cons_self ..))]
  exact ih fun q hq => h q (List.mem_cons_of_mem _ hq)
theorem uqa {fr : List Nat} : ∀ (k : Nat) {r : List Nat} {s g : Au} {i : Nat}, r.length ≤ k → Takes s g fr → Takes g g fr →
  (∀ n, txtM fr r none = .error n → runA [s] r i = ((i + n : Nat) : Int)) ∧ ∀ w n, txtM fr r none = .ok (w, n) → w ≠ [] → runA [s] r i = runA [g] (r.drop n) (i + n) := by
 intro k
 induction k with
 | zero =>
  intro r s g i hk _ _
  have hr : r = [] := List.length_eq_zero_iff.mp (by omega)
  subst hr
  exact ⟨fun n h => (by rw [cqI] at h; cases h), fun w n h hw => by rw [cqI] at h; cases h; exact absurd rfl hw⟩
 | succ k ih =>
  intro r s g i hk hs hg
  cases r with
  | nil => exact ⟨fun n h => (by rw [cqI] at h; cases h), fun w n h hw => by rw [cqI] at h; cases h; exact absurd rfl hw⟩
  | cons c r =>
   simp only [List.length_cons] at hk
   have h0 : (none : Option Nat) ≠ some 0 := by simp
   have fin : ∀ (q : List Nat) (w : List Nat) (n j : Nat), q.length ≤ k → txtM fr q none = .ok (w, n) → runA [g] q j = runA [g] (q.drop n) (j + n) := fun q w n j hq e => by
    by_cases hw : w = []
    ·obtain ⟨w', r', e1, e2, e3, _⟩ := dq6 q.length (Nat.le_refl _) e
     rw [hw] at e3
     have : w'.length ≤ 3 * 0 := by
      have := oqt e3
      cases e3
      simp
     have hn : n = 0 := by omega
     rw [hn, List.drop_zero, Nat.add_zero]
    ·exact (ih hq hg hg).2 w n e hw
   by_cases hc : c = 126
   ·subst hc
    have hm : move s 126 = [.pair g] := by rw [hs 126 (.inl rfl)]; rfl
    rw [cqv hm, fqD h0]
    cases hp : prM r with
    | error e =>
     refine ⟨fun n h => ?_, fun w n h _ => by cases h⟩
     cases h
     rw [(hqj (n := 0)).1 e hp]
     congr 1; omega
    | ok x =>
     obtain ⟨x, m⟩ := x
     have hr2 := (hqj (r := r) (i := i + 1) (g := g) (n := 0)).2 x m hp
     rw [hr2]
     have hl : (r.drop m).length ≤ k := by rw [List.length_drop]; omega
     refine ⟨fun n h => ?_, fun w n h _ => ?_⟩
     ·obtain ⟨q, h2, rfl⟩ := jqe h
      rw [(ih hl hg hg).1 q h2]
      congr 1; omega
     ·obtain ⟨w', q, h2, rfl, rfl⟩ := lqA h
      rw [fin _ w' q _ hl h2, List.drop_drop, show m + 1 + q = (m + q) + 1 by omega, List.drop_succ_cons, show i + 1 + m + q = i + (m + q + 1) by omega]
   ·by_cases hp : isPl c = true ∨ c ∈ fr
    ·have hm : move s c = [g] := by rw [hs c (.inr hp)]; unfold auS; rw [if_neg hc, if_pos hp]
     rw [cqv hm, iqs h0 hc hp]
     refine ⟨fun n h => ?_, fun w n h _ => ?_⟩
     ·obtain ⟨q, h2, rfl⟩ := jqe h
      rw [(ih (by omega) hg hg).1 q h2]
      congr 1; omega
     ·obtain ⟨w', q, h2, rfl, rfl⟩ := lqA h
      rw [fin _ w' q _ (by omega) h2, show 1 + q = q + 1 by omega, List.drop_succ_cons, show i + 1 + q = i + (q + 1) by omega]
    ·rw [txtM, if_neg h0, if_neg hc, if_neg hp]
     exact ⟨fun n h => (by cases h), fun w n h hw => by cases h; exact absurd rfl hw⟩
end
def inTx (fr : List Nat) (c : Nat) : Prop := c = 126 ∨ isPl c = true ∨ c ∈ fr
theorem xqj {fr : List Nat} {c e : Nat} (h : inTx fr c) (h1 : e ≠ 126) (h2 : isPl e = false) (h3 : e ∉ fr) : c ≠ e := fun z => by
 subst z
 rcases h with h | h | h
 ·exact h1 h
 ·rw [h2] at h; cases h
 ·exact h3 h
theorem noE {fr : List Nat} {c : Nat} {l : List (Nat × Au)} (h : inTx fr c) (hl : ∀ p ∈ l, p.1 ≠ 126 ∧ isPl p.1 = false ∧ p.1 ∉ fr) : auE c l = [] :=
 dqm fun p hp => xqj h (hl p hp).1 (hl p hp).2.1 (hl p hp).2.2
theorem rqb : Takes .step .step frS := fun c h => by
 show auS .step c frS ++ (auE c [(47, .between)] ++ tailE c) = _
 unfold tailE
 rw [noE (fr := frS) h (by decide +kernel), noE (fr := frS) h (by decide +kernel), List.append_nil, List.append_nil]
theorem lqQ : Takes .between .step frS := fun c h => by
 show auS .step c frS ++ tailE c = _
 unfold tailE
 rw [noE (fr := frS) h (by decide +kernel), List.append_nil]
theorem sqR {b : Bool} : Takes (.slash b) .step frS := fun c h => by
 show auS .step c frS ++ ((if b = true then auE c [(47, .slashes)] else []) ++ tailE c) = _
 unfold tailE
 rw [noE (fr := frS) h (by decide +kernel), noE (fr := frS) h (by decide +kernel)]
 cases b <;> simp
theorem qqE : Takes .name .name frQ := fun c h => by
 show auS .name c frQ ++ (auE c [(61, .value)] ++ (auE c [(38, .next)] ++ auE c [(35, .mark)])) = _
 rw [noE (fr := frQ) h (by decide +kernel), noE (fr := frQ) h (by decide +kernel), noE (fr := frQ) h (by decide +kernel)]
 simp
theorem rq9 : Takes .first .name frQ := fun c h => by
 show auS .name c frQ ++ auE c [(35, .mark)] = _
 rw [noE (fr := frQ) h (by decide +kernel)]
 simp
theorem uqX : Takes .next .name frQ := fun c h => rfl
theorem oq9 : Takes .value .value frQ := fun c h => by
 show auS .value c frQ ++ (auE c [(38, .next)] ++ auE c [(35, .mark)]) = _
 rw [noE (fr := frQ) h (by decide +kernel), noE (fr := frQ) h (by decide +kernel)]
 simp
theorem rqg : Takes .mark .mark frM := fun c h => rfl
theorem fqh {g : Au} {c : Nat} {fr : List Nat} (h : isPl c = false ∧ c ∉ fr ∧ c ≠ 126) : auS g c fr = [] := by
 unfold auS
 rw [if_neg h.2.2, if_neg (fun z => z.elim (fun z => by rw [h.1] at z; cases z) h.2.1)]
theorem nqD {fr r : List Nat} {s g : Au} {i : Nat} (hs : Takes s g fr) (hg : Takes g g fr) : (∀ n, txtM fr r none = .error n → runA [s] r i = ((i + n : Nat) : Int)) ∧ ∀ w n, txtM fr r none = .ok (w, n) → Stops fr (r.drop n) ∧ n ≤ r.length ∧ (w = [] → n = 0) ∧ runA [s] r i = runA [if w = [] then s else g] (r.drop n) (i + n) := by
 have T := uqa (i := i) r.length (Nat.le_refl _) hs hg
 refine ⟨T.1, fun w n h => ?_⟩
 obtain ⟨w', r', e1, e2, e3, e4, _⟩ := dq6 r.length (Nat.le_refl _) h
 have hd : r.drop n = r' := by rw [e1, ← e2, List.drop_left]
 have st : Stops fr (r.drop n) := by rw [hd]; exact e4.resolve_right (by simp)
 have n0 : w = [] → n = 0 := fun hw => by
  rw [hw] at e3
  cases e3
  exact e2.symm
 refine ⟨st, (cqp h).1, n0, ?_⟩
 by_cases hw : w = []
 ·rw [if_pos hw, n0 hw, List.drop_zero, Nat.add_zero]
 ·rw [if_neg hw]; exact T.2 w n h hw
theorem sqU {r : List Nat} {i : Nat} : (∀ n, txtM frM r none = .error n → runA [.mark] r i = ((i + n : Nat) : Int)) ∧ ∀ w n, txtM frM r none = .ok (w, n) → runA [.mark] r i = if n = r.length then -1 else ((i + n : Nat) : Int) := by
 have T := nqD (r := r) (i := i) rqg rqg
 refine ⟨T.1, fun w n h => ?_⟩
 obtain ⟨st, hl, n0, e⟩ := T.2 w n h
 rw [e, show (if w = [] then Au.mark else Au.mark) = Au.mark by split <;> rfl]
 cases hd : r.drop n with
 | nil =>
  have : n = r.length := by have := congrArg List.length hd; rw [List.length_drop, List.length_nil] at this; omega
  rw [if_pos this, hq8]; rfl
 | cons c q =>
  have : n ≠ r.length := by have := congrArg List.length hd; rw [List.length_drop, List.length_cons] at this; omega
  rw [if_neg this, jqC]
  exact fqh (st c (by rw [hd]; rfl))
theorem sqr {r : List Nat} {i : Nat} {s : Au} (hs : ∀ c, r.head? = some c → move s c = auE c [(35, .mark)]) (hm : mayEnd s = true) (L : Nat) (hL : i + r.length = L) :
  runA [s] r i = match marM r with | .error n => ((i + n : Nat) : Int) | .ok (_, n) => if i + n = L then -1 else ((i + n : Nat) : Int) := by
 cases r with
 | nil =>
  rw [hq8, if_pos hm]
  show _ = if i + 0 = L then (-1 : Int) else _
  rw [if_pos (by simpa using hL)]
 | cons c r =>
  have h1 := hs c rfl
  by_cases hc : c = 35
  ·subst hc
   rw [cqv (g := .mark) (by rw [h1]; rfl)]
   have em : marM (35 :: r) = sh 1 (mp some (txtM frM r none)) := by unfold marM; rw [if_pos List.head?_cons]; rfl
   rw [em]
   have M := sqU (r := r) (i := i + 1)
   cases ht : txtM frM r none with
   | error n =>
    rw [M.1 n ht]
    show _ = ((i + (1 + n) : Nat) : Int)
    congr 1; omega
   | ok y =>
    obtain ⟨w, n⟩ := y
    rw [M.2 w n ht]
    show _ = if i + (1 + n) = L then (-1 : Int) else ((i + (1 + n) : Nat) : Int)
    simp only [List.length_cons] at hL
    by_cases hn : n = r.length
    ·rw [if_pos hn, if_pos (by omega)]
    ·rw [if_neg hn, if_neg (by omega)]
     congr 1; omega
  ·have em : marM (c :: r) = .ok (none, 0) := by unfold marM; exact if_neg (fun z => hc (Option.some.inj z))
   rw [em, jqC (by rw [h1]; exact dqm (by intro p hp; rw [List.mem_singleton.mp hp]; exact hc))]
   show _ = if i + 0 = L then (-1 : Int) else ((i + 0 : Nat) : Int)
   rw [if_neg (by simp only [List.length_cons] at hL; omega)]
   rfl
def fM (L : Nat) (r : List Nat) (i : Nat) : Int := match marM r with | .error n => ((i + n : Nat) : Int) | .ok (_, n) => if i + n = L then -1 else ((i + n : Nat) : Int)
def fQ (L : Nat) (r : List Nat) (i : Nat) : Int := match queM r with | .error n => ((i + n : Nat) : Int) | .ok (_, n) => fM L (r.drop n) (i + n)
def fW (L : Nat) (must : Bool) (r : List Nat) (i : Nat) : Int := match wayM must r with | .error n => ((i + n : Nat) : Int) | .ok (_, n) => fQ L (r.drop n) (i + n)
def fP (L f : Nat) (r : List Nat) (i : Nat) : Int := match prsF f r with | .error n => ((i + n : Nat) : Int) | .ok (_, n) => fM L (r.drop n) (i + n)
theorem rqs {r : List Nat} {i : Nat} {s : Au} (hs : ∀ c, r.head? = some c → move s c = auE c [(35, .mark)]) (hm : mayEnd s = true) (L : Nat) (hL : i + r.length = L) : runA [s] r i = fM L r i := sqr hs hm L hL
def PairEnd (e : Au) (r : List Nat) : Prop := mayEnd e = true ∧ ∀ c, r.head? = some c → move e c = auE c [(38, .next)] ++ auE c [(35, .mark)]
theorem pqa {q : List Nat} {j : Nat} (st : Stops frQ q) : (∀ n, valM q = .error n → runA [.name] q j = ((j + n : Nat) : Int)) ∧ ∀ o n, valM q = .ok (o, n) → ∃ e, PairEnd e (q.drop n) ∧ n ≤ q.length ∧ runA [.name] q j = runA [e] (q.drop n) (j + n) := by
 have mv : ∀ c, q.head? = some c → move .name c = auE c [(61, .value)] ++ (auE c [(38, .next)] ++ auE c [(35, .mark)]) := fun c hc => by
  show auS .name c frQ ++ _ = _
  rw [fqh (st c hc), List.nil_append]
 have off : q.head? ≠ some 61 → valM q = .ok (none, 0) ∧ PairEnd .name q := fun h => by
  refine ⟨by unfold valM; exact if_neg h, rfl, fun c hc => ?_⟩
  rw [mv c hc, dqm (l := [(61, .value)]) (by intro p hp; rw [List.mem_singleton.mp hp]; exact fun z => h (by rw [hc, z])), List.nil_append]
 by_cases h61 : q.head? = some 61
 ·cases q with
  | nil => cases h61
  | cons c q =>
   cases h61
   have em : valM (61 :: q) = sh 1 (mp some (txtM frQ q none)) := by unfold valM; rw [if_pos List.head?_cons]; rfl
   have hm : move .name 61 = [.value] := by rw [mv 61 rfl]; rfl
   rw [em, cqv hm]
   have T := nqD (r := q) (i := j + 1) oq9 oq9
   refine ⟨fun n h => ?_, fun o n h => ?_⟩
   ·obtain ⟨m, h2, rfl⟩ := tqs h
    rw [T.1 m (tqe h2)]
    congr 1; omega
   ·obtain ⟨m, h2, rfl⟩ := dqX h
    obtain ⟨w, h3, rfl⟩ := dql h2
    obtain ⟨st2, hl, _, e⟩ := T.2 w m h3
    refine ⟨.value, ⟨rfl, fun c hc => ?_⟩, by simp only [List.length_cons]; omega, ?_⟩
    ·rw [show 1 + m = m + 1 by omega, List.drop_succ_cons] at hc
     show auS .value c frQ ++ _ = _
     rw [fqh (st2 c hc), List.nil_append]
    ·rw [e, show (if w = [] then Au.value else Au.value) = Au.value by split <;> rfl, show 1 + m = m + 1 by omega, List.drop_succ_cons, show j + 1 + m = j + (m + 1) by omega]
 ·obtain ⟨h1, h2⟩ := off h61
  rw [h1]
  exact ⟨fun n h => (by cases h), fun o n h => by cases h; exact ⟨.name, h2, Nat.zero_le _, rfl⟩⟩
theorem rqB (L : Nat) : ∀ (f : Nat) {e : Au} {r : List Nat} {i : Nat}, r.length < f → PairEnd e r → i + r.length = L → runA [e] r i = fP L f r i
 | 0, e, r, i, hf, _, _ => absurd hf (Nat.not_lt_zero _)
 | f + 1, e, r, i, hf, he, hL => by
  unfold fP
  by_cases h38 : r.head? = some 38
  ·cases r with
   | nil => cases h38
   | cons c r =>
    cases h38
    have un : prsF (f + 1) (38 :: r) = sh 1 (bdR (filM frQ r none) fun s n => bdR (valM (r.drop n)) fun v m => mp (fun l => (s, v) :: l) (prsF f (r.drop (n + m)))) := by
     conv => lhs; unfold prsF
     rw [if_pos List.head?_cons]
     have d : ∀ n, (38 :: r).drop (1 + n) = r.drop n := fun n => by rw [show 1 + n = n + 1 by omega, List.drop_succ_cons]
     simp only [d, show ∀ n m, 1 + n + m = 1 + (n + m) from fun n m => by omega]
     rfl
    have hm : move e 38 = [.next] := by rw [he.2 38 rfl]; rfl
    rw [cqv hm, un]
    simp only [List.length_cons] at hf hL
    have T := nqD (r := r) (i := i + 1) uqX qqE
    cases ht : txtM frQ r none with
    | error n =>
     have ef : filM frQ r none = .error n := by unfold filM; rw [ht]
     rw [T.1 n ht, ef]
     show _ = ((i + (1 + n) : Nat) : Int)
     congr 1; omega
    | ok y =>
     obtain ⟨w, n⟩ := y
     obtain ⟨st, hl, n0, er⟩ := T.2 w n ht
     by_cases hw : w = []
     ·have ef : filM frQ r none = .error n := by unfold filM; rw [ht]; exact if_pos hw
      rw [er, if_pos hw, ef, n0 hw, List.drop_zero]
      show _ = ((i + (1 + 0) : Nat) : Int)
      have st0 : Stops frQ r := by have := st; rw [n0 hw, List.drop_zero] at this; exact this
      cases r with
      | nil => rw [hq8]; rfl
      | cons c r => exact jqC (show move .next c = [] from fqh (st0 c rfl))
     ·have ef : filM frQ r none = .ok (w, n) := by unfold filM; rw [ht]; exact if_neg hw
      rw [er, if_neg hw, ef]
      have N := pqa (q := r.drop n) (j := i + 1 + n) st
      show _ = match (sh 1 (sh n (bdR (valM (r.drop n)) _)) : Rs (List (List Nat × Option (List Nat)))) with | .error n => ((i + n : Nat) : Int) | .ok (_, n) => fM L ((38 :: r).drop n) (i + n)
      cases hv : valM (r.drop n) with
      | error m =>
       rw [N.1 m hv]
       show _ = ((i + (1 + (n + m)) : Nat) : Int)
       congr 1; omega
      | ok z =>
       obtain ⟨o, m⟩ := z
       obtain ⟨e2, pe, hm2, e3⟩ := N.2 o m hv
       rw [List.length_drop] at hm2
       rw [List.drop_drop] at pe e3
       have hk := (cqp ht).2.2 hw
       have ih := rqB L f (e := e2) (r := r.drop (n + m)) (i := i + 1 + n + m) (by rw [List.length_drop]; omega) pe (by rw [List.length_drop]; omega)
       rw [e3, ih]
       unfold fP
       show _ = match (sh 1 (sh n (sh m (mp _ (prsF f (r.drop (n + m)))))) : Rs (List (List Nat × Option (List Nat)))) with | .error n => ((i + n : Nat) : Int) | .ok (_, n) => fM L ((38 :: r).drop n) (i + n)
       cases prsF f (r.drop (n + m)) with
       | error k =>
        show ((i + 1 + n + m + k : Nat) : Int) = ((i + (1 + (n + (m + k))) : Nat) : Int)
        congr 1; omega
       | ok z =>
        obtain ⟨l, k⟩ := z
        show fM L ((r.drop (n + m)).drop k) (i + 1 + n + m + k) = fM L ((38 :: r).drop (1 + (n + (m + k)))) (i + (1 + (n + (m + k))))
        rw [List.drop_drop, show 1 + (n + (m + k)) = (n + m + k) + 1 by omega, List.drop_succ_cons, show i + 1 + n + m + k = i + (n + m + k + 1) by omega]
  ·have un : prsF (f + 1) r = .ok ([], 0) := by unfold prsF; exact if_neg h38
   rw [un]
   refine rqs (fun c hc => ?_) he.1 L hL
   rw [he.2 c hc, dqm (l := [(38, .next)]) (by intro p hp; rw [List.mem_singleton.mp hp]; exact fun z => h38 (by rw [hc, z])), List.nil_append]
theorem mqJ {r : List Nat} {i : Nat} {s : Au} (hs : ∀ c, r.head? = some c → move s c = tailE c) (hm : mayEnd s = true) (L : Nat) (hL : i + r.length = L) : runA [s] r i = fQ L r i := by
 by_cases h63 : r.head? = some 63
 ·cases r with
  | nil => cases h63
  | cons c r =>
   cases h63
   have un : queM (63 :: r) = sh 1 (bdR (txtM frQ r none) fun s n => if s = [] then .ok (some [], 0) else bdR (valM (r.drop n)) fun v m => mp (fun l => some ((s, v) :: l)) (prsF ((63 :: r).length + 1) (r.drop (n + m)))) := by
    unfold queM
    rw [if_pos List.head?_cons]
    have d : ∀ n, (63 :: r).drop (1 + n) = r.drop n := fun n => by rw [show 1 + n = n + 1 by omega, List.drop_succ_cons]
    simp only [d, show ∀ n m, 1 + n + m = 1 + (n + m) from fun n m => by omega]
    rfl
   rw [cqv (g := .first) (by rw [hs 63 rfl]; rfl)]
   unfold fQ
   rw [un]
   simp only [List.length_cons] at hL
   have T := nqD (r := r) (i := i + 1) rq9 qqE
   cases ht : txtM frQ r none with
   | error n =>
    rw [T.1 n ht]
    show _ = ((i + (1 + n) : Nat) : Int)
    congr 1; omega
   | ok y =>
    obtain ⟨w, n⟩ := y
    obtain ⟨st, hl, n0, er⟩ := T.2 w n ht
    by_cases hw : w = []
    ·rw [er, if_pos hw, n0 hw, List.drop_zero, Nat.add_zero]
     show _ = match sh 1 (sh 0 (if w = [] then (.ok (some [], 0) : Rs (Option (List (List Nat × Option (List Nat))))) else _)) with | .error n => ((i + n : Nat) : Int) | .ok (_, n) => fM L ((63 :: r).drop n) (i + n)
     rw [if_pos hw]
     show _ = fM L r (i + 1)
     have st0 : Stops frQ r := by have := st; rw [n0 hw, List.drop_zero] at this; exact this
     refine rqs (fun c hc => ?_) rfl L (by omega)
     show auS .name c frQ ++ _ = _
     rw [fqh (st0 c hc), List.nil_append]
    ·rw [er, if_neg hw]
     have N := pqa (q := r.drop n) (j := i + 1 + n) st
     show _ = match (sh 1 (sh n (if w = [] then _ else bdR (valM (r.drop n)) _)) : Rs (Option (List (List Nat × Option (List Nat))))) with | .error n => ((i + n : Nat) : Int) | .ok (_, n) => fM L ((63 :: r).drop n) (i + n)
     rw [if_neg hw]
     cases hv : valM (r.drop n) with
     | error m =>
      rw [N.1 m hv]
      show _ = ((i + (1 + (n + m)) : Nat) : Int)
      congr 1; omega
     | ok z =>
      obtain ⟨o, m⟩ := z
      obtain ⟨e2, pe, hm2, e3⟩ := N.2 o m hv
      rw [List.length_drop] at hm2
      rw [List.drop_drop] at pe e3
      have ih := rqB L ((63 :: r).length + 1) (e := e2) (r := r.drop (n + m)) (i := i + 1 + n + m) (by rw [List.length_drop]; simp only [List.length_cons]; omega) pe (by rw [List.length_drop]; omega)
      rw [e3, ih]
      unfold fP
      show _ = match (sh 1 (sh n (sh m (mp _ (prsF ((63 :: r).length + 1) (r.drop (n + m)))))) : Rs (Option (List (List Nat × Option (List Nat))))) with | .error n => ((i + n : Nat) : Int) | .ok (_, n) => fM L ((63 :: r).drop n) (i + n)
      cases prsF ((63 :: r).length + 1) (r.drop (n + m)) with
      | error k =>
       show ((i + 1 + n + m + k : Nat) : Int) = ((i + (1 + (n + (m + k))) : Nat) : Int)
       congr 1; omega
      | ok z =>
       obtain ⟨l, k⟩ := z
       show fM L ((r.drop (n + m)).drop k) (i + 1 + n + m + k) = fM L ((63 :: r).drop (1 + (n + (m + k)))) (i + (1 + (n + (m + k))))
       rw [List.drop_drop, show 1 + (n + (m + k)) = (n + m + k) + 1 by omega, List.drop_succ_cons, show i + 1 + n + m + k = i + (n + m + k + 1) by omega]
 ·have un : queM r = .ok (none, 0) := by unfold queM; exact if_neg h63
  unfold fQ
  rw [un]
  refine rqs (fun c hc => ?_) hm L hL
  rw [hs c hc]
  unfold tailE auE
  rw [if_neg (fun z => h63 (by rw [hc, z]))]
  rfl
theorem mqe {c : Nat} (h : isPl c = false ∧ c ∉ frS ∧ c ≠ 126) : move .step c = auE c [(47, .between)] ++ tailE c := by
 show auS .step c frS ++ _ = _
 rw [fqh h, List.nil_append]
theorem lqB {c : Nat} (h : isPl c = false ∧ c ∉ frS ∧ c ≠ 126) : move .between c = tailE c := by
 show auS .step c frS ++ _ = _
 rw [fqh h, List.nil_append]
theorem no47 : isPl 47 = false ∧ (47 : Nat) ∉ frS ∧ (47 : Nat) ≠ 126 := ⟨by decide, by decide +kernel, by decide⟩
theorem qqM : ∀ (f : Nat) {s : Au} {r : List Nat} {i : Nat} {en : Bool}, r.length < f → Takes s .step frS →
  (∀ n, stpF f r en = .error n → runA [s] r i = ((i + n : Nat) : Int)) ∧ ∀ x n, stpF f r en = .ok (x, n) → n ≤ r.length ∧ Stops frS (r.drop n) ∧ ∃ e, runA [s] r i = runA [e] (r.drop n) (i + n) ∧ ((e = s ∧ n = 0) ∨ (e = .step ∧ (r.drop n).head? ≠ some 47) ∨ e = .between)
 | 0, s, r, i, en, hf, _ => absurd hf (Nat.not_lt_zero _)
 | f + 1, s, r, i, en, hf, hs => by
  have un : ∀ (f : Nat) (q : List Nat) (e : Bool) (w : List Nat) (k : Nat), txtM frS q none = .ok (w, k) → stpF (f + 1) q e = if w = [] then .ok (([], e), k) else if (q.drop k).head? = some 47 then sh (k + 1) (mp (fun x => (w :: x.1, x.2)) (stpF f (q.drop (k + 1)) true)) else sh k (mp (fun x => (w :: x.1, x.2)) (stpF f (q.drop k) false)) := fun f q e w k h => by
   conv => lhs; unfold stpF
   rw [h]
  have T := nqD (r := r) (i := i) hs rqb
  cases ht : txtM frS r none with
  | error k =>
   have e1 : stpF (f + 1) r en = .error k := by unfold stpF; rw [ht]
   rw [e1]
   exact ⟨fun n h => (by cases h; exact T.1 _ ht), fun x n h => by cases h⟩
  | ok y =>
   obtain ⟨w, k⟩ := y
   obtain ⟨st, hl, n0, er⟩ := T.2 w k ht
   rw [un f r en w k ht]
   by_cases hw : w = []
   ·rw [if_pos hw]
    refine ⟨fun n h => (by cases h), fun x n h => ?_⟩
    cases h
    exact ⟨hl, st, s, by rw [er, if_pos hw], .inl ⟨rfl, n0 hw⟩⟩
   rw [if_neg hw]
   rw [if_neg hw] at er
   have hk := (cqp ht).2.2 hw
   by_cases h47 : (r.drop k).head? = some 47
   ·rw [if_pos h47]
    have hkl : k + 1 ≤ r.length := by have := cq3 h47; rw [List.length_drop] at this; omega
    have hd : r.drop k = 47 :: r.drop (k + 1) := by
     cases hq : r.drop k with
     | nil => rw [hq] at h47; cases h47
     | cons c q =>
      rw [hq] at h47
      cases h47
      rw [show k + 1 = k + 1 from rfl, ← List.drop_drop, hq]; rfl
    have e2 : runA [s] r i = runA [.between] (r.drop (k + 1)) (i + k + 1) := by
     rw [er, hd, cqv (g := .between) (by rw [mqe no47]; rfl)]
    have ih := qqM f (s := .between) (r := r.drop (k + 1)) (i := i + k + 1) (en := true) (by rw [List.length_drop]; omega) lqQ
    refine ⟨fun n h => ?_, fun x n h => ?_⟩
    ·obtain ⟨m, h2, rfl⟩ := tqs h
     rw [e2, ih.1 m (tqe h2)]
     congr 1; omega
    ·obtain ⟨m, h2, rfl⟩ := dqX h
     obtain ⟨y, h3, rfl⟩ := dql h2
     obtain ⟨hm, st2, e, er2, he⟩ := ih.2 y m h3
     rw [List.length_drop] at hm
     rw [List.drop_drop] at st2 er2 he
     rw [show k + 1 + m = k + 1 + m from rfl]
     refine ⟨by omega, st2, e, by rw [e2, er2, show i + k + 1 + m = i + (k + 1 + m) by omega], ?_⟩
     rcases he with ⟨rfl, _⟩ | he | he
     ·exact .inr (.inr rfl)
     ·exact .inr (.inl he)
     ·exact .inr (.inr he)
   ·rw [if_neg h47]
    obtain ⟨f', rfl⟩ : ∃ f', f = f' + 1 := ⟨f - 1, by omega⟩
    have e3 : stpF (f' + 1) (r.drop k) false = .ok (([], false), 0) := by rw [un f' (r.drop k) false [] 0 (lq5 st), if_pos rfl]
    rw [e3]
    refine ⟨fun n h => (by cases h), fun x n h => ?_⟩
    cases h
    exact ⟨hl, st, .step, er, .inr (.inl ⟨rfl, h47⟩)⟩
theorem pqk {L i : Nat} {s : Au} {r : List Nat} {en : Bool} {f : Nat} (hf : r.length < f) (hs : Takes s .step frS) (hse : r.head? ≠ some 47 ∨ s = .slash false ∨ s = .between → ∀ c, (isPl c = false ∧ c ∉ frS ∧ c ≠ 126) → r.head? = some c → move s c = tailE c) (h47 : r.head? ≠ some 47 ∨ s = .slash false ∨ s = .between) (hm : mayEnd s = true) (hL : i + r.length = L) :
  runA [s] r i = match stpF f r en with | .error n => ((i + n : Nat) : Int) | .ok (_, n) => fQ L (r.drop n) (i + n) := by
 have S := qqM f (i := i) (en := en) hf hs
 cases hst : stpF f r en with
 | error n => exact S.1 n hst
 | ok y =>
  obtain ⟨x, n⟩ := y
  obtain ⟨hn, st, e, er, he⟩ := S.2 x n hst
  rw [er]
  have hL2 : i + n + (r.drop n).length = L := by rw [List.length_drop]; omega
  rcases he with ⟨rfl, rfl⟩ | ⟨rfl, h⟩ | rfl
  ·refine mqJ (fun c hc => ?_) hm L hL2
   rw [List.drop_zero] at hc st
   exact hse h47 c (st c hc) hc
  ·refine mqJ (fun c hc => ?_) rfl L hL2
   rw [mqe (st c hc), dqm (l := [(47, .between)]) (by intro p hp; rw [List.mem_singleton.mp hp]; exact fun z => h (by rw [hc, z])), List.nil_append]
  ·exact mqJ (fun c hc => lqB (st c hc)) rfl L hL2
theorem vqJ {b : Bool} {r : List Nat} : r.head? ≠ some 47 ∨ (Au.slash b = .slash false) ∨ (Au.slash b = .between) → ∀ c, (isPl c = false ∧ c ∉ frS ∧ c ≠ 126) → r.head? = some c → move (.slash b) c = tailE c := fun h c hc hr => by
 show auS .step c frS ++ ((if b = true then auE c [(47, .slashes)] else []) ++ tailE c) = _
 rw [fqh hc, List.nil_append]
 rcases h with h | h | h
 ·rw [dqm (l := [(47, .slashes)]) (by intro p hp; rw [List.mem_singleton.mp hp]; exact fun z => h (by rw [hr, z]))]
  cases b <;> rfl
 ·injection h with h
  rw [h, if_neg (by decide)]; rfl
 ·cases h
theorem nqs {L i : Nat} {b must : Bool} {r : List Nat} (h47 : b = false ∨ r.head? ≠ some 47) (hL : i + 1 + r.length = L) : runA [.slash b] r (i + 1) = fW L must (47 :: r) i := by
 have e : wayM must (47 :: r) = sh 1 (mp (fun x => (true, x)) (stpF ((47 :: r).length + 1) r true)) := by
  unfold wayM
  rw [if_pos List.head?_cons]; rfl
 rw [pqk (L := L) (en := true) (f := (47 :: r).length + 1) (by simp only [List.length_cons]; omega) sqR vqJ (h47.elim (fun z => .inr (.inl (by rw [z]))) .inl) rfl hL]
 unfold fW
 rw [e]
 cases stpF ((47 :: r).length + 1) r true with
 | error n =>
  show ((i + 1 + n : Nat) : Int) = ((i + (1 + n) : Nat) : Int)
  congr 1; omega
 | ok y =>
  obtain ⟨x, n⟩ := y
  show fQ L (r.drop n) (i + 1 + n) = fQ L ((47 :: r).drop (1 + n)) (i + (1 + n))
  rw [show 1 + n = n + 1 by omega, List.drop_succ_cons, show i + 1 + n = i + (n + 1) by omega]
theorem mqt {L i : Nat} {b : Bool} {s : Au} {r : List Nat} (hs : ∀ c, r.head? = some c → move s c = auE c [(47, .slash b)] ++ tailE c) (hm : mayEnd s = true) (hb : b = false ∨ r.take 2 ≠ [47, 47]) (hL : i + r.length = L) : runA [s] r i = fW L true r i := by
 by_cases h47 : r.head? = some 47
 ·cases r with
  | nil => cases h47
  | cons c r =>
   cases h47
   rw [cqv (g := .slash b) (by rw [hs 47 rfl]; rfl)]
   refine nqs (hb.imp id fun h z => h ?_) (by simp only [List.length_cons] at hL; omega)
   cases r with
   | nil => cases z
   | cons d r => cases z; rfl
 ·have e : wayM true r = .ok ((true, [], true), 0) := by unfold wayM; rw [if_neg h47, if_pos rfl]
  unfold fW
  rw [e]
  refine mqJ (fun c hc => ?_) hm L hL
  rw [hs c hc, dqm (l := [(47, .slash b)]) (by intro p hp; rw [List.mem_singleton.mp hp]; exact fun z => h47 (by rw [hc, z])), List.nil_append]
theorem rq1 {n c : Nat} (h : n = 60 ∨ (isPl c = false ∧ c ∉ ([] : List Nat) ∧ c ≠ 126)) (hn : n ≤ 60) : move (.house n) c = auE c [(58, .door (-1))] ++ auE c [(47, .slash false), (63, .first), (35, .mark)] := by
 show (if n < 60 then auS (.house (n + 1)) c [] else []) ++ _ = _
 rcases h with rfl | h
 ·rw [if_neg (by decide), List.nil_append]
 ·rw [fqh h]
  split <;> rfl
theorem qqT : ∀ (k : Nat) {n : Nat} {r : List Nat} {i : Nat}, r.length ≤ k → n ≤ 60 →
  (∀ m, txtM [] r (some (60 - n)) = .error m → runA [.house n] r i = ((i + m : Nat) : Int)) ∧ ∀ w m, txtM [] r (some (60 - n)) = .ok (w, m) → runA [.house n] r i = runA [.house (n + w.length)] (r.drop m) (i + m) := by
 intro k
 induction k with
 | zero =>
  intro n r i hk hn
  have hr : r = [] := List.length_eq_zero_iff.mp (by omega)
  subst hr
  exact ⟨fun m h => (by rw [cqI] at h; cases h), fun w m h => by rw [cqI] at h; cases h; rfl⟩
 | succ k ih =>
  intro n r i hk hn
  by_cases h60 : n = 60
  ·subst h60
   rw [show 60 - 60 = 0 from rfl, jq3]
   exact ⟨fun m h => (by cases h), fun w m h => by cases h; rfl⟩
  cases r with
  | nil => exact ⟨fun m h => (by rw [cqI] at h; cases h), fun w m h => by rw [cqI] at h; cases h; rfl⟩
  | cons c r =>
   simp only [List.length_cons] at hk
   have h0 : some (60 - n) ≠ some 0 := fun z => by have := Option.some.inj z; omega
   have hd : dec (some (60 - n)) = some (60 - (n + 1)) := by show some (60 - n - 1) = _; rw [Nat.sub_sub]
   have mv : (c = 126 ∨ isPl c = true) → move (.house n) c = auS (.house (n + 1)) c [] := fun h => by
    show (if n < 60 then auS (.house (n + 1)) c [] else []) ++ _ = _
    have hin : inTx [] c := h.elim .inl fun z => .inr (.inl z)
    rw [if_pos (by omega), noE (fr := []) hin (by decide), noE (fr := []) hin (by decide), List.append_nil, List.append_nil]
   by_cases hc : c = 126
   ·subst hc
    rw [cqv (g := .pair (.house (n + 1))) (by rw [mv (.inl rfl)]; rfl), fqD h0, hd]
    cases hp : prM r with
    | error e =>
     refine ⟨fun m h => ?_, fun w m h => by cases h⟩
     cases h
     rw [(hqj (n := 0)).1 e hp]
     congr 1; omega
    | ok x =>
     obtain ⟨x, q⟩ := x
     rw [(hqj (r := r) (i := i + 1) (g := .house (n + 1)) (n := 0)).2 x q hp]
     have I := ih (n := n + 1) (r := r.drop q) (i := i + 1 + q) (by rw [List.length_drop]; omega) (by omega)
     refine ⟨fun m h => ?_, fun w m h => ?_⟩
     ·obtain ⟨z, h2, rfl⟩ := jqe h
      rw [I.1 z h2]
      congr 1; omega
     ·obtain ⟨w', z, h2, rfl, rfl⟩ := lqA h
      rw [I.2 w' z h2, List.drop_drop, show q + 1 + z = (q + z) + 1 by omega, List.drop_succ_cons, List.length_cons, show n + 1 + w'.length = n + (w'.length + 1) by omega, show i + 1 + q + z = i + (q + z + 1) by omega]
   ·by_cases hp : isPl c = true
    ·rw [cqv (g := .house (n + 1)) (by rw [mv (.inr hp)]; unfold auS; rw [if_neg hc, if_pos (.inl hp)]), iqs h0 hc (.inl hp), hd]
     have I := ih (n := n + 1) (r := r) (i := i + 1) (by omega) (by omega)
     refine ⟨fun m h => ?_, fun w m h => ?_⟩
     ·obtain ⟨z, h2, rfl⟩ := jqe h
      rw [I.1 z h2]
      congr 1; omega
     ·obtain ⟨w', z, h2, rfl, rfl⟩ := lqA h
      rw [I.2 w' z h2, show 1 + z = z + 1 by omega, List.drop_succ_cons, List.length_cons, show n + 1 + w'.length = n + (w'.length + 1) by omega, show i + 1 + z = i + (z + 1) by omega]
    ·rw [txtM, if_neg h0, if_neg hc, if_neg (fun z => z.elim hp (fun z => by cases z))]
     exact ⟨fun m h => (by cases h), fun w m h => by cases h; rfl⟩
theorem tqW {r : List Nat} {i : Nat} : (∀ m, filM [] r (some 60) = .error m → runA [.slashes] r i = ((i + m : Nat) : Int)) ∧ ∀ w m, filM [] r (some 60) = .ok (w, m) → w.length ≤ 60 ∧ (Stops [] (r.drop m) ∨ w.length = 60) ∧ runA [.slashes] r i = runA [.house w.length] (r.drop m) (i + m) := by
 have key : (∀ m, txtM [] r (some 60) = .error m → runA [.slashes] r i = ((i + m : Nat) : Int)) ∧ ∀ w m, txtM [] r (some 60) = .ok (w, m) → (w = [] → m = 0 ∧ runA [.slashes] r i = (i : Int)) ∧ (w ≠ [] → runA [.slashes] r i = runA [.house w.length] (r.drop m) (i + m)) := by
  have h0 : some 60 ≠ some 0 := by decide
  cases r with
  | nil => exact ⟨fun m h => (by rw [cqI] at h; cases h), fun w m h => by rw [cqI] at h; cases h; exact ⟨fun _ => ⟨rfl, by rw [hq8]; rfl⟩, fun z => absurd rfl z⟩⟩
  | cons c r =>
   have hd : dec (some 60) = some (60 - 1) := rfl
   by_cases hc : c = 126
   ·subst hc
    rw [cqv (s := .slashes) (g := .pair (.house 1)) rfl, fqD h0, hd]
    cases hp : prM r with
    | error e =>
     refine ⟨fun m h => ?_, fun w m h => by cases h⟩
     cases h
     rw [(hqj (n := 0)).1 e hp]
     congr 1; omega
    | ok x =>
     obtain ⟨x, q⟩ := x
     rw [(hqj (r := r) (i := i + 1) (g := .house 1) (n := 0)).2 x q hp]
     have I := qqT _ (n := 1) (r := r.drop q) (i := i + 1 + q) (Nat.le_refl _) (by decide)
     refine ⟨fun m h => ?_, fun w m h => ?_⟩
     ·obtain ⟨z, h2, rfl⟩ := jqe h
      rw [I.1 z h2]
      congr 1; omega
     ·obtain ⟨w', z, h2, rfl, rfl⟩ := lqA h
      refine ⟨(fun y => by cases y), fun _ => ?_⟩
      rw [I.2 w' z h2, List.drop_drop, show q + 1 + z = (q + z) + 1 by omega, List.drop_succ_cons, List.length_cons, show 1 + w'.length = w'.length + 1 by omega, show i + 1 + q + z = i + (q + z + 1) by omega]
   ·by_cases hp : isPl c = true
    ·rw [cqv (s := .slashes) (g := .house 1) (by show auS (.house 1) c [] = _; unfold auS; rw [if_neg hc, if_pos (.inl hp)]), iqs h0 hc (.inl hp), hd]
     have I := qqT _ (n := 1) (r := r) (i := i + 1) (Nat.le_refl _) (by decide)
     refine ⟨fun m h => ?_, fun w m h => ?_⟩
     ·obtain ⟨z, h2, rfl⟩ := jqe h
      rw [I.1 z h2]
      congr 1; omega
     ·obtain ⟨w', z, h2, rfl, rfl⟩ := lqA h
      refine ⟨(fun y => by cases y), fun _ => ?_⟩
      rw [I.2 w' z h2, show 1 + z = z + 1 by omega, List.drop_succ_cons, List.length_cons, show 1 + w'.length = w'.length + 1 by omega, show i + 1 + z = i + (z + 1) by omega]
    ·rw [txtM, if_neg h0, if_neg hc, if_neg (fun z => z.elim hp (fun z => by cases z))]
     refine ⟨fun m h => (by cases h), fun w m h => ?_⟩
     cases h
     refine ⟨fun _ => ⟨rfl, jqC (show auS (.house 1) c [] = [] from fqh ⟨?_, by simp, hc⟩)⟩, fun z => absurd rfl z⟩
     cases hi : isPl c with
     | false => rfl
     | true => exact absurd hi hp
 refine ⟨fun m h => ?_, fun w m h => ?_⟩
 ·unfold filM at h
  cases ht : txtM [] r (some 60) with
  | error k => rw [ht] at h; cases h; exact key.1 _ ht
  | ok y =>
   obtain ⟨w, k⟩ := y
   rw [ht] at h
   have h : (if w = [] then (.error k : Rs (List Nat)) else .ok (w, k)) = .error m := h
   by_cases hw : w = []
   ·rw [if_pos hw] at h
    cases h
    obtain ⟨z, e⟩ := (key.2 w _ ht).1 hw
    rw [e, z]; rfl
   ·rw [if_neg hw] at h; cases h
 ·obtain ⟨h1, h2⟩ := hqC h
  obtain ⟨w', r', e1, e2, e3, e4, e5⟩ := dq6 _ (Nat.le_refl _) h1
  refine ⟨e5 60 rfl, ?_, (key.2 w m h1).2 h2⟩
  rw [e1, ← e2, List.drop_left]
  exact e4.imp id fun z => (Option.some.inj z).symm
theorem auE3 {c : Nat} {b : Bool} : auE c [(47, .slash b), (63, .first), (35, .mark)] = auE c [(47, .slash b)] ++ tailE c := by
 unfold tailE
 by_cases h : c = 47
 ·subst h; rfl
 ·show (if c = 47 then _ else _) = (if c = 47 then _ else _) ++ _
  rw [if_neg h, if_neg h]; rfl
theorem jqp {c : Nat} : isDg c = true ↔ 48 ≤ c ∧ c ≤ 57 := by simp [isDg]
theorem vqr {v c : Nat} (h : ¬ (0 < v ∧ 48 ≤ c ∧ c ≤ 57 ∧ v * 10 + (c - 48) ≤ 65535)) : move (.door (v : Int)) c = auE c [(47, .slash false)] ++ tailE c := by
 show (if isDg c = true then (if (v : Int) ≠ 0 ∧ max (v : Int) 0 * 10 + ((c - 48 : Nat) : Int) ≤ 65535 then [Au.door (max (v : Int) 0 * 10 + ((c - 48 : Nat) : Int))] else []) else []) ++ (if (v : Int) ≠ -1 then auE c [(47, .slash false), (63, .first), (35, .mark)] else []) = _
 rw [if_pos (show (v : Int) ≠ -1 by omega), auE3]
 by_cases hd : isDg c = true
 ·rw [if_pos hd, if_neg, List.nil_append]
  have := jqp.mp hd
  intro z
  refine h ⟨by omega, this.1, this.2, ?_⟩
  have e : max (v : Int) 0 = v := by omega
  rw [e] at z
  omega
 ·rw [if_neg hd, List.nil_append]
theorem sqj {v c : Nat} (h : 0 < v ∧ 48 ≤ c ∧ c ≤ 57 ∧ v * 10 + (c - 48) ≤ 65535) : move (.door (v : Int)) c = [.door ((v * 10 + (c - 48) : Nat) : Int)] := by
 show (if isDg c = true then (if (v : Int) ≠ 0 ∧ max (v : Int) 0 * 10 + ((c - 48 : Nat) : Int) ≤ 65535 then [Au.door (max (v : Int) 0 * 10 + ((c - 48 : Nat) : Int))] else []) else []) ++ (if (v : Int) ≠ -1 then auE c [(47, .slash false), (63, .first), (35, .mark)] else []) = _
 have e : max (v : Int) 0 = v := by omega
 rw [if_pos (jqp.mpr ⟨h.2.1, h.2.2.1⟩), e, if_pos ⟨by omega, by omega⟩, if_pos (by omega), dqm (by
  intro p hp
  simp only [List.mem_cons, List.not_mem_nil, or_false] at hp
  rcases hp with rfl | rfl | rfl <;> simp <;> omega), List.append_nil]
 congr 2
theorem pqc : ∀ (q : List Nat) (v : Nat) (j : Nat), runA [.door (v : Int)] q j = runA [.door ((dooG q v).1 : Int)] (q.drop (dooG q v).2) (j + (dooG q v).2) ∧ ∀ c, (q.drop (dooG q v).2).head? = some c → ¬ (0 < (dooG q v).1 ∧ 48 ≤ c ∧ c ≤ 57 ∧ (dooG q v).1 * 10 + (c - 48) ≤ 65535)
 | [], v, j => ⟨rfl, fun c h => by cases h⟩
 | c :: q, v, j => by
  by_cases hc : 0 < v ∧ 48 ≤ c ∧ c ≤ 57 ∧ v * 10 + (c - 48) ≤ 65535
  ·have e : dooG (c :: q) v = ((dooG q (v * 10 + (c - 48))).1, (dooG q (v * 10 + (c - 48))).2 + 1) := by
    conv => lhs; unfold dooG
    rw [if_pos hc]
   obtain ⟨i1, i2⟩ := pqc q (v * 10 + (c - 48)) (j + 1)
   rw [e]
   refine ⟨?_, i2⟩
   rw [cqv (sqj hc), i1]
   show _ = runA [.door _] (q.drop _) _
   rw [show j + 1 + (dooG q (v * 10 + (c - 48))).2 = j + ((dooG q (v * 10 + (c - 48))).2 + 1) by omega]
  ·have e : dooG (c :: q) v = (v, 0) := by unfold dooG; rw [if_neg hc]
   rw [e]
   exact ⟨rfl, fun d hd => by cases hd; exact hc⟩
theorem sqX {L n j : Nat} {q : List Nat} (hn : n ≤ 60) (hq : Stops [] q ∨ n = 60) (hL : j + q.length = L) : runA [.house n] q j = match dooM q with | .error m => ((j + m : Nat) : Int) | .ok (_, m) => fW L true (q.drop m) (j + m) := by
 have mv : ∀ c, q.head? = some c → move (.house n) c = auE c [(58, .door (-1))] ++ auE c [(47, .slash false), (63, .first), (35, .mark)] := fun c hc => rq1 (hq.elim (fun h => .inr (h c hc)) .inl) hn
 by_cases h58 : q.head? = some 58
 ·cases q with
  | nil => cases h58
  | cons c q =>
   cases h58
   simp only [List.length_cons] at hL
   rw [cqv (g := .door (-1)) (by rw [mv 58 rfl]; rfl)]
   cases q with
   | nil =>
    rw [hq8]
    rfl
   | cons c q =>
    have key : dooM (58 :: c :: q) = if 48 ≤ c ∧ c ≤ 57 then .ok (some ((dooG q (c - 48)).1 : Int), 2 + (dooG q (c - 48)).2) else .error 1 := by
     unfold dooM
     rw [if_pos List.head?_cons]
     rfl
    rw [key]
    by_cases hf : 48 ≤ c ∧ c ≤ 57
    ·rw [if_pos hf]
     have hm : move (.door (-1)) c = [.door ((c - 48 : Nat) : Int)] := by
      show (if isDg c = true then (if (-1 : Int) ≠ 0 ∧ max (-1 : Int) 0 * 10 + ((c - 48 : Nat) : Int) ≤ 65535 then [Au.door (max (-1 : Int) 0 * 10 + ((c - 48 : Nat) : Int))] else []) else []) ++ (if (-1 : Int) ≠ -1 then _ else []) = _
      rw [if_pos (jqp.mpr hf), if_pos ⟨by decide, by rw [show max (-1 : Int) 0 = 0 by decide]; omega⟩, if_neg (by simp), List.append_nil, show max (-1 : Int) 0 = 0 by decide]
      congr 2
      omega
     rw [cqv hm]
     obtain ⟨i1, i2⟩ := pqc q (c - 48) (j + 1 + 1)
     rw [i1]
     have hl := (oqz q (c - 48) (by omega)).1
     simp only [List.length_cons] at hL
     rw [mqt (L := L) (b := false) (fun d hd => vqr (i2 d hd)) (by show decide (((dooG q (c - 48)).1 : Int) ≠ -1) = true; exact decide_eq_true (by omega)) (.inl rfl) (by rw [List.length_drop]; omega)]
     show _ = fW L true ((58 :: c :: q).drop (2 + (dooG q (c - 48)).2)) (j + (2 + (dooG q (c - 48)).2))
     rw [show 2 + (dooG q (c - 48)).2 = (dooG q (c - 48)).2 + 1 + 1 by omega, List.drop_succ_cons, List.drop_succ_cons, show j + 1 + 1 + (dooG q (c - 48)).2 = j + ((dooG q (c - 48)).2 + 1 + 1) by omega]
    ·rw [if_neg hf, jqC]
     show (if isDg c = true then _ else []) ++ (if (-1 : Int) ≠ -1 then _ else []) = _
     rw [if_neg (fun z => hf (jqp.mp z)), if_neg (by simp)]; rfl
 ·have key : dooM q = .ok (none, 0) := by unfold dooM; exact if_neg h58
  rw [key]
  refine mqt (b := false) (fun c hc => ?_) rfl (.inl rfl) hL
  rw [mv c hc, dqm (l := [(58, .door (-1))]) (by intro p hp; rw [List.mem_singleton.mp hp]; exact fun z => h58 (by rw [hc, z])), List.nil_append, auE3]
theorem qqw {c : Nat} (h : isAln c = true) : move .step c = [.step] := by
 have hp := qqA h
 rw [rqb c (.inr (.inl hp))]
 unfold auS
 rw [if_neg (fun z => by rw [z] at hp; cases hp), if_pos (.inl hp)]
theorem dqS {S : List Au} {c i : Nat} {r : List Nat} : runA S (c :: r) i = if S.flatMap (move · c) = [] then (i : Int) else runA (S.flatMap (move · c)) r (i + 1) := rfl
theorem oq4 {c k : Nat} : [Au.step, Au.scheme k].flatMap (move · c) = move .step c ++ move (.scheme k) c := by simp
theorem nqh {c k : Nat} : move (.scheme k) c = (if isAln c = true ∧ k < 8 then [.scheme (k + 1)] else []) ++ auE c [(58, .colon)] := rfl
theorem qqc : ∀ (s q : List Nat) (k i : Nat), (∀ c ∈ s, isAln c = true) → k + s.length ≤ 8 → runA [.step, .scheme k] (s ++ 58 :: q) i = runA [.colon] q (i + s.length + 1)
 | [], q, k, i, _, _ => by
  have e : [Au.step, Au.scheme k].flatMap (move · 58) = [.colon] := by
   rw [oq4, nqh, if_neg (fun z => by cases z.1), mqe ⟨by decide, by decide +kernel, by decide⟩]; rfl
  show runA _ (58 :: q) i = _
  rw [dqS, e, if_neg (by simp)]
  rfl
 | c :: s, q, k, i, h, hk => by
  have hc := h c (List.mem_cons_self ..)
  simp only [List.length_cons] at hk
  have h58 : c ≠ 58 := fun z => by rw [z] at hc; cases hc
  have e : [Au.step, Au.scheme k].flatMap (move · c) = [.step, .scheme (k + 1)] := by
   rw [oq4, nqh, if_pos ⟨hc, by omega⟩, qqw hc, dqm (by intro p hp; rw [List.mem_singleton.mp hp]; exact h58)]; rfl
  show runA _ (c :: (s ++ 58 :: q)) i = _
  rw [dqS, e, if_neg (by simp), qqc s q (k + 1) (i + 1) (fun d hd => h d (List.mem_cons_of_mem _ hd)) (by omega), List.length_cons, show i + 1 + s.length + 1 = i + (s.length + 1) + 1 by omega]
theorem tqp : ∀ (r : List Nat) (k i : Nat), (∀ s q, r = s ++ 58 :: q → (∀ c ∈ s, isAln c = true) → ¬ k + s.length ≤ 8) → k ≤ 8 → runA [.step, .scheme k] r i = runA [.step] r i
 | [], k, i, _, _ => by simp [runA, mayEnd]
 | c :: r, k, i, h, hk => by
  have one : [Au.step].flatMap (move · c) = move .step c := by simp
  rw [dqS, dqS, oq4, one, nqh]
  by_cases hc : isAln c = true
  ·have h58 : c ≠ 58 := fun z => by rw [z] at hc; cases hc
   rw [qqw hc, dqm (by intro p hp; rw [List.mem_singleton.mp hp]; exact h58), List.append_nil]
   by_cases h8 : k < 8
   ·rw [show (if isAln c = true ∧ k < 8 then [Au.scheme (k + 1)] else []) = [Au.scheme (k + 1)] from if_pos ⟨hc, h8⟩, if_neg (by simp), if_neg (by simp)]
    exact tqp r (k + 1) (i + 1) (fun s q e ha hh => h (c :: s) q (by rw [e]; rfl) (fun d hd => by
     rcases List.mem_cons.mp hd with rfl | hd
     ·exact hc
     ·exact ha d hd) (by simp only [List.length_cons]; omega)) (by omega)
   ·rw [show (if isAln c = true ∧ k < 8 then [Au.scheme (k + 1)] else []) = [] from if_neg (fun z => h8 z.2), List.append_nil]
  ·have h58 : c ≠ 58 := fun z => h [] r (by rw [z]; rfl) (fun d hd => by cases hd) (by simpa using hk)
   rw [show (if isAln c = true ∧ k < 8 then [Au.scheme (k + 1)] else []) = [] from if_neg (fun z => hc z.1), dqm (by intro p hp; rw [List.mem_singleton.mp hp]; exact h58), List.append_nil, List.append_nil]
theorem qqV {c : Nat} : move .start c = auS .step c frS ++ ((if isAln c = true ∧ isDg c = false then [.scheme 1] else []) ++ (auE c [(47, .slash true)] ++ tailE c)) := rfl
theorem nq7 {s : Au} {c : Nat} : [s].flatMap (move · c) = move s c := by simp
theorem oqA {c : Nat} (h : isAln c = true) : auS .step c frS = [.step] := by
 have hp := qqA h
 unfold auS
 rw [if_neg (fun z => by rw [z] at hp; cases hp), if_pos (.inl hp)]
theorem iqw {c : Nat} (h : isAln c = true) : auE c [(47, .slash true)] = [] ∧ tailE c = [] := by
 have hp := qqA h
 have hin : inTx [] c := .inr (.inl hp)
 exact ⟨noE (fr := []) hin (by decide), noE (fr := []) hin (by decide)⟩
theorem qqD {t : List Nat} (h : schM t ≠ []) : runA [.start] t 0 = runA [.colon] (t.drop (schP t)) (schP t) := by
 by_cases hc : ahead t ≠ [] ∧ schD (.str ⟨(ahead t).toArray⟩) = true ∧ t[(ahead t).length]? = some 58
 ·obtain ⟨e1, e2⟩ := hqe hc.1 hc.2.1 hc.2.2
  have hd := hc.2.1
  simp only [schD, Bool.and_eq_true, List.all_eq_true, decide_eq_true_eq] at hd
  obtain ⟨r, hr⟩ := iqx t
  have h58 := hc.2.2
  generalize ahead t = s at hc hd hr h58 e1 e2
  cases s with
  | nil => exact absurd rfl hc.1
  | cons c s =>
   have hq : ∃ q, r = 58 :: q := by
    rw [hr, List.getElem?_append_right (Nat.le_refl _), Nat.sub_self] at h58
    cases r with
    | nil => cases h58
    | cons d q => cases h58; exact ⟨q, rfl⟩
   obtain ⟨q, rfl⟩ := hq
   have hal := hd.2 c (List.mem_cons_self ..)
   have hlet := hd.1.2 c (by simp)
   have hdg : isDg c = false := by
    cases hh : isDg c with
    | false => rfl
    | true =>
     have := jqp.mp hh
     simp only [isLet, Bool.or_eq_true, decide_eq_true_eq] at hlet
     omega
   have hlen : (c :: s).length ≤ 8 := hd.1.1.2
   have em : [Au.start].flatMap (move · c) = [.step, .scheme 1] := by
    rw [nq7, qqV, if_pos ⟨hal, hdg⟩, oqA hal, (iqw hal).1, (iqw hal).2]; rfl
   rw [e2, hr]
   show runA [.start] (c :: (s ++ 58 :: q)) 0 = _
   rw [dqS, em, if_neg (by simp), qqc s q 1 (0 + 1) (fun d hd' => hd.2 d (List.mem_cons_of_mem _ hd')) (by simp only [List.length_cons] at hlen; omega)]
   have hdrop : (c :: s ++ 58 :: q).drop (c :: s ++ [58]).length = q := by
    rw [show c :: s ++ 58 :: q = (c :: s ++ [58]) ++ q by simp, List.drop_left]
   rw [hdrop]
   simp only [List.length_append, List.length_cons, List.length_nil]
   rw [show 0 + 1 + s.length + 1 = s.length + 1 + (0 + 1) by omega]
 ·exact absurd (hq0 hc).1 h
theorem sqA {t : List Nat} (h : schM t = []) (h47 : t.head? ≠ some 47) : runA [.start] t 0 = runA [.between] t 0 := by
 cases t with
 | nil => rfl
 | cons c r =>
  have hc47 : c ≠ 47 := fun z => h47 (by rw [z]; rfl)
  have e47 : auE c [(47, .slash true)] = [] := dqm (by intro p hp; rw [List.mem_singleton.mp hp]; exact hc47)
  rw [dqS, dqS, nq7, nq7, qqV, e47, List.nil_append]
  show _ = if auS .step c frS ++ tailE c = [] then _ else runA (auS .step c frS ++ tailE c) r (0 + 1)
  by_cases hl : isAln c = true ∧ isDg c = false
  ·rw [if_pos hl, oqA hl.1, (iqw hl.1).2, if_neg (by simp), if_neg (by simp)]
   refine tqp r 1 (0 + 1) (fun s q e ha hk => ?_) (by decide)
   subst e
   have hlet : isLet c = true := by
    have h1 := hl.1
    have h2 := hl.2
    simp only [isAln, Bool.or_eq_true, decide_eq_true_eq] at h1
    rcases h1 with h1 | h1
    ·exact h1
    ·rw [jqp.mpr h1] at h2; cases h2
   have all : ∀ d ∈ c :: s, isAln d = true := fun d hd => by
    rcases List.mem_cons.mp hd with rfl | hd
    ·exact hl.1
    ·exact ha d hd
   have ea : ahead (c :: (s ++ 58 :: q)) = c :: s := rqH (s := c :: s) (r := q) fun d hd z => by
    have := all d hd
    rw [z] at this
    cases this
   have hs := hqe (t := c :: (s ++ 58 :: q)) (by rw [ea]; simp) (by
    rw [ea]
    simp only [schD, Bool.and_eq_true, List.all_eq_true, decide_eq_true_eq]
    refine ⟨⟨⟨fun d hd => qqQ (all d hd), ?_⟩, fun d hd => ?_⟩, all⟩
    ·show (c :: s).length ≤ 8
     simp only [List.length_cons]; omega
    ·have hd : d ∈ [c] := hd
     rw [List.mem_singleton.mp hd]; exact hlet) (by
    rw [ea]
    show (c :: s ++ 58 :: q)[(c :: s).length]? = some 58
    rw [List.getElem?_append_right (Nat.le_refl _), Nat.sub_self]; rfl)
   rw [hs.1, ea] at h
   cases h
  ·rw [if_neg hl, List.nil_append]
theorem kqw {r : List Nat} : runA [.start] (47 :: r) 0 = runA [.slash true] r 1 := by
 rw [cqv (s := .start) (g := .slash true) (by rw [qqV, fqh no47]; rfl)]
theorem oqs {t : List Nat} {h : Option (List Nat)} {d : Option Int} {n1 n2 : Nat} (e1 : houM (t.drop (schP t)) = .ok (h, n1)) (e2 : dorM h (t.drop (schP t + n1)) = .ok (d, n2)) :
  outM (readM t) = fW t.length (decide (schM t ≠ [] ∨ h ≠ none)) (t.drop (schP t + n1 + n2)) (schP t + n1 + n2) := by
 unfold fW
 cases e3 : wayM (decide (schM t ≠ [] ∨ h ≠ none)) (t.drop (schP t + n1 + n2)) with
 | error n => rw [sq6 e1 e2 e3]; rfl
 | ok y =>
  obtain ⟨w, n3⟩ := y
  show _ = fQ t.length _ _
  rw [List.drop_drop]
  unfold fQ
  cases e4 : queM (t.drop (schP t + n1 + n2 + n3)) with
  | error n => rw [tqy e1 e2 e3 e4]; rfl
  | ok y =>
   obtain ⟨q, n4⟩ := y
   show _ = fM t.length _ _
   rw [List.drop_drop]
   unfold fM
   cases e5 : marM (t.drop (schP t + n1 + n2 + n3 + n4)) with
   | error n => rw [tqq e1 e2 e3 e4 e5]; rfl
   | ok y =>
    obtain ⟨m, n5⟩ := y
    rw [tqk e1 e2 e3 e4 e5]
    show outM _ = if schP t + n1 + n2 + n3 + n4 + n5 = t.length then (-1 : Int) else _
    by_cases hend : schP t + n1 + n2 + n3 + n4 + n5 = t.length
    ·rw [if_pos hend, if_pos hend]; rfl
    ·rw [if_neg hend, if_neg hend]; rfl
theorem nqp {t : List Nat} (h2 : (t.drop (schP t)).take 2 = [47, 47]) : runA [.slashes] (t.drop (schP t + 2)) (schP t + 2) = outM (readM t) := by
 have hl : schP t + 2 ≤ t.length := by
  have := congrArg List.length h2
  rw [List.length_take, List.length_drop] at this
  simp only [List.length_cons, List.length_nil] at this
  omega
 have em : houM (t.drop (schP t)) = sh 2 (mp some (filM [] (t.drop (schP t + 2)) (some 60))) := by unfold houM; rw [if_pos h2, List.drop_drop]
 have R := tqW (r := t.drop (schP t + 2)) (i := schP t + 2)
 cases hf : filM [] (t.drop (schP t + 2)) (some 60) with
 | error m =>
  rw [R.1 m hf, tqd (n := 2 + m) (by rw [em, hf]; rfl)]
  show _ = ((schP t + (2 + m) : Nat) : Int)
  congr 1; omega
 | ok y =>
  obtain ⟨w, m⟩ := y
  obtain ⟨hw, hst, er⟩ := R.2 w m hf
  have e1 : houM (t.drop (schP t)) = .ok (some w, 2 + m) := by rw [em, hf]; rfl
  have hm := qqy e1
  rw [List.length_drop] at hm
  rw [List.drop_drop] at hst er
  rw [er, sqX (L := t.length) hw hst (by rw [List.length_drop]; omega)]
  have ea : schP t + 2 + m = schP t + (2 + m) := by omega
  have ed : dorM (some w) (t.drop (schP t + (2 + m))) = dooM (t.drop (schP t + 2 + m)) := by unfold dorM; rw [if_neg (by simp), ea]
  cases hd : dooM (t.drop (schP t + 2 + m)) with
  | error k =>
   rw [tqE (n := k) e1 (by rw [ed, hd])]
   show ((schP t + 2 + m + k : Nat) : Int) = ((schP t + (2 + m) + k : Nat) : Int)
   congr 1; omega
  | ok z =>
   obtain ⟨d, k⟩ := z
   rw [oqs (d := d) (n2 := k) e1 (by rw [ed, hd])]
   show fW t.length true ((t.drop (schP t + 2 + m)).drop k) (schP t + 2 + m + k) = _
   rw [List.drop_drop, ea, decide_eq_true (.inr (by simp))]
theorem pqm (t : List Nat) : runA [.start] t 0 = outM (readM t) := by
 have hsp := oqf t
 have cut : ∀ {q : List Nat}, q.take 2 = [47, 47] → ∃ q', q = 47 :: 47 :: q' := fun {q} h => by
  match q, h with
  | a :: b :: q', h => injection h with h1 h2; injection h2 with h2 _; exact ⟨q', by rw [h1, h2]⟩
 have none1 : ¬ (t.drop (schP t)).take 2 = [47, 47] → houM (t.drop (schP t)) = .ok (none, 0) ∧ dorM none (t.drop (schP t + 0)) = .ok (none, 0) := fun h => ⟨by unfold houM; exact if_neg h, by unfold dorM; exact if_pos rfl⟩
 have slsl : ∀ (q : List Nat) (i : Nat), runA [.slash true] (47 :: q) i = runA [.slashes] q (i + 1) := fun q i => cqv (s := .slash true) (g := .slashes) (by
  show auS .step 47 frS ++ _ = _
  rw [fqh no47]; rfl)
 by_cases hs : schM t = []
 ·have hp : schP t = 0 := by unfold schP schT; rw [hs]; rfl
  by_cases h2 : (t.drop (schP t)).take 2 = [47, 47]
  ·have := nqp h2
   rw [hp] at this h2
   rw [← this]
   obtain ⟨q, hq⟩ := cut h2
   rw [List.drop_zero] at hq
   rw [hq, kqw, slsl]
   rfl
  ·obtain ⟨e1, e2⟩ := none1 h2
   rw [oqs e1 e2, hs, hp, decide_eq_false (by simp)]
   rw [hp, List.drop_zero] at h2
   show _ = fW t.length false t 0
   by_cases h47 : t.head? = some 47
   ·cases t with
    | nil => cases h47
    | cons c r =>
     cases h47
     rw [kqw]
     refine nqs (i := 0) (.inr fun z => h2 ?_) (by simp only [List.length_cons]; omega)
     cases r with
     | nil => cases z
     | cons d r => cases z; rfl
   ·rw [sqA hs h47]
    have e : wayM false t = mp (fun x => (false, x)) (stpF (t.length + 1) t false) := by unfold wayM; rw [if_neg h47, if_neg (by decide)]
    rw [pqk (L := t.length) (en := false) (f := t.length + 1) (Nat.lt_succ_self _) lqQ (fun _ c hc _ => lqB hc) (.inl h47) rfl (Nat.zero_add _)]
    unfold fW
    rw [e]
    cases stpF (t.length + 1) t false with
    | error n => rfl
    | ok y => rfl
 ·rw [qqD hs]
  by_cases h2 : (t.drop (schP t)).take 2 = [47, 47]
  ·rw [← nqp h2]
   obtain ⟨q, hq⟩ := cut h2
   have hd2 : t.drop (schP t + 2) = q := by rw [← List.drop_drop, hq]; rfl
   rw [hd2, hq, cqv (s := .colon) (g := .slash true) rfl, slsl]
  ·obtain ⟨e1, e2⟩ := none1 h2
   rw [oqs e1 e2, decide_eq_true (.inl hs)]
   exact mqt (b := true) (fun c hc => rfl) rfl (.inr h2) (by rw [List.length_drop]; omega)
def auD : Au → PyData
 | .start => .tuple [.str (Str.ofString "start")]
 | .scheme n => .tuple [.str (Str.ofString "scheme"), .int (n : Int)]
 | .colon => .tuple [.str (Str.ofString "colon")]
 | .slash b => .tuple [.str (Str.ofString "slash"), .bool b]
 | .slashes => .tuple [.str (Str.ofString "slashes")]
 | .house n => .tuple [.str (Str.ofString "house"), .int (n : Int)]
 | .door v => .tuple [.str (Str.ofString "door"), .int v]
 | .step => .tuple [.str (Str.ofString "step")]
 | .between => .tuple [.str (Str.ofString "between")]
 | .first => .tuple [.str (Str.ofString "first")]
 | .name => .tuple [.str (Str.ofString "name")]
 | .value => .tuple [.str (Str.ofString "value")]
 | .next => .tuple [.str (Str.ofString "next")]
 | .mark => .tuple [.str (Str.ofString "mark")]
 | .pair g => .tuple [.str (Str.ofString "pair"), auD g]
 | .second g c => .tuple [.str (Str.ofString "second"), auD g, .str ⟨[c].toArray⟩]
def auW : Au → Str
 | .start => Str.ofString "start" | .scheme _ => Str.ofString "scheme" | .colon => Str.ofString "colon" | .slash _ => Str.ofString "slash" | .slashes => Str.ofString "slashes"
 | .house _ => Str.ofString "house" | .door _ => Str.ofString "door" | .step => Str.ofString "step" | .between => Str.ofString "between" | .first => Str.ofString "first" | .name => Str.ofString "name"
 | .value => Str.ofString "value" | .next => Str.ofString "next" | .mark => Str.ofString "mark" | .pair _ => Str.ofString "pair" | .second _ _ => Str.ofString "second"
def auR : Au → List PyData
 | .scheme n => [.int (n : Int)] | .slash b => [.bool b] | .house n => [.int (n : Int)] | .door v => [.int v] | .pair g => [auD g] | .second g c => [auD g, .str ⟨[c].toArray⟩] | _ => []
theorem pqj (s : Au) : auD s = .tuple (.str (auW s) :: auR s) := by cases s <;> rfl
def Flat : Au → Prop
 | .pair _ | .second _ _ => False
 | _ => True
def AuOk : Au → Prop
 | .pair g => Flat g
 | .second g c => Flat g ∧ c < 128
 | _ => True
theorem Flat.ok {s : Au} (h : Flat s) : AuOk s := by cases s <;> first | exact True.intro | exact h.elim
theorem eqL {c : Nat} : ∀ (a b : List (Nat × Au)), auE c (a ++ b) = auE c a ++ auE c b
 | [], b => rfl
 | (e, g) :: a, b => by
  show (if c = e then g :: auE c (a ++ b) else auE c (a ++ b)) = (if c = e then g :: auE c a else auE c a) ++ auE c b
  by_cases h : c = e
  ·rw [if_pos h, if_pos h, eqL a b]; rfl
  ·rw [if_neg h, if_neg h, eqL a b]
def LsA (H : Hp) (p : Addr) (S : List Au) : Prop := ∃ vs, H p = some (.lst vs) ∧ IsTAll H (S.map auD) vs
def EdA (H : Hp) (p : Addr) (l : List (Nat × Au)) : Prop := ∃ vs, H p = some (.lst vs) ∧ vs.length = l.length ∧ ∀ (i : Nat) (a : Nat × Au) (y : V), l[i]? = some a → vs[i]? = some y → ∃ q u, y = .ref q ∧ H q = some (.tup [.str ⟨#[a.1]⟩, u]) ∧ IsT H (auD a.2) u
theorem lqU {H : Hp} {s : Au} {v : V} (h : IsT H (auD s) v) : ∃ p xs, v = .ref p ∧ H p = some (.tup (.str (auW s) :: xs)) ∧ IsTAll H (auR s) xs := by
 rw [pqj] at h
 obtain ⟨p, xs, rfl, hp, r⟩ := jqg h
 cases r with
 | cons h1 r => cases h1; exact ⟨p, _, rfl, hp, r⟩
theorem qqH (s : Au) : LayAt 0 (.str (auW s)) := by cases s <;> exact ⟨by simp only [auW]; decide +kernel, Nat.le_refl _⟩
theorem oqn {s : Au} (h : Flat s) : LayAt 1 (auD s) := by
 rw [pqj]
 refine LayAt.tup fun d hd => ?_
 rcases List.mem_cons.mp hd with rfl | hd
 ·exact qqH s
 ·cases s <;> first | exact h.elim | (cases hd; done) | (rw [List.mem_singleton.mp hd]; exact ⟨rfl, Nat.le_refl _⟩)
theorem LayAt.list {n : Nat} {ds : List PyData} (h : ∀ d ∈ ds, LayAt n d) : LayAt (n + 1) (.list ds) := by
 obtain ⟨h1, h2⟩ := layAll h
 exact ⟨by simp only [PyData.canLay0, h1], by simp only [PyData.depth]; omega⟩
theorem tqr {s : Au} (h : AuOk s) : LayAt 2 (auD s) := by
  by_cases hf : Flat s
  ·exact (oqn hf).le (by decide)
  ·rw [pqj]
   refine LayAt.tup fun d hd => ?_
   rcases List.mem_cons.mp hd with rfl | hd
   ·exact (qqH s).le (by decide)
   ·cases s with
    | pair g => rw [List.mem_singleton.mp hd]; exact oqn h
    | second g c =>
     rcases List.mem_cons.mp hd with rfl | hd
     ·exact oqn h.1
     ·rw [List.mem_singleton.mp hd]
      refine ⟨?_, Nat.zero_le _⟩
      have hc : c < 128 := h.2
      simp only [PyData.canLay0, PyData.strOk, List.all_toArray, List.all_eq_true, decide_eq_true_eq]
      intro d hd
      rw [List.mem_singleton.mp hd]
      omega
    | _ => exact absurd True.intro hf
theorem nq8 {s : Au} (h : AuOk s) : SeqAt.shaped (auD s) = true := (tqr h).shaped (by decide)
theorem oqG {c d : Nat} : ((⟨#[c]⟩ : Str) = ⟨#[d]⟩) ↔ c = d := by
 constructor
 ·intro h
  injection h with h
  have := congrArg Array.toList h
  simpa using this
 ·rintro rfl; rfl
theorem vqI : ∀ c, c < 128 → Txt.isalnum ⟨#[c]⟩ = true → c ∈ SG := by decide +kernel
theorem vqf : ∀ c, c < 128 → (Txt.isalnum ⟨#[c]⟩ && decide (c ∈ SG)) = isAln c := by decide +kernel
theorem qqB : ∀ c, c < 128 → Txt.isdigit ⟨#[c]⟩ = isDg c := by decide +kernel
theorem rqm {a : Au} (h : a ≠ .door (-1)) : PyData.eqv (auD a) (.tuple [.str (Str.ofString "door"), .int (-1)]) = false := by
 rw [pqj]
 have w : ∀ {x : Str} {l : List PyData}, (x == Str.ofString "door") = false → PyData.eqv (.tuple (.str x :: l)) (.tuple [.str (Str.ofString "door"), .int (-1)]) = false := fun {x l} hx => by
  simp only [PyData.eqv, PyData.eqvAll, hx, Bool.false_and]
 cases a with
 | door v =>
  have hv : v ≠ -1 := fun z => h (by rw [z])
  simp only [auW, auR, PyData.eqv, PyData.eqvAll, beq_self_eq_true, Bool.true_and, Bool.and_true]
  exact beq_eq_false_iff_ne.mpr hv
 | _ => exact w (by simp only [auW]; decide +kernel)
theorem vqj : ∀ d ∈ fsF, ∀ c, c < 128 → ((sgO d c).isSome = true ↔ c ∈ (Str.ofString "0123456789abcdefABCDEF").cps.toList ∧ ¬ ((d = 50 ∧ PyProof.Rows.lo1 c = 53) ∨ (d = 55 ∧ PyProof.Rows.lo1 c = 102))) := by decide +kernel
theorem in25 {d e : Nat} : inV (V.str ⟨#[d, e]⟩) [V.str (Str.ofString "25"), V.str (Str.ofString "7f")] = decide ((d = 50 ∧ e = 53) ∨ (d = 55 ∧ e = 102)) := by
 rw [show Str.ofString "25" = ⟨#[50, 53]⟩ by decide +kernel, show Str.ofString "7f" = ⟨#[55, 102]⟩ by decide +kernel, Bool.eq_iff_iff, decide_eq_true_eq]
 have two : ∀ a b : Nat, ((⟨#[a, b]⟩ : Str) == ⟨#[d, e]⟩) = true ↔ d = a ∧ e = b := fun a b => by
  rw [beq_iff_eq]
  constructor
  ·intro h
   injection h with h
   have := congrArg Array.toList h
   simp only [List.cons.injEq, and_true] at this
   exact ⟨this.1.symm, this.2.symm⟩
  ·rintro ⟨rfl, rfl⟩; rfl
 show ([V.str ⟨#[50, 53]⟩, V.str ⟨#[55, 102]⟩].any fun y => eqV y (V.str ⟨#[d, e]⟩)) = true ↔ _
 rw [List.any_cons, List.any_cons, List.any_nil, Bool.or_false, Bool.or_eq_true]
 exact or_congr (two 50 53) (two 55 102)
theorem LsA.mono {H H' : Hp} {p : Addr} {S : List Au} (L : LsA H p S) (s : Same H H') : LsA H' p S := let ⟨us, h1, h2⟩ := L; ⟨us, s _ _ h1, h2.mono s.toT⟩
theorem eda1 {H : Hp} {p q : Addr} {e : Nat} {g : Au} {u : V} (hp : H p = some (.lst [.ref q])) (hq : H q = some (.tup [.str ⟨#[e]⟩, u])) (hu : IsT H (auD g) u) : EdA H p [(e, g)] :=
 ⟨_, hp, rfl, fun i a y h1 h2 => by
  cases i with
  | zero => cases h1; cases h2; exact ⟨q, u, rfl, hq, hu⟩
  | succ i => cases h1⟩
theorem eda2 {H : Hp} {p q r : Addr} {e f : Nat} {g h : Au} {u w : V} (hp : H p = some (.lst [.ref q, .ref r])) (hq : H q = some (.tup [.str ⟨#[e]⟩, u])) (hu : IsT H (auD g) u) (hr : H r = some (.tup [.str ⟨#[f]⟩, w])) (hw : IsT H (auD h) w) : EdA H p [(e, g), (f, h)] :=
 ⟨_, hp, rfl, fun i a y h1 h2 => by
  match i, h1, h2 with
  | 0, h1, h2 => cases h1; cases h2; exact ⟨q, u, rfl, hq, hu⟩
  | 1, h1, h2 => cases h1; cases h2; exact ⟨r, w, rfl, hr, hw⟩⟩
theorem dq7 {K : PySem.W.Frag} {H : Hp} {a b : Addr} {S T : List Au} {Q : VK} (ha : LsA H a S) (hb : LsA H b T) (hs : S.length ≤ 100) (ht : T.length ≤ 100) (h : ∀ p H', H p = none → Same H H' → LsA H' p (S ++ T) → Q (.ref p) H') : rAddS K (.ref a) (.ref b) H Q := by
 obtain ⟨xs, h1, h2⟩ := ha
 obtain ⟨ys, h3, h4⟩ := hb
 have l1 := h2.length
 have l2 := h4.length
 rw [List.length_map] at l1 l2
 refine .inl ⟨xs, ys, h1, h3, aqz (by omega), fun p H' n s hp => h p H' n s ⟨_, hp, ?_⟩⟩
 rw [List.map_append]
 exact IsTAll.append (h2.mono s.toT) (h4.mono s.toT)
theorem mqw {H : Hp} {p : Addr} {S : List Au} {g : Au} {u : V} {N : Hp → Prop} {H0 : Hp} (h0 : H0 p = none) (s0 : Same H0 H) (L : LsA H p S) (hu : IsT H (auD g) u) (hs : S.length ≤ 100) (h : ∀ H', Same H0 H' → LsA H' p (S ++ [g]) → N H') : ∃ xs, H p = some (.lst xs) ∧ xs.length < sizeLine ∧ N (upd H p (.lst (xs ++ [u]))) := by
 obtain ⟨xs, h1, h2⟩ := L
 have l1 := h2.length
 rw [List.length_map] at l1
 have st : SameT H (upd H p (.lst (xs ++ [u]))) := iqY h1
 refine ⟨xs, h1, aqz (by omega), h _ (nqB h0 s0) ⟨_, aqw, ?_⟩⟩
 rw [List.map_append]
 exact IsTAll.append (h2.mono st) (.cons (hu.mono st) .nil)
theorem fqA {g : Au} {c : Nat} {fr : List Nat} : (auS g c fr).length ≤ 1 := by
 unfold auS
 split
 ·exact Nat.le_refl _
 ·split
  ·exact Nat.le_refl _
  ·exact Nat.zero_le _
theorem cqn {c : Nat} : ∀ l : List (Nat × Au), (auE c l).length ≤ l.length
 | [] => Nat.le_refl _
 | (e, g) :: l => by
  have := cqn (c := c) l
  unfold auE
  split <;> simp only [List.length_cons] <;> omega
theorem eda3 {H : Hp} {p q r t : Addr} {e f i : Nat} {g h k : Au} {u w z : V} (hp : H p = some (.lst [.ref q, .ref r, .ref t])) (hq : H q = some (.tup [.str ⟨#[e]⟩, u])) (hu : IsT H (auD g) u) (hr : H r = some (.tup [.str ⟨#[f]⟩, w])) (hw : IsT H (auD h) w) (ht : H t = some (.tup [.str ⟨#[i]⟩, z])) (hz : IsT H (auD k) z) : EdA H p [(e, g), (f, h), (i, k)] :=
 ⟨_, hp, rfl, fun j a y h1 h2 => by
  match j, h1, h2 with
  | 0, h1, h2 => cases h1; cases h2; exact ⟨q, u, rfl, hq, hu⟩
  | 1, h1, h2 => cases h1; cases h2; exact ⟨r, w, rfl, hr, hw⟩
  | 2, h1, h2 => cases h1; cases h2; exact ⟨t, z, rfl, ht, hz⟩⟩
theorem wqJ (c : Nat) (h : 48 ≤ c ∧ c ≤ 57) : c ∈ SG := by
 have key : ∀ c, c < 58 → 48 ≤ c → c ∈ SG := by decide +kernel
 exact key c (by omega) h.1
theorem dqe {c : Nat} : ∀ l : List (Nat × Au), (l.map Prod.fst).Nodup → (auE c l).length ≤ 1
 | [], _ => Nat.zero_le _
 | (e, g) :: l, h => by
  rw [List.map_cons, List.nodup_cons] at h
  show (if c = e then g :: auE c l else auE c l).length ≤ 1
  by_cases hc : c = e
  ·rw [if_pos hc, dqm (fun p hp z => h.1 (List.mem_map.mpr ⟨p, hp, by rw [← z, hc]⟩))]
   exact Nat.le_refl _
  ·rw [if_neg hc]; exact dqe l h.2
theorem iqn {g : Au} {c : Nat} {fr : List Nat} {E : List Au} (h : inTx fr c → E = []) (hE : E.length ≤ 1) : (auS g c fr ++ E).length ≤ 1 := by
 by_cases hin : inTx fr c
 ·rw [h hin, List.append_nil]; exact fqA
 ·rw [fqh ⟨?_, fun z => hin (.inr (.inr z)), fun z => hin (.inl z)⟩, List.nil_append]
  ·exact hE
  ·cases hp : isPl c with
   | false => rfl
   | true => exact absurd (.inr (.inl hp)) hin
theorem tqw {s : Au} {c : Nat} (h : s ≠ .start) : (move s c).length ≤ 1 := by
 cases s with
 | start => exact absurd rfl h
 | scheme n =>
  rw [nqh]
  by_cases ha : isAln c = true
  ·rw [dqm (l := [(58, .colon)]) (by intro p hp; rw [List.mem_singleton.mp hp]; exact fun z => by rw [z] at ha; cases ha), List.append_nil]
   split <;> simp
  ·rw [if_neg (fun z => ha z.1), List.nil_append]
   exact dqe _ (by decide)
 | colon =>
  show (auE c [(47, .slash true)] ++ auE c [(63, .first), (35, .mark)]).length ≤ 1
  rw [← eqL]; exact dqe _ (by simp)
 | slash b =>
  show (auS .step c frS ++ ((if b = true then auE c [(47, .slashes)] else []) ++ auE c [(63, .first), (35, .mark)])).length ≤ 1
  cases b with
  | true =>
   rw [if_pos rfl, ← eqL]
   exact iqn (fun hin => noE hin (by decide +kernel)) (dqe _ (by simp))
  | false =>
   rw [if_neg (by decide), List.nil_append]
   exact iqn (fun hin => noE hin (by decide +kernel)) (dqe _ (by simp))
 | slashes => exact fqA
 | house n =>
  show ((if n < 60 then auS (.house (n + 1)) c [] else []) ++ (auE c [(58, .door (-1))] ++ auE c [(47, .slash false), (63, .first), (35, .mark)])).length ≤ 1
  rw [← eqL]
  by_cases h60 : n < 60
  ·rw [if_pos h60]
   exact iqn (fun hin => noE hin (by decide +kernel)) (dqe _ (by simp))
  ·rw [if_neg h60, List.nil_append]
   exact dqe _ (by simp)
 | door v =>
  show ((if isDg c = true then (if v ≠ 0 ∧ max v 0 * 10 + ((c - 48 : Nat) : Int) ≤ 65535 then [Au.door (max v 0 * 10 + ((c - 48 : Nat) : Int))] else []) else []) ++ (if v ≠ -1 then auE c [(47, .slash false), (63, .first), (35, .mark)] else [])).length ≤ 1
  by_cases hd : isDg c = true
  ·have := jqp.mp hd
   have e : auE c [(47, .slash false), (63, .first), (35, .mark)] = [] := dqm (by
    intro p hp
    simp only [List.mem_cons, List.not_mem_nil, or_false] at hp
    rcases hp with rfl | rfl | rfl <;> simp <;> omega)
   rw [if_pos hd, e, show (if v ≠ -1 then ([] : List Au) else []) = [] by split <;> rfl, List.append_nil]
   split <;> simp
  ·rw [if_neg hd, List.nil_append]
   split
   ·exact dqe _ (by simp)
   ·simp
 | step =>
  show (auS .step c frS ++ (auE c [(47, .between)] ++ auE c [(63, .first), (35, .mark)])).length ≤ 1
  rw [← eqL]
  exact iqn (fun hin => noE hin (by decide +kernel)) (dqe _ (by simp))
 | between => exact iqn (fun hin => noE hin (by decide +kernel)) (dqe _ (by simp))
 | first => exact iqn (fun hin => noE hin (by decide +kernel)) (dqe _ (by simp))
 | name =>
  show (auS .name c frQ ++ (auE c [(61, .value)] ++ (auE c [(38, .next)] ++ auE c [(35, .mark)]))).length ≤ 1
  rw [← eqL, ← eqL]
  exact iqn (fun hin => noE hin (by decide +kernel)) (dqe _ (by simp))
 | value =>
  show (auS .value c frQ ++ (auE c [(38, .next)] ++ auE c [(35, .mark)])).length ≤ 1
  rw [← eqL]
  exact iqn (fun hin => noE hin (by decide +kernel)) (dqe _ (by simp))
 | next => exact fqA
 | mark => exact fqA
 | pair g => show (if c ∈ fsF then [Au.second g c] else []).length ≤ 1; split <;> simp
 | second g d => show (if (sgO d c).isSome = true then [g] else []).length ≤ 1; split <;> simp
def NG : Au → Prop
 | .start => False
 | .pair g | .second g _ => g ≠ .start
 | _ => True
def AuG (s : Au) : Prop := AuOk s ∧ (∀ g d, s = .second g d → d ∈ fsF) ∧ NG s
theorem NG.ns {s : Au} (h : NG s) : s ≠ .start := fun z => by subst z; exact h
theorem Flat.g {s : Au} (h : Flat s) (hn : NG s) : AuG s := ⟨h.ok, fun g d e => (by subst e; exact h.elim), hn⟩
theorem kqF {g : Au} {c : Nat} {fr : List Nat} (h : Flat g) (hn : NG g) : ∀ s ∈ auS g c fr, AuG s := fun s hs => by
 unfold auS at hs
 split at hs
 ·rw [List.mem_singleton.mp hs]; exact ⟨h, fun g' d e => (by cases e), hn.ns⟩
 ·split at hs
  ·rw [List.mem_singleton.mp hs]; exact h.g hn
  ·cases hs
theorem uqY {c : Nat} {l : List (Nat × Au)} (h : ∀ p ∈ l, Flat p.2 ∧ NG p.2) : ∀ s ∈ auE c l, AuG s := by
 induction l with
 | nil => intro s hs; cases hs
 | cons p l ih =>
  intro s hs
  obtain ⟨e, g⟩ := p
  have ih := ih fun q hq => h q (List.mem_cons_of_mem _ hq)
  unfold auE at hs
  split at hs
  ·rcases List.mem_cons.mp hs with rfl | hs
   ·exact (h (e, s) (List.mem_cons_self ..)).1.g (h (e, s) (List.mem_cons_self ..)).2
   ·exact ih s hs
  ·exact ih s hs
theorem fq9 {a b : List Au} (ha : ∀ s ∈ a, AuG s) (hb : ∀ s ∈ b, AuG s) : ∀ s ∈ a ++ b, AuG s := fun s hs => (List.mem_append.mp hs).elim (ha s) (hb s)
theorem mqp {p : Prop} [Decidable p] {a b : List Au} (ha : p → ∀ s ∈ a, AuG s) (hb : ¬ p → ∀ s ∈ b, AuG s) : ∀ s ∈ (if p then a else b), AuG s := by
 split
 ·exact ha (by assumption)
 ·exact hb (by assumption)
theorem mqG : ∀ s ∈ ([] : List Au), AuG s := fun s hs => by cases hs
theorem rqX {x : Au} (h : Flat x) (hn : NG x) : ∀ s ∈ [x], AuG s := fun s hs => by rw [List.mem_singleton.mp hs]; exact h.g hn
theorem vqF {a : Au} {c : Nat} (ha : a = .start ∨ AuG a) (hc : c < 128) : ∀ s ∈ move a c, AuG s := by
 have E1 : ∀ {e : Nat} {g : Au}, Flat g → NG g → ∀ s ∈ auE c [(e, g)], AuG s := fun h hn => uqY fun p hp => by rw [List.mem_singleton.mp hp]; exact ⟨h, hn⟩
 have T : ∀ s ∈ tailE c, AuG s := uqY fun p hp => by
  simp only [List.mem_cons, List.not_mem_nil, or_false] at hp
  rcases hp with rfl | rfl <;> exact ⟨True.intro, True.intro⟩
 have E3 : ∀ s ∈ auE c [(47, .slash false), (63, .first), (35, .mark)], AuG s := uqY fun p hp => by
  simp only [List.mem_cons, List.not_mem_nil, or_false] at hp
  rcases hp with rfl | rfl | rfl <;> exact ⟨True.intro, True.intro⟩
 cases a with
 | start => exact fq9 (kqF True.intro True.intro) (fq9 (mqp (fun _ => rqX True.intro True.intro) fun _ => mqG) (fq9 (E1 True.intro True.intro) T))
 | scheme n => exact fq9 (mqp (fun _ => rqX True.intro True.intro) fun _ => mqG) (E1 True.intro True.intro)
 | colon => exact fq9 (E1 True.intro True.intro) T
 | slash b => exact fq9 (kqF True.intro True.intro) (fq9 (mqp (fun _ => E1 True.intro True.intro) fun _ => mqG) T)
 | slashes => exact kqF True.intro True.intro
 | house n => exact fq9 (mqp (fun _ => kqF True.intro True.intro) fun _ => mqG) (fq9 (E1 True.intro True.intro) E3)
 | door v => exact fq9 (mqp (fun _ => mqp (fun _ => rqX True.intro True.intro) fun _ => mqG) fun _ => mqG) (mqp (fun _ => E3) fun _ => mqG)
 | step => exact fq9 (kqF True.intro True.intro) (fq9 (E1 True.intro True.intro) T)
 | between => exact fq9 (kqF True.intro True.intro) T
 | first => exact fq9 (kqF True.intro True.intro) (E1 True.intro True.intro)
 | name => exact fq9 (kqF True.intro True.intro) (fq9 (E1 True.intro True.intro) (fq9 (E1 True.intro True.intro) (E1 True.intro True.intro)))
 | value => exact fq9 (kqF True.intro True.intro) (fq9 (E1 True.intro True.intro) (E1 True.intro True.intro))
 | next => exact kqF True.intro True.intro
 | mark => exact kqF True.intro True.intro
 | pair g =>
  refine mqp (fun hf s hs => ?_) fun _ => mqG
  rw [List.mem_singleton.mp hs]
  have ha : AuG (.pair g) := ha.resolve_left (by simp)
  exact ⟨⟨ha.1, hc⟩, fun g' d e => (by injection e with _ e; rw [← e]; exact hf), ha.2.2⟩
 | second g d =>
  have ha : AuG (.second g d) := ha.resolve_left (by simp)
  refine mqp (fun _ => rqX ha.1.1 ?_) fun _ => mqG
  have h1 := ha.1.1
  have h2 : g ≠ .start := ha.2.2
  cases g <;> first | exact absurd rfl h2 | exact h1.elim | exact True.intro
def GoodS (S : List Au) : Prop := S = [.start] ∨ ((∀ s ∈ S, AuG s) ∧ (S.length ≤ 1 ∨ ∃ k, S = [.step, .scheme k]))
theorem GoodS.len {S : List Au} (h : GoodS S) : S.length ≤ 2 := by
 rcases h with rfl | ⟨_, h | ⟨k, rfl⟩⟩
 ·decide
 ·omega
 ·exact Nat.le_refl _
theorem GoodS.all {S : List Au} (h : GoodS S) : ∀ s ∈ S, AuOk s ∧ (∀ g d, s = .second g d → d ∈ fsF) ∧ (s = .start ∨ AuG s) := fun s hs => by
 rcases h with rfl | ⟨h, _⟩
 ·rw [List.mem_singleton.mp hs]; exact ⟨True.intro, fun g d e => (by cases e), .inl rfl⟩
 ·exact ⟨(h s hs).1, (h s hs).2.1, .inr (h s hs)⟩
theorem GoodS.step {S : List Au} {c : Nat} (h : GoodS S) (hc : c < 128) : GoodS (S.flatMap (move · c)) := by
 refine .inr ⟨fun s hs => ?_, ?_⟩
 ·obtain ⟨a, ha, hs⟩ := List.mem_flatMap.mp hs
  exact vqF (h.all a ha).2.2 hc s hs
 rcases h with rfl | ⟨h, hl | ⟨k, rfl⟩⟩
 ·rw [nq7, qqV]
  by_cases hl : isAln c = true ∧ isDg c = false
  ·rw [if_pos hl, oqA hl.1, (iqw hl.1).1, (iqw hl.1).2]
   exact .inr ⟨1, rfl⟩
  ·rw [if_neg hl, List.nil_append]
   left
   show (auS .step c frS ++ (auE c [(47, .slash true)] ++ auE c [(63, .first), (35, .mark)])).length ≤ 1
   rw [← eqL]
   exact iqn (fun hin => noE hin (by decide +kernel)) (dqe _ (by simp))
 ·left
  match S, hl, h with
  | [], _, _ => exact Nat.zero_le _
  | [s], _, h => rw [nq7]; exact tqw (h s (List.mem_singleton.mpr rfl)).2.2.ns
 ·rw [oq4, nqh]
  by_cases ha : isAln c = true
  ·rw [qqw ha, dqm (l := [(58, .colon)]) (by intro p hp; rw [List.mem_singleton.mp hp]; exact fun z => by rw [z] at ha; cases ha), List.append_nil]
   by_cases h8 : k < 8
   ·rw [show (if isAln c = true ∧ k < 8 then [Au.scheme (k + 1)] else []) = [Au.scheme (k + 1)] from if_pos ⟨ha, h8⟩]
    exact .inr ⟨k + 1, rfl⟩
   ·rw [show (if isAln c = true ∧ k < 8 then [Au.scheme (k + 1)] else []) = [] from if_neg (fun z => h8 z.2)]
    exact .inl (Nat.le_refl _)
  ·left
   rw [show (if isAln c = true ∧ k < 8 then [Au.scheme (k + 1)] else []) = [] from if_neg (fun z => ha z.1), List.nil_append]
   by_cases h58 : c = 58
   ·subst h58
    rw [mqe ⟨by decide, by decide +kernel, by decide⟩]
    exact Nat.le_refl _
   ·rw [dqm (l := [(58, .colon)]) (by intro p hp; rw [List.mem_singleton.mp hp]; exact h58), List.append_nil]
    exact tqw (by simp)
section
variable {r : List Nat} {n : Nat}
theorem bqt {w r' : List Nat} (e : r = w ++ r') (h : w.length = n) : r = w ++ r.drop n := by
 rw [e, ← h, List.drop_left]
theorem gqQ {fr s : List Nat} {mo : Option Nat} (h : txtM fr r mo = .ok (s, n)) : ∃ w, r = w ++ r.drop n ∧ w.length = n ∧ WrT fr s w ∧ (Stops fr (r.drop n) ∨ mo = some s.length) := by
 obtain ⟨w, r', e1, e2, e3, e4, _⟩ := dq6 _ (Nat.le_refl _) h
 have e5 := bqt e1 e2
 have e6 : r.drop n = r' := by rw [e1, ← e2, List.drop_left]
 exact ⟨w, e5, e2, e3, by rw [e6]; exact e4⟩
theorem dqB {c : Nat} (h : r.head? = some c) : r = c :: r.drop 1 := by
 cases r with
 | nil => cases h
 | cons d r => cases h; rfl
theorem rqt {o : Option (List Nat)} (h : houM r = .ok (o, n)) : ∃ w, r = w ++ r.drop n ∧ w.length = n ∧ HouW o w := by
 unfold houM at h
 by_cases h2 : r.take 2 = [47, 47]
 ·rw [if_pos h2] at h
  obtain ⟨m, e, rfl⟩ := dqX h
  obtain ⟨a, e', rfl⟩ := dql e
  obtain ⟨f1, f2⟩ := hqC e'
  obtain ⟨w, r', z1, z2, z3, z4, z5⟩ := dq6 _ (Nat.le_refl _) f1
  have hr : r = 47 :: 47 :: r.drop 2 := by
   have := List.take_append_drop 2 r
   rw [h2] at this
   exact this.symm
  refine ⟨47 :: 47 :: w, ?_, by simp only [List.length_cons]; omega, w, rfl, z3, f2, z5 60 rfl⟩
  refine bqt (r' := r') ?_ (by simp only [List.length_cons]; omega)
  rw [hr]
  simp only [List.drop_succ_cons, List.drop_zero, List.cons_append]
  rw [z1]
 ·rw [if_neg h2] at h; cases h; exact ⟨[], rfl, rfl, rfl⟩
theorem lqE : ∀ (r dn : List Nat), ∃ ds, r = ds ++ r.drop (dooG r (valD dn)).2 ∧ ds.length = (dooG r (valD dn)).2 ∧ (∀ c ∈ ds, 48 ≤ c ∧ c ≤ 57) ∧ (dooG r (valD dn)).1 = valD (dn ++ ds) ∧ (ds ≠ [] → 0 < valD dn)
 | [], dn => ⟨[], rfl, rfl, (fun c hc => by cases hc), by rw [List.append_nil]; rfl, fun h => absurd rfl h⟩
 | c :: r, dn => by
  unfold dooG
  by_cases hc : 0 < valD dn ∧ 48 ≤ c ∧ c ≤ 57 ∧ valD dn * 10 + (c - 48) ≤ 65535
  ·rw [if_pos hc]
   obtain ⟨ds, e1, e2, e3, e4, e5⟩ := lqE r (dn ++ [c])
   rw [kqo] at e1 e2 e4
   refine ⟨c :: ds, ?_, by simp only [List.length_cons]; omega, fun x hx => ?_, ?_, fun _ => hc.1⟩
   ·simp only [List.drop_succ_cons, List.cons_append]
    rw [← e1]
   ·rcases List.mem_cons.mp hx with rfl | hx
    ·exact ⟨hc.2.1, hc.2.2.1⟩
    ·exact e3 x hx
   ·show _ = valD (dn ++ ([c] ++ ds))
    rw [← List.append_assoc]
    exact e4
  ·rw [if_neg hc]
   exact ⟨[], rfl, rfl, (fun c hc => by cases hc), by rw [List.append_nil], fun h => absurd rfl h⟩
theorem rqv {ho : Option (List Nat)} {o : Option Int} (h : dorM ho r = .ok (o, n)) : ∃ w, r = w ++ r.drop n ∧ w.length = n ∧ DooW o w := by
 unfold dorM at h
 by_cases h2 : ho = none
 ·rw [if_pos h2] at h; cases h; exact ⟨[], rfl, rfl, rfl⟩
 rw [if_neg h2] at h
 have hb := qq4 h
 unfold dooM at h
 by_cases h3 : r.head? = some 58
 ·rw [if_pos h3] at h
  cases hd : r.drop 1 with
  | nil => rw [hd] at h; cases h
  | cons c r' =>
   rw [hd] at h
   have h : (if 48 ≤ c ∧ c ≤ 57 then (.ok (some ((dooG r' (c - 48)).1 : Int), 2 + (dooG r' (c - 48)).2) : Rs (Option Int)) else .error 1) = .ok (o, n) := h
   by_cases hc : 48 ≤ c ∧ c ≤ 57
   ·rw [if_pos hc] at h
    cases h
    obtain ⟨ds, e1, e2, e3, e4, e5⟩ := lqE r' [c]
    have ev : valD [c] = c - 48 := by simp [valD]
    rw [ev] at e1 e2 e4 e5
    have hr : r = 58 :: c :: r' := by rw [dqB h3, hd]
    refine ⟨58 :: c :: ds, ?_, by simp only [List.length_cons]; omega, c :: ds, rfl, by simp, fun x hx => ?_, ?_, ?_, ?_⟩
    ·refine bqt (r' := r'.drop (dooG r' (c - 48)).2) ?_ (by simp only [List.length_cons]; omega)
     rw [hr]
     simp only [List.cons_append]
     rw [← e1]
    ·rcases List.mem_cons.mp hx with rfl | hx
     ·exact hc
     ·exact e3 x hx
    ·have e4 : (dooG r' (c - 48)).1 = valD (c :: ds) := e4
     rw [e4]
    ·have e4 : (dooG r' (c - 48)).1 = valD (c :: ds) := e4
     have := (hb.2 _ rfl).2
     rw [e4] at this
     omega
    ·by_cases h48 : c = 48
     ·left
      cases ds with
      | nil => rw [h48]
      | cons d ds => have := e5 (by simp); omega
     ·right
      intro z
      exact h48 (Option.some.inj z)
   ·rw [if_neg hc] at h; cases h
 ·rw [if_neg h3] at h; cases h; exact ⟨[], rfl, rfl, rfl⟩
theorem qqS {o : Option (List Nat)} (h : marM r = .ok (o, n)) : ∃ w, r = w ++ r.drop n ∧ w.length = n ∧ MarW o w := by
 unfold marM at h
 by_cases h2 : r.head? = some 35
 ·rw [if_pos h2] at h
  obtain ⟨m, e, rfl⟩ := dqX h
  obtain ⟨a, e', rfl⟩ := dql e
  obtain ⟨w, z1, z2, z3, _⟩ := gqQ e'
  refine ⟨35 :: w, ?_, by simp only [List.length_cons]; omega, w, rfl, z3⟩
  refine bqt (r' := (r.drop 1).drop m) ?_ (by simp only [List.length_cons]; omega)
  rw [List.cons_append, ← z1]
  exact dqB h2
 ·rw [if_neg h2] at h; cases h; exact ⟨[], rfl, rfl, rfl⟩
theorem nqV {o : Option (List Nat)} (h : valM r = .ok (o, n)) : ∃ w, r = w ++ r.drop n ∧ w.length = n ∧ ValW o w := by
 unfold valM at h
 by_cases h2 : r.head? = some 61
 ·rw [if_pos h2] at h
  obtain ⟨m, e, rfl⟩ := dqX h
  obtain ⟨a, e', rfl⟩ := dql e
  obtain ⟨w, z1, z2, z3, _⟩ := gqQ e'
  refine ⟨61 :: w, ?_, by simp only [List.length_cons]; omega, w, rfl, z3⟩
  refine bqt (r' := (r.drop 1).drop m) ?_ (by simp only [List.length_cons]; omega)
  rw [List.cons_append, ← z1]
  exact dqB h2
 ·rw [if_neg h2] at h; cases h; exact ⟨[], rfl, rfl, rfl⟩
theorem kqR : ∀ (f : Nat) {r : List Nat} {e : Bool} {ss : List (List Nat)} {e' : Bool} {n : Nat}, r.length < f → stpF f r e = .ok ((ss, e'), n) →
  ∃ w, r = w ++ r.drop n ∧ w.length = n ∧ (ss = [] → w = [] ∧ e' = e) ∧ (∀ s ss', ss = s :: ss' → ∃ w1 w2, w = w1 ++ w2 ∧ WrT frS s w1 ∧ s ≠ [] ∧ TlW ss' e' w2)
 | 0, r, e, ss, e', n, hf, h => by omega
 | f + 1, r, e, ss, e', n, hf, h => by
  unfold stpF at h
  cases ht : txtM frS r none with
  | error k => rw [ht] at h; cases h
  | ok x =>
   obtain ⟨s, k⟩ := x
   rw [ht] at h
   have h : (if s = [] then (.ok (([], e), k) : Rs (List (List Nat) × Bool)) else if (r.drop k).head? = some 47 then sh (k + 1) (mp (fun x => (s :: x.1, x.2)) (stpF f (r.drop (k + 1)) true)) else sh k (mp (fun x => (s :: x.1, x.2)) (stpF f (r.drop k) false))) = .ok ((ss, e'), n) := h
   obtain ⟨w, z1, z2, z3, z4⟩ := gqQ ht
   have t1 := (cqp ht).1
   have z4 : Stops frS (r.drop k) := z4.elim id (fun z => by cases z)
   by_cases hs : s = []
   ·rw [if_pos hs] at h
    cases h
    subst hs
    cases z3
    simp only [List.length_nil] at z2
    subst z2
    exact ⟨[], rfl, rfl, fun _ => ⟨rfl, rfl⟩, fun s ss' z => by cases z⟩
   rw [if_neg hs] at h
   have hk := (cqp ht).2.2 hs
   by_cases h47 : (r.drop k).head? = some 47
   ·rw [if_pos h47] at h
    obtain ⟨m, h2, rfl⟩ := dqX h
    obtain ⟨a, h3, ea⟩ := dql h2
    obtain ⟨as, ae⟩ := a
    cases ea
    have := cq3 h47
    rw [List.length_drop] at this
    obtain ⟨v, y1, y2, y3, y4⟩ := kqR f (by rw [List.length_drop]; omega) h3
    have hd : r.drop k = 47 :: r.drop (k + 1) := by rw [dqB h47, List.drop_drop]
    refine ⟨w ++ 47 :: v, ?_, by simp only [List.length_append, List.length_cons]; omega, (fun z => by cases z), fun s' ss' z => ?_⟩
    ·refine bqt (r' := (r.drop (k + 1)).drop m) ?_ (by simp only [List.length_append, List.length_cons]; omega)
     rw [List.append_assoc, List.cons_append, ← y1, ← hd]
     exact z1
    ·cases z
     refine ⟨w, 47 :: v, rfl, z3, hs, ?_⟩
     cases as with
     | nil =>
      obtain ⟨rfl, rfl⟩ := y3 rfl
      exact .ends
     | cons s2 ss2 =>
      obtain ⟨w1, w2, rfl, c1, c2, c3⟩ := y4 s2 ss2 rfl
      exact .more c1 c2 c3
   ·rw [if_neg h47] at h
    obtain ⟨m, h2, rfl⟩ := dqX h
    obtain ⟨a, h3, ea⟩ := dql h2
    obtain ⟨as, ae⟩ := a
    cases ea
    have h3' : as = [] ∧ ae = false ∧ m = 0 := by
     cases f with
     | zero => omega
     | succ f =>
      unfold stpF at h3
      rw [lq5 z4] at h3
      cases h3
      exact ⟨rfl, rfl, rfl⟩
    obtain ⟨rfl, rfl, rfl⟩ := h3'
    refine ⟨w, z1, z2, (fun z => by cases z), fun s' ss' z => ?_⟩
    cases z
    exact ⟨w, [], (List.append_nil _).symm, z3, hs, .stop⟩
theorem qqu {must : Bool} {rt e : Bool} {ss : List (List Nat)} (h : wayM must r = .ok ((rt, ss, e), n)) : ∃ g w, r = (g ++ w) ++ r.drop n ∧ (g ++ w).length = n ∧ (g = (if rt then [47] else []) ∨ (g = [] ∧ rt = true ∧ ss = [] ∧ must = true ∧ r.head? ≠ some 47)) ∧ StpW ss e w := by
 have fin : ∀ {w : List Nat} {e0 : Bool}, (ss = [] → w = [] ∧ e = e0) → (∀ s ss', ss = s :: ss' → ∃ w1 w2, w = w1 ++ w2 ∧ WrT frS s w1 ∧ s ≠ [] ∧ TlW ss' e w2) → StpW ss e w := fun {w} {e0} h1 h2 => by
  cases ss with
  | nil => obtain ⟨rfl, rfl⟩ := h1 rfl; exact .none
  | cons s ss => obtain ⟨w1, w2, rfl, c1, c2, c3⟩ := h2 s ss rfl; exact .some c1 c2 c3
 unfold wayM at h
 by_cases h1 : r.head? = some 47
 ·rw [if_pos h1] at h
  obtain ⟨m, h2, rfl⟩ := dqX h
  obtain ⟨a, h3, ea⟩ := dql h2
  obtain ⟨as, ae⟩ := a
  cases ea
  obtain ⟨w, y1, y2, y3, y4⟩ := kqR _ (by rw [List.length_drop]; omega) h3
  refine ⟨[47], w, ?_, by simp only [List.length_append, List.length_cons, List.length_nil]; omega, .inl rfl, fin y3 y4⟩
  refine bqt (r' := (r.drop 1).drop m) ?_ (by simp only [List.length_append, List.length_cons, List.length_nil]; omega)
  rw [List.append_assoc, ← y1]
  exact dqB h1
 ·rw [if_neg h1] at h
  by_cases h2 : must = true
  ·rw [if_pos h2] at h
   cases h
   exact ⟨[], [], rfl, rfl, .inr ⟨rfl, rfl, rfl, h2, h1⟩, .none⟩
  ·rw [if_neg h2] at h
   obtain ⟨a, h3, ea⟩ := dql h
   obtain ⟨as, ae⟩ := a
   cases ea
   obtain ⟨w, y1, y2, y3, y4⟩ := kqR _ (by omega) h3
   exact ⟨[], w, y1, y2, .inl rfl, fin y3 y4⟩
theorem nqP : ∀ (f : Nat) {r : List Nat} {l : List (List Nat × Option (List Nat))} {n : Nat}, r.length < f → prsF f r = .ok (l, n) → ∃ w, r = w ++ r.drop n ∧ w.length = n ∧ PrsW l w
 | 0, r, l, n, hf, h => by omega
 | f + 1, r, l, n, hf, h => by
  unfold prsF at h
  by_cases h2 : r.head? = some 38
  ·rw [if_pos h2] at h
   obtain ⟨m, h3, rfl⟩ := dqX h
   obtain ⟨s, k, m2, e1, h4, rfl⟩ := gqs h3
   obtain ⟨v, k2, m3, e2, h5, rfl⟩ := gqs h4
   obtain ⟨l', h6, rfl⟩ := dql h5
   obtain ⟨t1, t2⟩ := hqC e1
   obtain ⟨w1, a1, a2, a3, _⟩ := gqQ t1
   obtain ⟨w2, b1, b2, b3⟩ := nqV e2
   have hh := cq3 h2
   obtain ⟨w3, c1, c2, c3⟩ := nqP f (by rw [List.length_drop]; omega) h6
   refine ⟨38 :: (w1 ++ (w2 ++ w3)), ?_, by simp only [List.length_append, List.length_cons]; omega, .cons a3 t2 b3 c3⟩
   refine bqt (r' := (r.drop (1 + k + k2)).drop m3) ?_ (by simp only [List.length_append, List.length_cons]; omega)
   have g1 := dqB h2
   rw [List.drop_drop] at a1 b1
   rw [List.cons_append, List.append_assoc, List.append_assoc, ← c1, ← b1, ← a1]
   exact g1
  ·rw [if_neg h2] at h; cases h; exact ⟨[], rfl, rfl, .nil⟩
theorem qqv {o : Option (List (List Nat × Option (List Nat)))} (h : queM r = .ok (o, n)) : ∃ w, r = w ++ r.drop n ∧ w.length = n ∧ QueW o w := by
 unfold queM at h
 by_cases h2 : r.head? = some 63
 ·rw [if_pos h2] at h
  obtain ⟨m, h3, rfl⟩ := dqX h
  obtain ⟨s, k, m2, e1, h4, rfl⟩ := gqs h3
  have hh := cq3 h2
  obtain ⟨w1, a1, a2, a3, _⟩ := gqQ e1
  have g1 := dqB h2
  have h4 : (if s = [] then (.ok (some [], 0) : Rs (Option (List (List Nat × Option (List Nat))))) else bdR (valM (r.drop (1 + k))) fun v m => mp (fun l => some ((s, v) :: l)) (prsF (r.length + 1) (r.drop (1 + k + m)))) = .ok (o, m2) := h4
  by_cases hs : s = []
  ·rw [if_pos hs] at h4
   cases h4
   subst hs
   cases a3
   simp only [List.length_nil] at a2
   subst a2
   exact ⟨[63], g1, rfl, rfl⟩
  ·rw [if_neg hs] at h4
   obtain ⟨v, k2, m3, e2, h5, rfl⟩ := gqs h4
   obtain ⟨l', h6, rfl⟩ := dql h5
   obtain ⟨w2, b1, b2, b3⟩ := nqV e2
   obtain ⟨w3, c1, c2, c3⟩ := nqP _ (by rw [List.length_drop]; omega) h6
   refine ⟨63 :: (w1 ++ (w2 ++ w3)), ?_, by simp only [List.length_append, List.length_cons]; omega, w1, w2, w3, rfl, a3, hs, b3, c3⟩
   refine bqt (r' := (r.drop (1 + k + k2)).drop m3) ?_ (by simp only [List.length_append, List.length_cons]; omega)
   rw [List.drop_drop] at a1 b1
   rw [List.cons_append, List.append_assoc, List.append_assoc, ← c1, ← b1, ← a1]
   exact g1
 ·rw [if_neg h2] at h; cases h; exact ⟨[], rfl, rfl, rfl⟩
end
def WrA (x : Ad) (t : List Nat) : Prop := ∃ h d g w q m, t = schT x.scheme ++ (h ++ (d ++ ((g ++ w) ++ (q ++ m)))) ∧ HouW x.house h ∧ DooW x.door d ∧ (g = (if x.rooted then [47] else []) ∨ (g = [] ∧ x.rooted = true ∧ x.steps = [] ∧ (x.scheme ≠ [] ∨ x.house ≠ none) ∧ ((g ++ w) ++ (q ++ m)).head? ≠ some 47)) ∧ StpW x.steps x.ends w ∧ QueW x.quest q ∧ MarW x.mark m
theorem sqH (t : List Nat) : t = schT (schM t) ++ t.drop (schP t) := by
 by_cases h : ahead t ≠ [] ∧ schD (.str ⟨(ahead t).toArray⟩) = true ∧ t[(ahead t).length]? = some 58
 ·obtain ⟨e1, e2⟩ := hqe h.1 h.2.1 h.2.2
  refine bqt (r' := t.drop ((ahead t).length + 1)) ?_ rfl
  rw [e1]
  unfold schT
  rw [if_neg h.1]
  have hp : t = ahead t ++ t.drop (ahead t).length := by obtain ⟨y, hy⟩ := iqx t; exact bqt hy rfl
  have hd : t.drop (ahead t).length = 58 :: t.drop ((ahead t).length + 1) := by
   have hlt : (ahead t).length < t.length := (List.getElem?_eq_some_iff.mp h.2.2).1
   rw [List.drop_eq_getElem_cons hlt]
   congr 1
   exact (List.getElem?_eq_some_iff.mp h.2.2).2
  rw [List.append_assoc]
  show t = ahead t ++ (58 :: t.drop ((ahead t).length + 1))
  rw [← hd]
  exact hp
 ·obtain ⟨e1, e2⟩ := hq0 h
  rw [e1, e2]
  rfl
theorem rqU {t : List Nat} {x : Ad} (e : readM t = .ok x) : WrA x t := by
 obtain ⟨n1, n2, n3, n4, n5, e1, e2, e3, e4, e5, hl, es⟩ := mqa e
 obtain ⟨h, a1, a2, a3⟩ := rqt e1
 obtain ⟨d, b1, b2, b3⟩ := rqv e2
 obtain ⟨g, w, c1, c2, c3, c4⟩ := qqu e3
 obtain ⟨q, d1, d2, d3⟩ := qqv e4
 obtain ⟨m, f1, f2, f3⟩ := qqS e5
 rw [List.drop_drop] at a1 b1 c1 d1 f1
 have hend : t.drop (schP t + n1 + n2 + n3 + n4 + n5) = [] := by rw [hl]; exact List.drop_length
 rw [hend, List.append_nil] at f1
 have hh : t.drop (schP t + n1 + n2) = (g ++ w) ++ (q ++ m) := by rw [c1, d1, f1]
 refine ⟨h, d, g, w, q, m, ?_, a3, b3, ?_, c4, d3, f3⟩
 ·rw [es, ← f1, ← d1, ← c1, ← b1, ← a1]
  exact sqH t
 ·rcases c3 with c3 | ⟨y1, y2, y3, y4, y5⟩
  ·exact .inl c3
  ·rw [hh] at y5
   refine .inr ⟨y1, y2, y3, ?_, y5⟩
   have := of_decide_eq_true y4
   rw [es]
   exact this
theorem vqW : ∀ (k : Nat) (ds : List Nat), ds.length = k → ds ≠ [] → (∀ c ∈ ds, 48 ≤ c ∧ c ≤ 57) → (ds = [48] ∨ ds.head? ≠ some 48) → (Nat.toDigits 10 (valD ds)).map Char.toNat = ds := by
 intro k
 induction k with
 | zero => intro ds hl hn; exact absurd (List.length_eq_zero_iff.mp hl) hn
 | succ k ih =>
  intro ds hl hn hd h0
  have key : ∀ n, n < 10 → ([Nat.digitChar n].map Char.toNat) = [48 + n] := by decide +kernel
  obtain ⟨as, c, rfl⟩ : ∃ as c, ds = as ++ [c] := ⟨ds.dropLast, ds.getLast hn, (List.dropLast_concat_getLast hn).symm⟩
  have hc := hd c (List.mem_append_right _ (List.mem_singleton.mpr rfl))
  rw [kqo]
  cases has : as with
  | nil =>
   have ev : valD ([] : List Nat) = 0 := rfl
   rw [ev, Nat.zero_mul, Nat.zero_add, Nat.toDigits_of_lt_base (by omega), key _ (by omega)]
   show [48 + (c - 48)] = [c]
   congr 1; omega
  | cons a as' =>
   rw [← has]
   have hne : as ≠ [] := by rw [has]; simp
   have ha48 : a ≠ 48 := fun z => by
    rcases h0 with h0 | h0
    ·have := congrArg List.length h0
     rw [List.length_append, has] at this
     simp at this
    ·refine h0 ?_
     rw [has, z]; rfl
   have ha := hd a (by rw [has]; simp)
   have hp := sqt has (by omega)
   have hi := ih as (by rw [List.length_append, List.length_singleton] at hl; omega) hne (fun x hx => hd x (List.mem_append_left _ hx)) (.inr (by rw [has]; intro z; exact ha48 (Option.some.inj z)))
   rw [Nat.toDigits_of_base_le (by decide) (by omega), List.map_append]
   rw [show (valD as * 10 + (c - 48)) / 10 = valD as by omega, show (valD as * 10 + (c - 48)) % 10 = c - 48 by omega, hi, key _ (by omega)]
   congr 1
   show [48 + (c - 48)] = [c]
   congr 1; omega
theorem Ad.Wf.isAd {x : Ad} (h : x.Wf) : addrD x.data = true := by
 have hsg : ∀ {l : List Nat}, (∀ c ∈ l, isSg c = true) → Tx l.length l := fun h => ⟨Nat.le_refl _, h⟩
 have h1 : schD (st x.scheme) = true := by
  simp only [schD, pqn, Bool.and_eq_true, decide_eq_true_eq]
  exact ⟨⟨⟨List.all_eq_true.mpr fun c hc => qqQ (h.sch.2.1 c hc), h.sch.1⟩, List.all_eq_true.mpr h.sch.2.2⟩, List.all_eq_true.mpr h.sch.2.1⟩
 have h2 : houD (oD x.house) = true := by
  cases e : x.house with
  | none => rfl
  | some l =>
   have := h.hou l e
   simp only [oD, houD, pqn, Bool.and_eq_true, decide_eq_true_eq]
   exact ⟨⟨uqw (hsg this.2), this.1.1⟩, this.1.2⟩
 have h3 : dooD (iD x.door) = true := by
  cases e : x.door with
  | none => rfl
  | some i =>
   have := (h.doo i e).1
   simp only [iD, dooD, Bool.and_eq_true, decide_eq_true_eq]
   exact this
 have h4 : wayD x.way = true := by
  simp only [Ad.way, wayD, Bool.and_eq_true, Bool.or_eq_true, decide_eq_true_eq, List.length_map]
  refine ⟨List.all_eq_true.mpr fun d hd => ?_, ?_⟩
  ·obtain ⟨l, hl, rfl⟩ := List.mem_map.mp hd
   exact tqc ⟨(h.stp l hl).1, hsg (h.stp l hl).2⟩
  ·by_cases e : x.steps = []
   ·exact .inr (h.end_ e).symm
   ·exact .inl (List.length_pos_iff.mpr e)
 have h5 : queD (qD x.quest) = true := by
  cases e : x.quest with
  | none => rfl
  | some ps =>
   refine List.all_eq_true.mpr fun d hd => ?_
   obtain ⟨p, hp, rfl⟩ := List.mem_map.mp hd
   have := h.que ps e p hp
   simp only [askD, Bool.and_eq_true]
   refine ⟨tqc ⟨this.1.1, hsg this.1.2⟩, ?_⟩
   cases e2 : p.2 with
   | none => rfl
   | some v => exact uqw (hsg (this.2 v e2))
 have h6 : ntx (oD x.mark) = true := by
  cases e : x.mark with
  | none => rfl
  | some l => exact uqw (hsg (h.mar l e))
 have h7 : agrD (st x.scheme) (oD x.house) (iD x.door) x.way = true := by
  have hn : ∀ o : Option (List Nat), nonD (oD o) = o.isNone := fun o => by cases o <;> rfl
  have hi : nonD (iD x.door) = x.door.isNone := by cases x.door <;> rfl
  simp only [agrD, Ad.way, hn, hi, Bool.and_eq_true, Bool.or_eq_true]
  refine ⟨?_, ?_⟩
  ·cases e : x.door with
   | none => exact .inl rfl
   | some i =>
    right
    cases e2 : x.house with
    | none => exact absurd e2 (h.doo i e).2
    | some l => rfl
  ·by_cases e : x.scheme ≠ [] ∨ x.house ≠ none
   ·exact .inl (h.roo e)
   ·right
    have e1 : x.scheme = [] := Classical.byContradiction fun z => e (.inl z)
    have e2 : x.house = none := Classical.byContradiction fun z => e (.inr z)
    rw [e1, e2]
    decide
 simp only [Ad.data, addrD, h1, h2, h3, h4, h5, h6, h7, Bool.and_self]
theorem Ad.Sz.small {x : Ad} (h : x.Sz) (wf : x.Wf) : smallD x.data = true := by
 have hs : ∀ {l : List Nat}, l.length ≤ 2000 → smallD (st l) = true := fun h => by simp only [smallD, pqn, decide_eq_true_eq]; omega
 have ho : ∀ {o : Option (List Nat)}, (∀ l, o = some l → l.length ≤ 2000) → smallD (oD o) = true := fun {o} h => by
  cases o with
  | none => rfl
  | some l => exact hs (h l rfl)
 have h1 : smallD (.tuple (x.steps.map st)) = true := dqU (by rw [List.length_map]; have := h.num; omega) (hqU fun d hd => by
  obtain ⟨l, hl, rfl⟩ := List.mem_map.mp hd
  exact hs (h.stp l hl))
 have h2 : smallD x.way = true := dqU (by simp) (by simp only [smallAll, h1]; rfl)
 have h3 : smallD (qD x.quest) = true := by
  cases e : x.quest with
  | none => rfl
  | some ps =>
   have hq := h.que ps e
   refine dqU (by rw [List.length_map]; have := hq.1; omega) (hqU fun d hd => ?_)
   obtain ⟨p, hp, rfl⟩ := List.mem_map.mp hd
   obtain ⟨h1, h2⟩ := hq.2 p hp
   exact dqU (by simp) (by simp only [smallAll, hs h1, ho h2]; rfl)
 have h4 : smallD (st x.scheme) = true := hs (by have := wf.sch.1; omega)
 have h5 : smallD (oD x.house) = true := ho fun l e => by have := (wf.hou l e).1.2; omega
 have h6 : smallD (iD x.door) = true := by cases x.door <;> rfl
 have h7 : smallD (oD x.mark) = true := ho h.mar
 exact dqU (by simp) (by simp only [smallAll, h2, h3, h4, h5, h6, h7]; rfl)
def At (t : List Nat) (i : Nat) (r : List Nat) : Prop := t.drop i = r ∧ i ≤ t.length
theorem At.step {t w r : List Nat} {i : Nat} (h : At t i (w ++ r)) : At t (i + w.length) r := by
 obtain ⟨e, hl⟩ := h
 refine ⟨by rw [← List.drop_drop, e, List.drop_left], ?_⟩
 have := congrArg List.length e
 rw [List.length_drop, List.length_append] at this
 omega
theorem At.len {t r : List Nat} {i : Nat} (h : At t i r) : i + r.length = t.length := by
 have := congrArg List.length h.1
 rw [List.length_drop] at this
 have := h.2
 omega
theorem At.cut {t w r : List Nat} {i : Nat} (h : At t i (w ++ r)) : (t.drop i).take w.length = w := by rw [h.1, List.take_left]
theorem sqx {a b c : Nat} (h : sgO a b = some c) : (#[a, b] : Array Nat).map PyProof.Rows.lo1 = #[hexd (c / 16), hexd (c % 16)] := by
 have h1 := kqJ h
 have key : ∀ a, a < 128 → ∀ h, fig a = some h → PyProof.Rows.lo1 a = hexd h ∧ h < 16 := by decide +kernel
 unfold sgO at h
 cases ea : fig a with
 | none => rw [ea] at h; cases h
 | some x =>
  cases eb : fig b with
  | none => rw [ea, eb] at h; cases h
  | some y =>
   rw [ea, eb] at h
   obtain ⟨k1, k2⟩ := key a h1.2.1 x ea
   obtain ⟨k3, k4⟩ := key b h1.2.2.1 y eb
   have h : (if isSg (x * 16 + y) then some (x * 16 + y) else none) = some c := h
   by_cases hs : isSg (x * 16 + y) = true
   ·rw [if_pos hs] at h
    cases h
    rw [show (#[a, b] : Array Nat).map PyProof.Rows.lo1 = #[PyProof.Rows.lo1 a, PyProof.Rows.lo1 b] by simp]
    rw [k1, k3, show (x * 16 + y) / 16 = x by omega, show (x * 16 + y) % 16 = y by omega]
   ·rw [if_neg hs] at h; cases h
end Wm
namespace Wm
theorem vq7 {c : Nat} (h : isPl c = true) : c < 128 := by
 simp only [isPl, isAln, isLet, Bool.or_eq_true, Bool.and_eq_true, decide_eq_true_eq] at h
 omega
def QuR (L : List (List Nat × Option (List Nat))) (j : Nat) (u : List Nat) : Prop :=
 (j < L.length → j = 0 → ∃ n o ps a v r, L = (n, o) :: ps ∧ u = a ++ (v ++ r) ∧ WrT frQ n a ∧ ValW o v ∧ PrsW ps r) ∧ (j = 0 → L = [] → u = []) ∧ (0 < j → PrsW (L.drop j) u)
end Wm
namespace Wm
open PySem L2
theorem wqB {x : Ad} : PyData.eqv (.tuple [.str (Str.ofString "read"), x.data]) (.tuple [.str (Str.ofString "read"), x.data]) = true := by
 simp only [PyData.eqv, PyData.eqvAll, Bool.and_true, beq_self_eq_true, Bool.true_and]
 exact (Ad.eqv_iff _ _).mpr rfl
theorem rqA {x : Ad} (wf : x.Wf) : SeqAt.shaped (.tuple [.str (Str.ofString "read"), x.data]) = true := by
 have e : PyData.str (Str.ofString "read") = st [114, 101, 97, 100] := by rw [show Str.ofString "read" = ⟨[114, 101, 97, 100].toArray⟩ by decide +kernel]
 have L := wf.lay
 rw [e]
 exact (LayAt.tup (n := 3) (ds := [st [114, 101, 97, 100], x.data]) (fun d hd => by
  rcases List.mem_cons.mp hd with rfl | hd
  ·exact (LayAt.st (l := [114, 101, 97, 100]) (by decide)).le (Nat.zero_le _)
  ·rw [List.mem_singleton.mp hd]; exact L)).shaped (by decide)
theorem pick {cs : List Str} {i : Int} (h0 : 0 ≤ i) (h1 : i < cs.length) : ∃ s ∈ cs, atI (cs.map V.str) i = some (.str s) := by
 obtain ⟨n, rfl⟩ := Int.eq_ofNat_of_zero_le h0
 have hn : n < cs.length := by omega
 exact ⟨cs[n], List.getElem_mem hn, aqu (by rw [List.getElem?_map, List.getElem?_eq_getElem hn]; rfl)⟩
theorem pq4 (n : Int) : SeqAt.shaped (.tuple [.str (Str.ofString "at"), .int n]) = true := by
 have e : PyData.str (Str.ofString "at") = st [97, 116] := by rw [show Str.ofString "at" = ⟨[97, 116].toArray⟩ by decide +kernel]
 rw [e]
 exact (LayAt.tup (n := 0) (ds := [st [97, 116], .int n]) (fun d hd => by
  rcases List.mem_cons.mp hd with rfl | hd
  ·exact LayAt.st (l := [97, 116]) (by decide)
  ·rw [List.mem_singleton.mp hd]; exact LayAt.iD (o := some n))).shaped (by decide)
theorem tqD (n : Int) : PyData.eqv (.tuple [.str (Str.ofString "at"), .int n]) (.tuple [.str (Str.ofString "at"), .int n]) = true := by simp [PyData.eqv, PyData.eqvAll]
theorem vqb {t : List Nat} {n : Nat} (h : readM t = .error n) : runA [.start] t 0 = (n : Int) := by rw [pqm, h]; rfl
theorem tqM {t : List Nat} {x : Ad} (h : readM t = .ok x) : runA [.start] t 0 = -1 := by rw [pqm, h]; rfl
theorem oqY {n : Nat} {H : Hp} : ∀ {xs ys : List V}, All2 (fun _ y _ => ∃ t : List Nat, y = .str ⟨t.toArray⟩ ∧ t.length ≤ n ∧ ∀ c ∈ t, c < 128) H xs ys → ∃ ws : List (List Nat), ys = (ws.map fun w => (⟨w.toArray⟩ : Str)).map V.str ∧ ws.length = xs.length ∧ (∀ w ∈ ws, w.length ≤ n ∧ ∀ c ∈ w, c < 128)
 | _, _, .nil => ⟨[], rfl, rfl, fun w hw => by cases hw⟩
 | _, _, .cons ⟨t, e, h1, h2⟩ r => by
  obtain ⟨ws, e1, e2, e3⟩ := oqY r
  refine ⟨t :: ws, by rw [e, e1]; rfl, by simp [e2], fun w hw => ?_⟩
  rcases List.mem_cons.mp hw with rfl | hw
  ·exact ⟨h1, h2⟩
  ·exact e3 w hw
theorem tqt {n : Nat} : ∀ {ws : List (List Nat)}, (∀ w ∈ ws, w.length ≤ n) → ((ws.map fun w => (⟨w.toArray⟩ : Str)).map (·.length)).sum ≤ n * ws.length
 | [], _ => by simp
 | w :: ws, h => by
  have ih := tqt (ws := ws) fun v hv => h v (List.mem_cons_of_mem _ hv)
  have hw := h w (List.mem_cons_self ..)
  simp only [List.map_cons, List.sum_cons, List.length_cons, dq0, Nat.mul_add, Nat.mul_one]
  have e : (List.map (fun x : Str => x.length) (List.map (fun w : List Nat => (⟨w.toArray⟩ : Str)) ws)).sum ≤ n * ws.length := ih
  omega
theorem rq8 (l : List Nat) (lo hi : Option Int) : ∃ l' : List Nat, Txt.slice (⟨l.toArray⟩ : Str) lo hi = ⟨l'.toArray⟩ ∧ l'.length ≤ l.length ∧ ∀ c ∈ l', c ∈ l := by
 refine ⟨_, iqD l lo hi, ?_, fun c hc => List.mem_of_mem_drop (List.mem_of_mem_take hc)⟩
 rw [List.length_take, List.length_drop]
 omega
def wrS (t : List Nat) (p : Addr) (sc : List Nat) (ho : Option (List Nat)) (dr : Option Int) (vw vq : V) (mk : Option (List Nat)) (i : Int) (v9 : Option V) : St := [some (.str ⟨t.toArray⟩), some (.ref p), some (.str ⟨sc.toArray⟩), some (otV ho), some (itV dr), some vw, some vq, some (otV mk), some (.int i), v9]
def top (i : Nat) : Stmt := PySem.Challenge.pw_waymark_k90_whole_each_text_read_or_refu.main.body.getD i (.Pass ⟨0, 0, 0, 0⟩)
abbrev fqI : Stmt := top 15
abbrev bqs : Stmt := top 17
abbrev bqq : Stmt := top 18
abbrev eqC : Stmt := top 33
abbrev eqG : Stmt := top 43
abbrev bqb : Stmt := top 46
abbrev aqP : Stmt := inClass (top 49) 0
abbrev aq9 : Stmt := inClass (top 52) 0
abbrev bqv : Stmt := inClass (top 52) 1
abbrev cqa : Stmt := inClass (top 52) 3
abbrev bqr : Stmt := inClass (top 52) 4
abbrev dqp : Stmt := top 57
abbrev bqJ : Stmt := top 66
abbrev cqL : Stmt := top 67
abbrev cqQ : Stmt := top 68
abbrev cqS : Stmt := top 70
abbrev dqs : Stmt := top 72
abbrev dqC : Stmt := top 75
abbrev bqK : Stmt := top 78
abbrev dqn : Stmt := top 81
abbrev fqL : Stmt := top 14
abbrev fqN : Stmt := top 16
abbrev cqm : Stmt := top 35
abbrev fqK : Stmt := top 38
abbrev cqe : Stmt := inClass (top 52) 2
abbrev eqB : Stmt := top 69
abbrev cqU : Stmt := top 71
abbrev cqK : Stmt := top 84
abbrev dqq : Stmt := top 36
abbrev bqh : Stmt := top 44
abbrev bqa : Stmt := top 45
abbrev cqX : Stmt := top 56
abbrev cqN : Stmt := top 64
abbrev dqy : Stmt := top 73
abbrev cqV : Stmt := top 74
abbrev dqA : Stmt := top 76
abbrev cqg : Stmt := top 80
abbrev eqF : Stmt := top 37
abbrev eqI : Stmt := top 40
abbrev eqD : Stmt := top 42
abbrev bqL : Stmt := top 54
abbrev cqW : Stmt := top 63
abbrev cqP : Stmt := top 77
abbrev eqE : Stmt := top 82
abbrev hqv : Stmt := top 39
abbrev cqi : Stmt := top 41
abbrev dqx : Stmt := top 58
abbrev cqd : Stmt := top 60
abbrev cqR : Stmt := top 61
abbrev aqV : Stmt := top 62
abbrev cqJ : Stmt := top 79
abbrev bq7 : Stmt := top 83
abbrev cqb : Stmt := top 34
abbrev bq3 : Stmt := top 55
abbrev bqi : Stmt := top 59
abbrev cqM : Stmt := top 32
abbrev lqz : Stmt := top 53
abbrev cqO : Stmt := top 85
abbrev pqP : Stmt := top 86
abbrev qqL : V := .str (Str.ofString " !\"#$&'()*+,-./0123456789:;<=>?@ABCDEFGHIJKLMNOPQRSTUVWXYZ[\\]^_`abcdefghijklmnopqrstuvwxyz{|}~")
abbrev qq9 : V := .str (Str.ofString "abcdefghijklmnopqrstuvwxyzABCDEFGHIJKLMNOPQRSTUVWXYZ")
abbrev gqU : V := .str (Str.ofString "abcdefghijklmnopqrstuvwxyzABCDEFGHIJKLMNOPQRSTUVWXYZ0123456789")
abbrev kqW : V := .str (Str.ofString "0123456789")
abbrev qq8 : V := .str (Str.ofString "abcdefghijklmnopqrstuvwxyzABCDEFGHIJKLMNOPQRSTUVWXYZ0123456789-_.")
abbrev eqJ : V := .str (Str.ofString "!$'()*,;@&=+")
abbrev bqg : V := .str (Str.ofString "!$'()*,;@+/?:")
abbrev gqz : V := .str (Str.ofString "!$'()*,;@&=+/?:")
abbrev hqB : V := .int 32
abbrev mqc : V := .int 126
abbrev fqG : V := .int 37
abbrev gqE : V := .str (Str.ofString "0123456789abcdef")
abbrev gqY : V := .str (Str.ofString "0123456789ABCDEF")
abbrev oqT : V := .int 0
abbrev rqG : V := .int 1
abbrev sq7 : V := .int 2
abbrev wqa : V := .int 3
abbrev pqL : V := .int 4
abbrev wqV : V := .int 5
abbrev mqR : V := .int 0
abbrev rqx : V := .int 1
abbrev tqj : V := .int 2
abbrev jqQ : V := .int 8
abbrev gq8 : V := .int 60
abbrev kqH : V := .int 65535
abbrev gqS : V := .str (Str.ofString "234567")
set_option genInjectivity false
set_option genSizeOf false
set_option genSizeOfSpec false
structure G (K : W.Frag) (mg : Str → Option Value) where
 iqX : Addr
 hqq : FuncData
 gqA : Fun K "made_of" "made_of" fqI iqX hqq
 iqM : mg "made_of" = some (.ref iqX)
 iqc : Binds K hqq ["text", "signs"] []
 cq4 : Addr
 cqE : FuncData
 cq8 : Fun K "figure_number" "figure_number" bqs cq4 cqE
 eqR : mg "figure_number" = some (.ref cq4)
 eqZ : Binds K cqE ["figure"] []
 cq2 : Addr
 cqx : FuncData
 eqT : Fun K "sign_numbered" "sign_numbered" bqq cq2 cqx
 gq9 : mg "sign_numbered" = some (.ref cq2)
 gq4 : Binds K cqx ["number"] []
 hqo : Addr
 fqZ : FuncData
 iq3 : Fun K "is_whole" "is_whole" eqC hqo fqZ
 lqD : mg "is_whole" = some (.ref hqo)
 lqy : Binds K fqZ ["address"] []
 hql : Addr
 fqT : FuncData
 fqE : Fun K "is_tuple" "is_tuple" eqG hql fqT
 hqw : mg "is_tuple" = some (.ref hql)
 hqk : Binds K fqT ["thing", "count"] []
 bq5 : Addr
 bqQ : FuncData
 dqr : Fun K "is_whole_number" "is_whole_number" bqb bq5 bqQ
 fqH : mg "is_whole_number" = some (.ref bq5)
 fqF : Binds K bqQ ["thing"] []
 bqp : Addr
 bqk : FuncData
 eqa : Fun K "__init__" "NoAddress.__init__" aqP bqp bqk
 aqI : Binds K bqk ["self", "at"] []
 cqh : Addr
 bqP : FuncData
 fqQ : Fun K "__init__" "Cursor.__init__" aq9 cqh bqP
 fqM : Binds K bqP ["self", "text"] []
 cq5 : Addr
 cqz : FuncData
 gqF : Fun K "at_end" "Cursor.at_end" bqv cq5 cqz
 eqO : Binds K cqz ["self"] []
 eqp : Addr
 dqI : FuncData
 iqC : Fun K "take" "Cursor.take" cqa eqp dqI
 cqc : Binds K dqI ["self"] []
 dqc : Addr
 cqB : FuncData
 gqG : Fun K "passes" "Cursor.passes" bqr dqc cqB
 aqF : Binds K cqB ["self", "text"] []
 gqe : Addr
 eq4 : FuncData
 fq8 : Fun K "door_with" "door_with" dqp gqe eq4
 hqY : mg "door_with" = some (.ref gqe)
 hq9 : Binds K eq4 ["door", "cursor"] []
 dqP : Addr
 cq6 : FuncData
 fqC : Fun K "_law_cell_at" "_law_cell_at" bqJ dqP cq6
 hqM : mg "_law_cell_at" = some (.ref dqP)
 hqA : Binds K cq6 ["_law_script", "_law_k"] []
 fqt : Addr
 eqx : FuncData
 gqM : Fun K "_law_whole" "_law_whole" cqL fqt eqx
 jqo : mg "_law_whole" = some (.ref fqt)
 jqu : Binds K eqx ["_law_found"] []
 eq6 : Addr
 eqt : FuncData
 bqS : Fun K "_law_table" "_law_table" cqQ eq6 eqt
 cqT : mg "_law_table" = some (.ref eq6)
 cqY : Binds K eqt [] []
 eq3 : Addr
 eqi : FuncData
 gqy : Fun K "_law_plain" "_law_plain" cqS eq3 eqi
 jqN : mg "_law_plain" = some (.ref eq3)
 jqG : Binds K eqi ["_law_sign"] []
 fq6 : Addr
 fql : FuncData
 aqU : Fun K "_law_ends" "_law_ends" dqs fq6 fql
 aq3 : mg "_law_ends" = some (.ref fq6)
 aq2 : Binds K fql ["_law_sign", "_law_some"] []
 fq5 : Addr
 fqk : FuncData
 hqZ : Fun K "_law_pair" "_law_pair" dqC fq5 fqk
 kqa : mg "_law_pair" = some (.ref fq5)
 kqd : Binds K fqk ["_law_state", "_law_sign"] []
 dqK : Addr
 dqa : FuncData
 fqy : Fun K "_law_may_end" "_law_may_end" bqK dqK dqa
 hqF : mg "_law_may_end" = some (.ref dqK)
 hqN : Binds K dqa ["_law_state"] []
 fq4 : Addr
 eq8 : FuncData
 aq4 : Fun K "_law_word" "_law_word" dqn fq4 eq8
 bqc : mg "_law_word" = some (.ref fq4)
 bqd : Binds K eq8 ["_law_text", "_law_here", "_law_word_here"] []
 iqi : Addr
 hqs : FuncData
 gqW : Fun K "is_text" "is_text" fqL iqi hqs
 iqF : mg "is_text" = some (.ref iqi)
 iqA : Binds K hqs ["thing"] []
 iqy : Addr
 hqn : FuncData
 kqy : Fun K "sign_of" "sign_of" fqN iqy hqn
 mqZ : mg "sign_of" = some (.ref iqy)
 nqN : Binds K hqn ["figures"] []
 equ : Addr
 dqJ : FuncData
 gqb : Fun K "parts_agree" "parts_agree" cqm equ dqJ
 iqo : mg "parts_agree" = some (.ref equ)
 iqQ : Binds K dqJ ["address"] []
 iqj : Addr
 hqh : FuncData
 kqU : Fun K "is_door" "is_door" fqK iqj hqh
 nqq : mg "is_door" = some (.ref iqj)
 nqr : Binds K hqh ["thing"] []
 eqj : Addr
 dqE : FuncData
 iqL : Fun K "sees" "Cursor.sees" cqe eqj dqE
 dqh : Binds K dqE ["self", "signs"] []
 hqc : Addr
 fq7 : FuncData
 jqj : Fun K "_law_hex" "_law_hex" eqB hqc fq7
 lqH : mg "_law_hex" = some (.ref hqc)
 lqC : Binds K fq7 ["_law_sign"] []
 fqn : Addr
 eql : FuncData
 aq8 : Fun K "_law_signs" "_law_signs" cqU fqn eql
 bqj : mg "_law_signs" = some (.ref fqn)
 bqn : Binds K eql ["_law_goal", "_law_sign", "_law_free"] []
 fqr : Addr
 eqk : FuncData
 hqb : Fun K "_law_piece" "_law_piece" cqK fqr eqk
 jqH : mg "_law_piece" = some (.ref fqr)
 jqF : Binds K eqk ["_law_cell", "_law_plainly"] []
 fqY : Addr
 fqa : FuncData
 gql : Fun K "is_scheme" "is_scheme" dqq fqY fqa
 hqS : mg "is_scheme" = some (.ref fqY)
 hqT : Binds K fqa ["thing"] []
 cqD : Addr
 bq6 : FuncData
 bqF : Fun K "is_filled_text" "is_filled_text" bqh cqD bq6
 cqC : mg "is_filled_text" = some (.ref cqD)
 cqy : Binds K bq6 ["thing"] []
 cqf : Addr
 bqO : FuncData
 cqk : Fun K "is_text_or_none" "is_text_or_none" bqa cqf bqO
 dqu : mg "is_text_or_none" = some (.ref cqf)
 dqt : Binds K bqO ["thing"] []
 fqq : Addr
 eqd : FuncData
 gqD : Fun K "taken_door" "taken_door" cqX fqq eqd
 jqt : mg "taken_door" = some (.ref fqq)
 jqO : Binds K eqd ["cursor"] []
 fqc : Addr
 eqf : FuncData
 gqN : Fun K "taken_pair" "taken_pair" cqN fqc eqf
 jqr : mg "taken_pair" = some (.ref fqc)
 jqv : Binds K eqf ["cursor"] []
 gqi : Addr
 fqf : FuncData
 hq4 : Fun K "_law_head" "_law_head" dqy gqi fqf
 kqu : mg "_law_head" = some (.ref gqi)
 kqs : Binds K fqf ["_law_state", "_law_sign"] []
 fqw : Addr
 eqz : FuncData
 gqR : Fun K "_law_house" "_law_house" cqV fqw eqz
 jqw : mg "_law_house" = some (.ref fqw)
 jqJ : Binds K eqz ["_law_state", "_law_sign"] []
 fq3 : Addr
 fqb : FuncData
 hqP : Fun K "_law_tail" "_law_tail" dqA fq3 fqb
 kqe : mg "_law_tail" = some (.ref fq3)
 kqf : Binds K fqb ["_law_state", "_law_sign"] []
 eqr : Addr
 dqL : FuncData
 bqB : Fun K "_law_behind" "_law_behind" cqg eqr dqL
 bq4 : mg "_law_behind" = some (.ref eqr)
 cqj : Binds K dqL ["_law_text", "_law_here", "_law_part", "_law_free"] []
 hqd : Addr
 fqW : FuncData
 jql : Fun K "is_house" "is_house" eqF hqd fqW
 lqF : mg "is_house" = some (.ref hqd)
 lqK : Binds K fqW ["thing"] []
 hqr : Addr
 fqS : FuncData
 jqc : Fun K "is_steps" "is_steps" eqI hqr fqS
 lqP : mg "is_steps" = some (.ref hqr)
 lqR : Binds K fqS ["thing"] []
 hqm : Addr
 gqa : FuncData
 iq5 : Fun K "is_asked" "is_asked" eqD hqm gqa
 lqL : mg "is_asked" = some (.ref hqm)
 lqx : Binds K gqa ["thing"] []
 dqN : Addr
 cqZ : FuncData
 fqx : Fun K "taken_scheme" "taken_scheme" bqL dqN cqZ
 hqL : mg "taken_scheme" = some (.ref dqN)
 hqD : Binds K cqZ ["cursor"] []
 fqj : Addr
 dqj : FuncData
 jqK : Addr
 kq8 : Tok
 bqx : FunD K "taken_text" "taken_text" cqW fqj dqj jqK
 bq2 : Binds K dqj ["cursor", "free", "most"] [.none]
 bq1 : mg "taken_text" = some (.ref fqj)
 jqs : Binds K dqj ["cursor", "free", "most"] []
 eq7 : Addr
 eqw : FuncData
 gqL : Fun K "_law_moved" "_law_moved" cqP eq7 eqw
 jqI : mg "_law_moved" = some (.ref eq7)
 jqA : Binds K eqw ["_law_state", "_law_sign"] []
 hqi : Addr
 fqX : FuncData
 iq4 : Fun K "_law_way" "_law_way" eqE hqi fqX
 lqW : mg "_law_way" = some (.ref hqi)
 lqS : Binds K fqX ["_law_text", "_law_here", "_law_way_here", "_law_held"] []
 jq2 : Addr
 iqd : FuncData
 mqx : Fun K "is_way" "is_way" hqv jq2 iqd
 oqU : mg "is_way" = some (.ref jq2)
 oqV : Binds K iqd ["thing"] []
 eqc : Addr
 dqD : FuncData
 gqn : Fun K "is_question" "is_question" cqi eqc dqD
 iqH : mg "is_question" = some (.ref eqc)
 iqk : Binds K dqD ["thing"] []
 fq1 : Addr
 fqv : FuncData
 hq7 : Fun K "taken_way" "taken_way" dqx fq1 fqv
 kqp : mg "taken_way" = some (.ref fq1)
 kqh : Binds K fqv ["cursor", "must_be_rooted"] []
 eqo : Addr
 dqF : FuncData
 eqs : Fun K "taken_value" "taken_value" cqd eqo dqF
 gqg : mg "taken_value" = some (.ref eqo)
 gqf : Binds K dqF ["cursor"] []
 fqd : Addr
 eqA : FuncData
 gqP : Fun K "taken_mark" "taken_mark" cqR fqd eqA
 jqD : mg "taken_mark" = some (.ref fqd)
 jqy : Binds K eqA ["cursor"] []
 bqy : Addr
 aq5 : FuncData
 eqX : Addr
 gqT : Tok
 bqE : FunD K "taken_filled_text" "taken_filled_text" aqV bqy aq5 eqX
 eqb : Binds K aq5 ["cursor", "free", "most"] [.none]
 cqH : mg "taken_filled_text" = some (.ref bqy)
 eqY : Binds K aq5 ["cursor", "free", "most"] []
 fqe : Addr
 eqg : FuncData
 gq6 : Fun K "_law_place" "_law_place" cqJ fqe eqg
 jqq : mg "_law_place" = some (.ref fqe)
 jqE : Binds K eqg ["_law_text"] []
 eqy : Addr
 dqG : FuncData
 gqd : Fun K "_law_writes" "_law_writes" bq7 eqy dqG
 iqG : mg "_law_writes" = some (.ref eqy)
 iqb : Binds K dqG ["_law_text", "_law_address"] []
 eqq : Addr
 dqH : FuncData
 gqj : Fun K "parts_stand" "parts_stand" cqb eqq dqH
 iqq : mg "parts_stand" = some (.ref eqq)
 iqm : Binds K dqH ["thing"] []
 eqm : Addr
 dqO : FuncData
 fq2 : Fun K "taken_house" "taken_house" bq3 eqm dqO
 iqT : mg "taken_house" = some (.ref eqm)
 iqB : Binds K dqO ["cursor"] []
 cqA : Addr
 bq9 : FuncData
 dq3 : Fun K "taken_question" "taken_question" bqi cqA bq9
 gqt : mg "taken_question" = some (.ref cqA)
 gqv : Binds K bq9 ["cursor"] []
 fqs : Addr
 eqn : FuncData
 gqK : Fun K "is_address" "is_address" cqM fqs eqn
 jqB : mg "is_address" = some (.ref fqs)
 jqM : Binds K eqn ["thing"] []
 pqp : Addr
 mqb : FuncData
 pq6 : Fun K "read" "read" lqz pqp mqb
 tql : mg "read" = some (.ref pqp)
 tqA : Binds K mqb ["text"] []
 fqo : Addr
 eqe : FuncData
 dqY : Fun K "_law_asked" "_law_asked" cqO fqo eqe
 fqp : mg "_law_asked" = some (.ref fqo)
 fqg : Binds K eqe ["_law_text"] []
 sqk : Addr
 nqo : FuncData
 wqR : Fun K "law" "law" pqP sqk nqo
 wqZ : mg "law" = some (.ref sqk)
 xqn : Binds K nqo ["_law_script"] []
 aqs : Addr
 aqk : Cls K aqs
 aq6 : NoAttr K aqs "text"
 aqq : NoAttr K aqs "place"
 pqf : mg "Cursor" = some (.ref aqs)
 pqb : Mk K aqs cqh
 dq4 : Meth K aqs "at_end" cq5
 bqM : Meth K aqs "take" eqp
 aqD : Meth K aqs "passes" dqc
 cqt : Meth K aqs "sees" eqj
 kqB : Tok
 oqy : mg "SIGNS" = some (.str (Str.ofString " !\"#$&'()*+,-./0123456789:;<=>?@ABCDEFGHIJKLMNOPQRSTUVWXYZ[\\]^_`abcdefghijklmnopqrstuvwxyz{|}~") kqB)
 gqJ : Tok
 nqC : mg "LETTERS" = some (.str (Str.ofString "abcdefghijklmnopqrstuvwxyzABCDEFGHIJKLMNOPQRSTUVWXYZ") gqJ)
 aqY : Tok
 dqT : mg "LETTERS_AND_FIGURES" = some (.str (Str.ofString "abcdefghijklmnopqrstuvwxyzABCDEFGHIJKLMNOPQRSTUVWXYZ0123456789") aqY)
 gq0 : Tok
 kqg : mg "FIGURES" = some (.str (Str.ofString "0123456789") gq0)
 kq0 : Tok
 rqQ : mg "PLAIN" = some (.str (Str.ofString "abcdefghijklmnopqrstuvwxyzABCDEFGHIJKLMNOPQRSTUVWXYZ0123456789-_.") kq0)
 bqY : Tok
 eqW : mg "FREE_IN_STEPS" = some (.str (Str.ofString "!$'()*,;@&=+") bqY)
 bqf : Tok
 bqz : mg "FREE_IN_QUESTIONS" = some (.str (Str.ofString "!$'()*,;@+/?:") bqf)
 bqX : Tok
 gqH : mg "FREE_IN_MARKS" = some (.str (Str.ofString "!$'()*,;@&=+/?:") bqX)
 cqw : Tok
 fqz : mg "FIRST_NUMBER" = some (.int 32 cqw)
 cq9 : Tok
 iql : mg "LAST_NUMBER" = some (.int 126 cq9)
 bqu : Tok
 dqw : mg "NUMBER_LEFT_OUT" = some (.int 37 bqu)
 bqW : Tok
 eqP : mg "SMALL_FIGURES" = some (.str (Str.ofString "0123456789abcdef") bqW)
 bqT : Tok
 eq2 : mg "GREAT_FIGURES" = some (.str (Str.ofString "0123456789ABCDEF") bqT)
 iqK : Tok
 mql : mg "SCHEME" = some (.int 0 iqK)
 kq2 : Tok
 oqE : mg "HOUSE" = some (.int 1 kq2)
 nqL : Tok
 qqW : mg "DOOR" = some (.int 2 nqL)
 qq6 : Tok
 uqe : mg "WAY" = some (.int 3 qq6)
 fqO : Tok
 lqw : mg "QUESTION" = some (.int 4 fqO)
 nq0 : Tok
 sq0 : mg "MARK" = some (.int 5 nq0)
 iqU : Tok
 jq0 : mg "ROOTED" = some (.int 0 iqU)
 kqt : Tok
 oqk : mg "STEPS" = some (.int 1 kqt)
 nq5 : Tok
 qqx : mg "ENDS" = some (.int 2 nq5)
 bqH : Tok
 gqr : mg "LONGEST_SCHEME" = some (.int 8 bqH)
 bqR : Tok
 eqQ : mg "LONGEST_HOUSE" = some (.int 60 bqR)
 eqS : Tok
 hqQ : mg "LAST_DOOR" = some (.int 65535 eqS)
 bqZ : Tok
 gq3 : mg "FIRST_FIGURES" = some (.str (Str.ofString "234567") bqZ)
 sqi : mg "all" = none
 gqo : mg "len" = none
 aqR : mg "isinstance" = none
 jqh : mg "tuple" = none
 nqA : mg "bool" = none
 mqN : mg "int" = none
 sqy : mg "str" = none
 wqu : mg "max" = none
 kqC : mg "range" = none
 vq2 : mg "any" = none
 aqx : Addr
 bq0 : mg "NoAddress" = some (.ref aqx)
 kqX : Catch K aqx
 oqJ : ExLook K aqx
 cqF : Mk1 K aqx bqp
 gqO : ExSt K aqx "at"
 gqI : ExFld K aqx "at"
 dqR : W.subIn K (.ref aqx) (.ref aqx) = some true
def pqJ : Sp := fun vs H Q _ => ∃ x y : Str, vs = [.str x, .str y] ∧ x.length ≤ 100000 ∧ ∀ H', Same H H' → Q (.bl (x.cps.toList.all fun c => decide (c ∈ y.cps.toList))) H'
def gqx : Sp := fun vs H Q _ => ∃ a : Nat, vs = [one a] ∧ a < 128 ∧ Q (figV a) H
def jqP : Sp := fun vs H Q _ => ∃ n : Nat, vs = [.int (n : Int)] ∧ Q (sgV n) H
def oql (K : W.Frag) : Sp := fun vs H Q _ => ∃ (p : Addr) (l : List Nat) (r : List V), vs = [.ref p] ∧ SqT K H p (.str ⟨l.toArray⟩ :: r) ∧ Q (.bl (!decide (l = []))) H
def oqh : Sp := fun vs H Q _ => ∃ (d : PyData) (v : V) (n : Int), vs = [v, .int n] ∧ Is H d v ∧ Q (.bl (tupN n d)) H
def iqR : Sp := fun vs H Q _ => ∃ (d : PyData) (v : V), vs = [v] ∧ Is H d v ∧ Q (.bl (match d with | .int _ => true | _ => false)) H
def dqZ (K : W.Frag) (C : Addr) : Sp := fun vs H Q _ => ∃ (a : Addr) (v : V), vs = [.ref a, v] ∧ H a = some (exNew a C) ∧ ∀ d, H d = none → Q .non (upd (upd H a (exSet a C d)) d (.xd [("at", v)]))
theorem eqh {K : W.Frag} {C : Addr} {H : Hp} {E : XK} {v : V} (hE : ∀ d H', Same H H' → H' d = some (.xd [("at", v)]) → E (.ref C) (some d) H') : ∀ a, H a = none → dqZ K C [.ref a, v] (upd H a (exNew a C)) (fun u H2 => u = .non ∧ ∃ d, H2 a = some (exSet a C d) ∧ E (.ref C) (some d) (forget H2 a)) E0 := by
 intro a ha
 refine ⟨a, v, rfl, aqw, fun d hd => ?_⟩
 have hda : d ≠ a := fun z => by rw [z, aqw] at hd; cases hd
 rw [aqv hda] at hd
 refine ⟨rfl, d, by rw [aqv hda.symm, aqw], hE d _ (fun b o e => ?_) ?_⟩
 ·have ba : b ≠ a := aqr e ha
  rw [cq0 ba, aqv (aqr e hd), aqv ba, aqv ba]
  exact e
 ·rw [cq0 hda, aqw]
def iqa (K : W.Frag) (C : Addr) : Sp := fun vs H Q _ => ∃ (p dx : Addr) (t : List Nat), vs = [.ref p, .str ⟨t.toArray⟩] ∧ H p = some (.ins C dx []) ∧ ∀ H', SameBut p H H' → Cur H' C p t 0 → Q .non H'
def jqV (K : W.Frag) (C : Addr) : Sp := fun vs H Q _ => ∃ (p : Addr) (t : List Nat) (i : Nat), vs = [.ref p] ∧ Cur H C p t i ∧ t.length ≤ 100000 ∧ Q (.bl (decide (i = t.length))) H
def lqr (K : W.Frag) (C : Addr) : Sp := fun vs H Q _ => ∃ (p : Addr) (t : List Nat) (i c : Nat), vs = [.ref p] ∧ Cur H C p t i ∧ t[i]? = some c ∧ t.length ≤ 100000 ∧ ∀ H', SameBut p H H' → Cur H' C p t (i + 1) → Q (.str ⟨#[c]⟩) H'
def dq8 (K : W.Frag) (C : Addr) : Sp := fun vs H Q _ => ∃ (p : Addr) (t w : List Nat) (i : Nat), vs = [.ref p, .str ⟨w.toArray⟩] ∧ Cur H C p t i ∧ i ≤ t.length ∧ t.length ≤ 100000 ∧ ((t.drop i).take w.length = w → ∀ H', SameBut p H H' → Cur H' C p t (i + w.length) → Q (.bl true) H') ∧ (¬ (t.drop i).take w.length = w → Q (.bl false) H)
def mq2 (K : W.Frag) (C : Addr) : Sp := fun vs H Q _ => ∃ (p : Addr) (t : List Nat) (i c n : Nat), vs = [.int (n : Int), .ref p] ∧ Cur H C p t i ∧ t.length ≤ 100000 ∧ t[i]? = some c ∧ 48 ≤ c ∧ c ≤ 57 ∧ n ≤ 100000 ∧ Q (.int ((n * 10 + (c - 48) : Nat) : Int)) H
def kqx (K : W.Frag) : Sp := fun vs H Q _ => ∃ (a : Addr) (ns : List Int) (k : Nat), vs = [.ref a, .int (k : Int)] ∧ SqL K H a (ns.map V.int) ∧ Q (.int (ns.getD k 0)) H
def mqL (K : W.Frag) : Sp := fun vs H Q _ => ∃ (i : Int), vs = [.int i] ∧ Q (.bl true) H
def iq1 : Sp := fun vs H Q _ => vs = [] ∧ Q (.str ⟨SG.toArray⟩) H
def iq0 : Sp := fun vs H Q _ => ∃ c : Nat, vs = [one c] ∧ c < 128 ∧ Q (.bl (isPl c)) H
def nqx (K : W.Frag) : Sp := fun vs H Q _ => ∃ (c : Nat) (p : Addr) (l : List (Nat × Au)), vs = [.str ⟨#[c]⟩, .ref p] ∧ EdA H p l ∧ l.length ≤ 10 ∧ ∀ q H', Same H H' → LsA H' q (auE c l) → Q (.ref q) H'
def nqn (K : W.Frag) : Sp := fun vs H Q _ => ∃ (a : Au) (v : V) (c : Nat), vs = [v, .str ⟨#[c]⟩] ∧ ((∃ g, a = .pair g) ∨ ∃ g d, a = .second g d ∧ d ∈ fsF) ∧ IsT H (auD a) v ∧ c < 128 ∧ ∀ p H', Same H H' → LsA H' p (move a c) → Q (.ref p) H'
def kqP (K : W.Frag) : Sp := fun vs H Q _ => ∃ (s : Au) (v : V), vs = [v] ∧ AuOk s ∧ IsT H (auD s) v ∧ ∀ H', Same H H' → Q (.bl (mayEnd s)) H'
def nqZ (K : W.Frag) : Sp := fun vs H Q _ => ∃ (t w r : List Nat) (i : Nat), vs = [.str ⟨t.toArray⟩, .int (i : Int), .str ⟨w.toArray⟩] ∧ t.length ≤ 3000 ∧ At t i (w ++ r) ∧ Q (.int ((i + w.length : Nat) : Int)) H
def pqK : Sp := fun vs H Q _ => ∃ (d : PyData) (v : V), vs = [v] ∧ Is H d v ∧ smallD d = true ∧ ∀ H', Same H H' → Q (.bl (tx d)) H'
def lqV : Sp := fun vs H Q _ => ∃ l : List Nat, vs = [.str ⟨l.toArray⟩] ∧ l.length ≤ 1000 ∧ (∀ c ∈ l, c < 128) ∧ Q (signOfL l) H
def lqb : Sp := fun vs H Q _ => ∃ (a b c d e f : PyData) (v : V), vs = [v] ∧ Is H (.tuple [a, b, c, d, e, f]) v ∧ schD a = true ∧ wayD d = true ∧ Q (.bl (agrD a b c d)) H
def pqx : Sp := fun vs H Q _ => ∃ (d : PyData) (v : V), vs = [v] ∧ Is H d v ∧ Q (.bl (dooD d)) H
def lqd (K : W.Frag) (C : Addr) : Sp := fun vs H Q _ => ∃ (p : Addr) (t sg : List Nat) (i : Nat), vs = [.ref p, .str ⟨sg.toArray⟩] ∧ Cur H C p t i ∧ i ≤ t.length ∧ t.length ≤ 100000 ∧ Q (.bl (seesB t sg i)) H
def kqN : Sp := fun vs H Q _ => ∃ c : Nat, vs = [one c] ∧ isSg c = true ∧ Q (.str ⟨[hexd (c / 16), hexd (c % 16)].toArray⟩) H
def mqH (K : W.Frag) : Sp := fun vs H Q _ => ∃ (g : Au) (v : V) (c : Nat) (fr : List Nat), vs = [v, .str ⟨#[c]⟩, .str ⟨fr.toArray⟩] ∧ IsT H (auD g) v ∧ c < 128 ∧ ∀ p H', H p = none → Same H H' → LsA H' p (auS g c fr) → Q (.ref p) H'
def lq4 (K : W.Frag) : Sp := fun vs H Q _ => ∃ (c : Int) (b : Bool), vs = [.int c, .bl b] ∧ ∀ (t : List Nat) (H' : Hp), Same H H' → t.length ≤ 180 → (∀ c ∈ t, c < 128) → Q (.str ⟨t.toArray⟩) H'
def nqd : Sp := fun vs H Q _ => ∃ (d : PyData) (v : V), vs = [v] ∧ Is H d v ∧ smallD d = true ∧ ∀ H', Same H H' → Q (.bl (schD d)) H'
def jqf : Sp := fun vs H Q _ => ∃ (d : PyData) (v : V), vs = [v] ∧ Is H d v ∧ smallD d = true ∧ ∀ H', Same H H' → Q (.bl (ftx d)) H'
def iqS : Sp := fun vs H Q _ => ∃ (d : PyData) (v : V), vs = [v] ∧ Is H d v ∧ smallD d = true ∧ ∀ H', Same H H' → Q (.bl (ntx d)) H'
def lqe (K : W.Frag) (C CN : Addr) : Sp := fun vs H Q E => ∃ (p : Addr) (t : List Nat) (i : Nat), vs = [.ref p] ∧ Cur H C p t i ∧ i ≤ t.length ∧ t.length ≤ 100000 ∧ (∀ c ∈ t, c < 128) ∧ Tk CN H C p t i (dooM (t.drop i)) (fun o H' => Q (itV o) H') E
def lqi (K : W.Frag) (C CN : Addr) : Sp := fun vs H Q E => ∃ (p : Addr) (t : List Nat) (i : Nat), vs = [.ref p] ∧ Cur H C p t i ∧ i ≤ t.length ∧ t.length ≤ 100000 ∧ (∀ c ∈ t, c < 128) ∧ Tk CN H C p t i (prM (t.drop i)) (fun c H' => Q (.str ⟨#[c]⟩) H') E
def isHead : Au → Prop
 | .start | .scheme _ | .colon | .slash _ => True
 | _ => False
def mq7 (K : W.Frag) : Sp := fun vs H Q _ => ∃ (a : Au) (v : V) (c : Nat), vs = [v, .str ⟨#[c]⟩] ∧ isHead a ∧ IsT H (auD a) v ∧ c < 128 ∧ ∀ p H', Same H H' → LsA H' p (move a c) → Q (.ref p) H'
def isHouse : Au → Prop
 | .slashes | .house _ | .door _ => True
 | _ => False
def lq7 (K : W.Frag) : Sp := fun vs H Q _ => ∃ (a : Au) (v : V) (c : Nat), vs = [v, .str ⟨#[c]⟩] ∧ isHouse a ∧ IsT H (auD a) v ∧ c < 128 ∧ ∀ p H', Same H H' → LsA H' p (move a c) → Q (.ref p) H'
def isTail : Au → Prop
 | .step | .between | .mark | .value | .name | .first | .next => True
 | _ => False
def nqU (K : W.Frag) : Sp := fun vs H Q _ => ∃ (a : Au) (v : V) (c : Nat), vs = [v, .str ⟨#[c]⟩] ∧ isTail a ∧ IsT H (auD a) v ∧ c < 128 ∧ ∀ p H', Same H H' → LsA H' p (move a c) → Q (.ref p) H'
def hqE (K : W.Frag) : Sp := fun vs H Q _ => ∃ (t w r s fr : List Nat) (i : Nat), vs = [.str ⟨t.toArray⟩, .int (i : Int), .str ⟨s.toArray⟩, .str ⟨fr.toArray⟩] ∧ t.length ≤ 3000 ∧ At t i (w ++ r) ∧ WrT fr s w ∧ 126 ∉ fr ∧ fr.length ≤ 100 ∧ (∀ c ∈ fr, c < 128) ∧ ∀ H', Same H H' → Q (.int ((i + w.length : Nat) : Int)) H'
def oqK : Sp := fun vs H Q _ => ∃ (d : PyData) (v : V), vs = [v] ∧ Is H d v ∧ smallD d = true ∧ ∀ H', Same H H' → Q (.bl (houD d)) H'
def oqv : Sp := fun vs H Q _ => ∃ (d : PyData) (v : V), vs = [v] ∧ Is H d v ∧ smallD d = true ∧ ∀ H', Same H H' → Q (.bl (stpD d)) H'
def oqb : Sp := fun vs H Q _ => ∃ (d : PyData) (v : V), vs = [v] ∧ Is H d v ∧ smallD d = true ∧ ∀ H', Same H H' → Q (.bl (askD d)) H'
def kqj (K : W.Frag) (C : Addr) : Sp := fun vs H Q _ => ∃ (p : Addr) (t : List Nat), vs = [.ref p] ∧ Cur H C p t 0 ∧ t.length ≤ 90000 ∧ ∀ H', SameBut p H H' → Cur H' C p t (schP t) → Q (.str ⟨(schM t).toArray⟩) H'
def lqj (K : W.Frag) (C CN : Addr) : Sp := fun vs H Q E => ∃ (p : Addr) (t fr : List Nat) (i : Nat) (mo : Option Nat), vs = [.ref p, .str ⟨fr.toArray⟩, moV mo] ∧ Cur H C p t i ∧ i ≤ t.length ∧ t.length ≤ 100000 ∧ (∀ c ∈ t, c < 128) ∧ fr.length ≤ 100 ∧ Tk CN H C p t i (txtM fr (t.drop i) mo) (fun s H' => Q (.str ⟨s.toArray⟩) H') E
def mqo (K : W.Frag) : Sp := fun vs H Q _ => ∃ (a : Au) (v : V) (c : Nat), vs = [v, .str ⟨#[c]⟩] ∧ (∀ g d, a = .second g d → d ∈ fsF) ∧ IsT H (auD a) v ∧ c < 128 ∧ ∀ p H', Same H H' → LsA H' p (move a c) → Q (.ref p) H'
def oqM (K : W.Frag) : Sp := fun vs H Q _ => ∃ (t g w r : List Nat) (i : Nat) (rt : Bool) (ss : List (List Nat)) (e held : Bool) (v : V), vs = [.str ⟨t.toArray⟩, .int (i : Int), v, .bl held] ∧ IsT H (.tuple [.bool rt, .tuple (ss.map st), .bool e]) v ∧ (∀ s ∈ ss, ∀ c ∈ s, isSg c = true) ∧ ss.length ≤ 3000 ∧ t.length ≤ 3000 ∧ At t i ((g ++ w) ++ r) ∧ (g = (if rt then [47] else []) ∨ (g = [] ∧ rt = true ∧ ss = [] ∧ held = true ∧ ((g ++ w) ++ r).head? ≠ some 47)) ∧ StpW ss e w ∧ ∀ H', Same H H' → Q (.int ((i + (g ++ w).length : Nat) : Int)) H'
def qqa : Sp := fun vs H Q _ => ∃ (d : PyData) (v : V), vs = [v] ∧ Is H d v ∧ smallD d = true ∧ ∀ H', Same H H' → Q (.bl (wayD d)) H'
def lqs : Sp := fun vs H Q _ => ∃ (d : PyData) (v : V), vs = [v] ∧ Is H d v ∧ smallD d = true ∧ ∀ H', Same H H' → Q (.bl (queD d)) H'
def iqh (K : W.Frag) (C CN : Addr) : Sp := fun vs H Q E => ∃ (p : Addr) (t : List Nat) (i : Nat) (must : Bool), vs = [.ref p, .bl must] ∧ Cur H C p t i ∧ i ≤ t.length ∧ t.length ≤ 100000 ∧ (∀ c ∈ t, c < 128) ∧ Tk CN H C p t i (wayM must (t.drop i)) (fun w H' => ∀ u, IsT H' (wayOf w) u → Q u H') E
def kqA (K : W.Frag) (C CN : Addr) : Sp := fun vs H Q E => ∃ (p : Addr) (t : List Nat) (i : Nat), vs = [.ref p] ∧ Cur H C p t i ∧ i ≤ t.length ∧ t.length ≤ 100000 ∧ (∀ c ∈ t, c < 128) ∧ Tk CN H C p t i (valM (t.drop i)) (fun o H' => Q (otV o) H') E
def kq5 (K : W.Frag) (C CN : Addr) : Sp := fun vs H Q E => ∃ (p : Addr) (t : List Nat) (i : Nat), vs = [.ref p] ∧ Cur H C p t i ∧ i ≤ t.length ∧ t.length ≤ 100000 ∧ (∀ c ∈ t, c < 128) ∧ Tk CN H C p t i (marM (t.drop i)) (fun o H' => Q (otV o) H') E
def gqZ (K : W.Frag) (C CN : Addr) : Sp := fun vs H Q E => ∃ (p : Addr) (t fr : List Nat) (i : Nat) (mo : Option Nat), vs = [.ref p, .str ⟨fr.toArray⟩, moV mo] ∧ Cur H C p t i ∧ i ≤ t.length ∧ t.length ≤ 100000 ∧ (∀ c ∈ t, c < 128) ∧ fr.length ≤ 100 ∧ Tk CN H C p t i (filM fr (t.drop i) mo) (fun s H' => Q (.str ⟨s.toArray⟩) H') E
def mqS (K : W.Frag) : Sp := fun vs H Q _ => ∃ t : List Nat, vs = [.str ⟨t.toArray⟩] ∧ t.length ≤ 3000 ∧ (∀ c ∈ t, c < 128) ∧ ∀ H', Same H H' → Q (.int (runA [.start] t 0)) H'
def lqq (K : W.Frag) : Sp := fun vs H Q _ => ∃ (t : List Nat) (x : Ad) (v : V), vs = [.str ⟨t.toArray⟩, v] ∧ t.length ≤ 3000 ∧ IsT H x.data v ∧ x.Wf ∧ x.Sz ∧ WrA x t ∧ ∀ H', Same H H' → Q (.bl true) H'
def lqg : Sp := fun vs H Q _ => ∃ (a b c d e f : PyData) (v : V), vs = [v] ∧ Is H (.tuple [a, b, c, d, e, f]) v ∧ smallD (.tuple [a, b, c, d, e, f]) = true ∧ ∀ H', Same H H' → Q (.bl (schD a && (houD b && (dooD c && (wayD d && (queD e && ntx f)))))) H'
def kqq (K : W.Frag) (C CN : Addr) : Sp := fun vs H Q E => ∃ (p : Addr) (t : List Nat) (i : Nat), vs = [.ref p] ∧ Cur H C p t i ∧ i ≤ t.length ∧ t.length ≤ 100000 ∧ (∀ c ∈ t, c < 128) ∧ Tk CN H C p t i (houM (t.drop i)) (fun o H' => Q (otV o) H') E
def iqg (K : W.Frag) (C CN : Addr) : Sp := fun vs H Q E => ∃ (p : Addr) (t : List Nat) (i : Nat), vs = [.ref p] ∧ Cur H C p t i ∧ i ≤ t.length ∧ t.length ≤ 100000 ∧ (∀ c ∈ t, c < 128) ∧ Tk CN H C p t i (queM (t.drop i)) (fun o H' => ∀ u, IsT H' (qD o) u → Q u H') E
def lq6 : Sp := fun vs H Q _ => ∃ (d : PyData) (v : V), vs = [v] ∧ Is H d v ∧ smallD d = true ∧ ∀ H', Same H H' → Q (.bl (addrD d)) H'
def sqg (K : W.Frag) (CN : Addr) : Sp := fun vs H Q E => ∃ (v : V), vs = [v] ∧
 ((∃ ty, TyOf K H v ty ∧ W.kitOne K ty (.type "str") = some false ∧ ∀ d H', Same H H' → H' d = some (.xd [("at", .int 0)]) → E (.ref CN) (some d) H') ∨
  ∃ t : List Nat, v = .str ⟨t.toArray⟩ ∧ t.length ≤ 90000 ∧ (∀ c ∈ t, c < 128) ∧ (∀ x, readM t = .ok x → ∀ (u : V) (H' : Hp), Same H H' → IsT H' x.data u → Q u H') ∧
   ∀ k : Nat, readM t = .error k → ∀ d H', Same H H' → H' d = some (.xd [("at", .int (k : Int))]) → E (.ref CN) (some d) H')
def mqU (K : W.Frag) : Sp := fun vs H Q _ => ∃ t : List Nat, vs = [.str ⟨t.toArray⟩] ∧ t.length ≤ 2000 ∧ (∀ c ∈ t, c < 128) ∧ (∀ x, readM t = .ok x → ∀ (p : Addr) (u : V) (H' : Hp), Same H H' → IsT H' x.data u → H' p = some (.tup [.str (Str.ofString "read"), u]) → Q (.ref p) H') ∧
 ∀ n : Nat, readM t = .error n → ∀ (p : Addr) (H' : Hp), Same H H' → H' p = some (.tup [.str (Str.ofString "at"), .int (n : Int)]) → Q (.ref p) H'
def pqo (K : W.Frag) : Sp := fun vs H Q _ => ∃ (a : Addr) (ns : List Int), vs = [.ref a] ∧ SqL K H a (ns.map V.int) ∧ ns.length ≤ 63 ∧ ∀ H', Q (.bl true) H'
section
variable {H : Hp} {Q : VK} {E : XK} {K : W.Frag}
theorem wq4 {c : Nat} : gqx [.str ⟨[c].toArray⟩] H Q E ↔ c < 128 ∧ Q (figV c) H :=
 ⟨fun ⟨_, e, h⟩ => by injection e with e; injection e with e; cases hqO.mp e; exact h, fun h => ⟨c, rfl, h⟩⟩
theorem vql : iq1 [] H Q E ↔ Q (.str ⟨SG.toArray⟩) H := ⟨fun h => h.2, fun h => ⟨rfl, h⟩⟩
theorem tq6 {c : Nat} : iq0 [.str ⟨[c].toArray⟩] H Q E ↔ c < 128 ∧ Q (.bl (isPl c)) H :=
 ⟨fun ⟨_, e, h⟩ => by injection e with e; injection e with e; cases hqO.mp e; exact h, fun h => ⟨c, rfl, h⟩⟩
theorem rqO {l : List Nat} : lqV [.str ⟨l.toArray⟩] H Q E ↔ l.length ≤ 1000 ∧ (∀ c ∈ l, c < 128) ∧ Q (signOfL l) H :=
 ⟨fun ⟨_, e, h⟩ => by injection e with e; injection e with e; cases hqO.mp e; exact h, fun h => ⟨l, rfl, h⟩⟩
theorem xqk {c : Nat} : kqN [.str ⟨[c].toArray⟩] H Q E ↔ isSg c = true ∧ Q (.str ⟨[hexd (c / 16), hexd (c % 16)].toArray⟩) H :=
 ⟨fun ⟨_, e, h⟩ => by injection e with e; injection e with e; cases hqO.mp e; exact h, fun h => ⟨c, rfl, h⟩⟩
end
section
variable {P : Program} {w : World} {K : W.Frag} {mg : Str → Option Value} {base : Heap}
seal PE PA PT PS PSs PG PI PF PO PW
local macro_rules | `(tactic| walk_at "rd") => `(tactic| simp only [L2.start, List.map_cons, List.map_nil, List.length_cons, List.length_nil, Nat.reduceAdd, Nat.reduceSub, Nat.zero_add, List.replicate_succ, List.replicate_zero, L2.wqh, L2.rd_C, L2.rqa, L2.vqC, L2.sqb, L2.vqQ, L2.uqW, L2.wqf, L2.tqY, L2.wqW, L2.wqz, L2.tq4, L2.xqd, L2.vqp, L2.rd_B, L2.vq5, L2.xqh, L2.wqM, L2.uqS, L2.vq9, L2.uqV, L2.xqg, L2.rqW, L2.vqy, L2.uq4, L2.vqP, L2.wqe, L2.tq1, L2.uqq, L2.oqm, L2.uqv, L2.uqQ, L2.uqp, L2.tq3, L2.sqQ, L2.uqf, L2.xqa, L2.wq7, L2.vq8, L2.xqi, L2.rqu, L2.tqP, L2.sqD, L2.rd_I, L2.tqO, L2.vqn, L2.fqB, L2.uqr, L2.qq7, L2.pq7, L2.uqC, L2.uqJ, L2.tqJ, L2.squ, L2.tqG, L2.uqz, L2.sqL, L2.vqw, L2.tqm, L2.vqR, L2.kqz, L2.wqD, L2.uq5, L2.sqY, L2.uqP, L2.sqB, L2.rqT, L2.rqz, L2.sqh, L2.sqI, L2.qqn, L2.pqy, L2.iq8, L2.jqW, L2.jqS, L2.iq7, L2.iqp, L2.mqy, L2.nqR, L2.nqu, L2.lq8, L2.lqa, L2.nqH, L2.oqo, L2.oqa, L2.nq3, L2.mqv, L2.nqv, L2.oqF, L2.oqQ, L2.mqX, L2.mqM, L2.mqD, L2.mq5, L2.nqa, L2.lqY, L2.lqn, L2.lqm, L2.mqs, L2.mqz, L2.lqk, L2.kqQ, L2.vqa, L2.uqc, L2.rqZ, L2.uqo, L2.uq2, L2.cx_K, L2.wql, L2.wqp, L2.wqG, L2.vqz, L2.vqN, L2.vqU, L2.wqn, L2.xqm, L2.wqb, L2.rqd, L2.wqX, L2.xqb, L2.wq0, L2.sqv, L2.rq3, L2.vqe, L2.rq6, Option.getD_some, L2.tqx, L2.wq5, L2.rd_U, L2.tqi, L2.rqk, L2.rqV, L2.uqi, L2.mqh, L2.pq3, L2.vqM, L2.vqT, L2.uqH, L2.tq0, L2.vqi, L2.vqk, List.getElem?_cons_zero, List.getElem?_cons_succ, List.set_cons_zero, List.set_cons_succ, List.nil_append, List.cons_append, List.append_nil, Option.some.injEq, exists_eq_left, exists_eq_left', true_and, and_true, L2.V.bl.injEq, L2.V.int.injEq, L2.V.str.injEq, L2.V.ref.injEq, List.cons.injEq, reduceCtorEq, false_and, and_false, exists_false, false_or, or_false, decide_eq_true_eq, Bool.not_true, Bool.not_false, ↓reduceIte, if_true, if_false, not_true_eq_false, not_false_eq_true, decide_true, decide_false, Bool.false_eq_true, wq4, vql, tq6, rqO, xqk, L2.sqz, L2.uqB, L2.sqw, L2.rqY, L2.wqE, vq1, L2.vqK, L2.sqW, L2.xql, L2.uqF, L2.sqK, L2.sqp, L2.sqc, L2.wq8, L2.rqL, L2.uqK, L2.wqA, L2.oq7, L2.wqc, L2.wqv, L2.tqL, L2.wqH, L2.tqB, L2.vqs, L2.uqm, L2.uqO, L2.uqj, L2.uqh, L2.uqT, L2.qqP, L2.rqp, L2.qql, L2.oq7, L2.qqz, L2.tqK, L2.pqZ, L2.wqI, L2.uql, L2.vqo, L2.sqM, L2.uq9, L2.vqh, L2.uqs, vqS, sqf, pqh, dq0, qqr, uqu, uqt, List.drop_succ_cons, List.drop_zero, L2.sqP, L2.vqx, L2.vqA, L2.wqO, Bool.not_eq_true', decide_eq_false_iff_not])
theorem pqS : FnScope ["text", "signs"] ["text", "signs"] (defScope fqI) := ⟨rfl, rfl, rfl, by decide +kernel, rfl, by decide +kernel, by decide +kernel⟩
theorem jqX : FnScope ["figure"] ["figure"] (defScope bqs) := ⟨rfl, rfl, rfl, by decide +kernel, rfl, by decide +kernel, by decide +kernel⟩
theorem dq5 : FnScope ["number", "place"] ["number"] (defScope bqq) := ⟨rfl, rfl, rfl, by decide +kernel, rfl, by decide +kernel, by decide +kernel⟩
theorem oqr : FnScope ["address"] ["address"] (defScope eqC) := ⟨rfl, rfl, rfl, by decide +kernel, rfl, by decide +kernel, by decide +kernel⟩
theorem oqu : FnScope ["thing", "count"] ["thing", "count"] (defScope eqG) := ⟨rfl, rfl, rfl, by decide +kernel, rfl, by decide +kernel, by decide +kernel⟩
theorem iq2 : FnScope ["thing"] ["thing"] (defScope bqb) := ⟨rfl, rfl, rfl, by decide +kernel, rfl, by decide +kernel, by decide +kernel⟩
theorem gqV : FnScope ["self", "at"] ["self", "at"] (defScope aqP) := ⟨rfl, rfl, rfl, by decide +kernel, rfl, by decide +kernel, by decide +kernel⟩
theorem iqE : FnScope ["self", "text"] ["self", "text"] (defScope aq9) := ⟨rfl, rfl, rfl, by decide +kernel, rfl, by decide +kernel, by decide +kernel⟩
theorem jqU : FnScope ["self"] ["self"] (defScope bqv) := ⟨rfl, rfl, rfl, by decide +kernel, rfl, by decide +kernel, by decide +kernel⟩
theorem hqI : FnScope ["self", "sign"] ["self"] (defScope cqa) := ⟨rfl, rfl, rfl, by decide +kernel, rfl, by decide +kernel, by decide +kernel⟩
theorem jqR : FnScope ["self", "text"] ["self", "text"] (defScope bqr) := ⟨rfl, rfl, rfl, by decide +kernel, rfl, by decide +kernel, by decide +kernel⟩
theorem nqi : FnScope ["door", "cursor"] ["door", "cursor"] (defScope dqp) := ⟨rfl, rfl, rfl, by decide +kernel, rfl, by decide +kernel, by decide +kernel⟩
theorem kqv : FnScope ["_law_script", "_law_k"] ["_law_script", "_law_k"] (defScope bqJ) := ⟨rfl, rfl, rfl, by decide +kernel, rfl, by decide +kernel, by decide +kernel⟩
theorem mqC : FnScope ["_law_found"] ["_law_found"] (defScope cqL) := ⟨rfl, rfl, rfl, by decide +kernel, rfl, by decide +kernel, by decide +kernel⟩
theorem iqu : FnScope ["_law_found"] [] (defScope cqQ) := ⟨rfl, rfl, rfl, by decide +kernel, rfl, by decide +kernel, by decide +kernel⟩
theorem lq1 : FnScope ["_law_sign"] ["_law_sign"] (defScope cqS) := ⟨rfl, rfl, rfl, by decide +kernel, rfl, by decide +kernel, by decide +kernel⟩
theorem eq5 : FnScope ["_law_sign", "_law_some", "_law_found", "_law_end", "_law_goal"] ["_law_sign", "_law_some"] (defScope dqs) := ⟨rfl, rfl, rfl, by decide +kernel, rfl, by decide +kernel, by decide +kernel⟩
theorem nqK : FnScope ["_law_state", "_law_sign"] ["_law_state", "_law_sign"] (defScope dqC) := ⟨rfl, rfl, rfl, by decide +kernel, rfl, by decide +kernel, by decide +kernel⟩
theorem kqc : FnScope ["_law_state"] ["_law_state"] (defScope bqK) := ⟨rfl, rfl, rfl, by decide +kernel, rfl, by decide +kernel, by decide +kernel⟩
theorem mqW : FnScope ["_law_text", "_law_here", "_law_word_here"] ["_law_text", "_law_here", "_law_word_here"] (defScope dqn) := ⟨rfl, rfl, rfl, by decide +kernel, rfl, by decide +kernel, by decide +kernel⟩
theorem pqH : FnScope ["thing"] ["thing"] (defScope fqL) := ⟨rfl, rfl, rfl, by decide +kernel, rfl, by decide +kernel, by decide +kernel⟩
theorem jqi : FnScope ["figures", "high", "low"] ["figures"] (defScope fqN) := ⟨rfl, rfl, rfl, by decide +kernel, rfl, by decide +kernel, by decide +kernel⟩
theorem hqK : FnScope ["address", "has_house"] ["address"] (defScope cqm) := ⟨rfl, rfl, rfl, by decide +kernel, rfl, by decide +kernel, by decide +kernel⟩
theorem pqD : FnScope ["thing"] ["thing"] (defScope fqK) := ⟨rfl, rfl, rfl, by decide +kernel, rfl, by decide +kernel, by decide +kernel⟩
theorem lqo : FnScope ["self", "signs"] ["self", "signs"] (defScope cqe) := ⟨rfl, rfl, rfl, by decide +kernel, rfl, by decide +kernel, by decide +kernel⟩
theorem hqR : FnScope ["_law_sign", "_law_at", "_law_number"] ["_law_sign"] (defScope eqB) := ⟨rfl, rfl, rfl, by decide +kernel, rfl, by decide +kernel, by decide +kernel⟩
theorem lqX : FnScope ["_law_goal", "_law_sign", "_law_free"] ["_law_goal", "_law_sign", "_law_free"] (defScope cqU) := ⟨rfl, rfl, rfl, by decide +kernel, rfl, by decide +kernel, by decide +kernel⟩
theorem cq7 : FnScope ["_law_cell", "_law_plainly", "_law_number", "_law_some"] ["_law_cell", "_law_plainly"] (defScope cqK) := ⟨rfl, rfl, rfl, by decide +kernel, rfl, by decide +kernel, by decide +kernel⟩
theorem nqY : FnScope ["thing"] ["thing"] (defScope dqq) := ⟨rfl, rfl, rfl, by decide +kernel, rfl, by decide +kernel, by decide +kernel⟩
theorem iq9 : FnScope ["thing"] ["thing"] (defScope bqh) := ⟨rfl, rfl, rfl, by decide +kernel, rfl, by decide +kernel, by decide +kernel⟩
theorem iqN : FnScope ["thing"] ["thing"] (defScope bqa) := ⟨rfl, rfl, rfl, by decide +kernel, rfl, by decide +kernel, by decide +kernel⟩
theorem fqV : FnScope ["cursor", "door"] ["cursor"] (defScope cqX) := ⟨rfl, rfl, rfl, by decide +kernel, rfl, by decide +kernel, by decide +kernel⟩
theorem gqh : FnScope ["cursor", "figures", "sign"] ["cursor"] (defScope cqN) := ⟨rfl, rfl, rfl, by decide +kernel, rfl, by decide +kernel, by decide +kernel⟩
theorem bqw : FnScope ["_law_state", "_law_sign", "_law_word_here", "_law_letter", "_law_found"] ["_law_state", "_law_sign"] (defScope dqy) := ⟨rfl, rfl, rfl, by decide +kernel, rfl, by decide +kernel, by decide +kernel⟩
theorem cql : FnScope ["_law_state", "_law_sign", "_law_found", "_law_number"] ["_law_state", "_law_sign"] (defScope cqV) := ⟨rfl, rfl, rfl, by decide +kernel, rfl, by decide +kernel, by decide +kernel⟩
theorem bqm : FnScope ["_law_state", "_law_sign", "_law_word_here", "_law_found"] ["_law_state", "_law_sign"] (defScope dqA) := ⟨rfl, rfl, rfl, by decide +kernel, rfl, by decide +kernel, by decide +kernel⟩
theorem dqQ : FnScope ["_law_text", "_law_here", "_law_part", "_law_free", "_law_sign"] ["_law_text", "_law_here", "_law_part", "_law_free"] (defScope cqg) := ⟨rfl, rfl, rfl, by decide +kernel, rfl, by decide +kernel, by decide +kernel⟩
theorem oqD : FnScope ["thing"] ["thing"] (defScope eqF) := ⟨rfl, rfl, rfl, by decide +kernel, rfl, by decide +kernel, by decide +kernel⟩
theorem oqp : FnScope ["thing"] ["thing"] (defScope eqI) := ⟨rfl, rfl, rfl, by decide +kernel, rfl, by decide +kernel, by decide +kernel⟩
theorem oqI : FnScope ["thing"] ["thing"] (defScope eqD) := ⟨rfl, rfl, rfl, by decide +kernel, rfl, by decide +kernel, by decide +kernel⟩
theorem gqX : FnScope ["cursor", "scheme"] ["cursor"] (defScope bqL) := ⟨rfl, rfl, rfl, by decide +kernel, rfl, by decide +kernel, by decide +kernel⟩
theorem fqU : FnScope ["cursor", "free", "most", "signs", "allowed"] ["cursor", "free", "most"] (defScope cqW) := ⟨rfl, rfl, rfl, by decide +kernel, rfl, by decide +kernel, by decide +kernel⟩
theorem mqE : FnScope ["_law_state", "_law_sign"] ["_law_state", "_law_sign"] (defScope cqP) := ⟨rfl, rfl, rfl, by decide +kernel, rfl, by decide +kernel, by decide +kernel⟩
theorem bqC : FnScope ["_law_text", "_law_here", "_law_way_here", "_law_held", "_law_rooted", "_law_steps", "_law_ends_here", "_law_k"] ["_law_text", "_law_here", "_law_way_here", "_law_held"] (defScope eqE) := ⟨rfl, rfl, rfl, by decide +kernel, rfl, by decide +kernel, by decide +kernel⟩
theorem rqR : FnScope ["thing"] ["thing"] (defScope hqv) := ⟨rfl, rfl, rfl, by decide +kernel, rfl, by decide +kernel, by decide +kernel⟩
theorem lqv : FnScope ["thing"] ["thing"] (defScope cqi) := ⟨rfl, rfl, rfl, by decide +kernel, rfl, by decide +kernel, by decide +kernel⟩
theorem bqV : FnScope ["cursor", "must_be_rooted", "rooted", "steps", "ends", "step"] ["cursor", "must_be_rooted"] (defScope dqx) := ⟨rfl, rfl, rfl, by decide +kernel, rfl, by decide +kernel, by decide +kernel⟩
theorem lqh : FnScope ["cursor"] ["cursor"] (defScope cqd) := ⟨rfl, rfl, rfl, by decide +kernel, rfl, by decide +kernel, by decide +kernel⟩
theorem mqA : FnScope ["cursor"] ["cursor"] (defScope cqR) := ⟨rfl, rfl, rfl, by decide +kernel, rfl, by decide +kernel, by decide +kernel⟩
theorem dq9 : FnScope ["cursor", "free", "most", "text"] ["cursor", "free", "most"] (defScope aqV) := ⟨rfl, rfl, rfl, by decide +kernel, rfl, by decide +kernel, by decide +kernel⟩
theorem bqA : FnScope ["_law_text", "_law_states", "_law_k", "_law_further", "_law_state"] ["_law_text"] (defScope cqJ) := ⟨rfl, rfl, rfl, by decide +kernel, rfl, by decide +kernel, by decide +kernel⟩
theorem aqt : FnScope ["_law_text", "_law_address", "_law_scheme", "_law_house_here", "_law_door", "_law_way_here", "_law_question", "_law_mark", "_law_here", "_law_k"] ["_law_text", "_law_address"] (defScope bq7) := ⟨rfl, rfl, rfl, by decide +kernel, rfl, by decide +kernel, by decide +kernel⟩
theorem lqp : FnScope ["thing"] ["thing"] (defScope cqb) := ⟨rfl, rfl, rfl, by decide +kernel, rfl, by decide +kernel, by decide +kernel⟩
theorem kq7 : FnScope ["cursor"] ["cursor"] (defScope bq3) := ⟨rfl, rfl, rfl, by decide +kernel, rfl, by decide +kernel, by decide +kernel⟩
theorem bq8 : FnScope ["cursor", "name", "pairs"] ["cursor"] (defScope bqi) := ⟨rfl, rfl, rfl, by decide +kernel, rfl, by decide +kernel, by decide +kernel⟩
theorem mqi : FnScope ["thing"] ["thing"] (defScope cqM) := ⟨rfl, rfl, rfl, by decide +kernel, rfl, by decide +kernel, by decide +kernel⟩
theorem gqC : FnScope ["text", "cursor", "scheme", "house", "door", "way", "question", "mark"] ["text"] (defScope lqz) := ⟨rfl, rfl, rfl, by decide +kernel, rfl, by decide +kernel, by decide +kernel⟩
theorem dqf : FnScope ["_law_text", "_law_heard", "e"] ["_law_text"] (defScope cqO) := ⟨rfl, rfl, rfl, by decide +kernel, rfl, by decide +kernel, by decide +kernel⟩
theorem jq7 : FnScope ["_law_script", "_law_plainly", "_law_text", "_law_turn", "_law_heard", "_law_place_here"] ["_law_script"] (defScope pqP) := ⟨rfl, rfl, rfl, by decide +kernel, rfl, by decide +kernel, by decide +kernel⟩
theorem jqm (g : G K mg) : FnOk P w K mg base CX0 1 g.iqX g.hqq ["text", "signs"] pqJ := by
 refine g.gqA.ok pqS (fun vs H Q E h => ?_) (fun cdv A outer s H vs Q E hr h => ?_)
 ·obtain ⟨x, y, rfl, _⟩ := h; rfl
 ·obtain ⟨x, y, rfl, hx, k⟩ := h
  refine ⟨_, (aqe (aql (aqA (kqY (K := K) rfl rfl) rfl g.sqi PyProof.Rows.boot_all (aqa (kql (fx := ["signs"]) (fr := [1]) rfl rfl (by decide +kernel) rfl (by decide +kernel) rfl (by decide +kernel) rfl (.cons rfl rfl rfl rfl .nil) rfl (tqF (pv 0)) (fun _ _ _ => mq4) (fun _ _ _ => (aq1 gqq (pv 0) (pv 1) (by with_unfolding_all rfl)))) aqb)))), ?_⟩
  walk_at "rd"
  intro p hp
  refine sqa (z := x) (aqz hx) hp (fun c => .bl (decide (c ∈ y.cps.toList))) (fun c hc H' R hR => ?_) (fun H' sm hp' => ?_)
  ·walk_at "rd"
   exact hR H' (Same.refl _)
  ·refine mqh.mpr ⟨x.cps.toList.map fun c => decide (c ∈ y.cps.toList), SqL.of (by rw [hp', List.map_map]; rfl), ?_⟩
   rw [List.all_map]
   exact k H' sm
theorem gqu (g : G K mg) : FnOk P w K mg base CX0 1 g.cq4 g.cqE ["figure"] gqx := by
 refine g.cq8.ok jqX (fun vs H Q E h => ?_) (fun cdv A outer s H vs Q E hr h => ?_)
 ·obtain ⟨c, rfl, _⟩ := h; rfl
 ·obtain ⟨a, rfl, ha, k⟩ := h
  refine ⟨_, (aqf (aqC (aqi gqq (pv 0) (aqy (v := gqE) rfl g.eqP ⟨_, rfl⟩) (by with_unfolding_all rfl))
    (aqe (aql (fqi (K := K) rfl PySem.F.plainAttrs_str PySem.F.slot_str_index PySem.F.type_str_index mqd (aqy (v := gqE) rfl g.eqP ⟨_, rfl⟩) (aqa (pv 0) aqb)))) aqm)
   (aqf (aqC (aqi gqq (pv 0) (aqy (v := gqY) rfl g.eq2 ⟨_, rfl⟩) (by with_unfolding_all rfl))
    (aqe (aql (fqi (K := K) rfl PySem.F.plainAttrs_str PySem.F.slot_str_index PySem.F.type_str_index mqd (aqy (v := gqY) rfl g.eq2 ⟨_, rfl⟩) (aqa (pv 0) aqb)))) aqm)
   (aqe (aql bqo)))), ?_⟩
  walk_at "rd"
  refine ite2 (fun h => ?_) (fun h => ?_)
  ·obtain ⟨e1, e2⟩ := sqd a ha h
   obtain ⟨n, hn⟩ := Option.isSome_iff_exists.mp e2
   rw [hn] at e1
   rw [gq5 hn] at k
   exact ⟨n, [], e1, k⟩
  ·refine ite2 (fun h2 => ?_) (fun h2 => ?_)
   ·obtain ⟨e1, e2⟩ := sqJ a ha h h2
    obtain ⟨n, hn⟩ := Option.isSome_iff_exists.mp e2
    rw [hn] at e1
    rw [gq5 hn] at k
    exact ⟨n, [], e1, k⟩
   ·rw [kqL (xqc a ha h h2)] at k
    exact k
theorem jqT (g : G K mg) : FnOk P w K mg base CX0 1 g.cq2 g.cqx ["number"] jqP := by
 refine g.eqT.ok dq5 (fun vs H Q E h => ?_) (fun cdv A outer s H vs Q E hr h => ?_)
 ·obtain ⟨c, rfl, _⟩ := h; rfl
 ·obtain ⟨n, rfl, k⟩ := h
  refine ⟨_, (aqf (aqC (PW.pt (hqy (aqi mqB (pv 0) (aqy (v := hqB) rfl g.fqz ⟨_, rfl⟩) (nomark _)) (hqy (aqi kqO (pv 0) (aqy (v := mqc) rfl g.iql ⟨_, rfl⟩) (nomark _)) (gq7 (aqi dq2 (pv 0) (aqy (v := fqG) rfl g.dqw ⟨_, rfl⟩) (nomark _))))))
    (aqe (aql bqo)) aqm)
   (aqf (aqp (i := 1) dq5.nd rfl (Or.inl rfl) (aqN tqz (pv 0) (aqy (v := hqB) rfl g.fqz ⟨_, rfl⟩)))
   (aqf (aqC (aqi kqO (pv 0) (aqy (v := fqG) rfl g.dqw ⟨_, rfl⟩) (nomark _))
    (aqe (aqp (i := 1) dq5.nd rfl (Or.inl rfl) (aqN tqz (pv 1) aqj))) aqm)
   (aqe (aql (aqK (aqn (K := K) rfl) (aqy (v := qqL) rfl g.oqy ⟨_, rfl⟩) (pv 1) (fun _ _ => rfl))))))), ?_⟩
  walk_at "rd"
  refine ite2 (fun h => ?_) (fun h => ?_)
  ·rw [qqJ (fun q => by have := eqN q; omega)] at k
   exact k
  ·refine ite2 (fun h1 => ?_) (fun h1 => ?_)
   ·rw [qqJ (fun q => by have := eqN q; omega)] at k
    exact k
   ·refine ite2 (fun h2 => ?_) (fun h2 => ?_)
    ·rw [qqJ (fun q => by have := eqN q; omega)] at k
     exact k
    ·have hs : isSg n = true := tqZ (by omega) (by omega) (by omega)
     rw [uq7 hs] at k
     have hat := sqm n (by omega) hs
     refine ite2 (fun h3 => ?_) (fun h3 => ?_)
     ·rw [if_pos (show 37 < n by omega)] at hat
      refine ⟨n, nq2, ?_, k⟩
      rw [show (n : Int) - 32 - 1 = ((n - 32 - 1 : Nat) : Int) by omega]
      exact aqu hat
     ·rw [if_neg (show ¬ 37 < n by omega)] at hat
      refine ⟨n, nq2, ?_, k⟩
      rw [show (n : Int) - 32 = ((n - 32 - 0 : Nat) : Int) by omega]
      exact aqu hat
theorem oqS (g : G K mg) : FnOk P w K mg base CX0 1 g.hqo g.fqZ ["address"] (oql K) := by
 refine g.iq3.ok oqr (fun vs H Q E h => ?_) (fun cdv A outer s H vs Q E hr h => ?_)
 ·obtain ⟨p, l, r, rfl, _⟩ := h; rfl
 ·obtain ⟨p, l, r, rfl, hp, k⟩ := h
  refine ⟨_, (aqe (aql (aq1 kqr (aqK (aqn (K := K) rfl) (pv 0) (aqy (v := oqT) rfl g.mql ⟨_, rfl⟩) (fun _ _ => rfl)) aqg (nomark _)))), ?_⟩
  walk_at "rd"
  refine ⟨_, _, .inr hp, xqf, ?_⟩
  walk_at "rd"
  rw [show decide ((⟨l.toArray⟩ : Str) = ⟨([] : List Nat).toArray⟩) = decide (l = []) from decide_eq_decide.mpr hqO]
  exact k
theorem hqV (g : G K mg) : FnOk P w K mg base CX0 1 g.hql g.fqT ["thing", "count"] oqh := by
 refine g.fqE.ok oqu (fun vs H Q E h => ?_) (fun cdv A outer s H vs Q E hr h => ?_)
 ·obtain ⟨d, v, n, rfl, _⟩ := h; rfl
 ·obtain ⟨d, v, n, rfl, hv, k⟩ := h
  refine ⟨_, (aqe (aql (cqr (aqA cqu rfl g.aqR aqG (aqa (pv 0) (aqa (eqK (v := .ty "tuple") rfl g.jqh iqI rfl) aqb))) (bqG (aq1 dq2 (aqA (aqT (K := K) rfl) rfl g.gqo PySem.boot_len (aqa (pv 0) aqb)) (pv 1) (nomark _)))))), ?_⟩
  cases hv with
  | lst hp r => walk_at "rd"; simp only [hqt hp]; walk_at "rd"; exact k
  | tup hp r =>
   walk_at "rd"; simp only [hqg hp]; walk_at "rd"
   refine ⟨_, .inr (SqT.of hp), ?_⟩
   rw [← r.length]
   exact k
  | _ => walk_at "rd"; exact k
theorem iqW (g : G K mg) : FnOk P w K mg base CX0 1 g.bq5 g.bqQ ["thing"] iqR := by
 refine g.dqr.ok iq2 (fun vs H Q E h => ?_) (fun cdv A outer s H vs Q E hr h => ?_)
 ·obtain ⟨d, v, rfl, _⟩ := h; rfl
 ·obtain ⟨d, v, rfl, hv, k⟩ := h
  refine ⟨_, (aqe (aql (cqr (aqA cqu rfl g.aqR aqG (aqa (pv 0) (aqa (eqK (v := .ty "int") rfl g.mqN jqx rfl) aqb))) (bqG (mq6 (aqA cqu rfl g.aqR aqG (aqa (pv 0) (aqa (eqK (v := .ty "bool") rfl g.nqA lq9 rfl) aqb)))))))), ?_⟩
  cases hv with
  | lst hp r => walk_at "rd"; simp only [hqt hp]; walk_at "rd"; exact k
  | tup hp r => walk_at "rd"; simp only [hqg hp]; walk_at "rd"; exact k
  | _ => walk_at "rd"; exact k
theorem aqM (g : G K mg) : FnOk P w K mg base CX0 1 g.bqp g.bqk ["self", "at"] (dqZ K g.aqx) := by
 refine g.eqa.ok gqV (fun vs H Q E h => ?_) (fun cdv A outer s H vs Q E hr h => ?_)
 ·obtain ⟨a, v, rfl, _⟩ := h; rfl
 ·obtain ⟨a, v, rfl, ha, k⟩ := h
  refine ⟨_, (aqe (uqb (pv 0) (pv 1) rfl)), ?_⟩
  walk_at "rd"
  exact ⟨a, _, rfl, ha, g.gqO, fun d hd => k d hd⟩
theorem iqO (g : G K mg) : FnOk P w K mg base CX0 1 g.cqh g.bqP ["self", "text"] (iqa K g.aqs) := by
 refine g.fqQ.ok iqE (fun vs H Q E h => ?_) (fun cdv A outer s H vs Q E hr h => ?_)
 ·obtain ⟨p, dx, t, rfl, _⟩ := h; rfl
 ·obtain ⟨p, dx, t, rfl, hp, k⟩ := h
  refine ⟨_, (aqf (oq3 (pv 0) (pv 1) rfl)
   (aqe (oq3 (pv 0) aqj rfl))), ?_⟩
  walk_at "rd"
  refine ⟨p, _, dx, _, rfl, hp, g.aqk, g.aq6, by show 0 < 1000; decide, ?_⟩
  refine ⟨p, _, dx, _, rfl, aqw, g.aqk, g.aqq, by show 1 < 1000; decide, ?_⟩
  have h : Str.ofString "text" ≠ Str.ofString "place" := by decide +kernel
  rw [pq5]
  refine k _ kqS ⟨dx, ?_⟩
  rw [aqw]
  simp only [putF, if_neg h]
  rfl
theorem gqw (g : G K mg) : FnOk P w K mg base CX0 1 g.cq5 g.cqz ["self"] (jqV K g.aqs) := by
 refine g.gqF.ok jqU (fun vs H Q E h => ?_) (fun cdv A outer s H vs Q E hr h => ?_)
 ·obtain ⟨p, t, i, rfl, _⟩ := h; rfl
 ·obtain ⟨p, t, i, rfl, ⟨dx, hp⟩, hl, k⟩ := h
  refine ⟨_, (aqe (aql (aq1 dq2 (cqq (pv 0) rfl) (aqA (aqT (K := K) rfl) rfl g.gqo PySem.boot_len (aqa (cqq (pv 0) rfl) aqb)) (nomark _)))), ?_⟩
  have hcur : Cur H g.aqs p t i := ⟨dx, hp⟩
  walk_at "rd"
  refine aqW hcur g.aqk g.aqq (gqp hcur g.aqk g.aq6 ?_)
  walk_at "rd"
  refine ⟨aqz hl, ?_⟩
  rw [show decide ((i : Int) = (t.length : Int)) = decide (i = t.length) from decide_eq_decide.mpr (by omega)]
  exact k
theorem cqo (g : G K mg) : FnOk P w K mg base CX0 1 g.eqp g.dqI ["self"] (lqr K g.aqs) := by
 refine g.iqC.ok hqI (fun vs H Q E h => ?_) (fun cdv A outer s H vs Q E hr h => ?_)
 ·obtain ⟨p, t, i, c, rfl, _⟩ := h; rfl
 ·obtain ⟨p, t, i, c, rfl, ⟨dx, hp⟩, hc, hl, k⟩ := h
  refine ⟨_, (aqf (aqp (i := 1) hqI.nd rfl (Or.inl rfl) (aqK (aqn (K := K) rfl) (cqq (pv 0) rfl) (cqq (pv 0) rfl) (fun _ _ => rfl)))
   (aqf (oq3 (pv 0) (aqN (dqz (K := K) rfl) (cqq (pv 0) rfl) aqj) rfl)
   (aqe (aql (pv 1))))), ?_⟩
  have hcur : Cur H g.aqs p t i := ⟨dx, hp⟩
  walk_at "rd"
  refine gqp hcur g.aqk g.aq6 (aqW hcur g.aqk g.aqq ?_)
  walk_at "rd"
  refine ⟨c, aqz hl, aqu hc, ?_⟩
  refine aqW hcur g.aqk g.aqq ?_
  walk_at "rd"
  exact nqM hcur g.aqk g.aqq (i + 1) (by omega) fun H' sb h => k H' sb h
theorem rq2 {K : W.Frag} {C p : Addr} {H : Hp} {Q : VK} {E : XK} {t w r : List Nat} {i : Nat} (h : Cur H C p t i) (hi : i ≤ t.length) (hl : t.length ≤ 100000) (hd : t.drop i = w ++ r) (k : ∀ H', SameBut p H H' → Cur H' C p t (i + w.length) → i + w.length ≤ t.length → t.drop (i + w.length) = r → Q (.bl true) H') : dq8 K C [.ref p, .str ⟨w.toArray⟩] H Q E :=
 ⟨p, t, w, i, rfl, h, hi, hl, fun _ H' s c => k H' s c (by have := congrArg List.length hd; rw [List.length_drop, List.length_append] at this; omega) (by rw [← List.drop_drop, hd, List.drop_left]), fun z => absurd (by rw [hd, List.take_left]) z⟩
theorem tqI {K : W.Frag} {C p : Addr} {H : Hp} {Q : VK} {E : XK} {t w : List Nat} {i : Nat} (h : Cur H C p t i) (hi : i ≤ t.length) (hl : t.length ≤ 100000) (hn : ¬ (t.drop i).take w.length = w) (k : Q (.bl false) H) : dq8 K C [.ref p, .str ⟨w.toArray⟩] H Q E :=
 ⟨p, t, w, i, rfl, h, hi, hl, fun z => absurd z hn, fun _ => k⟩
theorem aqH (g : G K mg) : FnOk P w K mg base CX0 1 g.dqc g.cqB ["self", "text"] (dq8 K g.aqs) := by
 refine g.gqG.ok jqR (fun vs H Q E h => ?_) (fun cdv A outer s H vs Q E hr h => ?_)
 ·obtain ⟨p, t, w, i, rfl, _⟩ := h; rfl
 ·obtain ⟨p, t, w, i, rfl, ⟨dx, hp⟩, hi, hl, k1, k2⟩ := h
  refine ⟨_, (aqf (aqC (dqd (aqQ (fqi (K := K) rfl PySem.F.plainAttrs_str PySem.F.slot_str_startswith PySem.F.type_str_startswith pq0 (cqq (pv 0) rfl) (aqa (pv 1) (aqa (cqq (pv 0) rfl) aqb)))))
    (aqe (aql hqz)) aqm)
   (aqf (oq3 (pv 0) (aqN (dqz (K := K) rfl) (cqq (pv 0) rfl) (aqA (aqT (K := K) rfl) rfl g.gqo PySem.boot_len (aqa (pv 1) aqb))) rfl)
   (aqe (aql hqz)))), ?_⟩
  have hcur : Cur H g.aqs p t i := ⟨dx, hp⟩
  walk_at "rd"
  refine gqp hcur g.aqk g.aq6 ⟨rfl, aqW hcur g.aqk g.aqq ?_⟩
  walk_at "rd"
  have e := sq2 t w i hi
  rw [dq0, dq0] at e
  rw [e]
  by_cases h : (t.drop i).take w.length = w
  ·rw [decide_eq_true h, if_neg (by decide)]
   refine aqW hcur g.aqk g.aqq ?_
   walk_at "rd"
   exact ⟨aqz (by have := congrArg List.length h; rw [List.length_take, List.length_drop] at this; omega), nqM hcur g.aqk g.aqq (i + w.length) (by omega) fun H' sb h' => k1 h H' sb h'⟩
  ·rw [decide_eq_false h, if_pos rfl]
   exact k2 h
theorem jqz (g : G K mg) : FnOk P w K mg base CX0 1 g.gqe g.eq4 ["door", "cursor"] (mq2 K g.aqs) := by
 refine g.fq8.ok nqi (fun vs H Q E h => ?_) (fun cdv A outer s H vs Q E hr h => ?_)
 ·obtain ⟨p, t, i, c, n, rfl, _⟩ := h; rfl
 ·obtain ⟨p, t, i, c, n, rfl, hcur, hl, hc, h48, h57, hn, k⟩ := h
  refine ⟨_, (aqe (aql (aqN (dqz (K := K) rfl) (aqN kqD (pv 0) aqj) (dqb jq8 rfl g.mqN jqx (aqa (aqK (aqn (K := K) rfl) (cqq (pv 1) rfl) (cqq (pv 1) rfl) (fun _ _ => rfl)) aqb))))), ?_⟩
  walk_at "rd"
  refine ⟨.inl ⟨by omega, by omega⟩, gqp hcur g.aqk g.aq6 (aqW hcur g.aqk g.aqq ?_)⟩
  walk_at "rd"
  refine ⟨c, aqz hl, aqu hc, _, by show 1 ≤ 640; decide, oqi c (by omega) h48, ?_⟩
  rw [show (n : Int) * 10 + ((c - 48 : Nat) : Int) = ((n * 10 + (c - 48) : Nat) : Int) by omega]
  exact k
theorem jq9 (g : G K mg) : FnOk P w K mg base CX0 1 g.dqP g.cq6 ["_law_script", "_law_k"] (kqx K) := by
 refine g.fqC.ok kqv (fun vs H Q E h => ?_) (fun cdv A outer s H vs Q E hr h => ?_)
 ·obtain ⟨a, ns, k, rfl, _⟩ := h; rfl
 ·obtain ⟨a, ns, i, rfl, hS, k⟩ := h
  refine ⟨_, (aqf (aqC (aqi mqB (pv 1) (aqA (aqT (K := K) rfl) rfl g.gqo PySem.boot_len (aqa (pv 0) aqb)) (nomark _))
    (aqe (aql (aqK (aqn (K := K) rfl) (pv 0) (pv 1) (fun _ _ => rfl)))) aqm)
   (aqe (aql aqj))), ?_⟩
  walk_at "rd"
  refine ⟨ns.map V.int, .inl hS, ite2 (fun h => ?_) (fun h => ?_)⟩
  ·rw [List.length_map] at h
   exact ⟨ns.map V.int, _, .inl hS, tqS (by omega), k⟩
  ·rw [List.length_map] at h
   rw [List.getD_eq_getElem?_getD, List.getElem?_eq_none (by omega)] at k
   exact k
theorem mqO (g : G K mg) : FnOk P w K mg base CX0 1 g.fqt g.eqx ["_law_found"] (mqL K) := by
 refine g.gqM.ok mqC (fun vs H Q E h => ?_) (fun cdv A outer s H vs Q E hr h => ?_)
 ·obtain ⟨i, rfl, _⟩ := h; rfl
 ·obtain ⟨i, rfl, k⟩ := h
  refine ⟨_, (aqe (aql (cqr (aqA cqu rfl g.aqR aqG (aqa (pv 0) (aqa (eqK (v := .ty "int") rfl g.mqN jqx rfl) aqb))) (bqG (mq6 (aqA cqu rfl g.aqR aqG (aqa (pv 0) (aqa (eqK (v := .ty "bool") rfl g.nqA lq9 rfl) aqb)))))))), ?_⟩
  walk_at "rd"
  exact k
theorem dqg (g : G K mg) : FnOk P w K mg base CX0 1 g.eq6 g.eqt [] iq1 := by
 refine g.bqS.ok iqu (fun vs H Q E h => ?_) (fun cdv A outer s H vs Q E hr h => ?_)
 ·obtain ⟨rfl, _⟩ := h; rfl
 ·obtain ⟨rfl, k⟩ := h
  refine ⟨_, (aqf (aqp (i := 0) iqu.nd rfl (Or.inl rfl) aqg)
   (aqe (aql (aqN (dqz (K := K) rfl) (pv 0) aqg)))), ?_⟩
  walk_at "rd"
  rw [vqG]
  exact ⟨tqN, k⟩
theorem mqf (g : G K mg) : FnOk P w K mg base CX0 1 g.eq3 g.eqi ["_law_sign"] iq0 := by
 refine g.gqy.ok lq1 (fun vs H Q E h => ?_) (fun cdv A outer s H vs Q E hr h => ?_)
 ·obtain ⟨c, rfl, _⟩ := h; rfl
 ·obtain ⟨c, rfl, hc, k⟩ := h
  refine ⟨_, (aqe (aql (kq9 (hqX (K := K) rfl PySem.F.plainAttrs_str PySem.F.slot_str_isalnum PySem.F.type_str_isalnum mqu (pv 0)) (bqG (aq1 gqq (pv 0) aqg (by with_unfolding_all rfl)))))), ?_⟩
  walk_at "rd"
  have e := nqj c hc
  refine ite2 (fun h => ?_) (fun h => ?_)
  ·rw [← e, h] at k
   exact k
  ·rw [← e, (Bool.not_eq_true _).mp h, Bool.false_or] at k
   exact k
theorem aqZ (g : G K mg) : FnOk P w K mg base CX0 1 g.fq6 g.fql ["_law_sign", "_law_some"] (nqx K) := by
 refine g.aqU.ok eq5 (fun vs H Q E h => ?_) (fun cdv A outer s H vs Q E hr h => ?_)
 ·obtain ⟨c, p, l, rfl, _⟩ := h; rfl
 ·obtain ⟨c, p, l, rfl, ⟨vs, hp, hvl, hvs⟩, hl, k⟩ := h
  refine ⟨_, (aqf (aqp (i := 2) eq5.nd rfl (Or.inl rfl) (aqL aqb))
   (aqf (kqV PassesOwn.never rfl (jq1 (K := K) rfl (pv 1)) (oqP (n := 2) (K := K) rfl rfl (dqk (bqN (i := 3) eq5.nd rfl (Or.inl rfl)) (dqk (bqN (i := 4) eq5.nd rfl (Or.inl rfl)) oqg)))
   (aqe (aqC (aqi dq2 (pv 0) (pv 3) (nomark _))
    (aqe (gqc (fqi (K := K) rfl PySem.F.plainAttrs_list PySem.F.slot_list_append PySem.F.type_list_append dqW (pv 2) (aqa (pv 4) aqb)))) aqm)))
   (aqe (aql (pv 2))))), ?_⟩
  walk_at "rd"
  refine ⟨by decide, fun p1 H1 n1 s1 hp1 => ⟨⟨_, .of (s1 _ _ hp)⟩, ?_⟩⟩
  refine nqz (xs := vs) (fun i σ H' => Same H H' ∧ ∃ us v3 v4, σ = [some (.str ⟨#[c]⟩), some (.ref p), some (.ref p1), v3, v4] ∧ H' p1 = some (.lst us) ∧ IsTAll H' ((auE c (l.take i)).map auD) us ∧ us.length ≤ i) ⟨s1, [], none, none, rfl, hp1, by rw [List.take_zero]; exact .nil, Nat.le_refl _⟩ (fun i σ H' _ h => .of (h.1 _ _ hp)) ?_ ?_
  ·rintro i x σ H2 hx ⟨s2, us, v3, v4, rfl, hu, hus, hul⟩
   have hi : i < l.length := by rw [← hvl]; exact (List.getElem?_eq_some_iff.mp hx).1
   have he : l[i]? = some l[i] := List.getElem?_eq_getElem hi
   obtain ⟨q, u, rfl, hq, hqu⟩ := hvs i _ x he hx
   have tk : auE c (l.take (i + 1)) = auE c (l.take i) ++ (if c = l[i].1 then [l[i].2] else []) := by
    rw [List.take_add_one, he, eqL]
    congr 1
   walk_at "rd"
   refine ⟨q, _, rfl, .of (s2 _ _ hq), rfl, _, _, rfl, _, _, rfl, rfl, L2.fqB.mpr ⟨_, rfl, ?_⟩⟩
   by_cases hc : c = l[i].1
   ·rw [decide_eq_true (oqG.mpr hc), if_pos rfl]
    rw [if_pos hc] at tk
    have st : SameT H2 (upd H2 p1 (.lst (us ++ [u]))) := iqY hu
    refine ⟨⟨_, .of hu⟩, us, hu, aqz (by omega), nqB n1 s2, _, _, _, ⟨rfl, rfl⟩, aqw, ?_, by rw [List.length_append, List.length_singleton]; omega⟩
    rw [tk, List.map_append]
    exact IsTAll.append (hus.mono st) (.cons ((hqu.mono s2.toT).mono st) .nil)
   ·rw [decide_eq_false (fun z => hc (oqG.mp z)), if_neg (by decide)]
    rw [if_neg hc, List.append_nil] at tk
    exact ⟨s2, us, _, _, ⟨rfl, rfl⟩, hu, by rw [tk]; exact hus, by omega⟩
  ·rintro σ H2 ⟨s2, us, v3, v4, rfl, hu, hus, hul⟩
   walk_at "rd"
   refine k p1 H2 s2 ⟨us, hu, ?_⟩
   rw [hvl, List.take_length] at hus
   exact hus
theorem nqe (g : G K mg) : FnOk P w K mg base CX0 1 g.fq5 g.fqk ["_law_state", "_law_sign"] (nqn K) := by
 refine g.hqZ.ok nqK (fun vs H Q E h => ?_) (fun cdv A outer s H vs Q E hr h => ?_)
 ·obtain ⟨a, v, c, rfl, _⟩ := h; rfl
 ·obtain ⟨a, v, c, rfl, ha, hv, hc, k⟩ := h
  refine ⟨_, (aqf (aqC (aqi dq2 (aqK (aqn (K := K) rfl) (pv 0) aqj (fun _ _ => rfl)) aqg (nomark _))
    (aqf (aqC (PW.pt (dqV (aqi kqr (pv 1) aqg (nomark _)) (cqG (aqi gqq (pv 1) aqg (by with_unfolding_all rfl)))))
    (aqe (aql (aqL (aqa (aqo (aqa aqg (aqa (aqK (aqn (K := K) rfl) (pv 0) aqj (fun _ _ => rfl)) (aqa (pv 1) aqb)))) aqb)))) aqm)
   (aqe (aql (aqL aqb)))) aqm)
   (aqf (aqC (PW.pt (hqy (aqi rqy (pv 1) aqg (by with_unfolding_all rfl)) (gq7 (aqi (dqo (K := K) rfl) (aqN (aqJ (K := K)) (aqK (aqn (K := K) rfl) (pv 0) aqj (fun _ _ => rfl)) (hqX (K := K) rfl PySem.F.plainAttrs_str PySem.F.slot_str_lower PySem.F.type_str_lower oq5 (pv 1))) (aqo (aqa aqg (aqa aqg aqb))) (by with_unfolding_all rfl)))))
    (aqe (aql (aqL aqb))) aqm)
   (aqe (aql (aqL (aqa (aqK (aqn (K := K) rfl) (pv 0) aqj (fun _ _ => rfl)) aqb)))))), ?_⟩
  obtain ⟨q, xs, rfl, hq, hxs⟩ := lqU hv
  have hne : ¬ (⟨#[c]⟩ : Str) = ⟨#[]⟩ := by intro z; injection z with z; have := congrArg Array.size z; simp at this
  rcases ha with ⟨b, rfl⟩ | ⟨b, d, rfl, hd⟩
  ·cases hxs with
   | cons h1 r =>
   cases r
   simp only [auW] at hq
   walk_at "rd"
   refine ⟨_, _, .inr (.of hq), aqu (j := 0) rfl, L2.fqB.mpr ⟨_, rfl, ?_⟩⟩
   rw [decide_eq_true rfl, if_pos rfl, if_pos hne]
   have eF : (Str.ofString "234567").cps.toList = fsF := by decide +kernel
   rw [eF]
   refine ite2 (fun hf => ?_) (fun hf => ⟨by decide, fun p H1 _ s1 hp => k p H1 s1 ⟨_, hp, by show IsTAll H1 (List.map auD (if c ∈ fsF then _ else _)) _; rw [if_neg hf]; exact .nil⟩⟩)
   refine ⟨_, _, .inr (.of hq), aqu (j := 1) rfl, by decide, fun p H1 _ s1 hp => ⟨by decide, fun p2 H2 _ s2 hp2 => k p2 H2 (s1.trans s2) ⟨_, hp2, ?_⟩⟩⟩
   show IsTAll H2 (List.map auD (if c ∈ fsF then _ else _)) _
   rw [if_pos hf]
   exact .cons (.tup (s2 _ _ hp) (.cons (.str _) (.cons (h1.mono (s1.trans s2).toT) (.cons (.str _) .nil)))) .nil
  ·cases hxs with
   | cons h1 r =>
   cases r with
   | cons h2 r =>
   cases r
   cases h2
   simp only [auW] at hq
   walk_at "rd"
   refine ⟨_, _, .inr (.of hq), aqu (j := 0) rfl, L2.fqB.mpr ⟨_, rfl, ?_⟩⟩
   rw [decide_eq_false (by decide +kernel), if_neg (by decide)]
   have key := vqj d hd c hc
   refine ite2 (fun hf => ⟨by decide, fun p H1 _ s1 hp => k p H1 s1 ⟨_, hp, ?_⟩⟩) (fun hf => ?_)
   ·show IsTAll H1 (List.map auD (if (sgO d c).isSome = true then _ else _)) _
    rw [if_neg (fun z => hf (key.mp z).1)]; exact .nil
   have hf : c ∈ (Str.ofString "0123456789abcdefABCDEF").cps.toList := Classical.not_not.mp hf
   refine ⟨_, _, .inr (.of hq), aqu (j := 2) rfl, (fun x hx => by rw [List.mem_singleton.mp hx]; exact hc), by decide, ?_⟩
   rw [show (⟨#[PyProof.Rows.lo1 c]⟩ : Str) = ⟨[PyProof.Rows.lo1 c].toArray⟩ from rfl]
   walk_at "rd"
   refine ⟨by decide, by decide, fun p H1 _ s1 hp => ⟨p, _, rfl, .inr (.of hp), rfl, rfl, _, rfl, ?_⟩⟩
   rw [show (if false = true then !inV (V.str ⟨#[d, PyProof.Rows.lo1 c]⟩) [V.str (Str.ofString "25"), V.str (Str.ofString "7f")] else inV (V.str ⟨#[d, PyProof.Rows.lo1 c]⟩) [V.str (Str.ofString "25"), V.str (Str.ofString "7f")]) = inV (V.str ⟨#[d, PyProof.Rows.lo1 c]⟩) [V.str (Str.ofString "25"), V.str (Str.ofString "7f")] from rfl, in25]
   by_cases hb : (d = 50 ∧ PyProof.Rows.lo1 c = 53) ∨ (d = 55 ∧ PyProof.Rows.lo1 c = 102)
   ·rw [decide_eq_true hb, if_pos rfl]
    refine ⟨by decide, fun p2 H2 _ s2 hp2 => k p2 H2 (s1.trans s2) ⟨_, hp2, ?_⟩⟩
    show IsTAll H2 (List.map auD (if (sgO d c).isSome = true then _ else _)) _
    rw [if_neg (fun z => (key.mp z).2 hb)]; exact .nil
   ·rw [decide_eq_false hb, if_neg (by decide)]
    refine ⟨_, _, .inr (.of (s1 _ _ hq)), aqu (j := 1) rfl, by decide, fun p2 H2 _ s2 hp2 => k p2 H2 (s1.trans s2) ⟨_, hp2, ?_⟩⟩
    show IsTAll H2 (List.map auD (if (sgO d c).isSome = true then _ else _)) _
    rw [if_pos (key.mpr ⟨hf, hb⟩)]
    exact .cons (h1.mono (s1.trans s2).toT) .nil
theorem kqi (g : G K mg) : FnOk P w K mg base CX0 1 g.dqK g.dqa ["_law_state"] (kqP K) := by
 refine g.fqy.ok kqc (fun vs H Q E h => ?_) (fun cdv A outer s H vs Q E hr h => ?_)
 ·obtain ⟨s, v, rfl, _⟩ := h; rfl
 ·obtain ⟨a, v, rfl, ha, hv, k⟩ := h
  refine ⟨_, (aqf (aqC (aqi (pqg hr.units) (pv 0) (aqo (aqa aqg (aqa (lq3 iqz aqj) aqb))) (nomark _))
    (aqe (aql hqz)) aqm)
   (aqe (aql (aq1 (mqP (K := K) rfl) (aqK (aqn (K := K) rfl) (pv 0) aqj (fun _ _ => rfl)) (aqo (aqa aqg (aqa aqg (aqa aqg (aqa aqg (aqa aqg aqb)))))) (by with_unfolding_all rfl))))), ?_⟩
  walk_at "rd"
  obtain ⟨q, xs, rfl, hq, _⟩ := lqU hv
  refine ⟨by decide, fun p H1 _ s1 hp => ?_⟩
  refine ⟨auD a, .tuple [.str (Str.ofString "door"), .int (-1)], (hv.mono s1.toT).is, .tup hp (.cons (.str _) (.cons (.int _) .nil)), nq8 ha, by decide +kernel, _, rfl, ?_⟩
  by_cases hd : a = .door (-1)
  ·subst hd
   rw [show PyData.eqv (auD (.door (-1))) (.tuple [.str (Str.ofString "door"), .int (-1)]) = true by decide +kernel, if_pos rfl]
   exact k H1 s1
  have ne : PyData.eqv (auD a) (.tuple [.str (Str.ofString "door"), .int (-1)]) = false := rqm hd
  rw [ne, if_neg (by decide)]
  refine L2.kqz.mpr ⟨_, _, .inr (.of (s1 _ _ hq)), aqu (j := 0) rfl, by decide, fun p2 H2 _ s2 hp2 => ?_⟩
  refine ⟨p2, _, rfl, .inr (.of hp2), rfl, rfl, ?_⟩
  have e : (if true = true then !inV (V.str (auW a)) [V.str (Str.ofString "scheme"), V.str (Str.ofString "slashes"), V.str (Str.ofString "next"), V.str (Str.ofString "pair"), V.str (Str.ofString "second")] else inV (V.str (auW a)) [V.str (Str.ofString "scheme"), V.str (Str.ofString "slashes"), V.str (Str.ofString "next"), V.str (Str.ofString "pair"), V.str (Str.ofString "second")]) = mayEnd a := by
   cases a with
   | door v => rw [show mayEnd (.door v) = true from decide_eq_true (fun z => hd (by rw [z]))]; simp only [auW]; decide +kernel
   | _ => simp only [auW, mayEnd]; decide +kernel
  rw [e]
  exact k H2 (s1.trans s2)
theorem aq7 (g : G K mg) : FnOk P w K mg base CX0 1 g.fq4 g.eq8 ["_law_text", "_law_here", "_law_word_here"] (nqZ K) := by
 refine g.aq4.ok mqW (fun vs H Q E h => ?_) (fun cdv A outer s H vs Q E hr h => ?_)
 ·obtain ⟨t, w, r, i, rfl, _⟩ := h; rfl
 ·obtain ⟨t, w, r, i, rfl, hl, hat, k⟩ := h
  refine ⟨_, (aqf (aqC (PW.pt (hqy (aqi mqB (pv 1) aqj (nomark _)) (gq7 (aqi kqr (dqi (eqM (K := K) rfl) (pv 0) (bqU (pv 1)) (bqU (aqN (aqJ (K := K)) (pv 1) (aqA (aqT (K := K) rfl) rfl g.gqo PySem.boot_len (aqa (pv 2) aqb))))) (pv 2) (nomark _)))))
    (aqe (aql (lq3 iqz aqj))) aqm)
   (aqe (aql (aqN (aqJ (K := K)) (pv 1) (aqA (aqT (K := K) rfl) rfl g.gqo PySem.boot_len (aqa (pv 2) aqb)))))), ?_⟩
  walk_at "rd"
  have hlen := hat.len
  rw [List.length_append] at hlen
  rw [if_neg (by omega), show ((i : Int) + (w.length : Int)) = ((i + w.length : Nat) : Int) by omega, gq1, show i + w.length - i = w.length by omega, hat.cut]
  refine ⟨aqz (by omega), aqz (by omega), ?_⟩
  rw [if_neg (by simp)]
  exact ⟨aqz (by omega), k⟩
theorem jqd (g : G K mg) : FnOk P w K mg base CX0 2 g.iqi g.hqs ["thing"] pqK := by
 refine g.gqW.ok pqH (fun vs H Q E h => ?_) (fun cdv A outer s H vs Q E hr h => ?_)
 ·obtain ⟨d, v, rfl, _⟩ := h; rfl
 ·obtain ⟨d, v, rfl, hv, hs, k⟩ := h
  refine ⟨_, (aqe (aql (cqr (aqA cqu rfl g.aqR aqG (aqa (pv 0) (aqa (eqK (v := .ty "str") rfl g.sqy qqF rfl) aqb))) (bqG (aqh (jqm g) (hr.mono (by decide)) rfl g.iqM g.gqA.kp g.iqc .nil pass0 (aqa (pv 0) (aqa (aqy (v := qqL) rfl g.oqy ⟨_, rfl⟩) aqb))))))), ?_⟩
  cases hv with
  | lst hp r => walk_at "rd"; simp only [hqt hp]; walk_at "rd"; exact k H (Same.refl _)
  | tup hp r => walk_at "rd"; simp only [hqg hp]; walk_at "rd"; exact k H (Same.refl _)
  | str x =>
   walk_at "rd"
   refine ⟨x, _, rfl, iqf hs, fun H' sm => ?_⟩
   simp only [wqr]
   exact k H' sm
  | _ => walk_at "rd"; exact k H (Same.refl _)
theorem pqW (g : G K mg) : FnOk P w K mg base CX0 2 g.iqy g.hqn ["figures"] lqV := by
 refine g.kqy.ok jqi (fun vs H Q E h => ?_) (fun cdv A outer s H vs Q E hr h => ?_)
 ·obtain ⟨c, rfl, _⟩ := h; rfl
 ·obtain ⟨l, rfl, hl, ha, k⟩ := h
  refine ⟨_, (aqf (aqC (aqi kqr (aqA (aqT (K := K) rfl) rfl g.gqo PySem.boot_len (aqa (pv 0) aqb)) aqj (nomark _))
    (aqe (aql bqo)) aqm)
   (aqf (aqp (i := 1) jqi.nd rfl (Or.inl rfl) (aqh (gqu g) (hr.mono (by decide)) rfl g.eqR g.cq8.kp g.eqZ .nil pass0 (aqa (aqK (aqn (K := K) rfl) (pv 0) aqj (fun _ _ => rfl)) aqb)))
   (aqf (aqp (i := 2) jqi.nd rfl (Or.inl rfl) (aqh (gqu g) (hr.mono (by decide)) rfl g.eqR g.cq8.kp g.eqZ .nil pass0 (aqa (aqK (aqn (K := K) rfl) (pv 0) aqj (fun _ _ => rfl)) aqb)))
   (aqf (aqC (PW.pt (hqy (aqi gqk (pv 1) bqo (nomark _)) (gq7 (aqi gqk (pv 2) bqo (nomark _)))))
    (aqe (aql bqo)) aqm)
   (aqe (aql (aqh (jqT g) (hr.mono (by decide)) rfl g.gq9 g.eqT.kp g.gq4 .nil pass0 (aqa (aqN (dqz (K := K) rfl) (aqN kqD (pv 1) aqj) (pv 2)) aqb)))))))), ?_⟩
  walk_at "rd"
  have hz : l.length ≤ sizeLine := aqz (by omega)
  refine ⟨hz, ite2 (fun h => ?_) (fun h => ?_)⟩
  ·rw [pqA (by omega)] at k
   exact k
  ·obtain ⟨a, b, rfl⟩ := vqZ (l := l) (by omega)
   refine ⟨a, hz, rfl, ha a (by simp), b, hz, rfl, ha b (by simp), ?_⟩
   have k : Q (signOf a b) H := k
   unfold signOf at k
   cases e1 : fig a with
   | none =>
    rw [e1] at k
    rw [kqL e1]
    exact k
   | some x =>
    cases e2 : fig b with
    | none =>
     rw [e1, e2] at k
     rw [gq5 e1, kqL e2]
     exact k
    | some y =>
     rw [e1, e2] at k
     rw [gq5 e1, gq5 e2]
     walk_at "rd"
     exact ⟨.inr ⟨by decide, by decide⟩, x * 16 + y, by rw [Int.natCast_add, Int.natCast_mul]; rfl, k⟩
theorem kq4 (g : G K mg) : FnOk P w K mg base CX0 2 g.equ g.dqJ ["address"] lqb := by
 refine g.gqb.ok hqK (fun vs H Q E h => ?_) (fun cdv A outer s H vs Q E hr h => ?_)
 ·obtain ⟨a, b, c, d, e, f, v, rfl, _⟩ := h; rfl
 ·obtain ⟨a, b, c, d, e, f, v, rfl, hv, ha, hd, k⟩ := h
  refine ⟨_, (aqf (aqp (i := 1) hqK.nd rfl (Or.inl rfl) (aq1 eq9 (aqK (aqn (K := K) rfl) (pv 0) (aqy (v := rqG) rfl g.oqE ⟨_, rfl⟩) (fun _ _ => rfl)) bqo (nomark _)))
   (aqf (aqC (PW.pt (dqV (aqi eq9 (aqK (aqn (K := K) rfl) (pv 0) (aqy (v := sq7) rfl g.qqW ⟨_, rfl⟩) (fun _ _ => rfl)) bqo (nomark _)) (cqG (dqd (aqQ (pv 1))))))
    (aqe (aql hqz)) aqm)
   (aqe (aql (kq9 (aqK (aqn (K := K) rfl) (aqK (aqn (K := K) rfl) (pv 0) (aqy (v := wqa) rfl g.uqe ⟨_, rfl⟩) (fun _ _ => rfl)) (aqy (v := mqR) rfl g.jq0 ⟨_, rfl⟩) (fun _ _ => rfl)) (bqG (mq6 (kq9 (aqh (oqS g) (hr.mono (by decide)) rfl g.lqD g.iq3.kp g.lqy .nil pass0 (aqa (pv 0) aqb)) (bqG (pv 1)))))))))), ?_⟩
  obtain ⟨x, rfl⟩ := pqG ha
  obtain ⟨r0, ds0, e0, rfl⟩ := pqN hd
  cases hv with
  | @tup p xs ds hp r =>
   obtain ⟨x0, x1, x2, x3, x4, x5, rfl, h0, h1, h2, h3, h4, h5⟩ := isAll6 r
   cases h0
   cases h3 with
   | @tup q ys _ hq rq =>
    obtain ⟨y0, y1, y2, rfl, g0, g1, g2⟩ := isAll3 rq
    cases g0
    have eb : decide (x1 = V.non) = nonD b := by cases h1 <;> simp [nonD]
    have ec : decide (x2 = V.non) = nonD c := by cases h2 <;> simp [nonD]
    walk_at "rd"
    refine ⟨_, x1, .inr (SqT.of hp), aqu (j := 1) rfl, ⟨_, x2, .inr (SqT.of hp), aqu (j := 2) rfl, ?_⟩⟩
    rw [eb]
    have k : Q (.bl ((nonD c || !nonD b) && (r0 || !(!decide (x = ⟨#[]⟩) || !nonD b)))) H := k
    refine ite2 (fun h => ite2 (fun h2 => ?_) (fun h2 => ?_)) (fun h => ?_)
    ·rw [show nonD c = false by rw [← ec]; exact decide_eq_false h, h2] at k
     exact k
    all_goals
     refine ⟨_, .ref q, .inr (SqT.of hp), aqu (j := 3) rfl, kqz.mpr ⟨_, .bl r0, .inr (SqT.of hq), aqu (j := 0) rfl, r0, rfl, ?_⟩⟩
     have hcb : (nonD c || !nonD b) = true := by
      first
      | (rw [(Bool.not_eq_false _).mp h2, Bool.or_true])
      | (rw [show nonD c = true by rw [← ec]; exact decide_eq_true (Decidable.of_not_not h), Bool.true_or])
     rw [hcb, Bool.true_and] at k
     refine ite2 (fun hr0 => ?_) (fun hr0 => ?_)
     ·rw [hr0, Bool.true_or] at k
      exact k
     ·rw [(Bool.not_eq_true _).mp hr0, Bool.false_or] at k
      obtain ⟨l, rfl⟩ : ∃ l : List Nat, x = ⟨l.toArray⟩ := ⟨x.cps.toList, by simp⟩
      have hdd : decide ((⟨l.toArray⟩ : Str) = ⟨#[]⟩) = decide (l = []) := decide_eq_decide.mpr hqJ
      rw [hdd] at k
      refine ⟨p, l, _, rfl, .of hp, _, rfl, ite2 (fun hx => ?_) (fun hx => ?_)⟩
      ·rw [hx, Bool.true_or] at k
       exact k
      ·rw [(Bool.not_eq_true _).mp hx, Bool.false_or] at k
       exact k
theorem pqt (g : G K mg) : FnOk P w K mg base CX0 2 g.iqj g.hqh ["thing"] pqx := by
 refine g.kqU.ok pqD (fun vs H Q E h => ?_) (fun cdv A outer s H vs Q E hr h => ?_)
 ·obtain ⟨d, v, rfl, _⟩ := h; rfl
 ·obtain ⟨d, v, rfl, hv, k⟩ := h
  refine ⟨_, (aqe (aql (kq9 (aq1 gqk (pv 0) bqo (nomark _)) (bqG (cqr (aqh (iqW g) (hr.mono (by decide)) rfl g.fqH g.dqr.kp g.fqF .nil pass0 (aqa (pv 0) aqb)) (bqG (sql qqp qqp aqj (pv 0) (aqy (v := kqH) rfl g.hqQ ⟨_, rfl⟩)))))))), ?_⟩
  cases hv with
  | non => walk_at "rd"; exact k
  | bl b => walk_at "rd"; exact ⟨_, _, rfl, .bl b, false, rfl, k⟩
  | int b =>
   walk_at "rd"
   refine ⟨_, _, rfl, .int b, true, rfl, ?_⟩
   walk_at "rd"
   refine ite2 (fun h => ?_) (fun h => ?_)
   ·simp only [dooD, decide_eq_true h, Bool.true_and] at k
    exact k
   ·simp only [dooD, decide_eq_false h, Bool.false_and] at k
    exact k
  | str b => walk_at "rd"; exact ⟨_, _, rfl, .str b, false, rfl, k⟩
  | lst hp r => walk_at "rd"; exact ⟨_, _, rfl, .lst hp r, false, rfl, k⟩
  | tup hp r => walk_at "rd"; exact ⟨_, _, rfl, .tup hp r, false, rfl, k⟩
theorem dqM (g : G K mg) : FnOk P w K mg base CX0 2 g.eqj g.dqE ["self", "signs"] (lqd K g.aqs) := by
 refine g.iqL.ok lqo (fun vs H Q E h => ?_) (fun cdv A outer s H vs Q E hr h => ?_)
 ·obtain ⟨p, t, sg, i, rfl, _⟩ := h; rfl
 ·obtain ⟨p, t, sg, i, rfl, ⟨dx, hp⟩, hi, hl, k⟩ := h
  refine ⟨_, (aqe (aql (cqr (mq6 (gqm (pv 0) g.aqk g.dq4 (gqw g) (hr.mono (by decide)) g.eqO .nil pass0)) (bqG (aq1 gqq (aqK (aqn (K := K) rfl) (cqq (pv 0) rfl) (cqq (pv 0) rfl) (fun _ _ => rfl)) (pv 1) (by with_unfolding_all rfl)))))), ?_⟩
  have hcur : Cur H g.aqs p t i := ⟨dx, hp⟩
  walk_at "rd"
  refine aqS hcur ⟨p, t, i, rfl, hcur, hl, _, rfl, ?_⟩
  by_cases he : i = t.length
  ·rw [decide_eq_true he, if_neg (by decide)]
   rw [fqJ (by rw [he]; exact List.getElem?_eq_none (Nat.le_refl _))] at k
   exact k
  rw [decide_eq_false he, if_pos rfl]
  refine gqp hcur g.aqk g.aq6 (aqW hcur g.aqk g.aqq ?_)
  have hc : t[i]? = some t[i] := List.getElem?_eq_getElem (by omega)
  walk_at "rd"
  refine ⟨t[i], aqz hl, aqu hc, ?_⟩
  rw [fqP hc] at k
  exact k
theorem nq9 (g : G K mg) : FnOk P w K mg base CX0 2 g.hqc g.fq7 ["_law_sign"] kqN := by
 refine g.jqj.ok hqR (fun vs H Q E h => ?_) (fun cdv A outer s H vs Q E hr h => ?_)
 ·obtain ⟨c, rfl, _⟩ := h; rfl
 ·obtain ⟨c, rfl, hc, k⟩ := h
  refine ⟨_, (aqf (aqp (i := 1) hqR.nd rfl (Or.inl rfl) (fqi (K := K) rfl PySem.F.plainAttrs_str PySem.F.slot_str_index PySem.F.type_str_index mqd (iqr (dqg g) (hr.mono (by decide)) rfl g.cqT g.bqS.kp g.cqY .nil pass0) (aqa (pv 0) aqb)))
   (aqf (aqp (i := 2) hqR.nd rfl (Or.inl rfl) (aqN (dqz (K := K) rfl) (aqN (dqz (K := K) rfl) aqj (pv 1)) (dqb kq1 rfl g.mqN jqx (aqa (aq1 kqO (pv 1) aqj (nomark _)) aqb))))
   (aqe (aql (aqN (dqz (K := K) rfl) (aqK (aqn (K := K) rfl) aqg (aqN oqq (pv 2) aqj) (fun _ _ => rfl)) (aqK (aqn (K := K) rfl) aqg (aqN kqK (pv 2) aqj) (fun _ _ => rfl))))))), ?_⟩
  walk_at "rd"
  have l := eqN hc
  have e := tqV hc
  refine ⟨ixT c, [], vqE c (by omega) hc, ⟨by decide, by decide⟩, hexd (c / 16), nqS, vqu (by rw [e]; omega) (by omega), by decide, hexd (c % 16), nqS, vqu (by rw [e]; omega) (by omega), by decide, k⟩
theorem bql (g : G K mg) : FnOk P w K mg base CX0 2 g.fqn g.eql ["_law_goal", "_law_sign", "_law_free"] (mqH K) := by
 refine g.aq8.ok lqX (fun vs H Q E h => ?_) (fun cdv A outer s H vs Q E hr h => ?_)
 ·obtain ⟨g, v, c, fr, rfl, _⟩ := h; rfl
 ·obtain ⟨a, v, c, fr, rfl, hv, hc, k⟩ := h
  refine ⟨_, (aqf (aqC (aqi dq2 (pv 1) aqg (nomark _))
    (aqe (aql (aqL (aqa (aqo (aqa aqg (aqa (pv 0) aqb))) aqb)))) aqm)
   (aqf (aqC (PW.pt (dqV (aqi kqr (pv 1) aqg (nomark _)) (cqG (PW.pt (hqy (aqi gqq (pv 1) aqg (by with_unfolding_all rfl)) (hqy (PW.pt (dqV (aqQ (hqX (K := K) rfl PySem.F.plainAttrs_str PySem.F.slot_str_isalnum PySem.F.type_str_isalnum mqu (pv 1))) (cqG (aqi gqq (pv 1) (iqr (dqg g) (hr.mono (by decide)) rfl g.cqT g.bqS.kp g.cqY .nil pass0) (by with_unfolding_all rfl))))) (gq7 (aqi gqq (pv 1) (pv 2) (by with_unfolding_all rfl)))))))))
    (aqe (aql (aqL (aqa (pv 0) aqb)))) aqm)
   (aqe (aql (aqL aqb))))), ?_⟩
  walk_at "rd"
  have one : auS a c fr = [a] → 1 ≤ sizeLine ∧ ∀ (p : Addr) (H' : Hp), H p = none → Same H H' → H' p = some (.lst [v]) → Q (.ref p) H' := fun e => ⟨by decide, fun p H' n s hp => k p H' n s ⟨_, hp, by rw [e]; exact .cons (hv.mono s.toT) .nil⟩⟩
  have non : auS a c fr = [] → 0 ≤ sizeLine ∧ ∀ (p : Addr) (H' : Hp), H p = none → Same H H' → H' p = some (.lst []) → Q (.ref p) H' := fun e => ⟨by decide, fun p H' n s hp => k p H' n s ⟨_, hp, by rw [e]; exact .nil⟩⟩
  have pl := nqj c hc
  by_cases h126 : c = 126
  ·subst h126
   rw [if_pos rfl]
   refine ⟨by decide, fun p H1 _ s1 hp => ⟨by decide, fun q H2 n2 s2 hq => k q H2 (s1.free n2) (s1.trans s2) ⟨_, hq, ?_⟩⟩⟩
   exact .cons (.tup (s2 _ _ hp) (.cons (.str _) (.cons (hv.mono (s1.trans s2).toT) .nil))) .nil
  rw [if_neg (fun z => h126 (oqG.mp z)), if_pos (by intro z; injection z with z; have := congrArg Array.size z; simp at this)]
  have yes : isPl c = true ∨ c ∈ fr → auS a c fr = [a] := fun h => by unfold auS; rw [if_neg h126, if_pos h]
  have no : isPl c = false → c ∉ fr → auS a c fr = [] := fun h1 h2 => fqh ⟨h1, h2, h126⟩
  by_cases h1 : c ∈ (Str.ofString "-_.").cps.toList
  ·rw [if_pos h1]
   exact one (yes (.inl (by rw [← pl, decide_eq_true h1]; simp)))
  rw [if_neg h1]
  by_cases h2 : Txt.isalnum ⟨#[c]⟩ = true
  ·rw [if_pos h2, if_pos (vqI c hc h2)]
   exact one (yes (.inl (by rw [← pl, h2]; rfl)))
  rw [if_neg h2]
  have hpl : isPl c = false := by
   rw [← pl, decide_eq_false h1]
   cases h : Txt.isalnum ⟨#[c]⟩ with
   | false => rfl
   | true => exact absurd h h2
  exact ite2 (fun h => one (yes (.inr h))) (fun h => non (no hpl h))
theorem mqm (g : G K mg) : FnOk P w K mg base CX0 2 g.fqr g.eqk ["_law_cell", "_law_plainly"] (lq4 K) := by
 refine g.hqb.ok cq7 (fun vs H Q E h => ?_) (fun cdv A outer s H vs Q E hr h => ?_)
 ·obtain ⟨c, b, rfl, _⟩ := h; rfl
 ·obtain ⟨c, b, rfl, k⟩ := h
  refine ⟨_, (aqf (aqp (i := 2) cq7.nd rfl (Or.inl rfl) (aqN kqK (aqN kqD (pv 0) aqj) aqj))
   (aqf (aqC (dqd (aqQ (pv 1)))
    (aqe (aql (aqK (aqn (K := K) rfl) (iqr (dqg g) (hr.mono (by decide)) rfl g.cqT g.bqS.kp g.cqY .nil pass0) (aqN kqK (pv 2) aqj) (fun _ _ => rfl)))) aqm)
   (aqf (aqp (i := 3) cq7.nd rfl (Or.inl rfl) (aqL (aqa aqg (aqa aqg (aqa aqg (aqa aqg (aqa aqg (aqa aqg (aqa aqg (aqa aqg (aqa aqg (aqa aqg (aqa aqg (aqa aqg (aqa aqg (aqa aqg (aqa aqg (aqa aqg aqb))))))))))))))))))
   (aqf (aqp (i := 3) cq7.nd rfl (Or.inl rfl) (aqN (aqJ (K := K)) (pv 3) (aqL (aqa aqg (aqa aqg (aqa aqg (aqa aqg aqb)))))))
   (aqf (aqp (i := 3) cq7.nd rfl (Or.inl rfl) (aqN (aqJ (K := K)) (pv 3) (aqL (aqa aqg (aqa aqg (aqa aqg (aqa aqg (aqa aqg (aqa aqg (aqa aqg (aqa aqg (aqa aqg (aqa aqg (aqa aqg (aqa aqg (aqa aqg (aqa aqg aqb)))))))))))))))))
   (aqf (aqC (aqi dq2 (aqN kqK (pv 2) aqj) aqj (nomark _))
    (aqe (aql (aqN kqD (aqK (aqn (K := K) rfl) (aqL (aqa aqg (aqa aqg (aqa aqg (aqa aqg aqb))))) (aqN kqK (aqN oqq (pv 2) aqj) aqj) (fun _ _ => rfl)) aqj))) aqm)
   (aqe (aql (aqK (aqn (K := K) rfl) (pv 3) (aqN kqK (aqN oqq (pv 2) aqj) aqj) (fun _ _ => rfl)))))))))), ?_⟩
  walk_at "rd"
  have c48 : CMul c 48271 := .inr ⟨by decide, by decide⟩
  refine ⟨c48, by decide, ?_⟩
  have hn0 : 0 ≤ c * 48271 % 2147483647 := Int.emod_nonneg _ (by decide)
  generalize c * 48271 % 2147483647 = n at hn0
  refine ite2 (fun _ => ⟨by decide, ?_⟩) (fun _ => ?_)
  ·have h1 := Int.emod_nonneg n (show (94 : Int) ≠ 0 by decide)
   have h2 := Int.emod_lt_of_pos n (show (0 : Int) < 94 by decide)
   obtain ⟨j, hj⟩ := Int.eq_ofNat_of_zero_le h1
   have hsl : SG.length = 94 := by decide +kernel
   have hjl : j < SG.length := by omega
   refine ⟨SG[j], aqz (by omega), by rw [hj]; exact aqu (List.getElem?_eq_getElem hjl), ?_⟩
   have all : ∀ x ∈ SG, x < 128 := by decide +kernel
   exact k [SG[j]] H (Same.refl _) (show 1 ≤ 180 by decide) (fun y hy => by rw [List.mem_singleton.mp hy]; exact all _ (List.getElem_mem _))
  ·refine ⟨by decide, fun p1 H1 n1 s1 hp1 => ⟨by decide, fun p2 H2 n2 s2 hp2 => ?_⟩⟩
   refine .inl ⟨_, _, s2 _ _ hp1, hp2, by decide, fun p3 H3 n3 s3 hp3 => ⟨by decide, fun p4 H4 n4 s4 hp4 => ?_⟩⟩
   refine .inl ⟨_, _, s4 _ _ hp3, hp4, by decide, fun p5 H5 n5 s5 hp5 => ⟨by decide, ?_⟩⟩
   have s05 := (((s1.trans s2).trans s3).trans s4).trans s5
   have ok : ∀ (cs : List Str), (cs.all fun s => decide (s.cps.toList.length ≤ 6) && s.cps.toList.all fun c => decide (c < 128)) = true → ∀ s ∈ cs, s.cps.toList.length ≤ 6 ∧ ∀ c ∈ s.cps.toList, c < 128 := fun cs h s hs => by
    have := List.all_eq_true.mp h s hs
    simp only [Bool.and_eq_true, decide_eq_true_eq, List.all_eq_true] at this
    exact this
   refine ite2 (fun _ => ?_) (fun _ => ?_)
   ·refine ⟨by decide, fun p6 H6 n6 s6 hp6 => ⟨⟨by decide, by decide⟩, by decide, ?_⟩⟩
    obtain ⟨s, hs, es⟩ := pick (cs := [Str.ofString "a", Str.ofString "~20", Str.ofString "1", Str.ofString "a/"]) (i := n / 64 % 4) (by omega) (by show n / 64 % 4 < 4; omega)
    have hsl : s.cps.toList.length ≤ 3 ∧ ∀ c ∈ s.cps.toList, c < 128 := by
     have all : ∀ s ∈ [Str.ofString "a", Str.ofString "~20", Str.ofString "1", Str.ofString "a/"], s.cps.toList.length ≤ 3 ∧ ∀ c ∈ s.cps.toList, c < 128 := by decide +kernel
     exact all s hs
    refine ⟨_, _, .inl (.of hp6), es, ?_⟩
    walk_at "rd"
    have mo : MulOk s 60 := by
     refine ⟨rfl, fun h1 _ => ?_, fun _ _ => notTooLong ?_⟩
     ·have : (s.length : Int) ≤ 3 := by have := hsl.1; show ((s.cps.toList.length : Nat) : Int) ≤ 3; omega
      have e : (2 ^ 63 - 1 : Int) / 60 = 153722867280912930 := by decide
      rw [e]
      omega
     ·have : s.length ≤ 3 := hsl.1
      have e : (60 : Int).toNat = 60 := rfl
      rw [e]
      exact Nat.le_trans (Nat.mul_le_mul_right _ this) (by decide)
    refine ⟨mo, ?_⟩
    have fin : ∀ u : Str, (u.cps.toList.length ≤ 180 ∧ ∀ c ∈ u.cps.toList, c < 128) → Q (.str u) H6 := fun u h => k u.cps.toList H6 (s05.trans s6) h.1 h.2
    simp only [List.mem_cons, List.not_mem_nil, or_false] at hs
    rcases hs with rfl | rfl | rfl | rfl
    ·exact fin _ (by decide +kernel)
    ·exact fin _ (by decide +kernel)
    ·exact fin _ (by decide +kernel)
    ·exact fin _ (by decide +kernel)
   ·refine ⟨⟨by decide, by decide⟩, by decide, ?_⟩
    obtain ⟨s, hs, es⟩ := pick (cs := [Str.ofString "/", Str.ofString "/", Str.ofString "?", Str.ofString "#", Str.ofString ":", Str.ofString "&", Str.ofString "=", Str.ofString "//", Str.ofString "~2e", Str.ofString "~7E", Str.ofString "~2", Str.ofString "~8", Str.ofString "a", Str.ofString "b1", Str.ofString "..", Str.ofString "."] ++ [Str.ofString "x:", Str.ofString "h:80", Str.ofString "8", Str.ofString "0"] ++ [Str.ofString "+", Str.ofString "!", Str.ofString "@", Str.ofString "@", Str.ofString "a=b", Str.ofString "&c", Str.ofString "/d", Str.ofString "/~2f", Str.ofString "_", Str.ofString "-", Str.ofString "Z9", Str.ofString "~20", Str.ofString "~25", Str.ofString "6553"]) (i := n / 64 % 34) (by omega) (by show n / 64 % 34 < 34; omega)
    have hsl := ok _ (by decide +kernel) s hs
    refine L2.kqz.mpr ⟨_, _, .inl (.of hp5), es, ?_⟩
    exact k s.cps.toList H5 s05 (by omega) hsl.2
theorem jqL (g : G K mg) : FnOk P w K mg base CX0 3 g.fqY g.fqa ["thing"] nqd := by
 refine g.gql.ok nqY (fun vs H Q E h => ?_) (fun cdv A outer s H vs Q E hr h => ?_)
 ·obtain ⟨d, v, rfl, _⟩ := h; rfl
 ·obtain ⟨d, v, rfl, hv, hs, k⟩ := h
  refine ⟨_, (aqf (aqC (PW.pt (hqy (dqd (aqQ (aqh (jqd g) (hr.mono (by decide)) rfl g.iqF g.gqW.kp g.iqA .nil pass0 (aqa (pv 0) aqb)))) (gq7 (aqi kqO (aqA (aqT (K := K) rfl) rfl g.gqo PySem.boot_len (aqa (pv 0) aqb)) (aqy (v := jqQ) rfl g.gqr ⟨_, rfl⟩) (nomark _)))))
    (aqe (aql hqz)) aqm)
   (aqe (aql (cqr (aqh (jqm g) (hr.mono (by decide)) rfl g.iqM g.gqA.kp g.iqc .nil pass0 (aqa (dqi (eqM (K := K) rfl) (pv 0) kqn (bqU aqj)) (aqa (aqy (v := qq9) rfl g.nqC ⟨_, rfl⟩) aqb))) (bqG (aqh (jqm g) (hr.mono (by decide)) rfl g.iqM g.gqA.kp g.iqc .nil pass0 (aqa (pv 0) (aqa (aqy (v := gqU) rfl g.dqT ⟨_, rfl⟩) aqb)))))))), ?_⟩
  walk_at "rd"
  refine ⟨d, v, rfl, hv, hs, fun H1 s1 => ?_⟩
  walk_at "rd"
  have k1 := k H1 s1
  cases hv with
  | str x =>
   have hx := iqf hs
   refine ite2 (fun h => ?_) (fun h => ?_)
   ·rw [show schD (.str x) = false by simp only [schD]; rw [show x.cps.toList.all isSg = false from h]; rfl] at k1
    exact k1
   have h : x.cps.toList.all isSg = true := (Bool.not_eq_false _).mp h
   walk_at "rd"
   refine ⟨aqz hx, ite2 (fun h2 => ?_) (fun h2 => ?_)⟩
   ·rw [show schD (.str x) = false by simp only [schD, h, Bool.true_and]; rw [decide_eq_false (by omega)]; rfl] at k1
    exact k1
   have e : x = ⟨x.cps.toList.toArray⟩ := by simp
   refine ⟨aqz hx, ?_⟩
   have e1 : Txt.slice x none (some 1) = ⟨(x.cps.toList.take 1).toArray⟩ := by
    conv => lhs; rw [e]
    exact mqI x.cps.toList 1
   rw [e1]
   refine ⟨⟨(x.cps.toList.take 1).toArray⟩, _, rfl, by rw [dq0, List.length_take]; omega, fun H2 s2 => ?_⟩
   have hsg := List.all_eq_true.mp h
   have f1 : ((⟨(x.cps.toList.take 1).toArray⟩ : Str).cps.toList.all fun c => decide (c ∈ (Str.ofString "abcdefghijklmnopqrstuvwxyzABCDEFGHIJKLMNOPQRSTUVWXYZ").cps.toList)) = (x.cps.toList.take 1).all isLet := by
    rw [qqr, Bool.eq_iff_iff, List.all_eq_true, List.all_eq_true]
    refine forall_congr' fun c => forall_congr' fun hc => ?_
    rw [vqv c (by have := eqN (hsg c (List.mem_of_mem_take hc)); omega)]
   have f2 : (x.cps.toList.all fun c => decide (c ∈ (Str.ofString "abcdefghijklmnopqrstuvwxyzABCDEFGHIJKLMNOPQRSTUVWXYZ0123456789").cps.toList)) = x.cps.toList.all isAln := by
    rw [Bool.eq_iff_iff, List.all_eq_true, List.all_eq_true]
    refine forall_congr' fun c => forall_congr' fun hc => ?_
    rw [wqs c (by have := eqN (hsg c hc); omega)]
   rw [f1]
   walk_at "rd"
   refine ite2 (fun h3 => ?_) (fun h3 => ?_)
   ·refine ⟨x, _, rfl, hx, fun H3 s3 => ?_⟩
    have k3 := k H3 (s1.trans (s2.trans s3))
    rw [f2]
    simp only [schD, h, h3, Bool.true_and, decide_eq_true (show x.length ≤ 8 by omega)] at k3
    exact k3
   ·have k3 := k H2 (s1.trans s2)
    simp only [schD, h, (Bool.not_eq_true _).mp h3, Bool.false_and, Bool.and_false, Bool.true_and] at k3
    exact k3
  | _ => exact k1
theorem dqv (g : G K mg) : FnOk P w K mg base CX0 3 g.cqD g.bq6 ["thing"] jqf := by
 refine g.bqF.ok iq9 (fun vs H Q E h => ?_) (fun cdv A outer s H vs Q E hr h => ?_)
 ·obtain ⟨d, v, rfl, _⟩ := h; rfl
 ·obtain ⟨d, v, rfl, hv, hs, k⟩ := h
  refine ⟨_, (aqe (aql (cqr (aqh (jqd g) (hr.mono (by decide)) rfl g.iqF g.gqW.kp g.iqA .nil pass0 (aqa (pv 0) aqb)) (bqG (aq1 kqO (aqA (aqT (K := K) rfl) rfl g.gqo PySem.boot_len (aqa (pv 0) aqb)) aqj (nomark _)))))), ?_⟩
  walk_at "rd"
  refine ⟨d, v, rfl, hv, hs, fun H1 s1 => ?_⟩
  walk_at "rd"
  have k1 := k H1 s1
  cases hv with
  | str x =>
   refine ite2 (fun h => ?_) (fun h => ?_)
   ·walk_at "rd"
    refine ⟨aqz (iqf hs), ?_⟩
    have e : ftx (.str x) = decide ((0 : Int) < (x.length : Int)) := by
     simp only [ftx]
     rw [show x.cps.toList.all isSg = true from h, Bool.true_and]
     exact decide_eq_decide.mpr (by omega)
    rw [e] at k1
    exact k1
   ·rw [show ftx (.str x) = false by simp only [ftx]; rw [show x.cps.toList.all isSg = false from (Bool.not_eq_true _).mp h, Bool.false_and]] at k1
    exact k1
  | _ => exact k1
theorem fqm (g : G K mg) : FnOk P w K mg base CX0 3 g.cqf g.bqO ["thing"] iqS := by
 refine g.cqk.ok iqN (fun vs H Q E h => ?_) (fun cdv A outer s H vs Q E hr h => ?_)
 ·obtain ⟨d, v, rfl, _⟩ := h; rfl
 ·obtain ⟨d, v, rfl, hv, hs, k⟩ := h
  refine ⟨_, (aqe (aql (kq9 (aq1 gqk (pv 0) bqo (nomark _)) (bqG (aqh (jqd g) (hr.mono (by decide)) rfl g.iqF g.gqW.kp g.iqA .nil pass0 (aqa (pv 0) aqb)))))), ?_⟩
  cases hv with
  | non => walk_at "rd"; exact k H (Same.refl _)
  | bl b => walk_at "rd"; exact ⟨_, _, rfl, .bl b, hs, k⟩
  | int b => walk_at "rd"; exact ⟨_, _, rfl, .int b, hs, k⟩
  | str b => walk_at "rd"; exact ⟨_, _, rfl, .str b, hs, k⟩
  | lst hp r => walk_at "rd"; exact ⟨_, _, rfl, .lst hp r, hs, k⟩
  | tup hp r => walk_at "rd"; exact ⟨_, _, rfl, .tup hp r, hs, k⟩
theorem lqc (g : G K mg) : FnOk P w K mg base (CXN P w base) 3 g.fqq g.eqd ["cursor"] (lqe K g.aqs g.aqx) := by
 refine g.gqD.okn fqV (fun vs H Q E h => ?_) (fun cdv A outer s H vs Q E hr h => ?_)
 ·obtain ⟨p, t, i, rfl, _⟩ := h; rfl
 ·obtain ⟨p, t, i, rfl, hcur, hi, hl, h128, k1, k2⟩ := h
  refine ⟨_, (aqf (aqC (dqd (aqQ (cq1 (pv 0) g.aqk g.aqD (aqH g) (hr.mono (by decide)) g.aqF .nil pass0 (aqa aqg aqb))))
    (aqe (aql bqo)) aqm)
   (aqf (aqC (dqd (aqQ (cq1 (pv 0) g.aqk g.cqt (dqM g) (hr.mono (by decide)) g.dqh .nil pass0 (aqa (aqy (v := kqW) rfl g.kqg ⟨_, rfl⟩) aqb))))
    (aqe (fqR eqH rfl g.bq0 g.cqF (aqM g) (hr.mono (by decide)) g.aqI rfl pass0 rfl (aqa (cqq (pv 0) rfl) aqb))) aqm)
   (aqf (aqp (i := 1) fqV.nd rfl (Or.inl rfl) (dqb jq8 rfl g.mqN jqx (aqa (gqm (pv 0) g.aqk g.bqM (cqo g) (hr.mono (by decide)) g.cqc .nil pass0) aqb)))
   (aqf (jq4 PassesOwn.leaving (PW.pt (dqV (aqi kqO (pv 1) aqj (nomark _)) (dqV (aqQ (cq1 (pv 0) g.aqk g.cqt (dqM g) (hr.mono (by decide)) g.dqh .nil pass0 (aqa (aqy (v := kqW) rfl g.kqg ⟨_, rfl⟩) aqb))) (cqG (aqi qqp (aqh (jqz g) (hr.mono (by decide)) rfl g.hqY g.fq8.kp g.hq9 .nil pass0 (aqa (pv 1) (aqa (pv 0) aqb))) (aqy (v := kqH) rfl g.hqQ ⟨_, rfl⟩) (nomark _))))))
   (aqf (aqp (i := 1) fqV.nd rfl (Or.inl rfl) (aqh (jqz g) (hr.mono (by decide)) rfl g.hqY g.fq8.kp g.hq9 .nil pass0 (aqa (pv 1) (aqa (pv 0) aqb))))
   (aqe (gqc (gqm (pv 0) g.aqk g.bqM (cqo g) (hr.mono (by decide)) g.cqc .nil pass0)))))
   (aqe (aql (pv 1))))))), ?_⟩
  have eF : kqW = .str ⟨fgS.toArray⟩ := by
   show V.str (Str.ofString _) = _
   unfold fgS; simp
  have e1 : Str.ofString ":" = ⟨[58].toArray⟩ := by decide +kernel
  rw [eF, e1]
  walk_at "rd"
  refine aqS hcur ⟨p, t, [58], i, rfl, hcur, hi, hl, fun hp H1 s1 c1 => ⟨_, rfl, ?_⟩, fun hp => ⟨_, rfl, ?_⟩⟩
  ·rw [if_neg (by decide)]
   have h1 := take1.mp hp
   have hi1 : i + 1 ≤ t.length := by
    have := congrArg List.length hp
    rw [List.length_take, List.length_drop] at this
    simp only [List.length_singleton] at this
    omega
   have em : dooM (t.drop i) = (match t.drop (i + 1) with | [] => (.error 1 : Rs (Option Int)) | c :: r' => if 48 ≤ c ∧ c ≤ 57 then .ok (some ((dooG r' (c - 48)).1 : Int), 2 + (dooG r' (c - 48)).2) else .error 1) := by
    unfold dooM
    rw [if_pos h1, List.drop_drop]
    all_goals (cases t.drop (i + 1) <;> rfl)
   refine aqS c1 ⟨p, t, fgS, i + 1, rfl, c1, hi1, hl, _, rfl, ?_⟩
   cases hd : t.drop (i + 1) with
   | nil =>
    have hn : t[i + 1]? = none := by rw [← List.head?_drop, hd]; rfl
    rw [fqJ hn, if_pos rfl]
    exact aqW c1 g.aqk g.aqq (eqh fun d H' sm hx => k2 1 (by rw [em, hd]) d H' (s1.trans sm.but) hx)
   | cons c r =>
    obtain ⟨hx, hxl⟩ := kqm hd
    rw [fqP hx]
    by_cases hf : 48 ≤ c ∧ c ≤ 57
    ·rw [decide_eq_true (pqe.mpr hf), if_neg (by decide)]
     rw [hd] at em
     have em : dooM (t.drop i) = .ok (some ((dooG r (c - 48)).1 : Int), 2 + (dooG r (c - 48)).2) := by rw [em]; exact if_pos hf
     refine aqS c1 ⟨p, t, i + 1, c, rfl, c1, hx, hl, fun H2 s2 c2 => ⟨_, _, rfl, by show 1 ≤ 640; decide, oqi c (by omega) hf.1, ?_⟩⟩
     refine lq2 (fun m σ H' => ∃ (n k : Nat), m = t.length - (i + 2 + k) ∧ i + 2 + k ≤ t.length ∧ σ = [some (.ref p), some (.int (n : Nat))] ∧ n ≤ 65535 ∧ SameBut p H H' ∧ Cur H' g.aqs p t (i + 2 + k) ∧ (dooG r (c - 48)).1 = (dooG (t.drop (i + 2 + k)) n).1 ∧ (dooG r (c - 48)).2 = k + (dooG (t.drop (i + 2 + k)) n).2) (t.length - (i + 2)) ⟨c - 48, 0, rfl, by omega, rfl, by omega, s1.trans s2, c2, ?_, ?_⟩ ?_
     ·rw [show t.drop (i + 2 + 0) = r by rw [Nat.add_zero, show i + 2 = i + 1 + 1 by omega, ← List.drop_drop, hd]; rfl]
     ·rw [show t.drop (i + 2 + 0) = r by rw [Nat.add_zero, show i + 2 = i + 1 + 1 by omega, ← List.drop_drop, hd]; rfl, Nat.zero_add]
     rintro m σ H3 ⟨n, k, rfl, hk, rfl, hn, s3, c3, g1, g2⟩
     have fin : dooG (t.drop (i + 2 + k)) n = (n, 0) → Q (.int (n : Nat)) H3 := fun e => by
      rw [e] at g1 g2
      have := k1 (some ((dooG r (c - 48)).1 : Int)) _ em H3 s3 (by rw [g2, show i + (2 + (k + 0)) = i + 2 + k by omega]; exact c3)
      rw [g1] at this
      exact this
     walk_at "rd"
     by_cases h0 : n = 0
     ·rw [if_neg (by omega)]
      refine fin ?_
      cases t.drop (i + 2 + k) with
      | nil => rfl
      | cons d r => unfold dooG; rw [if_neg (by omega)]
     rw [if_pos (by omega)]
     refine aqS c3 ⟨p, t, fgS, i + 2 + k, rfl, c3, hk, hl, _, rfl, ?_⟩
     cases hd3 : t.drop (i + 2 + k) with
     | nil =>
      have hn3 : t[i + 2 + k]? = none := by rw [← List.head?_drop, hd3]; rfl
      rw [fqJ hn3, if_neg (by decide)]
      exact fin (by rw [hd3]; rfl)
     | cons d r3 =>
      obtain ⟨hx3, hxl3⟩ := kqm hd3
      rw [fqP hx3]
      by_cases hf3 : 48 ≤ d ∧ d ≤ 57
      ·rw [decide_eq_true (pqe.mpr hf3), if_pos rfl]
       refine ⟨p, t, _, d, n, rfl, c3, hl, hx3, hf3.1, hf3.2, by omega, _, _, rfl, rfl, _, rfl, ?_⟩
       by_cases hle : n * 10 + (d - 48) ≤ 65535
       ·rw [decide_eq_true (by omega), if_pos rfl]
        refine ⟨_, fun _ _ h => h, p, t, _, d, n, rfl, c3, hl, hx3, hf3.1, hf3.2, by omega, aqS c3 ⟨p, t, _, d, rfl, c3, hx3, hl, fun H4 s4 c4 => ⟨t.length - (i + 2 + (k + 1)), by omega, n * 10 + (d - 48), k + 1, rfl, by omega, rfl, hle, s3.trans s4, c4, ?_, ?_⟩⟩⟩
        ·have hd4 : t.drop (i + 2 + (k + 1)) = r3 := by rw [← Nat.add_assoc, ← List.drop_drop, hd3]; rfl
         rw [g1, hd3, hd4]
         conv => lhs; unfold dooG
         rw [if_pos ⟨by omega, hf3.1, hf3.2, hle⟩]
        ·have hd4 : t.drop (i + 2 + (k + 1)) = r3 := by rw [← Nat.add_assoc, ← List.drop_drop, hd3]; rfl
         rw [g2, hd3, hd4]
         conv => lhs; unfold dooG
         rw [if_pos ⟨by omega, hf3.1, hf3.2, hle⟩]
         show k + (_ + 1) = _
         omega
       ·rw [decide_eq_false (by omega), if_neg (by decide)]
        exact fin (by rw [hd3]; unfold dooG; rw [if_neg (fun z => hle z.2.2.2)])
      ·rw [decide_eq_false (fun z => hf3 (pqe.mp z)), if_neg (by decide)]
       exact fin (by rw [hd3]; unfold dooG; rw [if_neg (fun z => hf3 ⟨z.2.1, z.2.2.1⟩)])
    ·rw [decide_eq_false (fun z => hf (pqe.mp z)), if_pos rfl]
     exact aqW c1 g.aqk g.aqq (eqh fun d H' sm hx => k2 1 (by rw [em, hd]; exact if_neg hf) d H' (s1.trans sm.but) hx)
  ·rw [if_pos rfl]
   exact k1 none 0 (by unfold dooM; rw [if_neg (fun z => hp (take1.mpr z))]) H (SameBut.refl _ _) hcur
theorem kq3 (g : G K mg) : FnOk P w K mg base (CXN P w base) 3 g.fqc g.eqf ["cursor"] (lqi K g.aqs g.aqx) := by
 refine g.gqN.okn gqh (fun vs H Q E h => ?_) (fun cdv A outer s H vs Q E hr h => ?_)
 ·obtain ⟨p, t, i, rfl, _⟩ := h; rfl
 ·obtain ⟨p, t, i, rfl, hcur, hi, hl, h128, k1, k2⟩ := h
  refine ⟨_, (aqf (aqC (dqd (aqQ (cq1 (pv 0) g.aqk g.cqt (dqM g) (hr.mono (by decide)) g.dqh .nil pass0 (aqa (aqy (v := gqS) rfl g.gq3 ⟨_, rfl⟩) aqb))))
    (aqe (fqR eqH rfl g.bq0 g.cqF (aqM g) (hr.mono (by decide)) g.aqI rfl pass0 rfl (aqa (cqq (pv 0) rfl) aqb))) aqm)
   (aqf (aqp (i := 1) gqh.nd rfl (Or.inl rfl) (aqN (dqz (K := K) rfl) (gqm (pv 0) g.aqk g.bqM (cqo g) (hr.mono (by decide)) g.cqc .nil pass0) (dqi (eqM (K := K) rfl) (cqq (pv 0) rfl) (bqU (cqq (pv 0) rfl)) (bqU (aqN (dqz (K := K) rfl) (cqq (pv 0) rfl) aqj)))))
   (aqf (aqp (i := 2) gqh.nd rfl (Or.inl rfl) (aqh (pqW g) (hr.mono (by decide)) rfl g.mqZ g.kqy.kp g.nqN .nil pass0 (aqa (pv 1) aqb)))
   (aqf (aqC (aqi gqk (pv 2) bqo (nomark _))
    (aqe (fqR eqH rfl g.bq0 g.cqF (aqM g) (hr.mono (by decide)) g.aqI rfl pass0 rfl (aqa (cqq (pv 0) rfl) aqb))) aqm)
   (aqf (gqc (gqm (pv 0) g.aqk g.bqM (cqo g) (hr.mono (by decide)) g.cqc .nil pass0))
   (aqe (aql (pv 2)))))))), ?_⟩
  have eF : gqS = .str ⟨fsF.toArray⟩ := by
   show V.str (Str.ofString "234567") = _
   rw [show Str.ofString "234567" = ⟨fsF.toArray⟩ by decide +kernel]
  walk_at "rd"
  rw [eF]
  refine aqS hcur ⟨p, t, _, i, rfl, hcur, hi, hl, _, rfl, ?_⟩
  cases hd : t.drop i with
  | nil =>
   have hn : t[i]? = none := by rw [← List.head?_drop, hd]; rfl
   rw [fqJ hn, if_pos rfl]
   exact aqW hcur g.aqk g.aqq (eqh fun d H' sm hx => k2 0 (by rw [hd]; rfl) d H' sm.but hx)
  | cons a r =>
   obtain ⟨hia, hil⟩ := kqm hd
   rw [fqP hia]
   have ha := h128 a (List.mem_of_getElem? hia)
   by_cases hf : a ∈ fsF
   ·rw [decide_eq_true hf, if_neg (by decide)]
    refine aqS hcur ⟨p, t, i, a, rfl, hcur, hia, hl, fun H1 s1 c1 => ?_⟩
    refine gqp c1 g.aqk g.aq6 (aqW c1 g.aqk g.aqq ⟨_, rfl, aqW c1 g.aqk g.aqq ?_⟩)
    walk_at "rd"
    rw [show ((i + 1 : Nat) : Int) + 1 = ((i + 2 : Nat) : Int) by omega, gq1, show i + 2 - (i + 1) = 1 by omega, ← List.drop_drop, hd]
    cases r with
    | nil =>
     rw [show List.take 1 (List.drop 1 [a]) = [] from rfl]
     walk_at "rd"
     refine ⟨aqz hl, by decide, by decide, fun d hd' => ?_, ?_⟩
     ·simp only [List.mem_cons, List.not_mem_nil, or_false] at hd'
      rw [hd']; exact ha
     rw [show signOfL [a] = V.non from rfl, if_pos rfl]
     exact aqW c1 g.aqk g.aqq (eqh fun d H' sm hx => k2 1 (by rw [hd]; show (if a ∈ fsF then _ else _) = _; rw [if_pos hf]) d H' (s1.trans sm.but) hx)
    | cons b r =>
     rw [show List.take 1 (List.drop 1 (a :: b :: r)) = [b] from rfl]
     have hd2 : t.drop (i + 1) = b :: r := by rw [← List.drop_drop, hd]; rfl
     obtain ⟨hib, _⟩ := kqm hd2
     have hb := h128 b (List.mem_of_getElem? hib)
     walk_at "rd"
     refine ⟨aqz hl, by decide, by decide, fun d hd' => ?_, ?_⟩
     ·simp only [List.mem_cons, List.not_mem_nil, or_false] at hd'
      rcases hd' with rfl | rfl
      ·exact ha
      ·exact hb
     rw [show signOfL [a, b] = signOf a b from rfl, rqE]
     cases hs : sgO a b with
     | none =>
      rw [if_pos (show oV none = V.non from rfl)]
      exact aqW c1 g.aqk g.aqq (eqh fun d H' sm hx => k2 1 (by rw [hd]; show (if a ∈ fsF then _ else _) = _; rw [if_pos hf, hs]) d H' (s1.trans sm.but) hx)
     | some c =>
      rw [if_neg (by intro z; cases z)]
      refine aqS c1 ⟨p, t, i + 1, b, rfl, c1, hib, hl, fun H2 s2 c2 => k1 c 2 ?_ H2 (s1.trans s2) c2⟩
      rw [hd]
      show (if a ∈ fsF then _ else _) = _
      rw [if_pos hf, hs]
   ·rw [decide_eq_false hf, if_pos rfl]
    refine aqW hcur g.aqk g.aqq (eqh fun d H' sm hx => k2 0 ?_ d H' sm.but hx)
    rw [hd]
    cases r with
    | nil => show (if a ∈ fsF then _ else _) = _; rw [if_neg hf]
    | cons b r => show (if a ∈ fsF then _ else _) = _; rw [if_neg hf]
theorem nqg (g : G K mg) : FnOk P w K mg base CX0 3 g.gqi g.fqf ["_law_state", "_law_sign"] (mq7 K) := by
 refine g.hq4.ok bqw (fun vs H Q E h => ?_) (fun cdv A outer s H vs Q E hr h => ?_)
 ·obtain ⟨a, v, c, rfl, _⟩ := h; rfl
 ·obtain ⟨a, v, c, rfl, ha, hv, hc, k⟩ := h
  refine ⟨_, (aqf (aqp (i := 2) bqw.nd rfl (Or.inl rfl) (aqK (aqn (K := K) rfl) (pv 0) aqj (fun _ _ => rfl)))
   (aqE (aqp (i := 3) bqw.nd rfl (Or.inl rfl) (cqr (hqX (K := K) rfl PySem.F.plainAttrs_str PySem.F.slot_str_isalnum PySem.F.type_str_isalnum mqu (pv 1)) (bqG (aq1 gqq (pv 1) (iqr (dqg g) (hr.mono (by decide)) rfl g.cqT g.bqS.kp g.cqY .nil pass0) (by with_unfolding_all rfl)))))
   (aqf (aqp (i := 4) bqw.nd rfl (Or.inl rfl) (aqL aqb))
   (aqE (aqC (aqi dq2 (pv 2) aqg (nomark _))
    (aqf (aqp (i := 4) bqw.nd rfl (Or.inl rfl) (aqh (bql g) (hr.mono (by decide)) rfl g.bqj g.aq8.kp g.bqn .nil pass0 (aqa (aqo (aqa aqg aqb)) (aqa (pv 1) (aqa aqg aqb)))))
   (aqe (aqC (PW.pt (dqV (aqQ (pv 3)) (cqG (dqd (aqQ (hqX (K := K) rfl PySem.F.plainAttrs_str PySem.F.slot_str_isdigit PySem.F.type_str_isdigit oqZ (pv 1)))))))
    (aqe (gqc (fqi (K := K) rfl PySem.F.plainAttrs_list PySem.F.slot_list_append PySem.F.type_list_append dqW (pv 4) (aqa (aqo (aqa aqg (aqa aqj aqb))) aqb)))) aqm))) aqm)
   (aqE (aqC (aqi dq2 (pv 2) aqg (nomark _))
    (aqE (aqC (PW.pt (dqV (aqQ (pv 3)) (cqG (aqi mqB (aqK (aqn (K := K) rfl) (pv 0) aqj (fun _ _ => rfl)) aqj (nomark _)))))
    (aqe (gqc (fqi (K := K) rfl PySem.F.plainAttrs_list PySem.F.slot_list_append PySem.F.type_list_append dqW (pv 4) (aqa (aqo (aqa aqg (aqa (aqN (aqJ (K := K)) (aqK (aqn (K := K) rfl) (pv 0) aqj (fun _ _ => rfl)) aqj) aqb))) aqb)))) aqm)
   (aqe (aql (aqN (aqJ (K := K)) (pv 4) (aqh (aqZ g) (hr.mono (by decide)) rfl g.aq3 g.aqU.kp g.aq2 .nil pass0 (aqa (pv 1) (aqa (aqL (aqa (aqo (aqa aqg (aqa (aqo (aqa aqg aqb)) aqb))) aqb)) aqb))))))) aqm)
   (aqE (aqC (aqi (dqo (K := K) rfl) (pv 2) (aqo (aqa aqg (aqa aqg aqb))) (by with_unfolding_all rfl))
    (aqe (aqp (i := 4) bqw.nd rfl (Or.inl rfl) (aqN (aqJ (K := K)) (pv 4) (aqh (aqZ g) (hr.mono (by decide)) rfl g.aq3 g.aqU.kp g.aq2 .nil pass0 (aqa (pv 1) (aqa (aqL (aqa (aqo (aqa aqg (aqa (aqo (aqa aqg (aqa hqz aqb))) aqb))) aqb)) aqb)))))) aqm)
   (aqE (aqC (aqi dq2 (pv 2) aqg (nomark _))
    (aqf (aqp (i := 4) bqw.nd rfl (Or.inl rfl) (aqh (bql g) (hr.mono (by decide)) rfl g.bqj g.aq8.kp g.bqn .nil pass0 (aqa (aqo (aqa aqg aqb)) (aqa (pv 1) (aqa aqg aqb)))))
   (aqe (aqC (aqQ (aqK (aqn (K := K) rfl) (pv 0) aqj (fun _ _ => rfl)))
    (aqe (aqp (i := 4) bqw.nd rfl (Or.inl rfl) (aqN (aqJ (K := K)) (pv 4) (aqh (aqZ g) (hr.mono (by decide)) rfl g.aq3 g.aqU.kp g.aq2 .nil pass0 (aqa (pv 1) (aqa (aqL (aqa (aqo (aqa aqg (aqa (aqo (aqa aqg aqb)) aqb))) aqb)) aqb)))))) aqm))) aqm)
   (aqe (aql (aqN (aqJ (K := K)) (pv 4) (aqh (aqZ g) (hr.mono (by decide)) rfl g.aq3 g.aqU.kp g.aq2 .nil pass0 (aqa (pv 1) (aqa (aqL (aqa (aqo (aqa aqg (aqa (aqo (aqa aqg aqb)) aqb))) (aqa (aqo (aqa aqg (aqa (aqo (aqa aqg aqb)) aqb))) aqb))) aqb))))))))))))), ?_⟩
  obtain ⟨q, xs, rfl, hq, hxs⟩ := lqU hv
  walk_at "rd"
  have lw : (Txt.isalnum ⟨#[c]⟩ && decide (c ∈ SG)) = isAln c := vqf c hc
  have eS : Str.ofString "!$'()*,;@&=+" = ⟨frS.toArray⟩ := by decide +kernel
  refine ⟨_, _, .inr (.of hq), aqu (j := 0) rfl, fun σ H1 => H = H1 ∧ σ = [some (.ref q), some (.str ⟨#[c]⟩), some (.str (auW a)), some (.bl (isAln c)), none], ?_, ?_⟩
  ·by_cases h1 : Txt.isalnum ⟨#[c]⟩ = true
   ·rw [if_pos h1]
    rw [h1, Bool.true_and] at lw
    exact ⟨rfl, by rw [lw]⟩
   ·rw [if_neg h1]
    rw [Bool.eq_false_iff.mpr h1, Bool.false_and] at lw
    exact ⟨rfl, by rw [lw]⟩
  rintro σ H1 ⟨rfl, rfl⟩
  walk_at "rd"
  refine ⟨by decide, fun p1 H2 n1 s1 hp1 => ?_⟩
  have dl := qqB c hc
  obtain ⟨S3, hS3⟩ : ∃ S : List Au, S = if a = .start then auS .step c frS ++ (if isAln c = true ∧ isDg c = false then [.scheme 1] else []) else [] := ⟨_, rfl⟩
  have hS3l : S3.length ≤ 2 := by
   rw [hS3]
   split
   ·have := fqA (g := .step) (c := c) (fr := frS)
    rw [List.length_append]
    split <;> simp only [List.length_cons, List.length_nil] <;> omega
   ·exact Nat.zero_le _
  refine ⟨fun σ H' => Same H H' ∧ ∃ pf, σ = [some (.ref q), some (.str ⟨#[c]⟩), some (.str (auW a)), some (.bl (isAln c)), some (.ref pf)] ∧ H pf = none ∧ LsA H' pf S3, ?_, ?_⟩
  ·by_cases ha0 : a = .start
   ·subst ha0
    rw [if_pos rfl] at hS3
    rw [if_pos (show auW .start = Str.ofString "start" from rfl), eS]
    refine ⟨by decide, fun p2 H3 n2 s2 hp2 => ?_⟩
    refine ⟨.step, .ref p2, c, frS, rfl, .tup hp2 (.cons (.str _) .nil), hc, fun p3 H4 n3 s3 hL => ?_⟩
    have n3' : H p3 = none := (s1.trans s2).free n3
    have s4 := (s1.trans s2).trans s3
    show (if isAln c = true then _ else _)
    by_cases hl : isAln c = true
    ·rw [if_pos hl]
     rw [dl]
     by_cases hd : isDg c = false
     ·rw [if_pos hd]
      rw [if_pos ⟨hl, hd⟩] at hS3
      refine ⟨L2.rqk.mpr (let ⟨us, h1, _⟩ := hL; ⟨_, .of h1⟩), by decide, fun p4 H5 n4 s5 hp4 => L2.tqi.mpr ?_⟩
      obtain ⟨xs, e1, e2, s6, L6⟩ := mqw (N := fun H' => Same H H' ∧ LsA H' p3 (auS .step c frS ++ [.scheme 1])) n3' (s4.trans s5) (hL.mono s5) (g := .scheme 1) (.tup hp4 (.cons (.str _) (.cons (.int _) .nil))) (Nat.le_trans fqA (by decide)) (fun H6 s6 L6 => ⟨s6, L6⟩)
      exact ⟨xs, e1, e2, s6, p3, rfl, n3', by rw [hS3]; exact L6⟩
     ·rw [if_neg hd]
      rw [if_neg (fun z => hd z.2), List.append_nil] at hS3
      exact ⟨s4, p3, rfl, n3', by rw [hS3]; exact hL⟩
    ·rw [if_neg hl]
     rw [if_neg (fun z => hl z.1), List.append_nil] at hS3
     exact ⟨s4, p3, rfl, n3', by rw [hS3]; exact hL⟩
   ·rw [if_neg ha0] at hS3
    have : ¬ auW a = Str.ofString "start" := by
     cases a with
     | start => exact absurd rfl ha0
     | scheme n => simp only [auW]; decide +kernel
     | colon => simp only [auW]; decide +kernel
     | slash b => simp only [auW]; decide +kernel
     | _ => exact ha.elim
    rw [if_neg this]
    exact ⟨s1, p1, rfl, n1, by rw [hS3]; exact ⟨_, hp1, .nil⟩⟩
  rintro σ H3 ⟨s3, pf, rfl, nf, hL3⟩
  have eC : Str.ofString ":" = ⟨#[58]⟩ := by decide +kernel
  have eSl : Str.ofString "/" = ⟨#[47]⟩ := by decide +kernel
  have eQ : Str.ofString "?" = ⟨#[63]⟩ := by decide +kernel
  have eH : Str.ofString "#" = ⟨#[35]⟩ := by decide +kernel
  simp only [eC, eSl, eQ, eH]
  walk_at "rd"
  refine ⟨fun σ H' => Same H H' ∧ (∀ n, a ≠ .scheme n) ∧ ∃ pf, σ = [some (.ref q), some (.str ⟨#[c]⟩), some (.str (auW a)), some (.bl (isAln c)), some (.ref pf)] ∧ H pf = none ∧ LsA H' pf S3, ?_, ?_⟩
  ·by_cases hs : ∃ n, a = .scheme n
   ·obtain ⟨n, rfl⟩ := hs
    cases hxs with
    | cons h1 r =>
    cases h1
    cases r
    rw [if_neg (by simp)] at hS3
    subst hS3
    rw [if_pos (show auW (.scheme n) = Str.ofString "scheme" from rfl)]
    refine ⟨fun σ H' => Same H H' ∧ σ = [some (.ref q), some (.str ⟨#[c]⟩), some (.str (auW (.scheme n))), some (.bl (isAln c)), some (.ref pf)] ∧ LsA H' pf (if isAln c = true ∧ n < 8 then [.scheme (n + 1)] else []), ?_, ?_⟩
    ·by_cases hl : isAln c = true
     ·rw [if_pos hl]
      refine ⟨_, _, .inr (.of (s3 _ _ hq)), aqu (j := 1) rfl, L2.tqO.mpr ⟨_, rfl, ?_⟩⟩
      by_cases h8 : n < 8
      ·rw [decide_eq_true (by omega), if_pos rfl]
       refine ⟨let ⟨us, h1, _⟩ := hL3; ⟨_, .of h1⟩, _, _, .inr (.of (s3 _ _ hq)), aqu (j := 1) rfl, L2.oqm.mpr ⟨by decide, fun p4 H4 n4 s4 hp4 => ?_⟩⟩
       have hp4 : H4 p4 = some (.tup [.str (Str.ofString "scheme"), .int ((n + 1 : Nat) : Int)]) := hp4
       obtain ⟨xs, e1, e2, s6, L6⟩ := mqw (N := fun H' => Same H H' ∧ LsA H' pf ([] ++ [.scheme (n + 1)])) nf (s3.trans s4) (hL3.mono s4) (g := .scheme (n + 1)) (.tup hp4 (.cons (.str _) (.cons (.int _) .nil))) (by decide) (fun H6 s6 L6 => ⟨s6, L6⟩)
       exact ⟨xs, e1, e2, s6, rfl, by rw [if_pos ⟨hl, h8⟩]; exact L6⟩
      ·rw [decide_eq_false (by omega), if_neg (by decide)]
       exact ⟨s3, rfl, by rw [if_neg (fun z => h8 z.2)]; exact hL3⟩
     ·rw [if_neg hl]
      exact ⟨s3, rfl, by rw [if_neg (fun z => hl z.1)]; exact hL3⟩
    rintro σ H4 ⟨s4, rfl, hL4⟩
    walk_at "rd"
    refine ⟨by decide, fun p5 H5 n5 s5 hp5 => ⟨by decide, fun p6 H6 n6 s6 hp6 => ⟨by decide, fun p7 H7 n7 s7 hp7 => ?_⟩⟩⟩
    refine ⟨c, p7, [(58, .colon)], rfl, eda1 hp7 (s7 _ _ hp6) (.tup ((s6.trans s7) _ _ hp5) (.cons (.str _) .nil)), by decide, fun q8 H8 s8 hL8 => ?_⟩
    refine dq7 (hL4.mono (((s5.trans s6).trans s7).trans s8)) hL8 (by split <;> simp) (Nat.le_trans (cqn _) (by decide)) (fun p9 H9 n9 s9 L9 => k p9 H9 (((((s4.trans s5).trans s6).trans s7).trans s8).trans s9) L9)
   ·have : ¬ auW a = Str.ofString "scheme" := by
     cases a with
     | start => simp only [auW]; decide +kernel
     | scheme n => exact absurd ⟨n, rfl⟩ hs
     | colon => simp only [auW]; decide +kernel
     | slash b => simp only [auW]; decide +kernel
     | _ => exact ha.elim
    rw [if_neg this]
    exact ⟨s3, fun n z => hs ⟨n, z⟩, pf, rfl, nf, hL3⟩
  clear hL3 nf pf
  rintro σ H4 ⟨s4, nsc, pf, rfl, nf, hL4⟩
  walk_at "rd"
  obtain ⟨S5, hS5⟩ : ∃ S : List Au, S = S3 ++ (if a = .start ∨ a = .colon then auE c [(47, .slash true)] else []) := ⟨_, rfl⟩
  have hS5l : S5.length ≤ 3 := by
   rw [hS5, List.length_append]
   have := cqn (c := c) [(47, .slash true)]
   split <;> simp only [List.length_cons, List.length_nil] at * <;> omega
  refine ⟨fun σ H' => Same H H' ∧ ∃ pf, σ = [some (.ref q), some (.str ⟨#[c]⟩), some (.str (auW a)), some (.bl (isAln c)), some (.ref pf)] ∧ H pf = none ∧ LsA H' pf S5, ?_, ?_⟩
  ·refine ⟨by decide, fun p5 H5 n5 s5 hp5 => ⟨p5, _, rfl, .inr (.of hp5), rfl, rfl, _, rfl, ?_⟩⟩
   by_cases hin : a = .start ∨ a = .colon
   ·have : inV (V.str (auW a)) [V.str (Str.ofString "start"), V.str (Str.ofString "colon")] = true := by rcases hin with rfl | rfl <;> (simp only [auW]; decide +kernel)
    rw [show (if false = true then !inV (V.str (auW a)) [V.str (Str.ofString "start"), V.str (Str.ofString "colon")] else inV (V.str (auW a)) [V.str (Str.ofString "start"), V.str (Str.ofString "colon")]) = true from this, if_pos rfl]
    rw [if_pos hin] at hS5
    refine ⟨by decide, fun p6 H6 n6 s6 hp6 => ⟨by decide, fun p7 H7 n7 s7 hp7 => ⟨by decide, fun p8 H8 n8 s8 hp8 => ?_⟩⟩⟩
    refine ⟨c, p8, [(47, .slash true)], rfl, eda1 hp8 (s8 _ _ hp7) (.tup ((s7.trans s8) _ _ hp6) (.cons (.str _) (.cons (.bl _) .nil))), by decide, fun q9 H9 s9 hL9 => ?_⟩
    have s59 := (((s5.trans s6).trans s7).trans s8).trans s9
    exact dq7 (hL4.mono s59) hL9 (by omega) (Nat.le_trans (cqn _) (by decide)) (fun p10 H10 n10 s10 L10 => ⟨(s4.trans s59).trans s10, p10, rfl, (s4.trans s59).free n10, by rw [hS5]; exact L10⟩)
   ·have : inV (V.str (auW a)) [V.str (Str.ofString "start"), V.str (Str.ofString "colon")] = false := by
     cases a with
     | start => exact absurd (.inl rfl) hin
     | scheme n => exact absurd rfl (nsc n)
     | colon => exact absurd (.inr rfl) hin
     | slash b => simp only [auW]; decide +kernel
     | _ => exact ha.elim
    rw [show (if false = true then !inV (V.str (auW a)) [V.str (Str.ofString "start"), V.str (Str.ofString "colon")] else inV (V.str (auW a)) [V.str (Str.ofString "start"), V.str (Str.ofString "colon")]) = false from this, if_neg (by decide)]
    rw [if_neg hin, List.append_nil] at hS5
    exact ⟨s4.trans s5, pf, rfl, nf, by rw [hS5]; exact hL4.mono s5⟩
  clear hL4 nf pf
  rintro σ H5 ⟨s5, pf, rfl, nf, hL5⟩
  walk_at "rd"
  obtain ⟨S6, hS6⟩ : ∃ S : List Au, S = (match a with | .slash b => auS .step c frS ++ (if b = true then auE c [(47, .slashes)] else []) | _ => S5) := ⟨_, rfl⟩
  refine ⟨fun σ H' => Same H H' ∧ ∃ pf, σ = [some (.ref q), some (.str ⟨#[c]⟩), some (.str (auW a)), some (.bl (isAln c)), some (.ref pf)] ∧ LsA H' pf S6 ∧ S6.length ≤ 3, ?_, ?_⟩
  ·by_cases hb : ∃ b, a = .slash b
   ·obtain ⟨b, rfl⟩ := hb
    cases hxs with
    | cons h1 r =>
    cases h1
    cases r
    rw [if_pos (show auW (.slash b) = Str.ofString "slash" from rfl), eS]
    have hS6 : S6 = auS .step c frS ++ (if b = true then auE c [(47, .slashes)] else []) := hS6
    have l1 := fqA (g := .step) (c := c) (fr := frS)
    have l2 := cqn (c := c) [(47, .slashes)]
    refine ⟨by decide, fun p2 H6 n2 s6 hp2 => ?_⟩
    refine ⟨.step, .ref p2, c, frS, rfl, .tup hp2 (.cons (.str _) .nil), hc, fun p3 H7 n3 s7 hL => ?_⟩
    have s57 := (s5.trans s6).trans s7
    refine ⟨_, _, .inr (.of (s57 _ _ hq)), aqu (j := 1) rfl, b, rfl, ?_⟩
    cases b with
    | true =>
     rw [if_pos rfl] at hS6 ⊢
     refine ⟨by decide, fun p8 H8 n8 s8 hp8 => ⟨by decide, fun p9 H9 n9 s9 hp9 => ⟨by decide, fun p10 H10 n10 s10 hp10 => ?_⟩⟩⟩
     refine ⟨c, p10, [(47, .slashes)], rfl, eda1 hp10 (s10 _ _ hp9) (.tup ((s9.trans s10) _ _ hp8) (.cons (.str _) .nil)), by decide, fun q11 H11 s11 hL11 => ?_⟩
     have s711 := ((s8.trans s9).trans s10).trans s11
     exact dq7 (hL.mono s711) hL11 (by omega) (Nat.le_trans l2 (by decide)) (fun p12 H12 n12 s12 L12 => ⟨(s57.trans s711).trans s12, p12, rfl, by rw [hS6]; exact L12, by rw [hS6, List.length_append]; simp only [List.length_cons, List.length_nil] at l2; omega⟩)
    | false =>
     rw [if_neg (by decide), List.append_nil] at hS6
     rw [if_neg (by decide)]
     exact ⟨s57, p3, rfl, by rw [hS6]; exact hL, by rw [hS6]; omega⟩
   ·have : ¬ auW a = Str.ofString "slash" := by
     cases a with
     | start => simp only [auW]; decide +kernel
     | scheme n => simp only [auW]; decide +kernel
     | colon => simp only [auW]; decide +kernel
     | slash b => exact absurd ⟨b, rfl⟩ hb
     | _ => exact ha.elim
    have hS6 : S6 = S5 := by
     rw [hS6]
     cases a with
     | slash b => exact absurd ⟨b, rfl⟩ hb
     | _ => rfl
    rw [if_neg this]
    exact ⟨s5, pf, rfl, by rw [hS6]; exact hL5, by rw [hS6]; exact hS5l⟩
  clear hL5 nf pf
  rintro σ H6 ⟨s6, pf, rfl, hL6, hl6⟩
  have fin : move a c = S6 ++ tailE c := by
   cases a with
   | start =>
    have hS6 : S6 = S5 := hS6
    rw [if_pos rfl] at hS3
    rw [if_pos (.inl rfl)] at hS5
    rw [qqV, hS6, hS5, hS3, List.append_assoc, List.append_assoc]
   | scheme n => exact absurd rfl (nsc n)
   | colon =>
    have hS6 : S6 = S5 := hS6
    rw [if_neg (by simp)] at hS3
    rw [if_pos (.inr rfl)] at hS5
    rw [hS6, hS5, hS3]; rfl
   | slash b =>
    have hS6 : S6 = auS .step c frS ++ (if b = true then auE c [(47, .slashes)] else []) := hS6
    rw [hS6, List.append_assoc]; rfl
   | _ => exact ha.elim
  rw [fin] at k
  walk_at "rd"
  refine ⟨by decide, fun p1 G1 _ t1 h1 => ⟨by decide, fun p2 G2 _ t2 h2 => ⟨by decide, fun p3 G3 _ t3 h3 => ⟨by decide, fun p4 G4 _ t4 h4 => ⟨by decide, fun p5 G5 _ t5 h5 => ?_⟩⟩⟩⟩⟩
  refine ⟨c, p5, [(63, .first), (35, .mark)], rfl, eda2 h5 (((t3.trans t4).trans t5) _ _ h2) (.tup ((((t2.trans t3).trans t4).trans t5) _ _ h1) (.cons (.str _) .nil)) (t5 _ _ h4) (.tup ((t4.trans t5) _ _ h3) (.cons (.str _) .nil)), by decide, fun q6 G6 t6 hL => ?_⟩
  have t16 := ((((t1.trans t2).trans t3).trans t4).trans t5).trans t6
  exact dq7 (hL6.mono t16) hL (by omega) (Nat.le_trans (cqn _) (by decide)) (fun p7 G7 _ t7 L7 => k p7 G7 ((s6.trans t16).trans t7) L7)
theorem mqn (g : G K mg) : FnOk P w K mg base CX0 3 g.fqw g.eqz ["_law_state", "_law_sign"] (lq7 K) := by
 refine g.gqR.ok cql (fun vs H Q E h => ?_) (fun cdv A outer s H vs Q E hr h => ?_)
 ·obtain ⟨a, v, c, rfl, _⟩ := h; rfl
 ·obtain ⟨a, v, c, rfl, ha, hv, hc, k⟩ := h
  refine ⟨_, (aqE (aqC (aqi dq2 (aqK (aqn (K := K) rfl) (pv 0) aqj (fun _ _ => rfl)) aqg (nomark _))
    (aqe (aql (aqh (bql g) (hr.mono (by decide)) rfl g.bqj g.aq8.kp g.bqn .nil pass0 (aqa (aqo (aqa aqg (aqa aqj aqb))) (aqa (pv 1) (aqa aqg aqb)))))) aqm)
   (aqf (aqp (i := 2) cql.nd rfl (Or.inl rfl) (aqL aqb))
   (aqE (aqC (aqi dq2 (aqK (aqn (K := K) rfl) (pv 0) aqj (fun _ _ => rfl)) aqg (nomark _))
    (aqE (aqC (aqi mqB (aqK (aqn (K := K) rfl) (pv 0) aqj (fun _ _ => rfl)) aqj (nomark _))
    (aqe (aqp (i := 2) cql.nd rfl (Or.inl rfl) (aqh (bql g) (hr.mono (by decide)) rfl g.bqj g.aq8.kp g.bqn .nil pass0 (aqa (aqo (aqa aqg (aqa (aqN (aqJ (K := K)) (aqK (aqn (K := K) rfl) (pv 0) aqj (fun _ _ => rfl)) aqj) aqb))) (aqa (pv 1) (aqa aqg aqb)))))) aqm)
   (aqe (aqp (i := 2) cql.nd rfl (Or.inl rfl) (aqN (aqJ (K := K)) (pv 2) (aqh (aqZ g) (hr.mono (by decide)) rfl g.aq3 g.aqU.kp g.aq2 .nil pass0 (aqa (pv 1) (aqa (aqL (aqa (aqo (aqa aqg (aqa (aqo (aqa aqg (aqa (lq3 iqz aqj) aqb))) aqb))) aqb)) aqb))))))) (aqe (aqC (PW.pt (dqV (aqQ (hqX (K := K) rfl PySem.F.plainAttrs_str PySem.F.slot_str_isdigit PySem.F.type_str_isdigit oqZ (pv 1))) (cqG (aqi gqq (pv 1) (iqr (dqg g) (hr.mono (by decide)) rfl g.cqT g.bqS.kp g.cqY .nil pass0) (by with_unfolding_all rfl)))))
    (aqf (aqp (i := 3) cql.nd rfl (Or.inl rfl) (aqN (aqJ (K := K)) (aqN kqD (aqA (qqd rfl) rfl g.wqu PyProof.Rows.boot_max (aqa (aqK (aqn (K := K) rfl) (pv 0) aqj (fun _ _ => rfl)) (aqa aqj aqb))) aqj) (dqb jq8 rfl g.mqN jqx (aqa (pv 1) aqb))))
   (aqe (aqC (PW.pt (dqV (aqi kqr (aqK (aqn (K := K) rfl) (pv 0) aqj (fun _ _ => rfl)) aqj (nomark _)) (cqG (aqi qqp (pv 3) aqj (nomark _)))))
    (aqe (gqc (fqi (K := K) rfl PySem.F.plainAttrs_list PySem.F.slot_list_append PySem.F.type_list_append dqW (pv 2) (aqa (aqo (aqa aqg (aqa (pv 3) aqb))) aqb)))) aqm))) aqm)))
   (aqE (aqC (aqi (qq0 hr.units) (pv 0) (aqo (aqa aqg (aqa (lq3 iqz aqj) aqb))) (nomark _))
    (aqe (aqp (i := 2) cql.nd rfl (Or.inl rfl) (aqN (aqJ (K := K)) (pv 2) (aqh (aqZ g) (hr.mono (by decide)) rfl g.aq3 g.aqU.kp g.aq2 .nil pass0 (aqa (pv 1) (aqa (aqL (aqa (aqo (aqa aqg (aqa (aqo (aqa aqg (aqa hqz aqb))) aqb))) (aqa (aqo (aqa aqg (aqa (aqo (aqa aqg aqb)) aqb))) (aqa (aqo (aqa aqg (aqa (aqo (aqa aqg aqb)) aqb))) aqb)))) aqb)))))) aqm)
   (aqe (aql (pv 2))))))), ?_⟩
  obtain ⟨q, xs, rfl, hq, hxs⟩ := lqU hv
  have eC : Str.ofString ":" = ⟨#[58]⟩ := by decide +kernel
  have eSl : Str.ofString "/" = ⟨#[47]⟩ := by decide +kernel
  have eQ : Str.ofString "?" = ⟨#[63]⟩ := by decide +kernel
  have eH : Str.ofString "#" = ⟨#[35]⟩ := by decide +kernel
  simp only [eC, eSl, eQ, eH]
  walk_at "rd"
  refine ⟨fun σ H1 => H = H1 ∧ a ≠ .slashes ∧ σ = [some (.ref q), some (.str ⟨#[c]⟩), none, none], ?_, ?_⟩
  ·refine ⟨_, _, .inr (.of hq), aqu (j := 0) rfl, L2.fqB.mpr ⟨_, rfl, ?_⟩⟩
   by_cases hs : a = .slashes
   ·subst hs
    rw [decide_eq_true (show auW .slashes = Str.ofString "slashes" from rfl), if_pos rfl]
    refine ⟨by decide, fun p2 H3 n2 s2 hp2 => ⟨.house 1, .ref p2, c, [], rfl, .tup hp2 (.cons (.str _) (.cons (.int _) .nil)), hc, fun p3 H4 n3 s3 hL => k p3 H4 (s2.trans s3) hL⟩⟩
   ·have : ¬ auW a = Str.ofString "slashes" := by
     cases a with
     | slashes => exact absurd rfl hs
     | house n => simp only [auW]; decide +kernel
     | door v => simp only [auW]; decide +kernel
     | _ => exact ha.elim
    rw [decide_eq_false this, if_neg (by decide)]
    exact ⟨rfl, hs, rfl⟩
  rintro σ H1 ⟨rfl, nsl, rfl⟩
  walk_at "rd"
  refine ⟨by decide, fun p1 H2 n1 s1 hp1 => ?_⟩
  obtain ⟨S2, hS2⟩ : ∃ S : List Au, S = (match a with | .house n => (if n < 60 then auS (.house (n + 1)) c [] else []) ++ auE c [(58, .door (-1))] | .door v => (if isDg c = true then (if v ≠ 0 ∧ max v 0 * 10 + ((c - 48 : Nat) : Int) ≤ 65535 then [.door (max v 0 * 10 + ((c - 48 : Nat) : Int))] else []) else []) | _ => []) := ⟨_, rfl⟩
  refine ⟨fun σ H' => Same H H' ∧ ∃ pf v3, σ = [some (.ref q), some (.str ⟨#[c]⟩), some (.ref pf), v3] ∧ LsA H' pf S2 ∧ S2.length ≤ 3, ?_, ?_⟩
  ·refine ⟨_, _, .inr (.of (s1 _ _ hq)), aqu (j := 0) rfl, L2.fqB.mpr ⟨_, rfl, ?_⟩⟩
   cases a with
   | house n =>
    cases hxs with
    | cons h1 r =>
    cases h1
    cases r
    have hS2 : S2 = (if n < 60 then auS (.house (n + 1)) c [] else []) ++ auE c [(58, .door (-1))] := hS2
    have l1 := fqA (g := .house (n + 1)) (c := c) (fr := [])
    have l2 := cqn (c := c) [(58, .door (-1))]
    simp only [List.length_cons, List.length_nil] at l2
    rw [decide_eq_true (show auW (.house n) = Str.ofString "house" from rfl), if_pos rfl]
    refine ⟨fun σ H' => Same H H' ∧ ∃ pf, σ = [some (.ref q), some (.str ⟨#[c]⟩), some (.ref pf), none] ∧ LsA H' pf (if n < 60 then auS (.house (n + 1)) c [] else []), ?_, ?_⟩
    ·refine ⟨_, _, .inr (.of (s1 _ _ hq)), aqu (j := 1) rfl, L2.tqO.mpr ⟨_, rfl, ?_⟩⟩
     by_cases h60 : n < 60
     ·rw [decide_eq_true (by omega), if_pos rfl, if_pos h60]
      refine ⟨_, _, .inr (.of (s1 _ _ hq)), aqu (j := 1) rfl, L2.oqm.mpr ⟨by decide, fun p4 H4 n4 s4 hp4 => ?_⟩⟩
      have hp4 : H4 p4 = some (.tup [.str (Str.ofString "house"), .int ((n + 1 : Nat) : Int)]) := hp4
      exact ⟨.house (n + 1), .ref p4, c, [], rfl, .tup hp4 (.cons (.str _) (.cons (.int _) .nil)), hc, fun p5 H5 n5 s5 hL => ⟨(s1.trans s4).trans s5, p5, rfl, hL⟩⟩
     ·rw [decide_eq_false (by omega), if_neg (by decide), if_neg h60]
      exact ⟨s1, p1, rfl, ⟨_, hp1, .nil⟩⟩
    rintro σ H4 ⟨s4, pf, rfl, hL4⟩
    walk_at "rd"
    refine ⟨by decide, fun p5 H5 n5 s5 hp5 => ⟨by decide, fun p6 H6 n6 s6 hp6 => ⟨by decide, fun p7 H7 n7 s7 hp7 => ?_⟩⟩⟩
    refine ⟨c, p7, [(58, .door (-1))], rfl, eda1 hp7 (s7 _ _ hp6) (.tup ((s6.trans s7) _ _ hp5) (.cons (.str _) (.cons (.int _) .nil))), by decide, fun q8 H8 s8 hL8 => ?_⟩
    have s58 := ((s5.trans s6).trans s7).trans s8
    have l3 : (if n < 60 then auS (.house (n + 1)) c [] else []).length ≤ 1 := by
     split
     ·exact l1
     ·exact Nat.zero_le _
    exact dq7 (hL4.mono s58) hL8 (by omega) (by omega) (fun p9 H9 n9 s9 L9 => ⟨(s4.trans s58).trans s9, p9, none, ⟨rfl, rfl⟩, by rw [hS2]; exact L9, by rw [hS2, List.length_append]; omega⟩)
   | door v =>
    cases hxs with
    | cons h1 r =>
    cases h1
    cases r
    have hS2 : S2 = (if isDg c = true then (if v ≠ 0 ∧ max v 0 * 10 + ((c - 48 : Nat) : Int) ≤ 65535 then [.door (max v 0 * 10 + ((c - 48 : Nat) : Int))] else []) else []) := hS2
    rw [decide_eq_false (show ¬ auW (.door v) = Str.ofString "house" by simp only [auW]; decide +kernel), if_neg (by decide), qqB c hc]
    have non : S2 = [] → Same H H2 ∧ ∃ pf v3, [some (V.ref q), some (.str ⟨#[c]⟩), some (.ref p1), none] = [some (.ref q), some (.str ⟨#[c]⟩), some (.ref pf), v3] ∧ LsA H2 pf S2 ∧ S2.length ≤ 3 := fun e => ⟨s1, p1, none, rfl, by rw [e]; exact ⟨_, hp1, .nil⟩, by rw [e]; exact Nat.zero_le _⟩
    by_cases hd : isDg c = true
    ·have hdd := jqp.mp hd
     rw [if_pos hd, if_pos (wqJ c hdd)]
     rw [if_pos hd] at hS2
     have em : (if (0 : Int) > v then 0 else v) = max v 0 := by split <;> omega
     refine ⟨_, _, .inr (.of (s1 _ _ hq)), aqu (j := 1) rfl, v, 0, ⟨rfl, rfl⟩, .inr ⟨by decide, by decide⟩, _, by decide, oqi c (by omega) hdd.1, _, _, .inr (.of (s1 _ _ hq)), aqu (j := 1) rfl, L2.qq7.mpr ⟨_, rfl, ?_⟩⟩
     rw [em]
     by_cases h0 : v = 0
     ·rw [if_neg (fun z => z.1 h0)] at hS2
      rw [decide_eq_true h0, if_neg (by decide)]
      exact ⟨s1, p1, _, rfl, by rw [hS2]; exact ⟨_, hp1, .nil⟩, by rw [hS2]; exact Nat.zero_le _⟩
     ·rw [decide_eq_false h0, if_pos (by decide)]
      by_cases h6 : max v 0 * 10 + ((c - 48 : Nat) : Int) ≤ 65535
      ·rw [if_pos ⟨h0, h6⟩] at hS2
       rw [if_pos h6]
       refine ⟨⟨_, .of hp1⟩, by decide, fun p4 H4 n4 s4 hp4 => ?_⟩
       obtain ⟨xs, e1, e2, s6, L6⟩ := mqw (N := fun H' => Same H H' ∧ LsA H' p1 ([] ++ [.door (max v 0 * 10 + ((c - 48 : Nat) : Int))])) n1 (s1.trans s4) (show LsA H4 p1 [] from ⟨_, s4 _ _ hp1, .nil⟩) (g := .door (max v 0 * 10 + ((c - 48 : Nat) : Int))) (.tup hp4 (.cons (.str _) (.cons (.int _) .nil))) (by decide) (fun H6 s6 L6 => ⟨s6, L6⟩)
       exact ⟨xs, e1, e2, s6, p1, _, rfl, by rw [hS2]; exact L6, by rw [hS2]; exact Nat.le_add_left 1 2⟩
      ·rw [if_neg (fun z => h6 z.2)] at hS2
       rw [if_neg h6]
       exact ⟨s1, p1, _, rfl, by rw [hS2]; exact ⟨_, hp1, .nil⟩, by rw [hS2]; exact Nat.zero_le _⟩
    ·rw [if_neg hd]
     rw [if_neg hd] at hS2
     exact non hS2
   | slashes => exact absurd rfl nsl
   | _ => exact ha.elim
  rintro σ H3 ⟨s3, pf, v3, rfl, hL3, hl3⟩
  walk_at "rd"
  obtain ⟨S4, hS4⟩ : ∃ S : List Au, S = S2 ++ (if a ≠ .door (-1) then auE c [(47, .slash false), (63, .first), (35, .mark)] else []) := ⟨_, rfl⟩
  have fin : move a c = S4 := by
   rw [hS4]
   cases a with
   | house n =>
    have hS2 : S2 = (if n < 60 then auS (.house (n + 1)) c [] else []) ++ auE c [(58, .door (-1))] := hS2
    rw [hS2, show (if Au.house n ≠ .door (-1) then auE c [(47, .slash false), (63, .first), (35, .mark)] else []) = auE c [(47, .slash false), (63, .first), (35, .mark)] from if_pos (by simp), List.append_assoc]; rfl
   | door v =>
    have hS2 : S2 = (if isDg c = true then (if v ≠ 0 ∧ max v 0 * 10 + ((c - 48 : Nat) : Int) ≤ 65535 then [.door (max v 0 * 10 + ((c - 48 : Nat) : Int))] else []) else []) := hS2
    rw [hS2]
    have e : (if Au.door v ≠ .door (-1) then auE c [(47, .slash false), (63, .first), (35, .mark)] else []) = (if v ≠ -1 then auE c [(47, .slash false), (63, .first), (35, .mark)] else []) := by
     by_cases hv : v = -1
     ·rw [if_neg (fun z => z (by rw [hv])), if_neg (fun z => z hv)]
     ·rw [if_pos (fun z => hv (by injection z)), if_pos hv]
    rw [e]; rfl
   | slashes => exact absurd rfl nsl
   | _ => exact ha.elim
  rw [fin] at k
  refine ⟨fun σ H' => Same H H' ∧ ∃ pf v3, σ = [some (.ref q), some (.str ⟨#[c]⟩), some (.ref pf), v3] ∧ LsA H' pf S4, ?_, ?_⟩
  ·have hok : AuOk a := by cases a <;> first | exact True.intro | exact ha.elim
   refine ⟨by decide, fun p H4 _ s4 hp => ?_⟩
   refine ⟨auD a, .tuple [.str (Str.ofString "door"), .int (-1)], (hv.mono (s3.trans s4).toT).is, .tup hp (.cons (.str _) (.cons (.int _) .nil)), nq8 hok, by decide +kernel, _, rfl, ?_⟩
   by_cases hd : a = .door (-1)
   ·rw [if_neg (fun z => z hd), List.append_nil] at hS4
    rw [hd, show PyData.eqv (auD (.door (-1))) (.tuple [.str (Str.ofString "door"), .int (-1)]) = true by decide +kernel, if_neg (by decide)]
    exact ⟨s3.trans s4, pf, v3, rfl, by rw [hS4]; exact hL3.mono s4⟩
   ·rw [rqm hd, if_pos (by decide)]
    rw [if_pos hd] at hS4
    refine ⟨by decide, fun p1 G1 _ t1 h1 => ⟨by decide, fun p2 G2 _ t2 h2 => ⟨by decide, fun p3 G3 _ t3 h3 => ⟨by decide, fun p4 G4 _ t4 h4 => ⟨by decide, fun p5 G5 _ t5 h5 => ⟨by decide, fun p6 G6 _ t6 h6 => ⟨by decide, fun p7 G7 _ t7 h7 => ?_⟩⟩⟩⟩⟩⟩⟩
    refine ⟨c, p7, [(47, .slash false), (63, .first), (35, .mark)], rfl, eda3 h7 (((((t3.trans t4).trans t5).trans t6).trans t7) _ _ h2) (.tup ((((((t2.trans t3).trans t4).trans t5).trans t6).trans t7) _ _ h1) (.cons (.str _) (.cons (.bl _) .nil))) (((t5.trans t6).trans t7) _ _ h4) (.tup ((((t4.trans t5).trans t6).trans t7) _ _ h3) (.cons (.str _) .nil)) (t7 _ _ h6) (.tup ((t6.trans t7) _ _ h5) (.cons (.str _) .nil)), by decide, fun q8 G8 t8 hL8 => ?_⟩
    have t18 := ((((((t1.trans t2).trans t3).trans t4).trans t5).trans t6).trans t7).trans t8
    exact dq7 (hL3.mono (s4.trans t18)) hL8 (by omega) (Nat.le_trans (cqn _) (by decide)) (fun p9 G9 _ t9 L9 => ⟨((s3.trans s4).trans t18).trans t9, p9, v3, rfl, by rw [hS4]; exact L9⟩)
  rintro σ H4 ⟨s4, pf, v3, rfl, hL4⟩
  walk_at "rd"
  exact k pf H4 s4 hL4
theorem nq6 (g : G K mg) : FnOk P w K mg base CX0 3 g.fq3 g.fqb ["_law_state", "_law_sign"] (nqU K) := by
 refine g.hqP.ok bqm (fun vs H Q E h => ?_) (fun cdv A outer s H vs Q E hr h => ?_)
 ·obtain ⟨a, v, c, rfl, _⟩ := h; rfl
 ·obtain ⟨a, v, c, rfl, ha, hv, hc, k⟩ := h
  refine ⟨_, (aqf (aqp (i := 2) bqm.nd rfl (Or.inl rfl) (aqK (aqn (K := K) rfl) (pv 0) aqj (fun _ _ => rfl)))
   (aqE (aqC (aqi (dqo (K := K) rfl) (pv 2) (aqo (aqa aqg (aqa aqg aqb))) (by with_unfolding_all rfl))
    (aqf (aqp (i := 3) bqm.nd rfl (Or.inl rfl) (aqh (bql g) (hr.mono (by decide)) rfl g.bqj g.aq8.kp g.bqn .nil pass0 (aqa (aqo (aqa aqg aqb)) (aqa (pv 1) (aqa aqg aqb)))))
   (aqE (aqC (aqi dq2 (pv 2) aqg (nomark _))
    (aqe (aqp (i := 3) bqm.nd rfl (Or.inl rfl) (aqN (aqJ (K := K)) (pv 3) (aqh (aqZ g) (hr.mono (by decide)) rfl g.aq3 g.aqU.kp g.aq2 .nil pass0 (aqa (pv 1) (aqa (aqL (aqa (aqo (aqa aqg (aqa (aqo (aqa aqg aqb)) aqb))) aqb)) aqb)))))) aqm)
   (aqe (aql (aqN (aqJ (K := K)) (pv 3) (aqh (aqZ g) (hr.mono (by decide)) rfl g.aq3 g.aqU.kp g.aq2 .nil pass0 (aqa (pv 1) (aqa (aqL (aqa (aqo (aqa aqg (aqa (aqo (aqa aqg aqb)) aqb))) (aqa (aqo (aqa aqg (aqa (aqo (aqa aqg aqb)) aqb))) aqb))) aqb)))))))) aqm)
   (aqE (aqC (aqi dq2 (pv 2) aqg (nomark _))
    (aqe (aql (aqh (bql g) (hr.mono (by decide)) rfl g.bqj g.aq8.kp g.bqn .nil pass0 (aqa (aqo (aqa aqg aqb)) (aqa (pv 1) (aqa aqg aqb)))))) aqm)
   (aqE (aqC (aqi dq2 (pv 2) aqg (nomark _))
    (aqe (aqp (i := 3) bqm.nd rfl (Or.inl rfl) (aqh (bql g) (hr.mono (by decide)) rfl g.bqj g.aq8.kp g.bqn .nil pass0 (aqa (aqo (aqa aqg aqb)) (aqa (pv 1) (aqa aqg aqb)))))) (aqe (aqp (i := 3) bqm.nd rfl (Or.inl rfl) (aqh (bql g) (hr.mono (by decide)) rfl g.bqj g.aq8.kp g.bqn .nil pass0 (aqa (aqo (aqa aqg aqb)) (aqa (pv 1) (aqa aqg aqb)))))))
   (aqE (aqC (aqi dq2 (pv 2) aqg (nomark _))
    (aqe (aqp (i := 3) bqm.nd rfl (Or.inl rfl) (aqN (aqJ (K := K)) (pv 3) (aqh (aqZ g) (hr.mono (by decide)) rfl g.aq3 g.aqU.kp g.aq2 .nil pass0 (aqa (pv 1) (aqa (aqL (aqa (aqo (aqa aqg (aqa (aqo (aqa aqg aqb)) aqb))) aqb)) aqb)))))) aqm)
   (aqE (aqC (aqi (dqo (K := K) rfl) (pv 2) (aqo (aqa aqg (aqa aqg aqb))) (by with_unfolding_all rfl))
    (aqe (aqp (i := 3) bqm.nd rfl (Or.inl rfl) (aqN (aqJ (K := K)) (pv 3) (aqh (aqZ g) (hr.mono (by decide)) rfl g.aq3 g.aqU.kp g.aq2 .nil pass0 (aqa (pv 1) (aqa (aqL (aqa (aqo (aqa aqg (aqa (aqo (aqa aqg aqb)) aqb))) aqb)) aqb)))))) aqm)
   (aqE (aqC (aqi kqr (pv 2) aqg (nomark _))
    (aqe (aqp (i := 3) bqm.nd rfl (Or.inl rfl) (aqN (aqJ (K := K)) (pv 3) (aqh (aqZ g) (hr.mono (by decide)) rfl g.aq3 g.aqU.kp g.aq2 .nil pass0 (aqa (pv 1) (aqa (aqL (aqa (aqo (aqa aqg (aqa (aqo (aqa aqg aqb)) aqb))) aqb)) aqb)))))) aqm)
   (aqe (aql (pv 3)))))))))), ?_⟩
  obtain ⟨q, xs, rfl, hq, hxs⟩ := lqU hv
  have eSl : Str.ofString "/" = ⟨#[47]⟩ := by decide +kernel
  have eQ : Str.ofString "?" = ⟨#[63]⟩ := by decide +kernel
  have eH : Str.ofString "#" = ⟨#[35]⟩ := by decide +kernel
  have eE : Str.ofString "=" = ⟨#[61]⟩ := by decide +kernel
  have eA : Str.ofString "&" = ⟨#[38]⟩ := by decide +kernel
  have fS : Str.ofString "!$'()*,;@&=+" = ⟨frS.toArray⟩ := by decide +kernel
  have fQ' : Str.ofString "!$'()*,;@+/?:" = ⟨frQ.toArray⟩ := by decide +kernel
  have fM' : Str.ofString "!$'()*,;@&=+/?:" = ⟨frM.toArray⟩ := by decide +kernel
  simp only [eSl, eQ, eH, eE, eA, fS, fQ', fM']
  walk_at "rd"
  refine ⟨_, _, .inr (.of hq), aqu (j := 0) rfl, fun σ H1 => Same H H1 ∧ a ≠ .step ∧ a ≠ .between ∧ σ = [some (.ref q), some (.str ⟨#[c]⟩), some (.str (auW a)), none], ?_, ?_⟩
  ·refine ⟨by decide, fun p1 H1 _ s1 hp1 => ⟨p1, _, rfl, .inr (.of hp1), rfl, rfl, _, rfl, ?_⟩⟩
   by_cases h1 : a = .step ∨ a = .between
   ·have e : (if false = true then !inV (V.str (auW a)) [V.str (Str.ofString "step"), V.str (Str.ofString "between")] else inV (V.str (auW a)) [V.str (Str.ofString "step"), V.str (Str.ofString "between")]) = true := by rcases h1 with rfl | rfl <;> (simp only [auW]; decide +kernel)
    rw [e, if_pos rfl]
    refine ⟨by decide, fun p2 H2 n2 s2 hp2 => ⟨.step, .ref p2, c, frS, rfl, .tup hp2 (.cons (.str _) .nil), hc, fun p3 H3 n3 s3 hL => ?_⟩⟩
    have s13 := (s1.trans s2).trans s3
    have l1 := fqA (g := .step) (c := c) (fr := frS)
    refine ⟨fun σ H' => Same H H' ∧ ∃ pf, σ = [some (.ref q), some (.str ⟨#[c]⟩), some (.str (auW a)), some (.ref pf)] ∧ LsA H' pf (auS .step c frS ++ (if a = .step then auE c [(47, .between)] else [])), ?_, ?_⟩
    ·refine L2.fqB.mpr ⟨_, rfl, ?_⟩
     by_cases hst : a = .step
     ·rw [decide_eq_true (by rw [hst]; rfl), if_pos rfl, if_pos hst]
      refine ⟨by decide, fun p4 H4 n4 s4 hp4 => ⟨by decide, fun p5 H5 n5 s5 hp5 => ⟨by decide, fun p6 H6 n6 s6 hp6 => ?_⟩⟩⟩
      refine ⟨c, p6, [(47, .between)], rfl, eda1 hp6 (s6 _ _ hp5) (.tup ((s5.trans s6) _ _ hp4) (.cons (.str _) .nil)), by decide, fun q7 H7 s7 hL7 => ?_⟩
      have s47 := ((s4.trans s5).trans s6).trans s7
      exact dq7 (hL.mono s47) hL7 (by omega) (Nat.le_trans (cqn _) (by decide)) (fun p8 H8 n8 s8 L8 => ⟨(s13.trans s47).trans s8, p8, rfl, L8⟩)
     ·have hbt : a = .between := h1.resolve_left hst
      rw [decide_eq_false (by rw [hbt]; simp only [auW]; decide +kernel), if_neg (by decide), if_neg hst, List.append_nil]
      exact ⟨s13, p3, rfl, hL⟩
    rintro σ H4 ⟨s4, pf, rfl, hL4⟩
    have fin : move a c = auS .step c frS ++ (if a = .step then auE c [(47, .between)] else []) ++ tailE c := by
     rcases h1 with rfl | rfl
     ·rw [if_pos rfl, List.append_assoc]; rfl
     ·rw [if_neg (by simp), List.append_nil]; rfl
    rw [fin] at k
    walk_at "rd"
    refine ⟨by decide, fun p1 G1 _ t1 h1 => ⟨by decide, fun p2 G2 _ t2 h2 => ⟨by decide, fun p3 G3 _ t3 h3 => ⟨by decide, fun p4 G4 _ t4 h4 => ⟨by decide, fun p5 G5 _ t5 h5 => ?_⟩⟩⟩⟩⟩
    refine ⟨c, p5, [(63, .first), (35, .mark)], rfl, eda2 h5 (((t3.trans t4).trans t5) _ _ h2) (.tup ((((t2.trans t3).trans t4).trans t5) _ _ h1) (.cons (.str _) .nil)) (t5 _ _ h4) (.tup ((t4.trans t5) _ _ h3) (.cons (.str _) .nil)), by decide, fun q6 G6 t6 hL => ?_⟩
    have t16 := ((((t1.trans t2).trans t3).trans t4).trans t5).trans t6
    have l2 := cqn (c := c) [(47, .between)]
    exact dq7 (hL4.mono t16) hL (by rw [List.length_append]; split <;> simp only [List.length_cons, List.length_nil] at * <;> omega) (Nat.le_trans (cqn _) (by decide)) (fun p7 G7 _ t7 L7 => k p7 G7 ((s4.trans t16).trans t7) L7)
   ·have e : (if false = true then !inV (V.str (auW a)) [V.str (Str.ofString "step"), V.str (Str.ofString "between")] else inV (V.str (auW a)) [V.str (Str.ofString "step"), V.str (Str.ofString "between")]) = false := by
     cases a with
     | step => exact absurd (.inl rfl) h1
     | between => exact absurd (.inr rfl) h1
     | _ => first | exact ha.elim | (simp only [auW]; decide +kernel)
    rw [e, if_neg (by decide)]
    exact ⟨s1, fun z => h1 (.inl z), fun z => h1 (.inr z), rfl⟩
  rintro σ H1 ⟨s1, nst, nbt, rfl⟩
  walk_at "rd"
  refine ⟨fun σ H2 => Same H H2 ∧ a ≠ .mark ∧ σ = [some (.ref q), some (.str ⟨#[c]⟩), some (.str (auW a)), none], ?_, ?_⟩
  ·by_cases hm : a = .mark
   ·subst hm
    rw [if_pos (show auW .mark = Str.ofString "mark" from rfl)]
    exact ⟨by decide, fun p2 H2 n2 s2 hp2 => ⟨.mark, .ref p2, c, frM, rfl, .tup hp2 (.cons (.str _) .nil), hc, fun p3 H3 n3 s3 hL => k p3 H3 ((s1.trans s2).trans s3) hL⟩⟩
   ·have : ¬ auW a = Str.ofString "mark" := by
     cases a with
     | mark => exact absurd rfl hm
     | _ => first | exact ha.elim | (simp only [auW]; decide +kernel)
    rw [if_neg this]
    exact ⟨s1, hm, rfl⟩
  clear s1
  rintro σ H1 ⟨s1, nmk, rfl⟩
  walk_at "rd"
  obtain ⟨S3, hS3⟩ : ∃ S : List Au, S = auS (if a = .value then .value else .name) c frQ := ⟨_, rfl⟩
  have l3 : S3.length ≤ 1 := by rw [hS3]; exact fqA
  refine ⟨fun σ H2 => Same H H2 ∧ ∃ pf, σ = [some (.ref q), some (.str ⟨#[c]⟩), some (.str (auW a)), some (.ref pf)] ∧ LsA H2 pf S3, ?_, ?_⟩
  ·by_cases hva : a = .value
   ·rw [if_pos hva] at hS3
    rw [if_pos (by rw [hva]; rfl)]
    exact ⟨by decide, fun p2 H2 n2 s2 hp2 => ⟨.value, .ref p2, c, frQ, rfl, .tup hp2 (.cons (.str _) .nil), hc, fun p3 H3 n3 s3 hL => ⟨(s1.trans s2).trans s3, p3, rfl, by rw [hS3]; exact hL⟩⟩⟩
   ·rw [if_neg hva] at hS3
    have : ¬ auW a = Str.ofString "value" := by
     cases a with
     | value => exact absurd rfl hva
     | _ => first | exact ha.elim | (simp only [auW]; decide +kernel)
    rw [if_neg this]
    exact ⟨by decide, fun p2 H2 n2 s2 hp2 => ⟨.name, .ref p2, c, frQ, rfl, .tup hp2 (.cons (.str _) .nil), hc, fun p3 H3 n3 s3 hL => ⟨(s1.trans s2).trans s3, p3, rfl, by rw [hS3]; exact hL⟩⟩⟩
  clear s1
  rintro σ H1 ⟨s1, pf, rfl, hL1⟩
  walk_at "rd"
  obtain ⟨S4, hS4⟩ : ∃ S : List Au, S = S3 ++ (if a = .name then auE c [(61, .value)] else []) := ⟨_, rfl⟩
  have l4 : S4.length ≤ 2 := by
   have := cqn (c := c) [(61, .value)]
   rw [hS4, List.length_append]
   split <;> simp only [List.length_cons, List.length_nil] at * <;> omega
  refine ⟨fun σ H2 => Same H H2 ∧ ∃ pf, σ = [some (.ref q), some (.str ⟨#[c]⟩), some (.str (auW a)), some (.ref pf)] ∧ LsA H2 pf S4, ?_, ?_⟩
  ·by_cases hna : a = .name
   ·rw [if_pos hna] at hS4
    rw [if_pos (by rw [hna]; rfl)]
    refine ⟨by decide, fun p4 H4 n4 s4 hp4 => ⟨by decide, fun p5 H5 n5 s5 hp5 => ⟨by decide, fun p6 H6 n6 s6 hp6 => ?_⟩⟩⟩
    refine ⟨c, p6, [(61, .value)], rfl, eda1 hp6 (s6 _ _ hp5) (.tup ((s5.trans s6) _ _ hp4) (.cons (.str _) .nil)), by decide, fun q7 H7 s7 hL7 => ?_⟩
    have s47 := ((s4.trans s5).trans s6).trans s7
    exact dq7 (hL1.mono s47) hL7 (by omega) (Nat.le_trans (cqn _) (by decide)) (fun p8 H8 n8 s8 L8 => ⟨(s1.trans s47).trans s8, p8, rfl, by rw [hS4]; exact L8⟩)
   ·rw [if_neg hna, List.append_nil] at hS4
    have : ¬ auW a = Str.ofString "name" := by
     cases a with
     | name => exact absurd rfl hna
     | _ => first | exact ha.elim | (simp only [auW]; decide +kernel)
    rw [if_neg this]
    exact ⟨s1, pf, rfl, by rw [hS4]; exact hL1⟩
  clear s1 hL1 pf
  rintro σ H1 ⟨s1, pf, rfl, hL1⟩
  walk_at "rd"
  obtain ⟨S5, hS5⟩ : ∃ S : List Au, S = S4 ++ (if a = .name ∨ a = .value then auE c [(38, .next)] else []) := ⟨_, rfl⟩
  have l5 : S5.length ≤ 3 := by
   have := cqn (c := c) [(38, .next)]
   rw [hS5, List.length_append]
   split <;> simp only [List.length_cons, List.length_nil] at * <;> omega
  refine ⟨fun σ H2 => Same H H2 ∧ ∃ pf, σ = [some (.ref q), some (.str ⟨#[c]⟩), some (.str (auW a)), some (.ref pf)] ∧ LsA H2 pf S5, ?_, ?_⟩
  ·refine ⟨by decide, fun p1 H2 _ s2 hp1 => ⟨p1, _, rfl, .inr (.of hp1), rfl, rfl, _, rfl, ?_⟩⟩
   by_cases hna : a = .name ∨ a = .value
   ·have e : (if false = true then !inV (V.str (auW a)) [V.str (Str.ofString "name"), V.str (Str.ofString "value")] else inV (V.str (auW a)) [V.str (Str.ofString "name"), V.str (Str.ofString "value")]) = true := by rcases hna with rfl | rfl <;> (simp only [auW]; decide +kernel)
    rw [e, if_pos rfl]
    rw [if_pos hna] at hS5
    refine ⟨by decide, fun p4 H4 n4 s4 hp4 => ⟨by decide, fun p5 H5 n5 s5 hp5 => ⟨by decide, fun p6 H6 n6 s6 hp6 => ?_⟩⟩⟩
    refine ⟨c, p6, [(38, .next)], rfl, eda1 hp6 (s6 _ _ hp5) (.tup ((s5.trans s6) _ _ hp4) (.cons (.str _) .nil)), by decide, fun q7 H7 s7 hL7 => ?_⟩
    have s47 := (((s2.trans s4).trans s5).trans s6).trans s7
    exact dq7 (hL1.mono s47) hL7 (by omega) (Nat.le_trans (cqn _) (by decide)) (fun p8 H8 n8 s8 L8 => ⟨(s1.trans s47).trans s8, p8, rfl, by rw [hS5]; exact L8⟩)
   ·have e : (if false = true then !inV (V.str (auW a)) [V.str (Str.ofString "name"), V.str (Str.ofString "value")] else inV (V.str (auW a)) [V.str (Str.ofString "name"), V.str (Str.ofString "value")]) = false := by
     cases a with
     | name => exact absurd (.inl rfl) hna
     | value => exact absurd (.inr rfl) hna
     | _ => first | exact ha.elim | (simp only [auW]; decide +kernel)
    rw [e, if_neg (by decide)]
    rw [if_neg hna, List.append_nil] at hS5
    exact ⟨s1.trans s2, pf, rfl, by rw [hS5]; exact hL1.mono s2⟩
  clear s1 hL1 pf
  rintro σ H1 ⟨s1, pf, rfl, hL1⟩
  walk_at "rd"
  obtain ⟨S6, hS6⟩ : ∃ S : List Au, S = S5 ++ (if a ≠ .next then auE c [(35, .mark)] else []) := ⟨_, rfl⟩
  refine ⟨fun σ H2 => Same H H2 ∧ ∃ pf, σ = [some (.ref q), some (.str ⟨#[c]⟩), some (.str (auW a)), some (.ref pf)] ∧ LsA H2 pf S6, ?_, ?_⟩
  ·by_cases hne : a = .next
   ·rw [if_neg (fun z => z hne), List.append_nil] at hS6
    rw [if_neg (fun z => z (by rw [hne]; rfl))]
    exact ⟨s1, pf, rfl, by rw [hS6]; exact hL1⟩
   ·rw [if_pos hne] at hS6
    have : ¬ auW a = Str.ofString "next" := by
     cases a with
     | next => exact absurd rfl hne
     | _ => first | exact ha.elim | (simp only [auW]; decide +kernel)
    rw [if_pos this]
    refine ⟨by decide, fun p4 H4 n4 s4 hp4 => ⟨by decide, fun p5 H5 n5 s5 hp5 => ⟨by decide, fun p6 H6 n6 s6 hp6 => ?_⟩⟩⟩
    refine ⟨c, p6, [(35, .mark)], rfl, eda1 hp6 (s6 _ _ hp5) (.tup ((s5.trans s6) _ _ hp4) (.cons (.str _) .nil)), by decide, fun q7 H7 s7 hL7 => ?_⟩
    have s47 := ((s4.trans s5).trans s6).trans s7
    exact dq7 (hL1.mono s47) hL7 (by omega) (Nat.le_trans (cqn _) (by decide)) (fun p8 H8 n8 s8 L8 => ⟨(s1.trans s47).trans s8, p8, rfl, by rw [hS6]; exact L8⟩)
  clear s1 hL1 pf
  rintro σ H1 ⟨s1, pf, rfl, hL1⟩
  walk_at "rd"
  have fin : move a c = S6 := by
   rw [hS6, hS5, hS4, hS3]
   cases a with
   | step => exact absurd rfl nst
   | between => exact absurd rfl nbt
   | mark => exact absurd rfl nmk
   | value => simp [move]
   | name => simp [move]
   | first => simp [move]
   | next => simp [move]
   | _ => exact ha.elim
  rw [fin] at k
  exact k pf H1 s1 hL1
theorem cqs (g : G K mg) : FnOk P w K mg base CX0 3 g.eqr g.dqL ["_law_text", "_law_here", "_law_part", "_law_free"] (hqE K) := by
 refine g.bqB.ok dqQ (fun vs H Q E h => ?_) (fun cdv A outer s H vs Q E hr h => ?_)
 ·obtain ⟨t, w, r, s, fr, i, rfl, _⟩ := h; rfl
 ·obtain ⟨t, w, r, s, fr, i, rfl, hl, hat, hw, hf, hfl, hf128, k⟩ := h
  refine ⟨_, (aqf (kqV PassesOwn.never rfl (tqF (pv 2)) (bqN (i := 4) dqQ.nd rfl (Or.inl rfl))
   (aqf (aqC (aqi mqB (pv 1) aqj (nomark _))
    (aqe (aql (lq3 iqz aqj))) aqm)
   (aqe (aqC (PW.pt (dqV (aqi dq2 (dqi (eqM (K := K) rfl) (pv 0) (bqU (pv 1)) (bqU (aqN (aqJ (K := K)) (pv 1) aqj))) (pv 4) (nomark _)) (cqG (PW.pt (hqy (aqQ (aqh (mqf g) (hr.mono (by decide)) rfl g.jqN g.gqy.kp g.jqG .nil pass0 (aqa (pv 4) aqb))) (gq7 (aqi gqq (pv 4) (pv 3) (by with_unfolding_all rfl))))))))
    (aqe (aqp (i := 1) dqQ.nd rfl (Or.inl rfl) (aqN (aqJ (K := K)) (pv 1) aqj))) (aqe (aqC (PW.pt (dqV (aqi dq2 (dqi (eqM (K := K) rfl) (pv 0) (bqU (pv 1)) (bqU (aqN (aqJ (K := K)) (pv 1) aqj))) aqg (nomark _)) (cqG (aqi dq2 (hqX (K := K) rfl PySem.F.plainAttrs_str PySem.F.slot_str_lower PySem.F.type_str_lower oq5 (dqi (eqM (K := K) rfl) (pv 0) (bqU (aqN (aqJ (K := K)) (pv 1) aqj)) (bqU (aqN (aqJ (K := K)) (pv 1) aqj)))) (aqh (nq9 g) (hr.mono (by decide)) rfl g.lqH g.jqj.kp g.lqC .nil pass0 (aqa (pv 4) aqb)) (nomark _)))))
    (aqe (aqp (i := 1) dqQ.nd rfl (Or.inl rfl) (aqN (aqJ (K := K)) (pv 1) aqj))) (aqe (aql (lq3 iqz aqj)))))))))
   (aqe (aql (pv 1)))), ?_⟩
  walk_at "rd"
  refine sqn (fun j σ H' => Same H H' ∧ ∃ (w' : List Nat) (i' : Nat) (v4 : Option V), σ = [some (.str ⟨t.toArray⟩), some (.int (i' : Int)), some (.str ⟨s.toArray⟩), some (.str ⟨fr.toArray⟩), v4] ∧ WrT fr (s.drop j) w' ∧ At t i' (w' ++ r) ∧ i' + w'.length = i + w.length) ⟨Same.refl _, w, i, none, rfl, hw, hat, rfl⟩ ?_ ?_
  ·rintro j c σ H1 hc ⟨s1, w', i', v4, rfl, hw', hat', he⟩
   have hj : j < s.length := (List.getElem?_eq_some_iff.mp hc).1
   have hd : s.drop j = c :: s.drop (j + 1) := by
    rw [List.drop_eq_getElem_cons hj]
    congr 1
    exact (List.getElem?_eq_some_iff.mp hc).2
   rw [hd] at hw'
   have hlen := hat'.len
   have hA := hat'.1
   have hB : t.drop (i' + 1) = (w' ++ r).drop 1 := by rw [← List.drop_drop, hA]
   walk_at "rd"
   rw [if_neg (by omega), show ((i' : Int) + 1) = ((i' + 1 : Nat) : Int) by omega, show ((i' : Int) + 3) = ((i' + 3 : Nat) : Int) by omega, gq1, gq1, show i' + 1 - i' = 1 by omega, show i' + 3 - (i' + 1) = 2 by omega, hA, hB]
   refine ⟨aqz (by omega), ?_⟩
   cases hw' with
   | self hp hne hw2 =>
    rename_i w2
    have hc128 : c < 128 := hp.elim (fun z => vq7 z) (fun z => hf128 c z)
    rw [if_pos (by rfl)]
    refine ⟨hc128, ?_⟩
    have fin : Same H H1 ∧ ∃ (w' : List Nat) (i2 : Nat) (v4 : Option V), (((i' + 1 : Nat) : Int) = (i2 : Int) ∧ some (V.str { cps := #[c] }) = v4) ∧ WrT fr (List.drop (j + 1) s) w' ∧ At t i2 (w' ++ r) ∧ i2 + w'.length = i + w.length :=
     ⟨s1, w2, i' + 1, _, ⟨rfl, rfl⟩, hw2, At.step (w := [c]) hat', by simp only [List.length_cons] at he; omega⟩
    by_cases hpl : isPl c = true
    ·rw [if_pos hpl]; exact fin
    ·rw [if_neg hpl, if_pos (hp.elim (fun z => absurd z hpl) id)]
     exact fin
   | pair hs hw2 =>
    rename_i a b w2
    obtain ⟨_, ha, hb, hsg⟩ := kqJ hs
    have hc128 : c < 128 := wqC hs
    have fin : t.length ≤ sizeLine ∧ if ({ cps := ((126 :: a :: b :: w2 ++ r).take 1).toArray } : Str) = { cps := #[126] } then
      t.length ≤ sizeLine ∧ (∀ c ∈ ({ cps := (((126 :: a :: b :: w2 ++ r).drop 1).take 2).toArray } : Str).cps.toList, c < 128) ∧ ({ cps := (((126 :: a :: b :: w2 ++ r).drop 1).take 2).toArray } : Str).length ≤ 1000000 ∧ isSg c = true ∧
       if ({ cps := Array.map PyProof.Rows.lo1 ({ cps := (((126 :: a :: b :: w2 ++ r).drop 1).take 2).toArray } : Str).cps } : Str) = { cps := #[hexd (c / 16), hexd (c % 16)] } then
        Same H H1 ∧ ∃ (w' : List Nat) (i2 : Nat) (v4 : Option V), (((i' + 3 : Nat) : Int) = (i2 : Int) ∧ some (V.str { cps := #[c] }) = v4) ∧ WrT fr (List.drop (j + 1) s) w' ∧ At t i2 (w' ++ r) ∧ i2 + w'.length = i + w.length
       else Q (V.int (-1)) H1
      else Q (V.int (-1)) H1 := by
     refine ⟨aqz (by omega), ?_⟩
     rw [if_pos (by rfl)]
     refine ⟨aqz (by omega), ?_, ?_, hsg, ?_⟩
     ·show ∀ c ∈ [a, b], c < 128
      intro x hx
      simp only [List.mem_cons, List.not_mem_nil, or_false] at hx
      rcases hx with rfl | rfl
      ·exact ha
      ·exact hb
     ·show 2 ≤ 1000000
      decide
     ·have e : Array.map PyProof.Rows.lo1 ({ cps := (((126 :: a :: b :: w2 ++ r).drop 1).take 2).toArray } : Str).cps = #[hexd (c / 16), hexd (c % 16)] := sqx hs
      rw [e, if_pos rfl]
      exact ⟨s1, w2, i' + 3, _, ⟨rfl, rfl⟩, hw2, At.step (w := [126, a, b]) hat', by simp only [List.length_cons] at he; omega⟩
    refine ite2 (fun z => ?_) (fun _ => fin)
    have z : [126] = [c] := congrArg (fun x : Str => x.cps.toList) z
    have z : c = 126 := by injection z with z; exact z.symm
    refine ⟨hc128, ?_⟩
    rw [if_neg (by rw [z]; decide), if_neg (by rw [z]; exact hf)]
    exact fin
  ·rintro σ H1 ⟨s1, w', i', v4, rfl, hw', hat', he⟩
   rw [show s.drop (⟨s.toArray⟩ : Str).length = [] from List.drop_length] at hw'
   cases hw'
   walk_at "rd"
   rw [← he] at k
   exact k H1 s1
theorem oqj (g : G K mg) : FnOk P w K mg base CX0 4 g.hqd g.fqW ["thing"] oqK := by
 refine g.jql.ok oqD (fun vs H Q E h => ?_) (fun cdv A outer s H vs Q E hr h => ?_)
 ·obtain ⟨d, v, rfl, _⟩ := h; rfl
 ·obtain ⟨d, v, rfl, hv, hs, k⟩ := h
  refine ⟨_, (aqe (aql (kq9 (aq1 gqk (pv 0) bqo (nomark _)) (bqG (cqr (aqh (dqv g) (hr.mono (by decide)) rfl g.cqC g.bqF.kp g.cqy .nil pass0 (aqa (pv 0) aqb)) (bqG (aq1 qqp (aqA (aqT (K := K) rfl) rfl g.gqo PySem.boot_len (aqa (pv 0) aqb)) (aqy (v := gq8) rfl g.eqQ ⟨_, rfl⟩) (nomark _)))))))), ?_⟩
  cases hv with
  | non => walk_at "rd"; exact k H (Same.refl _)
  | bl b => walk_at "rd"; exact ⟨_, _, rfl, .bl b, hs, fun H1 s1 => ⟨false, rfl, k H1 s1⟩⟩
  | int b => walk_at "rd"; exact ⟨_, _, rfl, .int b, hs, fun H1 s1 => ⟨false, rfl, k H1 s1⟩⟩
  | lst hp r => walk_at "rd"; exact ⟨_, _, rfl, .lst hp r, hs, fun H1 s1 => ⟨false, rfl, k H1 s1⟩⟩
  | tup hp r => walk_at "rd"; exact ⟨_, _, rfl, .tup hp r, hs, fun H1 s1 => ⟨false, rfl, k H1 s1⟩⟩
  | str x =>
   walk_at "rd"
   refine ⟨_, _, rfl, .str x, hs, fun H1 s1 => ?_⟩
   walk_at "rd"
   have k1 := k H1 s1
   refine ite2 (fun h => ⟨aqz (iqf hs), ?_⟩) (fun h => ?_)
   ·rw [show houD (.str x) = decide ((x.length : Int) ≤ 60) by
     show (ftx (.str x) && decide (x.length ≤ 60)) = _
     rw [h, Bool.true_and]; exact decide_eq_decide.mpr (by omega)] at k1
    exact k1
   ·rw [show houD (.str x) = false by
     show (ftx (.str x) && decide (x.length ≤ 60)) = _
     rw [(Bool.not_eq_true _).mp h, Bool.false_and]] at k1
    exact k1
theorem oqO (g : G K mg) : FnOk P w K mg base CX0 4 g.hqr g.fqS ["thing"] oqv := by
 refine g.jqc.ok oqp (fun vs H Q E h => ?_) (fun cdv A outer s H vs Q E hr h => ?_)
 ·obtain ⟨d, v, rfl, _⟩ := h; rfl
 ·obtain ⟨d, v, rfl, hv, hs, k⟩ := h
  refine ⟨_, (aqe (aql (cqr (aqA cqu rfl g.aqR aqG (aqa (pv 0) (aqa (eqK (v := .ty "tuple") rfl g.jqh iqI rfl) aqb))) (bqG (aqA (kqY (K := K) rfl rfl) rfl g.sqi PyProof.Rows.boot_all (aqa (kql (fx := []) (fr := []) rfl rfl (by decide +kernel) rfl (by decide +kernel) rfl (by decide +kernel) rfl .nil rfl (qqC (K := K) rfl (pv 0)) (fun _ _ _ => mq4) (fun _ _ _ => (aqh (dqv g) (hr.mono (by decide)) rfl g.cqC g.bqF.kp g.cqy .nil pass0 (aqa (pv 0) aqb)))) aqb)))))), ?_⟩
  cases hv with
  | lst hp r => walk_at "rd"; simp only [hqt hp]; walk_at "rd"; exact k H (Same.refl _)
  | @tup p xs ds hp r =>
   walk_at "rd"; simp only [hqg hp]; walk_at "rd"
   refine ⟨⟨_, SqT.of hp⟩, fun q hq => ?_⟩
   refine nq1 (zs := ds.map fun d => .bl (ftx d)) (SqT.of hp) (by rw [← r.length]; exact aqz (eq0 hs).1) hq (by rw [List.length_map]; exact r.length) (fun i x z hx hz H' T sm hT => ?_) (fun H' sm hq' => ?_)
   ·obtain ⟨d, hd, hi⟩ := r.at i x hx
    rw [List.getElem?_map, hd] at hz
    cases hz
    walk_at "rd"
    exact ⟨d, x, rfl, hi.mono sm, aqX (eq0 hs).2 (List.mem_of_getElem? hd), fun H'' s => hT H'' s⟩
   ·refine mqh.mpr ⟨ds.map ftx, SqL.of (by rw [hq', List.map_map]; rfl), ?_⟩
    rw [List.all_map]
    exact k H' sm
  | _ => walk_at "rd"; exact k H (Same.refl _)
theorem oqe (g : G K mg) : FnOk P w K mg base CX0 4 g.hqm g.gqa ["thing"] oqb := by
 refine g.iq5.ok oqI (fun vs H Q E h => ?_) (fun cdv A outer s H vs Q E hr h => ?_)
 ·obtain ⟨d, v, rfl, _⟩ := h; rfl
 ·obtain ⟨d, v, rfl, hv, hs, k⟩ := h
  refine ⟨_, (aqe (aql (cqr (aqh (hqV g) (hr.mono (by decide)) rfl g.hqw g.fqE.kp g.hqk .nil pass0 (aqa (pv 0) (aqa aqj aqb))) (cqr (aqh (dqv g) (hr.mono (by decide)) rfl g.cqC g.bqF.kp g.cqy .nil pass0 (aqa (aqK (aqn (K := K) rfl) (pv 0) aqj (fun _ _ => rfl)) aqb)) (bqG (aqh (fqm g) (hr.mono (by decide)) rfl g.dqu g.cqk.kp g.dqt .nil pass0 (aqa (aqK (aqn (K := K) rfl) (pv 0) aqj (fun _ _ => rfl)) aqb))))))), ?_⟩
  walk_at "rd"
  refine ⟨d, v, 2, rfl, hv, ?_⟩
  walk_at "rd"
  refine ite2 (fun h => ?_) (fun h => ?_)
  ·obtain ⟨a, b, rfl⟩ := tup2 h
   have hs2 := (eq0 hs).2
   have sa : smallD a = true := aqX hs2 (by simp)
   have sb : smallD b = true := aqX hs2 (by simp)
   cases hv with
   | @tup p xs ds hp r =>
    obtain ⟨x0, x1, rfl, h0, h1⟩ := isAll2 r
    walk_at "rd"
    refine ⟨_, x0, .inr (SqT.of hp), aqu (j := 0) rfl, a, x0, rfl, h0, sa, fun H1 s1 => ?_⟩
    walk_at "rd"
    refine ite2 (fun h2 => ⟨_, x1, .inr (SqT.of (s1 _ _ hp)), aqu (j := 1) rfl, b, x1, rfl, h1.mono s1, sb, fun H2 s2 => ?_⟩) (fun h2 => ?_)
    ·have k2 := k H2 (s1.trans s2)
     simp only [askD, h2, Bool.true_and] at k2
     exact k2
    ·have k2 := k H1 s1
     simp only [askD, (Bool.not_eq_true _).mp h2, Bool.false_and] at k2
     exact k2
  ·have k1 := k H (Same.refl _)
   rw [uq1 h] at k1
   exact k1
theorem jq6 (g : G K mg) : FnOk P w K mg base CX0 4 g.dqN g.cqZ ["cursor"] (kqj K g.aqs) := by
 refine g.fqx.ok gqX (fun vs H Q E h => ?_) (fun cdv A outer s H vs Q E hr h => ?_)
 ·obtain ⟨p, t, rfl, _⟩ := h; rfl
 ·obtain ⟨p, t, rfl, hcur, hl, k⟩ := h
  refine ⟨_, (aqf (aqp (i := 1) gqX.nd rfl (Or.inl rfl) (aqK (aqn (K := K) rfl) (fqi (K := K) rfl PySem.F.plainAttrs_str PySem.F.slot_str_partition PySem.F.type_str_partition mq8 (cqq (pv 0) rfl) (aqa aqg aqb)) aqj (fun _ _ => rfl)))
   (aqf (aqC (PW.pt (hqy (aqi dq2 (pv 1) aqg (nomark _)) (hqy (dqd (aqQ (aqh (jqL g) (hr.mono (by decide)) rfl g.hqS g.gql.kp g.hqT .nil pass0 (aqa (pv 1) aqb)))) (gq7 (dqd (aqQ (cq1 (pv 0) g.aqk g.aqD (aqH g) (hr.mono (by decide)) g.aqF .nil pass0 (aqa (aqN (dqz (K := K) rfl) (pv 1) aqg) aqb))))))))
    (aqe (aql aqg)) aqm)
   (aqe (aql (pv 1))))), ?_⟩
  have e1 : Str.ofString ":" = ⟨[58].toArray⟩ := by decide +kernel
  rw [e1]
  walk_at "rd"
  refine gqp hcur g.aqk g.aq6 ⟨rfl, tqB.mpr ⟨by decide, aqz (show t.length ≤ 100000 by omega), fun q hq => ?_⟩⟩
  rw [show (⟨#[58]⟩ : Str) = ⟨[58].toArray⟩ from rfl, pqI]
  have sm1 := fqu (o := .tup [.str ⟨(ahead t).toArray⟩, .str (Txt.partition ⟨t.toArray⟩ ⟨[58].toArray⟩).2.1, .str (Txt.partition ⟨t.toArray⟩ ⟨[58].toArray⟩).2.2]) hq
  have hq1 : (upd H q (.tup [.str ⟨(ahead t).toArray⟩, .str (Txt.partition ⟨t.toArray⟩ ⟨[58].toArray⟩).2.1, .str (Txt.partition ⟨t.toArray⟩ ⟨[58].toArray⟩).2.2])) q = some (.tup [.str ⟨(ahead t).toArray⟩, .str (Txt.partition ⟨t.toArray⟩ ⟨[58].toArray⟩).2.1, .str (Txt.partition ⟨t.toArray⟩ ⟨[58].toArray⟩).2.2]) := aqw
  generalize upd H q (.tup [.str ⟨(ahead t).toArray⟩, .str (Txt.partition ⟨t.toArray⟩ ⟨[58].toArray⟩).2.1, .str (Txt.partition ⟨t.toArray⟩ ⟨[58].toArray⟩).2.2]) = H1 at sm1 hq1 ⊢
  have c1 := hcur.same sm1
  have hal := pq8 t
  walk_at "rd"
  refine ⟨_, _, .inr (.of hq1), rfl, ?_⟩
  rw [L2.fqB]
  refine ⟨_, rfl, ?_⟩
  by_cases h1 : ahead t = []
  ·rw [decide_eq_true (by rw [h1]), if_pos rfl]
   obtain ⟨z1, z2⟩ := hq0 (t := t) (fun z => z.1 h1)
   have := k H1 sm1.but (by rw [z2]; exact c1)
   rw [z1] at this
   exact this
  rw [decide_eq_false (fun z => h1 (hqJ.mp z)), if_neg (by decide)]
  refine ⟨.str ⟨(ahead t).toArray⟩, _, rfl, .str _, by simp [smallD, Str.length]; omega, fun H2 s2 => ⟨_, rfl, ?_⟩⟩
  have c2 := c1.same s2
  have sm2 := sm1.trans s2
  cases h2 : schD (.str ⟨(ahead t).toArray⟩) with
  | false =>
   rw [if_pos rfl]
   obtain ⟨z1, z2⟩ := hq0 (t := t) (fun z => by rw [h2] at z; cases z.2.1)
   have := k H2 sm2.but (by rw [z2]; exact c2)
   rw [z1] at this
   exact this
  | true =>
   rw [if_neg (by decide)]
   refine aqS c2 ?_
   rw [show (⟨#[58]⟩ : Str) = ⟨[58].toArray⟩ from rfl]
   walk_at "rd"
   refine ⟨aqz (by simp; omega), ?_⟩
   by_cases h3 : t[(ahead t).length]? = some 58
   ·obtain ⟨z1, z2⟩ := hqe h1 h2 h3
    have ht := (lqM t).mpr h3
    refine rq2 (w := ahead t ++ [58]) (r := t.drop (ahead t ++ [58]).length) c2 (Nat.zero_le _) (by omega) ?_ fun H3 s3 c3 _ _ => ⟨_, rfl, ?_⟩
    ·rw [List.drop_zero]
     conv => lhs; rw [← List.take_append_drop (ahead t ++ [58]).length t, ht]
    rw [if_neg (by decide)]
    have := k H3 (sm2.but.trans s3) (by rw [z2]; rw [Nat.zero_add] at c3; exact c3)
    rw [z1] at this
    exact this
   ·obtain ⟨z1, z2⟩ := hq0 (t := t) (fun z => h3 z.2.2)
    refine tqI (w := ahead t ++ [58]) c2 (Nat.zero_le _) (by omega) (by rw [List.drop_zero]; exact fun z => h3 ((lqM t).mp z)) ⟨_, rfl, ?_⟩
    rw [if_pos rfl]
    have := k H2 sm2.but (by rw [z2]; exact c2)
    rw [z1] at this
    exact this
theorem bqI (g : G K mg) : FnOk P w K mg base (CXN P w base) 4 g.fqj g.dqj ["cursor", "free", "most"] (lqj K g.aqs g.aqx) := by
 refine g.bqx.okn fqU (fun vs H Q E h => ?_) (fun cdv A outer s H vs Q E hr h => ?_)
 ·obtain ⟨p, t, fr, i, mo, rfl, _⟩ := h; rfl
 ·obtain ⟨p, t, fr, i, mo, rfl, hcur, hi, hl, h128, hfl, k1, k2⟩ := h
  refine ⟨_, (aqf (aqp (i := 3) fqU.nd rfl (Or.inl rfl) (wqk aqb))
   (aqf (aqp (i := 4) fqU.nd rfl (Or.inl rfl) (aqN (dqz (K := K) rfl) (aqN (dqz (K := K) rfl) (aqy (v := qq8) rfl g.rqQ ⟨_, rfl⟩) (pv 1)) aqg))
   (aqf (jq4 PassesOwn.leaving (PW.pt (dqV (PW.pt (hqy (aqi gqk (pv 2) bqo (nomark _)) (gq7 (aqi mqB (aqA (aqT (K := K) rfl) rfl g.gqo PySem.boot_len (aqa (pv 3) aqb)) (pv 2) (nomark _))))) (cqG (aqQ (cq1 (pv 0) g.aqk g.cqt (dqM g) (hr.mono (by decide)) g.dqh .nil pass0 (aqa (pv 4) aqb))))))
   (aqe (gqc (fqi (K := K) rfl PySem.F.plainAttrs_list PySem.F.slot_list_append PySem.F.type_list_append dqW (pv 3) (aqa (jqZ (aqQ (cq1 (pv 0) g.aqk g.aqD (aqH g) (hr.mono (by decide)) g.aqF .nil pass0 (aqa aqg aqb))) (aqh (kq3 g) (hr.mono (by decide)) rfl g.jqr g.gqN.kp g.jqv .nil aqO (aqa (pv 0) aqb)) (gqm (pv 0) g.aqk g.bqM (cqo g) (hr.mono (by decide)) g.cqc .nil pass0)) aqb)))))
   (aqe (aql (fqi (K := K) rfl PySem.F.plainAttrs_str PySem.F.slot_str_join PySem.F.type_str_join (oqW (K := K) rfl) aqg (aqa (pv 3) aqb))))))), ?_⟩
  have eP : qq8 = .str ⟨plS.toArray⟩ := by
   show V.str (Str.ofString _) = _
   unfold plS; simp
  rw [eP]
  walk_at "rd"
  refine ⟨by decide, fun q hq => ⟨aqz (by rw [qqZ]; omega), aqz (by rw [List.length_append, qqZ]; omega), ?_⟩⟩
  have hqp : q ≠ p := by obtain ⟨dx, hp⟩ := hcur; exact (aqr hp hq).symm
  refine lq2 (fun m σ H' => ∃ (dn : List Nat) (n : Nat) (mo' : Option Nat), m = t.length - (i + n) ∧ i + n ≤ t.length ∧ dn.length ≤ n ∧ mo' = mo.map (fun z => z - dn.length) ∧ Capd mo dn.length ∧ σ = [some (.ref p), some (.str ⟨fr.toArray⟩), some (moV mo), some (.ref q), some (.str ⟨(plS ++ fr ++ [126]).toArray⟩)] ∧ H' q = some (.lst (dn.map one)) ∧ SameBut p H H' ∧ Cur H' g.aqs p t (i + n) ∧ Via (txtM fr (t.drop i) mo) n (fun l => dn ++ l) (txtM fr (t.drop (i + n)) mo')) (t.length - i) ⟨[], 0, mo, rfl, hi, Nat.le_refl _, by cases mo <;> rfl, fun z _ => Nat.zero_le _, rfl, aqw, (fqu hq).but, ?_, Via.refl⟩ ?_
  ·obtain ⟨dx, hp⟩ := hcur
   exact ⟨dx, by rw [aqv hqp.symm]; exact hp⟩
  rintro m σ H' ⟨dn, n, mo', rfl, hin, hdn, emo, hmo, rfl, hq', sb, cur, via⟩
  have hlen : (dn.map one).length < sizeLine := by
   rw [List.length_map]
   exact Nat.lt_of_le_of_lt (show dn.length ≤ 100000 by omega) (by decide)
  have fin : txtM fr (t.drop (i + n)) mo' = .ok ([], 0) → ∃ ys : List Str, SqL K H' q (ys.map V.str) ∧ (ys.map fun x => x.length).sum + ys.length * 0 ≤ 16777216 ∧ Q (V.str (Txt.join ⟨#[]⟩ ys)) H' := fun e => by
   have e2 := via.ok e
   rw [List.append_nil, Nat.add_zero] at e2
   refine ⟨dn.map fun c => ⟨[c].toArray⟩, SqL.of (by rw [hq', List.map_map]; rfl), ?_, ?_⟩
   ·rw [rqw]
    simp only [List.length_map, Nat.mul_zero, Nat.add_zero]
    omega
   ·rw [show (⟨#[]⟩ : Str) = ⟨([] : List Nat).toArray⟩ from rfl, oq6, pqU]
    exact k1 dn n e2 H' sb cur
  have decE : ∀ c : Nat, dec mo' = mo.map (fun z => z - (dn ++ [c]).length) := fun c => by
   rw [emo]
   cases mo with
   | none => rfl
   | some z => show some (z - dn.length - 1) = some _; rw [List.length_append, List.length_singleton, Nat.sub_sub]
  have decL : mo' ≠ some 0 → ∀ c : Nat, Capd mo (dn ++ [c]).length := fun h0 c z e => by
   have := hmo z e
   subst e
   rw [List.length_append, List.length_singleton]
   have : z - dn.length ≠ 0 := fun w => h0 (by rw [emo]; show some (z - dn.length) = _; rw [w])
   omega
  cases mo
  case' none =>
   walk_at "rd"
   rw [if_pos (show moV none = V.non from rfl)]
   have h0 : mo' ≠ some 0 := by rw [emo]; intro z; cases z
  case' some mm =>
   walk_at "rd"
   rw [if_neg (by intro z; cases z)]
   refine ⟨_, .inl (.of hq'), ?_⟩
   show rI0 (fun i j => V.bl (decide (i < j))) (V.int _) (V.int (mm : Int)) H' _
   walk_at "rd"
   refine ite2 (fun hlt0 => ?_) (fun hge => fin (by
    rw [List.length_map] at hge
    have e0 : mo' = some 0 := by rw [emo]; show some (mm - dn.length) = some 0; congr 1; omega
    rw [e0]; exact jq3))
   rw [List.length_map] at hlt0
   have h0 : mo' ≠ some 0 := by
    rw [emo]
    intro z
    have z : some (mm - dn.length) = some 0 := z
    have := Option.some.inj z
    omega
  all_goals
   refine aqS cur ⟨p, t, _, i + n, rfl, cur, hin, hl, _, rfl, ?_⟩
   cases hd : t.drop (i + n) with
   | nil =>
    have hn : t[i + n]? = none := by rw [← List.head?_drop, hd]; rfl
    rw [fqJ hn, if_neg (by decide)]
    exact fin (by rw [hd]; exact cqI)
   | cons c r =>
    obtain ⟨hx, hlt⟩ := kqm hd
    have hc := h128 c (List.mem_of_getElem? hx)
    rw [fqP hx]
    by_cases hin2 : c ∈ plS ++ fr ++ [126]
    ·rw [decide_eq_true hin2, if_pos rfl]
     by_cases h126 : c = 126
     ·subst h126
      have hd3 : t.drop (i + n + 1) = r := by rw [← List.drop_drop, hd]; rfl
      refine ⟨_, fun _ _ h => h, ⟨_, .of hq'⟩, aqS cur ⟨p, t, [126], i + n, rfl, cur, hin, hl, fun _ H1 s1 c1 => ⟨_, rfl, ?_⟩, fun hp1 => absurd (by rw [hd]; rfl) hp1⟩⟩
      rw [if_pos rfl]
      refine ⟨p, t, i + n + 1, rfl, c1, by omega, hl, h128, fun c m e H2 s2 c2 => ?_, fun m e d H2 s2 hx => ?_⟩
      ·rw [hd3] at e
       obtain ⟨a, b, r2, rfl, hs, rfl, _⟩ := tqg e
       have hl2 : i + n + 3 ≤ t.length := by have := congrArg List.length hd; rw [List.length_drop] at this; simp only [List.length_cons] at this; omega
       refine ⟨_, (s1.trans s2) _ _ hqp hq', hlen, t.length - (i + (n + 3)), by omega, dn ++ [c], n + 3, dec mo', rfl, by omega, by rw [List.length_append, List.length_singleton]; omega, decE c, decL h0 c, rfl, ?_, ?_, ?_, ?_⟩
       ·rw [aqw, List.map_append]; rfl
       ·exact ((sb.trans s1).trans s2).upd hq
       ·obtain ⟨dx, hpp⟩ := c2
        exact ⟨dx, by rw [aqv hqp.symm]; exact hpp⟩
       ·have hd4 : t.drop (i + (n + 3)) = r2 := by rw [show i + (n + 3) = i + n + 3 by omega, ← List.drop_drop, hd]; rfl
        have := via.step (a := 3) (g := fun l => c :: l) (r' := txtM fr r2 (dec mo')) (by rw [hd, fqD h0, e]; exact sq5)
        rw [hd4]
        simpa using this
      ·rw [hd3] at e
       refine k2 (n + (m + 1)) (via.err ?_) d H2 ((sb.trans s1).trans s2) (by rw [hx, show i + n + 1 + m = i + (n + (m + 1)) by omega])
       rw [hd, fqD h0, e]
     ·have hpl : isPl c = true ∨ c ∈ fr := by
       rcases List.mem_append.mp hin2 with z | z
       ·exact (List.mem_append.mp z).imp (tqf hc).mp id
       ·exact absurd (List.mem_singleton.mp z) h126
      refine ⟨_, fun _ _ h => h, ⟨_, .of hq'⟩, aqS cur ⟨p, t, [126], i + n, rfl, cur, hin, hl, fun hp1 => ?_, fun _ => ⟨_, rfl, ?_⟩⟩⟩
      ·rw [hd] at hp1
       exact absurd (List.cons.inj hp1).1 h126
      rw [if_neg (by decide)]
      refine aqS cur ⟨p, t, i + n, c, rfl, cur, hx, hl, fun H1 s1 c1 => ⟨_, s1 _ _ hqp hq', hlen, t.length - (i + (n + 1)), by omega, dn ++ [c], n + 1, dec mo', rfl, by omega, by rw [List.length_append, List.length_singleton]; omega, decE c, decL h0 c, rfl, ?_, ?_, ?_, ?_⟩⟩
      ·rw [aqw, List.map_append]; rfl
      ·exact (sb.trans s1).upd hq
      ·obtain ⟨dx, hpp⟩ := c1
       exact ⟨dx, by rw [aqv hqp.symm]; exact hpp⟩
      ·have hd4 : t.drop (i + (n + 1)) = r := by rw [← Nat.add_assoc, ← List.drop_drop, hd]; rfl
       have := via.step (a := 1) (g := fun l => c :: l) (r' := txtM fr r (dec mo')) (by rw [hd, iqs h0 h126 hpl]; exact sq5)
       rw [hd4]
       simpa using this
    ·rw [decide_eq_false hin2, if_neg (by decide)]
     refine fin (lq5 ?_)
     rw [hd]
     refine lqN ⟨?_, fun z => hin2 (List.mem_append.mpr (.inl (List.mem_append.mpr (.inr z)))), fun z => hin2 (List.mem_append.mpr (.inr (List.mem_singleton.mpr z)))⟩
     cases hi2 : isPl c with
     | false => rfl
     | true => exact absurd (List.mem_append.mpr (.inl (List.mem_append.mpr (.inl ((tqf hc).mpr hi2))))) hin2
theorem mqj (g : G K mg) : FnOk P w K mg base CX0 4 g.eq7 g.eqw ["_law_state", "_law_sign"] (mqo K) := by
 refine g.gqL.ok mqE (fun vs H Q E h => ?_) (fun cdv A outer s H vs Q E hr h => ?_)
 ·obtain ⟨a, v, c, rfl, _⟩ := h; rfl
 ·obtain ⟨a, v, c, rfl, ha, hv, hc, k⟩ := h
  refine ⟨_, (aqf (aqC (aqi (dqo (K := K) rfl) (aqK (aqn (K := K) rfl) (pv 0) aqj (fun _ _ => rfl)) (aqo (aqa aqg (aqa aqg (aqa aqg (aqa aqg aqb))))) (by with_unfolding_all rfl))
    (aqe (aql (aqh (nqg g) (hr.mono (by decide)) rfl g.kqu g.hq4.kp g.kqs .nil pass0 (aqa (pv 0) (aqa (pv 1) aqb))))) aqm)
   (aqf (aqC (aqi (dqo (K := K) rfl) (aqK (aqn (K := K) rfl) (pv 0) aqj (fun _ _ => rfl)) (aqo (aqa aqg (aqa aqg (aqa aqg aqb)))) (by with_unfolding_all rfl))
    (aqe (aql (aqh (mqn g) (hr.mono (by decide)) rfl g.jqw g.gqR.kp g.jqJ .nil pass0 (aqa (pv 0) (aqa (pv 1) aqb))))) aqm)
   (aqf (aqC (aqi (dqo (K := K) rfl) (aqK (aqn (K := K) rfl) (pv 0) aqj (fun _ _ => rfl)) (aqo (aqa aqg (aqa aqg aqb))) (by with_unfolding_all rfl))
    (aqe (aql (aqh (nqe g) (hr.mono (by decide)) rfl g.kqa g.hqZ.kp g.kqd .nil pass0 (aqa (pv 0) (aqa (pv 1) aqb))))) aqm)
   (aqe (aql (aqh (nq6 g) (hr.mono (by decide)) rfl g.kqe g.hqP.kp g.kqf .nil pass0 (aqa (pv 0) (aqa (pv 1) aqb)))))))), ?_⟩
  obtain ⟨q, xs, rfl, hq, hxs⟩ := lqU hv
  walk_at "rd"
  refine ⟨_, _, .inr (.of hq), aqu (j := 0) rfl, by decide, fun p1 H1 _ s1 hp1 => ⟨p1, _, rfl, .inr (.of hp1), rfl, rfl, _, rfl, ?_⟩⟩
  by_cases h1 : isHead a
  ·have e : (if false = true then !inV (V.str (auW a)) [V.str (Str.ofString "start"), V.str (Str.ofString "scheme"), V.str (Str.ofString "colon"), V.str (Str.ofString "slash")] else inV (V.str (auW a)) [V.str (Str.ofString "start"), V.str (Str.ofString "scheme"), V.str (Str.ofString "colon"), V.str (Str.ofString "slash")]) = true := by cases a <;> first | exact h1.elim | (simp only [auW]; decide +kernel)
   rw [e, if_pos rfl]
   exact ⟨a, _, c, rfl, h1, hv.mono s1.toT, hc, fun p H' s L => k p H' (s1.trans s) L⟩
  have e : (if false = true then !inV (V.str (auW a)) [V.str (Str.ofString "start"), V.str (Str.ofString "scheme"), V.str (Str.ofString "colon"), V.str (Str.ofString "slash")] else inV (V.str (auW a)) [V.str (Str.ofString "start"), V.str (Str.ofString "scheme"), V.str (Str.ofString "colon"), V.str (Str.ofString "slash")]) = false := by cases a <;> first | exact absurd True.intro h1 | (simp only [auW]; decide +kernel)
  rw [e, if_neg (by decide)]
  refine ⟨_, _, .inr (.of (s1 _ _ hq)), aqu (j := 0) rfl, by decide, fun p2 H2 _ s2 hp2 => ⟨p2, _, rfl, .inr (.of hp2), rfl, rfl, _, rfl, ?_⟩⟩
  have s12 := s1.trans s2
  by_cases h2 : isHouse a
  ·have e : (if false = true then !inV (V.str (auW a)) [V.str (Str.ofString "slashes"), V.str (Str.ofString "house"), V.str (Str.ofString "door")] else inV (V.str (auW a)) [V.str (Str.ofString "slashes"), V.str (Str.ofString "house"), V.str (Str.ofString "door")]) = true := by cases a <;> first | exact h2.elim | (simp only [auW]; decide +kernel)
   rw [e, if_pos rfl]
   exact ⟨a, _, c, rfl, h2, hv.mono s12.toT, hc, fun p H' s L => k p H' (s12.trans s) L⟩
  have e : (if false = true then !inV (V.str (auW a)) [V.str (Str.ofString "slashes"), V.str (Str.ofString "house"), V.str (Str.ofString "door")] else inV (V.str (auW a)) [V.str (Str.ofString "slashes"), V.str (Str.ofString "house"), V.str (Str.ofString "door")]) = false := by cases a <;> first | exact absurd True.intro h2 | (simp only [auW]; decide +kernel)
  rw [e, if_neg (by decide)]
  refine ⟨_, _, .inr (.of (s12 _ _ hq)), aqu (j := 0) rfl, by decide, fun p3 H3 _ s3 hp3 => ⟨p3, _, rfl, .inr (.of hp3), rfl, rfl, _, rfl, ?_⟩⟩
  have s13 := s12.trans s3
  by_cases h3 : (∃ g, a = .pair g) ∨ ∃ g d, a = .second g d
  ·have e : (if false = true then !inV (V.str (auW a)) [V.str (Str.ofString "pair"), V.str (Str.ofString "second")] else inV (V.str (auW a)) [V.str (Str.ofString "pair"), V.str (Str.ofString "second")]) = true := by
    rcases h3 with ⟨g, rfl⟩ | ⟨g, d, rfl⟩ <;> (simp only [auW]; decide +kernel)
   rw [e, if_pos rfl]
   exact ⟨a, _, c, rfl, h3.imp id fun ⟨g, d, z⟩ => ⟨g, d, z, ha g d z⟩, hv.mono s13.toT, hc, fun p H' s L => k p H' (s13.trans s) L⟩
  have e : (if false = true then !inV (V.str (auW a)) [V.str (Str.ofString "pair"), V.str (Str.ofString "second")] else inV (V.str (auW a)) [V.str (Str.ofString "pair"), V.str (Str.ofString "second")]) = false := by
   cases a with
   | pair g => exact absurd (.inl ⟨g, rfl⟩) h3
   | second g d => exact absurd (.inr ⟨g, d, rfl⟩) h3
   | _ => simp only [auW]; decide +kernel
  rw [e, if_neg (by decide)]
  refine ⟨a, _, c, rfl, ?_, hv.mono s13.toT, hc, fun p H' s L => k p H' (s13.trans s) L⟩
  cases a with
  | pair g => exact absurd (.inl ⟨g, rfl⟩) h3
  | second g d => exact absurd (.inr ⟨g, d, rfl⟩) h3
  | step => exact True.intro
  | between => exact True.intro
  | mark => exact True.intro
  | value => exact True.intro
  | name => exact True.intro
  | first => exact True.intro
  | next => exact True.intro
  | slashes => exact absurd True.intro h2
  | house n => exact absurd True.intro h2
  | door v => exact absurd True.intro h2
  | _ => exact absurd True.intro h1
theorem oqw (g : G K mg) : FnOk P w K mg base CX0 4 g.hqi g.fqX ["_law_text", "_law_here", "_law_way_here", "_law_held"] (oqM K) := by
 refine g.iq4.ok bqC (fun vs H Q E h => ?_) (fun cdv A outer s H vs Q E hr h => ?_)
 ·obtain ⟨t, g, w, r, i, rt, ss, e, held, v, rfl, _⟩ := h; rfl
 ·obtain ⟨t, gg, w, r, i, rt, ss, e, held, v, rfl, hv, hsg, hsl, hl, hat, hgg, hw, k⟩ := h
  refine ⟨_, (aqf (tqC (pv 2) (oqP (n := 3) (K := K) rfl rfl (dqk (bqN (i := 4) bqC.nd rfl (Or.inl rfl)) (dqk (bqN (i := 5) bqC.nd rfl (Or.inl rfl)) (dqk (bqN (i := 6) bqC.nd rfl (Or.inl rfl)) oqg)))))
   (aqf (aqC (aqi (pqg hr.units) (pv 5) (aqo aqb) (nomark _))
    (aqf (aqC (PW.pt (dqV (aqQ (pv 4)) (cqG (aqi dq2 (dqi (eqM (K := K) rfl) (pv 0) (bqU (pv 1)) (bqU (aqN (aqJ (K := K)) (pv 1) aqj))) aqg (nomark _)))))
    (aqe (aql (aqN (aqJ (K := K)) (pv 1) aqj))) aqm)
   (aqe (aql (aqK (aqn (K := K) rfl) (aqL (aqa (lq3 iqz aqj) (aqa (pv 1) aqb))) (dqb kq1 rfl g.mqN jqx (aqa (kq9 (pv 3) (bqG (mq6 (pv 4)))) aqb)) (fun _ _ => rfl))))) aqm)
   (aqE (aqC (aqQ (pv 4))
    (aqe (aqp (i := 1) bqC.nd rfl (Or.inl rfl) (aqh (aq7 g) (hr.mono (by decide)) rfl g.bqc g.aq4.kp g.bqd .nil pass0 (aqa (pv 0) (aqa (pv 1) (aqa aqg aqb)))))) aqm)
   (aqE (kqV PassesOwn.never rfl (iqJ rfl g.kqC (aqa (aqA (aqT (K := K) rfl) rfl g.gqo PySem.boot_len (aqa (pv 5) aqb)) aqb)) (bqN (i := 7) bqC.nd rfl (Or.inl rfl))
   (aqf (aqC (aqi kqO (pv 7) aqj (nomark _))
    (aqe (aqp (i := 1) bqC.nd rfl (Or.inl rfl) (aqh (aq7 g) (hr.mono (by decide)) rfl g.bqc g.aq4.kp g.bqd .nil pass0 (aqa (pv 0) (aqa (pv 1) (aqa aqg aqb)))))) aqm)
   (aqe (aqp (i := 1) bqC.nd rfl (Or.inl rfl) (aqh (cqs g) (hr.mono (by decide)) rfl g.bq4 g.bqB.kp g.cqj .nil pass0 (aqa (pv 0) (aqa (pv 1) (aqa (aqK (aqn (K := K) rfl) (pv 5) (pv 7) (fun _ _ => rfl)) (aqa aqg aqb)))))))))
   (aqf (aqC (aqQ (pv 6))
    (aqe (aqp (i := 1) bqC.nd rfl (Or.inl rfl) (aqh (aq7 g) (hr.mono (by decide)) rfl g.bqc g.aq4.kp g.bqd .nil pass0 (aqa (pv 0) (aqa (pv 1) (aqa aqg aqb)))))) aqm)
   (aqe (aql (pv 1)))))))), ?_⟩
  obtain ⟨pw, ps, rfl, hp, hps⟩ := vqm hv
  have es : Str.ofString "/" = ⟨[47].toArray⟩ := by decide +kernel
  have efr : Str.ofString "!$'()*,;@&=+" = ⟨frS.toArray⟩ := by decide +kernel
  have hlen := hat.len
  have hlen' : i + ((gg ++ w).length + r.length) = t.length := by rw [← List.length_append]; exact hlen
  walk_at "rd"
  refine ⟨pw, _, rfl, .of hp, rfl, _, _, rfl, _, _, rfl, _, _, rfl, rfl, by decide, fun p1 H1 n1 s1 hp1 => ?_⟩
  refine ⟨_, .tuple [], (.tup (s1 _ _ hps) (IsTAll.strs ss).is), .tup hp1 .nil, mq1 hsg, by decide +kernel, _, rfl, ?_⟩
  rw [tqU]
  cases ss with
  | nil =>
   cases hw
   rw [show (List.map (fun z => PyData.str ⟨z.toArray⟩) ([] : List (List Nat))).isEmpty = true from rfl, if_pos rfl]
   refine ⟨_, rfl, ?_⟩
   rw [show ((i : Int) + 1) = ((i + 1 : Nat) : Int) by omega, gq1, show i + 1 - i = 1 by omega, hat.1, es]
   have at1 : ∀ H' p, H' p = some (.lst [V.int (-1), V.int (i : Int)]) → (SqL K H' p [V.int (-1), V.int (i : Int)] ∨ SqT K H' p [V.int (-1), V.int (i : Int)]) := fun H' p h => .inl (.of h)
   cases rt with
   | true =>
    rw [if_pos rfl]
    refine ⟨aqz (by omega), ?_⟩
    rcases hgg with hgg | ⟨rfl, _, _, rfl, hh⟩
    ·rw [if_pos rfl] at hgg
     subst hgg
     rw [if_pos (by rfl)]
     exact k H1 s1
    ·have hh' : ¬ ((⟨(([] ++ [] ++ r : List Nat).take 1).toArray⟩ : Str) = ⟨[47].toArray⟩) := fun z => by
      have z := hqO.mp z
      cases r with
      | nil => cases z
      | cons c r => injection z with z; exact hh (by rw [z]; rfl)
     rw [if_neg hh']
     refine ⟨by decide, fun p2 H2 n2 s2 hp2 => ?_⟩
     rw [if_pos rfl]
     exact ⟨_, _, at1 _ _ hp2, rfl, k H2 (s1.trans s2)⟩
   | false =>
    rw [if_neg (by decide)]
    have hgg : gg = [] := hgg.elim (fun z => z) (fun z => z.1)
    subst hgg
    refine ⟨by decide, fun p2 H2 n2 s2 hp2 => ?_⟩
    refine ite2 (fun _ => ⟨_, _, at1 _ _ hp2, rfl, k H2 (s1.trans s2)⟩) (fun _ => ⟨_, rfl, _, _, at1 _ _ hp2, rfl, k H2 (s1.trans s2)⟩)
  | cons s0 ss0 =>
   rw [if_neg (by simp)]
   have hgg : gg = (if rt = true then [47] else []) := hgg.elim id (fun z => by cases z.2.2.1)
   refine ⟨fun σ H2 => Same H H2 ∧ ∃ i2 : Nat, σ = [some (.str ⟨t.toArray⟩), some (.int (i2 : Int)), some (.ref pw), some (.bl held), some (.bl rt), some (.ref ps), some (.bl e), none] ∧ At t i2 (w ++ r) ∧ i2 + w.length = i + (gg ++ w).length, ⟨_, rfl, ?_⟩, ?_⟩
   ·cases rt with
    | true =>
     rw [if_pos rfl]
     rw [if_pos rfl] at hgg
     subst hgg
     rw [es]
     exact ⟨t, [47], w ++ r, i, rfl, hl, by rw [← List.append_assoc]; exact hat, s1, i + 1, rfl, At.step (w := [47]) hat, by rw [List.length_append, List.length_singleton]; omega⟩
    | false =>
     rw [if_neg (by decide)]
     rw [if_neg (by decide)] at hgg
     subst hgg
     exact ⟨s1, i, rfl, hat, rfl⟩
   rintro σ H2 ⟨s2, i2, rfl, hat2, he2⟩
   have hlen2 := hat2.len
   rw [List.length_append] at hlen2
   clear hgg hat hlen'
   walk_at "rd"
   refine ⟨fun σ H3 => Same H H3 ∧ ∃ (i3 : Nat) (v7 : Option V) (u : List Nat), σ = [some (.str ⟨t.toArray⟩), some (.int (i3 : Int)), some (.ref pw), some (.bl held), some (.bl rt), some (.ref ps), some (.bl e), v7] ∧ TlW [] e u ∧ At t i3 (u ++ r) ∧ i3 + u.length = i2 + w.length, ?_, ?_⟩
   ·refine ⟨_, .inr (.of (s2 _ _ hps)), ?_⟩
    rw [List.length_map]
    simp only [List.length_cons] at hsl
    refine ⟨by rw [List.length_cons]; omega, by rw [List.length_cons]; omega, ?_⟩
    rw [Int.toNat_natCast]
    refine hqf (fun j σ H' => Same H H' ∧ ∃ (i3 : Nat) (v7 : Option V) (u : List Nat), σ = [some (.str ⟨t.toArray⟩), some (.int (i3 : Int)), some (.ref pw), some (.bl held), some (.bl rt), some (.ref ps), some (.bl e), v7] ∧ (j = 0 → u = w) ∧ (0 < j → TlW ((s0 :: ss0).drop j) e u) ∧ At t i3 (u ++ r) ∧ i3 + u.length = i2 + w.length) ⟨s2, i2, none, w, rfl, fun _ => rfl, fun z => absurd z (by decide), hat2, rfl⟩ ?_ ?_
    ·rintro j σ H3 hj ⟨s3, i3, v7, u, rfl, hu0, hu1, hat3, he3⟩
     have hsj : (s0 :: ss0)[j]? = some (s0 :: ss0)[j] := List.getElem?_eq_getElem hj
     have hix : atI (List.map (fun l => V.str ⟨l.toArray⟩) (s0 :: ss0)) (0 + (j : Int)) = some (.str ⟨(s0 :: ss0)[j].toArray⟩) := by
      rw [Int.zero_add]
      exact aqu (by rw [List.getElem?_map, hsj]; rfl)
     have hdj : (s0 :: ss0).drop j = (s0 :: ss0)[j] :: (s0 :: ss0).drop (j + 1) := List.drop_eq_getElem_cons hj
     have fin : ∀ (i4 : Nat) (a v : List Nat), WrT frS (s0 :: ss0)[j] a → TlW ((s0 :: ss0).drop (j + 1)) e v → At t i4 ((a ++ v) ++ r) → i4 + (a ++ v).length = i2 + w.length → ∀ R : VK, (∀ H', Same H3 H' → ∀ i5 : Nat, At t i5 (v ++ r) → i5 + v.length = i2 + w.length → R (.int (i5 : Int)) H') → hqE K [.str ⟨t.toArray⟩, .int (i4 : Int), .str ⟨(s0 :: ss0)[j].toArray⟩, .str (Str.ofString "!$'()*,;@&=+")] H3 R E0 := fun i4 a v ha hv hat4 he4 R hR => by
      rw [efr]
      refine ⟨t, a, v ++ r, _, frS, i4, rfl, hl, by rw [← List.append_assoc]; exact hat4, ha, by decide +kernel, by decide +kernel, by decide +kernel, fun H' s' => ?_⟩
      rw [List.append_assoc] at hat4
      exact hR H' s' _ hat4.step (by rw [List.length_append] at he4; omega)
     walk_at "rd"
     cases j with
     | zero =>
      rw [if_neg (by decide)]
      have hu := hu0 rfl
      subst hu
      cases hw with
      | some ha hne hv =>
       refine ⟨_, _, .inr (.of (s3 _ _ hps)), hix, fin i3 _ _ ha hv hat3 he3 _ fun H' s' i5 hat5 he5 => ?_⟩
       exact ⟨s3.trans s', i5, _, _, ⟨rfl, rfl⟩, (fun z => by cases z), fun _ => hv, hat5, he5⟩
     | succ j =>
      rw [if_pos (by omega)]
      have hu := hu1 (by omega)
      rw [hdj] at hu
      cases hu with
      | more ha hne hv =>
       rename_i a v
       rw [es]
       refine ⟨t, [47], (a ++ v) ++ r, i3, rfl, hl, hat3, ?_⟩
       refine ⟨_, _, .inr (.of (s3 _ _ hps)), hix, fin (i3 + 1) a v ha hv (At.step (w := [47]) hat3) (by simp only [List.length_cons] at he3; omega) _ fun H' s' i5 hat5 he5 => ?_⟩
       exact ⟨s3.trans s', i5, _, _, ⟨rfl, rfl⟩, (fun z => by cases z), fun _ => hv, hat5, he5⟩
    ·rintro σ H3 ⟨s3, i3, v7, u, rfl, hu0, hu1, hat3, he3⟩
     have hu := hu1 (by simp)
     rw [List.drop_length] at hu
     exact ⟨s3, i3, v7, u, rfl, hu, hat3, he3⟩
   rintro σ H3 ⟨s3, i3, v7, u, rfl, hu, hat3, he3⟩
   walk_at "rd"
   cases hu with
   | stop =>
    rw [if_neg (by decide)]
    rw [show i + (gg ++ w).length = i3 by simp only [List.length_nil] at he3; omega] at k
    exact k H3 s3
   | ends =>
    rw [if_pos rfl, es]
    refine ⟨t, [47], r, i3, rfl, hl, hat3, ?_⟩
    rw [show i + (gg ++ w).length = i3 + [47].length by omega] at k
    exact k H3 s3
theorem qqO (g : G K mg) : FnOk P w K mg base CX0 5 g.jq2 g.iqd ["thing"] qqa := by
 refine g.mqx.ok rqR (fun vs H Q E h => ?_) (fun cdv A outer s H vs Q E hr h => ?_)
 ·obtain ⟨d, v, rfl, _⟩ := h; rfl
 ·obtain ⟨d, v, rfl, hv, hs, k⟩ := h
  refine ⟨_, (aqf (aqC (dqd (aqQ (aqh (hqV g) (hr.mono (by decide)) rfl g.hqw g.fqE.kp g.hqk .nil pass0 (aqa (pv 0) (aqa aqj aqb)))))
    (aqe (aql hqz)) aqm)
   (aqf (aqC (dqd (PW.pt (dqV (aqQ (aqA cqu rfl g.aqR aqG (aqa (aqK (aqn (K := K) rfl) (pv 0) (aqy (v := mqR) rfl g.jq0 ⟨_, rfl⟩) (fun _ _ => rfl)) (aqa (eqK (v := .ty "bool") rfl g.nqA lq9 rfl) aqb)))) (dqV (aqQ (aqh (oqO g) (hr.mono (by decide)) rfl g.lqP g.jqc.kp g.lqR .nil pass0 (aqa (aqK (aqn (K := K) rfl) (pv 0) (aqy (v := rqx) rfl g.oqk ⟨_, rfl⟩) (fun _ _ => rfl)) aqb))) (cqG (aqQ (aqA cqu rfl g.aqR aqG (aqa (aqK (aqn (K := K) rfl) (pv 0) (aqy (v := tqj) rfl g.qqx ⟨_, rfl⟩) (fun _ _ => rfl)) (aqa (eqK (v := .ty "bool") rfl g.nqA lq9 rfl) aqb)))))))))
    (aqe (aql hqz)) aqm)
   (aqe (aql (kq9 (aq1 kqO (aqA (aqT (K := K) rfl) rfl g.gqo PySem.boot_len (aqa (aqK (aqn (K := K) rfl) (pv 0) (aqy (v := rqx) rfl g.oqk ⟨_, rfl⟩) (fun _ _ => rfl)) aqb)) aqj (nomark _)) (bqG (aq1 dq2 (aqK (aqn (K := K) rfl) (pv 0) (aqy (v := mqR) rfl g.jq0 ⟨_, rfl⟩) (fun _ _ => rfl)) (aqK (aqn (K := K) rfl) (pv 0) (aqy (v := tqj) rfl g.qqx ⟨_, rfl⟩) (fun _ _ => rfl)) (nomark _)))))))), ?_⟩
  walk_at "rd"
  refine ⟨d, v, 3, rfl, hv, ?_⟩
  walk_at "rd"
  refine ite2 (fun h => ?_) (fun h => ?_)
  ·have k1 := k H (Same.refl _)
   rw [tqR (by rw [h]; decide)] at k1
   exact k1
  obtain ⟨a, b, c, rfl⟩ := tup3 ((Bool.not_eq_false _).mp h)
  have hs2 := (eq0 hs).2
  have sb : smallD b = true := aqX hs2 (by simp)
  cases hv with
  | @tup p xs ds hp r =>
   obtain ⟨x0, x1, x2, rfl, h0, h1, h2⟩ := isAll3 r
   walk_at "rd"
   refine ⟨_, x0, .inr (SqT.of hp), aqu (j := 0) rfl, _, h0.kind, ?_⟩
   rw [rqM]
   refine ite2 (fun ha => ?_) (fun ha => ?_)
   rotate_left
   ·have k1 := k H (Same.refl _)
    rw [mqQ, (Bool.not_eq_true _).mp ha, Bool.false_and] at k1
    exact k1
   refine ⟨_, x1, .inr (SqT.of hp), aqu (j := 1) rfl, b, x1, rfl, h1, sb, fun H1 s1 => ?_⟩
   walk_at "rd"
   refine ite2 (fun hb => ?_) (fun hb => ?_)
   rotate_left
   ·have k1 := k H1 s1
    rw [mqQ, (Bool.not_eq_true _).mp hb, Bool.false_and, Bool.and_false] at k1
    exact k1
   refine ⟨_, x2, .inr (SqT.of (s1 _ _ hp)), aqu (j := 2) rfl, _, (h2.mono s1).kind, ?_⟩
   rw [rqM]
   refine ite2 (fun hc => ?_) (fun hc => ?_)
   ·have k1 := k H1 s1
    rw [mqQ, hc, Bool.false_and, Bool.and_false, Bool.and_false] at k1
    exact k1
   have hc := (Bool.not_eq_false _).mp hc
   obtain ⟨r0, rfl⟩ := nqF ha
   obtain ⟨bs, rfl⟩ := pqX hb
   obtain ⟨e0, rfl⟩ := nqF hc
   have k1 := k H1 s1
   rw [mqQ, ha, hb, hc, Bool.true_and, Bool.true_and, Bool.true_and] at k1
   dsimp only at k1
   cases h0
   cases h2
   cases h1 with
   | @tup q ys _ hq rq =>
    refine ⟨_, _, .inr (SqT.of (s1 _ _ hp)), aqu (j := 1) rfl, ?_⟩
    walk_at "rd"
    refine ⟨_, .inr (SqT.of (s1 _ _ hq)), ?_⟩
    rw [← rq.length]
    refine ite2 (fun h3 => ?_) (fun h3 => ?_)
    ·rw [decide_eq_true (show 0 < bs.length by omega), Bool.true_or] at k1
     exact k1
    ·rw [decide_eq_false (show ¬ 0 < bs.length by omega), Bool.false_or] at k1
     refine ⟨_, _, .inr (SqT.of (s1 _ _ hp)), aqu (j := 0) rfl, ⟨_, _, .inr (SqT.of (s1 _ _ hp)), aqu (j := 2) rfl, ?_⟩⟩
     walk_at "rd"
     exact k1
theorem lqt (g : G K mg) : FnOk P w K mg base CX0 5 g.eqc g.dqD ["thing"] lqs := by
 refine g.gqn.ok lqv (fun vs H Q E h => ?_) (fun cdv A outer s H vs Q E hr h => ?_)
 ·obtain ⟨d, v, rfl, _⟩ := h; rfl
 ·obtain ⟨d, v, rfl, hv, hs, k⟩ := h
  refine ⟨_, (aqe (aql (kq9 (aq1 gqk (pv 0) bqo (nomark _)) (bqG (cqr (aqA cqu rfl g.aqR aqG (aqa (pv 0) (aqa (eqK (v := .ty "tuple") rfl g.jqh iqI rfl) aqb))) (bqG (aqA (kqY (K := K) rfl rfl) rfl g.sqi PyProof.Rows.boot_all (aqa (kql (fx := []) (fr := []) rfl rfl (by decide +kernel) rfl (by decide +kernel) rfl (by decide +kernel) rfl .nil rfl (qqC (K := K) rfl (pv 0)) (fun _ _ _ => mq4) (fun _ _ _ => (aqh (oqe g) (hr.mono (by decide)) rfl g.lqL g.iq5.kp g.lqx .nil pass0 (aqa (pv 0) aqb)))) aqb)))))))), ?_⟩
  cases hv with
  | lst hp r => walk_at "rd"; simp only [hqt hp]; walk_at "rd"; exact k H (Same.refl _)
  | @tup p xs ds hp r =>
   walk_at "rd"; simp only [hqg hp]; walk_at "rd"
   refine ⟨⟨_, SqT.of hp⟩, fun q hq => ?_⟩
   refine nq1 (zs := ds.map fun d => .bl (askD d)) (SqT.of hp) (by rw [← r.length]; exact aqz (eq0 hs).1) hq (by rw [List.length_map]; exact r.length) (fun i x z hx hz H' T sm hT => ?_) (fun H' sm hq' => ?_)
   ·obtain ⟨d, hd, hi⟩ := r.at i x hx
    rw [List.getElem?_map, hd] at hz
    cases hz
    walk_at "rd"
    exact ⟨d, x, rfl, hi.mono sm, aqX (eq0 hs).2 (List.mem_of_getElem? hd), fun H'' s => hT H'' s⟩
   ·refine mqh.mpr ⟨ds.map askD, SqL.of (by rw [hq', List.map_map]; rfl), ?_⟩
    rw [List.all_map]
    exact k H' sm
  | _ => walk_at "rd"; exact k H (Same.refl _)
theorem mqF (g : G K mg) : FnOk P w K mg base (CXN P w base) 5 g.fq1 g.fqv ["cursor", "must_be_rooted"] (iqh K g.aqs g.aqx) := by
 refine g.hq7.okn bqV (fun vs H Q E h => ?_) (fun cdv A outer s H vs Q E hr h => ?_)
 ·obtain ⟨p, t, i, must, rfl, _⟩ := h; rfl
 ·obtain ⟨p, t, i, must, rfl, hcur, hi, hl, h128, k1, k2⟩ := h
  refine ⟨_, (aqE (aqp (i := 2) bqV.nd rfl (Or.inl rfl) (cq1 (pv 0) g.aqk g.aqD (aqH g) (hr.mono (by decide)) g.aqF .nil pass0 (aqa aqg aqb)))
   (aqE (aqC (PW.pt (dqV (aqQ (pv 1)) (cqG (dqd (aqQ (pv 2))))))
    (aqe (aql (aqo (aqa hqz (aqa (aqo aqb) (aqa hqz aqb)))))) aqm)
   (aqf (aqp (i := 3) bqV.nd rfl (Or.inl rfl) (aqL aqb))
   (aqf (aqp (i := 4) bqV.nd rfl (Or.inl rfl) (pv 2))
   (aqE (aqp (i := 5) bqV.nd rfl (Or.inl rfl) (aqh (dvs := [.non]) (bqI g) (hr.mono (by decide)) rfl g.bq1 g.bqx.kp g.bq2 (.cons rfl .nil) aqO (aqa (pv 0) (aqa (aqy (v := eqJ) rfl g.eqW ⟨_, rfl⟩) aqb))))
   (aqf (jq4 PassesOwn.leaving (aqi kqr (pv 5) aqg (nomark _))
   (aqf (gqc (fqi (K := K) rfl PySem.F.plainAttrs_list PySem.F.slot_list_append PySem.F.type_list_append dqW (pv 3) (aqa (pv 5) aqb)))
   (aqf (aqp (i := 4) bqV.nd rfl (Or.inl rfl) (cq1 (pv 0) g.aqk g.aqD (aqH g) (hr.mono (by decide)) g.aqF .nil pass0 (aqa aqg aqb)))
   (aqe (aqp (i := 5) bqV.nd rfl (Or.inl rfl) (aqh (dvs := [.non]) (bqI g) (hr.mono (by decide)) rfl g.bq1 g.bqx.kp g.bq2 (.cons rfl .nil) aqO (aqa (pv 0) (aqa (aqy (v := eqJ) rfl g.eqW ⟨_, rfl⟩) aqb))))))))
   (aqe (aql (aqo (aqa (pv 2) (aqa (dqb (kqb (K := K) rfl) rfl g.jqh iqI (aqa (pv 3) aqb)) (aqa (pv 4) aqb)))))))))))), ?_⟩
  have eF : eqJ = .str ⟨frS.toArray⟩ := by
   show V.str (Str.ofString _) = _
   unfold frS; simp
  have e1 : Str.ofString "/" = ⟨[47].toArray⟩ := by decide +kernel
  rw [eF, e1]
  walk_at "rd"
  refine ⟨fun σ H1 => SameBut p H H1 ∧ ∃ (j : Nat) (r : Bool), σ = [some (.ref p), some (.bl must), some (.bl r), none, none, none] ∧ Cur H1 g.aqs p t j ∧ j ≤ t.length ∧ ((r = true ∧ (t.drop i).head? = some 47 ∧ j = i + 1) ∨ (r = false ∧ ¬ (t.drop i).head? = some 47 ∧ j = i)), ?_, ?_⟩
  ·refine aqS hcur ⟨p, t, [47], i, rfl, hcur, hi, hl, fun hp H1 s1 c1 => ⟨s1, i + 1, true, rfl, c1, ?_, .inl ⟨rfl, take1.mp hp, rfl⟩⟩, fun hp => ⟨SameBut.refl _ _, i, false, rfl, hcur, hi, .inr ⟨rfl, fun z => hp (take1.mpr z), rfl⟩⟩⟩
   have := congrArg List.length hp
   rw [List.length_take, List.length_drop] at this
   simp only [List.length_singleton] at this
   omega
  rintro σ H1 ⟨s1, j, r, rfl, c1, hj, hr⟩
  walk_at "rd"
  refine ⟨fun σ H2 => H2 = H1 ∧ ¬ (must = true ∧ r = false) ∧ σ = [some (.ref p), some (.bl must), some (.bl r), none, none, none], ?_, ?_⟩
  ·have fin : must = true → r = false → (∀ u H', SameBut p H H' → Cur H' g.aqs p t j → IsT H' (wayOf (true, [], true)) u → Q u H') := fun hm h0 u H' sb cu hu => by
    rcases hr with ⟨z, _⟩ | ⟨_, hh, rfl⟩
    ·rw [h0] at z; cases z
    ·exact k1 (true, [], true) 0 (by unfold wayM; rw [if_neg hh, if_pos hm]) H' sb cu u hu
   cases must with
   | true =>
    rw [if_pos rfl]
    cases r with
    | true => exact ⟨rfl, by simp, rfl⟩
    | false =>
     rw [if_pos rfl]
     exact ⟨by decide, fun pt Ha n1 sa hpt => ⟨by decide, fun pw Hb nb sb' hpw => fin rfl rfl _ Hb ((s1.trans sa.but).trans sb'.but) ((c1.same sa).same sb') (wayT' (ss := []) hpw (sb' _ _ hpt))⟩⟩
   | false =>
    rw [if_neg (by decide)]
    exact ⟨rfl, by simp, rfl⟩
  rintro σ H2 ⟨rfl, hmr, rfl⟩
  walk_at "rd"
  obtain ⟨tot, htot⟩ : ∃ tot, tot = stpF ((t.drop i).length + 1) (t.drop j) r := ⟨_, rfl⟩
  have ew : wayM must (t.drop i) = sh (j - i) (mp (fun x => (r, x)) tot) := by
   unfold wayM
   rcases hr with ⟨rfl, hh, rfl⟩ | ⟨rfl, hh, rfl⟩
   ·rw [if_pos hh, htot, show i + 1 - i = 1 by omega, List.drop_drop]
   ·rw [if_neg hh, if_neg (fun z => hmr ⟨z, rfl⟩), htot, Nat.sub_self, sh_0]
  have hij : i ≤ j := by rcases hr with ⟨_, _, rfl⟩ | ⟨_, _, rfl⟩ <;> omega
  have hk1 : ∀ x n, tot = .ok (x, n) → ∀ u H', SameBut p H H' → Cur H' g.aqs p t (j + n) → IsT H' (wayOf (r, x)) u → Q u H' := fun x n e u H' sb cu hu =>
   k1 (r, x) (j - i + n) (by rw [ew, e]; rfl) H' sb (by rw [show i + (j - i + n) = j + n by omega]; exact cu) u hu
  have hk2 : ∀ n, tot = .error n → ∀ d H', SameBut p H H' → H' d = some (.xd [("at", .int ((j + n : Nat) : Int))]) → E (.ref g.aqx) (some d) H' := fun n e d H' sb hx =>
   k2 (j - i + n) (by rw [ew, e]; rfl) d H' sb (by rw [hx, show i + (j - i + n) = j + n by omega])
  refine ⟨by decide, fun q H3 hq s3 hq3 => ?_⟩
  have hqp : q ≠ p := by obtain ⟨dx, hp⟩ := c1; exact (aqr hp hq).symm
  have c3 := c1.same s3
  have sb3 : SameBut p H H3 := s1.trans s3.but
  have hqH : H q = none := s1.free hq hqp
  obtain ⟨W, hW⟩ : ∃ W : Nat → St → Hp → Prop, W = fun m σ H' => ∃ (dn : List (List Nat)) (s : List Nat) (b n : Nat) (en : Bool), σ = [some (.ref p), some (.bl must), some (.bl r), some (.ref q), some (.bl en), some (.str ⟨s.toArray⟩)] ∧ txtM frS (t.drop (j + b)) none = .ok (s, n) ∧ j + b + n ≤ t.length ∧ dn.length ≤ b ∧ (t.drop (j + b)).length ≤ m ∧ Via tot b (fun x => (dn ++ x.1, x.2)) (stpF (m + 1) (t.drop (j + b)) en) ∧ H' q = some (.lst (dn.map sV)) ∧ SameBut p H H' ∧ Cur H' g.aqs p t (j + b + n) := ⟨_, rfl⟩
  have txn : ∀ {b n : Nat} {s : List Nat}, j + b ≤ t.length → txtM frS (t.drop (j + b)) none = .ok (s, n) → j + b + n ≤ t.length := fun {b n s} hb e => by
   have := (cqp e).1
   rw [List.length_drop] at this
   omega
  refine ⟨fun σ H4 => ∃ m, W m σ H4, ?_, ?_⟩
  ·refine ⟨p, t, frS, j, none, rfl, c3, hj, hl, h128, oqH, fun s n e H4 s4 c4 => ⟨(t.drop i).length, ?_⟩, fun n e d H4 s4 hx => hk2 n ?_ d H4 (sb3.trans s4) hx⟩
   ·rw [hW]
    refine ⟨[], s, 0, n, r, rfl, e, txn hj e, Nat.le_refl _, by simp only [List.length_drop]; omega, ?_, s4 _ _ hqp hq3, sb3.trans s4, c4⟩
    show Via tot 0 (fun x => x) _
    rw [htot]
    exact Via.refl
   ·rw [htot]
    unfold stpF
    rw [e]
  rintro σ H4 ⟨m, hm⟩
  unfold L2.Later
  rw [L2.rqa]
  refine lq2 W m hm ?_
  rintro m σ H5 hm
  rw [hW] at hm
  obtain ⟨dn, s, b, n, en, rfl, etx, hbn, hdn, hfu, via, hq5, sb5, c5⟩ := hm
  walk_at "rd"
  by_cases hs : s = []
  ·refine ite2 (fun z => absurd (hqJ.mpr hs) z) (fun _ => ?_)
   have e2 : stpF (m + 1) (t.drop (j + b)) en = .ok (([], en), n) := by
    conv => lhs; unfold stpF
    rw [etx]; exact if_pos hs
   have e3 := via.ok e2
   exact ⟨_, .inl (.of hq5), fun pt Ha sa hpt => ⟨by decide, fun pw Hb nb sb' hpw => hk1 _ _ e3 _ Hb ((sb5.trans sa.but).trans sb'.but) (by rw [← Nat.add_assoc]; exact (c5.same sa).same sb') (by rw [List.append_nil]; exact wayT' hpw (sb' _ _ hpt))⟩⟩
  ·have hpos := (cqp etx).2.2 hs
   have hm0 : ∃ m', m = m' + 1 := by
    refine ⟨m - 1, ?_⟩
    rw [List.length_drop] at hfu
    omega
   obtain ⟨m', rfl⟩ := hm0
   refine ite2 (fun _ => ⟨_, fun _ _ h => h, ⟨_, .of hq5⟩, _, hq5, ?_, ?_⟩) (fun z => absurd (hqJ.mp (Classical.not_not.mp z)) hs)
   ·rw [List.length_map]
    exact Nat.lt_of_le_of_lt (show dn.length ≤ 100000 by omega) (by decide)
   have c6 : Cur (upd H5 q (.lst (dn.map sV ++ [sV s]))) g.aqs p t (j + b + n) := by
    obtain ⟨dx, hp⟩ := c5
    exact ⟨dx, by rw [aqv hqp.symm]; exact hp⟩
   have sb6 : SameBut p H (upd H5 q (.lst (dn.map sV ++ [sV s]))) := sb5.upd hqH
   have hq6 : (upd H5 q (.lst (dn.map sV ++ [sV s]))) q = some (.lst ((dn ++ [s]).map sV)) := by rw [aqw, List.map_append]; rfl
   generalize upd H5 q (.lst (dn.map sV ++ [sV s])) = H6 at c6 sb6 hq6 ⊢
   have hdd : (t.drop (j + b)).drop n = t.drop (j + b + n) := List.drop_drop
   refine aqS c6 ⟨p, t, [47], j + b + n, rfl, c6, hbn, hl, fun hp H7 s7 c7 => ?_, fun hp => ?_⟩
   ·have hh : ((t.drop (j + b)).drop n).head? = some 47 := by rw [hdd]; exact take1.mp hp
    have e2 : stpF (m' + 1 + 1) (t.drop (j + b)) en = sh (n + 1) (mp (fun x => (s :: x.1, x.2)) (stpF (m' + 1) (t.drop (j + (b + (n + 1)))) true)) := by
     conv => lhs; unfold stpF
     rw [etx]
     show (if s = [] then _ else _) = _
     rw [if_neg hs, if_pos hh, List.drop_drop, Nat.add_assoc j b (n + 1)]
    have via2 := via.step e2
    have hb7 : j + (b + (n + 1)) ≤ t.length := by
     have := congrArg List.length hp
     rw [List.length_take, List.length_drop] at this
     simp only [List.length_singleton] at this
     omega
    refine ⟨p, t, frS, j + (b + (n + 1)), none, rfl, by rw [show j + (b + (n + 1)) = j + b + n + 1 by omega]; exact c7, hb7, hl, h128, oqH, fun s' n' e' H8 s8 c8 => ⟨m', by omega, ?_⟩, fun n' e' d H8 s8 hx => hk2 (b + (n + 1) + n') (via2.err (by unfold stpF; rw [e'])) d H8 ((sb6.trans s7).trans s8) (by rw [hx, show j + (b + (n + 1)) + n' = j + (b + (n + 1) + n') by omega])⟩
    rw [hW]
    refine ⟨dn ++ [s], s', b + (n + 1), n', true, rfl, e', txn hb7 e', by rw [List.length_append, List.length_singleton]; omega, by rw [List.length_drop] at hfu ⊢; omega, ?_, (s7.trans s8) _ _ hqp hq6, (sb6.trans s7).trans s8, c8⟩
    simpa using via2
   ·have hh : ¬ ((t.drop (j + b)).drop n).head? = some 47 := by rw [hdd]; exact fun z => hp (take1.mpr z)
    have e2 : stpF (m' + 1 + 1) (t.drop (j + b)) en = sh n (mp (fun x => (s :: x.1, x.2)) (stpF (m' + 1) (t.drop (j + (b + n))) false)) := by
     conv => lhs; unfold stpF
     rw [etx]
     show (if s = [] then _ else _) = _
     rw [if_neg hs, if_neg hh, List.drop_drop, Nat.add_assoc j b n]
    have via2 := via.step e2
    have hb7 : j + (b + n) ≤ t.length := by omega
    refine ⟨p, t, frS, j + (b + n), none, rfl, by rw [← Nat.add_assoc]; exact c6, hb7, hl, h128, oqH, fun s' n' e' H8 s8 c8 => ⟨m', by omega, ?_⟩, fun n' e' d H8 s8 hx => hk2 (b + n + n') (via2.err (by unfold stpF; rw [e'])) d H8 (sb6.trans s8) (by rw [hx, show j + (b + n) + n' = j + (b + n + n') by omega])⟩
    rw [hW]
    refine ⟨dn ++ [s], s', b + n, n', false, rfl, e', txn hb7 e', by rw [List.length_append, List.length_singleton]; omega, by rw [List.length_drop] at hfu ⊢; omega, ?_, s8 _ _ hqp hq6, sb6.trans s8, c8⟩
    simpa using via2
theorem gqB (g : G K mg) : FnOk P w K mg base (CXN P w base) 5 g.eqo g.dqF ["cursor"] (kqA K g.aqs g.aqx) := by
 refine g.eqs.okn lqh (fun vs H Q E h => ?_) (fun cdv A outer s H vs Q E hr h => ?_)
 ·obtain ⟨p, t, i, rfl, _⟩ := h; rfl
 ·obtain ⟨p, t, i, rfl, hcur, hi, hl, h128, k1, k2⟩ := h
  refine ⟨_, (aqe (aql (jqZ (aqQ (cq1 (pv 0) g.aqk g.aqD (aqH g) (hr.mono (by decide)) g.aqF .nil pass0 (aqa aqg aqb))) (aqh (dvs := [.non]) (bqI g) (hr.mono (by decide)) rfl g.bq1 g.bqx.kp g.bq2 (.cons rfl .nil) aqO (aqa (pv 0) (aqa (aqy (v := bqg) rfl g.bqz ⟨_, rfl⟩) aqb))) bqo))), ?_⟩
  have eF : bqg = .str ⟨frQ.toArray⟩ := by
   show V.str (Str.ofString _) = _
   unfold frQ; simp
  have e1 : Str.ofString "=" = ⟨[61].toArray⟩ := by decide +kernel
  rw [eF, e1]
  walk_at "rd"
  refine aqS hcur ⟨p, t, [61], i, rfl, hcur, hi, hl, fun hp H1 s1 c1 => ⟨_, rfl, ?_⟩, fun hp => ⟨_, rfl, ?_⟩⟩
  ·rw [if_pos rfl]
   have h1 := take1.mp hp
   have hi1 : i + 1 ≤ t.length := by
    have := congrArg List.length hp
    rw [List.length_take, List.length_drop] at this
    simp only [List.length_singleton] at this
    omega
   have em : valM (t.drop i) = sh 1 (mp some (txtM frQ (t.drop (i + 1)) none)) := by unfold valM; rw [if_pos h1, List.drop_drop]
   refine ⟨p, t, frQ, i + 1, none, rfl, c1, hi1, hl, h128, oqB, fun s n e H2 s2 c2 => k1 (some s) (1 + n) (by rw [em, e]; rfl) H2 (s1.trans s2) (by rw [← Nat.add_assoc]; exact c2), fun n e d H2 s2 hx => k2 (1 + n) (by rw [em, e]; rfl) d H2 (s1.trans s2) (by rw [hx, Nat.add_assoc])⟩
  ·rw [if_neg (by decide)]
   exact k1 none 0 (by unfold valM; rw [if_neg (fun z => hp (take1.mpr z))]) H (SameBut.refl _ _) hcur
theorem lqu (g : G K mg) : FnOk P w K mg base (CXN P w base) 5 g.fqd g.eqA ["cursor"] (kq5 K g.aqs g.aqx) := by
 refine g.gqP.okn mqA (fun vs H Q E h => ?_) (fun cdv A outer s H vs Q E hr h => ?_)
 ·obtain ⟨p, t, i, rfl, _⟩ := h; rfl
 ·obtain ⟨p, t, i, rfl, hcur, hi, hl, h128, k1, k2⟩ := h
  refine ⟨_, (aqe (aql (jqZ (aqQ (cq1 (pv 0) g.aqk g.aqD (aqH g) (hr.mono (by decide)) g.aqF .nil pass0 (aqa aqg aqb))) (aqh (dvs := [.non]) (bqI g) (hr.mono (by decide)) rfl g.bq1 g.bqx.kp g.bq2 (.cons rfl .nil) aqO (aqa (pv 0) (aqa (aqy (v := gqz) rfl g.gqH ⟨_, rfl⟩) aqb))) bqo))), ?_⟩
  have eF : gqz = .str ⟨frM.toArray⟩ := by
   show V.str (Str.ofString _) = _
   unfold frM; simp
  have e1 : Str.ofString "#" = ⟨[35].toArray⟩ := by decide +kernel
  rw [eF, e1]
  walk_at "rd"
  refine aqS hcur ⟨p, t, [35], i, rfl, hcur, hi, hl, fun hp H1 s1 c1 => ⟨_, rfl, ?_⟩, fun hp => ⟨_, rfl, ?_⟩⟩
  ·rw [if_pos rfl]
   have h1 := take1.mp hp
   have hi1 : i + 1 ≤ t.length := by
    have := congrArg List.length hp
    rw [List.length_take, List.length_drop] at this
    simp only [List.length_singleton] at this
    omega
   have em : marM (t.drop i) = sh 1 (mp some (txtM frM (t.drop (i + 1)) none)) := by unfold marM; rw [if_pos h1, List.drop_drop]
   refine ⟨p, t, frM, i + 1, none, rfl, c1, hi1, hl, h128, uqd, fun s n e H2 s2 c2 => k1 (some s) (1 + n) (by rw [em, e]; rfl) H2 (s1.trans s2) (by rw [← Nat.add_assoc]; exact c2), fun n e d H2 s2 hx => k2 (1 + n) (by rw [em, e]; rfl) d H2 (s1.trans s2) (by rw [hx, Nat.add_assoc])⟩
  ·rw [if_neg (by decide)]
   exact k1 none 0 (by unfold marM; rw [if_neg (fun z => hp (take1.mpr z))]) H (SameBut.refl _ _) hcur
theorem dq1 (g : G K mg) : FnOk P w K mg base (CXN P w base) 5 g.bqy g.aq5 ["cursor", "free", "most"] (gqZ K g.aqs g.aqx) := by
 refine g.bqE.okn dq9 (fun vs H Q E h => ?_) (fun cdv A outer s H vs Q E hr h => ?_)
 ·obtain ⟨p, t, fr, i, mo, rfl, _⟩ := h; rfl
 ·obtain ⟨p, t, fr, i, mo, rfl, hcur, hi, hl, h128, hfl, k1, k2⟩ := h
  refine ⟨_, (aqf (aqp (i := 3) dq9.nd rfl (Or.inl rfl) (aqh (bqI g) (hr.mono (by decide)) rfl g.bq1 g.bqx.kp g.jqs .nil aqO (aqa (pv 0) (aqa (pv 1) (aqa (pv 2) aqb)))))
   (aqf (aqC (aqi dq2 (pv 3) aqg (nomark _))
    (aqe (fqR eqH rfl g.bq0 g.cqF (aqM g) (hr.mono (by decide)) g.aqI rfl pass0 rfl (aqa (cqq (pv 0) rfl) aqb))) aqm)
   (aqe (aql (pv 3))))), ?_⟩
  walk_at "rd"
  refine ⟨p, t, fr, i, mo, rfl, hcur, hi, hl, h128, hfl, fun s n e H1 s1 c1 => ?_, fun n e d H1 s1 hx => k2 n (by unfold filM; rw [e]) d H1 s1 hx⟩
  walk_at "rd"
  by_cases hs : s = []
  ·rw [if_pos (hqJ.mpr hs)]
   exact aqW c1 g.aqk g.aqq (eqh fun d H' sm hx => k2 n (by unfold filM; rw [e]; exact if_pos hs) d H' (s1.trans sm.but) hx)
  ·rw [if_neg (fun z => hs (hqJ.mp z))]
   exact k1 s n (by unfold filM; rw [e]; exact if_neg hs) H1 s1 c1
theorem mqr (g : G K mg) : FnOk P w K mg base CX0 5 g.fqe g.eqg ["_law_text"] (mqS K) := by
 refine g.gq6.ok bqA (fun vs H Q E h => ?_) (fun cdv A outer s H vs Q E hr h => ?_)
 ·obtain ⟨t, rfl, _⟩ := h; rfl
 ·obtain ⟨t, rfl, hl, h128, k⟩ := h
  refine ⟨_, (aqf (aqp (i := 1) bqA.nd rfl (Or.inl rfl) (aqL (aqa (aqo (aqa aqg aqb)) aqb)))
   (aqf (kqV PassesOwn.never rfl (iqJ rfl g.kqC (aqa (aqA (aqT (K := K) rfl) rfl g.gqo PySem.boot_len (aqa (pv 0) aqb)) aqb)) (bqN (i := 2) bqA.nd rfl (Or.inl rfl))
   (aqf (aqp (i := 3) bqA.nd rfl (Or.inl rfl) (aqL aqb))
   (aqE (kqV PassesOwn.never rfl (jq1 (K := K) rfl (pv 1)) (bqN (i := 4) bqA.nd rfl (Or.inl rfl))
   (aqe (aqp (i := 3) bqA.nd rfl (Or.inl rfl) (aqN (aqJ (K := K)) (pv 3) (aqh (mqj g) (hr.mono (by decide)) rfl g.jqI g.gqL.kp g.jqA .nil pass0 (aqa (pv 4) (aqa (aqK (aqn (K := K) rfl) (pv 0) (pv 2) (fun _ _ => rfl)) aqb)))))))
   (aqf (aqC (aqi (pqg hr.units) (pv 3) (aqL aqb) (nomark _))
    (aqe (aql (pv 2))) aqm)
   (aqe (aqp (i := 1) bqA.nd rfl (Or.inl rfl) (pv 3)))))))
   (aqf (aqC (aqQ (aqA (rqF (K := K) rfl rfl) rfl g.vq2 PyProof.Rows.boot_any (aqa (kql (fx := []) (fr := []) rfl rfl (by decide +kernel) rfl (by decide +kernel) rfl (by decide +kernel) rfl .nil rfl (jq1 (K := K) rfl (pv 1)) (fun _ _ _ => mq4) (fun _ _ _ => (aqh (kqi g) (hr.mono (by decide)) rfl g.hqF g.fqy.kp g.hqN .nil pass0 (aqa (pv 0) aqb)))) aqb)))
    (aqe (aql (lq3 iqz aqj))) aqm)
   (aqe (aql (aqA (aqT (K := K) rfl) rfl g.gqo PySem.boot_len (aqa (pv 0) aqb))))))), ?_⟩
  walk_at "rd"
  refine ⟨by decide, fun p1 H1 n1 s1 hp1 => ⟨by decide, fun p2 H2 n2 s2 hp2 => ⟨aqz (by omega), by omega, by omega, ?_⟩⟩⟩
  rw [Int.toNat_natCast]
  refine hqf (fun i σ H' => Same H H' ∧ ∃ (S : List Au) (p : Addr) (v2 v3 v4 : Option V), σ = [some (.str ⟨t.toArray⟩), some (.ref p), v2, v3, v4] ∧ LsA H' p S ∧ GoodS S ∧ runA [.start] t 0 = runA S (t.drop i) i) ⟨s1.trans s2, [.start], p2, none, none, none, rfl, ⟨_, hp2, .cons (.tup (s2 _ _ hp1) (.cons (.str _) .nil)) .nil⟩, .inl rfl, by rw [List.drop_zero]⟩ ?_ ?_
  ·rintro i σ H3 hi ⟨s3, S, p, v2, v3, v4, rfl, hL, hG, hrun⟩
   have hti : t[i]? = some t[i] := List.getElem?_eq_getElem hi
   have hc : t[i] < 128 := h128 _ (List.getElem_mem hi)
   walk_at "rd"
   obtain ⟨us, hu, hus⟩ := hL
   have hul : us.length = S.length := by have := hus.length; rw [List.length_map] at this; omega
   refine ⟨by decide, fun p3 H4 n3 s4 hp3 => ?_⟩
   refine ⟨fun σ H' => Same H3 H' ∧ ∃ (pf : Addr) (v4 : Option V), σ = [some (.str ⟨t.toArray⟩), some (.ref p), some (.int (0 + (i : Int))), some (.ref pf), v4] ∧ LsA H' pf (S.flatMap (move · t[i])), ⟨⟨_, .of (s4 _ _ hu)⟩, ?_⟩, ?_⟩
   ·refine nqz (xs := us) (fun j σ H' => Same H4 H' ∧ ∃ (pf : Addr) (v4 : Option V), σ = [some (.str ⟨t.toArray⟩), some (.ref p), some (.int (0 + (i : Int))), some (.ref pf), v4] ∧ LsA H' pf ((S.take j).flatMap (move · t[i]))) ⟨Same.refl _, p3, v4, rfl, ⟨_, hp3, .nil⟩⟩ (fun j σ H' _ h => .of (h.1 _ _ (s4 _ _ hu))) ?_ ?_
    ·rintro j y σ H5 hy ⟨s5, pf, w4, rfl, hLf⟩
     have hj : j < S.length := by rw [← hul]; exact (List.getElem?_eq_some_iff.mp hy).1
     have hsj : S[j]? = some S[j] := List.getElem?_eq_getElem hj
     have hyT := hus.get (i := j) (d := auD S[j]) (by rw [List.getElem?_map, hsj]; rfl) hy
     have hall := hG.all _ (List.getElem_mem hj)
     have hG' := (hG.step (c := t[i]) hc).len
     have hspl : ∀ m, ((S.take m).flatMap (move · t[i])).length ≤ 2 := fun m => by
      have e := congrArg (fun l => (l.flatMap (move · t[i])).length) (List.take_append_drop m S)
      simp only [List.flatMap_append, List.length_append] at e
      omega
     have tk : (S.take (j + 1)).flatMap (move · t[i]) = (S.take j).flatMap (move · t[i]) ++ move S[j] t[i] := by
      rw [List.take_add_one, hsj, List.flatMap_append]
      simp
     have l1 := hspl j
     have l2 := hspl (j + 1)
     rw [tk, List.length_append] at l2
     walk_at "rd"
     refine ⟨t[i], aqz (by omega), by rw [Int.zero_add]; exact aqu hti, S[j], y, t[i], rfl, hall.2.1, hyT.mono (s4.trans s5).toT, hc, fun q H6 s6 hL6 => ?_⟩
     exact dq7 (hLf.mono s6) hL6 (by omega) (by omega) (fun p8 H8 n8 s8 L8 => ⟨(s5.trans s6).trans s8, p8, _, ⟨rfl, rfl⟩, by rw [tk]; exact L8⟩)
    ·rintro σ H5 ⟨s5, pf, w4, rfl, hLf⟩
     rw [hul, List.take_length] at hLf
     exact ⟨s4.trans s5, pf, w4, rfl, hLf⟩
   rintro σ H5 ⟨s5, pf, w4, rfl, ⟨fs, hf, hfs⟩⟩
   have hG' := hG.step (c := t[i]) hc
   walk_at "rd"
   refine ⟨by decide, fun p4 H6 n4 s6 hp4 => ⟨.list ((S.flatMap (move · t[i])).map auD), .list [], .lst (s6 _ _ hf) (hfs.mono s6.toT).is, .lst hp4 .nil, ?_, by decide +kernel, _, rfl, ?_⟩⟩
   ·exact (LayAt.list (n := 2) fun d hd => by
     obtain ⟨a, ha, rfl⟩ := List.mem_map.mp hd
     exact tqr (hG'.all a ha).1).shaped (by decide)
   have hdr : t.drop i = t[i] :: t.drop (i + 1) := List.drop_eq_getElem_cons hi
   rw [hdr, dqS] at hrun
   by_cases he : S.flatMap (move · t[i]) = []
   ·rw [he, if_pos rfl] at hrun
    rw [he, show PyData.eqv (.list (List.map auD [])) (.list []) = true by decide +kernel, if_pos rfl]
    rw [hrun] at k
    rw [Int.zero_add]
    exact k H6 ((s3.trans s5).trans s6)
   ·rw [if_neg he] at hrun
    have e : PyData.eqv (.list ((S.flatMap (move · t[i])).map auD)) (.list []) = false := by
     cases h : S.flatMap (move · t[i]) with
     | nil => exact absurd h he
     | cons a l => rfl
    rw [e, if_neg (by decide)]
    exact ⟨(s3.trans s5).trans s6, _, pf, _, _, _, ⟨rfl, rfl, rfl, rfl⟩, ⟨fs, s6 _ _ hf, hfs.mono s6.toT⟩, hG', hrun⟩
  ·rintro σ H3 ⟨s3, S, p, v2, v3, v4, rfl, hL, hG, hrun⟩
   rw [List.drop_length] at hrun
   walk_at "rd"
   obtain ⟨us, hu, hus⟩ := hL
   have hul : us.length = S.length := by have := hus.length; rw [List.length_map] at this; omega
   have hl2 := hG.len
   refine ⟨⟨_, .of hu⟩, fun p3 n3 => ?_⟩
   refine pqF (zs := (S.map mayEnd).map V.bl) (.of hu) (aqz (by omega)) n3 (by rw [List.length_map, List.length_map, hul]) (fun j y z hy hz H4 T s4 hT => ?_) (fun H4 s4 hp3 => ?_)
   ·have hj : j < S.length := by rw [← hul]; exact (List.getElem?_eq_some_iff.mp hy).1
    have hsj : S[j]? = some S[j] := List.getElem?_eq_getElem hj
    have hyT := hus.get (i := j) (d := auD S[j]) (by rw [List.getElem?_map, hsj]; rfl) hy
    rw [List.getElem?_map, List.getElem?_map, hsj] at hz
    cases hz
    walk_at "rd"
    exact ⟨S[j], y, rfl, (hG.all _ (List.getElem_mem hj)).1, hyT.mono s4.toT, hT⟩
   ·refine pq3.mpr ⟨S.map mayEnd, .of hp3, _, rfl, ?_⟩
    have e : (S.map mayEnd).any id = S.any mayEnd := by rw [List.any_map]; rfl
    have er : runA S [] t.length = if S.any mayEnd = true then -1 else (t.length : Int) := by
     cases S <;> rfl
    rw [e]
    rw [er] at hrun
    rw [hrun] at k
    by_cases h : S.any mayEnd = true
    ·rw [if_pos h] at k
     rw [if_pos h]
     exact k H4 (s3.trans s4)
    ·rw [if_neg h] at k
     rw [if_neg h]
     exact ⟨aqz (by omega), k H4 (s3.trans s4)⟩
theorem kq6 (g : G K mg) : FnOk P w K mg base CX0 5 g.eqy g.dqG ["_law_text", "_law_address"] (lqq K) := by
 refine g.gqd.ok aqt (fun vs H Q E h => ?_) (fun cdv A outer s H vs Q E hr h => ?_)
 ·obtain ⟨t, x, v, rfl, _⟩ := h; rfl
 ·obtain ⟨t, x, v, rfl, hl, hv, wf, sz, hW, k⟩ := h
  refine ⟨_, (aqf (tqC (pv 1) (oqP (n := 6) (K := K) rfl rfl (dqk (bqN (i := 2) aqt.nd rfl (Or.inl rfl)) (dqk (bqN (i := 3) aqt.nd rfl (Or.inl rfl)) (dqk (bqN (i := 4) aqt.nd rfl (Or.inl rfl)) (dqk (bqN (i := 5) aqt.nd rfl (Or.inl rfl)) (dqk (bqN (i := 6) aqt.nd rfl (Or.inl rfl)) (dqk (bqN (i := 7) aqt.nd rfl (Or.inl rfl)) oqg))))))))
   (aqf (aqp (i := 8) aqt.nd rfl (Or.inl rfl) aqj)
   (aqE (aqC (aqi kqr (pv 2) aqg (nomark _))
    (aqe (aqp (i := 8) aqt.nd rfl (Or.inl rfl) (aqh (aq7 g) (hr.mono (by decide)) rfl g.bqc g.aq4.kp g.bqd .nil pass0 (aqa (pv 0) (aqa (pv 8) (aqa (aqN (aqJ (K := K)) (pv 2) aqg) aqb)))))) aqm)
   (aqE (aqC (aqi eq9 (pv 3) bqo (nomark _))
    (aqe (aqp (i := 8) aqt.nd rfl (Or.inl rfl) (aqh (cqs g) (hr.mono (by decide)) rfl g.bq4 g.bqB.kp g.cqj .nil pass0 (aqa (pv 0) (aqa (aqh (aq7 g) (hr.mono (by decide)) rfl g.bqc g.aq4.kp g.bqd .nil pass0 (aqa (pv 0) (aqa (pv 8) (aqa aqg aqb)))) (aqa (pv 3) (aqa aqg aqb))))))) aqm)
   (aqE (aqC (aqi eq9 (pv 4) bqo (nomark _))
    (aqe (aqp (i := 8) aqt.nd rfl (Or.inl rfl) (aqh (aq7 g) (hr.mono (by decide)) rfl g.bqc g.aq4.kp g.bqd .nil pass0 (aqa (pv 0) (aqa (pv 8) (aqa (aqN (aqJ (K := K)) aqg (dqb mqY rfl g.sqy qqF (aqa (pv 4) aqb))) aqb)))))) aqm)
   (aqf (aqC (aqi mqB (pv 8) aqj (nomark _))
    (aqe (aql hqz)) aqm)
   (aqE (aqp (i := 8) aqt.nd rfl (Or.inl rfl) (aqh (oqw g) (hr.mono (by decide)) rfl g.lqW g.iq4.kp g.lqS .nil pass0 (aqa (pv 0) (aqa (pv 8) (aqa (pv 5) (aqa (aq1 kqO (pv 8) aqj (nomark _)) aqb))))))
   (aqE (aqC (aqi eq9 (pv 6) bqo (nomark _))
    (aqf (aqp (i := 8) aqt.nd rfl (Or.inl rfl) (aqh (aq7 g) (hr.mono (by decide)) rfl g.bqc g.aq4.kp g.bqd .nil pass0 (aqa (pv 0) (aqa (pv 8) (aqa aqg aqb)))))
   (aqe (kqV PassesOwn.never rfl (iqJ rfl g.kqC (aqa (aqA (aqT (K := K) rfl) rfl g.gqo PySem.boot_len (aqa (pv 6) aqb)) aqb)) (bqN (i := 9) aqt.nd rfl (Or.inl rfl))
   (aqE (aqC (aqi kqO (pv 9) aqj (nomark _))
    (aqe (aqp (i := 8) aqt.nd rfl (Or.inl rfl) (aqh (aq7 g) (hr.mono (by decide)) rfl g.bqc g.aq4.kp g.bqd .nil pass0 (aqa (pv 0) (aqa (pv 8) (aqa aqg aqb)))))) aqm)
   (aqE (aqp (i := 8) aqt.nd rfl (Or.inl rfl) (aqh (cqs g) (hr.mono (by decide)) rfl g.bq4 g.bqB.kp g.cqj .nil pass0 (aqa (pv 0) (aqa (pv 8) (aqa (aqK (aqn (K := K) rfl) (aqK (aqn (K := K) rfl) (pv 6) (pv 9) (fun _ _ => rfl)) aqj (fun _ _ => rfl)) (aqa aqg aqb))))))
   (aqe (aqC (aqi eq9 (aqK (aqn (K := K) rfl) (aqK (aqn (K := K) rfl) (pv 6) (pv 9) (fun _ _ => rfl)) aqj (fun _ _ => rfl)) bqo (nomark _))
    (aqe (aqp (i := 8) aqt.nd rfl (Or.inl rfl) (aqh (cqs g) (hr.mono (by decide)) rfl g.bq4 g.bqB.kp g.cqj .nil pass0 (aqa (pv 0) (aqa (aqh (aq7 g) (hr.mono (by decide)) rfl g.bqc g.aq4.kp g.bqd .nil pass0 (aqa (pv 0) (aqa (pv 8) (aqa aqg aqb)))) (aqa (aqK (aqn (K := K) rfl) (aqK (aqn (K := K) rfl) (pv 6) (pv 9) (fun _ _ => rfl)) aqj (fun _ _ => rfl)) (aqa aqg aqb))))))) aqm))))))) aqm)
   (aqE (aqC (aqi eq9 (pv 7) bqo (nomark _))
    (aqe (aqp (i := 8) aqt.nd rfl (Or.inl rfl) (aqh (cqs g) (hr.mono (by decide)) rfl g.bq4 g.bqB.kp g.cqj .nil pass0 (aqa (pv 0) (aqa (aqh (aq7 g) (hr.mono (by decide)) rfl g.bqc g.aq4.kp g.bqd .nil pass0 (aqa (pv 0) (aqa (pv 8) (aqa aqg aqb)))) (aqa (pv 7) (aqa aqg aqb))))))) aqm)
   (aqe (aql (aq1 dq2 (pv 8) (aqA (aqT (K := K) rfl) rfl g.gqo PySem.boot_len (aqa (pv 0) aqb)) (nomark _))))))))))))), ?_⟩
  obtain ⟨p, vw, vq, rfl, hp, hway, hq⟩ := wqd hv
  obtain ⟨h, d, gg, w, q, m, et, hH, hD, hG, hS, hQ, hM⟩ := hW
  have es : Str.ofString "/" = ⟨[47].toArray⟩ := by decide +kernel
  have e58 : Str.ofString ":" = ⟨[58].toArray⟩ := by decide +kernel
  have ess : Str.ofString "//" = ⟨[47, 47].toArray⟩ := by decide +kernel
  have e63 : Str.ofString "?" = ⟨[63].toArray⟩ := by decide +kernel
  have e38 : Str.ofString "&" = ⟨[38].toArray⟩ := by decide +kernel
  have e61 : Str.ofString "=" = ⟨[61].toArray⟩ := by decide +kernel
  have e35 : Str.ofString "#" = ⟨[35].toArray⟩ := by decide +kernel
  have efQ : Str.ofString "!$'()*,;@+/?:" = ⟨frQ.toArray⟩ := by decide +kernel
  have efM : Str.ofString "!$'()*,;@&=+/?:" = ⟨frM.toArray⟩ := by decide +kernel
  have hs8 := wf.sch.1
  walk_at "rd"
  refine ⟨p, _, rfl, .of hp, rfl, _, _, rfl, _, _, rfl, _, _, rfl, _, _, rfl, _, _, rfl, _, _, rfl, rfl, ?_⟩
  walk_at "rd"
  refine ⟨fun σ H' => H' = H ∧ ∃ i : Nat, σ = wrS t p x.scheme x.house x.door vw vq x.mark (i : Int) none ∧ At t i (h ++ (d ++ (gg ++ w ++ (q ++ m)))) ∧ (x.scheme ≠ [] → 0 < i), ?_, ?_⟩
  ·have hat0 : At t 0 (schT x.scheme ++ (h ++ (d ++ (gg ++ w ++ (q ++ m))))) := ⟨et, Nat.zero_le _⟩
   unfold schT at hat0
   refine ite2 (fun z => ?_) (fun z => ?_)
   ·have z : x.scheme ≠ [] := fun y => z (by rw [y])
    rw [if_neg z] at hat0
    rw [e58]
    refine ⟨aqz (by simp only [dq0, List.length_singleton]; omega), ?_⟩
    rw [pqh]
    exact ⟨t, x.scheme ++ [58], _, 0, rfl, hl, hat0, rfl, _, rfl, hat0.step, fun _ => by rw [List.length_append, List.length_singleton]; omega⟩
   ·have z : x.scheme = [] := Classical.byContradiction fun y => z (fun y' => y (hqJ.mp y'))
    rw [if_pos z] at hat0
    exact ⟨rfl, 0, rfl, hat0, fun y => absurd z y⟩
  rintro σ H1 ⟨rfl, i1, rfl, hat1, hi1⟩
  dsimp only [wrS]
  walk_at "rd"
  refine ⟨fun σ H' => Same H1 H' ∧ ∃ i : Nat, σ = wrS t p x.scheme x.house x.door vw vq x.mark (i : Int) none ∧ At t i (d ++ (gg ++ w ++ (q ++ m))) ∧ (x.scheme ≠ [] ∨ x.house ≠ none → 0 < i), ?_, ?_⟩
  ·cases hh : x.house with
   | none =>
    rw [hh] at hH
    have hH : h = [] := hH
    subst hH
    show if ¬ V.non = V.non then _ else _
    rw [if_neg (by simp)]
    exact ⟨Same.refl _, i1, rfl, hat1, fun z => z.elim hi1 (fun z => absurd rfl z)⟩
   | some l =>
    rw [hh] at hH
    obtain ⟨y, rfl, hy, hne, hl60⟩ := hH
    show if ¬ V.str ⟨l.toArray⟩ = V.non then _ else _
    rw [if_pos (by simp), ess]
    refine ⟨t, [47, 47], y ++ (d ++ (gg ++ w ++ (q ++ m))), i1, rfl, hl, hat1, ?_⟩
    have hat2 : At t (i1 + 2) (y ++ (d ++ (gg ++ w ++ (q ++ m)))) := At.step (w := [47, 47]) hat1
    exact ⟨t, y, d ++ (gg ++ w ++ (q ++ m)), l, [], i1 + 2, rfl, hl, hat2, hy, (fun z => by cases z), by decide, (fun c hc => by cases hc), fun H2 s2 => ⟨s2, _, rfl, hat2.step, fun _ => by omega⟩⟩
  rintro σ H2 ⟨s2, i2, rfl, hat2, hi2⟩
  dsimp only [wrS]
  clear hat1 hi1
  walk_at "rd"
  refine ⟨fun σ H' => Same H1 H' ∧ ∃ i : Nat, σ = wrS t p x.scheme x.house x.door vw vq x.mark (i : Int) none ∧ At t i (gg ++ w ++ (q ++ m)) ∧ (x.scheme ≠ [] ∨ x.house ≠ none → 0 < i), ?_, ?_⟩
  ·cases hh : x.door with
   | none =>
    rw [hh] at hD
    have hD : d = [] := hD
    subst hD
    show if ¬ V.non = V.non then _ else _
    rw [if_neg (by simp)]
    exact ⟨s2, i2, rfl, hat2, hi2⟩
   | some n =>
    have hn := (wf.doo n hh).1
    rw [hh] at hD
    obtain ⟨ds, rfl, hne, hds, hval, hv6, h48⟩ := hD
    have hdl := tqv hn.1 hn.2
    have edg : dg n = ds := by
     have e1 := vqW _ ds rfl hne hds h48
     rw [← hval]
     unfold dg
     rw [PySem.W.KIN.signs_num]
     exact e1
    show if ¬ V.int n = V.non then _ else _
    rw [if_pos (by simp)]
    refine ⟨n, rfl, lg hn.1 hn.2, ?_⟩
    rw [qql, edg, e58]
    rw [edg] at hdl
    rw [pqh]
    refine ⟨aqz (by simp only [dq0, List.length_singleton]; omega), t, [58] ++ ds, gg ++ w ++ (q ++ m), i2, rfl, hl, hat2, s2, _, rfl, At.step (w := [58] ++ ds) hat2, fun _ => ?_⟩
    rw [List.length_append, List.length_singleton]
    omega
  rintro σ H3 ⟨s3, i3, rfl, hat3, hi3⟩
  dsimp only [wrS]
  clear hat2 hi2
  walk_at "rd"
  rw [if_neg (by omega)]
  have hlw : x.steps.length ≤ 2000 := sz.num
  refine ⟨fun σ H' => Same H1 H' ∧ ∃ i : Nat, σ = wrS t p x.scheme x.house x.door vw vq x.mark (i : Int) none ∧ At t i (q ++ m), ?_, ?_⟩
  ·refine ⟨t, gg, w, q ++ m, i3, x.rooted, x.steps, x.ends, _, vw, rfl, hway.mono s3.toT, fun s hs c hc => (wf.stp s hs).2 c hc, by omega, hl, hat3, ?_, hS, fun H4 s4 => ⟨s3.trans s4, _, rfl, hat3.step⟩⟩
   rcases hG with hG | ⟨y1, y2, y3, y4, y5⟩
   ·exact .inl hG
   ·have := hi3 y4
    exact .inr ⟨y1, y2, y3, decide_eq_true (by omega), y5⟩
  rintro σ H4 ⟨s4, i4, rfl, hat4⟩
  dsimp only [wrS]
  clear hat3 hi3 hG hS s2 s3
  walk_at "rd"
  refine ⟨fun σ H' => Same H1 H' ∧ ∃ (i : Nat) (v9 : Option V), σ = wrS t p x.scheme x.house x.door vw vq x.mark (i : Int) v9 ∧ At t i m, ?_, ?_⟩
  ·cases hh : x.quest with
   | none =>
    rw [hh] at hQ hq
    have hQ : q = [] := hQ
    subst hQ
    cases hq
    rw [if_neg (by simp)]
    exact ⟨s4, i4, none, rfl, hat4⟩
   | some L =>
    rw [hh] at hQ hq
    have hsz := sz.que L hh
    have hpo := wf.que L hh
    obtain ⟨pq, xs, rfl, hpq, hxs⟩ := jqg (show IsT H1 (.tuple (L.map fun p => .tuple [st p.1, oD p.2])) vq from hq)
    obtain ⟨hl4, hxat⟩ := nqJ hxs
    walk_at "rd"
    rw [e63]
    obtain ⟨u, rfl, hu⟩ : ∃ u, q = 63 :: u ∧ QuR L 0 u := by
     cases L with
     | nil =>
      have hQ : q = [63] := hQ
      exact ⟨[], hQ, fun z => absurd z (by decide), fun _ _ => rfl, fun z => absurd z (by decide)⟩
     | cons pr ps =>
      obtain ⟨n, o⟩ := pr
      obtain ⟨a, v, r, rfl, h1, h2, h3, h4⟩ := hQ
      exact ⟨_, rfl, fun _ _ => ⟨n, o, ps, a, v, r, rfl, rfl, h1, h3, h4⟩, (fun _ z => by cases z), fun z => absurd z (by decide)⟩
    have hat5 : At t (i4 + 1) (u ++ m) := At.step (w := [63]) hat4
    refine ⟨t, [63], u ++ m, i4, rfl, hl, hat4, ?_⟩
    refine ⟨_, .inr (.of (s4 _ _ hpq)), by omega, by omega, ?_⟩
    rw [Int.toNat_natCast, hl4]
    refine hqf (fun j σ H' => Same H1 H' ∧ ∃ (i : Nat) (v9 : Option V) (u : List Nat), σ = wrS t p x.scheme x.house x.door vw (.ref pq) x.mark (i : Int) v9 ∧ QuR L j u ∧ At t i (u ++ m)) ⟨s4, i4 + 1, none, u, rfl, hu, hat5⟩ ?_ ?_
    ·clear hu hat5 hat4
     rintro j σ H5 hj ⟨s5, i5, v9, u, rfl, hu, hat5⟩
     dsimp only [wrS]
     obtain ⟨pr, hpr⟩ : ∃ pr, L[j]? = some pr := ⟨_, List.getElem?_eq_getElem hj⟩
     have hx : xs[j]? = some xs[j] := List.getElem?_eq_getElem (by omega)
     obtain ⟨pr', hpr', hI'⟩ := hxat j _ hx
     generalize xs[j] = y at hx hI'
     rw [hpr] at hpr'
     cases hpr'
     obtain ⟨nm, vl⟩ := pr
     obtain ⟨pp, y1, y2, rfl, hpp, i1, i2⟩ := isT2 hI'
     cases oq8 i1
     cases qqh i2
     have hdj : L.drop j = (nm, vl) :: L.drop (j + 1) := by
      rw [List.drop_eq_getElem_cons hj]
      congr 1
      rw [List.getElem?_eq_getElem hj] at hpr
      exact Option.some.inj hpr
     have hixj : atI xs (0 + (j : Int)) = some (.ref pp) := by rw [Int.zero_add]; exact aqu hx
     walk_at "rd"
     refine ⟨fun σ H' => H' = H5 ∧ ∃ (i : Nat) (a v r : List Nat), σ = wrS t p x.scheme x.house x.door vw (.ref pq) x.mark (i : Int) (some (.int (0 + (j : Int)))) ∧ WrT frQ nm a ∧ ValW vl v ∧ PrsW (L.drop (j + 1)) r ∧ At t i (a ++ (v ++ (r ++ m))), ?_, ?_⟩
     ·cases j with
      | zero =>
       rw [if_neg (by decide)]
       obtain ⟨n, o, ps, a, v, r, eL, rfl, h1, h2, h3⟩ := hu.1 hj rfl
       rw [eL] at hdj
       cases hdj
       rw [List.append_assoc, List.append_assoc] at hat5
       refine ⟨rfl, i5, a, v, r, rfl, h1, h2, ?_, hat5⟩
       rw [eL]
       exact h3
      | succ j =>
       rw [if_pos (by omega), e38]
       have hu := hu.2.2 (by omega)
       rw [hdj] at hu
       cases hu with
       | cons h1 h2 h3 h4 =>
        rename_i a v r
        refine ⟨t, [38], a ++ (v ++ r) ++ m, i5, rfl, hl, hat5, rfl, i5 + 1, a, v, r, rfl, h1, h3, h4, ?_⟩
        have := At.step (w := [38]) (r := a ++ (v ++ r) ++ m) hat5
        rw [List.append_assoc, List.append_assoc] at this
        exact this
     rintro σ H6 ⟨rfl, i6, a, v, r, rfl, ha, hv6, hr6, hat6⟩
     dsimp only [wrS]
     walk_at "rd"
     refine ⟨fun σ H' => Same H1 H' ∧ ∃ (i : Nat), σ = wrS t p x.scheme x.house x.door vw (.ref pq) x.mark (i : Int) (some (.int (0 + (j : Int)))) ∧ At t i (v ++ (r ++ m)), ?_, ?_⟩
     ·refine ⟨xs, _, .inr (.of (s5 _ _ hpq)), hixj, L2.kqz.mpr ⟨_, _, .inr (.of (s5 _ _ hpp)), rfl, ?_⟩⟩
      rw [efQ]
      exact ⟨t, a, v ++ (r ++ m), nm, frQ, i6, rfl, hl, hat6, ha, by decide +kernel, by decide +kernel, by decide +kernel, fun H7 s7 => ⟨s5.trans s7, _, rfl, hat6.step⟩⟩
     rintro σ H7 ⟨s7, i7, rfl, hat7⟩
     dsimp only [wrS]
     clear hat6 hat5
     walk_at "rd"
     refine ⟨xs, _, .inr (.of (s7 _ _ hpq)), hixj, L2.kqz.mpr ⟨_, _, .inr (.of (s7 _ _ hpp)), rfl, ?_⟩⟩
     have hnx : ∀ _ : Hp, PrsW (L.drop (j + 1)) r → QuR L (j + 1) r := fun _ h => ⟨(fun _ z => by cases z), (fun z => by cases z), fun _ => h⟩
     cases vl with
     | none =>
      have hv6 : v = [] := hv6
      subst hv6
      show if ¬ V.non = V.non then _ else _
      rw [if_neg (by simp)]
      exact ⟨s7, i7, _, r, ⟨rfl, rfl⟩, hnx H7 hr6, hat7⟩
     | some l =>
      obtain ⟨y, rfl, hy⟩ := hv6
      show if ¬ V.str ⟨l.toArray⟩ = V.non then _ else _
      rw [if_pos (by simp), e61]
      refine ⟨t, [61], y ++ (r ++ m), i7, rfl, hl, hat7, ?_⟩
      have hat8 : At t (i7 + 1) (y ++ (r ++ m)) := At.step (w := [61]) hat7
      refine ⟨xs, _, .inr (.of (s7 _ _ hpq)), hixj, L2.kqz.mpr ⟨_, _, .inr (.of (s7 _ _ hpp)), rfl, ?_⟩⟩
      rw [efQ]
      exact ⟨t, y, r ++ m, l, frQ, i7 + 1, rfl, hl, hat8, hy, by decide +kernel, by decide +kernel, by decide +kernel, fun H8 s8 => ⟨s7.trans s8, _, _, r, ⟨rfl, rfl⟩, hnx H8 hr6, hat8.step⟩⟩
    ·rintro σ H5 ⟨s5, i5, v9, u, rfl, hu, hat5⟩
     have hu0 : u = [] := by
      cases L with
      | nil => exact hu.2.1 rfl rfl
      | cons pr ps =>
       have := hu.2.2 (by simp)
       rw [List.drop_length] at this
       cases this
       rfl
     subst hu0
     exact ⟨s5, i5, v9, rfl, hat5⟩
  rintro σ H5 ⟨s5, i5, v9, rfl, hat5⟩
  dsimp only [wrS]
  clear hat4 hQ s4
  have hle : At t i5 m := hat5
  walk_at "rd"
  refine ⟨fun σ H' => Same H1 H' ∧ σ = wrS t p x.scheme x.house x.door vw vq x.mark (t.length : Int) v9, ?_, ?_⟩
  ·cases hh : x.mark with
   | none =>
    rw [hh] at hM
    have hM : m = [] := hM
    subst hM
    show if ¬ V.non = V.non then _ else _
    rw [if_neg (by simp)]
    have := hle.len
    simp only [List.length_nil, Nat.add_zero] at this
    rw [this]
    exact ⟨s5, rfl⟩
   | some l =>
    rw [hh] at hM
    obtain ⟨y, rfl, hy⟩ := hM
    show if ¬ V.str ⟨l.toArray⟩ = V.non then _ else _
    rw [if_pos (by simp), e35, efM]
    refine ⟨t, [35], y, i5, rfl, hl, hle, ?_⟩
    have hat6 : At t (i5 + 1) (y ++ []) := by rw [List.append_nil]; exact At.step (w := [35]) hle
    refine ⟨t, y, [], l, frM, i5 + 1, rfl, hl, hat6, hy, by decide +kernel, by decide +kernel, by decide +kernel, fun H6 s6 => ?_⟩
    have := hat6.step.len
    simp only [List.length_nil, Nat.add_zero] at this
    rw [this]
    exact ⟨s5.trans s6, rfl⟩
  rintro σ H6 ⟨s6, rfl⟩
  dsimp only [wrS]
  walk_at "rd"
  exact ⟨aqz (by omega), k H6 s6⟩
theorem lqf (g : G K mg) : FnOk P w K mg base CX0 6 g.eqq g.dqH ["thing"] lqg := by
 refine g.gqj.ok lqp (fun vs H Q E h => ?_) (fun cdv A outer s H vs Q E hr h => ?_)
 ·obtain ⟨a, b, c, d, e, f, v, rfl, _⟩ := h; rfl
 ·obtain ⟨a, b, c, d, e, f, v, rfl, hv, hs, k⟩ := h
  refine ⟨_, (aqe (aql (cqr (aqh (jqL g) (hr.mono (by decide)) rfl g.hqS g.gql.kp g.hqT .nil pass0 (aqa (aqK (aqn (K := K) rfl) (pv 0) (aqy (v := oqT) rfl g.mql ⟨_, rfl⟩) (fun _ _ => rfl)) aqb)) (cqr (aqh (oqj g) (hr.mono (by decide)) rfl g.lqF g.jql.kp g.lqK .nil pass0 (aqa (aqK (aqn (K := K) rfl) (pv 0) (aqy (v := rqG) rfl g.oqE ⟨_, rfl⟩) (fun _ _ => rfl)) aqb)) (cqr (aqh (pqt g) (hr.mono (by decide)) rfl g.nqq g.kqU.kp g.nqr .nil pass0 (aqa (aqK (aqn (K := K) rfl) (pv 0) (aqy (v := sq7) rfl g.qqW ⟨_, rfl⟩) (fun _ _ => rfl)) aqb)) (cqr (aqh (qqO g) (hr.mono (by decide)) rfl g.oqU g.mqx.kp g.oqV .nil pass0 (aqa (aqK (aqn (K := K) rfl) (pv 0) (aqy (v := wqa) rfl g.uqe ⟨_, rfl⟩) (fun _ _ => rfl)) aqb)) (cqr (aqh (lqt g) (hr.mono (by decide)) rfl g.iqH g.gqn.kp g.iqk .nil pass0 (aqa (aqK (aqn (K := K) rfl) (pv 0) (aqy (v := pqL) rfl g.lqw ⟨_, rfl⟩) (fun _ _ => rfl)) aqb)) (bqG (aqh (fqm g) (hr.mono (by decide)) rfl g.dqu g.cqk.kp g.dqt .nil pass0 (aqa (aqK (aqn (K := K) rfl) (pv 0) (aqy (v := wqV) rfl g.sq0 ⟨_, rfl⟩) (fun _ _ => rfl)) aqb)))))))))), ?_⟩
  have hs2 := (eq0 hs).2
  cases hv with
  | @tup p xs ds hp r =>
   obtain ⟨x0, x1, x2, x3, x4, x5, rfl, h0, h1, h2, h3, h4, h5⟩ := isAll6 r
   walk_at "rd"
   refine ⟨_, x0, .inr (SqT.of hp), aqu (j := 0) rfl, a, x0, rfl, h0, aqX hs2 (by simp), fun H1 s1 => ?_⟩
   walk_at "rd"
   refine ite2 (fun g0 => ?_) (fun g0 => ?_)
   rotate_left
   ·have k1 := k H1 s1
    rw [(Bool.not_eq_true _).mp g0, Bool.false_and] at k1
    exact k1
   rw [g0] at k
   refine ⟨_, x1, .inr (SqT.of (s1 _ _ hp)), aqu (j := 1) rfl, b, x1, rfl, h1.mono s1, aqX hs2 (by simp), fun H2 s2 => ?_⟩
   have s2 := s1.trans s2
   walk_at "rd"
   refine ite2 (fun g1 => ?_) (fun g1 => ?_)
   rotate_left
   ·have k1 := k H2 s2
    rw [(Bool.not_eq_true _).mp g1, Bool.false_and] at k1
    exact k1
   rw [g1] at k
   refine ⟨_, x2, .inr (SqT.of (s2 _ _ hp)), aqu (j := 2) rfl, c, x2, rfl, h2.mono s2, ?_⟩
   walk_at "rd"
   refine ite2 (fun g2 => ?_) (fun g2 => ?_)
   rotate_left
   ·have k1 := k H2 s2
    rw [(Bool.not_eq_true _).mp g2, Bool.false_and] at k1
    exact k1
   rw [g2] at k
   refine ⟨_, x3, .inr (SqT.of (s2 _ _ hp)), aqu (j := 3) rfl, d, x3, rfl, h3.mono s2, aqX hs2 (by simp), fun H3 s3 => ?_⟩
   have s3 := s2.trans s3
   walk_at "rd"
   refine ite2 (fun g3 => ?_) (fun g3 => ?_)
   rotate_left
   ·have k1 := k H3 s3
    rw [(Bool.not_eq_true _).mp g3, Bool.false_and] at k1
    exact k1
   rw [g3] at k
   refine ⟨_, x4, .inr (SqT.of (s3 _ _ hp)), aqu (j := 4) rfl, e, x4, rfl, h4.mono s3, aqX hs2 (by simp), fun H4 s4 => ?_⟩
   have s4 := s3.trans s4
   walk_at "rd"
   refine ite2 (fun g4 => ?_) (fun g4 => ?_)
   rotate_left
   ·have k1 := k H4 s4
    rw [(Bool.not_eq_true _).mp g4, Bool.false_and] at k1
    exact k1
   rw [g4] at k
   refine ⟨_, x5, .inr (SqT.of (s4 _ _ hp)), aqu (j := 5) rfl, f, x5, rfl, h5.mono s4, aqX hs2 (by simp), fun H5 s5 => ?_⟩
   exact k H5 (s4.trans s5)
theorem kqE (g : G K mg) : FnOk P w K mg base (CXN P w base) 6 g.eqm g.dqO ["cursor"] (kqq K g.aqs g.aqx) := by
 refine g.fq2.okn kq7 (fun vs H Q E h => ?_) (fun cdv A outer s H vs Q E hr h => ?_)
 ·obtain ⟨p, t, i, rfl, _⟩ := h; rfl
 ·obtain ⟨p, t, i, rfl, hcur, hi, hl, h128, k1, k2⟩ := h
  refine ⟨_, (aqf (aqC (dqd (aqQ (cq1 (pv 0) g.aqk g.aqD (aqH g) (hr.mono (by decide)) g.aqF .nil pass0 (aqa aqg aqb))))
    (aqe (aql bqo)) aqm)
   (aqe (aql (aqh (dq1 g) (hr.mono (by decide)) rfl g.cqH g.bqE.kp g.eqY .nil aqO (aqa (pv 0) (aqa aqg (aqa (aqy (v := gq8) rfl g.eqQ ⟨_, rfl⟩) aqb))))))), ?_⟩
  have e1 : Str.ofString "//" = ⟨[47, 47].toArray⟩ := by decide +kernel
  rw [e1]
  walk_at "rd"
  refine aqS hcur ⟨p, t, [47, 47], i, rfl, hcur, hi, hl, fun hp H1 s1 c1 => ⟨_, rfl, ?_⟩, fun hp => ⟨_, rfl, ?_⟩⟩
  ·rw [if_neg (by decide)]
   have h1 : (t.drop i).take 2 = [47, 47] := hp
   have hi1 : i + 2 ≤ t.length := by
    have := congrArg List.length h1
    rw [List.length_take, List.length_drop] at this
    simp only [List.length_cons, List.length_nil] at this
    omega
   have em : houM (t.drop i) = sh 2 (mp some (filM [] (t.drop (i + 2)) (some 60))) := by unfold houM; rw [if_pos h1, List.drop_drop]
   refine ⟨p, t, [], i + 2, some 60, rfl, c1, hi1, hl, h128, by decide, fun s n e H2 s2 c2 => k1 (some s) (2 + n) (by rw [em, e]; rfl) H2 (s1.trans s2) (by rw [← Nat.add_assoc]; exact c2), fun n e d H2 s2 hx => k2 (2 + n) (by rw [em, e]; rfl) d H2 (s1.trans s2) (by rw [hx, Nat.add_assoc])⟩
  ·rw [if_pos rfl]
   exact k1 none 0 (by unfold houM; exact if_neg hp) H (SameBut.refl _ _) hcur
theorem iqZ (g : G K mg) : FnOk P w K mg base (CXN P w base) 6 g.cqA g.bq9 ["cursor"] (iqg K g.aqs g.aqx) := by
 refine g.dq3.okn bq8 (fun vs H Q E h => ?_) (fun cdv A outer s H vs Q E hr h => ?_)
 ·obtain ⟨p, t, i, rfl, _⟩ := h; rfl
 ·obtain ⟨p, t, i, rfl, hcur, hi, hl, h128, k1, k2⟩ := h
  refine ⟨_, (aqf (aqC (dqd (aqQ (cq1 (pv 0) g.aqk g.aqD (aqH g) (hr.mono (by decide)) g.aqF .nil pass0 (aqa aqg aqb))))
    (aqe (aql bqo)) aqm)
   (aqf (aqp (i := 1) bq8.nd rfl (Or.inl rfl) (aqh (dvs := [.non]) (bqI g) (hr.mono (by decide)) rfl g.bq1 g.bqx.kp g.bq2 (.cons rfl .nil) aqO (aqa (pv 0) (aqa (aqy (v := bqg) rfl g.bqz ⟨_, rfl⟩) aqb))))
   (aqE (aqC (aqi dq2 (pv 1) aqg (nomark _))
    (aqe (aql (aqo aqb))) aqm)
   (aqE (aqp (i := 2) bq8.nd rfl (Or.inl rfl) (aqL (aqa (aqo (aqa (pv 1) (aqa (aqh (gqB g) (hr.mono (by decide)) rfl g.gqg g.eqs.kp g.gqf .nil aqO (aqa (pv 0) aqb)) aqb))) aqb)))
   (aqf (jq4 PassesOwn.leaving (aqQ (cq1 (pv 0) g.aqk g.aqD (aqH g) (hr.mono (by decide)) g.aqF .nil pass0 (aqa aqg aqb)))
   (aqf (aqp (i := 1) bq8.nd rfl (Or.inl rfl) (aqh (dvs := [.non]) (dq1 g) (hr.mono (by decide)) rfl g.cqH g.bqE.kp g.eqb (.cons rfl .nil) aqO (aqa (pv 0) (aqa (aqy (v := bqg) rfl g.bqz ⟨_, rfl⟩) aqb))))
   (aqe (gqc (fqi (K := K) rfl PySem.F.plainAttrs_list PySem.F.slot_list_append PySem.F.type_list_append dqW (pv 2) (aqa (aqo (aqa (pv 1) (aqa (aqh (gqB g) (hr.mono (by decide)) rfl g.gqg g.eqs.kp g.gqf .nil aqO (aqa (pv 0) aqb)) aqb))) aqb))))))
   (aqe (aql (dqb (kqb (K := K) rfl) rfl g.jqh iqI (aqa (pv 2) aqb))))))))), ?_⟩
  have eF : bqg = .str ⟨frQ.toArray⟩ := by
   show V.str (Str.ofString _) = _
   unfold frQ; simp
  have e1 : Str.ofString "?" = ⟨[63].toArray⟩ := by decide +kernel
  have e2 : Str.ofString "&" = ⟨[38].toArray⟩ := by decide +kernel
  rw [eF, e1, e2]
  have pl : ∀ {j c : Nat}, (t.drop j).take [c].length = [c] → j + 1 ≤ t.length := fun {j c} hp => by
   have := congrArg List.length hp
   rw [List.length_take, List.length_drop] at this
   simp only [List.length_singleton] at this
   omega
  have tl : ∀ {j n : Nat} {s fr : List Nat}, j ≤ t.length → txtM fr (t.drop j) none = .ok (s, n) → j + n ≤ t.length := fun {j n s fr} hb e => by
   have := (cqp e).1
   rw [List.length_drop] at this
   omega
  have vl : ∀ {j n : Nat} {o : Option (List Nat)}, j ≤ t.length → valM (t.drop j) = .ok (o, n) → j + n ≤ t.length := fun {j n o} hb e => by
   have := tqb e
   rw [List.length_drop] at this
   omega
  walk_at "rd"
  refine aqS hcur ⟨p, t, [63], i, rfl, hcur, hi, hl, fun hp H1 s1 c1 => ⟨_, rfl, ?_⟩, fun hp => ⟨_, rfl, ?_⟩⟩
  ·rw [if_neg (by decide)]
   have hi1 := pl hp
   have em : queM (t.drop i) = sh 1 (bdR (txtM frQ (t.drop (i + 1)) none) fun s n => if s = [] then .ok (some [], 0) else bdR (valM (t.drop (i + (1 + n)))) fun v m => mp (fun l => some ((s, v) :: l)) (prsF ((t.drop i).length + 1) (t.drop (i + (1 + n + m))))) := by
    unfold queM
    rw [if_pos (take1.mp hp)]
    simp only [List.drop_drop]
   refine ⟨p, t, frQ, i + 1, none, rfl, c1, hi1, hl, h128, oqB, fun s n e H2 s2 c2 => ?_, fun n e d H2 s2 hx => k2 (1 + n) (by rw [em, e]; rfl) d H2 (s1.trans s2) (by rw [hx, Nat.add_assoc])⟩
   have s12 := s1.trans s2
   have hi2 := tl hi1 e
   by_cases hs : s = []
   ·refine ⟨fun _ _ => False, ?_, fun _ _ z => z.elim⟩
    rw [L2.fqB, decide_eq_true (hqJ.mpr hs)]
    refine ⟨_, rfl, ?_⟩
    rw [if_pos rfl]
    refine ⟨by decide, fun pt Ha n1 sa hp1 => k1 (some []) (1 + n) ?_ Ha (s12.trans sa.but) (by rw [← Nat.add_assoc]; exact c2.same sa) _ (.tup hp1 .nil)⟩
    rw [em, e]
    show sh 1 (sh n (if s = [] then _ else _)) = _
    rw [if_pos hs]
    rfl
   refine ⟨fun σ H' => H' = H2 ∧ σ = [some (.ref p), some (.str ⟨s.toArray⟩), none], ?_, ?_⟩
   ·rw [L2.fqB]
    refine ⟨_, rfl, ?_⟩
    rw [if_neg (by rw [decide_eq_false (fun z => hs (hqJ.mp z))]; decide)]
    exact ⟨rfl, rfl⟩
   rintro σ H' ⟨rfl, rfl⟩
   have em2 : queM (t.drop i) = sh (1 + n) (bdR (valM (t.drop (i + (1 + n)))) fun v m => mp (fun l => some ((s, v) :: l)) (prsF ((t.drop i).length + 1) (t.drop (i + (1 + n + m))))) := by
    rw [em, e]
    show sh 1 (sh n (if s = [] then _ else _)) = _
    rw [if_neg hs, qqo]
   walk_at "rd"
   obtain ⟨W, hW⟩ : ∃ W : Nat → St → Hp → Prop, W = fun m σ H4 => ∃ (dn : List (List Nat × Option (List Nat))) (b : Nat) (q : Addr) (v1 : Option V) (vs : List V), σ = [some (.ref p), v1, some (.ref q)] ∧ Cur H4 g.aqs p t (i + b) ∧ i + b ≤ t.length ∧ dn.length ≤ b ∧ (t.drop (i + b)).length < m ∧ Via (queM (t.drop i)) b (fun l => some (dn ++ l)) (prsF m (t.drop (i + b))) ∧ H4 q = some (.lst vs) ∧ PrL H4 vs dn ∧ SameBut p H H4 ∧ H q = none ∧ q ≠ p := ⟨_, rfl⟩
   refine ⟨fun σ H4 => ∃ m, W m σ H4, ?_, ?_⟩
   ·refine ⟨p, t, i + 1 + n, rfl, c2, hi2, hl, h128, fun o m e' H3 s3 c3 => ⟨by decide, fun p1 Ha n1 sa hp1 => ⟨by decide, fun q Hb nq sb hq => ⟨(t.drop i).length + 1, ?_⟩⟩⟩, fun m e' d H3 s3 hx => k2 (1 + n + m) (by rw [em2, ← Nat.add_assoc, e']; rfl) d H3 (s12.trans s3) (by rw [hx, show i + 1 + n + m = i + (1 + n + m) by omega])⟩
    rw [hW]
    have hi3 := vl hi2 e'
    have hqp : q ≠ p := by obtain ⟨dx, hp⟩ := c3.same sa; exact (aqr hp nq).symm
    have sbA : SameBut p H Ha := (s12.trans s3).trans sa.but
    have hk := (cqp e).2.2 hs
    refine ⟨[(s, o)], 1 + n + m, q, _, _, rfl, by rw [show i + (1 + n + m) = i + 1 + n + m by omega]; exact (c3.same sa).same sb, by omega, by show 1 ≤ _; omega, by simp only [List.length_drop]; omega, ?_, hq, ⟨rfl, fun i' a' y z1 z2 => ?_⟩, sbA.trans sb.but, sbA.free nq hqp, hqp⟩
    ·show _ = sh _ (mp _ _)
     rw [em2, ← Nat.add_assoc, e']
     show sh (1 + n) (sh m (mp _ _)) = _
     rw [qqo]
     rfl
    ·cases i' with
     | zero =>
      cases z1
      cases z2
      exact .tup (sb _ _ hp1) (.cons (.str _) (.cons (sqG _) .nil))
     | succ j => cases z1
   rintro σ H4 ⟨m, hm⟩
   unfold L2.Later
   rw [L2.rqa]
   refine lq2 W m hm ?_
   rintro m σ H5 hm
   rw [hW] at hm
   obtain ⟨dn, b, q, v1, vs, rfl, c5, hj5, hdn, hfu, via, hq5, hpl, sb5, hqH, hqp⟩ := hm
   have hdl : dn.length ≤ 100000 := by omega
   obtain ⟨m', rfl⟩ : ∃ m', m = m' + 1 := ⟨m - 1, by omega⟩
   walk_at "rd"
   refine aqS c5 ⟨p, t, [38], i + b, rfl, c5, hj5, hl, fun hp H6 s6 c6 => ⟨_, rfl, ?_⟩, fun hp => ⟨_, rfl, ?_⟩⟩
   ·rw [if_pos rfl]
    have hi6 := pl hp
    have ep : prsF (m' + 1) (t.drop (i + b)) = sh 1 (bdR (filM frQ (t.drop (i + b + 1)) none) fun s n => bdR (valM (t.drop (i + b + (1 + n)))) fun v m => mp (fun l => (s, v) :: l) (prsF m' (t.drop (i + b + (1 + n + m))))) := by
     conv => lhs; unfold prsF
     rw [if_pos (take1.mp hp)]
     simp only [List.drop_drop]
    refine ⟨_, fun _ _ h => h, p, t, frQ, i + b + 1, none, rfl, c6, hi6, hl, h128, oqB, fun s2 n2 e6 H7 s7 c7 => ⟨⟨_, .of ((s6.trans s7) _ _ hqp hq5)⟩, ?_⟩, fun n2 e6 d H7 s7 hx => k2 (b + (1 + n2)) (via.err (by rw [ep, e6]; rfl)) d H7 ((sb5.trans s6).trans s7) (by rw [hx, show i + b + 1 + n2 = i + (b + (1 + n2)) by omega])⟩
    have hi7 := tl hi6 (hqC e6).1
    have hk2 := (cqp (hqC e6).1).2.2 (hqC e6).2
    refine ⟨p, t, i + b + 1 + n2, rfl, c7, hi7, hl, h128, fun o2 k3 e7 H8 s8 c8 => ⟨by decide, fun p1 Ha n1 sa hp1 => ⟨vs, sa _ _ (((s6.trans s7).trans s8) _ _ hqp hq5), ?_, m', Nat.lt_succ_self _, ?_⟩⟩, fun k3 e7 d H8 s8 hx => k2 (b + (1 + (n2 + k3))) (via.err ?_) d H8 (((sb5.trans s6).trans s7).trans s8) (by rw [hx, show i + b + 1 + n2 + k3 = i + (b + (1 + (n2 + k3))) by omega])⟩
    ·rw [hpl.1]
     exact Nat.lt_of_le_of_lt hdl (by decide)
    ·rw [hW]
     have hi8 := vl hi7 e7
     have hqa : Ha q = some (.lst vs) := sa _ _ (((s6.trans s7).trans s8) _ _ hqp hq5)
     refine ⟨dn ++ [(s2, o2)], b + (1 + n2 + k3), q, _, _, rfl, ?_, by omega, by rw [List.length_append, List.length_singleton]; omega, by rw [List.length_drop] at hfu ⊢; omega, ?_, aqw, ?_, ?_, hqH, hqp⟩
     ·obtain ⟨dx, hp⟩ := c8.same sa
      exact ⟨dx, by rw [aqv hqp.symm, show i + (b + (1 + n2 + k3)) = i + b + 1 + n2 + k3 by omega]; exact hp⟩
     ·have := via.step (a := 1 + n2 + k3) (g := fun l => (s2, o2) :: l) (r' := prsF m' (t.drop (i + b + (1 + n2 + k3)))) (by
       rw [ep, e6]
       show sh 1 (sh n2 (bdR _ _)) = _
       rw [show i + b + (1 + n2) = i + b + 1 + n2 by omega, e7]
       show sh 1 (sh n2 (sh k3 _)) = _
       rw [qqo, qqo])
      rw [Nat.add_assoc i b] at this
      simpa using this
     ·refine PrL.mono (PrL.snoc ((((hpl.mono (c5.toT s6)).mono (c6.toT s7)).mono (c7.toT s8)).mono sa.toT) ?_) (iqY hqa)
      exact .tup hp1 (.cons (.str _) (.cons (sqG _) .nil))
     ·exact ((((sb5.trans s6).trans s7).trans s8).trans sa.but).upd hqH
    ·rw [ep, e6]
     show sh 1 (sh n2 (bdR _ _)) = _
     rw [show i + b + (1 + n2) = i + b + 1 + n2 by omega, e7]
     rfl
   ·rw [if_neg (by decide)]
    have ep : prsF (m' + 1) (t.drop (i + b)) = .ok ([], 0) := by
     unfold prsF
     rw [if_neg (fun z => hp (take1.mpr z))]
    have e3 := via.ok ep
    rw [List.append_nil] at e3
    refine ⟨vs, .inl (.of hq5), fun l Ha sa hla => k1 (some dn) b e3 Ha (sb5.trans sa.but) (c5.same sa) _ ?_⟩
    exact .tup hla (lqJ (g := pD) hpl.1 fun i' a' y z1 z2 => (hpl.2 i' a' y z1 z2).mono sa.toT)
  ·rw [if_pos rfl]
   exact k1 none 0 (by unfold queM; rw [if_neg (fun z => hp (take1.mpr z))]) H (SameBut.refl _ _) hcur _ .non
theorem mqg (g : G K mg) : FnOk P w K mg base CX0 7 g.fqs g.eqn ["thing"] lq6 := by
 refine g.gqK.ok mqi (fun vs H Q E h => ?_) (fun cdv A outer s H vs Q E hr h => ?_)
 ·obtain ⟨d, v, rfl, _⟩ := h; rfl
 ·obtain ⟨d, v, rfl, hv, hs, k⟩ := h
  refine ⟨_, (aqe (aql (cqr (aqh (hqV g) (hr.mono (by decide)) rfl g.hqw g.fqE.kp g.hqk .nil pass0 (aqa (pv 0) (aqa aqj aqb))) (cqr (aqh (lqf g) (hr.mono (by decide)) rfl g.iqq g.gqj.kp g.iqm .nil pass0 (aqa (pv 0) aqb)) (bqG (aqh (kq4 g) (hr.mono (by decide)) rfl g.iqo g.gqb.kp g.iqQ .nil pass0 (aqa (pv 0) aqb))))))), ?_⟩
  walk_at "rd"
  refine ⟨d, v, 6, rfl, hv, ?_⟩
  walk_at "rd"
  refine ite2 (fun h => ?_) (fun h => ?_)
  rotate_left
  ·have k1 := k H (Same.refl _)
   rw [sqV h] at k1
   exact k1
  obtain ⟨a, b, c, d, e, f, rfl⟩ := tup6 h
  refine ⟨a, b, c, d, e, f, v, rfl, hv, hs, fun H1 s1 => ?_⟩
  have k1 := k H1 s1
  walk_at "rd"
  refine ite2 (fun g => ?_) (fun g => ?_)
  ·have g' := g
   simp only [Bool.and_eq_true] at g'
   refine ⟨a, b, c, d, e, f, v, rfl, hv.mono s1, g'.1, g'.2.2.2.1, ?_⟩
   simp only [addrD, g, Bool.true_and] at k1
   exact k1
  ·simp only [addrD, (Bool.not_eq_true _).mp g, Bool.false_and] at k1
   exact k1
theorem sqe (g : G K mg) : FnOk P w K mg base (CXN P w base) 7 g.pqp g.mqb ["text"] (sqg K g.aqx) := by
 refine g.pq6.okn gqC (fun vs H Q E h => ?_) (fun cdv A outer s H vs Q E hr h => ?_)
 ·obtain ⟨v, rfl, _⟩ := h; rfl
 ·obtain ⟨v, rfl, h⟩ := h
  refine ⟨_, (aqf (aqC (dqd (aqQ (aqA oq2 rfl g.aqR aqG (aqa (pv 0) (aqa (eqK (v := .ty "str") rfl g.sqy qqF rfl) aqb)))))
    (aqe (fqR eqH rfl g.bq0 g.cqF (aqM g) (hr.mono (by decide)) g.aqI rfl pass0 rfl (aqa aqj aqb))) aqm)
   (aqf (aqp (i := 1) gqC.nd rfl (Or.inl rfl) (tqX g.pqb (iqO g) (hr.mono (by decide)) rfl g.pqf g.fqM .nil pass0 (aqa (pv 0) aqb)))
   (aqf (aqp (i := 2) gqC.nd rfl (Or.inl rfl) (aqh (jq6 g) (hr.mono (by decide)) rfl g.hqL g.fqx.kp g.hqD .nil pass0 (aqa (pv 1) aqb)))
   (aqf (aqp (i := 3) gqC.nd rfl (Or.inl rfl) (aqh (kqE g) (hr.mono (by decide)) rfl g.iqT g.fq2.kp g.iqB .nil aqO (aqa (pv 1) aqb)))
   (aqE (aqp (i := 4) gqC.nd rfl (Or.inl rfl) (jqZ (aqi gqk (pv 3) bqo (nomark _)) bqo (aqh (lqc g) (hr.mono (by decide)) rfl g.jqt g.gqD.kp g.jqO .nil aqO (aqa (pv 1) aqb))))
   (aqE (aqp (i := 5) gqC.nd rfl (Or.inl rfl) (aqh (mqF g) (hr.mono (by decide)) rfl g.kqp g.hq7.kp g.kqh .nil aqO (aqa (pv 1) (aqa (kq9 (aq1 kqr (pv 2) aqg (nomark _)) (bqG (aq1 eq9 (pv 3) bqo (nomark _)))) aqb))))
   (aqf (aqp (i := 6) gqC.nd rfl (Or.inl rfl) (aqh (iqZ g) (hr.mono (by decide)) rfl g.gqt g.dq3.kp g.gqv .nil aqO (aqa (pv 1) aqb)))
   (aqf (aqp (i := 7) gqC.nd rfl (Or.inl rfl) (aqh (lqu g) (hr.mono (by decide)) rfl g.jqD g.gqP.kp g.jqy .nil aqO (aqa (pv 1) aqb)))
   (aqf (aqC (dqd (aqQ (gqm (pv 1) g.aqk g.dq4 (gqw g) (hr.mono (by decide)) g.eqO .nil pass0)))
    (aqe (fqR eqH rfl g.bq0 g.cqF (aqM g) (hr.mono (by decide)) g.aqI rfl pass0 rfl (aqa (cqq (pv 1) rfl) aqb))) aqm)
   (aqe (aql (aqo (aqa (pv 2) (aqa (pv 3) (aqa (pv 4) (aqa (pv 5) (aqa (pv 6) (aqa (pv 7) aqb)))))))))))))))))), ?_⟩
  walk_at "rd"
  rcases h with ⟨ty, hty, hkit, kE⟩ | ⟨t, rfl, hl, h128, k1, k2⟩
  ·refine ⟨_, _, _, _, rfl, hty, hkit, ?_⟩
   refine ⟨_, rfl, ?_⟩
   rw [if_pos rfl]
   exact eqh fun d H' sm hx => kE d H' sm hx
  refine ⟨_, _, _, _, rfl, .str _, rqe K "str" (by decide) "str" (by decide), ?_⟩
  refine ⟨_, rfl, ?_⟩
  rw [if_neg (by decide)]
  intro p dx hp hdx hne
  have sb0 : SameBut p H (upd (upd H dx (.own p)) p (.ins g.aqs dx [])) := fun b o n e => by
   rw [aqv n, aqv (aqr e hdx)]
   exact e
  refine ⟨p, dx, t, rfl, aqw, fun H1 s1 c1 => ⟨rfl, ?_⟩⟩
  have sb1 := sb0.trans s1
  have hl' : t.length ≤ 100000 := by omega
  refine ⟨p, t, rfl, c1, hl, fun H2 s2 c2 => ?_⟩
  have sb2 := sb1.trans s2
  refine ⟨p, t, schP t, rfl, c2, oqf t, hl', h128, fun h n1 e1 H3 s3 c3 => ?_, fun n e d H3 s3 hx => k2 _ (tqd e) d H3 ((sb2.trans s3).same hp) hx⟩
  have sb3 := sb2.trans s3
  have hi3 : schP t + n1 ≤ t.length := by have := qqy e1; have := oqf t; rw [List.length_drop] at *; omega
  refine ⟨fun σ H4 => SameBut p H H4 ∧ ∃ d n2, dorM h (t.drop (schP t + n1)) = .ok (d, n2) ∧ Cur H4 g.aqs p t (schP t + n1 + n2) ∧ σ = [some (.str ⟨t.toArray⟩), some (.ref p), some (.str ⟨(schM t).toArray⟩), some (otV h), some (itV d), none, none, none], ?_, ?_⟩
  ·cases hho : h with
   | none =>
    rw [if_pos (show otV none = V.non from rfl)]
    exact ⟨sb3, none, 0, by unfold dorM; rw [if_pos rfl], c3, rfl⟩
   | some l =>
    rw [if_neg (by simp [otV])]
    have ed : dorM (some l) (t.drop (schP t + n1)) = dooM (t.drop (schP t + n1)) := by unfold dorM; rw [if_neg (by simp)]
    rw [hho] at e1
    exact ⟨p, t, schP t + n1, rfl, c3, hi3, hl', h128, fun d n2 e2 H4 s4 c4 => ⟨sb3.trans s4, d, n2, ed.trans e2, c4, rfl⟩, fun n e d H4 s4 hx => k2 _ (tqE e1 (ed.trans e)) d H4 ((sb3.trans s4).same hp) hx⟩
  rintro σ H4 ⟨sb4, d, n2, e2, c4, rfl⟩
  have hi4 : schP t + n1 + n2 ≤ t.length := by have := (tqu e2).1; rw [List.length_drop] at this; omega
  walk_at "rd"
  obtain ⟨must, hmust⟩ : ∃ b : Bool, b = decide (schM t ≠ [] ∨ h ≠ none) := ⟨_, rfl⟩
  have hway : ∀ (b : Bool) (Q' : VK), b = must → (∀ w n3, wayM must (t.drop (schP t + n1 + n2)) = .ok (w, n3) → ∀ u H5, SameBut p H H5 → Cur H5 g.aqs p t (schP t + n1 + n2 + n3) → IsT H5 (wayOf w) u → Q' u H5) → iqh K g.aqs g.aqx [V.ref p, V.bl b] H4 Q' E := fun b Q' hb hk =>
   ⟨p, t, schP t + n1 + n2, must, by rw [hb], c4, hi4, hl', h128, fun w n3 e3 H5 s5 c5 u hu => hk w n3 e3 u H5 (sb4.trans s5) c5 hu, fun n e d H5 s5 hx => k2 _ (sq6 e1 e2 (by rw [← hmust]; exact e)) d H5 ((sb4.trans s5).same hp) hx⟩
  refine ⟨fun σ H5 => ∃ w n3 u, wayM must (t.drop (schP t + n1 + n2)) = .ok (w, n3) ∧ SameBut p H H5 ∧ Cur H5 g.aqs p t (schP t + n1 + n2 + n3) ∧ IsT H5 (wayOf w) u ∧ σ = [some (.str ⟨t.toArray⟩), some (.ref p), some (.str ⟨(schM t).toArray⟩), some (otV h), some (itV d), some u, none, none], ?_, ?_⟩
  ·refine ite2 (fun z => ?_) (fun z => ?_)
   ·have hm : must = true := by rw [hmust]; exact decide_eq_true (.inl fun e => z (by rw [e]))
    exact hway true _ hm.symm (fun w n3 e3 u H5 sb c hu => ⟨w, n3, u, e3, sb, c, hu, rfl⟩)
   ·have hs : schM t = [] := hqJ.mp (Classical.not_not.mp z)
    have hm : must = !decide (otV h = V.non) := by
     rw [hmust]
     cases h with
     | none => simp [hs, otV]
     | some l => simp [otV]
    exact hway _ _ hm.symm (fun w n3 e3 u H5 sb c hu => ⟨w, n3, u, e3, sb, c, hu, rfl⟩)
  rintro σ H5 ⟨w, n3, u, e3, sb5, c5, hu, rfl⟩
  have e3' := e3
  rw [hmust] at e3'
  have hi5 : schP t + n1 + n2 + n3 ≤ t.length := by have := (pq1 e3).1; rw [List.length_drop] at this; omega
  walk_at "rd"
  refine ⟨p, t, schP t + n1 + n2 + n3, rfl, c5, hi5, hl', h128, fun q n4 e4 H6 s6 c6 uq huq => ?_, fun n e d H6 s6 hx => k2 _ (tqy e1 e2 e3' e) d H6 ((sb5.trans s6).same hp) hx⟩
  have hi6 : schP t + n1 + n2 + n3 + n4 ≤ t.length := by have := (qq1 e4).1; rw [List.length_drop] at this; omega
  refine ⟨p, t, schP t + n1 + n2 + n3 + n4, rfl, c6, hi6, hl', h128, fun m n5 e5 H7 s7 c7 => ?_, fun n e d H7 s7 hx => k2 _ (tqq e1 e2 e3' e4 e) d H7 (((sb5.trans s6).trans s7).same hp) hx⟩
  have er := tqk e1 e2 e3' e4 e5
  have sb7 := (sb5.trans s6).trans s7
  refine aqS c7 ⟨p, t, _, rfl, c7, hl', _, rfl, ?_⟩
  by_cases hend : schP t + n1 + n2 + n3 + n4 + n5 = t.length
  ·rw [decide_eq_true hend, if_neg (by decide)]
   rw [if_pos hend] at er
   refine ⟨by decide, fun pr H8 _ s8 h8 => k1 _ er _ H8 ((sb7.same hp).trans s8) ?_⟩
   exact adT h8 ((((hu.mono (c5.toT s6)).mono (c6.toT s7))).mono s8.toT) ((huq.mono (c6.toT s7)).mono s8.toT)
  ·rw [decide_eq_false hend, if_pos rfl]
   rw [if_neg hend] at er
   exact aqW c7 g.aqk g.aqq (eqh fun d H' sm hx => k2 _ er d H' ((sb7.trans sm.but).same hp) hx)
theorem fq0 (g : G K mg) : FnOk P w K mg base CX0 8 g.fqo g.eqe ["_law_text"] (mqU K) := by
 refine g.dqY.ok dqf (fun vs H Q E h => ?_) (fun cdv A outer s H vs Q E hr h => ?_)
 ·obtain ⟨t, rfl, _⟩ := h; rfl
 ·obtain ⟨t, rfl, hl, h128, k1, k2⟩ := h
  refine ⟨_, (aqf (aqp (i := 1) dqf.nd rfl (Or.inl rfl) bqo)
   (aqf (tqT (i := 2) (vqg (i := 1) dqf.nd rfl rfl (qqi aqg (qqK (sqe g) (hr.mono (by decide)) rfl g.tql g.pq6.kp g.tqA (aqa (pv 0) aqb) (fun _ _ h => h)) (fun _ _ h => h))) rfl rfl rfl g.bq0 g.kqX dqf.nd rfl rfl (fun _ => (aqe (aqp (i := 1) dqf.nd rfl (Or.inl rfl) (aqo (aqa aqg (aqa (sqT (K := K) rfl (pv 2) rfl) aqb)))))))
   (aqe (aql (pv 1))))), ?_⟩
  walk_at "rd"
  refine ⟨_, rfl, .inr ⟨t, rfl, by omega, h128, fun x e u H1 s1 hu p H2 n2 s2 hp => k1 x e p u H2 (s1.trans s2) (hu.mono s2.toT) hp, fun n e d H1 s1 hx => ⟨_, rfl, g.dqR, fun a ha => ?_⟩⟩⟩
  refine ⟨a, _, d, _, _, rfl, aqw, (by rw [aqv (aqr hx ha)]; exact hx), g.gqI, (by rw [List.lookup_cons, beq_self_eq_true]), ?_⟩
  exact ⟨by decide, fun p H3 hn s3 hp => k2 n e p H3 ((s1.trans (fqu ha)).trans s3) hp⟩
theorem vqL (g : G K mg) : FnOk P w K mg base CX0 9 g.sqk g.nqo ["_law_script"] (pqo K) := by
 refine g.wqR.ok jq7 (fun vs H Q E h => ?_) (fun cdv A outer s H vs Q E hr h => ?_)
 ·obtain ⟨a, ns, rfl, _⟩ := h; rfl
 ·obtain ⟨a, ns, rfl, hS, hn, k⟩ := h
  refine ⟨_, (aqf (aqp (i := 1) jq7.nd rfl (Or.inr rfl) (aq1 kqO (aqN kqK (aqh (jq9 g) (hr.mono (by decide)) rfl g.hqM g.fqC.kp g.hqA .nil pass0 (aqa (pv 0) (aqa aqj aqb))) aqj) aqj (nomark _)))
   (aqE (aqp (i := 2) jq7.nd rfl (Or.inl rfl) (dqi (eqM (K := K) rfl) (fqi (K := K) rfl PySem.F.plainAttrs_str PySem.F.slot_str_join PySem.F.type_str_join (oqW (K := K) rfl) aqg (aqa (kql (fx := ["_law_plainly"]) (fr := [1]) rfl rfl (by decide +kernel) rfl (by decide +kernel) rfl (by decide +kernel) rfl (.cons rfl rfl rfl rfl .nil) rfl (jq1 (K := K) rfl (pv 0)) (fun _ _ _ => mq4) (fun _ _ _ => (aqh (mqm g) (hr.mono (by decide)) rfl g.jqH g.hqb.kp g.jqF .nil pass0 (aqa (pv 0) (aqa (pv 1) aqb))))) aqb)) kqn (bqU aqj)))
   (aqf (kqV PassesOwn.never rfl (iqJ rfl g.kqC (aqa aqj aqb)) (bqN (i := 3) jq7.nd rfl (Or.inl rfl))
   (aqf (aqp (i := 4) jq7.nd rfl (Or.inl rfl) (aqh (fq0 g) (hr.mono (by decide)) rfl g.fqp g.dqY.kp g.fqg .nil pass0 (aqa (pv 2) aqb)))
   (aqf (aqp (i := 5) jq7.nd rfl (Or.inl rfl) (aqh (mqr g) (hr.mono (by decide)) rfl g.jqq g.gq6.kp g.jqE .nil pass0 (aqa (pv 2) aqb)))
   (aqf (aqC (aqi mqB (pv 5) aqj (nomark _))
    (aqf (aqC (PW.pt (hqy (aqi kqr (aqK (aqn (K := K) rfl) (pv 4) aqj (fun _ _ => rfl)) aqg (nomark _)) (hqy (aqi sqE (aqh (mqg g) (hr.mono (by decide)) rfl g.jqB g.gqK.kp g.jqM .nil pass0 (aqa (aqK (aqn (K := K) rfl) (pv 4) aqj (fun _ _ => rfl)) aqb)) hqz (nomark _)) (gq7 (dqd (aqQ (aqh (kq6 g) (hr.mono (by decide)) rfl g.iqG g.gqd.kp g.iqb .nil pass0 (aqa (pv 2) (aqa (aqK (aqn (K := K) rfl) (pv 4) aqj (fun _ _ => rfl)) aqb)))))))))
    (aqe (aql hqz)) aqm)
   (aqe (aql (aq1 (pqg hr.units) (aqh (fq0 g) (hr.mono (by decide)) rfl g.fqp g.dqY.kp g.fqg .nil pass0 (aqa (pv 2) aqb)) (pv 4) (nomark _))))) aqm)
   (aqf (aqC (PW.pt (hqy (aqi (qq0 hr.units) (pv 4) (aqo (aqa aqg (aqa (pv 5) aqb))) (nomark _)) (hqy (dqd (aqQ (aqh (mqO g) (hr.mono (by decide)) rfl g.jqo g.gqM.kp g.jqu .nil pass0 (aqa (aqK (aqn (K := K) rfl) (pv 4) aqj (fun _ _ => rfl)) aqb)))) (gq7 (aqi (qq0 hr.units) (aqh (fq0 g) (hr.mono (by decide)) rfl g.fqp g.dqY.kp g.fqg .nil pass0 (aqa (pv 2) aqb)) (pv 4) (nomark _))))))
    (aqe (aql hqz)) aqm)
   (aqe (aqp (i := 2) jq7.nd rfl (Or.inl rfl) (aqK (aqn (K := K) rfl) (aqL (aqa (aqN (aqJ (K := K)) (dqi (eqM (K := K) rfl) (pv 2) kqn (bqU (pv 5))) (dqi (eqM (K := K) rfl) (pv 2) (bqU (aqN (aqJ (K := K)) (pv 5) aqj)) kqn)) (aqa (dqi (eqM (K := K) rfl) (pv 2) kqn (bqU (lq3 iqz aqj))) aqb))) (dqb kq1 rfl g.mqN jqx (aqa (aq1 dq2 (pv 5) (aqA (aqT (K := K) rfl) rfl g.gqo PySem.boot_len (aqa (pv 2) aqb)) (nomark _)) aqb)) (fun _ _ => rfl)))))))))
   (aqe (aql hqz))))), ?_⟩
  walk_at "rd"
  refine ⟨a, ns, 0, rfl, hS, ?_⟩
  walk_at "rd"
  refine ⟨by decide, ?_⟩
  generalize decide (0 < ns.getD 0 0 % 4) = b
  refine ⟨fun σ H1 => ∃ (t : List Nat), σ = [some (.ref a), some (.bl b), some (.str ⟨t.toArray⟩), none, none, none] ∧ t.length ≤ 400 ∧ ∀ c ∈ t, c < 128, ⟨⟨_, hS⟩, fun p0 n0 => ?_⟩, ?_⟩
  ·refine pqY hS (by rw [List.length_map]; exact aqz (by omega)) n0 (fun _ y _ => ∃ t : List Nat, y = .str ⟨t.toArray⟩ ∧ t.length ≤ 180 ∧ ∀ c ∈ t, c < 128) (fun x y H H' _ h => h) (fun v hv H1 T s1 hT => ?_) (fun ys H1 s1 hall hp1 => ?_)
   ·obtain ⟨c, _, rfl⟩ := List.mem_map.mp hv
    walk_at "rd"
    exact ⟨c, b, rfl, fun t H2 s2 hl h128 => hT _ H2 s2 ⟨t, rfl, hl, h128⟩⟩
   ·obtain ⟨ws, rfl, hwl, hws⟩ := oqY hall
    rw [List.length_map] at hwl
    have hsum := tqt (n := 180) fun w hw => (hws w hw).1
    refine tqx.mpr ⟨_, .of hp1, ?_, ?_⟩
    ·show _ + _ * 0 ≤ _
     rw [Nat.mul_zero, Nat.add_zero]
     omega
    ·rw [show (⟨#[]⟩ : Str) = ⟨([] : List Nat).toArray⟩ from rfl, oq6]
     have h128 : ∀ c ∈ ((ws.map fun w => (⟨w.toArray⟩ : Str)).flatMap fun y => y.cps.toList), c < 128 := fun c hc => by
      obtain ⟨y, hy, hc⟩ := List.mem_flatMap.mp hc
      obtain ⟨w, hw, rfl⟩ := List.mem_map.mp hy
      exact (hws w hw).2 c hc
     have hl : ((ws.map fun w => (⟨w.toArray⟩ : Str)).flatMap fun y => y.cps.toList).length ≤ 11340 := by
      rw [List.length_flatMap]
      exact Nat.le_trans hsum (by omega)
     generalize ((ws.map fun w => (⟨w.toArray⟩ : Str)).flatMap fun y => y.cps.toList) = t at h128 hl
     refine L2.tqm.mpr ⟨aqz (by rw [dq0]; omega), t.take 400, ?_, ?_, fun c hc => h128 c (List.mem_of_mem_take hc)⟩
     ·rw [show (400 : Int) = ((400 : Nat) : Int) from rfl, mqI]
     ·rw [List.length_take]; omega
  rintro σ H1 ⟨t, rfl, htl, h128⟩
  walk_at "rd"
  refine ⟨by decide, by decide, ?_⟩
  refine hqf (fun i σ H' => ∃ (t : List Nat) (v3 v4 v5 : Option V), σ = [some (.ref a), some (.bl b), some (.str ⟨t.toArray⟩), v3, v4, v5] ∧ t.length ≤ 400 ∧ ∀ c ∈ t, c < 128) ⟨t, none, none, none, rfl, htl, h128⟩ ?_ ?_
  ·clear h128 htl
   rintro i σ H2 hi ⟨t, v3, v4, v5, rfl, htl, h128⟩
   walk_at "rd"
   refine ⟨t, rfl, by omega, h128, fun x ex p u H3 s3 hu hp => ?_, fun n en p H3 s3 hp => ?_⟩
   ·have wf := uq8 ex
    have sz := (qqI ex (by omega)).sz wf
    refine ⟨t, rfl, by omega, h128, fun H4 s4 => ?_⟩
    rw [tqM ex]
    walk_at "rd"
    rw [if_pos (by decide)]
    have hp4 := s4 _ _ hp
    refine ⟨_, _, .inr (.of hp4), rfl, L2.pq7.mpr ⟨_, rfl, ?_⟩⟩
    rw [if_neg (by simp)]
    refine ⟨_, _, .inr (.of hp4), rfl, x.data, u, rfl, (hu.mono s4.toT).is, sz.small wf, fun H5 s5 => ?_⟩
    rw [wf.isAd]
    walk_at "rd"
    refine ⟨_, _, .inr (.of (s5 _ _ hp4)), rfl, t, x, u, rfl, by omega, hu.mono (s4.trans s5).toT, wf, sz, rqU ex, fun H6 s6 => ⟨_, rfl, ?_⟩⟩
    rw [if_neg (by decide)]
    refine ⟨t, rfl, by omega, h128, fun x2 ex2 p2 u2 H7 s7 hu2 hp2 => ?_, fun n en => by rw [ex] at en; cases en⟩
    rw [ex] at ex2
    cases ex2
    have s37 := ((s4.trans s5).trans s6).trans s7
    have sd := rqA wf
    refine ⟨.tuple [.str (Str.ofString "read"), x.data], .tuple [.str (Str.ofString "read"), x.data], .tup hp2 (.cons (.str _) (.cons hu2.is .nil)), .tup (s37 _ _ hp) (.cons (.str _) (.cons (hu.mono s37.toT).is .nil)), sd, sd, ?_⟩
    rw [wqB]
    exact k H7
   ·refine ⟨t, rfl, by omega, h128, fun H4 s4 => ?_⟩
    rw [vqb en]
    walk_at "rd"
    rw [if_neg (by omega)]
    have hp4 := s4 _ _ hp
    refine ⟨by decide, fun p5 H5 n5 s5 hp5 => ?_⟩
    have sd := pq4 (n : Int)
    refine ⟨.tuple [.str (Str.ofString "at"), .int (n : Int)], .tuple [.str (Str.ofString "at"), .int (n : Int)], .tup (s5 _ _ hp4) (.cons (.str _) (.cons (.int _) .nil)), .tup hp5 (.cons (.str _) (.cons (.int _) .nil)), sd, sd, _, rfl, ?_⟩
    rw [tqD, if_neg (by decide)]
    refine ⟨_, _, .inr (.of (s5 _ _ hp4)), rfl, (n : Int), rfl, _, rfl, ?_⟩
    rw [if_neg (by decide)]
    refine ⟨t, rfl, by omega, h128, (fun x2 ex2 => by rw [en] at ex2; cases ex2), fun n2 en2 p2 H7 s7 hp2 => ?_⟩
    rw [en] at en2
    cases en2
    refine ⟨.tuple [.str (Str.ofString "at"), .int (n : Int)], .tuple [.str (Str.ofString "at"), .int (n : Int)], .tup hp2 (.cons (.str _) (.cons (.int _) .nil)), .tup ((s5.trans s7) _ _ hp4) (.cons (.str _) (.cons (.int _) .nil)), sd, sd, _, rfl, ?_⟩
    rw [tqD, if_neg (by decide)]
    obtain ⟨t2, e2, hl2, hm2⟩ := rq8 t none (some (-1))
    have hx : ∀ (H' : Hp) (v : V) (t' : List Nat), v = .str ⟨t'.toArray⟩ → t'.length ≤ t.length → (∀ c ∈ t', c ∈ t) → ∃ (t : List Nat) (v3 v4 v5 : Option V), (v = V.str { cps := t.toArray } ∧ some (V.int (0 + (i : Int))) = v3 ∧ some (V.ref p) = v4 ∧ some (V.int (n : Int)) = v5) ∧ t.length ≤ 400 ∧ ∀ (c : Nat), c ∈ t → c < 128 :=
     fun H' v t' e h1 h2 => ⟨t', _, _, _, ⟨e, rfl, rfl, rfl⟩, by omega, fun c hc => h128 c (h2 c hc)⟩
    rw [show ((n : Int) + 1) = ((n + 1 : Nat) : Int) by omega, mqI, lqG, e2, pqh]
    have h1 : (t.take n ++ t.drop (n + 1)).length ≤ t.length := by rw [List.length_append, List.length_take, List.length_drop]; omega
    rw [List.length_append] at h1
    refine ⟨aqz (by omega), aqz (by omega), aqz (by rw [dq0, dq0]; omega), aqz (by omega), by decide, fun p6 H6 n6 s6 hp6 => ⟨aqz (by omega), ?_⟩⟩
    by_cases hnl : (n : Int) = (t.length : Int)
    ·rw [if_pos hnl]
     exact ⟨_, _, .inl (.of hp6), rfl, hx H6 _ t2 rfl hl2 hm2⟩
    ·rw [if_neg hnl]
     refine ⟨_, _, .inl (.of hp6), rfl, hx H6 _ _ rfl (by rw [List.length_append]; exact h1) fun c hc => ?_⟩
     rcases List.mem_append.mp hc with z | z
     ·exact List.mem_of_mem_take z
     ·exact List.mem_of_mem_drop z
  ·rintro σ H2 ⟨t, v3, v4, v5, rfl, htl, h128⟩
   walk_at "rd"
   exact k H2
end
theorem aqc {a b : Bool} (h : (a && b) = true) : a = true := by cases a; cases h; rfl
theorem aqd {a b : Bool} (h : (a && b) = true) : b = true := by cases a; cases h; exact h
theorem usl0 {us : List Value} (h : us.length = 0) : us = [] := List.length_eq_zero_iff.mp h
local macro_rules | `(tactic| walk_at "b0") => `(tactic| exact fun _ _ _ _ _ _ us hl => by obtain e := usl0 hl; subst e; rfl)
theorem usl1 {us : List Value} (h : us.length = 1) : ∃ x0, us = [x0] := List.length_eq_one_iff.mp h
local macro_rules | `(tactic| walk_at "b1") => `(tactic| exact fun _ _ _ _ _ _ us hl => by obtain ⟨x0, e⟩ := usl1 hl; subst e; rfl)
theorem usl2 {us : List Value} (h : us.length = 2) : ∃ x0 x1, us = [x0, x1] := by
 cases us with
 | nil => cases h
 | cons x0 l =>
  obtain ⟨x1, rfl⟩ := usl1 (Nat.succ.inj h)
  exact ⟨_, _, rfl⟩
local macro_rules | `(tactic| walk_at "b2") => `(tactic| exact fun _ _ _ _ _ _ us hl => by obtain ⟨x0, x1, e⟩ := usl2 hl; subst e; rfl)
theorem usl3 {us : List Value} (h : us.length = 3) : ∃ x0 x1 x2, us = [x0, x1, x2] := by
 cases us with
 | nil => cases h
 | cons x0 l =>
  obtain ⟨x1, x2, rfl⟩ := usl2 (Nat.succ.inj h)
  exact ⟨_, _, _, rfl⟩
local macro_rules | `(tactic| walk_at "b3") => `(tactic| exact fun _ _ _ _ _ _ us hl => by obtain ⟨x0, x1, x2, e⟩ := usl3 hl; subst e; rfl)
theorem usl4 {us : List Value} (h : us.length = 4) : ∃ x0 x1 x2 x3, us = [x0, x1, x2, x3] := by
 cases us with
 | nil => cases h
 | cons x0 l =>
  obtain ⟨x1, x2, x3, rfl⟩ := usl3 (Nat.succ.inj h)
  exact ⟨_, _, _, _, rfl⟩
local macro_rules | `(tactic| walk_at "b4") => `(tactic| exact fun _ _ _ _ _ _ us hl => by obtain ⟨x0, x1, x2, x3, e⟩ := usl4 hl; subst e; rfl)
theorem wqL {l : PySem.W.OpenLaw} {w : World} {K : W.Frag} {h : Heap} {mg : Str → Option Value} {fa : Addr} (X : K.In h) (Gl : h.Ns mainGlobals mg) (hfa : mg "law" = some (.ref fa))
  {kC_Cursor : Addr} (aC_Cursor : W.nsIn K mainGlobals "Cursor" = some (some (.ref kC_Cursor)))
  {eC_NoAddress : Addr} (en_NoAddress : W.nsIn K mainGlobals "NoAddress" = some (some (.ref eC_NoAddress)))
  (a1 : W.nsIn K mainGlobals "made_of" = some (some (.ref f1))) (l1 : K.lookup f1 = some ⟨oc1, od1, .func (W.fnOf "made_of" "made_of" (defArgs fqI) (defBody fqI) (defScope fqI) .none kV1 dc1 pm1 an1 cd1 ct1), sl1⟩)
  (a2 : W.nsIn K mainGlobals "figure_number" = some (some (.ref f2))) (l2 : K.lookup f2 = some ⟨oc2, od2, .func (W.fnOf "figure_number" "figure_number" (defArgs bqs) (defBody bqs) (defScope bqs) .none kV2 dc2 pm2 an2 cd2 ct2), sl2⟩)
  (a3 : W.nsIn K mainGlobals "sign_numbered" = some (some (.ref f3))) (l3 : K.lookup f3 = some ⟨oc3, od3, .func (W.fnOf "sign_numbered" "sign_numbered" (defArgs bqq) (defBody bqq) (defScope bqq) .none kV3 dc3 pm3 an3 cd3 ct3), sl3⟩)
  (a4 : W.nsIn K mainGlobals "is_whole" = some (some (.ref f4))) (l4 : K.lookup f4 = some ⟨oc4, od4, .func (W.fnOf "is_whole" "is_whole" (defArgs eqC) (defBody eqC) (defScope eqC) .none kV4 dc4 pm4 an4 cd4 ct4), sl4⟩)
  (a5 : W.nsIn K mainGlobals "is_tuple" = some (some (.ref f5))) (l5 : K.lookup f5 = some ⟨oc5, od5, .func (W.fnOf "is_tuple" "is_tuple" (defArgs eqG) (defBody eqG) (defScope eqG) .none kV5 dc5 pm5 an5 cd5 ct5), sl5⟩)
  (a6 : W.nsIn K mainGlobals "is_whole_number" = some (some (.ref f6))) (l6 : K.lookup f6 = some ⟨oc6, od6, .func (W.fnOf "is_whole_number" "is_whole_number" (defArgs bqb) (defBody bqb) (defScope bqb) .none kV6 dc6 pm6 an6 cd6 ct6), sl6⟩)
  (a7 : W.findIn K (.ref eC_NoAddress) "__init__" = some (some (.ref f7))) (i7 : W.isFn K (.ref f7) = true) (l7 : K.lookup f7 = some ⟨oc7, od7, .func (W.fnOf "__init__" "NoAddress.__init__" (defArgs aqP) (defBody aqP) (defScope aqP) .none kV7 dc7 pm7 an7 cd7 ct7), sl7⟩)
  (a8 : W.findIn K (.ref kC_Cursor) "__init__" = some (some (.ref f8))) (i8 : W.isFn K (.ref f8) = true) (l8 : K.lookup f8 = some ⟨oc8, od8, .func (W.fnOf "__init__" "Cursor.__init__" (defArgs aq9) (defBody aq9) (defScope aq9) .none kV8 dc8 pm8 an8 cd8 ct8), sl8⟩)
  (a9 : W.findIn K (.ref kC_Cursor) "at_end" = some (some (.ref f9))) (i9 : W.isFn K (.ref f9) = true) (l9 : K.lookup f9 = some ⟨oc9, od9, .func (W.fnOf "at_end" "Cursor.at_end" (defArgs bqv) (defBody bqv) (defScope bqv) .none kV9 dc9 pm9 an9 cd9 ct9), sl9⟩)
  (a10 : W.findIn K (.ref kC_Cursor) "take" = some (some (.ref f10))) (i10 : W.isFn K (.ref f10) = true) (l10 : K.lookup f10 = some ⟨oc10, od10, .func (W.fnOf "take" "Cursor.take" (defArgs cqa) (defBody cqa) (defScope cqa) .none kV10 dc10 pm10 an10 cd10 ct10), sl10⟩)
  (a11 : W.findIn K (.ref kC_Cursor) "passes" = some (some (.ref f11))) (i11 : W.isFn K (.ref f11) = true) (l11 : K.lookup f11 = some ⟨oc11, od11, .func (W.fnOf "passes" "Cursor.passes" (defArgs bqr) (defBody bqr) (defScope bqr) .none kV11 dc11 pm11 an11 cd11 ct11), sl11⟩)
  (a12 : W.nsIn K mainGlobals "door_with" = some (some (.ref f12))) (l12 : K.lookup f12 = some ⟨oc12, od12, .func (W.fnOf "door_with" "door_with" (defArgs dqp) (defBody dqp) (defScope dqp) .none kV12 dc12 pm12 an12 cd12 ct12), sl12⟩)
  (a13 : W.nsIn K mainGlobals "_law_cell_at" = some (some (.ref f13))) (l13 : K.lookup f13 = some ⟨oc13, od13, .func (W.fnOf "_law_cell_at" "_law_cell_at" (defArgs bqJ) (defBody bqJ) (defScope bqJ) .none kV13 dc13 pm13 an13 cd13 ct13), sl13⟩)
  (a14 : W.nsIn K mainGlobals "_law_whole" = some (some (.ref f14))) (l14 : K.lookup f14 = some ⟨oc14, od14, .func (W.fnOf "_law_whole" "_law_whole" (defArgs cqL) (defBody cqL) (defScope cqL) .none kV14 dc14 pm14 an14 cd14 ct14), sl14⟩)
  (a15 : W.nsIn K mainGlobals "_law_table" = some (some (.ref f15))) (l15 : K.lookup f15 = some ⟨oc15, od15, .func (W.fnOf "_law_table" "_law_table" (defArgs cqQ) (defBody cqQ) (defScope cqQ) .none kV15 dc15 pm15 an15 cd15 ct15), sl15⟩)
  (a16 : W.nsIn K mainGlobals "_law_plain" = some (some (.ref f16))) (l16 : K.lookup f16 = some ⟨oc16, od16, .func (W.fnOf "_law_plain" "_law_plain" (defArgs cqS) (defBody cqS) (defScope cqS) .none kV16 dc16 pm16 an16 cd16 ct16), sl16⟩)
  (a17 : W.nsIn K mainGlobals "_law_ends" = some (some (.ref f17))) (l17 : K.lookup f17 = some ⟨oc17, od17, .func (W.fnOf "_law_ends" "_law_ends" (defArgs dqs) (defBody dqs) (defScope dqs) .none kV17 dc17 pm17 an17 cd17 ct17), sl17⟩)
  (a18 : W.nsIn K mainGlobals "_law_pair" = some (some (.ref f18))) (l18 : K.lookup f18 = some ⟨oc18, od18, .func (W.fnOf "_law_pair" "_law_pair" (defArgs dqC) (defBody dqC) (defScope dqC) .none kV18 dc18 pm18 an18 cd18 ct18), sl18⟩)
  (a19 : W.nsIn K mainGlobals "_law_may_end" = some (some (.ref f19))) (l19 : K.lookup f19 = some ⟨oc19, od19, .func (W.fnOf "_law_may_end" "_law_may_end" (defArgs bqK) (defBody bqK) (defScope bqK) .none kV19 dc19 pm19 an19 cd19 ct19), sl19⟩)
  (a20 : W.nsIn K mainGlobals "_law_word" = some (some (.ref f20))) (l20 : K.lookup f20 = some ⟨oc20, od20, .func (W.fnOf "_law_word" "_law_word" (defArgs dqn) (defBody dqn) (defScope dqn) .none kV20 dc20 pm20 an20 cd20 ct20), sl20⟩)
  (a21 : W.nsIn K mainGlobals "is_text" = some (some (.ref f21))) (l21 : K.lookup f21 = some ⟨oc21, od21, .func (W.fnOf "is_text" "is_text" (defArgs fqL) (defBody fqL) (defScope fqL) .none kV21 dc21 pm21 an21 cd21 ct21), sl21⟩)
  (a22 : W.nsIn K mainGlobals "sign_of" = some (some (.ref f22))) (l22 : K.lookup f22 = some ⟨oc22, od22, .func (W.fnOf "sign_of" "sign_of" (defArgs fqN) (defBody fqN) (defScope fqN) .none kV22 dc22 pm22 an22 cd22 ct22), sl22⟩)
  (a23 : W.nsIn K mainGlobals "parts_agree" = some (some (.ref f23))) (l23 : K.lookup f23 = some ⟨oc23, od23, .func (W.fnOf "parts_agree" "parts_agree" (defArgs cqm) (defBody cqm) (defScope cqm) .none kV23 dc23 pm23 an23 cd23 ct23), sl23⟩)
  (a24 : W.nsIn K mainGlobals "is_door" = some (some (.ref f24))) (l24 : K.lookup f24 = some ⟨oc24, od24, .func (W.fnOf "is_door" "is_door" (defArgs fqK) (defBody fqK) (defScope fqK) .none kV24 dc24 pm24 an24 cd24 ct24), sl24⟩)
  (a25 : W.findIn K (.ref kC_Cursor) "sees" = some (some (.ref f25))) (i25 : W.isFn K (.ref f25) = true) (l25 : K.lookup f25 = some ⟨oc25, od25, .func (W.fnOf "sees" "Cursor.sees" (defArgs cqe) (defBody cqe) (defScope cqe) .none kV25 dc25 pm25 an25 cd25 ct25), sl25⟩)
  (a26 : W.nsIn K mainGlobals "_law_hex" = some (some (.ref f26))) (l26 : K.lookup f26 = some ⟨oc26, od26, .func (W.fnOf "_law_hex" "_law_hex" (defArgs eqB) (defBody eqB) (defScope eqB) .none kV26 dc26 pm26 an26 cd26 ct26), sl26⟩)
  (a27 : W.nsIn K mainGlobals "_law_signs" = some (some (.ref f27))) (l27 : K.lookup f27 = some ⟨oc27, od27, .func (W.fnOf "_law_signs" "_law_signs" (defArgs cqU) (defBody cqU) (defScope cqU) .none kV27 dc27 pm27 an27 cd27 ct27), sl27⟩)
  (a28 : W.nsIn K mainGlobals "_law_piece" = some (some (.ref f28))) (l28 : K.lookup f28 = some ⟨oc28, od28, .func (W.fnOf "_law_piece" "_law_piece" (defArgs cqK) (defBody cqK) (defScope cqK) .none kV28 dc28 pm28 an28 cd28 ct28), sl28⟩)
  (a29 : W.nsIn K mainGlobals "is_scheme" = some (some (.ref f29))) (l29 : K.lookup f29 = some ⟨oc29, od29, .func (W.fnOf "is_scheme" "is_scheme" (defArgs dqq) (defBody dqq) (defScope dqq) .none kV29 dc29 pm29 an29 cd29 ct29), sl29⟩)
  (a30 : W.nsIn K mainGlobals "is_filled_text" = some (some (.ref f30))) (l30 : K.lookup f30 = some ⟨oc30, od30, .func (W.fnOf "is_filled_text" "is_filled_text" (defArgs bqh) (defBody bqh) (defScope bqh) .none kV30 dc30 pm30 an30 cd30 ct30), sl30⟩)
  (a31 : W.nsIn K mainGlobals "is_text_or_none" = some (some (.ref f31))) (l31 : K.lookup f31 = some ⟨oc31, od31, .func (W.fnOf "is_text_or_none" "is_text_or_none" (defArgs bqa) (defBody bqa) (defScope bqa) .none kV31 dc31 pm31 an31 cd31 ct31), sl31⟩)
  (a32 : W.nsIn K mainGlobals "taken_door" = some (some (.ref f32))) (l32 : K.lookup f32 = some ⟨oc32, od32, .func (W.fnOf "taken_door" "taken_door" (defArgs cqX) (defBody cqX) (defScope cqX) .none kV32 dc32 pm32 an32 cd32 ct32), sl32⟩)
  (a33 : W.nsIn K mainGlobals "taken_pair" = some (some (.ref f33))) (l33 : K.lookup f33 = some ⟨oc33, od33, .func (W.fnOf "taken_pair" "taken_pair" (defArgs cqN) (defBody cqN) (defScope cqN) .none kV33 dc33 pm33 an33 cd33 ct33), sl33⟩)
  (a34 : W.nsIn K mainGlobals "_law_head" = some (some (.ref f34))) (l34 : K.lookup f34 = some ⟨oc34, od34, .func (W.fnOf "_law_head" "_law_head" (defArgs dqy) (defBody dqy) (defScope dqy) .none kV34 dc34 pm34 an34 cd34 ct34), sl34⟩)
  (a35 : W.nsIn K mainGlobals "_law_house" = some (some (.ref f35))) (l35 : K.lookup f35 = some ⟨oc35, od35, .func (W.fnOf "_law_house" "_law_house" (defArgs cqV) (defBody cqV) (defScope cqV) .none kV35 dc35 pm35 an35 cd35 ct35), sl35⟩)
  (a36 : W.nsIn K mainGlobals "_law_tail" = some (some (.ref f36))) (l36 : K.lookup f36 = some ⟨oc36, od36, .func (W.fnOf "_law_tail" "_law_tail" (defArgs dqA) (defBody dqA) (defScope dqA) .none kV36 dc36 pm36 an36 cd36 ct36), sl36⟩)
  (a37 : W.nsIn K mainGlobals "_law_behind" = some (some (.ref f37))) (l37 : K.lookup f37 = some ⟨oc37, od37, .func (W.fnOf "_law_behind" "_law_behind" (defArgs cqg) (defBody cqg) (defScope cqg) .none kV37 dc37 pm37 an37 cd37 ct37), sl37⟩)
  (a38 : W.nsIn K mainGlobals "is_house" = some (some (.ref f38))) (l38 : K.lookup f38 = some ⟨oc38, od38, .func (W.fnOf "is_house" "is_house" (defArgs eqF) (defBody eqF) (defScope eqF) .none kV38 dc38 pm38 an38 cd38 ct38), sl38⟩)
  (a39 : W.nsIn K mainGlobals "is_steps" = some (some (.ref f39))) (l39 : K.lookup f39 = some ⟨oc39, od39, .func (W.fnOf "is_steps" "is_steps" (defArgs eqI) (defBody eqI) (defScope eqI) .none kV39 dc39 pm39 an39 cd39 ct39), sl39⟩)
  (a40 : W.nsIn K mainGlobals "is_asked" = some (some (.ref f40))) (l40 : K.lookup f40 = some ⟨oc40, od40, .func (W.fnOf "is_asked" "is_asked" (defArgs eqD) (defBody eqD) (defScope eqD) .none kV40 dc40 pm40 an40 cd40 ct40), sl40⟩)
  (a41 : W.nsIn K mainGlobals "taken_scheme" = some (some (.ref f41))) (l41 : K.lookup f41 = some ⟨oc41, od41, .func (W.fnOf "taken_scheme" "taken_scheme" (defArgs bqL) (defBody bqL) (defScope bqL) .none kV41 dc41 pm41 an41 cd41 ct41), sl41⟩)
  {dt42_0 : Tok}
  (a42 : W.nsIn K mainGlobals "taken_text" = some (some (.ref f42))) (l42 : K.lookup f42 = some ⟨oc42, od42, .func (W.fnOf "taken_text" "taken_text" (defArgs cqW) (defBody cqW) (defScope cqW) (.ref T42) kV42 dc42 pm42 an42 cd42 ct42), sl42⟩)
  (d42 : K.lookup T42 = some ⟨ocT42, odT42, .seq #[.none] nT42, slT42⟩)
  (a43 : W.nsIn K mainGlobals "_law_moved" = some (some (.ref f43))) (l43 : K.lookup f43 = some ⟨oc43, od43, .func (W.fnOf "_law_moved" "_law_moved" (defArgs cqP) (defBody cqP) (defScope cqP) .none kV43 dc43 pm43 an43 cd43 ct43), sl43⟩)
  (a44 : W.nsIn K mainGlobals "_law_way" = some (some (.ref f44))) (l44 : K.lookup f44 = some ⟨oc44, od44, .func (W.fnOf "_law_way" "_law_way" (defArgs eqE) (defBody eqE) (defScope eqE) .none kV44 dc44 pm44 an44 cd44 ct44), sl44⟩)
  (a45 : W.nsIn K mainGlobals "is_way" = some (some (.ref f45))) (l45 : K.lookup f45 = some ⟨oc45, od45, .func (W.fnOf "is_way" "is_way" (defArgs hqv) (defBody hqv) (defScope hqv) .none kV45 dc45 pm45 an45 cd45 ct45), sl45⟩)
  (a46 : W.nsIn K mainGlobals "is_question" = some (some (.ref f46))) (l46 : K.lookup f46 = some ⟨oc46, od46, .func (W.fnOf "is_question" "is_question" (defArgs cqi) (defBody cqi) (defScope cqi) .none kV46 dc46 pm46 an46 cd46 ct46), sl46⟩)
  (a47 : W.nsIn K mainGlobals "taken_way" = some (some (.ref f47))) (l47 : K.lookup f47 = some ⟨oc47, od47, .func (W.fnOf "taken_way" "taken_way" (defArgs dqx) (defBody dqx) (defScope dqx) .none kV47 dc47 pm47 an47 cd47 ct47), sl47⟩)
  (a48 : W.nsIn K mainGlobals "taken_value" = some (some (.ref f48))) (l48 : K.lookup f48 = some ⟨oc48, od48, .func (W.fnOf "taken_value" "taken_value" (defArgs cqd) (defBody cqd) (defScope cqd) .none kV48 dc48 pm48 an48 cd48 ct48), sl48⟩)
  (a49 : W.nsIn K mainGlobals "taken_mark" = some (some (.ref f49))) (l49 : K.lookup f49 = some ⟨oc49, od49, .func (W.fnOf "taken_mark" "taken_mark" (defArgs cqR) (defBody cqR) (defScope cqR) .none kV49 dc49 pm49 an49 cd49 ct49), sl49⟩)
  {dt50_0 : Tok}
  (a50 : W.nsIn K mainGlobals "taken_filled_text" = some (some (.ref f50))) (l50 : K.lookup f50 = some ⟨oc50, od50, .func (W.fnOf "taken_filled_text" "taken_filled_text" (defArgs aqV) (defBody aqV) (defScope aqV) (.ref T50) kV50 dc50 pm50 an50 cd50 ct50), sl50⟩)
  (d50 : K.lookup T50 = some ⟨ocT50, odT50, .seq #[.none] nT50, slT50⟩)
  (a51 : W.nsIn K mainGlobals "_law_place" = some (some (.ref f51))) (l51 : K.lookup f51 = some ⟨oc51, od51, .func (W.fnOf "_law_place" "_law_place" (defArgs cqJ) (defBody cqJ) (defScope cqJ) .none kV51 dc51 pm51 an51 cd51 ct51), sl51⟩)
  (a52 : W.nsIn K mainGlobals "_law_writes" = some (some (.ref f52))) (l52 : K.lookup f52 = some ⟨oc52, od52, .func (W.fnOf "_law_writes" "_law_writes" (defArgs bq7) (defBody bq7) (defScope bq7) .none kV52 dc52 pm52 an52 cd52 ct52), sl52⟩)
  (a53 : W.nsIn K mainGlobals "parts_stand" = some (some (.ref f53))) (l53 : K.lookup f53 = some ⟨oc53, od53, .func (W.fnOf "parts_stand" "parts_stand" (defArgs cqb) (defBody cqb) (defScope cqb) .none kV53 dc53 pm53 an53 cd53 ct53), sl53⟩)
  (a54 : W.nsIn K mainGlobals "taken_house" = some (some (.ref f54))) (l54 : K.lookup f54 = some ⟨oc54, od54, .func (W.fnOf "taken_house" "taken_house" (defArgs bq3) (defBody bq3) (defScope bq3) .none kV54 dc54 pm54 an54 cd54 ct54), sl54⟩)
  (a55 : W.nsIn K mainGlobals "taken_question" = some (some (.ref f55))) (l55 : K.lookup f55 = some ⟨oc55, od55, .func (W.fnOf "taken_question" "taken_question" (defArgs bqi) (defBody bqi) (defScope bqi) .none kV55 dc55 pm55 an55 cd55 ct55), sl55⟩)
  (a56 : W.nsIn K mainGlobals "is_address" = some (some (.ref f56))) (l56 : K.lookup f56 = some ⟨oc56, od56, .func (W.fnOf "is_address" "is_address" (defArgs cqM) (defBody cqM) (defScope cqM) .none kV56 dc56 pm56 an56 cd56 ct56), sl56⟩)
  (a57 : W.nsIn K mainGlobals "read" = some (some (.ref f57))) (l57 : K.lookup f57 = some ⟨oc57, od57, .func (W.fnOf "read" "read" (defArgs lqz) (defBody lqz) (defScope lqz) .none kV57 dc57 pm57 an57 cd57 ct57), sl57⟩)
  (a58 : W.nsIn K mainGlobals "_law_asked" = some (some (.ref f58))) (l58 : K.lookup f58 = some ⟨oc58, od58, .func (W.fnOf "_law_asked" "_law_asked" (defArgs cqO) (defBody cqO) (defScope cqO) .none kV58 dc58 pm58 an58 cd58 ct58), sl58⟩)
  (a59 : W.nsIn K mainGlobals "law" = some (some (.ref f59))) (l59 : K.lookup f59 = some ⟨oc59, od59, .func (W.fnOf "law" "law" (defArgs pqP) (defBody pqP) (defScope pqP) .none kV59 dc59 pm59 an59 cd59 ct59), sl59⟩)
  {kqB : Tok} (e_SIGNS : W.nsIn K mainGlobals "SIGNS" = some (some (.str (Str.ofString " !\"#$&'()*+,-./0123456789:;<=>?@ABCDEFGHIJKLMNOPQRSTUVWXYZ[\\]^_`abcdefghijklmnopqrstuvwxyz{|}~") kqB)))
  {gqJ : Tok} (e_LETTERS : W.nsIn K mainGlobals "LETTERS" = some (some (.str (Str.ofString "abcdefghijklmnopqrstuvwxyzABCDEFGHIJKLMNOPQRSTUVWXYZ") gqJ)))
  {aqY : Tok} (e_LETTERS_AND_FIGURES : W.nsIn K mainGlobals "LETTERS_AND_FIGURES" = some (some (.str (Str.ofString "abcdefghijklmnopqrstuvwxyzABCDEFGHIJKLMNOPQRSTUVWXYZ0123456789") aqY)))
  {gq0 : Tok} (e_FIGURES : W.nsIn K mainGlobals "FIGURES" = some (some (.str (Str.ofString "0123456789") gq0)))
  {kq0 : Tok} (e_PLAIN : W.nsIn K mainGlobals "PLAIN" = some (some (.str (Str.ofString "abcdefghijklmnopqrstuvwxyzABCDEFGHIJKLMNOPQRSTUVWXYZ0123456789-_.") kq0)))
  {bqY : Tok} (e_FREE_IN_STEPS : W.nsIn K mainGlobals "FREE_IN_STEPS" = some (some (.str (Str.ofString "!$'()*,;@&=+") bqY)))
  {bqf : Tok} (e_FREE_IN_QUESTIONS : W.nsIn K mainGlobals "FREE_IN_QUESTIONS" = some (some (.str (Str.ofString "!$'()*,;@+/?:") bqf)))
  {bqX : Tok} (e_FREE_IN_MARKS : W.nsIn K mainGlobals "FREE_IN_MARKS" = some (some (.str (Str.ofString "!$'()*,;@&=+/?:") bqX)))
  {cqw : Tok} (e_FIRST_NUMBER : W.nsIn K mainGlobals "FIRST_NUMBER" = some (some (.int 32 cqw)))
  {cq9 : Tok} (e_LAST_NUMBER : W.nsIn K mainGlobals "LAST_NUMBER" = some (some (.int 126 cq9)))
  {bqu : Tok} (e_NUMBER_LEFT_OUT : W.nsIn K mainGlobals "NUMBER_LEFT_OUT" = some (some (.int 37 bqu)))
  {bqW : Tok} (e_SMALL_FIGURES : W.nsIn K mainGlobals "SMALL_FIGURES" = some (some (.str (Str.ofString "0123456789abcdef") bqW)))
  {bqT : Tok} (e_GREAT_FIGURES : W.nsIn K mainGlobals "GREAT_FIGURES" = some (some (.str (Str.ofString "0123456789ABCDEF") bqT)))
  {iqK : Tok} (e_SCHEME : W.nsIn K mainGlobals "SCHEME" = some (some (.int 0 iqK)))
  {kq2 : Tok} (e_HOUSE : W.nsIn K mainGlobals "HOUSE" = some (some (.int 1 kq2)))
  {nqL : Tok} (e_DOOR : W.nsIn K mainGlobals "DOOR" = some (some (.int 2 nqL)))
  {qq6 : Tok} (e_WAY : W.nsIn K mainGlobals "WAY" = some (some (.int 3 qq6)))
  {fqO : Tok} (e_QUESTION : W.nsIn K mainGlobals "QUESTION" = some (some (.int 4 fqO)))
  {nq0 : Tok} (e_MARK : W.nsIn K mainGlobals "MARK" = some (some (.int 5 nq0)))
  {iqU : Tok} (e_ROOTED : W.nsIn K mainGlobals "ROOTED" = some (some (.int 0 iqU)))
  {kqt : Tok} (e_STEPS : W.nsIn K mainGlobals "STEPS" = some (some (.int 1 kqt)))
  {nq5 : Tok} (e_ENDS : W.nsIn K mainGlobals "ENDS" = some (some (.int 2 nq5)))
  {bqH : Tok} (e_LONGEST_SCHEME : W.nsIn K mainGlobals "LONGEST_SCHEME" = some (some (.int 8 bqH)))
  {bqR : Tok} (e_LONGEST_HOUSE : W.nsIn K mainGlobals "LONGEST_HOUSE" = some (some (.int 60 bqR)))
  {eqS : Tok} (e_LAST_DOOR : W.nsIn K mainGlobals "LAST_DOOR" = some (some (.int 65535 eqS)))
  {bqZ : Tok} (e_FIRST_FIGURES : W.nsIn K mainGlobals "FIRST_FIGURES" = some (some (.str (Str.ofString "234567") bqZ)))
  (z_all : W.nsIn K mainGlobals "all" = some none)
  (z_len : W.nsIn K mainGlobals "len" = some none)
  (z_isinstance : W.nsIn K mainGlobals "isinstance" = some none)
  (z_tuple : W.nsIn K mainGlobals "tuple" = some none)
  (z_bool : W.nsIn K mainGlobals "bool" = some none)
  (z_int : W.nsIn K mainGlobals "int" = some none)
  (z_str : W.nsIn K mainGlobals "str" = some none)
  (z_max : W.nsIn K mainGlobals "max" = some none)
  (z_range : W.nsIn K mainGlobals "range" = some none)
  (z_any : W.nsIn K mainGlobals "any" = some none)
  (ew1_NoAddress : W.typeIn K (.ref eC_NoAddress) = some (.type "type"))
  (ew2_NoAddress : W.subIn K (.ref eC_NoAddress) (.type "BaseException") = some true)
  (ew3_NoAddress : (W.clsIn K eC_NoAddress).isSome = true)
  (el0_NoAddress : W.findIn K (.ref eC_NoAddress) "__getattribute__" = some (some (.builtin "BaseException.__getattribute__")))
  (el1_NoAddress : W.findIn K (.ref eC_NoAddress) "__class__" = some (some (.builtin "object.__class__")))
  (el2_NoAddress : W.findIn K (.ref eC_NoAddress) "__getattr__" = some none)
  (el3_NoAddress : W.mroIn K eC_NoAddress (.type "object") = some true)
  (el4_NoAddress : W.mroIn K eC_NoAddress (.type "BaseException") = some true)
  (el5_NoAddress : (W.clsIn K eC_NoAddress).isSome = true)
  (ey_NoAddress : excInI K eC_NoAddress vErr vNew f7 = true)
  (ek_NoAddress : W.keepIn K (.ref eC_NoAddress) = true)
  (es_NoAddress : W.findIn K (.ref eC_NoAddress) "__setattr__" = some (some (.builtin "object.__setattr__")))
  (eo_NoAddress : overErr K eC_NoAddress = true)
  (eh_NoAddress : W.hasDictIn K eC_NoAddress = true)
  (ef_NoAddress_at : W.findIn K (.ref eC_NoAddress) "at" = some none)
  (eu_NoAddress_NoAddress : W.subIn K (.ref eC_NoAddress) (.ref eC_NoAddress) = some true)
  (pg_Cursor : W.plainGet K kC_Cursor Str.empty = true)
  (hd_Cursor : W.hasDictIn K kC_Cursor = true)
  (po_Cursor : W.plainOver K kC_Cursor = true)
  (sa_Cursor : W.findIn K (.ref kC_Cursor) "__setattr__" = some (some (.builtin "object.__setattr__")))
  (mk_Cursor : W.makesIn K kC_Cursor = true)
  (kc_Cursor : W.keepIn K (.ref kC_Cursor) = true)
  (nf_Cursor_text : W.findIn K (.ref kC_Cursor) "text" = some none)
  (nf_Cursor_place : W.findIn K (.ref kC_Cursor) "place" = some none)
  (kk : ((((((W.keepIn K (.ref f1) && W.keepIn K (.ref f2)) && (W.keepIn K (.ref f3) && W.keepIn K (.ref f4))) && ((W.keepIn K (.ref f5) && W.keepIn K (.ref f6)) && (W.keepIn K (.ref f7) && W.keepIn K (.ref f8)))) && (((W.keepIn K (.ref f9) && W.keepIn K (.ref f10)) && (W.keepIn K (.ref f11) && W.keepIn K (.ref f12))) && ((W.keepIn K (.ref f13) && W.keepIn K (.ref f14)) && W.keepIn K (.ref f15)))) && ((((W.keepIn K (.ref f16) && W.keepIn K (.ref f17)) && (W.keepIn K (.ref f18) && W.keepIn K (.ref f19))) && ((W.keepIn K (.ref f20) && W.keepIn K (.ref f21)) && (W.keepIn K (.ref f22) && W.keepIn K (.ref f23)))) && (((W.keepIn K (.ref f24) && W.keepIn K (.ref f25)) && (W.keepIn K (.ref f26) && W.keepIn K (.ref f27))) && ((W.keepIn K (.ref f28) && W.keepIn K (.ref f29)) && W.keepIn K (.ref f30))))) && (((((W.keepIn K (.ref f31) && W.keepIn K (.ref f32)) && (W.keepIn K (.ref f33) && W.keepIn K (.ref f34))) && ((W.keepIn K (.ref f35) && W.keepIn K (.ref f36)) && (W.keepIn K (.ref f37) && W.keepIn K (.ref f38)))) && (((W.keepIn K (.ref f39) && W.keepIn K (.ref f40)) && (W.keepIn K (.ref f41) && W.keepIn K (.ref f42))) && ((W.keepIn K (.ref f43) && W.keepIn K (.ref f44)) && W.keepIn K (.ref f45)))) && ((((W.keepIn K (.ref f46) && W.keepIn K (.ref f47)) && (W.keepIn K (.ref f48) && W.keepIn K (.ref f49))) && ((W.keepIn K (.ref f50) && W.keepIn K (.ref f51)) && W.keepIn K (.ref f52))) && (((W.keepIn K (.ref f53) && W.keepIn K (.ref f54)) && (W.keepIn K (.ref f55) && W.keepIn K (.ref f56))) && ((W.keepIn K (.ref f57) && W.keepIn K (.ref f58)) && W.keepIn K (.ref f59)))))) = true)
  (cc : ((((((W.codeIn K cd1 "made_of" && W.codeIn K cd2 "figure_number") && (W.codeIn K cd3 "sign_numbered" && W.codeIn K cd4 "is_whole")) && ((W.codeIn K cd5 "is_tuple" && W.codeIn K cd6 "is_whole_number") && (W.codeIn K cd7 "NoAddress.__init__" && W.codeIn K cd8 "Cursor.__init__"))) && (((W.codeIn K cd9 "Cursor.at_end" && W.codeIn K cd10 "Cursor.take") && (W.codeIn K cd11 "Cursor.passes" && W.codeIn K cd12 "door_with")) && ((W.codeIn K cd13 "_law_cell_at" && W.codeIn K cd14 "_law_whole") && W.codeIn K cd15 "_law_table"))) && ((((W.codeIn K cd16 "_law_plain" && W.codeIn K cd17 "_law_ends") && (W.codeIn K cd18 "_law_pair" && W.codeIn K cd19 "_law_may_end")) && ((W.codeIn K cd20 "_law_word" && W.codeIn K cd21 "is_text") && (W.codeIn K cd22 "sign_of" && W.codeIn K cd23 "parts_agree"))) && (((W.codeIn K cd24 "is_door" && W.codeIn K cd25 "Cursor.sees") && (W.codeIn K cd26 "_law_hex" && W.codeIn K cd27 "_law_signs")) && ((W.codeIn K cd28 "_law_piece" && W.codeIn K cd29 "is_scheme") && W.codeIn K cd30 "is_filled_text")))) && (((((W.codeIn K cd31 "is_text_or_none" && W.codeIn K cd32 "taken_door") && (W.codeIn K cd33 "taken_pair" && W.codeIn K cd34 "_law_head")) && ((W.codeIn K cd35 "_law_house" && W.codeIn K cd36 "_law_tail") && (W.codeIn K cd37 "_law_behind" && W.codeIn K cd38 "is_house"))) && (((W.codeIn K cd39 "is_steps" && W.codeIn K cd40 "is_asked") && (W.codeIn K cd41 "taken_scheme" && W.codeIn K cd42 "taken_text")) && ((W.codeIn K cd43 "_law_moved" && W.codeIn K cd44 "_law_way") && W.codeIn K cd45 "is_way"))) && ((((W.codeIn K cd46 "is_question" && W.codeIn K cd47 "taken_way") && (W.codeIn K cd48 "taken_value" && W.codeIn K cd49 "taken_mark")) && ((W.codeIn K cd50 "taken_filled_text" && W.codeIn K cd51 "_law_place") && W.codeIn K cd52 "_law_writes")) && (((W.codeIn K cd53 "parts_stand" && W.codeIn K cd54 "taken_house") && (W.codeIn K cd55 "taken_question" && W.codeIn K cd56 "is_address")) && ((W.codeIn K cd57 "read" && W.codeIn K cd58 "_law_asked") && W.codeIn K cd59 "law"))))) = true) :
  ∃ fd : FuncData, (∀ (s : Shared) (v : Value), BindsTo s fd ⟨[v], []⟩ [("_law_script", v)]) ∧ ∀ base : Heap, K.In base → base.Ns mainGlobals mg → FnOk l.prog w K mg base CX0 9 fa fd ["_law_script"] (pqo K) := by
 have e := hfa.symm.trans (W.mg_of X Gl a59)
 have e2 : f59 = fa := by cases e; rfl
 subst e2
 have M : ∀ {x : Str} {v : Value}, W.nsIn K mainGlobals x = some (some v) → mg x = some v := fun a => W.mg_of X Gl a
 have F1 := aqB (st := fqI) l1 (aqc (aqc (aqc (aqc (aqc (aqc cc)))))) (aqc (aqc (aqc (aqc (aqc (aqc kk))))))
 have F2 := aqB (st := bqs) l2 (aqd (aqc (aqc (aqc (aqc (aqc cc)))))) (aqd (aqc (aqc (aqc (aqc (aqc kk))))))
 have F3 := aqB (st := bqq) l3 (aqc (aqd (aqc (aqc (aqc (aqc cc)))))) (aqc (aqd (aqc (aqc (aqc (aqc kk))))))
 have F4 := aqB (st := eqC) l4 (aqd (aqd (aqc (aqc (aqc (aqc cc)))))) (aqd (aqd (aqc (aqc (aqc (aqc kk))))))
 have F5 := aqB (st := eqG) l5 (aqc (aqc (aqd (aqc (aqc (aqc cc)))))) (aqc (aqc (aqd (aqc (aqc (aqc kk))))))
 have F6 := aqB (st := bqb) l6 (aqd (aqc (aqd (aqc (aqc (aqc cc)))))) (aqd (aqc (aqd (aqc (aqc (aqc kk))))))
 have F7 := aqB (st := aqP) l7 (aqc (aqd (aqd (aqc (aqc (aqc cc)))))) (aqc (aqd (aqd (aqc (aqc (aqc kk))))))
 have F8 := aqB (st := aq9) l8 (aqd (aqd (aqd (aqc (aqc (aqc cc)))))) (aqd (aqd (aqd (aqc (aqc (aqc kk))))))
 have F9 := aqB (st := bqv) l9 (aqc (aqc (aqc (aqd (aqc (aqc cc)))))) (aqc (aqc (aqc (aqd (aqc (aqc kk))))))
 have F10 := aqB (st := cqa) l10 (aqd (aqc (aqc (aqd (aqc (aqc cc)))))) (aqd (aqc (aqc (aqd (aqc (aqc kk))))))
 have F11 := aqB (st := bqr) l11 (aqc (aqd (aqc (aqd (aqc (aqc cc)))))) (aqc (aqd (aqc (aqd (aqc (aqc kk))))))
 have F12 := aqB (st := dqp) l12 (aqd (aqd (aqc (aqd (aqc (aqc cc)))))) (aqd (aqd (aqc (aqd (aqc (aqc kk))))))
 have F13 := aqB (st := bqJ) l13 (aqc (aqc (aqd (aqd (aqc (aqc cc)))))) (aqc (aqc (aqd (aqd (aqc (aqc kk))))))
 have F14 := aqB (st := cqL) l14 (aqd (aqc (aqd (aqd (aqc (aqc cc)))))) (aqd (aqc (aqd (aqd (aqc (aqc kk))))))
 have F15 := aqB (st := cqQ) l15 (aqd (aqd (aqd (aqc (aqc cc))))) (aqd (aqd (aqd (aqc (aqc kk)))))
 have F16 := aqB (st := cqS) l16 (aqc (aqc (aqc (aqc (aqd (aqc cc)))))) (aqc (aqc (aqc (aqc (aqd (aqc kk))))))
 have F17 := aqB (st := dqs) l17 (aqd (aqc (aqc (aqc (aqd (aqc cc)))))) (aqd (aqc (aqc (aqc (aqd (aqc kk))))))
 have F18 := aqB (st := dqC) l18 (aqc (aqd (aqc (aqc (aqd (aqc cc)))))) (aqc (aqd (aqc (aqc (aqd (aqc kk))))))
 have F19 := aqB (st := bqK) l19 (aqd (aqd (aqc (aqc (aqd (aqc cc)))))) (aqd (aqd (aqc (aqc (aqd (aqc kk))))))
 have F20 := aqB (st := dqn) l20 (aqc (aqc (aqd (aqc (aqd (aqc cc)))))) (aqc (aqc (aqd (aqc (aqd (aqc kk))))))
 have F21 := aqB (st := fqL) l21 (aqd (aqc (aqd (aqc (aqd (aqc cc)))))) (aqd (aqc (aqd (aqc (aqd (aqc kk))))))
 have F22 := aqB (st := fqN) l22 (aqc (aqd (aqd (aqc (aqd (aqc cc)))))) (aqc (aqd (aqd (aqc (aqd (aqc kk))))))
 have F23 := aqB (st := cqm) l23 (aqd (aqd (aqd (aqc (aqd (aqc cc)))))) (aqd (aqd (aqd (aqc (aqd (aqc kk))))))
 have F24 := aqB (st := fqK) l24 (aqc (aqc (aqc (aqd (aqd (aqc cc)))))) (aqc (aqc (aqc (aqd (aqd (aqc kk))))))
 have F25 := aqB (st := cqe) l25 (aqd (aqc (aqc (aqd (aqd (aqc cc)))))) (aqd (aqc (aqc (aqd (aqd (aqc kk))))))
 have F26 := aqB (st := eqB) l26 (aqc (aqd (aqc (aqd (aqd (aqc cc)))))) (aqc (aqd (aqc (aqd (aqd (aqc kk))))))
 have F27 := aqB (st := cqU) l27 (aqd (aqd (aqc (aqd (aqd (aqc cc)))))) (aqd (aqd (aqc (aqd (aqd (aqc kk))))))
 have F28 := aqB (st := cqK) l28 (aqc (aqc (aqd (aqd (aqd (aqc cc)))))) (aqc (aqc (aqd (aqd (aqd (aqc kk))))))
 have F29 := aqB (st := dqq) l29 (aqd (aqc (aqd (aqd (aqd (aqc cc)))))) (aqd (aqc (aqd (aqd (aqd (aqc kk))))))
 have F30 := aqB (st := bqh) l30 (aqd (aqd (aqd (aqd (aqc cc))))) (aqd (aqd (aqd (aqd (aqc kk)))))
 have F31 := aqB (st := bqa) l31 (aqc (aqc (aqc (aqc (aqc (aqd cc)))))) (aqc (aqc (aqc (aqc (aqc (aqd kk))))))
 have F32 := aqB (st := cqX) l32 (aqd (aqc (aqc (aqc (aqc (aqd cc)))))) (aqd (aqc (aqc (aqc (aqc (aqd kk))))))
 have F33 := aqB (st := cqN) l33 (aqc (aqd (aqc (aqc (aqc (aqd cc)))))) (aqc (aqd (aqc (aqc (aqc (aqd kk))))))
 have F34 := aqB (st := dqy) l34 (aqd (aqd (aqc (aqc (aqc (aqd cc)))))) (aqd (aqd (aqc (aqc (aqc (aqd kk))))))
 have F35 := aqB (st := cqV) l35 (aqc (aqc (aqd (aqc (aqc (aqd cc)))))) (aqc (aqc (aqd (aqc (aqc (aqd kk))))))
 have F36 := aqB (st := dqA) l36 (aqd (aqc (aqd (aqc (aqc (aqd cc)))))) (aqd (aqc (aqd (aqc (aqc (aqd kk))))))
 have F37 := aqB (st := cqg) l37 (aqc (aqd (aqd (aqc (aqc (aqd cc)))))) (aqc (aqd (aqd (aqc (aqc (aqd kk))))))
 have F38 := aqB (st := eqF) l38 (aqd (aqd (aqd (aqc (aqc (aqd cc)))))) (aqd (aqd (aqd (aqc (aqc (aqd kk))))))
 have F39 := aqB (st := eqI) l39 (aqc (aqc (aqc (aqd (aqc (aqd cc)))))) (aqc (aqc (aqc (aqd (aqc (aqd kk))))))
 have F40 := aqB (st := eqD) l40 (aqd (aqc (aqc (aqd (aqc (aqd cc)))))) (aqd (aqc (aqc (aqd (aqc (aqd kk))))))
 have F41 := aqB (st := bqL) l41 (aqc (aqd (aqc (aqd (aqc (aqd cc)))))) (aqc (aqd (aqc (aqd (aqc (aqd kk))))))
 have F42 := qqt (st := cqW) l42 (aqd (aqd (aqc (aqd (aqc (aqd cc)))))) (aqd (aqd (aqc (aqd (aqc (aqd kk))))))
 have F43 := aqB (st := cqP) l43 (aqc (aqc (aqd (aqd (aqc (aqd cc)))))) (aqc (aqc (aqd (aqd (aqc (aqd kk))))))
 have F44 := aqB (st := eqE) l44 (aqd (aqc (aqd (aqd (aqc (aqd cc)))))) (aqd (aqc (aqd (aqd (aqc (aqd kk))))))
 have F45 := aqB (st := hqv) l45 (aqd (aqd (aqd (aqc (aqd cc))))) (aqd (aqd (aqd (aqc (aqd kk)))))
 have F46 := aqB (st := cqi) l46 (aqc (aqc (aqc (aqc (aqd (aqd cc)))))) (aqc (aqc (aqc (aqc (aqd (aqd kk))))))
 have F47 := aqB (st := dqx) l47 (aqd (aqc (aqc (aqc (aqd (aqd cc)))))) (aqd (aqc (aqc (aqc (aqd (aqd kk))))))
 have F48 := aqB (st := cqd) l48 (aqc (aqd (aqc (aqc (aqd (aqd cc)))))) (aqc (aqd (aqc (aqc (aqd (aqd kk))))))
 have F49 := aqB (st := cqR) l49 (aqd (aqd (aqc (aqc (aqd (aqd cc)))))) (aqd (aqd (aqc (aqc (aqd (aqd kk))))))
 have F50 := qqt (st := aqV) l50 (aqc (aqc (aqd (aqc (aqd (aqd cc)))))) (aqc (aqc (aqd (aqc (aqd (aqd kk))))))
 have F51 := aqB (st := cqJ) l51 (aqd (aqc (aqd (aqc (aqd (aqd cc)))))) (aqd (aqc (aqd (aqc (aqd (aqd kk))))))
 have F52 := aqB (st := bq7) l52 (aqd (aqd (aqc (aqd (aqd cc))))) (aqd (aqd (aqc (aqd (aqd kk)))))
 have F53 := aqB (st := cqb) l53 (aqc (aqc (aqc (aqd (aqd (aqd cc)))))) (aqc (aqc (aqc (aqd (aqd (aqd kk))))))
 have F54 := aqB (st := bq3) l54 (aqd (aqc (aqc (aqd (aqd (aqd cc)))))) (aqd (aqc (aqc (aqd (aqd (aqd kk))))))
 have F55 := aqB (st := bqi) l55 (aqc (aqd (aqc (aqd (aqd (aqd cc)))))) (aqc (aqd (aqc (aqd (aqd (aqd kk))))))
 have F56 := aqB (st := cqM) l56 (aqd (aqd (aqc (aqd (aqd (aqd cc)))))) (aqd (aqd (aqc (aqd (aqd (aqd kk))))))
 have F57 := aqB (st := lqz) l57 (aqc (aqc (aqd (aqd (aqd (aqd cc)))))) (aqc (aqc (aqd (aqd (aqd (aqd kk))))))
 have F58 := aqB (st := cqO) l58 (aqd (aqc (aqd (aqd (aqd (aqd cc)))))) (aqd (aqc (aqd (aqd (aqd (aqd kk))))))
 have F59 := aqB (st := pqP) l59 (aqd (aqd (aqd (aqd (aqd cc))))) (aqd (aqd (aqd (aqd (aqd kk)))))
 let g : G K mg := {
  iqX := f1, hqq := _, gqA := F1, iqM := M a1,
  iqc := F1.binds (by walk_at "b2"),
  cq4 := f2, cqE := _, cq8 := F2, eqR := M a2,
  eqZ := F2.binds (by walk_at "b1"),
  cq2 := f3, cqx := _, eqT := F3, gq9 := M a3,
  gq4 := F3.binds (by walk_at "b1"),
  hqo := f4, fqZ := _, iq3 := F4, lqD := M a4,
  lqy := F4.binds (by walk_at "b1"),
  hql := f5, fqT := _, fqE := F5, hqw := M a5,
  hqk := F5.binds (by walk_at "b2"),
  bq5 := f6, bqQ := _, dqr := F6, fqH := M a6,
  fqF := F6.binds (by walk_at "b1"),
  bqp := f7, bqk := _, eqa := F7,
  aqI := F7.binds (by walk_at "b2"),
  cqh := f8, bqP := _, fqQ := F8,
  fqM := F8.binds (by walk_at "b2"),
  cq5 := f9, cqz := _, gqF := F9, dq4 := ⟨a9, i9, F9.kp⟩,
  eqO := F9.binds (by walk_at "b1"),
  eqp := f10, dqI := _, iqC := F10, bqM := ⟨a10, i10, F10.kp⟩,
  cqc := F10.binds (by walk_at "b1"),
  dqc := f11, cqB := _, gqG := F11, aqD := ⟨a11, i11, F11.kp⟩,
  aqF := F11.binds (by walk_at "b2"),
  gqe := f12, eq4 := _, fq8 := F12, hqY := M a12,
  hq9 := F12.binds (by walk_at "b2"),
  dqP := f13, cq6 := _, fqC := F13, hqM := M a13,
  hqA := F13.binds (by walk_at "b2"),
  fqt := f14, eqx := _, gqM := F14, jqo := M a14,
  jqu := F14.binds (by walk_at "b1"),
  eq6 := f15, eqt := _, bqS := F15, cqT := M a15,
  cqY := F15.binds (by walk_at "b0"),
  eq3 := f16, eqi := _, gqy := F16, jqN := M a16,
  jqG := F16.binds (by walk_at "b1"),
  fq6 := f17, fql := _, aqU := F17, aq3 := M a17,
  aq2 := F17.binds (by walk_at "b2"),
  fq5 := f18, fqk := _, hqZ := F18, kqa := M a18,
  kqd := F18.binds (by walk_at "b2"),
  dqK := f19, dqa := _, fqy := F19, hqF := M a19,
  hqN := F19.binds (by walk_at "b1"),
  fq4 := f20, eq8 := _, aq4 := F20, bqc := M a20,
  bqd := F20.binds (by walk_at "b3"),
  iqi := f21, hqs := _, gqW := F21, iqF := M a21,
  iqA := F21.binds (by walk_at "b1"),
  iqy := f22, hqn := _, kqy := F22, mqZ := M a22,
  nqN := F22.binds (by walk_at "b1"),
  equ := f23, dqJ := _, gqb := F23, iqo := M a23,
  iqQ := F23.binds (by walk_at "b1"),
  iqj := f24, hqh := _, kqU := F24, nqq := M a24,
  nqr := F24.binds (by walk_at "b1"),
  eqj := f25, dqE := _, iqL := F25, cqt := ⟨a25, i25, F25.kp⟩,
  dqh := F25.binds (by walk_at "b2"),
  hqc := f26, fq7 := _, jqj := F26, lqH := M a26,
  lqC := F26.binds (by walk_at "b1"),
  fqn := f27, eql := _, aq8 := F27, bqj := M a27,
  bqn := F27.binds (by walk_at "b3"),
  fqr := f28, eqk := _, hqb := F28, jqH := M a28,
  jqF := F28.binds (by walk_at "b2"),
  fqY := f29, fqa := _, gql := F29, hqS := M a29,
  hqT := F29.binds (by walk_at "b1"),
  cqD := f30, bq6 := _, bqF := F30, cqC := M a30,
  cqy := F30.binds (by walk_at "b1"),
  cqf := f31, bqO := _, cqk := F31, dqu := M a31,
  dqt := F31.binds (by walk_at "b1"),
  fqq := f32, eqd := _, gqD := F32, jqt := M a32,
  jqO := F32.binds (by walk_at "b1"),
  fqc := f33, eqf := _, gqN := F33, jqr := M a33,
  jqv := F33.binds (by walk_at "b1"),
  gqi := f34, fqf := _, hq4 := F34, kqu := M a34,
  kqs := F34.binds (by walk_at "b2"),
  fqw := f35, eqz := _, gqR := F35, jqw := M a35,
  jqJ := F35.binds (by walk_at "b2"),
  fq3 := f36, fqb := _, hqP := F36, kqe := M a36,
  kqf := F36.binds (by walk_at "b2"),
  eqr := f37, dqL := _, bqB := F37, bq4 := M a37,
  cqj := F37.binds (by walk_at "b4"),
  hqd := f38, fqW := _, jql := F38, lqF := M a38,
  lqK := F38.binds (by walk_at "b1"),
  hqr := f39, fqS := _, jqc := F39, lqP := M a39,
  lqR := F39.binds (by walk_at "b1"),
  hqm := f40, gqa := _, iq5 := F40, lqL := M a40,
  lqx := F40.binds (by walk_at "b1"),
  dqN := f41, cqZ := _, fqx := F41, hqL := M a41,
  hqD := F41.binds (by walk_at "b1"),
  fqj := f42, dqj := _, jqK := T42, kq8 := dt42_0, bqx := F42, bq1 := M a42,
  jqs := F42.binds (ps := ["cursor", "free", "most"]) (ds := []) d42 fun _ _ _ _ _ _ us hl => match us, hl with | [_, _, _], _ => ⟨_, rfl, rfl⟩,
  bq2 := F42.binds (ps := ["cursor", "free", "most"]) (ds := [.none]) d42 fun _ _ _ _ _ _ us hl => by obtain ⟨x, y, rfl⟩ := rqh hl; exact ⟨_, rfl, rfl⟩,
  eq7 := f43, eqw := _, gqL := F43, jqI := M a43,
  jqA := F43.binds (by walk_at "b2"),
  hqi := f44, fqX := _, iq4 := F44, lqW := M a44,
  lqS := F44.binds (by walk_at "b4"),
  jq2 := f45, iqd := _, mqx := F45, oqU := M a45,
  oqV := F45.binds (by walk_at "b1"),
  eqc := f46, dqD := _, gqn := F46, iqH := M a46,
  iqk := F46.binds (by walk_at "b1"),
  fq1 := f47, fqv := _, hq7 := F47, kqp := M a47,
  kqh := F47.binds (by walk_at "b2"),
  eqo := f48, dqF := _, eqs := F48, gqg := M a48,
  gqf := F48.binds (by walk_at "b1"),
  fqd := f49, eqA := _, gqP := F49, jqD := M a49,
  jqy := F49.binds (by walk_at "b1"),
  bqy := f50, aq5 := _, eqX := T50, gqT := dt50_0, bqE := F50, cqH := M a50,
  eqY := F50.binds (ps := ["cursor", "free", "most"]) (ds := []) d50 fun _ _ _ _ _ _ us hl => match us, hl with | [_, _, _], _ => ⟨_, rfl, rfl⟩,
  eqb := F50.binds (ps := ["cursor", "free", "most"]) (ds := [.none]) d50 fun _ _ _ _ _ _ us hl => by obtain ⟨x, y, rfl⟩ := rqh hl; exact ⟨_, rfl, rfl⟩,
  fqe := f51, eqg := _, gq6 := F51, jqq := M a51,
  jqE := F51.binds (by walk_at "b1"),
  eqy := f52, dqG := _, gqd := F52, iqG := M a52,
  iqb := F52.binds (by walk_at "b2"),
  eqq := f53, dqH := _, gqj := F53, iqq := M a53,
  iqm := F53.binds (by walk_at "b1"),
  eqm := f54, dqO := _, fq2 := F54, iqT := M a54,
  iqB := F54.binds (by walk_at "b1"),
  cqA := f55, bq9 := _, dq3 := F55, gqt := M a55,
  gqv := F55.binds (by walk_at "b1"),
  fqs := f56, eqn := _, gqK := F56, jqB := M a56,
  jqM := F56.binds (by walk_at "b1"),
  pqp := f57, mqb := _, pq6 := F57, tql := M a57,
  tqA := F57.binds (by walk_at "b1"),
  fqo := f58, eqe := _, dqY := F58, fqp := M a58,
  fqg := F58.binds (by walk_at "b1"),
  sqk := f59, nqo := _, wqR := F59, wqZ := M a59,
  xqn := F59.binds (by walk_at "b1"),
  kqB := kqB, oqy := W.mg_of X Gl e_SIGNS,
  gqJ := gqJ, nqC := W.mg_of X Gl e_LETTERS,
  aqY := aqY, dqT := W.mg_of X Gl e_LETTERS_AND_FIGURES,
  gq0 := gq0, kqg := W.mg_of X Gl e_FIGURES,
  kq0 := kq0, rqQ := W.mg_of X Gl e_PLAIN,
  bqY := bqY, eqW := W.mg_of X Gl e_FREE_IN_STEPS,
  bqf := bqf, bqz := W.mg_of X Gl e_FREE_IN_QUESTIONS,
  bqX := bqX, gqH := W.mg_of X Gl e_FREE_IN_MARKS,
  cqw := cqw, fqz := W.mg_of X Gl e_FIRST_NUMBER,
  cq9 := cq9, iql := W.mg_of X Gl e_LAST_NUMBER,
  bqu := bqu, dqw := W.mg_of X Gl e_NUMBER_LEFT_OUT,
  bqW := bqW, eqP := W.mg_of X Gl e_SMALL_FIGURES,
  bqT := bqT, eq2 := W.mg_of X Gl e_GREAT_FIGURES,
  iqK := iqK, mql := W.mg_of X Gl e_SCHEME,
  kq2 := kq2, oqE := W.mg_of X Gl e_HOUSE,
  nqL := nqL, qqW := W.mg_of X Gl e_DOOR,
  qq6 := qq6, uqe := W.mg_of X Gl e_WAY,
  fqO := fqO, lqw := W.mg_of X Gl e_QUESTION,
  nq0 := nq0, sq0 := W.mg_of X Gl e_MARK,
  iqU := iqU, jq0 := W.mg_of X Gl e_ROOTED,
  kqt := kqt, oqk := W.mg_of X Gl e_STEPS,
  nq5 := nq5, qqx := W.mg_of X Gl e_ENDS,
  bqH := bqH, gqr := W.mg_of X Gl e_LONGEST_SCHEME,
  bqR := bqR, eqQ := W.mg_of X Gl e_LONGEST_HOUSE,
  eqS := eqS, hqQ := W.mg_of X Gl e_LAST_DOOR,
  bqZ := bqZ, gq3 := W.mg_of X Gl e_FIRST_FIGURES,
  sqi := W.mg_none_of X Gl z_all,
  gqo := W.mg_none_of X Gl z_len,
  aqR := W.mg_none_of X Gl z_isinstance,
  jqh := W.mg_none_of X Gl z_tuple,
  nqA := W.mg_none_of X Gl z_bool,
  mqN := W.mg_none_of X Gl z_int,
  sqy := W.mg_none_of X Gl z_str,
  wqu := W.mg_none_of X Gl z_max,
  kqC := W.mg_none_of X Gl z_range,
  vq2 := W.mg_none_of X Gl z_any,
  aqx := eC_NoAddress, bq0 := W.mg_of X Gl en_NoAddress,
  kqX := ⟨ew1_NoAddress, ew2_NoAddress, ew3_NoAddress⟩,
  oqJ := ⟨el0_NoAddress, el1_NoAddress, el2_NoAddress, el3_NoAddress, el4_NoAddress, el5_NoAddress⟩,
  cqF := ⟨ey_NoAddress, i7, ek_NoAddress⟩,
  gqO := ⟨es_NoAddress, eo_NoAddress, ef_NoAddress_at, eh_NoAddress⟩,
  gqI := ⟨⟨el0_NoAddress, el1_NoAddress, el2_NoAddress, el3_NoAddress, el4_NoAddress, el5_NoAddress⟩, ef_NoAddress_at, eh_NoAddress⟩,
  dqR := eu_NoAddress_NoAddress,
  aqs := kC_Cursor, aqk := ⟨pg_Cursor, hd_Cursor, po_Cursor, sa_Cursor⟩, pqf := W.mg_of X Gl aC_Cursor,
  aq6 := nf_Cursor_text,
  aqq := nf_Cursor_place,
  pqb := ⟨mk_Cursor, a8, i8, kc_Cursor⟩ }
 exact ⟨g.nqo, fun s v => .of_eq rfl, fun base _ _ => vqL g⟩
theorem walk {l : PySem.W.OpenLaw} {q : Program} {loose : List Str} {XP : (Str → Option Value) → Heap → Prop} {YP : World → Heap → Prop} {d : DefRec} {K : Params → W.Frag} (hn : l.most = some 63) (hdf : d.params.defaults = [])
  (hY : ∀ (w : World) (h : Heap), YP w h → (K w.params).In h)
  (F : ∀ (w : World) (mg : Str → Option Value) (fa : Addr) (h : Heap), (K w.params).In h → h.Ns mainGlobals mg → mg d.name = some (.ref fa) →
   ∃ fd : FuncData, (∀ (s : Shared) (u : Value), BindsTo s fd ⟨[u], []⟩ [("_law_script", u)]) ∧ ∀ base : Heap, (K w.params).In base → base.Ns mainGlobals mg → FnOk l.prog w (K w.params) mg base CX0 9 fa fd ["_law_script"] (pqo (K w.params))) :
  PySem.W.WalkO q loose XP YP l.row.toRowW d [] (fun f vs => PySem.call f vs) :=
 L2.uq6 (n := 63) (k := 9) (x := "_law_script") (CX := fun _ => CX0) (sp := fun w => pqo (K w.params)) hn (by decide) hdf ⟨rfl, by decide, by decide⟩ hY F (fun _ _ a ns hl _ hS => ⟨a, ns, rfl, hS, hl, fun _ => rfl⟩) fun _ _ _ _ _ z => z
end Wm
theorem PySem.W.Fast.tw17995129932500654847 : True := trivial
theorem PySem.W.Fast.tw7752220512149517150 : True := trivial
theorem PySem.W.Fast.tw12714590594997968438 : True := trivial
theorem PySem.W.Fast.tw8519042932920665301 : True := trivial
theorem PySem.W.Fast.tw11795815578676627857 : True := trivial
theorem PySem.W.Fast.tw12472910041452245591 : True := trivial
theorem PySem.W.Fast.tw2183794110535489713 : True := trivial
theorem PySem.W.Fast.tw6057309274898675887 : True := trivial
theorem PySem.W.Fast.tw6582559108148534118 : True := trivial
theorem PySem.W.Fast.tw1123829717176072000 : True := trivial
theorem PySem.W.Fast.tw13258769684366911074 : True := trivial
theorem PySem.W.Fast.tw2449651761452136124 : True := trivial
theorem PySem.W.Fast.tw14559350729942725790 : True := trivial
theorem PySem.W.Fast.tw9628866787002244750 : True := trivial
theorem PySem.W.Fast.tw17870136905194770984 : True := trivial
theorem PySem.W.Fast.tw14913360782894829093 : True := trivial
theorem PySem.W.Fast.tw15466713396869037563 : True := trivial
theorem PySem.W.Fast.tw10349612807447804817 : True := trivial
theorem PySem.W.Fast.tw12907970789859732408 : True := trivial
theorem PySem.W.Fast.tw12095338407859679165 : True := trivial
theorem PySem.W.Fast.tw469170946719822637 : True := trivial
theorem PySem.W.Fast.tw17522833538843629025 : True := trivial
theorem PySem.W.Fast.tw12004545951298479091 : True := trivial
theorem PySem.W.Fast.tw3129686341913383583 : True := trivial
theorem PySem.W.Fast.tw9912028475698834584 : True := trivial
theorem PySem.W.Fast.tw13254251500336846750 : True := trivial
theorem PySem.W.Fast.tw12035645186117447796 : True := trivial
theorem PySem.W.Fast.tw855704643071095931 : True := trivial
theorem PySem.W.Fast.tw12143404306467841097 : True := trivial
theorem PySem.W.Fast.tw17279400757191813348 : True := trivial
theorem PySem.W.Fast.tw18360513159284928282 : True := trivial
theorem PySem.W.Fast.tw10102182205164705587 : True := trivial
theorem PySem.W.Fast.tw15545769408936626941 : True := trivial
theorem PySem.W.Fast.tw16332451073990781532 : True := trivial
theorem PySem.W.Fast.tw17702364683728757461 : True := trivial
theorem PySem.W.Fast.tw17750277108773909262 : True := trivial
theorem PySem.W.Fast.tw1828753941265093874 : True := trivial
theorem PySem.W.Fast.tw10237799675743947228 : True := trivial
theorem PySem.W.Fast.tw11336436086864739569 : True := trivial
theorem PySem.W.Fast.tw7204429396941268171 : True := trivial
theorem PySem.W.Fast.tw252806686570837244 : True := trivial
theorem PySem.W.Fast.tw15084416244495832133 : True := trivial
theorem PySem.W.Fast.tw14963354792319661402 : True := trivial
theorem PySem.W.Fast.tw6720309619247326143 : True := trivial
theorem PySem.W.Fast.tw7535538799734166056 : True := trivial
theorem PySem.W.Fast.tw13233594294646522178 : True := trivial
theorem PySem.W.Fast.tw13822412570940238535 : True := trivial
theorem PySem.W.Fast.tw7311280083483641593 : True := trivial
theorem PySem.W.Fast.tw4229241126139426512 : True := trivial
theorem PySem.W.Fast.tw74466110272016549 : True := trivial
theorem PySem.W.Fast.tw464294572109913593 : True := trivial
theorem PySem.W.Fast.tw9263607398033638093 : True := trivial
theorem PySem.W.Fast.tw235774039767935438 : True := trivial
theorem PySem.W.Fast.tw16699687472867416672 : True := trivial
theorem PySem.W.Fast.tw8330837611935291759 : True := trivial
theorem PySem.W.Fast.tw16652575150101911455 : True := trivial
theorem PySem.W.Fast.tw2374060760163475577 : True := trivial
theorem PySem.W.Fast.tw827326986333847083 : True := trivial
theorem PySem.W.Fast.tw9858387742018060783 : True := trivial
theorem PySem.W.Fast.tw4693686329366926964 : True := trivial
theorem PySem.W.Fast.tw1688894884123769117 : True := trivial
theorem PySem.W.Fast.tw15274039610815233499 : True := trivial
theorem PySem.W.Fast.tw12769515456509180520 : True := trivial
theorem PySem.W.Fast.tw7692327634331129010 : True := trivial
theorem PySem.W.Fast.tw1850690741443252053 : True := trivial
theorem PySem.W.Fast.tw8702981195802007602 : True := trivial
theorem PySem.W.Fast.tw13740092443790249814 : True := trivial
theorem PySem.W.Fast.tw18104719724082831857 : True := trivial
theorem PySem.W.Fast.tw4225296425790515328 : True := trivial
theorem PySem.W.Fast.tw1189999191279496709 : True := trivial
theorem PySem.W.Fast.tw10817133388428042075 : True := trivial
theorem PySem.W.Fast.tw185455451839551023 : True := trivial
theorem PySem.W.Fast.tw10482729734159913042 : True := trivial
theorem PySem.W.Fast.tw13840251168823861714 : True := trivial
theorem PySem.W.Fast.tw2482176620634016675 : True := trivial
theorem PySem.W.Fast.tw14048570527514372365 : True := trivial
theorem PySem.W.Fast.tw10549199579959802173 : True := trivial
theorem PySem.W.Fast.tw3028936838843331561 : True := trivial
theorem PySem.W.Fast.tw17907077384361282636 : True := trivial
theorem PySem.W.Fast.tw7304578476708804156 : True := trivial
theorem PySem.W.Fast.tw15609463080829580827 : True := trivial
theorem PySem.W.Fast.tw2469392797853242671 : True := trivial
theorem PySem.W.Fast.tw2150117085674508609 : True := trivial
theorem PySem.W.Fast.tw14792987538862157809 : True := trivial
theorem PySem.W.Fast.tw1955405986511685802 : True := trivial
theorem PySem.W.Fast.tw2494742606995717050 : True := trivial
theorem PySem.W.Fast.tw1284854835209311227 : True := trivial
theorem PySem.W.Fast.tw6826663383921614699 : True := trivial
theorem PySem.W.Fast.tw16027054341525325208 : True := trivial
theorem PySem.W.Fast.tw13862803178729405116 : True := trivial
theorem PySem.W.Fast.tw12929547708970423093 : True := trivial
theorem PySem.W.Fast.tw15510818556472189968 : True := trivial
theorem PySem.W.Fast.tw16738598447173343135 : True := trivial
theorem PySem.W.Fast.tw4930729891628889808 : True := trivial
theorem PySem.W.Fast.tw17042255821226087460 : True := trivial
theorem PySem.W.Fast.tw4344259325773665688 : True := trivial
theorem PySem.W.Fast.tw16598518999006898328 : True := trivial
theorem PySem.W.Fast.tw11871266270223421097 : True := trivial
theorem PySem.W.Fast.tw6538624036955334490 : True := trivial
theorem PySem.W.Fast.tw1421890509578592215 : True := trivial
theorem PySem.W.Fast.tw15578529626827073951 : True := trivial
theorem PySem.W.Fast.tw11727893255903657710 : True := trivial
theorem PySem.W.Fast.tw14867600807614420720 : True := trivial
theorem PySem.W.Fast.tw9818295912241342762 : True := trivial
theorem PySem.W.Fast.tw2716291072475693378 : True := trivial
theorem PySem.W.Fast.tw9882498625068076937 : True := trivial
theorem PySem.W.Fast.tw420345766599337776 : True := trivial
theorem PySem.W.Fast.tw13715134093079313963 : True := trivial
theorem PySem.W.Fast.tw1416133239786672725 : True := trivial
theorem PySem.W.Fast.tw5799355987778188800 : True := trivial
theorem PySem.W.Fast.tw17544681249341527333 : True := trivial
theorem PySem.W.Fast.tw11549171125868763593 : True := trivial
theorem PySem.W.Fast.tw15825557539069576112 : True := trivial
theorem PySem.W.Fast.tw17130269285708387157 : True := trivial
theorem PySem.W.Fast.tw11627937241132855337 : True := trivial
theorem PySem.W.Fast.tw1704276894100338267 : True := trivial
theorem PySem.W.Fast.tw7385139274262747019 : True := trivial
theorem PySem.W.Fast.tw5886622744734385665 : True := trivial
theorem PySem.W.Fast.tw18408515548646674647 : True := trivial
theorem PySem.W.Fast.tw5313860602905716187 : True := trivial
theorem PySem.W.Fast.tw14671492764141255967 : True := trivial
theorem PySem.W.Fast.tw7775133083988904545 : True := trivial
theorem PySem.W.Fast.tw10681042111755883533 : True := trivial
theorem PySem.W.Fast.tw1924939047822384390 : True := trivial
theorem PySem.W.Fast.tw13803532836395396441 : True := trivial
theorem PySem.W.Fast.tw9489599259531718971 : True := trivial
theorem PySem.W.Fast.tw15223173618797058338 : True := trivial
theorem PySem.W.Fast.tw3577351894501112813 : True := trivial
theorem PySem.W.Fast.tw14015377580353566733 : True := trivial
open PySem PySem.W PyProof.Rows
set_option maxRecDepth 100000 in
set_option maxHeartbeats 0 in
theorem PySem.Challenge.cw_waymark_k90_whole_each_text_read_or_refu_holds : PySem.Challenge.rw_waymark_k90_whole_each_text_read_or_refu.Holds := by
 w_on; o_law; k_head; (case hw => w_witness2)
 k_fill
 refine Wm.walk (l := PySem.Challenge.rw_waymark_k90_whole_each_text_read_or_refu) rfl rfl (fun w h Y => PySem.W.kIn_of Y) ?F
 case F =>
  intro w mg fa h KX G hmg
  refine' Wm.wqL (dt42_0 := 0) (dt50_0 := 0) KX G hmg ?aC_Cursor ?en_NoAddress ?a1 ?l1 ?a2 ?l2 ?a3 ?l3 ?a4 ?l4 ?a5 ?l5 ?a6 ?l6 ?a7 ?i7 ?l7 ?a8 ?i8 ?l8 ?a9 ?i9 ?l9 ?a10 ?i10 ?l10 ?a11 ?i11 ?l11 ?a12 ?l12 ?a13 ?l13 ?a14 ?l14 ?a15 ?l15 ?a16 ?l16 ?a17 ?l17 ?a18 ?l18 ?a19 ?l19 ?a20 ?l20 ?a21 ?l21 ?a22 ?l22 ?a23 ?l23 ?a24 ?l24 ?a25 ?i25 ?l25 ?a26 ?l26 ?a27 ?l27 ?a28 ?l28 ?a29 ?l29 ?a30 ?l30 ?a31 ?l31 ?a32 ?l32 ?a33 ?l33 ?a34 ?l34 ?a35 ?l35 ?a36 ?l36 ?a37 ?l37 ?a38 ?l38 ?a39 ?l39 ?a40 ?l40 ?a41 ?l41 ?a42 ?l42 ?d42 ?a43 ?l43 ?a44 ?l44 ?a45 ?l45 ?a46 ?l46 ?a47 ?l47 ?a48 ?l48 ?a49 ?l49 ?a50 ?l50 ?d50 ?a51 ?l51 ?a52 ?l52 ?a53 ?l53 ?a54 ?l54 ?a55 ?l55 ?a56 ?l56 ?a57 ?l57 ?a58 ?l58 ?a59 ?l59 ?e_SIGNS ?e_LETTERS ?e_LETTERS_AND_FIGURES ?e_FIGURES ?e_PLAIN ?e_FREE_IN_STEPS ?e_FREE_IN_QUESTIONS ?e_FREE_IN_MARKS ?e_FIRST_NUMBER ?e_LAST_NUMBER ?e_NUMBER_LEFT_OUT ?e_SMALL_FIGURES ?e_GREAT_FIGURES ?e_SCHEME ?e_HOUSE ?e_DOOR ?e_WAY ?e_QUESTION ?e_MARK ?e_ROOTED ?e_STEPS ?e_ENDS ?e_LONGEST_SCHEME ?e_LONGEST_HOUSE ?e_LAST_DOOR ?e_FIRST_FIGURES ?z_all ?z_len ?z_isinstance ?z_tuple ?z_bool ?z_int ?z_str ?z_max ?z_range ?z_any ?ew1_NoAddress ?ew2_NoAddress ?ew3_NoAddress ?el0_NoAddress ?el1_NoAddress ?el2_NoAddress ?el3_NoAddress ?el4_NoAddress ?el5_NoAddress ?ey_NoAddress ?ek_NoAddress ?es_NoAddress ?eo_NoAddress ?eh_NoAddress ?ef_NoAddress_at ?eu_NoAddress_NoAddress ?pg_Cursor ?hd_Cursor ?po_Cursor ?sa_Cursor ?mk_Cursor ?kc_Cursor ?nf_Cursor_text ?nf_Cursor_place ?kk ?cc
  (case aC_Cursor => k_is)
  (case en_NoAddress => first | k_is | kit_is | with_unfolding_all kernel_rfl | with_unfolding_all rfl)
  (case a1 | l1 | a2 | l2 | a3 | l3 | a4 | l4 | a5 | l5 | a6 | l6 | a7 | i7 | l7 | a8 | i8 | l8 | a9 | i9 | l9 | a10 | i10 | l10 | a11 | i11 | l11 | a12 | l12 | a13 | l13 | a14 | l14 | a15 | l15 | a16 | l16 | a17 | l17 | a18 | l18 | a19 | l19 | a20 | l20 | a21 | l21 | a22 | l22 | a23 | l23 | a24 | l24 | a25 | i25 | l25 | a26 | l26 | a27 | l27 | a28 | l28 | a29 | l29 | a30 | l30 | a31 | l31 | a32 | l32 | a33 | l33 | a34 | l34 | a35 | l35 | a36 | l36 | a37 | l37 | a38 | l38 | a39 | l39 | a40 | l40 | a41 | l41 | a42 | l42 | d42 | a43 | l43 | a44 | l44 | a45 | l45 | a46 | l46 | a47 | l47 | a48 | l48 | a49 | l49 | a50 | l50 | d50 | a51 | l51 | a52 | l52 | a53 | l53 | a54 | l54 | a55 | l55 | a56 | l56 | a57 | l57 | a58 | l58 | a59 | l59 | e_SIGNS | e_LETTERS | e_LETTERS_AND_FIGURES | e_FIGURES | e_PLAIN | e_FREE_IN_STEPS | e_FREE_IN_QUESTIONS | e_FREE_IN_MARKS | e_FIRST_NUMBER | e_LAST_NUMBER | e_NUMBER_LEFT_OUT | e_SMALL_FIGURES | e_GREAT_FIGURES | e_SCHEME | e_HOUSE | e_DOOR | e_WAY | e_QUESTION | e_MARK | e_ROOTED | e_STEPS | e_ENDS | e_LONGEST_SCHEME | e_LONGEST_HOUSE | e_LAST_DOOR | e_FIRST_FIGURES | z_all | z_len | z_isinstance | z_tuple | z_bool | z_int | z_str | z_max | z_range | z_any => k_is)
  (case ew1_NoAddress | ew2_NoAddress | ew3_NoAddress | el0_NoAddress | el1_NoAddress | el2_NoAddress | el3_NoAddress | el4_NoAddress | el5_NoAddress | ey_NoAddress | ek_NoAddress | es_NoAddress | eo_NoAddress | eh_NoAddress | ef_NoAddress_at | eu_NoAddress_NoAddress => first | k_is | kit_is | with_unfolding_all kernel_rfl | with_unfolding_all rfl)
  (case pg_Cursor | hd_Cursor | po_Cursor | sa_Cursor | mk_Cursor | kc_Cursor | nf_Cursor_text | nf_Cursor_place => k_is)
  (case kk | cc => first | k_is | with_unfolding_all kernel_rfl | with_unfolding_all rfl)
