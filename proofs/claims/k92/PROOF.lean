import PyProof.Rows.All
import Wide.All
import OpenK.AllK
import Wide.FinOn
import Lean
import PyProof.EqAt
import PyProof.EqKinds
import PyProof.TupleCall
import PySem.Challenge.RW_waymark_k92_whole_relative_comes_back
set_option Elab.async false
set_option linter.all false
set_option maxRecDepth 100000
namespace L2
open PySem PySem.Spec PyProof.Rows
abbrev Key := Sum Int Str
def keyIs : Key → Value → Bool
  | .inl k, v => Value.isInt k v
  | .inr x, v => Value.isStrOf x v
def keyH (w : World) : Key → Int
  | .inl k => hashInt k
  | .inr x => hashStr w x
theorem bqV : ∀ {k : Key} {v : Value}, keyIs k v = true → (∃ i t, k = Sum.inl i ∧ v = Value.int i t) ∨ (∃ x t, k = Sum.inr x ∧ v = Value.str x t)
  | .inl i, v, h => by
    obtain ⟨t, e⟩ := Value.isInt_shape (k := i) (v := v) h
    exact .inl ⟨i, t, rfl, e⟩
  | .inr x, v, h => by
    obtain ⟨t, e⟩ := Value.isStrOf_shape (x := x) (v := v) h
    exact .inr ⟨x, t, rfl, e⟩
theorem xqf (a b : Int) : decide ((Sum.inl a : Key) = Sum.inl b) = (a == b) := by
  by_cases e : a = b
  · subst e; simp
  · have h : ¬ (Sum.inl a : Key) = Sum.inl b := fun q => e (Sum.inl.inj q)
    rw [decide_eq_false h]
    exact (beq_eq_false_iff_ne.mpr e).symm
theorem wqY (a b : Str) : decide ((Sum.inr a : Key) = Sum.inr b) = decide (a = b) := by
  by_cases e : a = b
  · subst e; simp
  · have h : ¬ (Sum.inr a : Key) = Sum.inr b := fun q => e (Sum.inr.inj q)
    rw [decide_eq_false h, decide_eq_false e]
theorem xqK (a : Int) (b : Str) : decide ((Sum.inl a : Key) = Sum.inr b) = false := decide_eq_false (fun q => nomatch q)
theorem xqw (a : Str) (b : Int) : decide ((Sum.inr a : Key) = Sum.inl b) = false := decide_eq_false (fun q => nomatch q)
def mixKind (prog : Program) (w : World) : PySem.KeyKind prog w Key where
  is := keyIs
  hash := keyH w
  inj := fun v a b ha hb => by
    rcases bqV ha with ⟨i, t, rfl, rfl⟩ | ⟨x, t, rfl, rfl⟩
    · rcases bqV hb with ⟨j, u, rfl, e⟩ | ⟨y, u, rfl, e⟩
      · injection e with e1 _; rw [e1]
      · exact nomatch e
    · rcases bqV hb with ⟨j, u, rfl, e⟩ | ⟨y, u, rfl, e⟩
      · exact nomatch e
      · injection e with e1 _; rw [e1]
  byValue := fun k v h => by
    rcases bqV h with ⟨i, t, rfl, rfl⟩ | ⟨x, t, rfl, rfl⟩ <;> rfl
  pyHash := fun hv h => by
    rcases bqV hv with ⟨i, t, rfl, rfl⟩ | ⟨x, t, rfl, rfl⟩
    · exact wpAny_pyHash_int h
    · exact wpAny_pyHash_str h
  eqBool := fun hu hv h => by
    rcases bqV hu with ⟨i, t, rfl, rfl⟩ | ⟨x, t, rfl, rfl⟩
    · rcases bqV hv with ⟨j, u, rfl, rfl⟩ | ⟨y, u, rfl, rfl⟩
      · rw [xqf] at h; exact wpAny_eqBool_int h
      · rw [xqK] at h; exact SeqAt.EqAt.int_str i t y u _ _ _ _ h
    · rcases bqV hv with ⟨j, u, rfl, rfl⟩ | ⟨y, u, rfl, rfl⟩
      · rw [xqw] at h; exact SeqAt.EqAt.str_int x t j u _ _ _ _ h
      · rw [wqY] at h; exact wpAny_eqBool_str h
  «strs» := fun k x t v h => by
    rcases bqV h with ⟨i, u, rfl, e⟩ | ⟨y, u, rfl, e⟩
    · exact nomatch e
    · injection e with e1 _
      subst e1
      cases v <;> rfl
end L2
namespace L2
open PySem PySem.Spec PyProof.Rows
inductive V where
  | non | bl (b : Bool) | int (i : Int) | str (x : Str) | byt (b : Array UInt8) | flt (b : UInt64) | ref (a : Addr) | ty (n : String)
  deriving DecidableEq
def RelV : V → Value → Prop
  | .non, u => u = Value.none
  | .bl b, u => u = Value.bool b
  | .int i, u => ∃ t, u = Value.int i t
  | .str x, u => ∃ t, u = Value.str x t
  | .byt b, u => ∃ t, u = Value.bytes b t
  | .flt b, u => ∃ t, u = Value.float b t
  | .ref a, u => u = Value.ref a
  | .ty n, u => u = Value.type n
abbrev Vals : List V → List Value → Prop := Paired RelV
theorem Vals.length {xs : List V} {us : List Value} (r : Vals xs us) : xs.length = us.length := Paired.length r
theorem Vals.get : ∀ {xs : List V} {us : List Value} {i : Nat} {x : V}, Vals xs us → xs[i]? = some x → ∃ u, us[i]? = some u ∧ RelV x u
  | _, _, _, _, .nil, e => by simp at e
  | _, _, 0, _, .cons r _, e => by simp at e; subst e; exact ⟨_, rfl, r⟩
  | _, _, i + 1, x, .cons _ t, e => by
    obtain ⟨u, h1, h2⟩ := Vals.get (i := i) (x := x) t (by simpa using e)
    exact ⟨u, by simpa using h1, h2⟩
theorem Vals.append : ∀ {xs ys : List V} {us ws : List Value}, Vals xs us → Vals ys ws → Vals (xs ++ ys) (us ++ ws)
  | _, _, _, _, .nil, s => s
  | _, _, _, _, .cons r t, s => .cons r (Vals.append t s)
theorem Vals.take : ∀ {xs : List V} {us : List Value} (n : Nat), Vals xs us → Vals (xs.take n) (us.take n)
  | _, _, 0, _ => .nil
  | _, _, _ + 1, .nil => .nil
  | _, _, n + 1, .cons r t => .cons r (Vals.take n t)
theorem Vals.drop : ∀ {xs : List V} {us : List Value} (n : Nat), Vals xs us → Vals (xs.drop n) (us.drop n)
  | _, _, 0, r => r
  | _, _, _ + 1, .nil => .nil
  | _, _, n + 1, .cons _ t => Vals.drop n t
def RelO : Option V → Option Value → Prop
  | some v, some u => RelV v u
  | none, none => True
  | _, _ => False
def KV {κ : Type} : List (κ × V) → List (κ × Value) → Prop := Paired fun (p : κ × V) (q : κ × Value) => p.1 = q.1 ∧ RelV p.2 q.2
def kV : Key → V
  | .inl i => .int i
  | .inr x => .str x
inductive HO where
  | lst (xs : List V)
  | tup (xs : List V)
  | dK (kvs : List (Key × V)) | dT (kvs : List (List Key × V))
  | set (S : Int → Bool) (n : Nat)
  | ins (C dx : Addr) (fs : List (Str × V))
  | own (x : Addr)
  | xd (fs : List (Str × V))
  | met (f x : Addr)
  | rng (lo hi : Int)
  | frz (o : Obj) (u : HO)
  | tbl (ps : Array Value)
  | ext (φ : Heap → Prop)
abbrev Hp := Addr → Option HO
def upd (H : Hp) (a : Addr) (o : HO) : Hp := fun b => if b = a then some o else H b
theorem aqr {H : Hp} {a : Addr} {o : HO} : upd H a o a = some o := by unfold upd; rw [if_pos rfl]
theorem aqI {H : Hp} {a b : Addr} {o : HO} (h : b ≠ a) : upd H a o b = H b := by unfold upd; rw [if_neg h]
theorem vqH {H : Hp} {a : Addr} {o u : HO} : upd (upd H a o) a u = upd H a u := by
  funext b; unfold upd; split <;> rfl
theorem vqg {H : Hp} {a b : Addr} {o u : HO} (h : H a = some o) (h' : H b = some u) (d : o ≠ u) : a ≠ b := by
  intro e; subst e; rw [h] at h'; exact d (Option.some.inj h')
theorem aqz {H : Hp} {a b : Addr} {o : HO} (h : H a = some o) (h' : H b = none) : a ≠ b := by
  intro e; subst e; rw [h] at h'; cases h'
section
variable (P : Program) (w : World)
def ObjOk (H : Hp) (h : Heap) (a : Addr) : HO → Prop
  | .lst xs => xs.length ≤ sizeLine ∧ ∃ (its : List Value) (n : Nat), Vals xs its ∧ h.get? a = some { cls := .type "list", data := .seq its.toArray n }
  | .tup xs => xs.length ≤ sizeLine ∧ ∃ its : List Value, Vals xs its ∧ IsTup h a its.toArray
  | .dK kvs => kvs.length ≤ sizeLine ∧ (a == sysModules) = false ∧ ∃ vs, KV kvs vs ∧ h.DictOf (mixKind P w) a vs
  | .dT kvs => kvs.length ≤ sizeLine ∧ (a == sysModules) = false ∧ ∃ xs : List (List Key × Addr × Value),
      Paired (fun (p : List Key × V) (q : List Key × Addr × Value) => p.1 = q.1 ∧ H q.2.1 = some (.tup (p.1.map kV)) ∧ RelV p.2 q.2.2) kvs xs ∧
      ∃ o es ep, h.get? a = some o ∧ o.ExactDict ∧ o.data = .dict es ep ∧ es.toList = xs.map (entryOfKey (tupleKind (mixKind P w))) ∧ (xs.map (·.1)).Nodup
  | .set S n => h.SetOf (intKind P w) a S n
  | .ins C dx fs => H dx = some (.own a) ∧ fs.length ≤ 1000 ∧ dx ≠ a ∧ h.get? a = some (PySem.W.instObj C dx) ∧
      ∃ mA, h.Ns1 dx mA ∧ (∀ f, RelO (fs.lookup f) (mA f)) ∧ PySem.Within mA (fs.map (·.1))
  | .own _ => ∃ o, h.get? a = some o
  | .xd fs => ∃ mA, h.Ns1 a mA ∧ ∀ f, RelO (fs.lookup f) (mA f)
  | .rng lo hi => ∃ t u v, h.get? a = some { cls := .type "range", data := .fields #[.int lo t, .int hi u, .int 1 v] }
  | .frz o u => h.get? a = some o ∧ ObjOk H h a u
  | .tbl ps => h.get? a = some { cls := .none, data := .fields ps }
  | .met f x => h.get? a = some (PySem.W.methodObj (.ref f) (.ref x))
  | .ext φ => φ h ∧ (∃ o, h.get? a = some o) ∧ ∀ h1 h2 : Heap, φ h1 → (∀ o, h1.get? a = some o → h2.get? a = some o) → φ h2
def HOk (H : Hp) (h : Heap) : Prop := ∀ a o, H a = some o → ObjOk P w H h a o
end
section
variable {P : Program} {w : World} {H H' : Hp} {h h' : Heap} {a : Addr} {o : HO}
theorem ObjOk.lt (x : ObjOk P w H h a o) : a < h.objs.size := by
  cases o with
  | lst xs => obtain ⟨_, _, _, _, e⟩ := x; exact Heap.lt_size e
  | tup xs => obtain ⟨_, _, _, p⟩ := x; exact p.lt
  | dK kvs => obtain ⟨_, _, _, _, o, _, _, e, _⟩ := x; exact Heap.lt_size e
  | dT kvs => obtain ⟨_, _, _, _, o, _, _, e, _⟩ := x; exact Heap.lt_size e
  | set S n => obtain ⟨o, _, _, _, e, _⟩ := x; exact Heap.lt_size e
  | ins C dx fs => obtain ⟨_, _, _, e, _⟩ := x; exact Heap.lt_size e
  | own y => obtain ⟨_, e⟩ := x; exact Heap.lt_size e
  | xd fs => obtain ⟨_, ⟨_, _, _, e, _⟩, _⟩ := x; exact Heap.lt_size e
  | rng lo hi => obtain ⟨_, _, _, e⟩ := x; exact Heap.lt_size e
  | frz ob u => obtain ⟨e, _⟩ := x; exact Heap.lt_size e
  | tbl ps => exact Heap.lt_size (show h.get? a = some _ from x)
  | met f y => exact Heap.lt_size (show h.get? a = some _ from x)
  | ext φ => obtain ⟨_, ⟨_, e⟩, _⟩ := x; exact Heap.lt_size e
theorem Paired.mapP {α β : Type} {F G : α → β → Prop} : ∀ {l₁ : List α} {l₂ : List β}, Paired F l₁ l₂ → (∀ a b, F a b → G a b) → Paired G l₁ l₂
  | _, _, .nil, _ => .nil
  | _, _, .cons r t, f => .cons (f _ _ r) (Paired.mapP t f)
theorem ObjOk.stay (x : ObjOk P w H h a o) (k : ∀ b u, (b = a ∨ H b = some (.own a)) → h.get? b = some u → h'.get? b = some u)
    (ho : ∀ b, H b = some (.own a) → H' b = some (.own a)) (ht : ∀ b xs, H b = some (.tup xs) → H' b = some (.tup xs)) : ObjOk P w H' h' a o := by
  induction o with
  | lst xs => obtain ⟨z, its, n, r, e⟩ := x; exact ⟨z, its, n, r, k _ _ (.inl rfl) e⟩
  | tup xs => obtain ⟨z, its, r, ob, e, c⟩ := x; exact ⟨z, its, r, ob, k _ _ (.inl rfl) e, c⟩
  | dK kvs => obtain ⟨z, y, vs, r, ob, es, ep, e, c⟩ := x; exact ⟨z, y, vs, r, ob, es, ep, k _ _ (.inl rfl) e, c⟩
  | dT kvs =>
    obtain ⟨z, y, xs, r, ob, es, ep, e, c⟩ := x
    exact ⟨z, y, xs, Paired.mapP r fun p q z => ⟨z.1, ht _ _ z.2.1, z.2.2⟩, ob, es, ep, k _ _ (.inl rfl) e, c⟩
  | set S n => obtain ⟨ob, es, ep, t, e, c⟩ := x; exact ⟨ob, es, ep, t, k _ _ (.inl rfl) e, c⟩
  | ins C dx fs =>
    obtain ⟨d, z, ne, e, mA, ⟨od, es, ep, e2, c⟩, r⟩ := x
    exact ⟨ho _ d, z, ne, k _ _ (.inl rfl) e, mA, ⟨od, es, ep, k _ _ (.inr d) e2, c⟩, r⟩
  | own y => obtain ⟨ob, e⟩ := x; exact ⟨ob, k _ _ (.inl rfl) e⟩
  | xd fs => obtain ⟨mA, ⟨od, es, ep, e, c⟩, r⟩ := x; exact ⟨mA, ⟨od, es, ep, k _ _ (.inl rfl) e, c⟩, r⟩
  | rng lo hi => obtain ⟨t, u, v, e⟩ := x; exact ⟨t, u, v, k _ _ (.inl rfl) e⟩
  | frz ob u ih => obtain ⟨e, q⟩ := x; exact ⟨k _ _ (.inl rfl) e, ih q⟩
  | tbl ps =>
    have e : h.get? a = some { cls := .none, data := .fields ps } := x
    show h'.get? a = some { cls := .none, data := .fields ps }
    exact k a _ (.inl rfl) e
  | met f y =>
    have e : h.get? a = some (PySem.W.methodObj (.ref f) (.ref y)) := x
    show h'.get? a = some (PySem.W.methodObj (.ref f) (.ref y))
    exact k a _ (.inl rfl) e
  | ext φ => obtain ⟨p, ⟨o, e⟩, st⟩ := x; exact ⟨st _ _ p fun o q => k _ _ (.inl rfl) q, ⟨o, k _ _ (.inl rfl) e⟩, st⟩
theorem HOk.lt (x : HOk P w H h) (e : H a = some o) : a < h.objs.size := (x a o e).lt
theorem HOk.fresh (x : HOk P w H h) (e : h.objs.size ≤ a) : H a = none := by
  cases q : H a with
  | none => rfl
  | some u => exact absurd (Nat.lt_of_lt_of_le (x.lt q) e) (Nat.lt_irrefl _)
theorem HOk.kept (x : HOk P w H h) (k : ∀ b u, h.get? b = some u → h'.get? b = some u) : HOk P w H h' := fun a o e =>
  (x a o e).stay (fun b u _ q => k b u q) (fun _ q => q) fun _ _ q => q
theorem HOk.laid (x : HOk P w H h) (k : ∀ b u, h.get? b = some u → h'.get? b = some u) (hp : h.objs.size ≤ a) (new : ObjOk P w (upd H a o) h' a o) : HOk P w (upd H a o) h' := fun b u e => by
  have hn := x.fresh hp
  by_cases hb : b = a
  · subst hb; rw [aqr] at e; cases e; exact new
  · rw [aqI hb] at e
    exact (x b u e).stay (fun c v _ q => k c v q) (fun c q => by rw [aqI (aqz q hn)]; exact q) fun c xs q => by rw [aqI (aqz q hn)]; exact q
end
def Rd (H : Hp) (a : Addr) (u : HO) : Prop := H a = some u ∨ ∃ o, H a = some (.frz o u)
theorem Rd.ok {P : Program} {w : World} {H : Hp} {h : Heap} {a : Addr} {u : HO} (r : Rd H a u) (x : HOk P w H h) : ObjOk P w H h a u := by
  rcases r with r | ⟨o, r⟩
  · exact x a u r
  · obtain ⟨_, q⟩ := x a _ r
    exact q
def Mut : Option HO → Prop
  | some (.lst _) => True
  | some (.dK _) => True
  | some (.dT _) => True
  | some (.set _ _) => True
  | some (.ins _ _ _) => True
  | some (.ext _) => True
  | _ => False
section
variable {P : Program} {w : World} {H : Hp} {h h' : Heap} {x e : Addr} {o' : HO}
theorem HOk.write (ok : HOk P w H h) (mu : Mut (H x)) (he : e = x ∨ H e = some (.own x)) (k : ∀ b u, b ≠ e → h.get? b = some u → h'.get? b = some u) (heo : ∃ u, h'.get? e = some u)
    (new : ObjOk P w (upd H x o') h' x o') : HOk P w (upd H x o') h' := fun b u q => by
  have nown : ∀ c y, H c = some (.own y) → c ≠ x := fun c y r z => by subst z; rw [r] at mu; exact mu
  have ntup : ∀ c xs, H c = some (.tup xs) → c ≠ x := fun c xs r z => by subst z; rw [r] at mu; exact mu
  by_cases hb : b = x
  · subst hb; rw [aqr] at q; cases q; exact new
  · rw [aqI hb] at q
    by_cases hbe : b = e
    · have q' : H b = some (.own x) := by
        rcases he with z | z
        · exact absurd (hbe.trans z) hb
        · rw [hbe]; exact z
      rw [q] at q'; cases q'
      obtain ⟨v, hv⟩ := heo
      exact ⟨v, by rw [hbe]; exact hv⟩
    · refine (ok b u q).stay (fun c v hc r => k c v ?_ r) (fun c r => by rw [aqI (nown c b r)]; exact r) fun c xs r => by rw [aqI (ntup c xs r)]; exact r
      rcases hc with rfl | hc
      · exact hbe
      · rintro rfl
        rcases he with z | z
        · exact nown c b hc z
        · rw [hc] at z; cases z; exact hb rfl
end
structure Un (fs ex : List Addr) (H H' : Hp) (h h' : Heap) : Prop where
  keep : ∀ b o, h.get? b = some o → H b = none → b ∉ fs → b ∉ ex → h'.get? b = some o
  slot : ∀ b o, h.get? b = some o → H b = none → b ∈ fs → b ∉ ex → ∃ sl, h'.get? b = some { o with slots := sl }
  free : ∀ b o, h.get? b = some o → H b = none → b ∉ ex → H' b = none
  there : ∀ b o, h.get? b = some o → b ∉ ex → ∃ o', h'.get? b = some o'
  tups : ∀ b xs, H b = some (.tup xs) → H' b = some (.tup xs)
  frzs : ∀ b o u, H b = some (.frz o u) → H' b = some (.frz o u)
  tbls : ∀ b ps, H b = some (.tbl ps) → ∃ more, H' b = some (.tbl (ps ++ more))
section
variable {fs fs' ex ex' : List Addr} {H H1 H2 : Hp} {h h1 h2 h' : Heap} {a x e : Addr} {o : HO}
theorem Un.any (u : Un fs ex H H1 h h1) {b : Addr} {ob : Obj} (q : h.get? b = some ob) (n : H b = none) (hx : b ∉ ex) : ∃ sl, h1.get? b = some { ob with slots := sl } := by
  by_cases hb : b ∈ fs
  · exact u.slot b ob q n hb hx
  · exact ⟨ob.slots, u.keep b ob q n hb hx⟩
theorem Un.kept (k : ∀ b u, h.get? b = some u → h'.get? b = some u) : Un fs ex H H h h' :=
  ⟨fun b ob q _ _ _ => k b ob q, fun b ob q _ _ _ => ⟨ob.slots, k b ob q⟩, fun _ _ _ n _ => n, fun b ob q _ => ⟨ob, k b ob q⟩, fun _ _ q => q, fun _ _ _ q => q, fun _ ps q => ⟨#[], by rw [q]; simp⟩⟩
theorem Un.refl : Un fs ex H H h h := Un.kept fun _ _ q => q
theorem Un.laid (k : ∀ b u, h.get? b = some u → h'.get? b = some u) (hp : h.objs.size ≤ a) (hn : H a = none) : Un fs ex H (upd H a o) h h' where
  keep := fun b u q _ _ _ => k b u q
  slot := fun b u q _ _ _ => ⟨u.slots, k b u q⟩
  free := fun b u q n _ => by rw [aqI (Nat.ne_of_lt (Nat.lt_of_lt_of_le (Heap.lt_size q) hp))]; exact n
  there := fun b u q _ => ⟨u, k b u q⟩
  tups := fun b xs q => by rw [aqI (aqz q hn)]; exact q
  frzs := fun b u xs q => by rw [aqI (aqz q hn)]; exact q
  tbls := fun b ps q => ⟨#[], by rw [aqI (aqz q hn), q]; simp⟩
theorem Un.write (mu : Mut (H x)) (he : e = x ∨ H e = some (.own x)) (k : ∀ b u, b ≠ e → h.get? b = some u → h'.get? b = some u) (heo : ∃ u, h'.get? e = some u) : Un fs ex H (upd H x o) h h' := by
  have hx : ∀ b, H b = none → b ≠ x := fun b n z => by subst z; rw [n] at mu; exact mu
  have hb : ∀ b, H b = none → b ≠ e := fun b n z => by
    subst z
    rcases he with r | r
    · exact hx b n r
    · rw [n] at r; cases r
  have hm : ∀ b u, H b = some u → ¬ Mut (some u) → b ≠ x := fun b u q nm z => by subst z; rw [q] at mu; exact nm mu
  refine ⟨fun b u q n _ _ => k b u (hb b n) q, fun b u q n _ _ => ⟨u.slots, k b u (hb b n) q⟩, fun b u q n _ => by rw [aqI (hx b n)]; exact n, fun b u q _ => ?_,
    fun b xs q => by rw [aqI (hm b _ q fun z => z)]; exact q, fun b u xs q => by rw [aqI (hm b _ q fun z => z)]; exact q, fun b ps q => ⟨#[], by rw [aqI (hm b _ q fun z => z), q]; simp⟩⟩
  by_cases hbe : b = e
  · subst hbe; exact heo
  · exact ⟨u, k b u hbe q⟩
end
def trk (h : Heap) (H : Hp) : List Addr := (List.range h.objs.size).filter fun a => (H a).isSome
def hidT (h : Heap) (H : Hp) : Heap := PySem.W.hideAll h (trk h H)
theorem sqX (h : Heap) (H : Hp) : (hidT h H).objs.size = h.objs.size := PySem.W.hideAll_size _ _
theorem uqt {h : Heap} {H : Hp} {b : Addr} {o : Obj} (e : h.get? b = some o) (n : H b = none) : (hidT h H).get? b = some o :=
  PySem.W.hideAll_get _ e fun hm => by
    have q : (H b).isSome = true := (List.mem_filter.mp hm).2
    rw [n] at q; simp at q
theorem vqx {h : Heap} {H : Hp} {b : Addr} {o : Obj} (e : (hidT h H).get? b = some o) : h.get? b = some o ∧ H b = none := by
  have e' : h.get? b = some o := PySem.W.of_hideAll (trk h H) e
  refine ⟨e', ?_⟩
  cases q : H b with
  | none => rfl
  | some x =>
    have hm : b ∈ trk h H := List.mem_filter.mpr ⟨List.mem_range.mpr (Heap.lt_size e'), by simp [q]⟩
    have z : (hidT h H).get? b = none := PySem.W.hideAll_none (trk h H) hm
    rw [z] at e; cases e
def allNews (g h : Heap) (L : Addr) : List (Addr × Obj) := (List.range h.objs.size).filterMap fun a => if a = L ∨ (g.get? a).isSome = true then none else (h.get? a).map fun o => (a, o)
def rest (g h : Heap) (L d : Addr) : List (Addr × Obj) := (allNews g h L).filter fun p => decide (p.1 ≠ d)
end L2
namespace L2
open PySem PySem.Spec PyProof.Rows
structure Mod (K : PySem.W.Frag) (mg : Str → Option Value) (base : Heap) : Prop where
  kin : K.In base
  glob : base.Ns mainGlobals mg
  blt : ∃ mb, base.Ns builtinsNs mb ∧ ∀ x : Str, x ≠ "__name__" → mb x = bootBuiltins x
  nolimit : base.NoLimit
structure Cx where
  prog : Program
  w : World
  K : PySem.W.Frag
  mg : Str → Option Value
  base : Heap
  A : Around
  N : List Str
  s₀ : Shared
  H₀ : Hp
  env : Env
  outer : List Env
  stack : List Env
  ex : List Addr
  fn : Str → Bool
  calm : Bool
  pn : List (Addr × Obj)
  xe : Value → Shared → Prop
def frs (l : List Env) : List Addr := l.filterMap (·.frame)
abbrev Cx.fs (X : Cx) : List Addr := frs X.outer
def Vis (sc : Scope) (x : Str) : Prop := sc.names.lookup x = some .local ∨ sc.names.lookup x = some .cell ∨ sc.names.lookup x = some .free
def Loc (sc : Scope) (x : Str) : Prop := sc.names.lookup x = some .local ∨ sc.names.lookup x = some .cell
def Look (env : Env) (h : Heap) (m : Str → Option Value) (x : Str) (u : Value) : Prop :=
  (env.kindOf x = some .local ∧ m x = some u) ∨ ((env.kindOf x = some .cell ∨ env.kindOf x = some .free) ∧ ∃ c, env.cells.lookup x = some c ∧ h.IsCell c (some u))
structure Cx.Ok (X : Cx) : Prop where
  mod : Mod X.K X.mg X.base
  kind : X.env.scope.kind = .function
  glob : X.env.globals = mainGlobals
  blt : X.env.builtins = builtinsNs
  above : X.s₀.heap.objs.size ≤ X.env.locals
  inj : ∀ x y c, X.env.cells.lookup x = some c → X.env.cells.lookup y = some c → x = y
  has : ∀ x, (X.env.kindOf x = some .cell ∨ X.env.kindOf x = some .free) → ∃ c, X.env.cells.lookup x = some c
  cab : ∀ x c, X.fn x = true → X.env.cells.lookup x = some c → X.s₀.heap.objs.size ≤ c
  hd : X.calm = true → X.A.handled = none
  frames : X.A.frames = some X.stack
  stk : X.stack = X.outer ∨ (X.stack = X.env :: X.outer ∧ X.env.frame = some X.env.locals)
  exf : ∀ b ∈ X.ex, b ≠ X.env.locals ∧ ∀ x c, X.env.cells.lookup x = some c → c ≠ b
  bs : ∀ b o, X.base.get? b = some o → X.s₀.heap.get? b = some o ∧ X.H₀ b = none
  bsz : X.base.objs.size ≤ X.s₀.heap.objs.size
  noex : ∀ b o, X.base.get? b = some o → b ∉ X.ex
  exfs : ∀ b ∈ X.ex, b ∉ X.fs
  funs : X.s₀.heap.FunFrames X.base X.outer
  frf : ∀ b ∈ X.fs, X.H₀ b = none
structure Inv (X : Cx) (pins : List (Addr × Obj)) (σ : List (Option V)) (H : Hp) (s : Shared) : Prop where
  ok : X.Ok
  os : s.os = X.s₀.os
  bare : AllBare s.gens
  base : Un X.fs X.ex X.H₀ H X.s₀.heap s.heap
  loc : ∃ m, s.heap.Ns X.env.locals m ∧ ∀ (i : Nat) (x : Str) (v : V), X.N[i]? = some x → σ[i]? = some (some v) → Vis X.env.scope x → ∃ u, RelV v u ∧ Look X.env s.heap m x u
  cell : ∀ x c, X.env.cells.lookup x = some c → ∃ v, s.heap.IsCell c v
  free : H X.env.locals = none
  freeC : ∀ x c, X.env.cells.lookup x = some c → H c = none
  pin : ∀ p ∈ X.pn ++ pins, s.heap.get? p.1 = some p.2 ∧ H p.1 = none ∧ p.1 ≠ X.env.locals ∧ p.1 ∉ X.fs ∧ ∀ v, p.2.data ≠ .cell v
  hok : HOk X.prog X.w H s.heap
  len : σ.length = X.N.length
section
variable {X : Cx} {pins : List (Addr × Obj)} {σ : List (Option V)} {H H' : Hp} {s : Shared} {h' : Heap}
theorem Cx.Ok.nofr (ok : X.Ok) {b : Addr} {o : Obj} (e : X.base.get? b = some o) : b ∉ X.fs := fun hb => by
  have := (ok.funs.mem hb).1
  rw [e] at this; cases this
theorem Inv.bs (I : Inv X pins σ H s) : ∀ b o, X.base.get? b = some o → s.heap.get? b = some o ∧ H b = none := fun b o e =>
  ⟨I.base.keep b o (I.ok.bs b o e).1 (I.ok.bs b o e).2 (I.ok.nofr e) (I.ok.noex b o e), I.base.free b o (I.ok.bs b o e).1 (I.ok.bs b o e).2 (I.ok.noex b o e)⟩
theorem Inv.bk (I : Inv X pins σ H s) : ∀ b o, X.base.get? b = some o → s.heap.get? b = some o := fun b o e => (I.bs b o e).1
theorem Inv.mod (I : Inv X pins σ H s) : Mod X.K X.mg X.base := I.ok.mod
theorem Inv.kIn (I : Inv X pins σ H s) : X.K.In s.heap := I.ok.mod.kin.keeps I.bk
theorem Inv.lt (I : Inv X pins σ H s) : X.env.locals < s.heap.objs.size := let ⟨_, hn, _⟩ := I.loc; hn.lt
theorem Inv.sz (I : Inv X pins σ H s) : X.s₀.heap.objs.size ≤ s.heap.objs.size := Nat.le_trans I.ok.above (Nat.le_of_lt I.lt)
theorem Inv.nofs (I : Inv X pins σ H s) {a : Addr} (h : s.heap.objs.size ≤ a) : a ∉ X.fs := fun hb => by
  obtain ⟨_, o, ho, _⟩ := I.ok.funs.mem hb
  exact absurd (Nat.lt_of_lt_of_le (Heap.lt_size ho) (Nat.le_trans I.sz h)) (Nat.lt_irrefl _)
theorem Inv.cne (I : Inv X pins σ H s) : ∀ x c, X.env.cells.lookup x = some c → c ≠ X.env.locals := fun x c e z => by
  obtain ⟨v, o, ho, hd⟩ := I.cell x c e
  obtain ⟨m, ⟨o', es, ep, ho', hd', _⟩, _⟩ := I.loc
  rw [z, ho'] at ho; cases ho; rw [hd'] at hd; cases hd
theorem Inv.funs (I : Inv X pins σ H s) : s.heap.FunFrames X.base X.outer := by
  have all : ∀ (l : List Env), (∀ b ∈ frs l, b ∈ X.fs) → X.s₀.heap.FunFrames X.base l → s.heap.FunFrames X.base l := by
    intro l
    induction l with
    | nil => intro _ _; trivial
    | cons env r ih =>
      intro hs hl
      obtain ⟨hk, ⟨L, o, hf, hn, ho, hd⟩, hr⟩ := hl
      have hL : L ∈ X.fs := hs L (by unfold frs; rw [List.filterMap_cons, hf]; exact List.mem_cons_self)
      obtain ⟨sl, e⟩ := I.base.slot L o ho (I.ok.frf L hL) hL fun z => I.ok.exfs L z hL
      exact ⟨hk, ⟨L, _, hf, hn, e, hd⟩, ih (fun b hb => hs b (by unfold frs; rw [List.filterMap_cons, hf]; exact List.mem_cons_of_mem _ hb)) hr⟩
  exact all X.outer (fun _ hb => hb) I.ok.funs
theorem Inv.stack (I : Inv X pins σ H s) : s.heap.FunFrames X.base X.stack := by
  rcases I.ok.stk with e | ⟨e, hf⟩
  · rw [e]; exact I.funs
  · rw [e]
    obtain ⟨m, hn, _⟩ := I.loc
    refine .cons (by rw [I.ok.kind]; decide) hf hn ?_ I.funs
    exact Heap.get?_none_of_le (Nat.le_trans I.ok.bsz I.ok.above)
theorem Inv.stkSub (I : Inv X pins σ H s) : ∀ b ∈ frs X.stack, b ∈ X.env.locals :: X.fs := fun b hb => by
  rcases I.ok.stk with e | ⟨e, hf⟩
  · rw [e] at hb; exact List.mem_cons_of_mem _ hb
  · rw [e] at hb
    unfold frs at hb
    rw [List.filterMap_cons, hf] at hb
    exact hb
theorem Inv.stkFree (I : Inv X pins σ H s) : ∀ b ∈ frs X.stack, H b = none := fun b hb => by
  rcases List.mem_cons.mp (I.stkSub b hb) with e | hb
  · rw [e]; exact I.free
  · obtain ⟨_, o, ho, _⟩ := I.ok.funs.mem hb
    exact I.base.free b o ho (I.ok.frf b hb) fun z => I.ok.exfs b z hb
theorem Inv.step {g' : Array GenState} {t' : Nat} {d' : Drawn} {ch : List Addr} (I : Inv X pins σ H s)
    (hch : ∀ b ∈ ch, (b ∈ X.ex ∨ X.s₀.heap.objs.size ≤ b) ∧ b ≠ X.env.locals ∧ (∀ x c, X.env.cells.lookup x = some c → c ≠ b) ∧ ∀ p ∈ X.pn ++ pins, p.1 ≠ b)
    (keep : ∀ b o, b ≠ X.env.locals → b ∉ X.fs → b ∉ ch → s.heap.get? b = some o → H b = none → h'.get? b = some o)
    (slot : ∀ b o, b ≠ X.env.locals → b ∈ X.fs → b ∉ ch → s.heap.get? b = some o → H b = none → ∃ sl, h'.get? b = some { o with slots := sl }) (free : ∀ b o, b ∉ ch → s.heap.get? b = some o → H b = none → H' b = none)
    (there : ∀ b o, b ∉ ch → s.heap.get? b = some o → ∃ o', h'.get? b = some o')
    (tups : ∀ b xs, H b = some (.tup xs) → H' b = some (.tup xs)) (frzs : ∀ b o u, H b = some (.frz o u) → H' b = some (.frz o u)) (tbls : ∀ b ps, H b = some (.tbl ps) → ∃ more, H' b = some (.tbl (ps ++ more)))
    (ns : ∀ m, s.heap.Ns X.env.locals m → h'.Ns X.env.locals m) (hok : HOk X.prog X.w H' h') (hg : AllBare g') :
    Inv X pins σ H' { s with heap := h', gens := g', drawn := d', toks := t' } := by
  have neL : ∀ b o, X.s₀.heap.get? b = some o → b ≠ X.env.locals := fun b o e => Nat.ne_of_lt (Nat.lt_of_lt_of_le (Heap.lt_size e) I.ok.above)
  have neC : ∀ b o, X.s₀.heap.get? b = some o → b ∉ X.ex → b ∉ ch := fun b o e hx hb => by
    rcases (hch b hb).1 with z | z
    · exact hx z
    · exact absurd (Nat.lt_of_lt_of_le (Heap.lt_size e) z) (Nat.lt_irrefl _)
  have cellK : ∀ x c, X.env.cells.lookup x = some c → ∀ v, s.heap.IsCell c v → h'.IsCell c v := fun x c e v ⟨o, ho, hd⟩ => by
    have nch : c ∉ ch := fun z => (hch c z).2.2.1 x c e rfl
    by_cases hc : c ∈ X.fs
    · obtain ⟨sl, q⟩ := slot c o (I.cne x c e) hc nch ho (I.freeC x c e)
      exact ⟨_, q, hd⟩
    · exact ⟨o, keep c o (I.cne x c e) hc nch ho (I.freeC x c e), hd⟩
  refine ⟨I.ok, I.os, hg, ⟨fun b o e n hb hx => ?_, fun b o e n hb hx => ?_, fun b o e n hx => ?_, fun b o e hx => ?_, fun b xs e => tups b xs (I.base.tups b xs e), fun b o xs e => frzs b o xs (I.base.frzs b o xs e), fun b ps e => ?_⟩, ?_, fun x c e => ?_, ?_, fun x c e => ?_, fun p hp => ?_, hok, I.len⟩
  · exact keep b o (neL b o e) hb (neC b o e hx) (I.base.keep b o e n hb hx) (I.base.free b o e n hx)
  · obtain ⟨sl, e1⟩ := I.base.slot b o e n hb hx
    obtain ⟨sl', e2⟩ := slot b _ (neL b o e) hb (neC b o e hx) e1 (I.base.free b o e n hx)
    exact ⟨sl', e2⟩
  · obtain ⟨o', e1⟩ := I.base.there b o e hx
    exact free b o' (neC b o e hx) e1 (I.base.free b o e n hx)
  · obtain ⟨o', e1⟩ := I.base.there b o e hx
    exact there b o' (neC b o e hx) e1
  · obtain ⟨m1, e1⟩ := I.base.tbls b ps e
    obtain ⟨m2, e2⟩ := tbls b _ e1
    exact ⟨m1 ++ m2, by rw [e2, Array.append_assoc]⟩
  · obtain ⟨m, hn, hl⟩ := I.loc
    refine ⟨m, ns m hn, fun i x v e1 e2 e3 => ?_⟩
    obtain ⟨u, r, l⟩ := hl i x v e1 e2 e3
    refine ⟨u, r, ?_⟩
    rcases l with l | ⟨k, c, e, z⟩
    · exact .inl l
    · exact .inr ⟨k, c, e, cellK x c e _ z⟩
  · obtain ⟨v, z⟩ := I.cell x c e
    exact ⟨v, cellK x c e v z⟩
  · obtain ⟨m, ⟨o, _, _, ho, _⟩, _⟩ := I.loc
    exact free _ o (fun z => (hch _ z).2.1 rfl) ho I.free
  · obtain ⟨v, o, ho, hd⟩ := I.cell x c e
    exact free c o (fun z => (hch c z).2.2.1 x c e rfl) ho (I.freeC x c e)
  · obtain ⟨e, n, ne, nf, d⟩ := I.pin p hp
    have nch : p.1 ∉ ch := fun z => (hch p.1 z).2.2.2 p hp rfl
    exact ⟨keep p.1 p.2 ne nf nch e n, free p.1 p.2 nch e n, ne, nf, d⟩
theorem Inv.un {t' : Nat} (I : Inv X pins σ H s) (u : Un X.fs [] H H' s.heap h') (hok : HOk X.prog X.w H' h') : Inv X pins σ H' { s with heap := h', toks := t' } := by
  obtain ⟨m, ⟨o, es, ep, ho, r⟩, _⟩ := id I.loc
  obtain ⟨sl, hL⟩ := u.any ho I.free (by simp)
  exact I.step (g' := s.gens) (d' := s.drawn) (ch := []) (fun _ z => nomatch z) (fun b o _ hb _ e n => u.keep b o e n hb (by simp)) (fun b o _ hb _ e n => u.slot b o e n hb (by simp)) (fun b o _ e n => u.free b o e n (by simp)) (fun b o _ e => u.there b o e (by simp)) u.tups u.frzs u.tbls (fun m' hm => by
    obtain ⟨o', es', ep', ho', r'⟩ := hm
    rw [ho] at ho'; cases ho'
    exact ⟨_, es', ep', hL, r'⟩) hok I.bare
theorem Inv.call {g' : Array GenState} {t' : Nat} {d' : Drawn} {ch : List Addr} (I : Inv X pins σ H s) (u : Un (frs X.stack) ch H H' s.heap h') (hok : HOk X.prog X.w H' h') (hg : AllBare g')
    (hch : ∀ b ∈ ch, (b ∈ X.ex ∨ X.s₀.heap.objs.size ≤ b) ∧ b ≠ X.env.locals ∧ (∀ x c, X.env.cells.lookup x = some c → c ≠ b) ∧ ∀ p ∈ X.pn ++ pins, p.1 ≠ b) :
    Inv X pins σ H' { s with heap := h', gens := g', drawn := d', toks := t' } := by
  obtain ⟨m, ⟨o, es, ep, ho, r⟩, _⟩ := id I.loc
  obtain ⟨sl, hL⟩ := u.any ho I.free fun z => (hch _ z).2.1 rfl
  exact I.step (ch := ch) hch (fun b o hL hb hc e n => u.keep b o e n (fun z => (List.mem_cons.mp (I.stkSub b z)).elim hL hb) hc) (fun b o _ _ hc e n => u.any e n hc) (fun b o hc e n => u.free b o e n hc) (fun b o hc e => u.there b o e hc) u.tups u.frzs u.tbls (fun m' hm => by
    obtain ⟨o', es', ep', ho', r'⟩ := hm
    rw [ho] at ho'; cases ho'
    exact ⟨_, es', ep', hL, r'⟩) hok hg
theorem Inv.turned {t' : Nat} {it : Addr} (I : Inv X pins σ H s) (k : ∀ b o, b ≠ it → s.heap.get? b = some o → h'.get? b = some o) (hn : H it = none) (hL : it ≠ X.env.locals)
    (h1 : it ∈ X.ex ∨ X.s₀.heap.objs.size ≤ it) (h2 : ∀ x c, X.env.cells.lookup x = some c → c ≠ it) (h3 : ∀ p ∈ X.pn ++ pins, p.1 ≠ it) : Inv X pins σ H { s with heap := h', toks := t' } := by
  have nit : ∀ b u, H b = some u → b ≠ it := fun b u e z => by rw [z, hn] at e; cases e
  refine I.step (g' := s.gens) (d' := s.drawn) (ch := [it]) (fun b hb => ?_) (fun b o _ _ hc e _ => k b o (fun z => hc (by simp [z])) e) (fun b o _ _ hc e _ => ⟨o.slots, k b o (fun z => hc (by simp [z])) e⟩) (fun _ _ _ _ n => n)
    (fun b o hc e => ⟨o, k b o (fun z => hc (by simp [z])) e⟩) (fun _ _ e => e) (fun _ _ _ e => e) (fun b ps e => ⟨#[], by rw [e]; simp⟩) (fun m hm => ?_) (fun b u e => ?_) I.bare
  · have e : b = it := by simpa using hb
    subst e
    exact ⟨h1, hL, h2, h3⟩
  · obtain ⟨o, es, ep, ho, r⟩ := hm
    exact ⟨o, es, ep, k _ o (Ne.symm hL) ho, r⟩
  · refine (I.hok b u e).stay (fun c v hc q => k c v ?_ q) (fun _ q => q) fun _ _ q => q
    rcases hc with z | z
    · rw [z]; exact nit b u e
    · exact nit c _ z
theorem Inv.tok (I : Inv X pins σ H s) (t : Nat) : Inv X pins σ H { s with toks := t } := I.un (h' := s.heap) (t' := t) Un.refl I.hok
theorem Inv.kept {t' : Nat} (I : Inv X pins σ H s) (k : ∀ b u, s.heap.get? b = some u → h'.get? b = some u) : Inv X pins σ H { s with heap := h', toks := t' } := I.un (Un.kept k) (I.hok.kept k)
theorem Inv.laid {a : Addr} {o : HO} {t' : Nat} (I : Inv X pins σ H s) (k : ∀ b u, s.heap.get? b = some u → h'.get? b = some u) (hp : s.heap.objs.size ≤ a) (new : ObjOk X.prog X.w (upd H a o) h' a o) :
    Inv X pins σ (upd H a o) { s with heap := h', toks := t' } := I.un (Un.laid k hp (I.hok.fresh hp)) (I.hok.laid k hp new)
theorem Inv.write {x e : Addr} {o : HO} {t' : Nat} (I : Inv X pins σ H s) (mu : Mut (H x)) (he : e = x ∨ H e = some (.own x)) (k : ∀ b u, b ≠ e → s.heap.get? b = some u → h'.get? b = some u) (heo : ∃ u, h'.get? e = some u)
    (new : ObjOk X.prog X.w (upd H x o) h' x o) : Inv X pins σ (upd H x o) { s with heap := h', toks := t' } := I.un (Un.write mu he k heo) (I.hok.write mu he k heo new)
theorem Inv.pins_of {pins' : List (Addr × Obj)} (I : Inv X pins σ H s) (h : ∀ p ∈ pins', s.heap.get? p.1 = some p.2 ∧ H p.1 = none ∧ p.1 ≠ X.env.locals ∧ p.1 ∉ X.fs ∧ ∀ v, p.2.data ≠ .cell v) : Inv X pins' σ H s :=
  ⟨I.ok, I.os, I.bare, I.base, I.loc, I.cell, I.free, I.freeC, fun p hp => (List.mem_append.mp hp).elim (fun z => I.pin p (List.mem_append_left _ z)) (h p), I.hok, I.len⟩
theorem qqj {N : List Str} (hN : N.Nodup) {i j : Nat} {x : Str} (a : N[i]? = some x) (b : N[j]? = some x) : i = j := by
  obtain ⟨h1, e1⟩ := List.getElem?_eq_some_iff.mp a
  obtain ⟨h2, e2⟩ := List.getElem?_eq_some_iff.mp b
  exact (List.getElem_inj hN).mp (e1.trans e2.symm)
theorem sq1 {M : Model} {A : Around} {E : Value → Shared → Prop} {i : Nat} {x : Str} {v : V} {u : Value} {Q : Unit → Shared → Prop} (I : Inv X pins σ H s) (hN : X.N.Nodup) (hi : X.N[i]? = some x) (hx : Loc X.env.scope x) (r : RelV v u)
    (h : ∀ s', Inv X pins (σ.set i (some v)) H s' → (∃ a, Heap.SameBut a s.heap s'.heap ∧ (a = X.env.locals ∨ X.env.cells.lookup x = some a)) → Q () s') (hf : X.fn x = true ∨ X.env.scope.names.lookup x = some .local := by first | exact .inl rfl | exact .inr rfl | assumption) : wpAny M A (storeName X.env x u) Q E s := by
  obtain ⟨m, hn, hl⟩ := id I.loc
  have hcls : (X.env.scope.kind == .class || (X.env.scope.kind == .module && X.env.locals != X.env.globals)) = false := by rw [I.ok.kind]; rfl
  have hiσ : i < σ.length := by rw [I.len]; exact (List.getElem?_eq_some_iff.mp hi).1
  have cne := I.cne
  have tracked : ∀ {a : Addr} {h' : Heap}, (∃ o, s.heap.get? a = some o ∧ H a = none) → Heap.SameBut a s.heap h' → HOk X.prog X.w H h' := fun {a h'} ha hs b ob e => by
    obtain ⟨_, _, hfree⟩ := ha
    refine (I.hok b ob e).stay (fun c w' hc q => (hs.2 c ?_).trans q) (fun _ q => q) fun _ _ q => q
    rintro rfl
    rcases hc with rfl | hc
    · rw [hfree] at e; cases e
    · rw [hfree] at hc; cases hc
  rcases hx with hk | hk
  · refine wpAny_storeName_local hk hn (fun h' hn' hs => ?_) hcls
    obtain ⟨oL, _, _, hoL, _⟩ := id hn
    refine h _ ⟨I.ok, I.os, I.bare, ⟨fun b o e n hb hx => ?_, fun b o e n hb hx => ?_, I.base.free, fun b o e hx => ?_, I.base.tups, I.base.frzs, I.base.tbls⟩, ⟨_, hn', fun j y v' e1 e2 e3 => ?_⟩, fun y c e => ?_, I.free, I.freeC, fun p hp => ?_, tracked ⟨oL, hoL, I.free⟩ hs, by simpa using I.len⟩ ⟨_, hs, .inl rfl⟩
    · exact (hs.2 b (Nat.ne_of_lt (Nat.lt_of_lt_of_le (Heap.lt_size e) I.ok.above))).trans (I.base.keep b o e n hb hx)
    · obtain ⟨sl, e1⟩ := I.base.slot b o e n hb hx
      exact ⟨sl, (hs.2 b (Nat.ne_of_lt (Nat.lt_of_lt_of_le (Heap.lt_size e) I.ok.above))).trans e1⟩
    · obtain ⟨o', e1⟩ := I.base.there b o e hx
      exact ⟨o', (hs.2 b (Nat.ne_of_lt (Nat.lt_of_lt_of_le (Heap.lt_size e) I.ok.above))).trans e1⟩
    · by_cases hj : j = i
      · subst hj
        rw [hi] at e1; cases e1
        rw [List.getElem?_set_self hiσ] at e2
        cases e2
        exact ⟨u, r, .inl ⟨hk, by simp⟩⟩
      · rw [List.getElem?_set_ne (Ne.symm hj)] at e2
        obtain ⟨u', r', q⟩ := hl j y v' e1 e2 e3
        refine ⟨u', r', ?_⟩
        rcases q with ⟨k, e⟩ | ⟨k, c, e, z⟩
        · refine .inl ⟨k, ?_⟩
          have : y ≠ x := fun e => hj (qqj hN e1 (e ▸ hi))
          simp [this, e]
        · exact .inr ⟨k, c, e, z.sameBut hs (cne y c e)⟩
    · obtain ⟨w', z⟩ := I.cell y c e
      exact ⟨w', z.sameBut hs (cne y c e)⟩
    · obtain ⟨e, n, ne, nf, d⟩ := I.pin p hp
      exact ⟨(hs.2 p.1 ne).trans e, n, ne, nf, d⟩
  · have hfn : X.fn x = true := by
      rcases hf with z | z
      · exact z
      · rw [z] at hk; cases hk
    obtain ⟨c, hc⟩ := I.ok.has x (.inl hk)
    obtain ⟨w', z⟩ := I.cell x c hc
    refine wpAny_storeName_cell I.ok.kind hk hc z (fun h' hc' hs => ?_)
    obtain ⟨oc, hoc, hocd⟩ := id z
    refine h { s with heap := h' } ⟨I.ok, I.os, I.bare, ⟨fun b o e n hb hx => ?_, fun b o e n hb hx => ?_, I.base.free, fun b o e hx => ?_, I.base.tups, I.base.frzs, I.base.tbls⟩, ⟨m, hn.sameBut hs (Ne.symm (cne x c hc)), fun j y v' e1 e2 e3 => ?_⟩, fun y c' e => ?_, I.free, I.freeC, fun p hp => ?_, tracked ⟨oc, hoc, I.freeC x c hc⟩ hs, by simpa using I.len⟩ ⟨c, hs, .inr hc⟩
    · exact (hs.2 b (Nat.ne_of_lt (Nat.lt_of_lt_of_le (Heap.lt_size e) (I.ok.cab x c hfn hc)))).trans (I.base.keep b o e n hb hx)
    · obtain ⟨sl, e1⟩ := I.base.slot b o e n hb hx
      exact ⟨sl, (hs.2 b (Nat.ne_of_lt (Nat.lt_of_lt_of_le (Heap.lt_size e) (I.ok.cab x c hfn hc)))).trans e1⟩
    · obtain ⟨o', e1⟩ := I.base.there b o e hx
      exact ⟨o', (hs.2 b (Nat.ne_of_lt (Nat.lt_of_lt_of_le (Heap.lt_size e) (I.ok.cab x c hfn hc)))).trans e1⟩
    · by_cases hj : j = i
      · subst hj
        rw [hi] at e1; cases e1
        rw [List.getElem?_set_self hiσ] at e2
        cases e2
        exact ⟨u, r, .inr ⟨.inl hk, c, hc, hc'⟩⟩
      · rw [List.getElem?_set_ne (Ne.symm hj)] at e2
        obtain ⟨u', r', q⟩ := hl j y v' e1 e2 e3
        refine ⟨u', r', ?_⟩
        rcases q with q | ⟨k, c', e, z'⟩
        · exact .inl q
        · refine .inr ⟨k, c', e, z'.sameBut hs ?_⟩
          rintro rfl
          exact hj (qqj hN e1 (I.ok.inj _ _ _ e hc ▸ hi))
    · by_cases hcc : c' = c
      · subst hcc; exact ⟨_, hc'⟩
      · obtain ⟨w2, z2⟩ := I.cell y c' e
        exact ⟨w2, z2.sameBut hs hcc⟩
    · obtain ⟨e, n, ne, nf, d⟩ := I.pin p hp
      refine ⟨(hs.2 p.1 ?_).trans e, n, ne, nf, d⟩
      intro q
      rw [q, hoc] at e
      have q' : oc = p.2 := Option.some.inj e
      exact d w' (by rw [← q']; exact hocd)
theorem qqo {M : Model} {A : Around} {E : Value → Shared → Prop} {i : Nat} {x : Str} {v : V} {u : Value} {Q : Unit → Shared → Prop} (I : Inv X pins σ H s) (hN : X.N.Nodup) (hi : X.N[i]? = some x) (hx : Loc X.env.scope x) (r : RelV v u)
    (h : ∀ s', Inv X pins (σ.set i (some v)) H s' → Q () s') (hf : X.fn x = true ∨ X.env.scope.names.lookup x = some .local := by first | exact .inl rfl | exact .inr rfl | assumption) : wpAny M A (storeName X.env x u) Q E s :=
  sq1 I hN hi hx r (fun s' I' _ => h s' I') hf
end
abbrev XK := Value → Option Addr → Hp → Prop
abbrev St := List (Option V)
abbrev VK := V → Hp → Prop
abbrev TE := St → Hp → VK → Prop
abbrev TT := St → Hp → (Bool → Hp → Prop) → Prop
abbrev TA := St → Hp → (List V → Hp → Prop) → Prop
structure Ends where
  nx : St → Hp → Prop
  rt : VK
  bk : St → Hp → Prop := fun _ _ => False
  ct : St → Hp → Prop := fun _ _ => False
abbrev TS := Ends → St → Hp → Prop
def EP (X : Cx) (pins : List (Addr × Obj)) (σ : St) (Q : VK) (u : Value) (s' : Shared) : Prop := ∃ v H', Inv X pins σ H' s' ∧ RelV v u ∧ Q v H'
def TP (X : Cx) (pins : List (Addr × Obj)) (σ : St) (Q : Bool → Hp → Prop) (b : Bool) (s' : Shared) : Prop := ∃ H', Inv X pins σ H' s' ∧ Q b H'
def AP (X : Cx) (pins : List (Addr × Obj)) (σ : St) (Q : List V → Hp → Prop) (us : List Value) (s' : Shared) : Prop := ∃ vs H', Inv X pins σ H' s' ∧ Vals vs us ∧ Q vs H'
def SP (X : Cx) (pins : List (Addr × Obj)) (D : Ends) (f : Flow) (s' : Shared) : Prop :=
  match f with
  | .next => ∃ σ' H', Inv X pins σ' H' s' ∧ D.nx σ' H'
  | .brk => ∃ σ' H', Inv X pins σ' H' s' ∧ D.bk σ' H'
  | .cont => ∃ σ' H', Inv X pins σ' H' s' ∧ D.ct σ' H'
  | .ret u => ∃ v σ' H', Inv X pins σ' H' s' ∧ RelV v u ∧ D.rt v H'
def PE (X : Cx) (e : Expr) (t : TE) : Prop :=
  ∀ (pins : List (Addr × Obj)) (s : Shared) (σ : St) (H : Hp) (Q : VK), Inv X pins σ H s → t σ H Q → wpAny (model X.prog X.w) X.A (eval e X.env) (EP X pins σ Q) X.xe s
def PT (X : Cx) (e : Expr) (t : TT) : Prop :=
  ∀ (pins : List (Addr × Obj)) (s : Shared) (σ : St) (H : Hp) (Q : Bool → Hp → Prop), Inv X pins σ H s → t σ H Q → wpAny (model X.prog X.w) X.A (isTrue e X.env (eval e X.env)) (TP X pins σ Q) X.xe s
def PW (X : Cx) (e : Expr) (t : TT) : Prop :=
  ∀ (whole : Sem Value) (pins : List (Addr × Obj)) (s : Shared) (σ : St) (H : Hp) (Q : Bool → Hp → Prop), Inv X pins σ H s → t σ H Q → wpAny (model X.prog X.w) X.A (isTrue e X.env whole) (TP X pins σ Q) X.xe s
theorem PW.pt {X : Cx} {e : Expr} {t : TT} (h : PW X e t) : PT X e t := h _
def PA (X : Cx) (es : List Expr) (t : TA) : Prop :=
  ∀ (pos : Pos) (pins : List (Addr × Obj)) (s : Shared) (σ : St) (H : Hp) (Q : List V → Hp → Prop), Inv X pins σ H s → t σ H Q → wpAny (model X.prog X.w) X.A (spliced (backTo pos (starEach es X.env))) (AP X pins σ Q) X.xe s
def PS (X : Cx) (st : Stmt) (t : TS) : Prop :=
  ∀ (pins : List (Addr × Obj)) (s : Shared) (σ : St) (H : Hp) (D : Ends), Inv X pins σ H s → t D σ H → wpAny (model X.prog X.w) X.A (exec st X.env) (SP X pins D) X.xe s
def PSs (X : Cx) (st : List Stmt) (t : TS) : Prop :=
  ∀ (pins : List (Addr × Obj)) (s : Shared) (σ : St) (H : Hp) (D : Ends), Inv X pins σ H s → t D σ H → wpAny (model X.prog X.w) X.A (execs st X.env) (SP X pins D) X.xe s
theorem thn {α : Type} {t : Sem α} {Q Q' : α → Shared → Prop} {M : Model} {A : Around} {E : Value → Shared → Prop} {s : Shared} (h : wpAny M A t Q E s) (hQ : ∀ a s, Q a s → Q' a s) : wpAny M A t Q' E s := wpAny_mono h hQ fun _ _ x => x
end L2
namespace L2
open PySem PySem.Spec PyProof.Rows
section
variable {X : Cx}
theorem bin {a b : Expr} {ta tb : TE} (ha : PE X a ta) (hb : PE X b tb) {pins : List (Addr × Obj)} {s : Shared} {σ : St} {H : Hp} {R : V → V → Hp → Prop} (I : Inv X pins σ H s) (h : ta σ H fun x H1 => tb σ H1 fun y H2 => R x y H2)
    {α : Type} {Q : α → Shared → Prop} {f : Value → Value → Sem α}
    (hf : ∀ v u s2 x y H2, Inv X pins σ H2 s2 → RelV x v → RelV y u → R x y H2 → wpAny (model X.prog X.w) X.A (f v u) Q X.xe s2) :
    wpAny (model X.prog X.w) X.A (eval a X.env) (fun v s₁ => wpAny (model X.prog X.w) X.A (eval b X.env) (fun u s₂ => wpAny (model X.prog X.w) X.A (f v u) Q X.xe s₂) X.xe s₁) X.xe s := by
  refine thn (ha pins s σ H _ I h) fun v s1 ⟨x, H1, I1, r1, q1⟩ => ?_
  refine thn (hb pins s1 σ H1 _ I1 q1) fun u s2 ⟨y, H2, I2, r2, q2⟩ => ?_
  exact hf v u s2 x y H2 I2 r1 r2 q2
def tVar (i : Nat) : TE := fun σ H Q => ∃ v, σ[i]? = some (some v) ∧ Q v H
def tC (v : V) : TE := fun _ H Q => Q v H
theorem xqc {i : Nat} {x : Str} {pos : Pos} (hN : X.N[i]? = some x) (hv : Vis X.env.scope x) (hd : (x == ("__debug__" : Str)) = false := by decide) (hcd : (x == ("__classdict__" : Str)) = false := by decide) : PE X (.Name x pos) (tVar i) := by
  intro pins s σ H Q I h
  obtain ⟨v, e, h⟩ := h
  obtain ⟨m, hn, hl⟩ := I.loc
  obtain ⟨u, r, l⟩ := hl i x v hN e hv
  have fin : EP X pins σ Q u s := ⟨v, H, I, r, h⟩
  rcases l with ⟨hk, hm⟩ | ⟨hk, c, hc, hcell⟩
  · exact wpAny_Name (wpAny_loadName_local I.ok.kind hk hn hm fin) hd
  · rcases hk with hk | hk
    · exact wpAny_Name (wpAny_loadName_cell I.ok.kind hk hc hcell fin) hd
    · exact wpAny_Name (wpAny_loadName_free I.ok.kind hk hc hcell fin hcd) hd
theorem aqe {i j pos} : PE X (.Constant (.int i) j pos) (tC (.int i)) := fun _ _ _ H _ I h => wpAny_Constant_int ⟨.int i, H, I.tok _, ⟨_, rfl⟩, h⟩
theorem dqe {b j pos} : PE X (.Constant (.bool b) j pos) (tC (.bl b)) := fun _ _ _ H _ I h => Constant_bool ⟨.bl b, H, I, rfl, h⟩
theorem aqF {j pos} : PE X (.Constant .none j pos) (tC .non) := fun _ _ _ H _ I h => Constant_none ⟨.non, H, I, rfl, h⟩
theorem aqp {x j pos} : PE X (.Constant (.str x) j pos) (tC (.str x)) := fun _ _ _ H _ I h => Calls.Constant_str ⟨.str x, H, I.tok _, ⟨_, rfl⟩, h⟩
def Gl (X : Cx) (x : Str) : Prop := X.env.kindOf x = some .globalImplicit
theorem pqs {E : Value → Shared → Prop} {pins : List (Addr × Obj)} {s : Shared} {σ : St} {H : Hp} {x : Str} {u : Value} {pos : Pos} {Q : Value → Shared → Prop} (I : Inv X pins σ H s) (hg : Gl X x) (hm : X.mg x = some u) (h : Q u s)
    (hd : (x == ("__debug__" : Str)) = false := by decide) : wpAny (model X.prog X.w) X.A (eval (.Name x pos) X.env) Q E s :=
  Calls.Name_function_global I.ok.kind hg (Calls.loadGlobal_global (by rw [I.ok.glob]; exact I.mod.glob.keeps I.bk) hm h) hd
theorem pqb {E : Value → Shared → Prop} {pins : List (Addr × Obj)} {s : Shared} {σ : St} {H : Hp} {x : Str} {u : Value} {pos : Pos} {Q : Value → Shared → Prop} (I : Inv X pins σ H s) (hg : Gl X x) (hm : X.mg x = none) (hv : bootBuiltins x = some u) (h : Q u s)
    (hn : x ≠ "__name__" := by decide) (hd : (x == ("__debug__" : Str)) = false := by decide) : wpAny (model X.prog X.w) X.A (eval (.Name x pos) X.env) Q E s := by
  obtain ⟨mb, h1, h2⟩ := I.mod.blt
  exact Calls.Name_function_global I.ok.kind hg (Calls.loadGlobal_builtin (by rw [I.ok.glob]; exact I.mod.glob.keeps I.bk) hm (by rw [I.ok.blt]; exact h1.keeps I.bk) ((h2 x hn).trans hv) h) hd
theorem aqh {x : Str} {v : V} {u : Value} {pos : Pos} (hg : Gl X x) (hm : X.mg x = some u) (r : RelV v u) (hd : (x == ("__debug__" : Str)) = false := by decide) : PE X (.Name x pos) (tC v) :=
  fun _ _ _ H _ I h => pqs I hg hm ⟨v, H, I, r, h⟩ hd
theorem cqo {x : Str} {v : V} {u : Value} {pos : Pos} (hg : Gl X x) (hm : X.mg x = none) (hv : bootBuiltins x = some u) (r : RelV v u) (hn : x ≠ "__name__" := by decide) (hd : (x == ("__debug__" : Str)) = false := by decide) : PE X (.Name x pos) (tC v) :=
  fun _ _ _ H _ I h => pqb I hg hm hv ⟨v, H, I, r, h⟩ hn hd
variable {a b : Expr} {ta tb : TE} {pos : Pos}
def PC (X : Cx) (op : CmpOp) (a b : Expr) (t : TE) : Prop :=
  ∀ (pins : List (Addr × Obj)) (s : Shared) (σ : St) (H : Hp) (Q : VK), Inv X pins σ H s → t σ H Q →
    wpAny (model X.prog X.w) X.A (eval a X.env) (fun v s₁ => wpAny (model X.prog X.w) X.A (eval b X.env) (fun u s₂ => wpAny (model X.prog X.w) X.A (compareOp op v u) (EP X pins σ Q) X.xe s₂) X.xe s₁) X.xe s
def tB (t : TE) : TT := fun σ H Q => t σ H fun x H1 => ∃ c, x = .bl c ∧ Q c H1
theorem yqU {op : CmpOp} {t : TE} (h : PC X op a b t) (h1 : behindInMarks op b = false := by first | exact nobehind _ (by decide) (by decide) | rfl) : PT X (.Compare a [op] [b] pos) (tB t) := by
  intro pins s σ H Q I hw
  refine wpAny_isTrue_Compare1 (thn (h pins s σ H _ I hw) fun v s1 h1 => thn h1 fun u s2 h2 => thn h2 fun c s3 ⟨x, H1, I1, r1, q1⟩ => ?_) h1
  obtain ⟨d, rfl, q⟩ := q1
  cases r1
  exact wpAny_truthy_bool ⟨H1, I1, q⟩
theorem aqB {e : Expr} {t : TE} (h : PE X e t) (he : ∀ whole, isTrue e X.env whole = (do let v ← whole; standAt e.pos; holding [v] (truthy v)) := by intro _; rfl) : PT X e (tB t) := by
  intro pins s σ H Q I hw
  refine isTrue_plain (thn (h pins s σ H _ I hw) fun v s1 ⟨x, H1, I1, r1, q1⟩ => ?_) (he _)
  obtain ⟨d, rfl, q⟩ := q1
  cases r1
  exact wpAny_truthy_bool ⟨H1, I1, q⟩
variable {tA tB' : TT} {rest : List Expr}
def tAnd (t u : TT) : TT := fun σ H Q => t σ H fun c H1 => if c = true then u σ H1 Q else Q false H1
def tOr (t u : TT) : TT := fun σ H Q => t σ H fun c H1 => if c = true then Q true H1 else u σ H1 Q
def tNot (t : TT) : TT := fun σ H Q => t σ H fun c H1 => Q (!c) H1
theorem dq9 (ha : PT X a tA) : PW X (.BoolOp .And [a] pos) tA := by
  intro wh pins s σ H Q I h
  refine isTrue_and (thn (ha pins s σ H Q I h) fun c s1 e => ?_)
  cases c with
  | true => exact isTrue_and_nil e
  | false => exact e
theorem eqg (ha : PT X a tA) : PW X (.BoolOp .Or [a] pos) tA := by
  intro wh pins s σ H Q I h
  refine isTrue_or (thn (ha pins s σ H Q I h) fun c s1 e => ?_)
  cases c with
  | false => exact isTrue_or_nil e
  | true => exact e
theorem fqJ (ha : PT X a tA) (hb : PW X (.BoolOp .And (b :: rest) pos) tB') : PW X (.BoolOp .And (a :: b :: rest) pos) (tAnd tA tB') := by
  intro wh pins s σ H Q I h
  refine isTrue_and (thn (ha pins s σ H _ I h) fun c s1 ⟨H1, I1, q1⟩ => ?_)
  cases c with
  | true => exact hb wh pins s1 σ H1 Q I1 q1
  | false => exact ⟨H1, I1, q1⟩
theorem fqD (ha : PT X a tA) (hb : PW X (.BoolOp .Or (b :: rest) pos) tB') : PW X (.BoolOp .Or (a :: b :: rest) pos) (tOr tA tB') := by
  intro wh pins s σ H Q I h
  refine isTrue_or (thn (ha pins s σ H _ I h) fun c s1 ⟨H1, I1, q1⟩ => ?_)
  cases c with
  | true => exact ⟨H1, I1, q1⟩
  | false => exact hb wh pins s1 σ H1 Q I1 q1
theorem aq2 (ha : PT X a tA) : PT X (.UnaryOp .Not a pos) (tNot tA) := by
  intro pins s σ H Q I h
  exact isTrue_not (ha pins s σ H (fun c H1 => Q (!c) H1) I h)
def tAndV (ta tb : TE) : TE := fun σ H Q => ta σ H fun x H1 => ∃ c, x = .bl c ∧ if c = true then tb σ H1 Q else Q (.bl false) H1
def tOrV (ta tb : TE) : TE := fun σ H Q => ta σ H fun x H1 => ∃ c, x = .bl c ∧ if c = true then Q (.bl true) H1 else tb σ H1 Q
def tNotV (ta : TE) : TE := fun σ H Q => ta σ H fun x H1 => ∃ c, x = .bl c ∧ Q (.bl (!c)) H1
theorem fqb {op} {t : TE} (h : PE X a t) : PE X (.BoolOp op [a] pos) t := fun pins s σ H Q I hw => BoolOp_one (h pins s σ H Q I hw)
theorem iq8 (ha : PE X a ta) (hb : PE X (.BoolOp .And (b :: rest) pos) tb) : PE X (.BoolOp .And (a :: b :: rest) pos) (tAndV ta tb) := by
  intro pins s σ H Q I h
  refine BoolOp_and (thn (ha pins s σ H _ I h) fun v s1 ⟨x, H1, I1, r1, q1⟩ => ?_)
  obtain ⟨c, rfl, q1⟩ := q1
  cases r1
  refine wpAny_truthy_bool ?_
  cases c with
  | true => exact hb pins s1 σ H1 Q I1 q1
  | false => exact ⟨.bl false, H1, I1, rfl, q1⟩
theorem nq9 (ha : PE X a ta) (hb : PE X (.BoolOp .Or (b :: rest) pos) tb) : PE X (.BoolOp .Or (a :: b :: rest) pos) (tOrV ta tb) := by
  intro pins s σ H Q I h
  refine BoolOp_or (thn (ha pins s σ H _ I h) fun v s1 ⟨x, H1, I1, r1, q1⟩ => ?_)
  obtain ⟨c, rfl, q1⟩ := q1
  cases r1
  refine wpAny_truthy_bool ?_
  cases c with
  | false => exact hb pins s1 σ H1 Q I1 q1
  | true => exact ⟨.bl true, H1, I1, rfl, q1⟩
theorem xq6 (ha : PE X a ta) : PE X (.UnaryOp .Not a pos) (tNotV ta) := by
  intro pins s σ H Q I h
  refine UnaryOp_ (thn (ha pins s σ H _ I h) fun v s1 ⟨x, H1, I1, r1, q1⟩ => ?_)
  obtain ⟨c, rfl, q1⟩ := q1
  cases r1
  exact not_of (wpAny_truthy_bool ⟨.bl (!c), H1, I1, rfl, q1⟩)
def tIf (t : TT) (ta tb : TE) : TE := fun σ H Q => t σ H fun c H1 => if c = true then ta σ H1 Q else tb σ H1 Q
theorem aq0 {c : Expr} (hc : PT X c tA) (ha : PE X a ta) (hb : PE X b tb) : PE X (.IfExp c a b pos) (tIf tA ta tb) := by
  intro pins s σ H Q I h
  refine wpAny_IfExp (thn (hc pins s σ H _ I h) fun d s1 ⟨H1, I1, q1⟩ => ?_)
  cases d with
  | true => exact ha pins s1 σ H1 Q I1 q1
  | false => exact hb pins s1 σ H1 Q I1 q1
end
end L2
namespace L2
open PySem PySem.Spec PyProof.Rows
def SqL (K : PySem.W.Frag) (H : Hp) (a : Addr) (xs : List V) : Prop :=
  Rd H a (.lst xs) ∨
    ∃ (o : Obj) (its : Array Value) (n : Nat), K.lookup a = some o ∧ o.cls = .type "list" ∧ o.dict = none ∧ o.data = .seq its n ∧ its.size ≤ sizeLine ∧ Vals xs its.toList
def SqT (K : PySem.W.Frag) (H : Hp) (a : Addr) (xs : List V) : Prop :=
  Rd H a (.tup xs) ∨
    ∃ (o : Obj) (its : Array Value) (n : Nat), K.lookup a = some o ∧ o.cls = .type "tuple" ∧ o.data = .seq its n ∧ its.size ≤ sizeLine ∧ Vals xs its.toList
def absV : Value → Option V
  | .none => some .non
  | .bool b => some (.bl b)
  | .int i _ => some (.int i)
  | .str x _ => some (.str x)
  | .bytes b _ => some (.byt b)
  | .float b _ => some (.flt b)
  | .ref a => some (.ref a)
  | .type n => some (.ty n)
  | _ => none
theorem RelV.abs {x : V} {u : Value} (r : RelV x u) : absV u = some x := by
  cases x with
  | non => cases r; rfl
  | bl _ => cases r; rfl
  | int _ => obtain ⟨t, rfl⟩ := r; rfl
  | str _ => obtain ⟨t, rfl⟩ := r; rfl
  | byt _ => obtain ⟨t, rfl⟩ := r; rfl
  | flt _ => obtain ⟨t, rfl⟩ := r; rfl
  | ref _ => cases r; rfl
  | ty _ => cases r; rfl
theorem RelV.inj {x y : V} {u : Value} (r : RelV x u) (q : RelV y u) : x = y := Option.some.inj (r.abs.symm.trans q.abs)
theorem Vals.inj : ∀ {xs ys : List V} {us : List Value}, Vals xs us → Vals ys us → xs = ys
  | _, _, _, .nil, .nil => rfl
  | _, _, _, .cons r t, .cons r' t' => by rw [r.inj r', Vals.inj t t']
section
variable {X : Cx} {pins : List (Addr × Obj)} {σ : St} {H : Hp} {s : Shared} {a : Addr} {xs ys : List V}
theorem SqL.of {K : PySem.W.Frag} (h : H a = some (.lst xs)) : SqL K H a xs := .inl (.inl h)
theorem SqT.of {K : PySem.W.Frag} (h : H a = some (.tup xs)) : SqT K H a xs := .inl (.inl h)
theorem Inv.list (I : Inv X pins σ H s) (h : SqL X.K H a xs) : ∃ its : List Value, Vals xs its ∧ PlainL s.heap a its.toArray ∧ xs.length ≤ sizeLine := by
  rcases h with h | ⟨o, its, n, hk, hc, hd, hs, hz, r⟩
  · obtain ⟨z, its, n, r, e⟩ := h.ok I.hok
    exact ⟨its, r, ⟨_, n, e, rfl, rfl, rfl⟩, z⟩
  · refine ⟨its.toList, r, ⟨o, n, I.kIn a o hk, hc, hd, by simpa using hs⟩, ?_⟩
    have e := r.length
    simp only [Array.length_toList] at e
    omega
theorem Inv.tuple (I : Inv X pins σ H s) (h : SqT X.K H a xs) : ∃ its : List Value, Vals xs its ∧ IsTup s.heap a its.toArray ∧ xs.length ≤ sizeLine := by
  rcases h with h | ⟨o, its, n, hk, hc, hs, hz, r⟩
  · obtain ⟨z, its, r, p⟩ := h.ok I.hok
    exact ⟨its, r, p, z⟩
  · refine ⟨its.toList, r, ⟨o, I.kIn a o hk, hc, n, by simpa using hs⟩, ?_⟩
    have e := r.length
    simp only [Array.length_toList] at e
    omega
theorem Inv.list_inj (I : Inv X pins σ H s) (h : SqL X.K H a xs) (h' : SqL X.K H a ys) : xs = ys := by
  obtain ⟨its, r, ⟨o, n, e, _, _, d⟩, _⟩ := I.list h
  obtain ⟨its', r', ⟨o', n', e', _, _, d'⟩, _⟩ := I.list h'
  rw [e] at e'; cases e'
  rw [d] at d'
  injection d' with d1 _
  have : its = its' := by simpa using congrArg Array.toList d1
  subst this
  exact r.inj r'
theorem Inv.tuple_inj (I : Inv X pins σ H s) (h : SqT X.K H a xs) (h' : SqT X.K H a ys) : xs = ys := by
  obtain ⟨its, r, ⟨o, e, _, n, d⟩, _⟩ := I.tuple h
  obtain ⟨its', r', ⟨o', e', _, n', d'⟩, _⟩ := I.tuple h'
  rw [e] at e'; cases e'
  rw [d] at d'
  injection d' with d1 _
  have : its = its' := by simpa using congrArg Array.toList d1
  subst this
  exact r.inj r'
end
abbrev Cx.wish (X : Cx) (E : Value → Shared → Prop) : Cx := { X with xe := E }
abbrev Cx.nox (X : Cx) : Cx := X.wish fun _ _ => False
theorem Cx.Ok.wish {X : Cx} (ok : X.Ok) (E : Value → Shared → Prop) : (X.wish E).Ok :=
  ⟨ok.mod, ok.kind, ok.glob, ok.blt, ok.above, ok.inj, ok.has, ok.cab, ok.hd, ok.frames, ok.stk, ok.exf, ok.bs, ok.bsz, ok.noex, ok.exfs, ok.funs, ok.frf⟩
theorem Cx.Ok.unwish {X : Cx} {E : Value → Shared → Prop} (ok : (X.wish E).Ok) : X.Ok :=
  ⟨ok.mod, ok.kind, ok.glob, ok.blt, ok.above, ok.inj, ok.has, ok.cab, ok.hd, ok.frames, ok.stk, ok.exf, ok.bs, ok.bsz, ok.noex, ok.exfs, ok.funs, ok.frf⟩
section
variable {X : Cx} {pins : List (Addr × Obj)} {σ : St} {H : Hp} {s : Shared} {E : Value → Shared → Prop}
theorem Inv.wish (I : Inv X pins σ H s) (E : Value → Shared → Prop) : Inv (X.wish E) pins σ H s := ⟨I.ok.wish E, I.os, I.bare, I.base, I.loc, I.cell, I.free, I.freeC, I.pin, I.hok, I.len⟩
theorem Inv.unwish (I : Inv (X.wish E) pins σ H s) : Inv X pins σ H s := ⟨I.ok.unwish, I.os, I.bare, I.base, I.loc, I.cell, I.free, I.freeC, I.pin, I.hok, I.len⟩
theorem SP.unwish {D : Ends} {f : Flow} {s' : Shared} (h : SP (X.wish E) pins D f s') : SP X pins D f s' := by
  cases f with
  | next => obtain ⟨σ', H', I, q⟩ := h; exact ⟨σ', H', I.unwish, q⟩
  | brk => obtain ⟨σ', H', I, q⟩ := h; exact ⟨σ', H', I.unwish, q⟩
  | cont => obtain ⟨σ', H', I, q⟩ := h; exact ⟨σ', H', I.unwish, q⟩
  | ret u => obtain ⟨v, σ', H', I, r, q⟩ := h; exact ⟨v, σ', H', I.unwish, r, q⟩
theorem PSs.nox {st : List Stmt} {t : TS} (h : PSs X.nox st t) : PSs X st t := fun pins s σ H D I hw =>
  wpAny_mono (h pins s σ H D (I.wish _) hw) (fun _ _ q => q.unwish) fun _ _ z => False.elim z
end
section
variable {X : Cx} {st : Stmt} {rest : List Stmt} {t u : TS} {e : Expr} {te : TE} {pos : Pos}
def tNext : TS := fun D σ H => D.nx σ H
def tSeq (t u : TS) : TS := fun D σ H => t { D with nx := u D } σ H
theorem aqo : PSs X [] tNext := fun _ _ σ H _ I h => wpAny_execs_nil ⟨σ, H, I, h⟩
theorem aqd (h1 : PS X st t) (h2 : PSs X rest u) : PSs X (st :: rest) (tSeq t u) := by
  intro pins s σ H D I h
  refine wpAny_execs_cons (thn (h1 pins s σ H { D with nx := u D } I h) fun f s1 q => ?_)
  cases f with
  | next =>
    obtain ⟨σ', H', I', q⟩ := q
    exact h2 pins s1 σ' H' D I' q
  | ret v => exact q
  | brk => exact q
  | cont => exact q
theorem aqc (h1 : PS X st t) : PSs X [st] t := by
  intro pins s σ H D I h
  refine wpAny_execs_cons (thn (h1 pins s σ H D I h) fun f s1 q => ?_)
  cases f with
  | next => exact wpAny_execs_nil q
  | ret v => exact q
  | brk => exact q
  | cont => exact q
def tBreak : TS := fun D σ H => D.bk σ H
theorem Inv.quiet {pins : List (Addr × Obj)} {σ : St} {H : Hp} {s : Shared} (I : Inv X pins σ H s) : interactive X.env = false := by simp [interactive, I.ok.kind]
def tDrop (te : TE) : TS := fun D σ H => te σ H fun _ H1 => D.nx σ H1
theorem dqu (he : PE X e te) (hs : swapsWith e none pos.line X.env = pure false := by rfl) : PS X (.Expr e pos) (tDrop te) := by
  intro pins s σ H D I h
  exact wpAny_Expr_any (thn (he pins s σ H _ I h) fun v s1 ⟨x, H1, I1, r1, q1⟩ => ⟨σ, H1, I1, q1⟩) I.quiet hs
def tRet (te : TE) : TS := fun D σ H => te σ H D.rt
theorem aql (he : PE X e te) : PS X (.Return (some e) pos) (tRet te) := by
  intro pins s σ H D I h
  exact wpAny_Return_some (thn (he pins s σ H _ I h) fun v s1 ⟨x, H1, I1, r1, q1⟩ => ⟨x, σ, H1, I1, r1, q1⟩)
def tIfS (c : TT) (t u : TS) : TS := fun D σ H => c σ H fun b H1 => if b = true then t D σ H1 else u D σ H1
theorem aqE {c : Expr} {a b : List Stmt} {tc : TT} (hc : PT X c tc) (ha : PSs X a t) (hb : PSs X b u) : PS X (.If c a b pos) (tIfS tc t u) := by
  intro pins s σ H D I h
  refine wpAny_If (thn (hc pins s σ H _ I h) fun d s1 ⟨H1, I1, q1⟩ => ?_)
  cases d with
  | true => exact ha pins s1 σ H1 D I1 q1
  | false => exact hb pins s1 σ H1 D I1 q1
def tNever : TS := fun _ _ _ => False
theorem fqc : PS X st tNever := fun _ _ _ _ _ _ h => h.elim
end
abbrev TG := V → St → Hp → (St → Hp → Prop) → Prop
abbrev TGs := List V → St → Hp → (St → Hp → Prop) → Prop
def PG (X : Cx) (target : Expr) (t : TG) : Prop :=
  ∀ (pins : List (Addr × Obj)) (s : Shared) (σ : St) (H : Hp) (v : V) (u : Value) (Q : St → Hp → Prop), Inv X pins σ H s → RelV v u → t v σ H Q →
    wpAny (model X.prog X.w) X.A (assign target X.env u) (fun _ s' => ∃ σ' H', Inv X pins σ' H' s' ∧ Q σ' H') X.xe s
def PGs (X : Cx) (ts : List Expr) (t : TGs) : Prop :=
  ∀ (pins : List (Addr × Obj)) (s : Shared) (σ : St) (H : Hp) (vs : List V) (us : List Value) (Q : St → Hp → Prop), Inv X pins σ H s → Vals vs us → t vs σ H Q →
    wpAny (model X.prog X.w) X.A (assignInOrder ((assignEach ts X.env).map (·.2)) us) (fun _ s' => ∃ σ' H', Inv X pins σ' H' s' ∧ Q σ' H') X.xe s
abbrev TSet := V → V → V → Hp → (Hp → Prop) → Prop
section
variable {X : Cx} {pos : Pos}
def gName (i : Nat) : TG := fun v σ H Q => Q (σ.set i (some v)) H
theorem aq9 {i : Nat} {x : Str} (hN : X.N.Nodup) (hi : X.N[i]? = some x) (hx : Loc X.env.scope x) (hf : X.fn x = true ∨ X.env.scope.names.lookup x = some .local := by first | exact .inl rfl | exact .inr rfl | assumption) : PG X (.Name x pos) (gName i) := by
  intro pins s σ H v u Q I r h
  exact wpAny_assign_Name (qqo I hN hi hx r (fun s' I' => ⟨_, H, I', h⟩) hf)
def gNil : TGs := fun vs σ H Q => vs = [] ∧ Q σ H
def gCons (t : TG) (u : TGs) : TGs := fun vs σ H Q => ∃ v r, vs = v :: r ∧ t v σ H fun σ' H' => u r σ' H' Q
theorem lql : PGs X [] gNil := by
  intro pins s σ H vs us Q I r h
  obtain ⟨e, h⟩ := h
  subst e
  cases r
  exact assignInOrder_nil ⟨σ, H, I, h⟩
theorem bqJ {e : Expr} {es : List Expr} {t : TG} {u : TGs} (h1 : PG X e t) (h2 : PGs X es u)
    (hs : (assignEach (e :: es) X.env).map (·.2) = assign e X.env :: (assignEach es X.env).map (·.2) := by rfl) : PGs X (e :: es) (gCons t u) := by
  intro pins s σ H vs us Q I r h
  obtain ⟨v, vr, e1, h⟩ := h
  subst e1
  cases r with
  | cons r rr =>
    rw [hs]
    refine assignInOrder_cons (thn (h1 pins s σ H _ _ _ I r h) fun _ s1 ⟨σ1, H1, I1, q1⟩ => ?_)
    exact h2 pins s1 σ1 H1 _ _ Q I1 rr q1
def gTup (K : PySem.W.Frag) (n : Nat) (t : TGs) : TG := fun v σ H Q => ∃ a xs, v = .ref a ∧ SqT K H a xs ∧ xs.length = n ∧ t xs σ H Q
theorem uqT {es : List Expr} {k : Nat} {t : TGs} {n : Nat} (hc : X.calm = true) (h : PGs X es t)
    (hn : (assignEach es X.env).length = n := by rfl) (hst : (assignEach es X.env).findIdx? (·.1) = none := by rfl) : PG X (.Tuple es k pos) (gTup X.K n t) := by
  intro pins s σ H v u Q I r hw
  obtain ⟨a, xs, e1, hq, hl, hw⟩ := hw
  subst e1
  cases r
  obtain ⟨its, rv, ht, hz⟩ := I.tuple hq
  refine assign_Tuple_tuple (I.ok.hd hc) ht (by simp [hn, ← hl, rv.length]) hst fun h' hx => ?_
  have I1 : Inv X pins σ H { s with heap := h' } := I.kept (t' := s.toks) fun b o e => hx b o (Nat.ne_of_lt (Heap.lt_size e)) e
  exact h pins _ σ H xs _ Q I1 (by simpa using rv) hw
def gSub (to ti : TE) (t : TSet) : TG := fun v σ H Q => to σ H fun o H1 => ti σ H1 fun i H2 => t o i v H2 fun H3 => Q σ H3
def tAsg (te : TE) (g : TG) : TS := fun D σ H => te σ H fun x H1 => g x σ H1 D.nx
theorem uqZ {tg e : Expr} {te : TE} {g : TG} (he : PE X e te) (hg : PG X tg g) (hs : swapsWithSole [tg] e pos.line X.env = pure false := by rfl) (hw : swappedStores [tg] e X.env = pure none := by rfl)
    (h1 : (assignEach [tg] X.env).map (·.2) = [assign tg X.env] := by rfl) : PS X (.Assign [tg] e pos) (tAsg te g) := by
  intro pins s σ H D I h
  refine wpAny_Assign_stores (thn (he pins s σ H _ I h) fun v s1 ⟨x, H1, I1, r1, q1⟩ => ?_) hs hw
  rw [h1]
  exact thn (hg pins s1 σ H1 x v _ I1 r1 q1) fun _ s2 q => q
theorem aqj {i : Nat} {x : Str} {e : Expr} {te : TE} {pos' : Pos} (hN : X.N.Nodup) (hi : X.N[i]? = some x) (hx : Loc X.env.scope x) (he : PE X e te) (hs : swapsWith e (some (.Name x pos')) pos.line X.env = pure false := by rfl) (hf : X.fn x = true ∨ X.env.scope.names.lookup x = some .local := by first | exact .inl rfl | exact .inr rfl | assumption) :
    PS X (.Assign [.Name x pos'] e pos) (tAsg te (gName i)) := by
  intro pins s σ H D I h
  refine wpAny_Assign_Name (thn (he pins s σ H _ I h) fun v s1 ⟨y, H1, I1, r1, q1⟩ => ?_) hs
  exact qqo I1 hN hi hx r1 (fun s2 I2 => ⟨_, H1, I2, q1⟩) hf
end
section
variable {X : Cx} {pos : Pos}
def tWhile (c : TT) (tb : TS) : TS := fun D σ H => ∃ W : Nat → St → Hp → Prop, (∃ m, W m σ H) ∧ ∀ m σ H, W m σ H →
  c σ H fun b H1 => if b = true then ∃ N : St → Hp → Prop, (∀ σ' H', N σ' H' → ∃ m', m' < m ∧ W m' σ' H') ∧ tb { D with nx := N, ct := N, bk := D.nx } σ H1 else D.nx σ H1
theorem iqN {c : Expr} {body : List Stmt} {tc : TT} {tb : TS} (hp : PassesOwn (model X.prog X.w) X.A X.env X.xe) (hc : PT X c tc) (hb : PSs X body tb) : PS X (.While c body [] pos) (tWhile tc tb) := by
  intro pins s σ H D I h
  obtain ⟨W, ⟨m0, w0⟩, turn⟩ := h
  refine wpAny_While (codeAny_whileLoop (fun n s' => ∃ σ' H', Inv X pins σ' H' s' ∧ W n σ' H') ?_ m0 ⟨σ, H, I, w0⟩)
  rintro n s1 ⟨σ1, H1, I1, w1⟩
  refine wpAny_passesOwn hp (thn (hc pins s1 σ1 H1 _ I1 (turn n σ1 H1 w1)) fun b s2 ⟨H2, I2, q2⟩ => ?_)
  cases b with
  | true =>
    obtain ⟨N, hN, q2⟩ := q2
    rw [if_pos rfl]
    refine wpAny_passesOwn hp (thn (hb pins s2 σ1 H2 _ I2 q2) fun f s3 q3 => ?_)
    cases f with
    | next =>
      obtain ⟨σ3, H3, I3, n3⟩ := q3
      obtain ⟨m', hm, w3⟩ := hN σ3 H3 n3
      exact ⟨m', hm, σ3, H3, I3, w3⟩
    | cont =>
      obtain ⟨σ3, H3, I3, n3⟩ := q3
      obtain ⟨m', hm, w3⟩ := hN σ3 H3 n3
      exact ⟨m', hm, σ3, H3, I3, w3⟩
    | brk => exact q3
    | ret v => exact q3
  | false =>
    rw [if_neg Bool.false_ne_true]
    exact wpAny_execs_nil ⟨σ1, H2, I2, q2⟩
end
structure It where
  go : Nat → Hp → Prop
  yld : Nat → Hp → V → Hp → Prop
  stop : Nat → Hp → Prop
def FpOk (X : Cx) (pins : List (Addr × Obj)) (H : Hp) (b : Addr) : Prop :=
  H b = none ∧ b ≠ X.env.locals ∧ b ∉ X.fs ∧ (b ∈ X.ex ∨ X.s₀.heap.objs.size ≤ b) ∧ (∀ x c, X.env.cells.lookup x = some c → c ≠ b) ∧ ∀ p ∈ X.pn ++ pins, p.1 ≠ b
theorem Inv.fpOk {X : Cx} {pins : List (Addr × Obj)} {σ : St} {H H' : Hp} {s : Shared} {b : Addr} (I : Inv X pins σ H s) (hb : s.heap.objs.size ≤ b) (hn : H' b = none) : FpOk X pins H' b := by
  refine ⟨hn, Nat.ne_of_gt (Nat.lt_of_lt_of_le I.lt hb), I.nofs hb, .inr (Nat.le_trans I.sz hb), fun x c e z => ?_, fun p hp z => ?_⟩
  · obtain ⟨v, q⟩ := I.cell x c e
    exact absurd (Nat.lt_of_lt_of_le q.lt (by rw [z]; exact hb)) (Nat.lt_irrefl _)
  · exact absurd (Nat.lt_of_lt_of_le (Heap.lt_size (I.pin p hp).1) (by rw [z]; exact hb)) (Nat.lt_irrefl _)
structure Turn (P : Program) (w : World) (K : PySem.W.Frag) (tg : Expr) (J : It) (fp : List Addr) (it : Addr) (tn : Nat → Heap → Prop) : Prop where
  mem : it ∈ fp
  obj : ∀ i h, tn i h → ∀ b ∈ fp, ∃ o, h.get? b = some o ∧ ∀ v, o.data ≠ .cell v
  keep : ∀ i h h', tn i h → (∀ b ∈ fp, ∀ o, h.get? b = some o → h'.get? b = some o) → tn i h'
  item : ∀ (X : Cx), X.prog = P → X.w = w → X.K = K → X.calm = true → ∀ (i : Nat) (pins : List (Addr × Obj)) (s : Shared) (σ : St) (H : Hp) (E : Value → Shared → Prop), Inv X pins σ H s → (∀ b ∈ fp, FpOk X pins H b) → tn i s.heap → J.go i H →
    wpAny (model P w) X.A (pyNext (.ref it)) (fun r s1 => ∃ u, r = some u ∧
      wpAny (model P w) X.A (letOwnedTupleGo tg (.ref it) u) (fun _ s2 => ∃ x H', Inv X pins σ H' s2 ∧ RelV x u ∧ J.yld i H x H' ∧ tn (i + 1) s2.heap ∧ ∀ b ∈ fp, H' b = none) E s1) E s
  done : ∀ (X : Cx), X.prog = P → X.w = w → X.K = K → X.calm = true → ∀ (i : Nat) (pins : List (Addr × Obj)) (s : Shared) (σ : St) (H : Hp) (E : Value → Shared → Prop), Inv X pins σ H s → (∀ b ∈ fp, FpOk X pins H b) → tn i s.heap → J.stop i H →
    wpAny (model P w) X.A (pyNext (.ref it)) (fun r s1 => r = none ∧ Inv X pins σ H s1) E s
  self : ∀ (A : Around) (i : Nat) (s : Shared) (Q : Value → Shared → Prop) (E : Value → Shared → Prop), tn i s.heap → Q (.ref it) s → wpAny (model P w) A (pyIter (.ref it)) Q E s
abbrev TI := St → Hp → (It → Hp → Prop) → Prop
def PIE (X : Cx) (pins : List (Addr × Obj)) (σ : St) (tg : Expr) (R : It → Hp → Prop) (itv : Value) (s2 : Shared) : Prop :=
  ∃ (it : Addr) (fp : List Addr) (tn : Nat → Heap → Prop) (J : It) (H' : Hp), itv = .ref it ∧ Inv X pins σ H' s2 ∧ Turn X.prog X.w X.K tg J fp it tn ∧ tn 0 s2.heap ∧ (∀ b ∈ fp, FpOk X pins H' b) ∧ R J H'
def PI (X : Cx) (tg iter : Expr) (wi : TI) : Prop :=
  ∀ (pins : List (Addr × Obj)) (s : Shared) (σ : St) (H : Hp) (R : It → Hp → Prop), Inv X pins σ H s → wi σ H R →
    wpAny (model X.prog X.w) X.A (eval iter X.env) (fun v s1 => wpAny (model X.prog X.w) X.A (pyIter v) (PIE X pins σ tg R) X.xe s1) X.xe s
theorem rqa {M : Model} {A : Around} {E : Value → Shared → Prop} {s : Shared} {tg : Expr} {it : Addr} {u : Value} {o : Obj} {n : String} {vs : Array Value} {Q : Unit → Shared → Prop} (ho : s.heap.get? it = some o) (hc : o.cls = .type n) (hd : o.data = .fields vs)
    (hn : ["enumerate", "zip", "dict_itemiterator", "dict_reverseitemiterator", "odict_iterator", "itertools.zip_longest", "itertools.pairwise"].contains n = false) (hQ : Q () s) : wpAny M A (letOwnedTupleGo tg (.ref it) u) Q E s := by
  unfold letOwnedTupleGo
  cases tg <;> first
    | exact wpAny_pure hQ
    | (cases u <;> first
        | exact wpAny_pure hQ
        | (refine wpAny_bind (wpAny_load ho ?_)
           rw [hc, hd]
           show wpAny M A (if (["enumerate", "zip", "dict_itemiterator", "dict_reverseitemiterator", "odict_iterator", "itertools.zip_longest", "itertools.pairwise"].contains n && vs[0]? == some (rawInt _)) = true then _ else _) Q E s
           rw [if_neg (by intro h; rw [hn, Bool.false_and] at h; cases h)]
           exact wpAny_pure hQ))
def Itl (K : PySem.W.Frag) (a : Addr) : It :=
  ⟨fun i H => ∃ xs x, SqL K H a xs ∧ xs[i]? = some x, fun i H x H' => H' = H ∧ ∀ xs, SqL K H a xs → xs[i]? = some x, fun i H => ∃ xs, SqL K H a xs ∧ xs.length ≤ i⟩
def Itt (K : PySem.W.Frag) (a : Addr) : It :=
  ⟨fun i H => ∃ xs x, SqT K H a xs ∧ xs[i]? = some x, fun i H x H' => H' = H ∧ ∀ xs, SqT K H a xs → xs[i]? = some x, fun i H => ∃ xs, SqT K H a xs ∧ xs.length ≤ i⟩
def Itr (lo : Int) (n : Nat) : It := ⟨fun i _ => i < n, fun i H x H' => H' = H ∧ x = .int (lo + i), fun i _ => n ≤ i⟩
theorem rqK {P : Program} {w : World} {K : PySem.W.Frag} {tg : Expr} (a it : Addr) : Turn P w K tg (Itl K a) [it] it (fun i h => h.IsListIter it a i) where
  mem := by simp
  obj := fun i h st b hb => by
    have e : b = it := by simpa using hb
    subst e
    obtain ⟨o, e, c, d⟩ := st
    exact ⟨o, e, fun v z => by rw [d] at z; cases z⟩
  keep := fun i h h' st k => st.at fun o e => k it (by simp) o e
  item := by
    intro X hP hw hK hc i pins s σ H E I hf st hg
    subst hP hw hK
    obtain ⟨xs, x, hq, hx⟩ := hg
    obtain ⟨its, rv, p, hz⟩ := I.list hq
    obtain ⟨u, hu, ru⟩ := rv.get hx
    obtain ⟨f0, f1, f2, f3, f4, f5⟩ := hf it (by simp)
    refine wpAny_pyNext_list_item st p.isList (x := u) (by simpa using hu) fun h' st' sb => ?_
    have I1 : Inv X pins σ H { s with heap := h' } := I.turned (t' := s.toks) (fun b o hb e => (sb.2 b hb).trans e) f0 f1 f3 f4 f5
    obtain ⟨o, e, c, d⟩ := id st'
    exact ⟨u, rfl, rqa (s := { s with heap := h' }) e c d (by decide) ⟨x, H, I1, ru, ⟨rfl, fun ys hy => by rw [I.list_inj hy hq]; exact hx⟩, st', fun b hb => (hf b hb).1⟩⟩
  done := by
    intro X hP hw hK hc i pins s σ H E I hf st hg
    subst hP hw hK
    obtain ⟨xs, hq, hx⟩ := hg
    obtain ⟨its, rv, p, hz⟩ := I.list hq
    obtain ⟨f0, f1, f2, f3, f4, f5⟩ := hf it (by simp)
    have hl := rv.length
    exact wpAny_pyNext_list_end (I.ok.hd hc) st p.isList (by simp; omega) fun h' eb => ⟨rfl, I.turned (t' := s.toks) (fun b o hb e => eb b o hb e) f0 f1 f3 f4 f5⟩
  self := fun _ _ _ _ _ st h => wpAny_pyIter_listiter st h
theorem qq6 {P : Program} {w : World} {K : PySem.W.Frag} {tg : Expr} (a it : Addr) : Turn P w K tg (Itt K a) [it] it (fun i h => h.IsTupleIter it a i) where
  mem := by simp
  obj := fun i h st b hb => by
    have e : b = it := by simpa using hb
    subst e
    obtain ⟨o, e, c, d⟩ := st
    exact ⟨o, e, fun v z => by rw [d] at z; cases z⟩
  keep := fun i h h' st k => st.at fun o e => k it (by simp) o e
  item := by
    intro X hP hw hK hc i pins s σ H E I hf st hg
    subst hP hw hK
    obtain ⟨xs, x, hq, hx⟩ := hg
    obtain ⟨its, rv, p, hz⟩ := I.tuple hq
    obtain ⟨u, hu, ru⟩ := rv.get hx
    obtain ⟨f0, f1, f2, f3, f4, f5⟩ := hf it (by simp)
    refine wpAny_pyNext_tuple_item st (show s.heap.IsTuple a its.toArray from p) (x := u) (by simpa using hu) fun h' st' sb => ?_
    have I1 : Inv X pins σ H { s with heap := h' } := I.turned (t' := s.toks) (fun b o hb e => (sb.2 b hb).trans e) f0 f1 f3 f4 f5
    obtain ⟨o, e, c, d⟩ := id st'
    exact ⟨u, rfl, rqa (s := { s with heap := h' }) e c d (by decide) ⟨x, H, I1, ru, ⟨rfl, fun ys hy => by rw [I.tuple_inj hy hq]; exact hx⟩, st', fun b hb => (hf b hb).1⟩⟩
  done := by
    intro X hP hw hK hc i pins s σ H E I hf st hg
    subst hP hw hK
    obtain ⟨xs, hq, hx⟩ := hg
    obtain ⟨its, rv, p, hz⟩ := I.tuple hq
    obtain ⟨f0, f1, f2, f3, f4, f5⟩ := hf it (by simp)
    have hl := rv.length
    exact wpAny_pyNext_tuple_end (I.ok.hd hc) st (show s.heap.IsTuple a its.toArray from p) (by simp; omega) fun h' eb => ⟨rfl, I.turned (t' := s.toks) (fun b o hb e => eb b o hb e) f0 f1 f3 f4 f5⟩
  self := fun _ _ _ _ _ st h => wpAny_pyIter_tupleiter st h
theorem rqe {P : Program} {w : World} {K : PySem.W.Frag} {tg : Expr} (it : Addr) (lo : Int) (n : Nat) : Turn P w K tg (Itr lo n) [it] it (fun i h => IsRangeIter h it (lo + (i : Nat) * 1) ((n : Int) - (i : Nat)) 1) where
  mem := by simp
  obj := fun i h st b hb => by
    have e : b = it := by simpa using hb
    subst e
    exact ⟨_, st, fun v z => by
      have z' : Data.fields _ = Data.cell v := z
      cases z'⟩
  keep := fun i h h' st k => k it (by simp) _ st
  item := by
    intro X hP hw hK hc i pins s σ H E I hf st hg
    subst hP hw hK
    obtain ⟨f0, f1, f2, f3, f4, f5⟩ := hf it (by simp)
    have W := Walks.range (prog := X.prog) (w := X.w) (I.ok.hd hc) it lo 1 n
    refine W.item i s _ _ hg st fun v h' tk hv st' kk => ?_
    obtain ⟨t, rfl⟩ := hv
    have I1 : Inv X pins σ H { s with heap := h', toks := tk } := I.turned (fun b o hb e => kk b o (by simpa using hb) e) f0 f1 f3 f4 f5
    refine ⟨_, rfl, rqa (s := { s with heap := h', toks := tk }) (n := "range_iterator") st' rfl rfl (by decide) ⟨.int (lo + i), H, I1, ⟨t, ?_⟩, ⟨rfl, rfl⟩, st', fun b hb => (hf b hb).1⟩⟩
    rw [Int.mul_one]
  done := by
    intro X hP hw hK hc i pins s σ H E I hf st hg
    subst hP hw hK
    obtain ⟨f0, f1, f2, f3, f4, f5⟩ := hf it (by simp)
    exact wpAny_pyNext_range_end (I.ok.hd hc) st (by have : n ≤ i := hg; omega) fun h' eb => ⟨rfl, I.turned (t' := s.toks) (fun b o hb e => eb b o hb e) f0 f1 f3 f4 f5⟩
  self := fun _ _ _ _ _ st h => wpAny_pyIter_rangeiter st h
end L2
namespace L2
open PySem PySem.Spec PyProof.Rows
section
variable {X : Cx} {tg : Expr}
def iList (K : PySem.W.Frag) (tl : TE) : TI := fun σ H R => tl σ H fun x H1 => ∃ a, x = .ref a ∧ (∃ xs, SqL K H1 a xs) ∧ R (Itl K a) H1
def iTup (K : PySem.W.Frag) (tl : TE) : TI := fun σ H R => tl σ H fun x H1 => ∃ a, x = .ref a ∧ (∃ xs, SqT K H1 a xs) ∧ R (Itt K a) H1
theorem vqI {l : Expr} {tl : TE} (hl : PE X l tl) : PI X tg l (iList X.K tl) := by
  intro pins s σ H R I h
  refine thn (hl pins s σ H _ I h) fun v s1 ⟨x, H1, I1, r1, q1⟩ => ?_
  obtain ⟨a, e, ⟨xs, hq⟩, q⟩ := q1
  subst e
  cases r1
  obtain ⟨its, rv, p, hz⟩ := I1.list hq
  refine wpAny_pyIter_list p.isList ?_
  refine ⟨s1.heap.objs.size, [s1.heap.objs.size], _, _, H1, rfl, I1.kept (t' := s1.toks) fun b o e => Heap.get?_push_of_some _ e, rqK a _, ⟨_, Heap.get?_push_size _ rfl, rfl, rfl⟩, fun b hb => ?_, q⟩
  have e : b = s1.heap.objs.size := by simpa using hb
  subst e
  exact I1.fpOk (Nat.le_refl _) (I1.hok.fresh (Nat.le_refl _))
theorem wq0 {l : Expr} {tl : TE} (hl : PE X l tl) : PI X tg l (iTup X.K tl) := by
  intro pins s σ H R I h
  refine thn (hl pins s σ H _ I h) fun v s1 ⟨x, H1, I1, r1, q1⟩ => ?_
  obtain ⟨a, e, ⟨xs, hq⟩, q⟩ := q1
  subst e
  cases r1
  obtain ⟨its, rv, p, hz⟩ := I1.tuple hq
  refine wpAny_pyIter_tuple (show s1.heap.IsTuple a its.toArray from p) ?_
  refine ⟨s1.heap.objs.size, [s1.heap.objs.size], _, _, H1, rfl, I1.kept (t' := s1.toks) fun b o e => Heap.get?_push_of_some _ e, qq6 a _, ⟨_, Heap.get?_push_size _ rfl, rfl, rfl⟩, fun b hb => ?_, q⟩
  have e : b = s1.heap.objs.size := by simpa using hb
  subst e
  exact I1.fpOk (Nat.le_refl _) (I1.hok.fresh (Nat.le_refl _))
theorem uqk {pins : List (Addr × Obj)} {σ : St} {H : Hp} {s : Shared} {R : It → Hp → Prop} {E : Value → Shared → Prop} {lo hi : Int} {t u v : Tok} {tk : Nat} (I : Inv X pins σ H s) (h1 : -(2 ^ 62) ≤ lo) (h2 : lo < 2 ^ 62) (h3 : -(2 ^ 62) ≤ hi) (h4 : hi < 2 ^ 62)
    (q : R (Itr lo (hi - lo).toNat) H) : wpAny (model X.prog X.w) X.A (pyIter (.ref s.heap.objs.size)) (PIE X pins σ tg R) E { s with heap := s.heap.push { cls := .type "range", data := .fields #[.int lo t, .int hi u, .int 1 v] }, toks := tk } := by
  refine wpAny_pyIter_range (IsRange.new ..) (small_one h1 h2 h3 h4) ?_
  have I1 : Inv X pins σ H { s with heap := s.heap.push { cls := .type "range", data := .fields #[.int lo t, .int hi u, .int 1 v] }, toks := tk } := I.kept fun b o e => Heap.get?_push_of_some _ e
  refine ⟨(s.heap.push { cls := .type "range", data := .fields #[.int lo t, .int hi u, .int 1 v] }).objs.size, [(s.heap.push { cls := .type "range", data := .fields #[.int lo t, .int hi u, .int 1 v] }).objs.size], _, _, H, rfl,
    I1.kept (t' := tk) fun b o e => Heap.get?_push_of_some _ e, rqe _ lo (hi - lo).toNat, ?_, fun b hb => ?_, q⟩
  · have e1 : lo + ((0 : Nat) : Int) * 1 = lo := by simp
    have e2 : (((hi - lo).toNat : Nat) : Int) - ((0 : Nat) : Int) = Builtin.Range.rangeSize lo hi 1 := by rw [rangeSize_one]; split <;> omega
    show IsRangeIter _ _ (lo + ((0 : Nat) : Int) * 1) ((((hi - lo).toNat : Nat) : Int) - ((0 : Nat) : Int)) 1
    rw [e1, e2]
    exact Heap.get?_push_size _ rfl
  · have e : b = (s.heap.push { cls := .type "range", data := .fields #[.int lo t, .int hi u, .int 1 v] }).objs.size := by simpa using hb
    subst e
    exact I1.fpOk (Nat.le_refl _) (I1.hok.fresh (Nat.le_refl _))
def iRng1 (ta : TA) : TI := fun σ H R => ta σ H fun vs H1 => ∃ j : Int, vs = [.int j] ∧ -(2 ^ 62) ≤ j ∧ j < 2 ^ 62 ∧ R (Itr 0 j.toNat) H1
theorem lqM {a : Expr} {ta : TA} {p pos : Pos} (hg : Gl X "range") (hm : X.mg "range" = none) (ha : PA X [a] ta) (hs : starEach [a] X.env = [(false, eval a X.env)] := by rfl) : PI X tg (.Call (.Name "range" p) [a] [] pos) (iRng1 ta) := by
  intro pins s σ H R I h
  refine Call_ (pqb I hg hm boot_range (PyProof.Rows.callWith_type1 (thn (ha pos pins s σ H _ I h) fun us s1 ⟨vs, H1, I1, r1, q1⟩ => ?_) hs rfl))
  obtain ⟨j, e, q1, q2, q⟩ := q1
  subst e
  cases r1 with
  | cons r rr =>
    cases rr
    obtain ⟨t, rfl⟩ := r
    exact call_range_1 (uqk I1 (by omega) (by omega) q1 q2 (by simpa using q))
def tFor (wi : TI) (g : TG) (tb : TS) : TS := fun D σ H => wi σ H fun J H1 => ∃ W : Nat → Nat → St → Hp → Prop, (∃ m, W 0 m σ H1) ∧ ∀ i m σ H, W i m σ H →
  (J.stop i H ∧ D.nx σ H) ∨ (J.go i H ∧ ∃ N : St → Hp → Prop, (∀ σ' H', N σ' H' → ∃ m', m' < m ∧ W (i + 1) m' σ' H') ∧ ∀ x H', J.yld i H x H' → g x σ H' fun σ2 H2 => tb { D with nx := N, ct := N, bk := D.nx } σ2 H2)
def pinsAt (fp : List Addr) (h : Heap) : List (Addr × Obj) := fp.filterMap fun b => (h.get? b).map fun o => (b, o)
theorem eqC {fp : List Addr} {h : Heap} {b : Addr} {o : Obj} (hb : b ∈ fp) (e : h.get? b = some o) : (b, o) ∈ pinsAt fp h := List.mem_filterMap.mpr ⟨b, hb, by rw [e]; rfl⟩
theorem rqx {fp : List Addr} {h : Heap} {p : Addr × Obj} (hp : p ∈ pinsAt fp h) : p.1 ∈ fp ∧ h.get? p.1 = some p.2 := by
  obtain ⟨b, hb, e⟩ := List.mem_filterMap.mp hp
  cases q : h.get? b with
  | none => rw [q] at e; cases e
  | some o =>
    rw [q] at e
    have e' : (b, o) = p := Option.some.inj e
    subst e'
    exact ⟨hb, q⟩
theorem Inv.pinned {pins : List (Addr × Obj)} {σ : St} {H : Hp} {s : Shared} {fp : List Addr} (I : Inv X pins σ H s) (hf : ∀ b ∈ fp, FpOk X pins H b) (ho : ∀ b ∈ fp, ∃ o, s.heap.get? b = some o ∧ ∀ v, o.data ≠ .cell v) : Inv X (pins ++ pinsAt fp s.heap) σ H s :=
  I.pins_of fun p hp => (List.mem_append.mp hp).elim (fun z => I.pin p (List.mem_append_right _ z)) fun z => by
    obtain ⟨hb, e⟩ := rqx z
    obtain ⟨f0, f1, f2, _⟩ := hf p.1 hb
    obtain ⟨o, e', d⟩ := ho p.1 hb
    rw [e] at e'; cases e'
    exact ⟨e, f0, f1, f2, d⟩
theorem Inv.unpinned {pins pl : List (Addr × Obj)} {σ : St} {H : Hp} {s : Shared} (I : Inv X (pins ++ pl) σ H s) : Inv X pins σ H s := I.pins_of fun p hp => I.pin p (List.mem_append_right _ (List.mem_append_left _ hp))
theorem iqb {iter : Expr} {body : List Stmt} {wi : TI} {g : TG} {tb : TS} {pos : Pos} (hp : PassesOwn (model X.prog X.w) X.A X.env X.xe) (hc : X.calm = true) (hi : PI X tg iter wi) (hg : PG X tg g) (hb : PSs X body tb)
    (hs : ∀ x, foldedSetIterable iter X.env x = pure x := by intro _; rfl) : PS X (.For tg iter body [] pos) (tFor wi g tb) := by
  intro pins s σ H D I h
  refine wpAny_For (thn (hi pins s σ H _ I h) fun v s1 h1 => thn h1 fun itv s2 h2 => ?_) hs
  obtain ⟨it, fp, tn, J, H2, e, I2, T, st2, f2, W, ⟨m0, w0⟩, turn⟩ := h2
  subst e
  have stat : ∀ {H' : Hp}, (∀ b ∈ fp, H' b = none) → ∀ b ∈ fp, FpOk X pins H' b := fun hn b hb => ⟨hn b hb, (f2 b hb).2⟩
  refine codeAny_forLoop_any (fun n s' => ∃ i σ' H', Inv X pins σ' H' s' ∧ tn i s'.heap ∧ (∀ b ∈ fp, H' b = none) ∧ W i n σ' H') ?_ m0 ⟨0, σ, H2, I2, st2, fun b hb => (f2 b hb).1, w0⟩
  rintro n s3 ⟨i, σ3, H3, I3, st3, fr3, w3⟩
  rcases turn i n σ3 H3 w3 with ⟨stop, qn⟩ | ⟨go, N, hN, step⟩
  · refine wpAny_passesOwn hp (thn (T.done X rfl rfl rfl hc i pins s3 σ3 H3 X.xe I3 (stat fr3) st3 stop) fun r s4 ⟨hr, I4⟩ => ?_)
    subst hr
    exact wpAny_execs_nil ⟨σ3, H3, I4, qn⟩
  · refine wpAny_passesOwn hp (thn (T.item X rfl rfl rfl hc i pins s3 σ3 H3 X.xe I3 (stat fr3) st3 go) fun r s4 ⟨u, hr, h4⟩ => ?_)
    subst hr
    refine wpAny_passesOwn hp (thn h4 fun _ s5 ⟨x, H5, I5, r5, y5, st5, fr5⟩ => ?_)
    have I5' := I5.pinned (stat fr5) (T.obj _ _ st5)
    refine wpAny_passesOwn hp (thn (hg _ s5 σ3 H5 x u _ I5' r5 (step x H5 y5)) fun _ s6 ⟨σ6, H6, I6, q6⟩ => ?_)
    refine wpAny_passesOwn hp (thn (hb _ s6 σ6 H6 _ I6 q6) fun f s7 q7 => ?_)
    have again : ∀ {σ7 : St} {H7 : Hp}, Inv X (pins ++ pinsAt fp s5.heap) σ7 H7 s7 → N σ7 H7 → ∃ m, m < n ∧ ∃ i σ' H', Inv X pins σ' H' s7 ∧ tn i s7.heap ∧ (∀ b ∈ fp, H' b = none) ∧ W i m σ' H' := fun {σ7 H7} I7 n7 => by
      obtain ⟨m', hm, w7⟩ := hN σ7 H7 n7
      refine ⟨m', hm, i + 1, σ7, H7, I7.unpinned, T.keep _ _ _ st5 fun b hb o e => (I7.pin (b, o) (List.mem_append_right _ (List.mem_append_right _ (eqC hb e)))).1, fun b hb => ?_, w7⟩
      obtain ⟨o, e, d⟩ := T.obj _ _ st5 b hb
      exact (I7.pin (b, o) (List.mem_append_right _ (List.mem_append_right _ (eqC hb e)))).2.1
    cases f with
    | next => obtain ⟨σ7, H7, I7, n7⟩ := q7; exact again I7 n7
    | cont => obtain ⟨σ7, H7, I7, n7⟩ := q7; exact again I7 n7
    | brk => obtain ⟨σ7, H7, I7, q7⟩ := q7; exact ⟨σ7, H7, I7.unpinned, q7⟩
    | ret v => obtain ⟨x7, σ7, H7, I7, r7, q7⟩ := q7; exact ⟨x7, σ7, H7, I7.unpinned, r7, q7⟩
end
theorem uqh {K : PySem.W.Frag} {a : Addr} {xs : List V} {g : TG} {tb : TS} {D : Ends} {σ : St} {H : Hp} (Pv : Nat → St → Hp → Prop) (h0 : Pv 0 σ H) (hl : ∀ i σ H, i ≤ xs.length → Pv i σ H → SqL K H a xs)
    (hs : ∀ i x σ H, xs[i]? = some x → Pv i σ H → g x σ H fun σ2 H2 => tb { D with nx := Pv (i + 1), ct := Pv (i + 1), bk := D.nx } σ2 H2) (hd : ∀ σ H, Pv xs.length σ H → D.nx σ H) :
    ∃ W : Nat → Nat → St → Hp → Prop, (∃ m, W 0 m σ H) ∧ ∀ i m σ H, W i m σ H →
      ((Itl K a).stop i H ∧ D.nx σ H) ∨ ((Itl K a).go i H ∧ ∃ N : St → Hp → Prop, (∀ σ' H', N σ' H' → ∃ m', m' < m ∧ W (i + 1) m' σ' H') ∧ ∀ x H', (Itl K a).yld i H x H' → g x σ H' fun σ2 H2 => tb { D with nx := N, ct := N, bk := D.nx } σ2 H2) := by
  refine ⟨fun i m σ H => m = xs.length - i ∧ i ≤ xs.length ∧ Pv i σ H, ⟨xs.length, by simp, Nat.zero_le _, h0⟩, ?_⟩
  rintro i m σ H ⟨rfl, hi, p⟩
  have q := hl i σ H hi p
  by_cases hlt : i < xs.length
  · refine .inr ⟨⟨xs, xs[i], q, by simp [hlt]⟩, Pv (i + 1), fun σ' H' p' => ⟨xs.length - (i + 1), by omega, rfl, hlt, p'⟩, fun x H' y => ?_⟩
    obtain ⟨e, y⟩ := y
    subst e
    exact hs i x σ _ (y xs q) p
  · have e : i = xs.length := by omega
    subst e
    exact .inl ⟨⟨xs, q, Nat.le_refl _⟩, hd σ H p⟩
theorem wqu {K : PySem.W.Frag} {a : Addr} {xs : List V} {g : TG} {tb : TS} {D : Ends} {σ : St} {H : Hp} (Pv : Nat → St → Hp → Prop) (h0 : Pv 0 σ H) (hl : ∀ i σ H, i ≤ xs.length → Pv i σ H → SqT K H a xs)
    (hs : ∀ i x σ H, xs[i]? = some x → Pv i σ H → g x σ H fun σ2 H2 => tb { D with nx := Pv (i + 1), ct := Pv (i + 1), bk := D.nx } σ2 H2) (hd : ∀ σ H, Pv xs.length σ H → D.nx σ H) :
    ∃ W : Nat → Nat → St → Hp → Prop, (∃ m, W 0 m σ H) ∧ ∀ i m σ H, W i m σ H →
      ((Itt K a).stop i H ∧ D.nx σ H) ∨ ((Itt K a).go i H ∧ ∃ N : St → Hp → Prop, (∀ σ' H', N σ' H' → ∃ m', m' < m ∧ W (i + 1) m' σ' H') ∧ ∀ x H', (Itt K a).yld i H x H' → g x σ H' fun σ2 H2 => tb { D with nx := N, ct := N, bk := D.nx } σ2 H2) := by
  refine ⟨fun i m σ H => m = xs.length - i ∧ i ≤ xs.length ∧ Pv i σ H, ⟨xs.length, by simp, Nat.zero_le _, h0⟩, ?_⟩
  rintro i m σ H ⟨rfl, hi, p⟩
  have q := hl i σ H hi p
  by_cases hlt : i < xs.length
  · refine .inr ⟨⟨xs, xs[i], q, by simp [hlt]⟩, Pv (i + 1), fun σ' H' p' => ⟨xs.length - (i + 1), by omega, rfl, hlt, p'⟩, fun x H' y => ?_⟩
    obtain ⟨e, y⟩ := y
    subst e
    exact hs i x σ _ (y xs q) p
  · have e : i = xs.length := by omega
    subst e
    exact .inl ⟨⟨xs, q, Nat.le_refl _⟩, hd σ H p⟩
theorem rq7 {lo : Int} {n : Nat} {g : TG} {tb : TS} {D : Ends} {σ : St} {H : Hp} (Pv : Nat → St → Hp → Prop) (h0 : Pv 0 σ H)
    (hs : ∀ i σ H, i < n → Pv i σ H → g (.int (lo + i)) σ H fun σ2 H2 => tb { D with nx := Pv (i + 1), ct := Pv (i + 1), bk := D.nx } σ2 H2) (hd : ∀ σ H, Pv n σ H → D.nx σ H) :
    ∃ W : Nat → Nat → St → Hp → Prop, (∃ m, W 0 m σ H) ∧ ∀ i m σ H, W i m σ H →
      ((Itr lo n).stop i H ∧ D.nx σ H) ∨ ((Itr lo n).go i H ∧ ∃ N : St → Hp → Prop, (∀ σ' H', N σ' H' → ∃ m', m' < m ∧ W (i + 1) m' σ' H') ∧ ∀ x H', (Itr lo n).yld i H x H' → g x σ H' fun σ2 H2 => tb { D with nx := N, ct := N, bk := D.nx } σ2 H2) := by
  refine ⟨fun i m σ H => m = n - i ∧ i ≤ n ∧ Pv i σ H, ⟨n, by simp, Nat.zero_le _, h0⟩, ?_⟩
  rintro i m σ H ⟨rfl, hi, p⟩
  by_cases hlt : i < n
  · refine .inr ⟨hlt, Pv (i + 1), fun σ' H' p' => ⟨n - (i + 1), by omega, rfl, hlt, p'⟩, fun x H' y => ?_⟩
    obtain ⟨e, y⟩ := y
    subst e y
    exact hs i σ _ hlt p
  · have e : i = n := by omega
    subst e
    exact .inl ⟨Nat.le_refl _, hd σ H p⟩
end L2
namespace L2
open PySem PySem.Spec PyProof.Rows
abbrev R2 := V → V → Hp → VK → Prop
def OpR (X : Cx) (f : Value → Value → Sem Value) (r : R2) : Prop :=
  ∀ (pins : List (Addr × Obj)) (s : Shared) (σ : St) (H : Hp) (x y : V) (v u : Value) (Q : VK), Inv X pins σ H s → RelV x v → RelV y u → r x y H Q →
    wpAny (model X.prog X.w) X.A (f v u) (EP X pins σ Q) X.xe s
def UnR (X : Cx) (f : Value → Sem Value) (r : V → Hp → VK → Prop) : Prop :=
  ∀ (pins : List (Addr × Obj)) (s : Shared) (σ : St) (H : Hp) (x : V) (v : Value) (Q : VK), Inv X pins σ H s → RelV x v → r x H Q →
    wpAny (model X.prog X.w) X.A (f v) (EP X pins σ Q) X.xe s
def CallR (X : Cx) (f : Value) (r : List V → Hp → VK → Prop) : Prop :=
  ∀ (pins : List (Addr × Obj)) (s : Shared) (σ : St) (H : Hp) (xs : List V) (us : List Value) (Q : VK), Inv X pins σ H s → Vals xs us → r xs H Q →
    wpAny (model X.prog X.w) X.A (call f us) (EP X pins σ Q) X.xe s
def tOp (r : R2) (ta tb : TE) : TE := fun σ H Q => ta σ H fun x H1 => tb σ H1 fun y H2 => r x y H2 Q
def tUn (r : V → Hp → VK → Prop) (ta : TE) : TE := fun σ H Q => ta σ H fun x H1 => r x H1 Q
def rI (C : Int → Int → Prop) (g : Int → Int → V) : R2 := fun x y H Q => ∃ i j, x = .int i ∧ y = .int j ∧ C i j ∧ Q (g i j) H
def rI0 (g : Int → Int → V) : R2 := fun x y H Q => ∃ i j, x = .int i ∧ y = .int j ∧ Q (g i j) H
def rU (g : Int → V) : V → Hp → VK → Prop := fun x H Q => ∃ i, x = .int i ∧ Q (g i) H
section
variable {X : Cx} {a b c : Expr} {ta tb tc : TE} {pos : Pos}
theorem binT (ha : PE X a ta) (hb : PE X b tb) {pins : List (Addr × Obj)} {s : Shared} {σ : St} {H : Hp} {R : V → V → Hp → Prop} (I : Inv X pins σ H s)
    (h : ta σ H fun x H1 => tb σ H1 fun y H2 => R x y H2) {Q : Value → Shared → Prop} {f : Value → Value → Sem Value}
    (hf : ∀ v u s2 x y H2, Inv X pins σ H2 s2 → RelV x v → RelV y u → R x y H2 → wpAny (model X.prog X.w) X.A (f v u) Q X.xe s2) :
    wpAny (model X.prog X.w) X.A (eval a X.env) (fun v s₁ => wpAny (model X.prog X.w) X.A (eval b X.env) (fun u s₂ => wpAny (model X.prog X.w) X.A (f v u) Q X.xe s₂) X.xe s₁) X.xe s := by
  refine thn (ha pins s σ H _ I h) fun v s1 ⟨x, H1, I1, r1, q1⟩ => ?_
  refine thn (hb pins s1 σ H1 _ I1 q1) fun u s2 ⟨y, H2, I2, r2, q2⟩ => ?_
  exact hf v u s2 x y H2 I2 r1 r2 q2
theorem aqm {op : Operator} {r : R2} (ho : OpR X (binaryOp op) r) (ha : PE X a ta) (hb : PE X b tb) : PE X (.BinOp a op b pos) (tOp r ta tb) := by
  intro pins s σ H Q I h
  exact wpAny_BinOp (binT ha hb I h fun v u s2 x y H2 I2 rx ry q => ho pins s2 σ H2 x y v u Q I2 rx ry q)
theorem oqc {op : UnaryOp} {r : V → Hp → VK → Prop} (ho : UnR X (unaryOp op) r) (ha : PE X a ta) : PE X (.UnaryOp op a pos) (tUn r ta) := by
  intro pins s σ H Q I h
  exact UnaryOp_ (thn (ha pins s σ H _ I h) fun v s1 ⟨x, H1, I1, r1, q1⟩ => ho pins s1 σ H1 x v Q I1 r1 q1)
theorem opI {f : Value → Value → Sem Value} {C : Int → Int → Prop} {g : Int → Int → Int}
    (rule : ∀ (i j : Int) (t u : Tok) (s : Shared) (Q : Value → Shared → Prop) (E : Value → Shared → Prop), C i j → Q (.int (g i j) s.toks) { s with toks := s.toks + 1 } → wpAny (model X.prog X.w) X.A (f (.int i t) (.int j u)) Q E s) :
    OpR X f (rI C fun i j => .int (g i j)) := by
  intro pins s σ H x y v u Q I rx ry h
  obtain ⟨i, j, rfl, rfl, hc, q⟩ := h
  obtain ⟨t, rfl⟩ := rx
  obtain ⟨t', rfl⟩ := ry
  exact rule i j t t' s _ _ hc ⟨.int (g i j), H, I.tok _, ⟨_, rfl⟩, q⟩
theorem opI0 {f : Value → Value → Sem Value} {g : Int → Int → Int}
    (rule : ∀ (i j : Int) (t u : Tok) (s : Shared) (Q : Value → Shared → Prop) (E : Value → Shared → Prop), Q (.int (g i j) s.toks) { s with toks := s.toks + 1 } → wpAny (model X.prog X.w) X.A (f (.int i t) (.int j u)) Q E s) :
    OpR X f (rI0 fun i j => .int (g i j)) := by
  intro pins s σ H x y v u Q I rx ry h
  obtain ⟨i, j, rfl, rfl, q⟩ := h
  obtain ⟨t, rfl⟩ := rx
  obtain ⟨t', rfl⟩ := ry
  exact rule i j t t' s _ _ ⟨.int (g i j), H, I.tok _, ⟨_, rfl⟩, q⟩
theorem opB0 {f : Value → Value → Sem Value} {g : Int → Int → Bool}
    (rule : ∀ (i j : Int) (t u : Tok) (s : Shared) (Q : Value → Shared → Prop) (E : Value → Shared → Prop), Q (.bool (g i j)) s → wpAny (model X.prog X.w) X.A (f (.int i t) (.int j u)) Q E s) :
    OpR X f (rI0 fun i j => .bl (g i j)) := by
  intro pins s σ H x y v u Q I rx ry h
  obtain ⟨i, j, rfl, rfl, q⟩ := h
  obtain ⟨t, rfl⟩ := rx
  obtain ⟨t', rfl⟩ := ry
  exact rule i j t t' s _ _ ⟨.bl (g i j), H, I, rfl, q⟩
def CDiv (i j : Int) : Prop := 0 < j ∧ j < 1073741824
def CPow (i j : Int) : Prop := 0 ≤ j ∧ j ≤ 1000000 ∧ i.natAbs < 2 ^ 64
def CMul (i j : Int) : Prop := (-(2 ^ 64) < i ∧ i < 2 ^ 64) ∨ (-(2 ^ 64) < j ∧ j < 2 ^ 64)
theorem CMul.ok {i j : Int} (h : CMul i j) : IntMulOk i j := by
  rcases h with ⟨h1, h2⟩ | ⟨h1, h2⟩
  · exact .of_left (intBits_le_64 h1 h2)
  · exact .of_right (intBits_le_64 h1 h2)
theorem xq7 : OpR X (binaryOp .Add) (rI0 fun i j => .int (i + j)) := opI0 fun _ _ _ _ _ _ _ q => add_int q
theorem mqI : OpR X (binaryOp .Sub) (rI0 fun i j => .int (i - j)) := opI0 fun _ _ _ _ _ _ _ q => sub_int q
theorem wq8 : OpR X (binaryOp .Mult) (rI CMul fun i j => .int (i * j)) := opI fun _ _ _ _ _ _ _ hc q => mul_int q hc.ok
theorem aqS : OpR X (binaryOp .FloorDiv) (rI CDiv fun i j => .int (i / j)) := opI fun i j _ _ _ _ _ hc q => by
  have h1 : (0 : Int) < j := hc.1
  have h2 : j < 1073741824 := hc.2
  exact floordiv_int (by omega) (by rw [Int.fdiv_eq_ediv_of_nonneg i (by omega)]; exact q) (.inl (PyProof.noPylong_small (by omega)))
theorem aqW : OpR X (binaryOp .Mod) (rI (fun _ j => 0 < j) fun i j => .int (i % j)) := opI fun i j _ _ _ _ _ hc q => by
  have h1 : (0 : Int) < j := hc
  exact mod_int' (by omega) (by rw [Int.fmod_eq_emod_of_nonneg i (by omega)]; exact q)
theorem wq1 : OpR X (binaryOp .Pow) (rI CPow fun i j => .int (i ^ j.toNat)) := opI fun _ _ _ _ _ _ _ hc q => pow_int_small hc.1 hc.2.1 hc.2.2 q
theorem unI {f : Value → Sem Value} {g : Int → Int}
    (rule : ∀ (i : Int) (t : Tok) (s : Shared) (Q : Value → Shared → Prop) (E : Value → Shared → Prop), Q (.int (g i) s.toks) { s with toks := s.toks + 1 } → wpAny (model X.prog X.w) X.A (f (.int i t)) Q E s) :
    UnR X f (rU fun i => .int (g i)) := by
  intro pins s σ H x v Q I rx h
  obtain ⟨i, rfl, q⟩ := h
  obtain ⟨t, rfl⟩ := rx
  exact rule i t s _ _ ⟨.int (g i), H, I.tok _, ⟨_, rfl⟩, q⟩
theorem jqX : UnR X (unaryOp .USub) (rU fun i => .int (-i)) := unI fun _ _ _ _ _ q => neg_int q
end
def scal : V → V → Bool
  | .non, .non => true | .non, .int _ => true | .int _, .non => true | .non, .bl _ => true | .bl _, .non => true | .non, .str _ => true | .str _, .non => true
  | .int _, .int _ => true | .bl _, .bl _ => true | .str _, .str _ => true | .byt _, .byt _ => true
  | .int _, .str _ => true | .str _, .int _ => true | .bl _, .str _ => true | .str _, .bl _ => true
  | _, _ => false
def rEq : R2 := fun x y H Q => scal x y = true ∧ Q (.bl (decide (x = y))) H
def rNe : R2 := fun x y H Q => scal x y = true ∧ Q (.bl (!decide (x = y))) H
theorem sqM {i j : Int} : decide (V.int i = V.int j) = (i == j) := by
  rw [Bool.eq_iff_iff]
  simp
theorem uqV {i j : Bool} : decide (V.bl i = V.bl j) = (i == j) := by
  rw [Bool.eq_iff_iff]
  simp
theorem sqC {i j : Str} : decide (V.str i = V.str j) = (i == j) := by
  rw [Bool.eq_iff_iff]
  simp
theorem sqY {i j : Array UInt8} : decide (V.byt i = V.byt j) = (i.toList == j.toList) := by
  rw [Bool.eq_iff_iff]
  cases i
  cases j
  simp
section
variable {X : Cx} {a b c : Expr} {ta tb tc : TE} {pos : Pos}
theorem aq7 {pins : List (Addr × Obj)} {σ : St} {H : Hp} {s : Shared} {Q : VK} {k k' : Bool} (I : Inv X pins σ H s) (q : Q (.bl k) H) (e : k = k') : EP X pins σ Q (.bool k') s := by
  subst e
  exact ⟨.bl k, H, I, rfl, q⟩
theorem eqc : OpR X (compareOp .Eq) rEq := by
  intro pins s σ H x y v u Q I rx ry h
  obtain ⟨hs, q⟩ := h
  cases x with
  | non =>
    cases rx
    cases y with
    | non => cases ry; exact PySem.EqNone.eq_none_none (aq7 I q (by simp))
    | bl j => cases ry; exact PySem.EqNone.eq_none_bool (aq7 I q (by simp))
    | int j => obtain ⟨t', rfl⟩ := ry; exact PySem.EqNone.eq_none_int (aq7 I q (by simp))
    | str j => obtain ⟨t', rfl⟩ := ry; exact PySem.EqNone.eq_none_str (aq7 I q (by simp))
    | _ => exact absurd (show false = true from hs) Bool.false_ne_true
  | bl i =>
    cases rx
    cases y with
    | non => cases ry; exact PySem.EqNone.eq_bool_none (aq7 I q (by simp))
    | bl j => cases ry; exact eq_bool (aq7 I q uqV)
    | str j => obtain ⟨t', rfl⟩ := ry; exact PySem.EqMixed.eq_bool_str (aq7 I q (by simp))
    | _ => exact absurd (show false = true from hs) Bool.false_ne_true
  | int i =>
    obtain ⟨t, rfl⟩ := rx
    cases y with
    | non => cases ry; exact PySem.EqNone.eq_int_none (aq7 I q (by simp))
    | int j => obtain ⟨t', rfl⟩ := ry; exact eq_int (aq7 I q sqM)
    | str j => obtain ⟨t', rfl⟩ := ry; exact PySem.EqMixed.eq_int_str (aq7 I q (by simp))
    | _ => exact absurd (show false = true from hs) Bool.false_ne_true
  | str i =>
    obtain ⟨t, rfl⟩ := rx
    cases y with
    | non => cases ry; exact PySem.EqNone.eq_str_none (aq7 I q (by simp))
    | bl j => cases ry; exact PySem.EqMixed.eq_str_bool (aq7 I q (by simp))
    | int j => obtain ⟨t', rfl⟩ := ry; exact PySem.EqMixed.eq_str_int (aq7 I q (by simp))
    | str j => obtain ⟨t', rfl⟩ := ry; exact eq_str (aq7 I q sqC)
    | _ => exact absurd (show false = true from hs) Bool.false_ne_true
  | byt i =>
    obtain ⟨t, rfl⟩ := rx
    cases y with
    | byt j => obtain ⟨t', rfl⟩ := ry; exact PySem.W.eq_bytes (aq7 I q sqY)
    | _ => exact absurd (show false = true from hs) Bool.false_ne_true
  | _ => cases y <;> exact absurd (show false = true from hs) Bool.false_ne_true
theorem hqX : OpR X (compareOp .NotEq) rNe := by
  intro pins s σ H x y v u Q I rx ry h
  obtain ⟨hs, q⟩ := h
  cases x with
  | non =>
    cases rx
    cases y with
    | non => cases ry; exact PySem.EqNone.ne_none_none (aq7 I q (by simp))
    | bl j => cases ry; exact PySem.EqNone.ne_none_bool (aq7 I q (by simp))
    | int j => obtain ⟨t', rfl⟩ := ry; exact PySem.EqNone.ne_none_int (aq7 I q (by simp))
    | str j => obtain ⟨t', rfl⟩ := ry; exact PySem.EqNone.ne_none_str (aq7 I q (by simp))
    | _ => exact absurd (show false = true from hs) Bool.false_ne_true
  | bl i =>
    cases rx
    cases y with
    | non => cases ry; exact PySem.EqNone.ne_bool_none (aq7 I q (by simp))
    | bl j => cases ry; exact ne_bool (aq7 I q (congrArg not uqV))
    | str j => obtain ⟨t', rfl⟩ := ry; exact PySem.EqMixed.ne_bool_str (aq7 I q (by simp))
    | _ => exact absurd (show false = true from hs) Bool.false_ne_true
  | int i =>
    obtain ⟨t, rfl⟩ := rx
    cases y with
    | non => cases ry; exact PySem.EqNone.ne_int_none (aq7 I q (by simp))
    | int j => obtain ⟨t', rfl⟩ := ry; exact ne_int (aq7 I q (congrArg not sqM))
    | str j => obtain ⟨t', rfl⟩ := ry; exact PySem.EqMixed.ne_int_str (aq7 I q (by simp))
    | _ => exact absurd (show false = true from hs) Bool.false_ne_true
  | str i =>
    obtain ⟨t, rfl⟩ := rx
    cases y with
    | non => cases ry; exact PySem.EqNone.ne_str_none (aq7 I q (by simp))
    | bl j => cases ry; exact PySem.EqMixed.ne_str_bool (aq7 I q (by simp))
    | int j => obtain ⟨t', rfl⟩ := ry; exact PySem.EqMixed.ne_str_int (aq7 I q (by simp))
    | str j => obtain ⟨t', rfl⟩ := ry; exact ne_str (aq7 I q (congrArg not sqC))
    | _ => exact absurd (show false = true from hs) Bool.false_ne_true
  | byt i =>
    obtain ⟨t, rfl⟩ := rx
    cases y with
    | byt j => obtain ⟨t', rfl⟩ := ry; exact PySem.W.ne_bytes (aq7 I q (congrArg not sqY))
    | _ => exact absurd (show false = true from hs) Bool.false_ne_true
  | _ => cases y <;> exact absurd (show false = true from hs) Bool.false_ne_true
theorem pqi : OpR X (compareOp .Lt) (rI0 fun i j => .bl (decide (i < j))) := opB0 fun _ _ _ _ _ _ _ q => lt_int q
theorem yqA : OpR X (compareOp .LtE) (rI0 fun i j => .bl (decide (i ≤ j))) := opB0 fun _ _ _ _ _ _ _ q => le_int q
theorem kql : OpR X (compareOp .Gt) (rI0 fun i j => .bl (decide (j < i))) := opB0 fun _ _ _ _ _ _ _ q => gt_int q
theorem sqc : OpR X (compareOp .In) (fun x y H Q => ∃ i j, x = .str i ∧ y = .str j ∧ Q (.bl (!(Builtin.Str.occurrences j i 0 j.length 1).isEmpty)) H) := by
  intro pins s σ H x y v u Q I rx ry h
  obtain ⟨i, j, rfl, rfl, q⟩ := h
  obtain ⟨t, rfl⟩ := rx
  obtain ⟨t', rfl⟩ := ry
  exact in_str (aq7 I q rfl)
theorem yqe : OpR X (compareOp .Is) (fun x y H Q => y = .non ∧ Q (.bl (decide (x = .non))) H) := by
  intro pins s σ H x y v u Q I rx ry h
  obtain ⟨rfl, q⟩ := h
  cases ry
  refine is_none_gen (aq7 I q ?_)
  cases x <;> first
    | (cases rx; rfl)
    | (obtain ⟨t, rfl⟩ := rx; rfl)
theorem vqZ : OpR X (compareOp .IsNot) (fun x y H Q => y = .non ∧ Q (.bl (!decide (x = .non))) H) := by
  intro pins s σ H x y v u Q I rx ry h
  obtain ⟨rfl, q⟩ := h
  cases ry
  refine isnot_none_gen (aq7 I q ?_)
  cases x <;> first
    | (cases rx; rfl)
    | (obtain ⟨t, rfl⟩ := rx; rfl)
theorem nomark (b : Expr) {op : CmpOp} (h : op ≠ .In := by decide) (h2 : op ≠ .NotIn := by decide) : behindInMarks op b = false := by
  have e1 : (op == CmpOp.In) = false := by cases op <;> first | rfl | exact absurd rfl h
  have e2 : (op == CmpOp.NotIn) = false := by cases op <;> first | rfl | exact absurd rfl h2
  cases b <;> simp [behindInMarks, e1, e2]
theorem aq4 {op : CmpOp} {r : R2} (ho : OpR X (compareOp op) r) (ha : PE X a ta) (hb : PE X b tb) (hm : behindInMarks op b = false) : PE X (.Compare a [op] [b] pos) (tOp r ta tb) := by
  intro pins s σ H Q I h
  exact wpAny_Compare1 (binT ha hb I h fun v u s2 x y H2 I2 rx ry q => ho pins s2 σ H2 x y v u Q I2 rx ry q) hm
def tTest (t : TE) : TT := fun σ H Q => t σ H fun x H' => ∃ k, x = .bl k ∧ Q k H'
theorem aqk {op : CmpOp} {r : R2} (ho : OpR X (compareOp op) r) (ha : PE X a ta) (hb : PE X b tb) (hm : behindInMarks op b = false) : PT X (.Compare a [op] [b] pos) (tTest (tOp r ta tb)) := by
  intro pins s σ H Q I h
  refine wpAny_isTrue_Compare1 (thn (ha pins s σ H _ I h) fun v s1 ⟨x, H1, I1, r1, q1⟩ => thn (hb pins s1 σ H1 _ I1 q1) fun u s2 ⟨y, H2, I2, r2, q2⟩ =>
    thn (ho pins s2 σ H2 x y v u _ I2 r1 r2 q2) fun c s3 ⟨z, H3, I3, r3, k, e, q3⟩ => ?_) hm
  subst e
  cases r3
  exact wpAny_truthy_bool ⟨H3, I3, q3⟩
def tChain (r r' : R2) (ta tb tc : TE) : TE := fun σ H Q => ta σ H fun x H1 => tb σ H1 fun y H2 => r x y H2 fun z H3 => ∃ k, z = .bl k ∧
  (if k = true then tc σ H3 fun w' H4 => r' y w' H4 Q else Q (.bl false) H3)
theorem line63 : (sizeLine : Nat) < 2 ^ 63 := by rw [sizeLine_eq]; decide
theorem qqX : OpR X (binaryOp .Add) (fun x y H Q => ∃ i j, x = .str i ∧ y = .str j ∧ i.length + j.length ≤ sizeLine ∧ Q (.str (i ++ j)) H) := by
  intro pins s σ H x y v u Q I rx ry h
  obtain ⟨i, j, rfl, rfl, hz, q⟩ := h
  obtain ⟨t, rfl⟩ := rx
  obtain ⟨t', rfl⟩ := ry
  exact add_str (fun t' tk => ⟨.str (i ++ j), H, I.tok _, ⟨_, rfl⟩, q⟩) hz
theorem vals1 {x : V} {us : List Value} (r : Vals [x] us) : ∃ u, us = [u] ∧ RelV x u := by
  cases r with
  | cons r1 r2 => cases r2; exact ⟨_, rfl, r1⟩
theorem vals2 {x y : V} {us : List Value} (r : Vals [x, y] us) : ∃ u w', us = [u, w'] ∧ RelV x u ∧ RelV y w' := by
  cases r with
  | cons r1 r2 =>
    cases r2 with
    | cons r3 r4 => cases r4; exact ⟨_, _, rfl, r1, r3⟩
theorem rqs (hc : X.calm = true) : CallR X (.builtin "min") (fun xs H Q => ∃ i j, xs = [.int i, .int j] ∧ Q (.int (if j < i then j else i)) H) := by
  intro pins s σ H xs us Q I r h
  obtain ⟨i, j, rfl, q⟩ := h
  obtain ⟨u, w', rfl, ⟨t, rfl⟩, ⟨t', rfl⟩⟩ := vals2 r
  refine min_two_ints (I.ok.hd hc) fun h' tk k => ⟨_, H, I.kept k, ?_, q⟩
  by_cases hj : j < i
  · rw [if_pos hj, if_pos hj]; exact ⟨_, rfl⟩
  · rw [if_neg hj, if_neg hj]; exact ⟨_, rfl⟩
theorem oqZ : CallR X (.type "int") (fun xs H Q => (∃ i, xs = [.int i] ∧ Q (.int i) H) ∨ ∃ k, xs = [.bl k] ∧ Q (.int (if k then 1 else 0)) H) := by
  intro pins s σ H xs us Q I r h
  rcases h with ⟨i, rfl, q⟩ | ⟨k, rfl, q⟩
  · obtain ⟨u, rfl, t, rfl⟩ := vals1 r
    exact call_int_int ⟨.int i, H, I, ⟨_, rfl⟩, q⟩
  · obtain ⟨u, rfl, r1⟩ := vals1 r
    cases r1
    exact call_int_bool ⟨.int (if k then 1 else 0), H, I.tok _, ⟨_, rfl⟩, q⟩
theorem jqR : CallR X (.type "str") (fun xs H Q => ∃ i, xs = [.int i] ∧ i.natAbs.log2 < 1920 ∧ Q (.str (toString i)) H) := by
  intro pins s σ H xs us Q I r h
  obtain ⟨i, rfl, hz, q⟩ := h
  obtain ⟨u, rfl, t, rfl⟩ := vals1 r
  exact PySem.P.str_of_int hz ⟨.str _, H, I.tok _, ⟨_, rfl⟩, q⟩
theorem tqw : CallR X (.builtin "ord") (fun xs H Q => ∃ x, xs = [.str x] ∧ x.length = 1 ∧ Q (.int (x.cps.getD 0 0 : Nat)) H) := by
  intro pins s σ H xs us Q I r h
  obtain ⟨x, rfl, hz, q⟩ := h
  obtain ⟨u, rfl, t, rfl⟩ := vals1 r
  exact ord_of_one hz ⟨.int _, H, I.tok _, ⟨_, rfl⟩, q⟩
end
end L2
namespace L2
open PySem PySem.Spec PyProof.Rows
structure ObjM (h : Heap) (x dx C : Addr) (mA : Str → Option Value) : Prop where
  obj : h.get? x = some (PySem.W.instObj C dx)
  ns : h.Ns1 dx mA
  ne : dx ≠ x
theorem sqI {h : Heap} {dx : Addr} {mA : Str → Option Value} (n : h.Ns1 dx mA) : ∃ od, h.get? dx = some od ∧ ∀ name, PySem.W.lookIn name od = some (mA name) := by
  obtain ⟨o, es, ep, ho, hd, hk, _, hm⟩ := n
  refine ⟨o, ho, fun name => ?_⟩
  have e := hm name
  unfold nsFind findBy at e
  rw [← Array.find?_toList] at e
  unfold PySem.W.lookIn
  rw [hd]
  dsimp only
  split
  · rename_i y q
    rw [q] at e
    exact congrArg some e
  · rename_i q
    rw [q] at e
    have a : es.toList.any (·.refKey) = false := by
      rw [List.any_eq_false]
      intro y hy
      obtain ⟨z, t, hkey⟩ := hk y (Array.mem_toList_iff.mp hy)
      simp [DictEntry.refKey, hkey]
    have a' : ¬ es.toList.any (·.refKey) = true := by rw [a]; exact Bool.false_ne_true
    rw [if_neg a']
    exact congrArg some e
theorem ObjM.look {h : Heap} {x dx C : Addr} {mA : Str → Option Value} (I : ObjM h x dx C mA) : ∃ od, PySem.W.InstAt h x (PySem.W.instObj C dx) C (some od) ∧ ∀ name, PySem.W.lookIn name od = some (mA name) :=
  let ⟨od, ho, hl⟩ := sqI I.ns
  ⟨od, ⟨I.obj, rfl, rfl, ho⟩, hl⟩
section
variable {prog : Program} {w : World} {A : Around} {E : Value → Shared → Prop} {s : Shared} {K : PySem.W.Frag} {x dx C f : Addr} {mA : Str → Option Value} {name : Str} {v : Value}
theorem vqn {expr : Bool} {Q : Value → Shared → Prop} (X : K.In s.heap) (I : ObjM s.heap x dx C mA) (hg : PySem.W.plainGet K C name = true) (hh : PySem.W.hasDictIn K C = true)
    (ha : PySem.W.findIn K (.ref C) name = some none) (hv : mA name = some v) (hv' : PySem.W.handedIn v = true) (h : Q v { s with toks := s.toks + 1 }) :
    wpAny (model prog w) A (getAttr (.ref x) name expr) Q E s := by
  obtain ⟨od, J, hl⟩ := I.look
  exact PySem.W.get_value X J (PySem.W.plainGet_of hg).1 (PySem.W.findObj_own hh ha rfl (by rw [hl, hv])) hv' h
theorem uqn {pl : Sem Bool} {Q : Value × List Value → Shared → Prop} (X : K.In s.heap) (I : ObjM s.heap x dx C mA) (hg : PySem.W.plainGet K C name = true)
    (hf : PySem.W.findIn K (.ref C) name = some (some (.ref f))) (ht : PySem.W.isFn K (.ref f) = true) (hv : mA name = none) (h : Q (.ref f, [.ref x]) s) :
    wpAny (model prog w) A (getMethod (.ref x) name pl) Q E s := by
  obtain ⟨od, J, hl⟩ := I.look
  exact PySem.W.method_fn X J (PySem.W.plainGet_of hg).1 (PySem.W.plainGet_of hg).2 hf (beq_iff_eq.mp ht) (by show (PySem.W.lookIn name od).map (·.isSome) = some false; rw [hl, hv]; rfl) h
theorem vqT {ns : List Str} {Q : Unit → Shared → Prop} (X : K.In s.heap) (I : ObjM s.heap x dx C mA)
    (hs : PySem.W.findIn K (.ref C) "__setattr__" = some (some (.builtin "object.__setattr__"))) (hp : PySem.W.plainOver K C = true) (ht : PySem.W.takerIn K C name = some none) (hh : PySem.W.hasDictIn K C = true)
    (hw : PySem.Within mA ns) (hsz : ns.length ≤ sizeLine)
    (h : ∀ h', ObjM h' x dx C (fun y => if y = name then some v else mA y) → Heap.SameBut dx s.heap h' → Q () { s with heap := h', toks := s.toks + 2 }) :
    wpAny (model prog w) A (setAttr (.ref x) name v) Q E s := by
  obtain ⟨od, J, hl⟩ := I.look
  refine PySem.W.set_plain X J hs (PySem.W.osa_open (s := { s with toks := s.toks + 1 }) (r := none) X J hp ht fun b => ?_)
  obtain ⟨cd, hc, hd'⟩ := PySem.W.any_some hh
  have hx : s.heap.get? x = some ⟨.ref C, some dx, .plain, #[]⟩ := I.obj
  refine wpAny_bind (wpAny_pure (wpAny_bind (wpAny_bind (wpAny_loadPart hx (wpAny_bind (PySem.W.Looks.here (s := { s with toks := s.toks + 1 }) (PySem.W.looks_clsIn X hc) ?_))))))
  rw [hd']
  refine wpAny_pure (a := some dx) (wpAny_bind (wpAny_pure (wpAny_bind ?_)))
  refine wpAny_nsSet1 (s := { s with toks := s.toks + 1 }) I.ns fun h' hn2 hs2 => ?_
  obtain ⟨oD, esD, epD, hoD, hdD, hcD⟩ := hn2.count (PySem.Within.cons name v hw)
  refine wpAny_bind (wpAny_lookBehind hoD (by rw [hdD]; exact pastItsLine_dict (Nat.le_trans hcD (by rw [List.length_cons]; omega))) ?_)
  exact wpAny_pure (h _ ⟨(hs2.2 _ (Ne.symm I.ne)).trans I.obj, hn2, I.ne⟩ hs2)
theorem uqd {R : Result → Shared → Prop} {vs : List Value} {kw : List (Str × Value)} (X : K.In s.heap) (hm : PySem.W.makesIn K C = true)
    (hi : PySem.W.findIn K (.ref C) "__init__" = some (some (.ref f))) (hf : PySem.W.typeIn K (.ref f) = some (.type "function"))
    (h : codeAny (model prog w) (A.under (.builtin "type.__call__" ⟨.ref C :: vs, kw⟩)) (.call (.ref f) ⟨.ref (s.heap.objs.size + 1) :: vs, kw⟩) (PySem.W.InitBack (s.heap.objs.size + 1) R)
      { s with heap := (s.heap.push PySem.W.emptyDict).push (PySem.W.instObj C s.heap.objs.size) }) :
    codeAny (model prog w) A (.call (.ref C) ⟨vs, kw⟩) R s := by
  obtain ⟨hh, g, d, t, os⟩ := s
  exact PySem.W.make_core (PySem.W.makes_of X hm) (PySem.W.looks_findIn X hi) (fun self => PySem.W.bind_fn X self hf) (.inl rfl) h
end
def putF (f : Str) (v : V) : List (Str × V) → List (Str × V)
  | [] => [(f, v)]
  | (g, x) :: r => if g = f then (g, v) :: r else (g, x) :: putF f v r
theorem lqL (f g : Str) (v : V) : ∀ fs : List (Str × V), (putF f v fs).lookup g = if g = f then some v else fs.lookup g
  | [] => by
    show List.lookup g [(f, v)] = _
    by_cases h : g = f
    · have hb : (g == f) = true := beq_iff_eq.mpr h
      simp only [List.lookup, hb, if_pos h]
    · have hb : (g == f) = false := beq_eq_false_iff_ne.mpr h
      simp only [List.lookup, hb, if_neg h]
  | (k, x) :: r => by
    have ih := lqL f g v r
    rw [show putF f v ((k, x) :: r) = (if k = f then (k, v) :: r else (k, x) :: putF f v r) from rfl]
    by_cases hk : k = f
    · rw [if_pos hk]
      by_cases h : g = k
      · have hb : (g == k) = true := beq_iff_eq.mpr h
        simp only [List.lookup, hb, if_pos (h.trans hk)]
      · have hb : (g == k) = false := beq_eq_false_iff_ne.mpr h
        simp only [List.lookup, hb, if_neg (fun e : g = f => h (e.trans hk.symm))]
    · rw [if_neg hk]
      by_cases h : g = k
      · have hb : (g == k) = true := beq_iff_eq.mpr h
        simp only [List.lookup, hb, if_neg (fun e : g = f => hk (h.symm.trans e))]
      · have hb : (g == k) = false := beq_eq_false_iff_ne.mpr h
        simp only [List.lookup, hb]
        exact ih
theorem kqQ (f : Str) (v : V) : ∀ fs : List (Str × V), f ∈ (putF f v fs).map (·.1) ∧ ∀ g, g ∈ fs.map (·.1) → g ∈ (putF f v fs).map (·.1)
  | [] => ⟨by simp [putF], fun g h => by simp at h⟩
  | (k, x) :: r => by
    obtain ⟨i1, i2⟩ := kqQ f v r
    rw [show putF f v ((k, x) :: r) = (if k = f then (k, v) :: r else (k, x) :: putF f v r) from rfl]
    by_cases hk : k = f
    · rw [if_pos hk]
      subst hk
      exact ⟨by simp, fun g h => by simpa using h⟩
    · rw [if_neg hk]
      refine ⟨?_, fun g h => ?_⟩
      · rw [List.map_cons]
        exact List.mem_cons_of_mem _ i1
      · rw [List.map_cons] at h ⊢
        rcases List.mem_cons.mp h with e | e
        · exact List.mem_cons.mpr (.inl e)
        · exact List.mem_cons_of_mem _ (i2 g e)
theorem lqz (f : Str) (v : V) : ∀ fs : List (Str × V), (putF f v fs).length ≤ fs.length + 1
  | [] => by simp [putF]
  | (k, x) :: r => by
    have ih := lqz f v r
    rw [show putF f v ((k, x) :: r) = (if k = f then (k, v) :: r else (k, x) :: putF f v r) from rfl]
    by_cases hk : k = f
    · rw [if_pos hk, List.length_cons, List.length_cons]; omega
    · rw [if_neg hk, List.length_cons, List.length_cons]; omega
theorem RelO.some_of {v : V} {o : Option Value} (r : RelO (some v) o) : ∃ u, o = some u ∧ RelV v u := by
  cases o with
  | none => exact (show False from r).elim
  | some u => exact ⟨u, rfl, r⟩
theorem RelO.none_of {o : Option Value} (r : RelO none o) : o = none := by
  cases o with
  | none => rfl
  | some u => exact (show False from r).elim
theorem tqa {v : V} {u : Value} (r : RelV v u) : PySem.W.handedIn u = true := by
  cases v with
  | non => cases (show u = Value.none from r); rfl
  | bl b => cases (show u = Value.bool b from r); rfl
  | int i => obtain ⟨t, e⟩ := (show ∃ t, u = Value.int i t from r); cases e; rfl
  | str x => obtain ⟨t, e⟩ := (show ∃ t, u = Value.str x t from r); cases e; rfl
  | byt b => obtain ⟨t, e⟩ := (show ∃ t, u = Value.bytes b t from r); cases e; rfl
  | flt b => obtain ⟨t, e⟩ := (show ∃ t, u = Value.float b t from r); cases e; rfl
  | ref a => cases (show u = Value.ref a from r); rfl
  | ty n => cases (show u = Value.type n from r); rfl
section
variable {P : Program} {w : World} {H H' : Hp} {h h' : Heap} {a C dx : Addr} {fs fs' : List (Str × V)}
theorem nqm (hok : HOk P w H h) (e : H a = some (.ins C dx fs)) : ∃ mA, ObjM h a dx C mA ∧ (∀ f, RelO (fs.lookup f) (mA f)) ∧ PySem.Within mA (fs.map (·.1)) ∧ fs.length ≤ 1000 ∧ H dx = some (.own a) := by
  obtain ⟨d, z, ne, ob, mA, n, r, q⟩ := (show ObjOk P w H h a (.ins C dx fs) from hok a _ e)
  exact ⟨mA, ⟨ob, n, ne⟩, r, q, z, d⟩
end
structure Cls (K : PySem.W.Frag) (C : Addr) : Prop where
  pg : PySem.W.plainGet K C Str.empty = true
  hd : PySem.W.hasDictIn K C = true
  po : PySem.W.plainOver K C = true
  sa : PySem.W.findIn K (.ref C) "__setattr__" = some (some (.builtin "object.__setattr__"))
theorem Cls.get {K : PySem.W.Frag} {C : Addr} (c : Cls K C) (f : Str) : PySem.W.plainGet K C f = true := c.pg
def NoAttr (K : PySem.W.Frag) (C : Addr) (f : Str) : Prop := PySem.W.findIn K (.ref C) f = some none
theorem NoAttr.taker {K : PySem.W.Frag} {C : Addr} {f : Str} (n : NoAttr K C f) : PySem.W.takerIn K C f = some none := by
  unfold PySem.W.takerIn
  rw [show PySem.W.findIn K (.ref C) f = some none from n]
  rfl
structure Con (K : PySem.W.Frag) (C : Addr) (f : Str) (v : V) (u : Value) : Prop where
  at_ : PySem.W.findIn K (.ref C) f = some (some u)
  rel : RelV v u
  get : PySem.W.specialIn K u "__get__" = some none
  cp : PySem.W.copiedNames.contains f = false
structure Meth (K : PySem.W.Frag) (C : Addr) (m : Str) (f : Addr) : Prop where
  at_ : PySem.W.findIn K (.ref C) m = some (some (.ref f))
  fn : PySem.W.isFn K (.ref f) = true
  kp : PySem.W.keepIn K (.ref f) = true
section
variable {X : Cx} {pins : List (Addr × Obj)} {σ : St} {H : Hp} {s : Shared} {a C dx : Addr} {fs : List (Str × V)} {f : Str} {v : V} {A : Around} {E : Value → Shared → Prop}
theorem rqq {b : Bool} {Q : Value → Shared → Prop} (I : Inv X pins σ H s) (e : H a = some (.ins C dx fs)) (c : Cls X.K C) (n : NoAttr X.K C f) (l : fs.lookup f = some v)
    (h : ∀ u s', Inv X pins σ H s' → RelV v u → Q u s') : wpAny (model X.prog X.w) A (getAttr (.ref a) f b) Q E s := by
  obtain ⟨mA, O, r, _, _, _⟩ := nqm I.hok e
  obtain ⟨u, hu, ru⟩ := RelO.some_of (v := v) (o := mA f) (by rw [← l]; exact r f)
  exact vqn I.kIn O (c.get f) c.hd n hu (tqa ru) (h u _ (I.tok _) ru)
theorem jqu {m : Str} {g : Addr} {pl : Sem Bool} {Q : Value × List Value → Shared → Prop} (I : Inv X pins σ H s) (e : H a = some (.ins C dx fs)) (c : Cls X.K C) (k : Meth X.K C m g) (l : fs.lookup m = none)
    (h : Q (.ref g, [.ref a]) s) : wpAny (model X.prog X.w) A (getMethod (.ref a) m pl) Q E s := by
  obtain ⟨mA, O, r, _, _, _⟩ := nqm I.hok e
  have hn : mA m = none := RelO.none_of (by rw [← l]; exact r m)
  exact uqn I.kIn O (c.get m) k.at_ k.fn hn h
theorem qqV {y : V} {u : Value} {Q : Unit → Shared → Prop} (I : Inv X pins σ H s) (e : H a = some (.ins C dx fs)) (c : Cls X.K C) (n : NoAttr X.K C f) (hl : fs.length < 1000) (ry : RelV y u)
    (h : ∀ s', Inv X pins σ (upd H a (.ins C dx (putF f y fs))) s' → Q () s') : wpAny (model X.prog X.w) A (setAttr (.ref a) f u) Q E s := by
  obtain ⟨mA, O, r, wi, _, ho⟩ := nqm I.hok e
  have hz : (fs.map (·.1)).length ≤ sizeLine := by rw [List.length_map, sizeLine_eq]; omega
  refine vqT I.kIn O c.sa c.po n.taker c.hd wi hz fun h' O' sb => h _ ?_
  have hd : ∃ o, h'.get? dx = some o := let ⟨o, _, _, e', _⟩ := O'.ns; ⟨o, e'⟩
  refine I.write (x := a) (e := dx) (by rw [e]; exact True.intro) (.inr ho) (fun b q hb z => (sb.2 b hb).trans z) hd ?_
  refine ⟨by rw [aqI O.ne]; exact ho, ?_, O.ne, O'.obj, _, O'.ns, fun g => ?_, fun g hg => ?_⟩
  · have := lqz f y fs; omega
  · show RelO ((putF f y fs).lookup g) (if g = f then some u else mA g)
    rw [lqL]
    by_cases q : g = f
    · rw [if_pos q, if_pos q]; exact ry
    · rw [if_neg q, if_neg q]; exact r g
  · by_cases q : g = f
    · rw [q]; exact (kqQ f y fs).1
    · refine (kqQ f y fs).2 g (wi g fun z => hg ?_)
      show (if g = f then some u else mA g) = none
      rw [if_neg q]; exact z
theorem Inv.made (I : Inv X pins σ H s) : Inv X pins σ (upd (upd H s.heap.objs.size (.own (s.heap.objs.size + 1))) (s.heap.objs.size + 1) (.ins C s.heap.objs.size []))
    { s with heap := (s.heap.push PySem.W.emptyDict).push (PySem.W.instObj C s.heap.objs.size) } := by
  have e1 : (s.heap.push PySem.W.emptyDict).get? s.heap.objs.size = some PySem.W.emptyDict := Heap.get?_push_size s.heap rfl
  have e2 : ((s.heap.push PySem.W.emptyDict).push (PySem.W.instObj C s.heap.objs.size)).get? (s.heap.objs.size + 1) = some (PySem.W.instObj C s.heap.objs.size) := by
    have := Heap.get?_push_size (s.heap.push PySem.W.emptyDict) (o := PySem.W.instObj C s.heap.objs.size) rfl
    rwa [Heap.size_push] at this
  have e3 : (s.heap.push PySem.W.emptyDict).Ns s.heap.objs.size (fun _ => none) := ⟨PySem.W.emptyDict, #[], _, e1, rfl, (fun e he => absurd he (by simp)), fun _ => rfl⟩
  have I1 := I.laid (a := s.heap.objs.size) (o := .own (s.heap.objs.size + 1)) (h' := s.heap.push PySem.W.emptyDict) (t' := s.toks) (fun b u q => Heap.get?_push_of_some _ q) (Nat.le_refl _) ⟨_, e1⟩
  refine I1.laid (a := s.heap.objs.size + 1) (o := .ins C s.heap.objs.size []) (t' := s.toks) (fun b u q => Heap.get?_push_of_some _ q) (Nat.le_of_eq (Heap.size_push _ _)) ?_
  have ne : s.heap.objs.size ≠ s.heap.objs.size + 1 := Nat.ne_of_lt (Nat.lt_succ_self _)
  refine ⟨by rw [aqI ne, aqr], Nat.zero_le _, ne, e2, fun _ => none, (Heap.Ns1.of_empty e3).at fun o q => Heap.get?_push_of_some _ q, fun _ => True.intro, fun y hy => absurd rfl hy⟩
theorem vqF {prog : Program} {w : World} {env : Env} {e : Expr} {f : Str} {pos : Pos} {s : Shared} {Q : Value → Shared → Prop} (hb : attributeBase e f env (eval e env) = eval e env)
    (h : wpAny (model prog w) A (eval e env) (fun o s₁ => wpAny (model prog w) A (getAttr o f true) Q E s₁) E s) : wpAny (model prog w) A (eval (.Attribute e f pos) env) Q E s :=
  Attribute_any_ h (by rw [arm_eval_Attribute, hb])
end
def tFld (K : PySem.W.Frag) (ta : TE) (f : Str) : TE := fun σ H Q => ta σ H fun x H1 => ∃ a C dx fs v, x = .ref a ∧ H1 a = some (.ins C dx fs) ∧ Cls K C ∧ NoAttr K C f ∧ fs.lookup f = some v ∧ Q v H1
def sFld (K : PySem.W.Frag) (ta tv : TE) (f : Str) : TS := fun D σ H => tv σ H fun y H1 => ta σ H1 fun x H2 => ∃ a C dx fs, x = .ref a ∧ H2 a = some (.ins C dx fs) ∧ Cls K C ∧ NoAttr K C f ∧ fs.length < 1000 ∧
  D.nx σ (upd H2 a (.ins C dx (putF f y fs)))
section
variable {X : Cx} {o e value : Expr} {f : Str} {pos pos' tpos : Pos} {ta tv : TE}
theorem eqh (he : PE X e ta) (hb : attributeBase e f X.env (eval e X.env) = eval e X.env) : PE X (.Attribute e f pos) (tFld X.K ta f) := by
  intro pins s σ H Q I h
  refine vqF hb (thn (he pins s σ H _ I h) fun u s1 ⟨x, H1, I1, rx, a, C, dx, fs, v, ex, ea, c, n, l, q⟩ => ?_)
  subst ex
  obtain rfl : u = Value.ref a := rx
  exact rqq I1 ea c n l fun u' s2 I2 ru => ⟨v, H1, I2, ru, q⟩
theorem pq6 (ha : PE X o ta) (hv : PE X value tv) (hs : swapsWith value (some (.Attribute o f pos')) pos.line X.env = pure false) : PS X (.Assign [.Attribute o f pos'] value pos) (sFld X.K ta tv f) := by
  intro pins s σ H D I h
  refine plainObj_wpAny_Assign_Attribute (thn (hv pins s σ H _ I h) fun u s1 ⟨y, H1, I1, ry, q⟩ => thn (ha pins s1 σ H1 _ I1 q) fun ov s2 ⟨x, H2, I2, rx, a, C, dx, fs, ex, ea, c, n, l, q2⟩ => ?_) hs
  subst ex
  obtain rfl : ov = Value.ref a := rx
  exact qqV I2 ea c n l ry fun s3 I3 => ⟨σ, _, I3, q2⟩
theorem wqR {pl : Sem Bool} {m : Str} {apos : Pos} {args : List Expr} {pins : List (Addr × Obj)} {s : Shared} {σ : St} {H : Hp} {Q : Value → Shared → Prop} {te : TE} (he : PE X e te) (I : Inv X pins σ H s)
    (h : te σ H fun x H1 => ∃ a C dx fs g, x = .ref a ∧ H1 a = some (.ins C dx fs) ∧ Cls X.K C ∧ Meth X.K C m g ∧ fs.lookup m = none ∧
      ∀ s1, Inv X pins σ H1 s1 → wpAny (model X.prog X.w) X.A (callWith pos (.ref g) [.ref a] (backTo pos (starEach args X.env)) (backToKw pos (keywordEach [] X.env))) Q X.xe s1)
    (ht : eval (.Call (.Attribute e m apos) args [] pos) X.env = (do
      let ov ← eval e X.env
      standAt apos.atName
      let (f, first) ← holding [ov] (getMethod ov m pl)
      callWith pos f first (backTo pos (starEach args X.env)) (backToKw pos (keywordEach [] X.env)))) :
    wpAny (model X.prog X.w) X.A (eval (.Call (.Attribute e m apos) args [] pos) X.env) Q X.xe s := by
  refine PySem.W.methodCall_KW (pl := pl) (thn (he pins s σ H _ I h) fun u s1 ⟨x, H1, I1, rx, a, C, dx, fs, g, ex, ea, c, k, l, q⟩ => ?_) ht
  subst ex
  obtain rfl : u = Value.ref a := rx
  exact jqu I1 ea c k l (q s1 I1)
end
section
variable {X : Cx} {pins : List (Addr × Obj)} {σ : St} {H : Hp} {s : Shared} {A : Around} {E : Value → Shared → Prop} {Q : Value → Shared → Prop} {c : Value} {b : Bool}
inductive TyOf (K : PySem.W.Frag) (H : Hp) : V → Value → Prop where
  | non : TyOf K H .non (.type "NoneType")
  | bl (x : Bool) : TyOf K H (.bl x) (.type "bool")
  | int (i : Int) : TyOf K H (.int i) (.type "int")
  | str (x : Str) : TyOf K H (.str x) (.type "str")
  | flt (x : UInt64) : TyOf K H (.flt x) (.type "float")
  | lst {a : Addr} {xs : List V} (e : H a = some (.lst xs)) : TyOf K H (.ref a) (.type "list")
  | frz {a : Addr} {o : Obj} {xs : List V} (e : H a = some (.frz o (.lst xs))) : TyOf K H (.ref a) (.type "list")
  | tup {a : Addr} {xs : List V} (e : H a = some (.tup xs)) : TyOf K H (.ref a) (.type "tuple")
  | dK {a : Addr} {kvs : List (Key × V)} (e : H a = some (.dK kvs)) : TyOf K H (.ref a) (.type "dict")
  | dT {a : Addr} {kvs : List (List Key × V)} (e : H a = some (.dT kvs)) : TyOf K H (.ref a) (.type "dict")
  | ins {a C dx : Addr} {fs : List (Str × V)} (e : H a = some (.ins C dx fs)) (cl : Cls K C) (ha : PySem.W.findIn K (.ref C) "__class__" = some (some (.builtin "object.__class__")))
      (hn : PySem.W.specialIn K (.builtin "object.__class__") "__get__" = some (some (.builtin "getset_descriptor.__get__"))) (htk : PySem.W.takesIn K (.builtin "object.__class__") = some true)
      (hm : PySem.W.mroIn K C (.type "object") = some true) : TyOf K H (.ref a) (.ref C)
theorem sq6 {x : V} {u t : Value} (I : Inv X pins σ H s) (rx : RelV x u) (ty : TyOf X.K H x t) (e : PySem.W.kitOne X.K t c = some b) (h : ∀ tk, Q (.bool b) { s with toks := tk }) :
    wpAny (model X.prog X.w) A (call (.builtin "isinstance") [u, c]) Q E s := by
  cases ty with
  | non => cases (show u = Value.none from rx); exact PySem.W.kia_one PySem.W.kitx_none I.kIn True.intro e (fun z => nomatch z) h
  | bl y => cases (show u = Value.bool y from rx); exact PySem.W.kia_one PySem.W.kitx_bool I.kIn True.intro e (fun z => nomatch z) h
  | int i => obtain ⟨t, q⟩ := (show ∃ t, u = Value.int i t from rx); cases q; exact PySem.W.kia_one PySem.W.kitx_int I.kIn True.intro e (fun z => nomatch z) h
  | str y => obtain ⟨t, q⟩ := (show ∃ t, u = Value.str y t from rx); cases q; exact PySem.W.kia_one PySem.W.kitx_str I.kIn True.intro e (fun z => nomatch z) h
  | flt y => obtain ⟨t, q⟩ := (show ∃ t, u = Value.float y t from rx); cases q; exact PySem.W.kia_one PySem.W.kitx_float I.kIn True.intro e (fun z => nomatch z) h
  | @lst a xs ea =>
    cases (show u = Value.ref a from rx)
    obtain ⟨_, _, n, _, h1⟩ := (show ObjOk X.prog X.w H s.heap a (.lst xs) from I.hok a _ ea)
    exact PySem.W.kia_one PySem.W.kitx_list I.kIn ⟨_, h1, rfl⟩ e (fun z => nomatch z) h
  | @frz a ob xs ea =>
    cases (show u = Value.ref a from rx)
    obtain ⟨_, _, _, n, _, h1⟩ := (show ObjOk X.prog X.w H s.heap a (.frz ob (.lst xs)) from I.hok a _ ea)
    exact PySem.W.kia_one PySem.W.kitx_list I.kIn ⟨_, h1, rfl⟩ e (fun z => nomatch z) h
  | @tup a xs ea =>
    cases (show u = Value.ref a from rx)
    obtain ⟨_, _, _, p⟩ := (show ObjOk X.prog X.w H s.heap a (.tup xs) from I.hok a _ ea)
    obtain ⟨o, h1, h2, _⟩ := p
    exact PySem.W.kia_one PySem.W.kitx_tuple I.kIn ⟨o, h1, h2⟩ e (fun z => nomatch z) h
  | @dK a kvs ea =>
    cases (show u = Value.ref a from rx)
    obtain ⟨_, _, vs, _, p⟩ := (show ObjOk X.prog X.w H s.heap a (.dK kvs) from I.hok a _ ea)
    obtain ⟨o, es, ep, h1, h2, _⟩ := p
    exact PySem.W.kia_one PySem.W.kitx_dict I.kIn ⟨o, h1, h2.1⟩ e (fun z => nomatch z) h
  | @dT a kvs ea =>
    cases (show u = Value.ref a from rx)
    obtain ⟨_, _, xs, _, o, es, ep, h1, h2, _⟩ := (show ObjOk X.prog X.w H s.heap a (.dT kvs) from I.hok a _ ea)
    exact PySem.W.kia_one PySem.W.kitx_dict I.kIn ⟨o, h1, h2.1⟩ e (fun z => nomatch z) h
  | @ins a C dx fs ea cl ha hn htk hm =>
    cases (show u = Value.ref a from rx)
    obtain ⟨mA, O, _⟩ := nqm I.hok ea
    obtain ⟨od, J, _⟩ := O.look
    exact PySem.W.kia_one (PySem.W.kitx_own (cl.get _) cl.hd ha hn htk hm) I.kIn J e (fun z => nomatch z) h
end
end L2
namespace L2
open PySem PySem.Spec PyProof.Rows
structure Room (k : Nat) (A : Around) : Prop where
  hd : A.handled = none
  dp : A.depth + 3 * k + 5 < recursionLimit
  un : A.units + 16 * k + 200 < cLine
theorem Room.mono {j k : Nat} {A : Around} (r : Room k A) (h : j ≤ k) : Room j A := ⟨r.hd, by have := r.dp; omega, by have := r.un; omega⟩
theorem Room.deeper {k : Nat} {A : Around} (r : Room (k + 1) A) (env : Env) : Room k (A.deeper env) :=
  ⟨r.hd, by have := r.dp; show A.depth + 1 + 3 * k + 5 < _; omega, by have := r.un; show A.units + 3 + 16 * k + 200 < _; omega⟩
theorem qqU {A : Around} {C : Addr} {us : List Value} {kw : List (Str × Value)} : (A.under (.builtin "type.__call__" ⟨.ref C :: us, kw⟩)).depth = A.depth + 1 := by
  first | rfl | simp [Around.under, Code.weight, Code.isCreation, Code.isGuard, Code.isCaller, Code.frames, Code.isFrame, guardIds]
theorem qqR {A : Around} {C : Addr} {us : List Value} {kw : List (Str × Value)} : (A.under (.builtin "type.__call__" ⟨.ref C :: us, kw⟩)).units = A.units + 1 := by
  first | rfl | simp [Around.under, Code.cUnits, Code.frames, Code.isFrame]
theorem Room.make {k : Nat} {A : Around} (r : Room (k + 1) A) (C : Addr) (us : List Value) (kw : List (Str × Value)) : Room k (A.under (.builtin "type.__call__" ⟨.ref C :: us, kw⟩)) :=
  ⟨r.hd, by have := r.dp; rw [qqU]; omega, by have := r.un; rw [qqR]; omega⟩
theorem Room.depth {k : Nat} {A : Around} (r : Room k A) : A.depth < recursionLimit := by have := r.dp; omega
theorem Room.units {k : Nat} {A : Around} (r : Room k A) : A.units + 64 < cLine := by have := r.un; omega
def tNil : TA := fun _ H Q => Q [] H
def tCons (ta : TE) (tr : TA) : TA := fun σ H Q => ta σ H fun x H1 => tr σ H1 fun xs H2 => Q (x :: xs) H2
section
variable {X : Cx} {e : Expr} {es : List Expr} {te : TE} {t : TA} {pos : Pos}
theorem aqb : PA X [] tNil := fun _ _ _ _ H Q I h => Calls.spliced_nil ⟨[], H, I, .nil, h⟩
theorem aqa (ha : PE X e te) (hr : PA X es t) (hs : starEach (e :: es) X.env = (false, eval e X.env) :: starEach es X.env := by rfl) : PA X (e :: es) (tCons te t) := by
  intro pos pins s σ H Q I h
  rw [hs]
  show wpAny _ _ (spliced ((false, eval e X.env) :: backTo pos (starEach es X.env))) _ _ s
  refine Calls.spliced_cons (thn (ha pins s σ H _ I h) fun u s1 ⟨x, H1, I1, r1, q1⟩ => ?_)
  exact thn (hr pos pins s1 σ H1 _ I1 q1) fun us s2 ⟨xs, H2, I2, r2, q2⟩ => ⟨x :: xs, H2, I2, .cons r1 r2, q2⟩
def tTup (t : TA) : TE := fun σ H Q => t σ H fun xs H1 => xs.length ≤ sizeLine ∧ ∀ p, H1 p = none → Q (.ref p) (upd H1 p (.tup xs))
def tLst (t : TA) : TE := fun σ H Q => t σ H fun xs H1 => xs.length ≤ sizeLine ∧ ∀ p, H1 p = none → Q (.ref p) (upd H1 p (.lst xs))
theorem uqQ (h : PA X es t) : PE X (.List es pos) (tLst t) := by
  intro pins s σ H Q I hq
  refine wpAny_List_spliced (thn (h pos pins s σ H _ I hq) fun us s1 ⟨xs, H1, I1, r, z, q⟩ => ⟨by rw [← r.length]; exact z, ?_⟩)
  have hf : H1 s1.heap.objs.size = none := I1.hok.fresh (Nat.le_refl _)
  refine ⟨.ref s1.heap.objs.size, upd H1 s1.heap.objs.size (.lst xs), I1.laid (t' := s1.toks) (fun b u e => Heap.get?_push_of_some _ e) (Nat.le_refl _) ?_, rfl, q _ hf⟩
  exact ⟨z, us, 0, r, Heap.get?_push_size _ rfl⟩
end
abbrev Sp := List V → Hp → VK → XK → Prop
abbrev CXT := List Env → Hp → Shared → XK → Value → Shared → Prop
structure Env0 (P : Program) (w : World) (K : PySem.W.Frag) (mg : Str → Option Value) (base : Heap) (A : Around) (outer : List Env) (s : Shared) (H : Hp) : Prop where
  frames : A.frames = some outer
  mod : Mod K mg base
  bs : ∀ b o, base.get? b = some o → s.heap.get? b = some o ∧ H b = none
  bsz : base.objs.size ≤ s.heap.objs.size
  funs : s.heap.FunFrames base outer
  frf : ∀ b ∈ frs outer, H b = none
  hok : HOk P w H s.heap
  bare : AllBare s.gens
def CE (outer : List Env) (P : Program) (w : World) (H : Hp) (s : Shared) (Q : VK) (u : Value) (s' : Shared) : Prop :=
  ∃ v H', s'.os = s.os ∧ AllBare s'.gens ∧ Un (frs outer) [] H H' s.heap s'.heap ∧ HOk P w H' s'.heap ∧ RelV v u ∧ Q v H'
def CR (CX : CXT) (outer : List Env) (P : Program) (w : World) (H : Hp) (s : Shared) (Q : VK) (E : XK) (r : Result) (s' : Shared) : Prop :=
  match r with
  | .ok (.ret u) => CE outer P w H s Q u s'
  | .ok _ => False
  | .error e => CX outer H s E e s'
structure FnOk (P : Program) (w : World) (K : PySem.W.Frag) (mg : Str → Option Value) (base : Heap) (CX : CXT) (k : Nat) (f : Addr) (fd : FuncData) (ps : List Str) (sp : Sp) : Prop where
  len : ∀ vs H Q E, sp vs H Q E → vs.length = ps.length
  run : ∀ (A : Around) (outer : List Env) (s : Shared) (H : Hp) (args : Args) (us : List Value) (vs : List V) (Q : VK) (E : XK), Room k A → Env0 P w K mg base A outer s H → BindsTo s fd args (ps.zip us) → Vals vs us → sp vs H Q E →
    codeAny (model P w) A (.call (.ref f) args) (CR CX outer P w H s Q E) s
theorem Env0.make {P : Program} {w : World} {K : PySem.W.Frag} {mg : Str → Option Value} {base : Heap} {A : Around} {outer : List Env} {s : Shared} {H : Hp} (e : Env0 P w K mg base A outer s H) (C : Addr) (us : List Value) (kw : List (Str × Value)) :
    Env0 P w K mg base (A.under (.builtin "type.__call__" ⟨.ref C :: us, kw⟩)) outer s H := ⟨by first | exact e.frames | (simpa [Around.under, Code.envs, Code.isFrame, pushEnvs] using e.frames), e.mod, e.bs, e.bsz, e.funs, e.frf, e.hok, e.bare⟩
section
variable {X : Cx} {pins : List (Addr × Obj)} {σ : St} {H : Hp} {s s' : Shared}
theorem Inv.env0 (I : Inv X pins σ H s) : Env0 X.prog X.w X.K X.mg X.base X.A X.stack s H :=
  ⟨I.ok.frames, I.ok.mod, I.bs, Nat.le_trans I.ok.bsz I.sz, I.stack, I.stkFree, I.hok, I.bare⟩
theorem Inv.after {Q : VK} {u : Value} (I : Inv X pins σ H s) (h : CE X.stack X.prog X.w H s Q u s') : EP X pins σ Q u s' := by
  obtain ⟨v, H', os, bare, un, hok, r, q⟩ := h
  obtain ⟨hh, g, d, t, os'⟩ := s'
  obtain rfl : os' = s.os := os
  exact ⟨v, H', I.call (h' := hh) (g' := g) (d' := d) (t' := t) (ch := []) un hok bare (fun b z => absurd z (by simp)), r, q⟩
end
def tCall (sp : Sp) (dvs : List V) (E : XK) (t : TA) : TE := fun σ H Q => t σ H fun vs H1 => sp (vs ++ dvs) H1 Q E
def tMeth (C : Addr) (m : Str) (sp : Sp) (dvs : List V) (E : XK) (ta : TE) (t : TA) : TE := fun σ H Q => ta σ H fun x H1 => ∃ a dx fs, x = .ref a ∧ H1 a = some (.ins C dx fs) ∧ fs.lookup m = none ∧
  t σ H1 fun vs H2 => sp (x :: (vs ++ dvs)) H2 Q E
def tMake (C : Addr) (sp : Sp) (dvs : List V) (E : XK) (t : TA) : TE := fun σ H Q => t σ H fun vs H1 => ∀ x dx, H1 x = none → H1 dx = none → dx ≠ x →
  sp (.ref x :: (vs ++ dvs)) (upd (upd H1 dx (.own x)) x (.ins C dx [])) (fun v H2 => v = .non ∧ Q (.ref x) H2) E
def Binds (K : PySem.W.Frag) (fd : FuncData) (ps : List Str) (ds : List Value) : Prop :=
  ∀ (s : Shared) (us : List Value), K.In s.heap → (us ++ ds).length = ps.length → BindsTo s fd ⟨us, []⟩ (ps.zip (us ++ ds))
theorem Binds.all {K : PySem.W.Frag} {fd : FuncData} {ps : List Str} (h : ∀ us : List Value, us.length = ps.length → bindArgs fd ⟨us, []⟩ = pure (ps.zip us)) : Binds K fd ps [] := fun s us _ hl => by
  rw [List.append_nil] at hl ⊢
  exact .of_eq (h us hl)
def Passes (CX : CXT) (X : Cx) (E : XK) : Prop := ∀ (pins : List (Addr × Obj)) (σ : St) (H : Hp) (s : Shared) (e : Value) (s' : Shared), Inv X pins σ H s → CX X.stack H s E e s' → X.xe e s'
section
variable {X : Cx} {CX : CXT} {k : Nat} {f C : Addr} {fd : FuncData} {ps : List Str} {sp : Sp} {dvs : List V} {ds : List Value} {E : XK} {x m : Str} {p pos apos : Pos} {e o : Expr} {es : List Expr} {ta : TE} {t : TA}
theorem tqg {pins : List (Addr × Obj)} {σ : St} {H : Hp} {s : Shared} {Q : VK} {us : List Value} {vs : List V} (F : FnOk X.prog X.w X.K X.mg X.base CX k f fd ps sp) (hr : Room k X.A) (hb : Binds X.K fd ps ds) (hd : Vals dvs ds) (hx : Passes CX X E)
    (I : Inv X pins σ H s) (r : Vals vs us) (h : sp (vs ++ dvs) H Q E) : wpAny (model X.prog X.w) X.A (call (.ref f) us) (EP X pins σ Q) X.xe s := by
  have r2 : Vals (vs ++ dvs) (us ++ ds) := r.append hd
  have hl : (us ++ ds).length = ps.length := by rw [← r2.length]; exact F.len _ _ _ _ h
  refine wpAny_call (codeAny_mono (F.run X.A X.stack s H ⟨us, []⟩ (us ++ ds) (vs ++ dvs) Q E hr I.env0 (hb s us I.kIn hl) r2 h) fun r s' hq => ?_)
  cases r with
  | error e => exact hx pins σ H s e s' I hq
  | ok fl =>
    cases fl with
    | ret u => exact I.after hq
    | next => exact False.elim hq
    | brk => exact False.elim hq
    | cont => exact False.elim hq
theorem aqg (F : FnOk X.prog X.w X.K X.mg X.base CX k f fd ps sp) (hr : Room k X.A) (hg : Gl X x) (hm : X.mg x = some (.ref f)) (hk : PySem.W.keepIn X.K (.ref f) = true) (hb : Binds X.K fd ps ds) (hd : Vals dvs ds) (hx : Passes CX X E)
    (ha : PA X (e :: es) t) (hdb : (x == ("__debug__" : Str)) = false := by decide) (he : starEach (e :: es) X.env = (false, eval e X.env) :: starEach es X.env := by rfl) (hpl : (backTo pos (starEach es X.env)).any (·.1) = false := by rfl) :
    PE X (.Call (.Name x p) (e :: es) [] pos) (tCall sp dvs E t) := by
  intro pins s σ H Q I h
  refine wpAny_Call_Name_kw (pqs I hg hm ?_ hdb)
  refine PySem.W.callWith_K (h₀ := X.base) I.ok.mod.kin hk (thn (ha pos pins s σ H _ I h) fun us s1 ⟨vs, H1, I1, r, q⟩ => ⟨I1.kIn, ?_⟩) he hpl
  exact tqg F hr hb hd hx I1 r q
theorem dqo {pl : Sem Bool} (he : PE X o ta) (c : Cls X.K C) (hm : Meth X.K C m f) (F : FnOk X.prog X.w X.K X.mg X.base CX k f fd ps sp) (hr : Room k X.A) (hb : Binds X.K fd ps ds) (hd : Vals dvs ds) (hx : Passes CX X E) (ha : PA X (e :: es) t)
    (hst : starEach (e :: es) X.env = (false, eval e X.env) :: starEach es X.env := by rfl) (hpl : (backTo pos (starEach es X.env)).any (·.1) = false := by rfl)
    (ht : eval (.Call (.Attribute o m apos) (e :: es) [] pos) X.env = (do
      let ov ← eval o X.env
      standAt apos.atName
      let (f, first) ← holding [ov] (getMethod ov m pl)
      callWith pos f first (backTo pos (starEach (e :: es) X.env)) (backToKw pos (keywordEach [] X.env))) := by rfl) :
    PE X (.Call (.Attribute o m apos) (e :: es) [] pos) (tMeth C m sp dvs E ta t) := by
  intro pins s σ H Q I h
  refine PySem.W.methodCall_KW (pl := pl) (thn (he pins s σ H _ I h) fun u s1 ⟨x, H1, I1, rx, a, dx, fs, ex, ea, l, q⟩ => ?_) ht
  subst ex
  obtain rfl : u = Value.ref a := rx
  refine jqu I1 ea c hm l ?_
  refine PySem.W.callWith_K (first := [.ref a]) (h₀ := X.base) I.ok.mod.kin hm.kp (thn (ha pos pins s1 σ H1 _ I1 q) fun us s2 ⟨vs, H2, I2, r, q2⟩ => ⟨I2.kIn, ?_⟩) hst hpl
  exact tqg (us := .ref a :: us) (vs := .ref a :: vs) F hr hb hd hx I2 (.cons rfl r) q2
theorem gqp {pl : Sem Bool} (he : PE X o ta) (c : Cls X.K C) (hm : Meth X.K C m f) (F : FnOk X.prog X.w X.K X.mg X.base CX k f fd ps sp) (hr : Room k X.A) (hb : Binds X.K fd ps ds) (hd : Vals dvs ds) (hx : Passes CX X E)
    (ht : eval (.Call (.Attribute o m apos) [] [] pos) X.env = (do
      let ov ← eval o X.env
      standAt apos.atName
      let (f, first) ← holding [ov] (getMethod ov m pl)
      callWith pos f first (backTo pos (starEach [] X.env)) (backToKw pos (keywordEach [] X.env))) := by rfl) :
    PE X (.Call (.Attribute o m apos) [] [] pos) (tMeth C m sp dvs E ta tNil) := by
  intro pins s σ H Q I h
  refine PySem.W.methodCall_KW (pl := pl) (thn (he pins s σ H _ I h) fun u s1 ⟨x, H1, I1, rx, a, dx, fs, ex, ea, l, q⟩ => ?_) ht
  subst ex
  obtain rfl : u = Value.ref a := rx
  refine jqu I1 ea c hm l ?_
  exact PySem.W.callWith_K0 (first := [.ref a]) I1.kIn hm.kp (tqg (us := [.ref a]) (vs := [.ref a]) F hr hb hd hx I1 (.cons rfl .nil) q)
structure Mk (K : PySem.W.Frag) (C f : Addr) : Prop where
  makes : PySem.W.makesIn K C = true
  init : PySem.W.findIn K (.ref C) "__init__" = some (some (.ref f))
  fn : PySem.W.isFn K (.ref f) = true
  kp : PySem.W.keepIn K (.ref C) = true
theorem tqC {pins : List (Addr × Obj)} {σ : St} {H : Hp} {s : Shared} {Q : VK} {us : List Value} {vs : List V} (M : Mk X.K C f) (F : FnOk X.prog X.w X.K X.mg X.base CX k f fd ps sp) (hr : Room (k + 1) X.A) (hb : Binds X.K fd ps ds) (hd : Vals dvs ds)
    (hx : Passes CX X E) (I : Inv X pins σ H s) (r : Vals vs us)
    (h : ∀ x dx, H x = none → H dx = none → dx ≠ x → sp (.ref x :: (vs ++ dvs)) (upd (upd H dx (.own x)) x (.ins C dx [])) (fun v H2 => v = .non ∧ Q (.ref x) H2) E) :
    wpAny (model X.prog X.w) X.A (call (.ref C) us) (EP X pins σ Q) X.xe s := by
  have hq := h (s.heap.objs.size + 1) s.heap.objs.size (I.hok.fresh (Nat.le_succ _)) (I.hok.fresh (Nat.le_refl _)) (Nat.ne_of_lt (Nat.lt_succ_self _))
  have I2 := Inv.made (C := C) I
  have r2 : Vals (V.ref (s.heap.objs.size + 1) :: (vs ++ dvs)) (Value.ref (s.heap.objs.size + 1) :: (us ++ ds)) := .cons rfl (r.append hd)
  have hl : (Value.ref (s.heap.objs.size + 1) :: us ++ ds).length = ps.length := by
    have e := r2.length
    rw [F.len _ _ _ _ hq] at e
    exact e.symm
  refine wpAny_call (uqd (f := f) I.kIn M.makes M.init (beq_iff_eq.mp M.fn) (codeAny_mono (F.run _ X.stack _ _ ⟨Value.ref (s.heap.objs.size + 1) :: us, []⟩ (Value.ref (s.heap.objs.size + 1) :: (us ++ ds)) _ _ E (hr.make C us [])
    (I2.env0.make C us []) (hb _ (Value.ref (s.heap.objs.size + 1) :: us) I2.kIn hl) r2 hq) fun r s' hq' => ?_))
  cases r with
  | error e => exact hx pins σ _ _ e s' I2 hq'
  | ok fl =>
    cases fl with
    | ret u =>
      obtain ⟨v, H', I3, rv, ev, q3⟩ := I2.after hq'
      subst ev
      exact ⟨rv, ⟨V.ref (s.heap.objs.size + 1), H', I3, rfl, q3⟩⟩
    | next => exact False.elim hq'
    | brk => exact False.elim hq'
    | cont => exact False.elim hq'
theorem wqa (M : Mk X.K C f) (F : FnOk X.prog X.w X.K X.mg X.base CX k f fd ps sp) (hr : Room (k + 1) X.A) (hg : Gl X x) (hm : X.mg x = some (.ref C)) (hb : Binds X.K fd ps ds) (hd : Vals dvs ds) (hx : Passes CX X E)
    (ha : PA X (e :: es) t) (hdb : (x == ("__debug__" : Str)) = false := by decide) (he : starEach (e :: es) X.env = (false, eval e X.env) :: starEach es X.env := by rfl) (hpl : (backTo pos (starEach es X.env)).any (·.1) = false := by rfl) :
    PE X (.Call (.Name x p) (e :: es) [] pos) (tMake C sp dvs E t) := by
  intro pins s σ H Q I h
  refine wpAny_Call_Name_kw (pqs I hg hm ?_ hdb)
  refine PySem.W.callWith_K (h₀ := X.base) I.ok.mod.kin M.kp (thn (ha pos pins s σ H _ I h) fun us s1 ⟨vs, H1, I1, r, q⟩ => ⟨I1.kIn, ?_⟩) he hpl
  exact tqC M F hr hb hd hx I1 r q
end
section
variable {X : Cx} {CX : CXT} {k : Nat} {f C : Addr} {fd : FuncData} {ps ks : List Str} {sp : Sp} {E : XK} {x m : Str} {p pos apos kpos : Pos} {e o : Expr} {es : List Expr} {kws : List Keyword} {te ta : TE} {t tk : TA} {nm : Option Str}
structure KBinds (K : PySem.W.Frag) (fd : FuncData) (ps ks : List Str) (g : List Value → List Value → List Value) (gV : List V → List V → List V) : Prop where
  to : ∀ (s : Shared) (us ws : List Value), K.In s.heap → (g us ws).length = ps.length → BindsTo s fd ⟨us, ks.zip ws⟩ (ps.zip (g us ws))
  rel : ∀ {vs : List V} {us : List Value} {zs : List V} {ws : List Value}, Vals vs us → Vals zs ws → Vals (gV vs zs) (g us ws)
variable {g : List Value → List Value → List Value} {gV : List V → List V → List V}
end
structure FnScope (N P : List Str) (sc : Scope) : Prop where
  kind : sc.kind = .function
  co : sc.isCoroutine = false
  gen : sc.isGenerator = false
  nd : N.Nodup
  pre : N.take P.length = P
  par : ∀ x ∈ P, sc.names.lookup x = some .local ∨ sc.names.lookup x = some .cell
  nofree : ∀ y ∈ sc.names, y.2 ≠ .free
theorem oqg {kindOf : Str → Option NameKind} {x : Str} : ∀ {binds : List (Str × Value)} {m : Str → Option Value}, (∀ v, (x, v) ∉ binds) → bindL kindOf binds m x = m x
  | [], _, _ => rfl
  | (n, v) :: r, m, h => by
    unfold bindL
    rw [oqg fun w hw => h w (List.mem_cons_of_mem _ hw)]
    split
    · have : x ≠ n := by rintro rfl; exact h v List.mem_cons_self
      simp [this]
    · rfl
theorem oqt {kindOf : Str → Option NameKind} {x : Str} : ∀ {binds : List (Str × Value)} {m : Str → Option Value}, (∀ v, (x, v) ∉ binds) → bindC kindOf binds m x = m x
  | [], _, _ => rfl
  | (n, v) :: r, m, h => by
    unfold bindC
    rw [oqt fun w hw => h w (List.mem_cons_of_mem _ hw)]
    split
    · rfl
    · have : x ≠ n := by rintro rfl; exact h v List.mem_cons_self
      simp [this]
theorem oqD {kindOf : Str → Option NameKind} {x : Str} {v : Value} : ∀ {P : List Str} {vs : List Value} {i : Nat} {m : Str → Option Value}, P.Nodup → P[i]? = some x → vs[i]? = some v → kindOf x = some .local →
    bindL kindOf (P.zip vs) m x = some v
  | [], _, _, _, _, h, _, _ => by simp at h
  | _ :: _, [], _, _, _, _, h, _ => by simp at h
  | p :: P, w :: vs, 0, m, nd, h1, h2, hk => by
    simp at h1 h2; subst h1; subst h2
    show bindL kindOf ((p, w) :: P.zip vs) m p = _
    unfold bindL
    rw [oqg fun v hv => (List.nodup_cons.mp nd).1 (List.of_mem_zip hv).1, if_pos hk]
    simp
  | p :: P, w :: vs, i + 1, m, nd, h1, h2, hk => by
    show bindL kindOf ((p, w) :: P.zip vs) m x = _
    unfold bindL
    exact oqD (i := i) (List.nodup_cons.mp nd).2 (by simpa using h1) (by simpa using h2) hk
theorem oqb {kindOf : Str → Option NameKind} {x : Str} {v : Value} : ∀ {P : List Str} {vs : List Value} {i : Nat} {m : Str → Option Value}, P.Nodup → P[i]? = some x → vs[i]? = some v → kindOf x ≠ some .local →
    bindC kindOf (P.zip vs) m x = some v
  | [], _, _, _, _, h, _, _ => by simp at h
  | _ :: _, [], _, _, _, _, h, _ => by simp at h
  | p :: P, w :: vs, 0, m, nd, h1, h2, hk => by
    simp at h1 h2; subst h1; subst h2
    show bindC kindOf ((p, w) :: P.zip vs) m p = _
    unfold bindC
    rw [oqt fun v hv => (List.nodup_cons.mp nd).1 (List.of_mem_zip hv).1, if_neg hk]
    simp
  | p :: P, w :: vs, i + 1, m, nd, h1, h2, hk => by
    show bindC kindOf ((p, w) :: P.zip vs) m x = _
    unfold bindC
    exact oqb (i := i) (List.nodup_cons.mp nd).2 (by simpa using h1) (by simpa using h2) hk
def start (N : List Str) (vs : List V) : St := vs.map some ++ List.replicate (N.length - vs.length) none
def cxOf (CX : CXT) (P : Program) (w : World) (K : PySem.W.Frag) (mg : Str → Option Value) (base : Heap) (N : List Str) (qual : Str) (scope : Scope) (f : Addr) (cd : Value) (A : Around) (outer : List Env) (s : Shared) (H : Hp) (E : XK) : Cx where
  prog := P
  w := w
  K := K
  mg := mg
  base := base
  A := A.deeper (envOfC qual scope s.heap.objs.size f cd)
  N := N
  s₀ := s
  H₀ := H
  env := envOfC qual scope s.heap.objs.size f cd
  outer := outer
  stack := envOfC qual scope s.heap.objs.size f cd :: outer
  ex := []
  calm := true
  fn := fun _ => true
  pn := []
  xe := fun e s' => wpAny (model P w) (A.deeper (envOfC qual scope s.heap.objs.size f cd)) (leaving (envOfC qual scope s.heap.objs.size f cd) e) (fun _ s'' => CX outer H s E e s'') (fun e' s'' => CX outer H s E e' s'') s'
theorem qqE {sc : Scope} {n : Nat} {x : Str} (h : sc.names.lookup x = some .cell) : ∃ c, (cellsFrom n sc.names []).lookup x = some c := by
  have q := PySem.W.cellsFrom_some sc.names n [] (.inl h)
  exact Option.isSome_iff_exists.mp q
theorem rqJ {CX : CXT} {P : Program} {w : World} {K : PySem.W.Frag} {mg : Str → Option Value} {base : Heap} {N ps : List Str} {qual : Str} {scope : Scope} {f : Addr} {cd : Value} {A : Around} {outer : List Env} {s s1 : Shared} {H : Hp} {E : XK} {us : List Value} {vs : List V}
    (S : FnScope N ps scope) (hd : A.handled = none) (e0 : Env0 P w K mg base A outer s H) (hl : vs.length = ps.length) (r : Vals vs us)
    (x : InCallC s s.heap.objs.size (bindL (envOfC qual scope s.heap.objs.size f cd).kindOf (ps.zip us) fun _ => none) (cellsFrom (s.heap.objs.size + 1) scope.names []) (bindC (envOfC qual scope s.heap.objs.size f cd).kindOf (ps.zip us) fun _ => none) s1) :
    Inv (cxOf CX P w K mg base N qual scope f cd A outer s H E) [] (start N vs) H s1 := by
  have hpl : ps.length ≤ N.length := by have := congrArg List.length S.pre; rw [List.length_take] at this; omega
  obtain ⟨h1, tk, rfl, hk⟩ := x.done
  have noA : ∀ b : Addr, b ∉ (cxOf CX P w K mg base N qual scope f cd A outer s H E).ex := fun b z => absurd (show b ∈ ([] : List Addr) from z) (by simp)
  refine ⟨⟨e0.mod, S.kind, rfl, rfl, Nat.le_refl _, fun y z c h1 h2 => ?_, fun y hy => ?_, fun y c _ h => ?_, fun _ => hd, Around.frames_deeper e0.frames, .inr ⟨rfl, rfl⟩, fun b z => absurd z (noA b), e0.bs, e0.bsz, fun b _ _ => noA b, fun b z => absurd z (noA b), e0.funs, e0.frf⟩,
    rfl, e0.bare, Un.kept hk, ⟨_, x.toInCall.ns, fun i y v h1 h2 h3 => ?_⟩, fun y c h => ⟨_, x.cell y c h⟩, e0.hok.fresh (Nat.le_refl _), fun y c h => ?_, fun p hp => absurd (show p ∈ ([] : List (Addr × Obj)) from hp) (by simp), e0.hok.kept hk, ?_⟩
  · exact name_of_addr x.apart (PySem.mem_of_lookup h1) (PySem.mem_of_lookup h2)
  · have hy : scope.names.lookup y = some .cell ∨ scope.names.lookup y = some .free := hy
    rcases hy with hy | hy
    · exact qqE hy
    · exact absurd rfl (S.nofree _ (PySem.mem_of_lookup hy))
  · exact Nat.le_of_lt (x.above y c (PySem.mem_of_lookup h))
  · have hi : i < vs.length := by
      unfold start at h2
      by_cases hi : i < vs.length
      · exact hi
      · rw [List.getElem?_append_right (by simpa using hi)] at h2
        rw [List.getElem?_replicate] at h2
        split at h2 <;> cases h2
    have ha : vs[i]? = some v := by
      unfold start at h2
      rw [List.getElem?_append_left (by simpa using hi), List.getElem?_map] at h2
      cases e : vs[i]? with
      | none => rw [e] at h2; cases h2
      | some a => rw [e] at h2; cases h2; rfl
    obtain ⟨u, hu, rv⟩ := r.get ha
    have hp : ps[i]? = some y := by
      rw [← S.pre, List.getElem?_take_of_lt (by omega)]; exact h1
    have ndP : ps.Nodup := by rw [← S.pre]; exact S.nd.sublist (List.take_sublist _ _)
    refine ⟨u, rv, ?_⟩
    rcases S.par y (List.mem_of_getElem? hp) with k | k
    · exact .inl ⟨k, oqD ndP hp hu k⟩
    · obtain ⟨c, e⟩ := qqE (n := s.heap.objs.size + 1) k
      refine .inr ⟨.inl k, c, e, ?_⟩
      have q := x.cell y c e
      rw [oqb ndP hp hu (by show scope.names.lookup y ≠ _; rw [k]; decide)] at q
      exact q
  · exact e0.hok.fresh (Nat.le_of_lt (x.above y c (PySem.mem_of_lookup h)))
  · unfold start
    show _ = N.length
    rw [List.length_append, List.length_map, List.length_replicate]
    omega
theorem xqV {CX : CXT} {P : Program} {w : World} {K : PySem.W.Frag} {mg : Str → Option Value} {base : Heap} {k : Nat} {f : Addr} {name qual : Str} {params : Arguments} {body : List Stmt} {scope : Scope} {dV kV doc pm cdv ct oc : Value} {an od : Option Addr}
    {osl : Array (Option Value)} {N ps : List Str} {sp : Sp} (lk : K.lookup f = some ⟨oc, od, .func (PySem.W.fnOf name qual params body scope dV kV doc pm an cdv ct), osl⟩) (hcd : PySem.W.codeIn K cdv qual = true) (S : FnScope N ps scope)
    (len : ∀ vs H Q E, sp vs H Q E → vs.length = ps.length)
    (hbody : ∀ (A : Around) (outer : List Env) (s : Shared) (H : Hp) (vs : List V) (Q : VK) (E : XK), Room k (A.deeper (envOfC qual scope s.heap.objs.size f cdv)) → sp vs H Q E →
      ∃ t, PSs (cxOf CX P w K mg base N qual scope f cdv A outer s H E) body t ∧ t { nx := fun _ H' => Q .non H', rt := Q } (start N vs) H) :
    FnOk P w K mg base CX (k + 1) f (PySem.W.fnOf name qual params body scope dV kV doc pm an cdv ct) ps sp := by
  refine ⟨len, fun A outer s H args us vs Q E hr e0 hb r hsp => ?_⟩
  have hl := len _ _ _ _ hsp
  have KX : K.In s.heap := e0.mod.kin.keeps fun b o e => (e0.bs b o e).1
  have lim : s.heap.NoLimit := e0.mod.nolimit.keeps fun b o e => (e0.bs b o e).1
  have hkind : ∀ y ∈ ps.zip us, scope.names.lookup y.1 = some .local ∨ (scope.names.lookup y.1 = some .cell ∧ ((cellsFrom (s.heap.objs.size + 1) scope.names []).lookup y.1).isSome = true) := fun ⟨n, v⟩ hy => by
    rcases S.par n (List.of_mem_zip hy).1 with q | q
    · exact .inl q
    · exact .inr ⟨q, PySem.W.cellsFrom_some _ _ _ (.inl q)⟩
  refine codeAny_call_function hr.depth (KX _ _ lk) rfl S.co S.gen rfl (PySem.W.codeRec_of KX hcd) (hb _ _ _ _ ?_)
  refine wpAny_newFunctionEnv_cells S.kind hkind fun env he s1 x => ?_
  subst he
  refine ⟨lim.keeps x.toInCall.keep, codeAny_func ?_⟩
  obtain ⟨t, ht, hq⟩ := hbody A outer s H vs Q E (hr.deeper _) hsp
  have I : Inv (cxOf CX P w K mg base N qual scope f cdv A outer s H E) [] (start N vs) H s1 := rqJ S hr.hd e0 hl r x
  refine wpAny_mono (ht [] s1 (start N vs) H _ I hq) (fun fl s' hs => ?_) fun e s' hs => hs
  have fin : ∀ {σ' : St} {H' : Hp} {v : V} {u : Value}, Inv (cxOf CX P w K mg base N qual scope f cdv A outer s H E) [] σ' H' s' → RelV v u → Q v H' → CE outer P w H s Q u s' :=
    fun {σ' H' v u} J rv q => ⟨v, H', J.os, J.bare, J.base, J.hok, rv, q⟩
  cases fl with
  | ret u =>
    obtain ⟨v, σ', H', J, rv, q⟩ := hs
    exact fin J rv q
  | next =>
    obtain ⟨σ', H', J, q⟩ := hs
    exact fin (v := V.non) (u := Value.none) J rfl q
  | brk =>
    obtain ⟨_, _, _, q⟩ := hs
    exact False.elim q
  | cont =>
    obtain ⟨_, _, _, q⟩ := hs
    exact False.elim q
end L2
namespace L2
open PySem PySem.Spec PyProof.Rows
section
variable {X : Cx} {x : Str} {p pos : Pos} {e : Expr} {es : List Expr} {t : TA} {id T : String} {r : List V → Hp → VK → Prop}
def tCB (r : List V → Hp → VK → Prop) (t : TA) : TE := fun σ H Q => t σ H fun vs H1 => r vs H1 Q
theorem aqv (hc : CallR X (.builtin id) r) (hg : Gl X x) (hm : X.mg x = none) (hv : bootBuiltins x = some (.builtin id)) (ha : PA X (e :: es) t) (hn : x ≠ "__name__" := by decide) (hdb : (x == ("__debug__" : Str)) = false := by decide)
    (he : starEach (e :: es) X.env = (false, eval e X.env) :: starEach es X.env := by rfl) (hpl : (backTo pos (starEach es X.env)).any (·.1) = false := by rfl) : PE X (.Call (.Name x p) (e :: es) [] pos) (tCB r t) := by
  intro pins s σ H Q I h
  refine wpAny_Call_Name_kw (pqb I hg hm hv ?_ hn hdb)
  exact PyProof.Rows.callWith_builtin1 (thn (ha pos pins s σ H _ I h) fun us s1 ⟨vs, H1, I1, r1, q1⟩ => hc pins s1 σ H1 vs us Q I1 r1 q1) he hpl
theorem bqC (hc : CallR X (.type T) r) (hg : Gl X x) (hm : X.mg x = none) (hv : bootBuiltins x = some (.type T)) (ha : PA X (e :: es) t) (hn : x ≠ "__name__" := by decide) (hdb : (x == ("__debug__" : Str)) = false := by decide)
    (he : starEach (e :: es) X.env = (false, eval e X.env) :: starEach es X.env := by rfl) (hpl : (backTo pos (starEach es X.env)).any (·.1) = false := by rfl) : PE X (.Call (.Name x p) (e :: es) [] pos) (tCB r t) := by
  intro pins s σ H Q I h
  refine wpAny_Call_Name_kw (pqb I hg hm hv ?_ hn hdb)
  exact PyProof.Rows.callWith_type1 (thn (ha pos pins s σ H _ I h) fun us s1 ⟨vs, H1, I1, r1, q1⟩ => hc pins s1 σ H1 vs us Q I1 r1 q1) he hpl
end
end L2
namespace HT
open PySem PyProof.Rows
section
open PySem.SeqAt
open PySem.AutoSeq1 (wpAny_loadPart')
open PySem.MeetsSeq PySem.MeetsSeq2 PySem.MeetsSeq3
end
section
variable {prog : Program} {w : World} {A : Around} {E : Value → Shared → Prop} {s : Shared}
theorem cat_tup {t b : Addr} {vs ws : List Value} {Q : Value → Shared → Prop} (ht : IsTup s.heap t vs.toArray) (hb : IsTup s.heap b ws.toArray) (hv : vs ≠ [])
    (h1 : ws = [] → Q (.ref t) s) (h2 : ws ≠ [] → Q (.ref s.heap.objs.size) { s with heap := s.heap.push { cls := .type "tuple", data := .seq (vs ++ ws).toArray } })
    (hsz : vs.length + ws.length ≤ sizeLine) : wpAny (model prog w) A (binaryOp .Add (.ref t) (.ref b)) Q E s := by
  obtain ⟨⟨cls, dd, data, sl⟩, ho, hc, n, hd⟩ := id ht
  obtain ⟨⟨cls2, dd2, data2, sl2⟩, ho2, hc2, n2, hd2⟩ := id hb
  simp only at hc hd hc2 hd2
  subst hc hd hc2 hd2
  have e : vs.toArray ++ ws.toArray = (vs ++ ws).toArray := by simp
  by_cases hw : ws = []
  · exact concat_meets ⟨_, ho, rfl⟩ ⟨_, ho2, rfl⟩ noFill_tuple_add seq_tuple_add PySem.F.slot_tuple_add PySem.F.entry_tuple_add (PySem.F.args_tuple_add_2 _ _)
      (tuple_addW1 t b vs.toArray ws.toArray n n2 dd dd2 sl sl2 (by simpa using hv) (by simp [hw])) ⟨ho, ho2, h1 hw⟩
  · refine concat_meets ⟨_, ho, rfl⟩ ⟨_, ho2, rfl⟩ noFill_tuple_add seq_tuple_add PySem.F.slot_tuple_add PySem.F.entry_tuple_add (PySem.F.args_tuple_add_2 _ _)
      (tuple_addW2 t b vs.toArray ws.toArray n n2 dd dd2 sl sl2 (by simpa using hv) (by simpa using hw) (by rw [List.size_toArray, List.size_toArray]; exact hsz)) ⟨ho, ho2, ?_⟩
    rw [e]
    exact h2 hw
def sIx (n d : Nat) : Option Int → Nat
  | none => d
  | some v => if v < 0 then (v + (n : Int)).toNat else min v.toNat n
theorem sIx_nat (n d k : Nat) : sIx n d (some (k : Int)) = min k n := by
  show (if (k : Int) < 0 then ((k : Int) + (n : Int)).toNat else min (k : Int).toNat n) = min k n
  rw [if_neg (by omega), Int.toNat_natCast]
theorem yqm (n d : Nat) (hd : d ≤ n) (o : Option Int) : sIx n d o ≤ n := by
  cases o with
  | none => exact hd
  | some v =>
    show (if v < 0 then (v + (n : Int)).toNat else min v.toNat n) ≤ n
    by_cases hv : v < 0
    · rw [if_pos hv]; omega
    · rw [if_neg hv]; exact Nat.min_le_right _ _
theorem rqR (v : Int) (n d : Nat) : (if v < 0 then max (v + (n : Int)) 0 else min v (n : Int)) = ((sIx n d (some v) : Nat) : Int) := by
  show (if v < 0 then max (v + (n : Int)) 0 else min v (n : Int)) = (((if v < 0 then (v + (n : Int)).toNat else min v.toNat n) : Nat) : Int)
  by_cases hv : v < 0
  · simp only [if_pos hv]; omega
  · simp only [if_neg hv]; omega
theorem qqS (lo hi : Option Int) (n : Nat) : Builtin.Slice.sliceAdjust lo hi 1 (n : Int) = (((sIx n 0 lo : Nat) : Int), ((sIx n n hi : Nat) : Int)) := by
  have h1 : ¬ ((1 : Int) < 0) := by omega
  unfold Builtin.Slice.sliceAdjust
  simp only [h1, if_false]
  refine Prod.ext ?_ ?_
  · cases lo with
    | none => rfl
    | some v => exact rqR v n 0
  · cases hi with
    | none => rfl
    | some v => exact rqR v n n
theorem rqo (i j : Nat) : Builtin.Slice.slicePlaces (i : Int) (j : Int) 1 = j - i := by
  unfold Builtin.Slice.slicePlaces
  have h1 : (1 : Int) > 0 := by omega
  simp only [h1, if_true, Int.ediv_one]
  split <;> omega
theorem mqh {v : Value} {o : Option Int} {Q : Option Int → Shared → Prop} (p : IsPart v o) (h : Q o s) : wpAny (model prog w) A (Builtin.Slice.slicePartIndex v) Q E s := by
  cases p with
  | none => exact slicePart_none h
  | int i t => exact slicePart_int h
theorem gqF {sl : Addr} {vl vu : Value} {lo hi : Option Int} {n : Nat} {Q : Int × Int × Nat → Shared → Prop} (hs : s.heap.IsSliceOf sl vl vu .none) (pl : IsPart vl lo) (pu : IsPart vu hi)
    (h : Q (((sIx n 0 lo : Nat) : Int), 1, sIx n n hi - sIx n 0 lo) s) : wpAny (model prog w) A (Builtin.Slice.sliceApplied (.ref sl) (pure (n : Int))) Q E s := by
  obtain ⟨os, hos, hcs, hds⟩ := id hs
  unfold Builtin.Slice.sliceApplied Builtin.Slice.sliceFields
  refine wpAny_bind (wpAny_bind (wpAny_field hos hds (x := vl) rfl (wpAny_bind (wpAny_field hos hds (x := vu) rfl (wpAny_bind (wpAny_field hos hds (x := .none) rfl (wpAny_pure ?_)))))))
  refine wpAny_bind (slicePart_none ?_)
  show wpAny _ _ (if ((1 : Int) == 0) = true then _ else _) _ _ s
  rw [if_neg (by decide)]
  refine wpAny_bind (mqh pl (wpAny_bind (mqh pu (wpAny_bind (wpAny_pure ?_)))))
  show wpAny _ _ (match Builtin.Slice.sliceAdjust lo hi 1 (n : Int) with | (lo, hi) => pure (lo, (1 : Int), Builtin.Slice.slicePlaces lo hi 1)) _ _ s
  rw [qqS lo hi n]
  show wpAny _ _ (pure (((sIx n 0 lo : Nat) : Int), (1 : Int), Builtin.Slice.slicePlaces ((sIx n 0 lo : Nat) : Int) ((sIx n n hi : Nat) : Int) 1)) _ _ s
  rw [rqo]
  exact wpAny_pure h
theorem uqw (xs : Array Value) (i k : Nat) : ((List.range k).filterMap fun (m : Nat) => xs[((i : Int) + (m : Int) * 1).toNat]?).toArray = ((xs.toList.drop i).take k).toArray := by
  have e : (fun (m : Nat) => xs[((i : Int) + (m : Int) * 1).toNat]?) = fun m => xs[i + m]? := by
    funext m
    have : ((i : Int) + (m : Int) * 1).toNat = i + m := by omega
    rw [this]
  rw [e]
  have := pick_run xs i k
  rw [List.filterMap_map] at this
  have e2 : ((fun x => xs[x]?) ∘ fun x => i + x) = fun m => xs[i + m]? := rfl
  rw [e2] at this
  rw [this]
theorem getItem_tuple_cut {t sl : Addr} {items : Array Value} {vl vu : Value} {lo hi : Option Int} {Q : Value → Shared → Prop} (ht : IsTup s.heap t items) (hs : s.heap.IsSliceOf sl vl vu .none) (pl : IsPart vl lo) (pu : IsPart vu hi)
    (hw : ¬ (sIx items.size 0 lo = 0 ∧ sIx items.size items.size hi = items.size))
    (h : Q (.ref s.heap.objs.size) { s with heap := s.heap.push { cls := .type "tuple", data := .seq ((items.toList.drop (sIx items.size 0 lo)).take (sIx items.size items.size hi - sIx items.size 0 lo)).toArray } })
    (hsz : items.size ≤ sizeLine) : wpAny (model prog w) A (getItem (.ref t) (.ref sl)) Q E s := by
  have htake : sizeOk (.seq ((items.toList.drop (sIx items.size 0 lo)).take (sIx items.size items.size hi - sIx items.size 0 lo)).toArray) := by
    show ((items.toList.drop (sIx items.size 0 lo)).take (sIx items.size items.size hi - sIx items.size 0 lo)).toArray.size ≤ sizeLine
    rw [List.size_toArray, List.length_take, List.length_drop, Array.length_toList]
    omega
  have hj : sIx items.size items.size hi ≤ items.size := yqm _ _ (Nat.le_refl _) hi
  obtain ⟨os, hos, hcs, hds⟩ := id hs
  have hTs : s.TypeIs (.ref sl) "slice" := ⟨os, hos, hcs⟩
  unfold getItem
  try with_reducible refine wpAny_holding ?_
  first | refine wpAny_bind (wpAny_pure ?_) | skip
  refine wpAny_bind (wpAny_sequenceKey ht.typeIs (by decide) ?_)
  refine wpAny_bind (wpAny_callSpecial?_slot (name := Str.ofString "__getitem__") ht.typeIs PyProof.Rows.slot_tuple_getitem
    (wpAny_call_entry PyProof.Rows.slot_tuple_getitem ht.typeIs entry_tuple_getitem ?_ (args_tuple_getitem _ _)))
  show wpAny _ _ (Builtin.Tuple.tupleItemsOf (.ref t) >>= _) _ _ s
  refine wpAny_bind (tupleItemsOf_ ht ?_)
  refine wpAny_bind (wpAny_typeOf hTs ?_)
  rw [if_pos (by decide)]
  refine wpAny_bind (gqF hs pl pu ?_)
  have hno : ¬ ((((sIx items.size 0 lo : Nat) : Int) == 0 && (1 : Int) == 1 && (sIx items.size items.size hi - sIx items.size 0 lo) == items.size) = true) := by
    intro q
    rw [Bool.and_eq_true, Bool.and_eq_true] at q
    have q1 : ((sIx items.size 0 lo : Nat) : Int) = 0 := eq_of_beq q.1.1
    have q2 : sIx items.size items.size hi - sIx items.size 0 lo = items.size := eq_of_beq q.2
    exact hw ⟨by omega, by omega⟩
  show wpAny _ _ (if (((sIx items.size 0 lo : Nat) : Int) == 0 && (1 : Int) == 1 && (sIx items.size items.size hi - sIx items.size 0 lo) == items.size) = true then _ else _) _ _ s
  rw [if_neg hno, uqw]
  first
    | exact wpAny_bind (m := Builtin.Tuple.tupleExact _) (wpAny_newObj_type (wpAny_pure ⟨_, rfl, wpAny_pure h⟩) htake)
    | exact wpAny_bind (m := Builtin.Tuple.tupleExact _) (wpAny_newObj_type (wpAny_bind (wpAny_pure (wpAny_pure ⟨_, rfl, wpAny_pure h⟩))) htake)
    | exact wpAny_bind (wpAny_bind (m := Builtin.Tuple.tupleExact _) (wpAny_newObj_type (wpAny_pure (wpAny_pure ⟨_, rfl, wpAny_pure h⟩)) htake))
    | exact wpAny_bind (wpAny_bind (m := Builtin.Tuple.tupleExact _) (wpAny_newObj_type (wpAny_pure ⟨_, rfl, wpAny_pure h⟩) htake))
end
end HT
namespace L2
open PySem PySem.Spec PyProof.Rows
abbrev TO := St → Hp → (Option Int → Hp → Prop) → Prop
def PO (X : Cx) (e : Option Expr) (t : TO) : Prop :=
  ∀ (pins : List (Addr × Obj)) (s : Shared) (σ : St) (H : Hp) (Q : Option Int → Hp → Prop), Inv X pins σ H s → t σ H Q →
    wpAny (model X.prog X.w) X.A (evalPart e X.env) (fun u s' => ∃ o H', Inv X pins σ H' s' ∧ IsPart u o ∧ Q o H') X.xe s
def tNoPart : TO := fun _ H Q => Q none H
def tPart (t : TE) : TO := fun σ H Q => t σ H fun x H1 => ∃ i, x = .int i ∧ Q (some i) H1
section
variable {X : Cx} {e : Expr} {te : TE} {lo hi : Option Expr} {tl th : TO} {pos p2 : Pos}
theorem bql : PO X none tNoPart := by
  intro pins s σ H Q I h
  rw [evalPart_none]
  exact wpAny_pure ⟨none, H, I, .none, h⟩
theorem aqO (h : PE X e te) : PO X (some e) (tPart te) := by
  intro pins s σ H Q I hw
  rw [evalPart_some]
  refine thn (h pins s σ H _ I hw) fun u s1 ⟨x, H1, I1, r1, q1⟩ => ?_
  obtain ⟨i, rfl, q⟩ := q1
  obtain ⟨t, rfl⟩ := r1
  exact ⟨some i, H1, I1, .int i t, q⟩
def SlR (X : Cx) (r : V → Option Int → Option Int → Hp → VK → Prop) : Prop :=
  ∀ (pins : List (Addr × Obj)) (s : Shared) (σ : St) (H : Hp) (x : V) (v vl vu : Value) (lo hi : Option Int) (sl : Addr) (Q : VK), Inv X pins σ H s → RelV x v → s.heap.IsSliceOf sl vl vu .none → IsPart vl lo → IsPart vu hi → r x lo hi H Q →
    ∃ T id, typeLookup (.type T) "__getitem__" = pure (some (.builtin id)) ∧ s.TypeIs v T ∧ wpAny (model X.prog X.w) X.A (getItem v (.ref sl)) (EP X pins σ Q) X.xe s
theorem SlR.or {r r' : V → Option Int → Option Int → Hp → VK → Prop} (h : SlR X r) (h' : SlR X r') : SlR X (fun x lo hi H Q => r x lo hi H Q ∨ r' x lo hi H Q) := by
  intro pins s σ H x v vl vu lo hi sl Q I rx hs pl pu q
  rcases q with q | q
  · exact h pins s σ H x v vl vu lo hi sl Q I rx hs pl pu q
  · exact h' pins s σ H x v vl vu lo hi sl Q I rx hs pl pu q
def tSl (r : V → Option Int → Option Int → Hp → VK → Prop) (te : TE) (tl th : TO) : TE := fun σ H Q => te σ H fun x H1 => tl σ H1 fun l H2 => th σ H2 fun u H3 => r x l u H3 Q
theorem aqP {r : V → Option Int → Option Int → Hp → VK → Prop} (hr : SlR X r) (he : PE X e te) (hl : PO X lo tl) (hu : PO X hi th) : PE X (.Subscript e (.Slice lo hi none p2) pos) (tSl r te tl th) := by
  intro pins s σ H Q I h
  refine Subscript_ (thn (he pins s σ H _ I h) fun v s1 ⟨x, H1, I1, r1, q1⟩ => ?_)
  refine wpAny_Slice (thn (hl pins s1 σ H1 _ I1 q1) fun vl s2 ⟨l, H2, I2, pl, q2⟩ => thn (hu pins s2 σ H2 _ I2 q2) fun vu s3 ⟨u, H3, I3, pu, q3⟩ => ?_)
  rw [evalPart_none]
  refine wpAny_pure ?_
  have I4 : Inv X pins σ H3 { s3 with heap := s3.heap.push { cls := .type "slice", data := .fields #[vl, vu, .none] } } := I3.kept (t' := s3.toks) fun b ob q => Heap.get?_push_of_some _ q
  obtain ⟨T, id, hT, ht, hg⟩ := hr pins { s3 with heap := s3.heap.push { cls := .type "slice", data := .fields #[vl, vu, .none] } } σ H3 x v vl vu l u s3.heap.objs.size Q I4 r1 (Heap.IsSliceOf.new ..) pl pu q3
  show wpAny (model X.prog X.w) X.A (subscriptTail e (.Slice lo hi none p2) v (.ref s3.heap.objs.size)) (EP X pins σ Q) X.xe { s3 with heap := s3.heap.push { cls := .type "slice", data := .fields #[vl, vu, .none] } }
  exact tail_any (ops := [.ref s3.heap.objs.size, v]) ht hT hg (by with_unfolding_all rfl)
def cutV (xs : List V) (lo hi : Option Int) : List V := (xs.drop (HT.sIx xs.length 0 lo)).take (HT.sIx xs.length xs.length hi - HT.sIx xs.length 0 lo)
theorem lqt (xs : List V) (lo hi : Option Int) : (cutV xs lo hi).length ≤ xs.length := by
  unfold cutV
  rw [List.length_take, List.length_drop]
  omega
def rSlT (K : PySem.W.Frag) : V → Option Int → Option Int → Hp → VK → Prop := fun x lo hi H Q => ∃ a xs, x = .ref a ∧ SqT K H a xs ∧
  ¬ (HT.sIx xs.length 0 lo = 0 ∧ HT.sIx xs.length xs.length hi = xs.length) ∧ ∀ p, H p = none → Q (.ref p) (upd H p (.tup (cutV xs lo hi)))
theorem uqC : SlR X (rSlT X.K) := by
  intro pins s σ H x v vl vu lo hi sl Q I rx hs pl pu h
  obtain ⟨a, xs, rfl, hx, hw, q⟩ := h
  cases rx
  obtain ⟨its, r, ht, hz⟩ := I.tuple hx
  have hlen : its.toArray.size = xs.length := by rw [List.size_toArray]; exact r.length.symm
  refine ⟨"tuple", _, PyProof.Rows.slot_tuple_getitem.lookup, ht.typeIs, ?_⟩
  refine HT.getItem_tuple_cut ht hs pl pu (by rw [hlen]; exact hw) ?_ (by rw [hlen]; exact hz)
  rw [hlen]
  refine ⟨.ref s.heap.objs.size, _, I.laid (t' := s.toks) (o := .tup (cutV xs lo hi)) (fun b ob q => Heap.get?_push_of_some _ q) (Nat.le_refl _) ?_, rfl, q _ (I.hok.fresh (Nat.le_refl _))⟩
  exact ⟨Nat.le_trans (lqt xs lo hi) hz, _, (r.drop (HT.sIx xs.length 0 lo)).take (HT.sIx xs.length xs.length hi - HT.sIx xs.length 0 lo), IsTup.new _ _⟩
def rCatT (K : PySem.W.Frag) : R2 := fun x y H Q => ∃ a b xs ys, x = .ref a ∧ y = .ref b ∧ SqT K H a xs ∧ SqT K H b ys ∧ xs ≠ [] ∧ xs.length + ys.length ≤ sizeLine ∧
  (ys = [] → Q (.ref a) H) ∧ (ys ≠ [] → ∀ p, H p = none → Q (.ref p) (upd H p (.tup (xs ++ ys))))
theorem Vals.nil_iff {xs : List V} {us : List Value} (r : Vals xs us) : us = [] ↔ xs = [] := by
  cases r with
  | nil => simp
  | cons _ _ => simp
theorem sqi : OpR X (binaryOp .Add) (rCatT X.K) := by
  intro pins s σ H x y v u Q I rx ry h
  obtain ⟨a, b, xs, ys, rfl, rfl, ha, hb, hx, hz, q1, q2⟩ := h
  cases rx
  cases ry
  obtain ⟨its, r1, p1, _⟩ := I.tuple ha
  obtain ⟨its2, r2, p2, _⟩ := I.tuple hb
  refine HT.cat_tup p1 p2 (fun z => hx (r1.nil_iff.mp z)) (fun z => ⟨.ref a, H, I, rfl, q1 (r2.nil_iff.mp z)⟩) (fun z => ?_) (by rw [← r1.length, ← r2.length]; exact hz)
  refine ⟨.ref s.heap.objs.size, _, I.laid (t' := s.toks) (o := .tup (xs ++ ys)) (fun b ob q => Heap.get?_push_of_some _ q) (Nat.le_refl _) ?_, rfl, q2 (fun w => z (r2.nil_iff.mpr w)) _ (I.hok.fresh (Nat.le_refl _))⟩
  exact ⟨by rw [List.length_append]; exact hz, _, r1.append r2, IsTup.new _ _⟩
end
end L2
namespace L2
open PySem PySem.Spec PyProof.Rows
def ixN (n : Nat) (i : Int) : Option Nat := if 0 ≤ i then (if i < n then some i.toNat else none) else if -(n : Int) ≤ i then some (i + n).toNat else none
def atI {α : Type} (xs : List α) (i : Int) : Option α := (ixN xs.length i).bind fun j => xs[j]?
theorem wqi {n : Nat} {i : Int} {j : Nat} (h : ixN n i = some j) : seqIndex? i n = some j ∧ j < n ∧ -(n : Int) ≤ i ∧ i < n := by
  unfold ixN at h
  by_cases h0 : 0 ≤ i
  · rw [if_pos h0] at h
    by_cases h1 : i < n
    · rw [if_pos h1] at h
      have e : i.toNat = j := Option.some.inj h
      exact ⟨by rw [seqIndex_of h0 h1, e], by omega, by omega, h1⟩
    · rw [if_neg h1] at h; cases h
  · rw [if_neg h0] at h
    by_cases h1 : -(n : Int) ≤ i
    · rw [if_pos h1] at h
      have e : (i + n).toNat = j := Option.some.inj h
      exact ⟨by rw [seqIndex_neg (by omega) h1, e], by omega, h1, by omega⟩
    · rw [if_neg h1] at h; cases h
theorem pqX {α : Type} {xs : List α} {i : Int} {v : α} (h : atI xs i = some v) : ∃ j, seqIndex? i xs.length = some j ∧ xs[j]? = some v ∧ j < xs.length ∧ -(xs.length : Int) ≤ i ∧ i < xs.length := by
  unfold atI at h
  cases e : ixN xs.length i with
  | none => rw [e] at h; cases h
  | some j =>
    rw [e] at h
    obtain ⟨h1, h2, h3, h4⟩ := wqi e
    exact ⟨j, h1, h, h2, h3, h4⟩
theorem cqB {α : Type} {xs : List α} {j : Nat} {v : α} (h : xs[j]? = some v) : atI xs (j : Int) = some v := by
  have hj : j < xs.length := (List.getElem?_eq_some_iff.mp h).1
  have e : ixN xs.length (j : Int) = some j := by
    unfold ixN
    rw [if_pos (by omega), if_pos (by omega)]; simp
  unfold atI; rw [e]; exact h
def PlainIx (b : Expr) : Prop := ∀ o i, subscripted b false o i = operate [o, i] (getItem o i)
def IxR (X : Cx) (r : R2) : Prop :=
  ∀ (value slice : Expr) (pins : List (Addr × Obj)) (s : Shared) (σ : St) (H : Hp) (x y : V) (v u : Value) (Q : VK), Inv X pins σ H s → RelV x v → RelV y u → r x y H Q →
    subscripted slice false v u = operate [v, u] (getItem v u) → wpAny (model X.prog X.w) X.A (subscriptTail value slice v u) (EP X pins σ Q) X.xe s
def MtR (X : Cx) (id : String) (r : V → List V → Hp → VK → Prop) : Prop :=
  ∀ (pins : List (Addr × Obj)) (s : Shared) (σ : St) (H : Hp) (x : V) (xs : List V) (v : Value) (us : List Value) (Q : VK), Inv X pins σ H s → RelV x v → Vals xs us → r x xs H Q →
    wpAny (model X.prog X.w) X.A (call (.builtin id) (v :: us)) (EP X pins σ Q) X.xe s
section
variable {X : Cx} {a b : Expr} {ta tb : TE} {pos : Pos}
theorem IxR.or {r r' : R2} (h : IxR X r) (h' : IxR X r') : IxR X (fun x y H Q => r x y H Q ∨ r' x y H Q) := by
  intro value slice pins s σ H x y v u Q I rx ry q hs
  rcases q with q | q
  · exact h value slice pins s σ H x y v u Q I rx ry q hs
  · exact h' value slice pins s σ H x y v u Q I rx ry q hs
theorem aqs {r : R2} (hr : IxR X r) (ha : PE X a ta) (hb : PE X b tb) (hs : PlainIx b) : PE X (.Subscript a b pos) (tOp r ta tb) := by
  intro pins s σ H Q I h
  exact Subscript_ (binT ha hb I h fun v u s2 x y H2 I2 rx ry q => hr a b pins s2 σ H2 x y v u Q I2 rx ry q (hs _ _))
def rIxL (K : PySem.W.Frag) : R2 := fun x y H Q => ∃ p xs i v, x = .ref p ∧ y = .int i ∧ SqL K H p xs ∧ atI xs i = some v ∧ Q v H
def rIxT (K : PySem.W.Frag) : R2 := fun x y H Q => ∃ p xs i v, x = .ref p ∧ y = .int i ∧ SqT K H p xs ∧ atI xs i = some v ∧ Q v H
def rIxS : R2 := fun x y H Q => ∃ z i c, x = .str z ∧ y = .int i ∧ z.length ≤ sizeLine ∧ atI z.cps.toList i = some c ∧ Q (.str ⟨#[c]⟩) H
theorem wqf : IxR X (rIxL X.K) := by
  intro value slice pins s σ H x y v u Q I rx ry h hs
  obtain ⟨p, xs, i, z, rfl, rfl, hq, he, q⟩ := h
  cases rx
  obtain ⟨t, rfl⟩ := ry
  obtain ⟨its, r, pl, hz⟩ := I.list hq
  obtain ⟨j, h1, h2, h3, h4, h5⟩ := pqX he
  obtain ⟨w, ew, rw'⟩ := r.get h2
  have hl := r.length
  have hn := line63
  have fin : EP X pins σ Q w s := ⟨z, H, I, rw', q⟩
  by_cases h0 : 0 ≤ i
  · have hj : i.toNat = j := by
      rw [seqIndex_of h0 h5] at h1
      exact Option.some.inj h1
    exact item_listR pl.isList h0 (by omega) (by rw [hj]; simpa using ew) fin hs
  · have hj : (i + (its.toArray.size : Int)).toNat = j := by
      rw [seqIndex_neg (by omega) h4] at h1
      rw [List.size_toArray, ← hl]
      exact Option.some.inj h1
    exact subscriptTail_builtinR (x := w) pl.isList.typeIs slot_list_getitem.lookup
      (wpAny_getItem_list_neg (Q := fun r s' => r = w ∧ EP X pins σ Q r s') pl.isList (by omega) (by rw [List.size_toArray] <;> omega) (by omega) (by rw [hj]; simpa using ew) ⟨rfl, fin⟩) hs
theorem xqe : IxR X (rIxT X.K) := by
  intro value slice pins s σ H x y v u Q I rx ry h hs
  obtain ⟨p, xs, i, z, rfl, rfl, hq, he, q⟩ := h
  cases rx
  obtain ⟨t, rfl⟩ := ry
  obtain ⟨its, r, pl, hz⟩ := I.tuple hq
  obtain ⟨j, h1, h2, h3, h4, h5⟩ := pqX he
  obtain ⟨w, ew, rw'⟩ := r.get h2
  have hl := r.length
  have hn := line63
  have fin : EP X pins σ Q w s := ⟨z, H, I, rw', q⟩
  exact subscriptTail_builtinR (x := w) pl.typeIs slot_tuple_getitem.lookup
    (getItem_tuple (j := j) (Q := fun r s' => r = w ∧ EP X pins σ Q r s') pl (by omega) (by omega) (by rw [List.size_toArray, ← hl]; exact h1) (by simpa using ew) ⟨rfl, fin⟩) hs
theorem xqk : IxR X rIxS := by
  intro value slice pins s σ H x y v u Q I rx ry h hs
  obtain ⟨z, i, c, rfl, rfl, hz, he, q⟩ := h
  obtain ⟨t, rfl⟩ := rx
  obtain ⟨t', rfl⟩ := ry
  obtain ⟨j, h1, h2, h3, h4, h5⟩ := pqX he
  have hl : z.cps.toList.length = z.length := by simp [Str.length]
  rw [hl] at h1 h4 h5
  have hn := line63
  exact tail_any (typeIs_str s z t) slot_str_getitem.lookup (getItem_str (c := c) (by
    have e1 : decide (i < -(2 ^ 63 : Int)) = false := decide_eq_false (by omega)
    have e2 : decide (i ≥ 2 ^ 63) = false := decide_eq_false (by omega)
    rw [e1, e2, Bool.or_false]) (by rw [h1]; simpa using h2) ⟨.str ⟨#[c]⟩, H, I.tok _, ⟨_, rfl⟩, q⟩) hs
def rIx (K : PySem.W.Frag) : R2 := fun x y H Q => rIxL K x y H Q ∨ rIxT K x y H Q ∨ rIxS x y H Q
theorem wqV : IxR X (rIx X.K) := wqf.or (xqe.or xqk)
def rSetL : V → V → V → Hp → (Hp → Prop) → Prop := fun o i v H Q => ∃ p xs k j, o = .ref p ∧ i = .int k ∧ H p = some (.lst xs) ∧ ixN xs.length k = some j ∧ Q (upd H p (.lst (xs.set j v)))
theorem oqn (lo hi : Option Int) (n : Nat) : (sliceBounds lo hi none n).1 = ((HT.sIx n 0 lo : Nat) : Int) ∧ (sliceBounds lo hi none n).2.1 = ((HT.sIx n n hi : Nat) : Int) ∧ (sliceBounds lo hi none n).2.2 = 1 := by
  refine ⟨?_, ?_, rfl⟩
  · cases lo with
    | none => simp [sliceBounds, HT.sIx]
    | some i =>
      simp only [sliceBounds, HT.sIx, Option.getD_none, show (1 : Int) > 0 by decide, if_true]
      by_cases h : i < 0
      · simp only [h, if_true] <;> omega
      · simp only [h, if_false] <;> omega
  · cases hi with
    | none => simp [sliceBounds, HT.sIx]
    | some i =>
      simp only [sliceBounds, HT.sIx, Option.getD_none, show (1 : Int) > 0 by decide, if_true]
      by_cases h : i < 0
      · simp only [h, if_true] <;> omega
      · simp only [h, if_false] <;> omega
theorem nqx (its : List Value) (lo hi : Option Int) : slicePick its.toArray lo hi none = ((its.drop (HT.sIx its.length 0 lo)).take (HT.sIx its.length its.length hi - HT.sIx its.length 0 lo)).toArray := by
  obtain ⟨h1, h2, h3⟩ := oqn lo hi its.toArray.size
  unfold slicePick
  rw [h1, h2, h3]
  simp only [sliceRange_one, pick_run, List.size_toArray] <;> rfl
def rSlL (K : PySem.W.Frag) : V → Option Int → Option Int → Hp → VK → Prop := fun x lo hi H Q => ∃ a xs, x = .ref a ∧ SqL K H a xs ∧ ∀ p, H p = none → Q (.ref p) (upd H p (.lst (cutV xs lo hi)))
theorem vq2 : SlR X (rSlL X.K) := by
  intro pins s σ H x v vl vu lo hi sl Q I rx hs pl pu h
  obtain ⟨a, xs, rfl, hx, q⟩ := h
  cases rx
  obtain ⟨its, r, ht, hz⟩ := I.list hx
  have hlen := r.length
  refine ⟨"list", _, slot_list_getitem.lookup, ht.isList.typeIs, ?_⟩
  refine wpAny_getItem_list_slice ht.isList hs pl pu .none (by simp) ?_ (by rw [List.size_toArray] <;> omega)
  rw [nqx, ← hlen]
  refine ⟨.ref s.heap.objs.size, _, I.laid (t' := s.toks) (o := .lst (cutV xs lo hi)) (fun b ob q => Heap.get?_push_of_some _ q) (Nat.le_refl _) ?_, rfl, q _ (I.hok.fresh (Nat.le_refl _))⟩
  exact ⟨Nat.le_trans (lqt xs lo hi) hz, _, 0, (r.drop (HT.sIx xs.length 0 lo)).take (HT.sIx xs.length xs.length hi - HT.sIx xs.length 0 lo), Heap.get?_push_size _ rfl⟩
def flatV : V → Bool
  | .non => true
  | .bl _ => true
  | .int _ => true
  | .str _ => true
  | _ => false
def eqV : V → V → Bool
  | .non, .non => true
  | .bl a, .bl b => a == b
  | .bl a, .int b => (if a then 1 else 0) == b
  | .int a, .bl b => a == (if b then 1 else 0)
  | .int a, .int b => a == b
  | .str a, .str b => a == b
  | _, _ => false
theorem wq9 {A : Around} {s : Shared} {y x : V} {u v : Value} (ry : RelV y u) (rx : RelV x v) (fy : flatV y = true) (fx : flatV x = true) : SeqAt.EqAt A s u v (eqV y x) := by
  cases y with
  | non =>
    cases ry
    cases x with
    | non => cases rx; exact SeqAt.EqAt.same _
    | bl b => cases rx; exact SeqAt.EqAt.none_bool b
    | int b => obtain ⟨t, rfl⟩ := rx; exact SeqAt.EqAt.none_int b t
    | str b => obtain ⟨t, rfl⟩ := rx; exact SeqAt.EqAt.none_str b t
    | _ => exact absurd (show false = true from fx) Bool.false_ne_true
  | bl a =>
    cases ry
    cases x with
    | non => cases rx; exact SeqAt.EqAt.bool_none a
    | bl b => cases rx; exact SeqAt.EqAt.bool_bool a b
    | int b => obtain ⟨t, rfl⟩ := rx; exact SeqAt.EqAt.bool_int a b t
    | str b => obtain ⟨t, rfl⟩ := rx; exact SeqAt.EqAt.bool_str a b t
    | _ => exact absurd (show false = true from fx) Bool.false_ne_true
  | int a =>
    obtain ⟨t', rfl⟩ := ry
    cases x with
    | non => cases rx; exact SeqAt.EqAt.int_none a t'
    | bl b => cases rx; exact SeqAt.EqAt.int_bool a t' b
    | int b => obtain ⟨t, rfl⟩ := rx; exact SeqAt.EqAt.int_int a t' b t
    | str b => obtain ⟨t, rfl⟩ := rx; exact SeqAt.EqAt.int_str a t' b t
    | _ => exact absurd (show false = true from fx) Bool.false_ne_true
  | str a =>
    obtain ⟨t', rfl⟩ := ry
    cases x with
    | non => cases rx; exact SeqAt.EqAt.str_none a t'
    | bl b => cases rx; exact SeqAt.EqAt.str_bool a t' b
    | int b => obtain ⟨t, rfl⟩ := rx; exact SeqAt.EqAt.str_int a t' b t
    | str b => obtain ⟨t, rfl⟩ := rx; exact SeqAt.EqAt.str_str a t' b t
    | _ => exact absurd (show false = true from fx) Bool.false_ne_true
  | _ => exact absurd (show false = true from fy) Bool.false_ne_true
def eqU (x : V) (u : Value) : Bool := match u with
  | .none => eqV .non x
  | .bool b => eqV (.bl b) x
  | .int i _ => eqV (.int i) x
  | .str z _ => eqV (.str z) x
  | _ => false
theorem uqL {x y : V} {u : Value} (r : RelV y u) (f : flatV y = true) : eqU x u = eqV y x := by
  cases y with
  | non => cases r; rfl
  | bl b => cases r; rfl
  | int i => obtain ⟨t, rfl⟩ := r; rfl
  | str z => obtain ⟨t, rfl⟩ := r; rfl
  | _ => exact absurd (show false = true from f) Bool.false_ne_true
theorem pqp {x : V} : ∀ {xs : List V} {us : List Value}, Vals xs us → xs.all flatV = true → us.any (eqU x) = xs.any fun y => eqV y x
  | _, _, .nil, _ => rfl
  | y :: xs, u :: us, .cons r t, f => by
    rw [List.all_cons, Bool.and_eq_true] at f
    rw [List.any_cons, List.any_cons, uqL r f.1, pqp t f.2]
theorem nqe {A : Around} {s : Shared} {x : V} {v : Value} (rx : RelV x v) (fx : flatV x = true) : ∀ {xs : List V} {us : List Value}, Vals xs us → xs.all flatV = true → ∀ u ∈ us, SeqAt.EqAt A s u v (eqU x u)
  | _, _, .nil, _ => fun u hu => by cases hu
  | y :: xs, u :: us, .cons r t, f => fun u' hu => by
    rw [List.all_cons, Bool.and_eq_true] at f
    rcases List.mem_cons.mp hu with rfl | hu
    · rw [uqL r f.1]; exact wq9 r rx f.1 fx
    · exact nqe rx fx t f.2 u' hu
def inV (x : V) (xs : List V) : Bool := xs.any fun y => eqV y x
def rIn (K : PySem.W.Frag) (neg : Bool) : R2 := fun x y H Q => ∃ p xs, y = .ref p ∧ (SqL K H p xs ∨ SqT K H p xs) ∧ flatV x = true ∧ xs.all flatV = true ∧ Q (.bl (if neg then !inV x xs else inV x xs)) H
theorem rqG : OpR X (compareOp .In) (rIn X.K false) := by
  intro pins s σ H x y v u Q I rx ry h
  obtain ⟨p, xs, rfl, hq, fx, fs, q⟩ := h
  cases ry
  rcases hq with hq | hq
  · obtain ⟨its, r, pl, hz⟩ := I.list hq
    refine SeqAt.in_listAt (eqU x) pl.isList (fun w hw => nqe rx fx r fs w (by simpa using hw)) ⟨.bl _, H, I, rfl, ?_⟩
    rw [show its.toArray.any (eqU x) = its.any (eqU x) by simp, pqp r fs]
    exact q
  · obtain ⟨its, r, pl, hz⟩ := I.tuple hq
    refine SeqAt.in_tupleAt (eqU x) pl (fun w hw => nqe rx fx r fs w (by simpa using hw)) ⟨.bl _, H, I, rfl, ?_⟩
    rw [show its.toArray.any (eqU x) = its.any (eqU x) by simp, pqp r fs]
    exact q
theorem pqf : CallR X (.builtin "len") (fun xs H Q => ∃ p ys, xs = [.ref p] ∧ (SqL X.K H p ys ∨ SqT X.K H p ys) ∧ Q (.int ys.length) H) := by
  intro pins s σ H xs us Q I r h
  obtain ⟨p, ys, rfl, hq, q⟩ := h
  obtain ⟨u, rfl, rx⟩ := vals1 r
  cases rx
  have hn := line63
  rcases hq with hq | hq
  · obtain ⟨its, r', pl, hz⟩ := I.list hq
    have hlen := r'.length
    exact Calls.call_len_list pl.isList (by simp only [List.size_toArray] <;> omega) ⟨.int ys.length, H, I.tok _, ⟨s.toks + 1, by rw [List.size_toArray, hlen]⟩, q⟩
  · obtain ⟨its, r', pl, hz⟩ := I.tuple hq
    have hlen := r'.length
    exact len_tuple pl (by simp only [List.size_toArray] <;> omega) ⟨.int ys.length, H, I.tok _, ⟨s.toks + 1, by rw [List.size_toArray, hlen]⟩, q⟩
theorem oqW : CallR X (.builtin "len") (fun xs H Q => ∃ z, xs = [.str z] ∧ z.length ≤ sizeLine ∧ Q (.int z.length) H) := by
  intro pins s σ H xs us Q I r h
  obtain ⟨z, rfl, hz, q⟩ := h
  obtain ⟨u, rfl, t, rfl⟩ := vals1 r
  have hn := line63
  exact len_str (by omega) ⟨.int z.length, H, I.tok _, ⟨_, rfl⟩, q⟩
theorem jqg : CallR X (.type "tuple") (fun xs H Q => ∃ p ys, xs = [.ref p] ∧ ((SqL X.K H p ys ∧ ∀ l, H l = none → Q (.ref l) (upd H l (.tup ys))) ∨ (SqT X.K H p ys ∧ Q (.ref p) H))) := by
  intro pins s σ H xs us Q I r h
  obtain ⟨p, ys, rfl, h⟩ := h
  obtain ⟨u, rfl, rx⟩ := vals1 r
  cases rx
  rcases h with ⟨hq, q⟩ | ⟨hq, q⟩
  · obtain ⟨its, r', pl, hz⟩ := I.list hq
    have hlen := r'.length
    refine call_tuple_list pl.isList (fun h' kp => ?_) (by simp only [List.size_toArray] <;> omega)
    have I1 : Inv X pins σ H { s with heap := h' } := I.kept (t' := s.toks) kp
    have I2 : Inv X pins σ (upd H h'.objs.size (.tup ys)) { s with heap := h'.push { cls := .type "tuple", data := .seq its.toArray } } :=
      I1.laid (t' := s.toks) (fun b o e => Heap.get?_push_of_some _ e) (Nat.le_refl _) (show ObjOk X.prog X.w _ _ _ (.tup ys) from ⟨hz, its, r', IsTup.new _ _⟩)
    exact ⟨.ref h'.objs.size, _, I2, rfl, q _ (I1.hok.fresh (Nat.le_refl _))⟩
  · obtain ⟨its, r', pl, hz⟩ := I.tuple hq
    exact call_tuple_same pl ⟨.ref p, H, I, rfl, q⟩
def tyV (K : PySem.W.Frag) (T : String) (x : V) (H : Hp) : Prop := match x with
  | .str _ => T = "str"
  | .int _ => T = "int"
  | .ref p => (T = "list" ∧ ∃ xs, SqL K H p xs) ∨ (T = "tuple" ∧ ∃ o, K.lookup p = some o ∧ o.cls = .type "tuple" ∧ o.dict = none) ∨
      (T = "dict" ∧ ((∃ kvs, H p = some (.dK kvs)) ∨ ∃ kvs, H p = some (.dT kvs))) ∨ (T = "set" ∧ ∃ S n, H p = some (.set S n))
  | _ => False
theorem uqE {pins : List (Addr × Obj)} {σ : St} {H : Hp} {s : Shared} {T : String} {x : V} {v : Value} (I : Inv X pins σ H s) (r : RelV x v) (ty : tyV X.K T x H) :
    s.TypeIs v T ∧ ∀ a, v = .ref a → ∃ ob, s.heap.get? a = some ob ∧ ob.dict = none := by
  cases x with
  | str z =>
    obtain ⟨t, rfl⟩ := r
    cases (show T = "str" from ty)
    exact ⟨typeIs_str s z t, fun _ e => nomatch e⟩
  | int i =>
    obtain ⟨t, rfl⟩ := r
    cases (show T = "int" from ty)
    exact ⟨typeIs_int s i t, fun _ e => nomatch e⟩
  | ref p =>
    cases r
    rcases ty with ⟨rfl, xs, hq⟩ | ⟨rfl, o, hk, hc, hd⟩ | ⟨rfl, hk⟩ | ⟨rfl, S, n, hk⟩
    · obtain ⟨its, _, pl, _⟩ := I.list hq
      refine ⟨pl.isList.typeIs, fun a e => ?_⟩
      cases e
      obtain ⟨o, n, e, c, hd, _⟩ := pl
      exact ⟨o, e, hd⟩
    · refine ⟨⟨o, I.kIn p o hk, hc⟩, fun a e => ?_⟩
      cases e
      exact ⟨o, I.kIn _ o hk, hd⟩
    · have z : ∃ o, s.heap.get? p = some o ∧ o.ExactDict := by
        rcases hk with ⟨kvs, hk⟩ | ⟨kvs, hk⟩
        · obtain ⟨_, _, _, _, o, _, _, e, ex, _⟩ := I.hok p _ hk
          exact ⟨o, e, ex⟩
        · obtain ⟨_, _, _, _, o, _, _, e, ex, _⟩ := I.hok p _ hk
          exact ⟨o, e, ex⟩
      obtain ⟨o, e, ex⟩ := z
      refine ⟨⟨o, e, ex.1⟩, fun a e2 => ?_⟩
      cases e2
      exact ⟨o, e, ex.2.1⟩
    · obtain ⟨o, _, _, _, e, ex, _⟩ := I.hok p _ hk
      refine ⟨⟨o, e, ex.1⟩, fun a e2 => ?_⟩
      cases e2
      exact ⟨o, e, ex.2.1⟩
  | _ => exact False.elim ty
def tBM0 (K : PySem.W.Frag) (T : String) (r : V → List V → Hp → VK → Prop) (to : TE) : TE := fun σ H Q => to σ H fun x H1 => tyV K T x H1 ∧ r x [] H1 Q
def tBM (K : PySem.W.Frag) (T : String) (r : V → List V → Hp → VK → Prop) (to : TE) (t : TA) : TE := fun σ H Q => to σ H fun x H1 => tyV K T x H1 ∧ t σ H1 fun xs H2 => r x xs H2 Q
variable {o e : Expr} {es : List Expr} {to : TE} {t : TA} {name : Str} {apos cpos : Pos} {T id : String} {r : V → List V → Hp → VK → Prop}
theorem xqW (pa : PlainAttrs T) (slot : Slot T name id) (hty : typeOf (.builtin id) = pure (.type "method_descriptor")) (hm : MtR X id r) (ho : PE X o to)
    (hbase : attributeBase o name X.env (eval o X.env) = eval o X.env := by rfl) (hline : (apos.endLine == cpos.line) = true := by rfl) : PE X (.Call (.Attribute o name apos) [] [] cpos) (tBM0 X.K T r to) := by
  intro pins s σ H Q I h
  refine wpAny_Call_method0_late hbase hline (thn (ho pins s σ H _ I h) fun v s1 ⟨x, H1, I1, r1, ty, q1⟩ => ?_)
  obtain ⟨h1, h2⟩ := uqE I1 r1 ty
  exact ⟨T, id, pa, slot, hty, h1, h2, Calls.callWith_builtin rfl (PySem.evalArgs_none (hm pins s1 σ H1 x [] v [] Q I1 r1 .nil q1))⟩
theorem yqR (pa : PlainAttrs T) (slot : Slot T name id) (hty : typeOf (.builtin id) = pure (.type "method_descriptor")) (hm : MtR X id r) (ho : PE X o to) (ha : PA X (e :: es) t)
    (hbase : attributeBase o name X.env (eval o X.env) = eval o X.env := by rfl)
    (hfew : ((backTo cpos (starEach (e :: es) X.env)).all (fun x => !x.1) && (backToKw cpos (keywordEach [] X.env)).all (fun x => x.1.isSome)
      && decide ((e :: es).length + ([] : List Keyword).length + (if ([] : List Keyword).isEmpty then 0 else 1) < 30)) = true := by rfl)
    (hline : (apos.endLine == cpos.line) = true := by rfl) (hs : starEach (e :: es) X.env = (false, eval e X.env) :: starEach es X.env := by rfl) (hplain : (backTo cpos (starEach es X.env)).any (·.1) = false := by rfl) :
    PE X (.Call (.Attribute o name apos) (e :: es) [] cpos) (tBM X.K T r to t) := by
  intro pins s σ H Q I h
  refine wpAny_Call_method_late hbase hfew hline rfl (thn (ho pins s σ H _ I h) fun v s1 ⟨x, H1, I1, r1, ty, q1⟩ => ?_)
  obtain ⟨h1, h2⟩ := uqE I1 r1 ty
  refine ⟨T, id, pa, slot, hty, h1, h2, ?_⟩
  have hA := ha cpos pins s1 σ H1 _ I1 q1
  rw [hs] at hA ⊢
  refine Calls.callWith_builtin (by show (false || (backTo cpos (starEach es X.env)).any (·.1)) = false; rw [hplain] <;> rfl) (Calls.evalArgs_plain ?_)
  exact thn hA fun us s2 ⟨vs, H2, I2, r2, q2⟩ => hm pins s2 σ H2 x vs v us Q I2 r1 r2 q2
end
end L2
namespace L2
open PySem PySem.Spec PyProof.Rows
def MtM (X : Cx) (id : String) (r : V → List V → Hp → VK → Prop) : Prop :=
  ∀ (pins : List (Addr × Obj)) (s : Shared) (σ : St) (H : Hp) (x : V) (xs : List V) (v : Value) (us : List Value) (Q : VK), Inv X pins σ H s → RelV x v → Vals xs us → r x xs H Q →
    wpAny (model X.prog X.w) X.A (call (.builtin id) (v :: us)) (EP X pins σ Q) X.xe s
theorem Vals.one : ∀ {x : V} {us : List Value}, Vals [x] us → ∃ u, us = [u] ∧ RelV x u
  | _, _, .cons r .nil => ⟨_, rfl, r⟩
theorem Vals.zero : ∀ {us : List Value}, Vals [] us → us = []
  | _, .nil => rfl
theorem Vals.dropLast {xs : List V} {us : List Value} (h : Vals xs us) : Vals xs.dropLast us.dropLast := by
  induction h with
  | nil => exact .nil
  | cons r t ih =>
    cases t with
    | nil => exact .nil
    | cons q t' => exact .cons r ih
theorem Vals.reverse {xs : List V} {us : List Value} (h : Vals xs us) : Vals xs.reverse us.reverse := by
  induction h with
  | nil => exact .nil
  | cons r t ih => rw [List.reverse_cons, List.reverse_cons]; exact Vals.append ih (.cons r .nil)
theorem Vals.rep {xs : List V} {us : List Value} (h : Vals xs us) : ∀ k : Nat, Vals (List.replicate k xs).flatten (List.replicate k us).flatten
  | 0 => .nil
  | k + 1 => by
    rw [List.replicate_succ, List.replicate_succ, List.flatten_cons, List.flatten_cons]
    exact Vals.append h (Vals.rep h k)
theorem qqW {α : Type} (l : List α) : l.eraseIdx (l.length - 1) = l.dropLast := by
  induction l with
  | nil => rfl
  | cons a r ih =>
    cases r with
    | nil => rfl
    | cons b r =>
      have e : (a :: b :: r).length - 1 = ((b :: r).length - 1) + 1 := by
        have h1 : (a :: b :: r).length = r.length + 2 := rfl
        have h2 : (b :: r).length = r.length + 1 := rfl
        omega
      rw [e, List.eraseIdx_cons_succ, ih]
      all_goals rfl
theorem jqf (its : List Value) : ∀ (k : Nat) (acc : List Value),
    List.foldl (fun x1 x2 => x1 ++ x2) acc.toArray (List.replicate k its.toArray) = (acc ++ (List.replicate k its).flatten).toArray
  | 0, acc => by simp
  | k + 1, acc => by
    have e : acc.toArray ++ its.toArray = (acc ++ its).toArray := by simp
    have e2 : (acc ++ its) ++ (List.replicate k its).flatten = acc ++ (List.replicate (k + 1) its).flatten := by
      rw [List.replicate_succ, List.flatten_cons, List.append_assoc]
    rw [← e2, ← jqf its k (acc ++ its), ← e, List.replicate_succ, List.foldl_cons]
section
variable {X : Cx} {pins : List (Addr × Obj)} {σ : St} {H : Hp} {s : Shared} {l b : Addr} {xs ys zs : List V}
theorem Inv.lset {its its' : List Value} {n : Nat} {f : Array Value → Array Value} {t' : Nat} (I : Inv X pins σ H s) (hH : H l = some (.lst xs))
    (e : s.heap.get? l = some { cls := .type "list", data := .seq its.toArray n }) (hf : f its.toArray = its'.toArray) (hv : Vals ys its') (hz : ys.length ≤ sizeLine) :
    Inv X pins σ (upd H l (.lst ys)) { s with heap := s.heap.update l (Obj.mapSeq f), toks := t' } := by
  have q := PySem.IsL.update e f
  rw [hf] at q
  refine I.write (x := l) (e := l) (by rw [hH]; exact trivial) (.inl rfl) (fun b' u hb hu => (Heap.get?_update_other s.heap (Obj.mapSeq f) (Ne.symm hb)).trans hu) ⟨_, q⟩ ?_
  exact ⟨hz, its', _, hv, q⟩
theorem Inv.lnew {its : List Value} {t' : Nat} (I : Inv X pins σ H s) (hv : Vals ys its) (hz : ys.length ≤ sizeLine) :
    Inv X pins σ (upd H s.heap.objs.size (.lst ys)) { s with heap := s.heap.push { cls := .type "list", data := .seq its.toArray }, toks := t' } :=
  I.laid (fun _ _ q => Heap.get?_push_of_some _ q) (Nat.le_refl _) ⟨hz, its, 0, hv, Heap.get?_push_size _ rfl⟩
theorem Inv.fresh (I : Inv X pins σ H s) : H s.heap.objs.size = none := I.hok.fresh (Nat.le_refl _)
theorem Inv.lstM (I : Inv X pins σ H s) (hH : H l = some (.lst xs)) : xs.length ≤ sizeLine ∧ ∃ (its : List Value) (n : Nat), Vals xs its ∧ xs.length = its.length ∧ s.heap.get? l = some { cls := .type "list", data := .seq its.toArray n } := by
  obtain ⟨z, its, n, r, e⟩ := I.hok l _ hH
  exact ⟨z, its, n, r, r.length, e⟩
theorem notLongL {n : Nat} (h : n ≤ sizeLine) : Builtin.List.listTooLong n = false := by
  unfold Builtin.List.listTooLong
  exact decide_eq_false (by omega)
end
section
variable {X : Cx}
def rAppend : V → List V → Hp → VK → Prop := fun x vs H Q => ∃ l xs y, x = .ref l ∧ vs = [y] ∧ H l = some (.lst xs) ∧ xs.length < sizeLine ∧ Q .non (upd H l (.lst (xs ++ [y])))
theorem cqj : MtM X "list.append" rAppend := by
  intro pins s σ H x vs v us Q I rx rv h
  obtain ⟨l, xs, y, rfl, rfl, hH, hz, q⟩ := h
  cases rx
  obtain ⟨u, rfl, ru⟩ := rv.one
  obtain ⟨z, its, n, r, hl, e⟩ := I.lstM hH
  refine call_meets F.slot_list_append ⟨_, e, rfl⟩ F.entry_list_append (F.args_list_append_2 _ _) (PySem.list_append l its.toArray n u (by rw [List.size_toArray]; omega)) ⟨e, ?_⟩
  refine ⟨.non, _, I.lset (its' := its ++ [u]) hH e (by simp) (r.append (.cons ru .nil)) ?_, rfl, q⟩
  rw [List.length_append, List.length_singleton]
  omega
def rExtend : V → List V → Hp → VK → Prop := fun x vs H Q => ∃ l b xs zs, x = .ref l ∧ vs = [.ref b] ∧ H l = some (.lst xs) ∧ H b = some (.lst zs) ∧ xs.length + zs.length ≤ sizeLine ∧ Q .non (upd H l (.lst (xs ++ zs)))
theorem yqd : MtM X "list.extend" rExtend := by
  intro pins s σ H x vs v us Q I rx rv h
  obtain ⟨l, b, xs, zs, rfl, rfl, hH, hB, hz, q⟩ := h
  cases rx
  obtain ⟨u, rfl, ru⟩ := rv.one
  cases ru
  obtain ⟨z, its, n, r, hl, e⟩ := I.lstM hH
  obtain ⟨z2, its2, n2, r2, hl2, e2⟩ := I.lstM hB
  have hsz : its.toArray.size + its2.toArray.size ≤ sizeLine := by rw [List.size_toArray, List.size_toArray]; omega
  have hlong : ¬ (!its.toArray.isEmpty && Builtin.List.listTooLong (its.toArray.size + its2.toArray.size)) = true := by
    rw [notLongL hsz, Bool.and_false]
    exact Bool.false_ne_true
  refine call_meets F.slot_list_extend ⟨_, e, rfl⟩ F.entry_list_extend (F.args_list_extend_2 _ _)
    (AutoSeq1.list_extend_list_list_0 l its.toArray n b its2.toArray n2 hlong (by rw [List.size_toArray]; omega) (by omega)) ⟨e, e2, ?_⟩
  refine ⟨.non, _, I.lset (its' := its ++ its2) hH e (by simp) (r.append r2) ?_, rfl, q⟩
  rw [List.length_append]
  omega
def rPop : V → List V → Hp → VK → Prop := fun x vs H Q => ∃ l xs y, x = .ref l ∧ vs = [] ∧ H l = some (.lst xs) ∧ xs[xs.length - 1]? = some y ∧ Q y (upd H l (.lst xs.dropLast))
theorem xq8 : MtM X "list.pop" rPop := by
  intro pins s σ H x vs v us Q I rx rv h
  obtain ⟨l, xs, y, rfl, rfl, hH, hy, q⟩ := h
  cases rx
  have hus := rv.zero
  subst hus
  obtain ⟨z, its, n, r, hl, e⟩ := I.lstM hH
  obtain ⟨u, hu, ru⟩ := r.get hy
  have hy' : its.toArray[its.toArray.size - 1]? = some u := by
    show its.toArray[its.length - 1]? = some u
    rw [← Array.getElem?_toList, ← hl]
    exact hu
  refine call_meets F.slot_list_pop ⟨_, e, rfl⟩ F.entry_list_pop (F.args_list_pop_1 _) (MeetsSeq.list_pop_last l its.toArray n u hy' (by rw [List.size_toArray]; omega)) ⟨e, ?_⟩
  refine ⟨y, _, I.lset (its' := its.dropLast) hH e ?_ r.dropLast ?_, ru, q⟩
  · show its.toArray.eraseIdxIfInBounds (its.toArray.size - 1) = its.dropLast.toArray
    rw [List.size_toArray, List.eraseIdxIfInBounds_toArray, qqW]
  · rw [List.length_dropLast]
    omega
def rPopAt : V → List V → Hp → VK → Prop := fun x vs H Q => ∃ l xs i k y, x = .ref l ∧ vs = [.int i] ∧ H l = some (.lst xs) ∧ -(2 ^ 63) ≤ i ∧ i < 2 ^ 63 ∧ seqIndex? i xs.length = some k ∧ xs[k]? = some y ∧ Q y (upd H l (.lst (xs.eraseIdx k)))
def rReverse : V → List V → Hp → VK → Prop := fun x vs H Q => ∃ l xs, x = .ref l ∧ vs = [] ∧ H l = some (.lst xs) ∧ Q .non (upd H l (.lst xs.reverse))
theorem rqd : MtM X "list.reverse" rReverse := by
  intro pins s σ H x vs v us Q I rx rv h
  obtain ⟨l, xs, rfl, rfl, hH, q⟩ := h
  cases rx
  have hus := rv.zero
  subst hus
  obtain ⟨z, its, n, r, hl, e⟩ := I.lstM hH
  refine call_meets F.slot_list_reverse ⟨_, e, rfl⟩ F.entry_list_reverse (F.args_list_reverse_1 _) (AutoSeq1.list_reverse_list_0 l its.toArray n (by rw [List.size_toArray]; omega)) ⟨e, ?_⟩
  refine ⟨.non, _, I.lset (its' := its.reverse) hH e (by simp) r.reverse ?_, rfl, q⟩
  rw [List.length_reverse]
  omega
def rCat : R2 := fun x y H Q => ∃ l b xs zs, x = .ref l ∧ y = .ref b ∧ H l = some (.lst xs) ∧ H b = some (.lst zs) ∧ xs.length + zs.length ≤ sizeLine ∧ ∀ p, H p = none → Q (.ref p) (upd H p (.lst (xs ++ zs)))
theorem xqq : OpR X (binaryOp .Add) rCat := by
  intro pins s σ H x y v u Q I rx ry h
  obtain ⟨l, b, xs, zs, rfl, rfl, hH, hB, hz, q⟩ := h
  cases rx
  cases ry
  obtain ⟨z, its, n, r, hl, e⟩ := I.lstM hH
  obtain ⟨z2, its2, n2, r2, hl2, e2⟩ := I.lstM hB
  refine PySem.P.add_list e e2 ?_ (by rw [List.size_toArray, List.size_toArray]; omega)
  have ea : its.toArray ++ its2.toArray = (its ++ its2).toArray := by simp
  rw [ea]
  exact ⟨.ref _, _, I.lnew (t' := s.toks) (r.append r2) (by rw [List.length_append]; omega), rfl, q _ I.fresh⟩
def rRep : R2 := fun x y H Q => ∃ l k xs, x = .ref l ∧ y = .int k ∧ H l = some (.lst xs) ∧ -(2 ^ 63) ≤ k ∧ k < 2 ^ 63 ∧ xs.length * k.toNat ≤ sizeLine ∧
  ∀ p, H p = none → Q (.ref p) (upd H p (.lst (List.replicate k.toNat xs).flatten))
theorem pqF {α : Type} (xs : List α) (k : Nat) : (List.replicate k xs).flatten.length = k * xs.length := by
  induction k with
  | zero => simp
  | succ k ih => rw [List.replicate_succ, List.flatten_cons, List.length_append, ih, Nat.succ_mul, Nat.add_comm]
theorem xqY : OpR X (binaryOp .Mult) rRep := by
  intro pins s σ H x y v u Q I rx ry h
  obtain ⟨l, k, xs, rfl, rfl, hH, h1, h2, hz, q⟩ := h
  cases rx
  obtain ⟨t, rfl⟩ := ry
  obtain ⟨z, its, n, r, hl, e⟩ := I.lstM hH
  have hlen : its.toArray.size * k.toNat ≤ sizeLine := by rw [List.size_toArray, ← hl]; exact hz
  have hcap : ¬ its.toArray.size * k.toNat > (2 ^ 63 - 1) / 8 := by
    have : (sizeLine : Nat) ≤ (2 ^ 63 - 1) / 8 := by decide
    omega
  have hfit : ¬ (!Builtin.List.listFitsIndex k) = true := by
    rw [fitsIndex_both h1 h2]
    exact Bool.false_ne_true
  have hlong : ¬ Builtin.List.listTooLong (its.toArray.size * k.toNat) = true := by
    rw [notLongL hlen]
    exact Bool.false_ne_true
  have hnew : List.foldl (fun x1 x2 => x1 ++ x2) #[] (List.replicate (if its.toArray.isEmpty = true then 0 else k.toNat) its.toArray) = (List.replicate k.toNat its).flatten.toArray := by
    have f0 : ∀ m : Nat, List.foldl (fun x1 x2 => x1 ++ x2) #[] (List.replicate m its.toArray) = (List.replicate m its).flatten.toArray := fun m => by
      have := jqf its m []
      rw [List.nil_append] at this
      exact this
    rw [f0]
    cases its with
    | nil => simp
    | cons a r' => rw [if_neg (by simp)]
  refine wpAny_binaryOp_repeat_ref (T := "list") (U := "int") (by decide) ⟨_, e, rfl⟩ (fun s' => typeIs_int s' k t) noFill_list_mul F.fills_int_mul F.slot_int_rmul repeat_list F.slot_int_index.lookup
    (call_meets F.slot_int_rmul (typeIs_int s k t) F.entry_int_rmul (F.args_int_rmul_2 _ _) (int___rmul___int_list k t l its.toArray n)
      ⟨e, rfl, ⟨_, e, rfl⟩, call_meets F.slot_list_mul ⟨_, e, rfl⟩ F.entry_list_mul (F.args_list_mul_2 _ _) (AutoListH.list___mul___list_int_3 l its.toArray n k t hfit hcap hlong) ⟨e, ?_⟩⟩)
  rw [hnew]
  exact ⟨.ref _, _, I.lnew (t' := s.toks) (r.rep k.toNat) (by rw [pqF, Nat.mul_comm]; exact hz), rfl, q _ I.fresh⟩
end
section
variable {prog : Program} {w : World} {A : Around} {E : Value → Shared → Prop} {s : Shared}
set_option maxRecDepth 100000 in
end
section
variable {X : Cx}
end
end L2
namespace Att
open PySem PySem.W PySem.Calls PyProof.Rows
theorem kq0 {P : Params} {h : Heap} : ∀ (ns : List Int) (vs : List Value), WellAll P h vs (ns.map WData.int) → IntsAre vs ns := by
  intro ns
  induction ns with
  | nil =>
    intro vs w
    rw [List.map_nil] at w
    cases w
    exact .nil
  | cons n ns ih =>
    intro vs w
    rw [List.map_cons] at w
    cases w with
    | cons a b =>
      cases a
      exact .cons _ _ (ih _ b)
theorem sqp {l : OpenLaw} {n : Nat} (hn : l.most = some n) {P : Params} {h : Heap} {args : List WData} {vals : List Value}
    (hpre : l.row.toRowW.claim.pre args = true) (hwl : WellAll P h vals args) :
    ∃ a vs ns, vals = [Value.ref a] ∧ args = [WData.list (ns.map WData.int)] ∧ h.get? a = some { cls := .type "list", data := .seq vs.toArray } ∧ IntsAre vs ns ∧ ns.length ≤ n := by
  have hsh : WShape.hasAll [] args [.list .int] = true := (pre_splitW hpre).1
  have hc : l.pre.holds [] { args := args } = true := (pre_splitW hpre).2
  obtain ⟨d, r, rfl, h1, h2⟩ := hasAllW_cons hsh
  obtain rfl := hasAllW_nil h2
  obtain ⟨xs, rfl, h3⟩ := hasW_list h1
  obtain ⟨ns, rfl⟩ := items_int h3
  have hlen : ns.length ≤ n := by
    unfold OpenLaw.pre at hc
    have h4 : (WTm.not (.lt (.lit (.int (n : Int))) (.len (.arg 0)))).holds [] { args := [.list (ns.map .int)] } = true := by
      have h4 := (holds_andW hc).1
      rw [hn] at h4
      exact h4
    have h5 := condW_of h4 (w_not (w_lt w_lit (w_len_list (w_arg rfl))))
    rw [List.length_map] at h5
    refine Nat.le_of_not_lt fun q => ?_
    have q' : (n : Int) < ((ns.length : Nat) : Int) := by omega
    first
      | (rw [decide_eq_true q'] at h5; exact absurd h5 (by decide))
      | (simp at h5; omega)
  cases hwl with
  | cons w1 w2 =>
    cases w2
    cases w1 with
    | list ho hall => exact ⟨_, _, ns, rfl, rfl, ho, kq0 ns _ hall, hlen⟩
theorem tqb (l : OpenLaw) (args : List WData) : l.row.toRowW.claim.post args (.bool true) args = true :=
  postW_of (r := l.row.toRowW) (X := (true == true))
    (show WShape.has [] (.bool true) .bool = true by first | rfl | decide | simp [WShape.has, WShape.arms, WShape.armsAll])
    (show (WTm.eq .res (.lit (.bool true))).value [] { args := args, res := some (.bool true), after := args } = some (.bool (true == true)) from w_eq_bool (w_res rfl) w_lit) rfl
theorem attach_call {l : OpenLaw} {n : Nat} {q : Program} {loose : List Str} {XP : (Str → Option Value) → Heap → Prop} {YP : World → Heap → Prop} {d : DefRec}
    (hn : l.most = some n) (hdf : d.params.defaults = [])
    (call : ∀ (w : World) (s₀ s₁ : Shared) (mg mb : Str → Option Value) (fa : Addr) (o : Obj) (pm cd doc : Value) (a : Addr) (vs : List Value) (ns : List Int),
      Ground q loose [] XP w s₀ mg mb s₁.heap → YP w s₁.heap →
      s₁.heap.get? fa = some o → o.data = .func (docDef d.name d.params d.body d.scope pm cd doc) → s₁.heap.CodeRec cd d.name → mg d.name = some (.ref fa) →
      s₁.heap.get? a = some { cls := .type "list", data := .seq vs.toArray } → IntsAre vs ns → ns.length ≤ n → s₁.gens = #[] →
      codeAny (model l.prog w) callerA (.call (.ref fa) ⟨[.ref a], []⟩) (fun r s' => r = .ok (.ret (.bool true)) ∧ OldK s₁.heap s'.heap ∧ s'.os = s₁.os ∧ AllBare s'.gens) s₁) :
    WalkO q loose XP YP l.row.toRowW d [] (fun f vs => PySem.call f vs) := by
  intro w s₀ s₁ mg mb G Y fa o pm cd doc dV kV ho hd hcd hD hmg hg args vals as hpre hlay hrd hwl hlo
  obtain rfl : dV = .none := Dflts.none hD hdf
  obtain rfl : kV = .none := Dflts.noKw hD
  obtain ⟨a, vs, ns, rfl, rfl, hobj, hints, hlen⟩ := sqp hn hpre hwl
  refine enter_call (codeAny_mono (call w s₀ s₁ mg mb fa o pm cd doc a vs ns G Y ho (fd_plain hd) hcd hmg hobj hints hlen hg) fun r s' hq => ?_)
  obtain ⟨rfl, h2, h3, h4⟩ := hq
  exact ⟨.inl ⟨.bool true, .bool true, [], rfl, fun _ => rfl, .bool true, tqb l _, fun _ => ⟨List.Pairwise.nil, fun _ hm => (nomatch hm)⟩⟩, h2, h3, h4⟩
section
variable {prog : Program} {w : World} {A : Around} {E : Value → Shared → Prop} {s : Shared} {K : Frag}
def ledger (h : Heap) (L d : Addr) : List (Addr × Obj) := (List.range h.objs.size).filterMap fun a => if a = L ∨ a = d then none else (h.get? a).map fun o => (a, o)
end
end Att
namespace L2
open PySem PySem.Spec PyProof.Rows
theorem oqf : ∀ {vs : List Value} {ns : List Int}, IntsAre vs ns → Vals (ns.map V.int) vs
  | _, _, .nil => .nil
  | _, _, .cons n t h => .cons ⟨t, rfl⟩ (oqf h)
def Only (H : Hp) : Prop := ∀ b, H b = none ∨ ∃ o xs, H b = some (.frz o (.lst xs))
theorem tqF {P : Program} {w : World} {K : PySem.W.Frag} {mg mb : Str → Option Value} {CX : CXT} {k : Nat} {fa a : Addr} {fd : FuncData} {x : Str} {sp : Sp} {s₁ : Shared} {vs : List Value} {ns : List Int}
    (KX : K.In s₁.heap) (hns : s₁.heap.Ns mainGlobals mg) (hb : s₁.heap.Ns builtinsNs mb) (hbb : ∀ x : Str, x ≠ "__name__" → mb x = bootBuiltins x) (hlim : s₁.heap.NoLimit) (hg : s₁.gens = #[])
    (ha : s₁.heap.get? a = some { cls := .type "list", data := .seq vs.toArray }) (hi : IntsAre vs ns) (hl : ns.length ≤ sizeLine) (hr : Room k callerA)
    (F : ∀ base : Heap, K.In base → base.Ns mainGlobals mg → FnOk P w K mg base CX k fa fd [x] sp) (hbind : ∀ (s : Shared) (u : Value), BindsTo s fd ⟨[u], []⟩ [(x, u)])
    (hsp : ∀ H : Hp, Only H → SqL K H a (ns.map V.int) → sp [.ref a] H (fun v _ => v = .bl true) fun _ _ _ => False)
    (hCX : ∀ H e s', CX [] H s₁ (fun _ _ _ => False) e s' → False) :
    codeAny (model P w) callerA (.call (.ref fa) ⟨[.ref a], []⟩) (fun r s' => r = .ok (.ret (.bool true)) ∧ OldK s₁.heap s'.heap ∧ s'.os = s₁.os ∧ AllBare s'.gens) s₁ := by
  have rv := oqf hi
  have lenV := hi.length
  have core : ∀ H : Hp, Only H → SqL K H a (ns.map V.int) → HOk P w H s₁.heap → (∀ b, H b ≠ none → b = a) → (H a ≠ none → K.lookup a = none) →
      codeAny (model P w) callerA (.call (.ref fa) ⟨[.ref a], []⟩) (fun r s' => r = .ok (.ret (.bool true)) ∧ OldK s₁.heap s'.heap ∧ s'.os = s₁.os ∧ AllBare s'.gens) s₁ := by
    intro H hO hS hok hA hK
    have base_of : ∀ {b : Addr} {o : Obj}, s₁.heap.get? b = some o → H b = none → (hidT s₁.heap H).get? b = some o := fun e n => uqt e n
    have noA : ∀ {b : Addr} {o : Obj} {es : Array DictEntry} {ep : Nat}, s₁.heap.get? b = some o → o.data = .dict es ep → H b = none := fun {b o es ep} e d => by
      cases q : H b with
      | none => rfl
      | some u =>
        have e' : b = a := hA b (by rw [q]; simp)
        subst e'
        rw [ha] at e; cases e
        have d' : Data.seq vs.toArray _ = Data.dict es ep := d
        cases d'
    have nsK : ∀ {b : Addr} {m : Str → Option Value}, s₁.heap.Ns b m → (hidT s₁.heap H).Ns b m := fun {b m} ⟨o, es, ep, e, d, r⟩ => ⟨o, es, ep, base_of e (noA e d), d, r⟩
    have hKb : K.In (hidT s₁.heap H) := fun b o e => base_of (KX b o e) (by
      cases q : H b with
      | none => rfl
      | some u =>
        have e' : b = a := hA b (by rw [q]; simp)
        subst e'
        rw [hK (by rw [q]; simp)] at e; cases e)
    have hM : Mod K mg (hidT s₁.heap H) := ⟨hKb, nsK hns, ⟨mb, nsK hb, hbb⟩, let ⟨mc, h1, h2⟩ := hlim; ⟨mc, nsK h1, h2⟩⟩
    have e0 : Env0 P w K mg (hidT s₁.heap H) callerA [] s₁ H := ⟨rfl, hM, fun b o e => vqx e, Nat.le_of_eq (sqX _ _), trivial, fun b hb => absurd (show b ∈ ([] : List Addr) from hb) (by simp), hok, .of_eq hg⟩
    refine codeAny_mono ((F _ hKb (nsK hns)).run callerA [] s₁ H ⟨[.ref a], []⟩ [.ref a] [.ref a] _ _ hr e0 (hbind s₁ (.ref a)) (.cons rfl .nil) (hsp H hO hS)) fun r s' h => ?_
    cases r with
    | error e => exact (hCX H e s' h).elim
    | ok fl =>
      cases fl with
      | next => exact False.elim h
      | brk => exact False.elim h
      | cont => exact False.elim h
      | ret u =>
        obtain ⟨v, H', os, bare, un, hok', r', q⟩ := h
        have q' : v = .bl true := q
        subst q'
        obtain rfl : u = Value.bool true := r'
        refine ⟨rfl, OldK.of_keep fun b o e => ?_, os, bare⟩
        cases q : H b with
        | none => exact un.keep b o e q (by intro z; exact absurd (show b ∈ ([] : List Addr) from z) (by simp)) (by simp)
        | some u =>
          rcases hO b with z | ⟨ob, xs, z⟩
          · rw [q] at z; cases z
          · have z2 := un.frzs b ob _ z
            obtain ⟨e1, _⟩ := hok b _ z
            obtain ⟨e2, _⟩ := hok' b _ z2
            rw [e] at e1; cases e1
            exact e2
  cases hk : K.lookup a with
  | some o =>
    have e := KX a o hk
    rw [ha] at e
    cases e
    refine core (fun _ => none) (fun _ => .inl rfl) (.inr ⟨_, vs.toArray, _, hk, rfl, rfl, rfl, by rw [List.size_toArray, lenV]; exact hl, by simpa using rv⟩) (fun b u z => by have z' : (none : Option HO) = some u := z; cases z') (fun b z => absurd rfl z) fun z => absurd rfl z
  | none =>
    refine core (fun b => if b = a then some (.frz { cls := .type "list", data := .seq vs.toArray } (.lst (ns.map V.int))) else none) (fun b => ?_) (.inl (.inr ⟨{ cls := .type "list", data := .seq vs.toArray }, if_pos rfl⟩)) (fun b u z => ?_) (fun b z => ?_) fun _ => hk
    · by_cases hb : b = a
      · exact .inr ⟨_, _, if_pos hb⟩
      · exact .inl (if_neg hb)
    · by_cases hb : b = a
      · have z' := (if_pos hb).symm.trans z
        cases z'
        subst hb
        exact ⟨ha, by rw [List.length_map]; exact hl, vs, _, rv, ha⟩
      · have z' := (if_neg hb).symm.trans z
        cases z'
    · by_cases hb : b = a
      · exact hb
      · exact absurd (if_neg hb) z
end L2
namespace L2
open PySem PySem.Spec PyProof.Rows
abbrev KOf {K : PySem.W.Frag} {h : Heap} (_ : K.In h) : PySem.W.Frag := K
theorem vqG {l : PySem.W.OpenLaw} {n k : Nat} {q : Program} {loose : List Str} {XP : (Str → Option Value) → Heap → Prop} {YP : World → Heap → Prop} {d : DefRec} {K : Params → PySem.W.Frag} {CX : World → CXT} {sp : World → Sp} {x : Str}
    (hn : l.most = some n) (hn2 : n ≤ sizeLine) (hdf : d.params.defaults = []) (hr : Room k callerA)
    (hY : ∀ (w : World) (h : Heap), YP w h → (K w.params).In h)
    (F : ∀ (w : World) (mg : Str → Option Value) (fa : Addr) (h : Heap), (K w.params).In h → h.Ns mainGlobals mg → mg d.name = some (.ref fa) →
      ∃ fd : FuncData, (∀ (s : Shared) (u : Value), BindsTo s fd ⟨[u], []⟩ [(x, u)]) ∧
        ∀ base : Heap, (K w.params).In base → base.Ns mainGlobals mg → FnOk l.prog w (K w.params) mg base (CX w) k fa fd [x] (sp w))
    (hsp : ∀ (w : World) (H : Hp) (a : Addr) (ns : List Int), ns.length ≤ n → Only H → SqL (K w.params) H a (ns.map V.int) → sp w [.ref a] H (fun v _ => v = .bl true) fun _ _ _ => False)
    (hCX : ∀ (w : World) (H : Hp) (s : Shared) (e : Value) (s' : Shared), CX w [] H s (fun _ _ _ => False) e s' → False) :
    PySem.W.WalkO q loose XP YP l.row.toRowW d [] (fun f vs => PySem.call f vs) := by
  refine Att.attach_call hn hdf fun w s₀ s₁ mg mb fa o pm cd doc a vs ns G Y ho hd hcd hmg hobj hints hlen hg => ?_
  have KX := hY w _ Y
  obtain ⟨fd, hb, hF⟩ := F w mg fa _ KX G.T.g hmg
  exact tqF KX G.T.g G.T.b G.T.builtins G.T.nolimit hg hobj hints (Nat.le_trans hlen hn2) hr hF hb (fun H hO hS => hsp w H a ns hlen hO hS) fun H e s' => hCX w H s₁ e s'
end L2
namespace L2
open PySem PySem.Spec PyProof.Rows
def inClass (s : Stmt) (j : Nat) : Stmt := match s with
  | .ClassDef _ _ _ body _ _ _ _ _ _ _ => body.getD j (.Pass ⟨0, 0, 0, 0⟩)
  | _ => .Pass ⟨0, 0, 0, 0⟩
def defArgs (s : Stmt) : Arguments := match s with
  | .FunctionDef _ a _ _ _ _ _ _ _ _ => a
  | _ => { posonlyargs := [], args := [], vararg := none, kwonlyargs := [], kw_defaults := [], kwarg := none, defaults := [] }
def defBody (s : Stmt) : List Stmt := match s with
  | .FunctionDef _ _ b _ _ _ _ _ _ _ => b
  | _ => []
def defScope (s : Stmt) : Scope := match s with
  | .FunctionDef _ _ _ _ _ _ sc _ _ _ => sc
  | _ => { kind := .function, names := [], isGenerator := false, isCoroutine := false }
abbrev CX0 : CXT := fun _ _ _ _ _ _ => False
abbrev E0 : XK := fun _ _ _ => False
theorem pass0 {X : Cx} : Passes CX0 X E0 := fun _ _ _ _ _ _ _ h => h.elim
structure Fun (K : PySem.W.Frag) (x qual : Str) (st : Stmt) (f : Addr) (fd : FuncData) : Prop where
  ex : ∃ (oc : Value) (od : Option Addr) (kV doc pm : Value) (an : Option Addr) (cdv ct : Value) (osl : Array (Option Value)),
    fd = PySem.W.fnOf x qual (defArgs st) (defBody st) (defScope st) .none kV doc pm an cdv ct ∧ K.lookup f = some ⟨oc, od, .func fd, osl⟩ ∧ PySem.W.codeIn K cdv qual = true
  kp : PySem.W.keepIn K (.ref f) = true
section
variable {P : Program} {w : World} {K : PySem.W.Frag} {mg : Str → Option Value} {base : Heap}
theorem Fun.ok {x qual : Str} {st : Stmt} {f : Addr} {fd : FuncData} {N ps : List Str} {k : Nat} {sp : Sp} (F : Fun K x qual st f fd) (S : FnScope N ps (defScope st)) (len : ∀ vs H Q E, sp vs H Q E → vs.length = ps.length)
    (hbody : ∀ (cdv : Value) (A : Around) (outer : List Env) (s : Shared) (H : Hp) (vs : List V) (Q : VK) (E : XK), Room k (A.deeper (envOfC qual (defScope st) s.heap.objs.size f cdv)) → sp vs H Q E →
      ∃ t, PSs (cxOf CX0 P w K mg base N qual (defScope st) f cdv A outer s H E).nox (defBody st) t ∧ t { nx := fun _ H' => Q .non H', rt := Q } (start N vs) H) : FnOk P w K mg base CX0 (k + 1) f fd ps sp := by
  obtain ⟨oc, od, kV, doc, pm, an, cdv, ct, osl, rfl, lk, hcd⟩ := F.ex
  refine xqV lk hcd S len fun A outer s H vs Q E hr hsp => ?_
  obtain ⟨t, h, q⟩ := hbody cdv A outer s H vs Q E hr hsp
  exact ⟨t, h.nox, q⟩
theorem Fun.binds {x qual : Str} {st : Stmt} {f : Addr} {fd : FuncData} {ps : List Str} (F : Fun K x qual st f fd)
    (h : ∀ (kV doc pm : Value) (an : Option Addr) (cdv ct : Value) (us : List Value), us.length = ps.length → bindArgs (PySem.W.fnOf x qual (defArgs st) (defBody st) (defScope st) .none kV doc pm an cdv ct) ⟨us, []⟩ = pure (ps.zip us)) : Binds K fd ps [] := by
  obtain ⟨oc, od, kV, doc, pm, an, cdv, ct, osl, rfl, lk, hcd⟩ := F.ex
  exact .all (h kV doc pm an cdv ct)
theorem aqi {x qual : Str} {st : Stmt} {f : Addr} {oc : Value} {od an : Option Addr} {osl : Array (Option Value)} {kV doc pm cdv ct : Value} (l : K.lookup f = some ⟨oc, od, .func (PySem.W.fnOf x qual (defArgs st) (defBody st) (defScope st) .none kV doc pm an cdv ct), osl⟩)
    (c : PySem.W.codeIn K cdv qual = true) (k : PySem.W.keepIn K (.ref f) = true) : Fun K x qual st f (PySem.W.fnOf x qual (defArgs st) (defBody st) (defScope st) .none kV doc pm an cdv ct) := ⟨⟨oc, od, kV, doc, pm, an, cdv, ct, osl, rfl, l, c⟩, k⟩
end
section
variable {X : Cx}
theorem pv (i : Nat) {x : Str} {pos : Pos} (hN : X.N[i]? = some x := by rfl) (hv : Vis X.env.scope x := by first | exact Or.inl rfl | exact Or.inr (Or.inl rfl) | exact Or.inr (Or.inr rfl)) (hd : (x == ("__debug__" : Str)) = false := by decide)
    (hcd : (x == ("__classdict__" : Str)) = false := by decide) : PE X (.Name x pos) (tVar i) := xqc hN hv hd hcd
end
theorem ite2 {c A B : Prop} [Decidable c] (h1 : c → A) (h2 : ¬ c → B) : if c then A else B := by
  by_cases h : c
  · rw [if_pos h]
    exact h1 h
  · rw [if_neg h]
    exact h2 h
def Same (H H' : Hp) : Prop := ∀ b o, H b = some o → H' b = some o
theorem Same.refl (H : Hp) : Same H H := fun _ _ h => h
theorem Same.trans {H H1 H2 : Hp} (a : Same H H1) (b : Same H1 H2) : Same H H2 := fun c o h => b c o (a c o h)
theorem Same.seq {K : PySem.W.Frag} {H H' : Hp} {a : Addr} {xs : List V} (e : Same H H') (h : SqL K H a xs) : SqL K H' a xs := by
  rcases h with (h | ⟨o, h⟩) | h
  · exact .inl (.inl (e _ _ h))
  · exact .inl (.inr ⟨o, e _ _ h⟩)
  · exact .inr h
end L2
set_option maxHeartbeats 4000000
namespace L2
open PySem PySem.Spec PyProof.Rows
def Its (z : Str) : It := ⟨fun i _ => i < z.length, fun i H x H' => H' = H ∧ ∃ c, z.cps.toList[i]? = some c ∧ x = .str ⟨#[c]⟩, fun i _ => z.length ≤ i⟩
theorem rqO {z : Str} {i : Nat} (h : i < z.length) : ∃ c, z.cps[i]? = some c ∧ z.cps.toList[i]? = some c := by
  have h' : i < z.cps.size := h
  exact ⟨z.cps[i], by simp [h'], by simp [h']⟩
theorem qqL {z : Str} {i : Nat} (h : z.length ≤ i) : z.cps[i]? = none := by
  have h' : z.cps.size ≤ i := h
  simp [h']
theorem sq9 {P : Program} {w : World} {K : PySem.W.Frag} {tg : Expr} (it : Addr) (z : Str) (t : Tok) : Turn P w K tg (Its z) [it] it (fun i h => h.IsStrIter it "str_ascii_iterator" z t i) where
  mem := by simp
  obj := fun i h st b hb => by
    have e : b = it := by simpa using hb
    subst e
    obtain ⟨o, e, c, d⟩ := st
    exact ⟨o, e, fun v z => by rw [d] at z; cases z⟩
  keep := fun i h h' st k => by
    obtain ⟨o, e, r⟩ := st
    exact ⟨o, k it (by simp) o e, r⟩
  item := by
    intro X hP hw hK hc i pins s σ H E I hf st hg
    subst hP hw hK
    obtain ⟨c, h1, h2⟩ := rqO (z := z) (i := i) hg
    obtain ⟨f0, f1, f2, f3, f4, f5⟩ := hf it (by simp)
    refine wpAny_pyNext_ascii_item st h1 fun h' st' sb => ?_
    have I1 : Inv X pins σ H { s with heap := h', toks := s.toks + 1 } := I.turned (t' := s.toks + 1) (fun b o hb e => (sb.2 b hb).trans e) f0 f1 f3 f4 f5
    obtain ⟨o, e, cl, d⟩ := id st'
    exact ⟨_, rfl, rqa (s := { s with heap := h', toks := s.toks + 1 }) e cl d (by decide) ⟨.str ⟨#[c]⟩, H, I1, ⟨_, rfl⟩, ⟨rfl, c, h2, rfl⟩, st', fun b hb => (hf b hb).1⟩⟩
  done := by
    intro X hP hw hK hc i pins s σ H E I hf st hg
    subst hP hw hK
    obtain ⟨f0, f1, f2, f3, f4, f5⟩ := hf it (by simp)
    exact wpAny_pyNext_ascii_end (I.ok.hd hc) st (qqL hg) fun h' eb => ⟨rfl, I.turned (t' := s.toks) (fun b o hb e => eb b o hb e) f0 f1 f3 f4 f5⟩
  self := fun _ _ _ _ _ st h => wpAny_pyIter_striter_ascii st h
theorem rq8 {P : Program} {w : World} {K : PySem.W.Frag} {tg : Expr} (it : Addr) (z : Str) (t : Tok) : Turn P w K tg (Its z) [it] it (fun i h => h.IsStrIter it "str_iterator" z t i) where
  mem := by simp
  obj := fun i h st b hb => by
    have e : b = it := by simpa using hb
    subst e
    obtain ⟨o, e, c, d⟩ := st
    exact ⟨o, e, fun v z => by rw [d] at z; cases z⟩
  keep := fun i h h' st k => by
    obtain ⟨o, e, r⟩ := st
    exact ⟨o, k it (by simp) o e, r⟩
  item := by
    intro X hP hw hK hc i pins s σ H E I hf st hg
    subst hP hw hK
    obtain ⟨c, h1, h2⟩ := rqO (z := z) (i := i) hg
    obtain ⟨f0, f1, f2, f3, f4, f5⟩ := hf it (by simp)
    refine wpAny_pyNext_wide_item st h1 fun h' st' sb => ?_
    have I1 : Inv X pins σ H { s with heap := h', toks := s.toks + 1 } := I.turned (t' := s.toks + 1) (fun b o hb e => (sb.2 b hb).trans e) f0 f1 f3 f4 f5
    obtain ⟨o, e, cl, d⟩ := id st'
    exact ⟨_, rfl, rqa (s := { s with heap := h', toks := s.toks + 1 }) e cl d (by decide) ⟨.str ⟨#[c]⟩, H, I1, ⟨_, rfl⟩, ⟨rfl, c, h2, rfl⟩, st', fun b hb => (hf b hb).1⟩⟩
  done := by
    intro X hP hw hK hc i pins s σ H E I hf st hg
    subst hP hw hK
    obtain ⟨f0, f1, f2, f3, f4, f5⟩ := hf it (by simp)
    exact wpAny_pyNext_wide_end (I.ok.hd hc) st (qqL hg) fun h' eb => ⟨rfl, I.turned (t' := s.toks) (fun b o hb e => eb b o hb e) f0 f1 f3 f4 f5⟩
  self := fun _ _ _ _ _ st h => wpAny_pyIter_striter_wide st h
section
variable {X : Cx} {tg : Expr}
def iStr (tl : TE) : TI := fun σ H R => tl σ H fun x H1 => ∃ z, x = .str z ∧ R (Its z) H1
theorem sqZ {l : Expr} {tl : TE} (hl : PE X l tl) : PI X tg l (iStr tl) := by
  intro pins s σ H R I h
  refine thn (hl pins s σ H _ I h) fun v s1 ⟨x, H1, I1, r1, q1⟩ => ?_
  obtain ⟨z, rfl, q⟩ := q1
  obtain ⟨t, rfl⟩ := r1
  have fp : ∀ b ∈ [s1.heap.objs.size], FpOk X pins H1 b := fun b hb => by
    have e : b = s1.heap.objs.size := by simpa using hb
    subst e
    exact I1.fpOk (Nat.le_refl _) (I1.hok.fresh (Nat.le_refl _))
  cases ha : z.cps.all (· < 128)
  · refine wpAny_pyIter_wide ha ?_
    exact ⟨s1.heap.objs.size, [s1.heap.objs.size], _, _, H1, rfl, I1.kept (t' := s1.toks) fun b o e => Heap.get?_push_of_some _ e, rq8 _ z t, ⟨_, Heap.get?_push_size _ rfl, rfl, rfl⟩, fp, q⟩
  · refine wpAny_pyIter_ascii ha ?_
    exact ⟨s1.heap.objs.size, [s1.heap.objs.size], _, _, H1, rfl, I1.kept (t' := s1.toks) fun b o e => Heap.get?_push_of_some _ e, sq9 _ z t, ⟨_, Heap.get?_push_size _ rfl, rfl, rfl⟩, fp, q⟩
end
theorem wqe {z : Str} {g : TG} {tb : TS} {D : Ends} {σ : St} {H : Hp} (Pv : Nat → St → Hp → Prop) (h0 : Pv 0 σ H)
    (hs : ∀ i c σ H, z.cps.toList[i]? = some c → Pv i σ H → g (.str ⟨#[c]⟩) σ H fun σ2 H2 => tb { D with nx := Pv (i + 1), ct := Pv (i + 1), bk := D.nx } σ2 H2) (hd : ∀ σ H, Pv z.length σ H → D.nx σ H) :
    ∃ W : Nat → Nat → St → Hp → Prop, (∃ m, W 0 m σ H) ∧ ∀ i m σ H, W i m σ H →
      ((Its z).stop i H ∧ D.nx σ H) ∨ ((Its z).go i H ∧ ∃ N : St → Hp → Prop, (∀ σ' H', N σ' H' → ∃ m', m' < m ∧ W (i + 1) m' σ' H') ∧ ∀ x H', (Its z).yld i H x H' → g x σ H' fun σ2 H2 => tb { D with nx := N, ct := N, bk := D.nx } σ2 H2) := by
  refine ⟨fun i m σ H => m = z.length - i ∧ i ≤ z.length ∧ Pv i σ H, ⟨z.length, by simp, Nat.zero_le _, h0⟩, ?_⟩
  rintro i m σ H ⟨rfl, hi, p⟩
  by_cases hlt : i < z.length
  · refine .inr ⟨hlt, Pv (i + 1), fun σ' H' p' => ⟨z.length - (i + 1), by omega, rfl, hlt, p'⟩, fun x H' y => ?_⟩
    obtain ⟨e, c, hc, ex⟩ := y
    subst e ex
    exact hs i c σ _ hc p
  · have e : i = z.length := by omega
    subst e
    exact .inl ⟨Nat.le_refl _, hd σ H p⟩
section
variable {X : Cx}
def rSlS : V → Option Int → Option Int → Hp → VK → Prop := fun x lo hi H Q => ∃ z, x = .str z ∧ z.length ≤ sizeLine ∧ Q (.str (Txt.slice z lo hi)) H
theorem wqZ : SlR X rSlS := by
  intro pins s σ H x v vl vu lo hi sl Q I rx hs pl pu h
  obtain ⟨z, rfl, hz, q⟩ := h
  obtain ⟨t, rfl⟩ := rx
  refine ⟨"str", _, F.slot_str_getitem.lookup, typeIs_str _ _ _, ?_⟩
  obtain ⟨o, ho, hc, hd⟩ := hs
  cases pl with
  | none =>
    cases pu with
    | none => exact wpAny_getItem_str_slice (l := none) (u := none) (st := none) ⟨o, ho, hc, hd⟩ rfl (post_val_or_str ⟨Nat.le_trans (Txt.slice_le z none none) hz, fun t' k => ⟨.str (Txt.slice z none none), H, I.tok k, ⟨t', rfl⟩, q⟩⟩)
    | int j uj => exact wpAny_getItem_str_slice (l := none) (u := some (j, uj)) (st := none) ⟨o, ho, hc, hd⟩ rfl (post_val_or_str ⟨Nat.le_trans (Txt.slice_le z none (some j)) hz, fun t' k => ⟨.str (Txt.slice z none (some j)), H, I.tok k, ⟨t', rfl⟩, q⟩⟩)
  | int i ui =>
    cases pu with
    | none => exact wpAny_getItem_str_slice (l := some (i, ui)) (u := none) (st := none) ⟨o, ho, hc, hd⟩ rfl (post_val_or_str ⟨Nat.le_trans (Txt.slice_le z (some i) none) hz, fun t' k => ⟨.str (Txt.slice z (some i) none), H, I.tok k, ⟨t', rfl⟩, q⟩⟩)
    | int j uj => exact wpAny_getItem_str_slice (l := some (i, ui)) (u := some (j, uj)) (st := none) ⟨o, ho, hc, hd⟩ rfl (post_val_or_str ⟨Nat.le_trans (Txt.slice_le z (some i) (some j)) hz, fun t' k => ⟨.str (Txt.slice z (some i) (some j)), H, I.tok k, ⟨t', rfl⟩, q⟩⟩)
def rSl (K : PySem.W.Frag) : V → Option Int → Option Int → Hp → VK → Prop := fun x lo hi H Q => rSlL K x lo hi H Q ∨ rSlS x lo hi H Q
theorem yqf : SlR X (rSl X.K) := vq2.or wqZ
def rIndex : V → List V → Hp → VK → Prop := fun x vs H Q => match x, vs with
  | .str z, [.str y] => ∃ i r, Builtin.Str.occurrences z y 0 z.length 1 = i :: r ∧ Q (.int (i : Nat)) H
  | _, _ => False
theorem tq4 {z y : Str} {H : Hp} {Q : VK} : rIndex (.str z) [.str y] H Q ↔ ∃ i r, Builtin.Str.occurrences z y 0 z.length 1 = i :: r ∧ Q (.int (i : Nat)) H := Iff.rfl
theorem qqH : MtR X "str.index" rIndex := by
  intro pins s σ H x vs v us Q I rx rv h
  unfold rIndex at h
  split at h
  rotate_left
  · exact h.elim
  rename_i z y
  obtain ⟨i, r, ho, q⟩ := h
  obtain ⟨t, rfl⟩ := rx
  obtain ⟨u, rfl, t', rfl⟩ := vals1 rv
  exact SC.index ho ⟨.int (i : Nat), H, I.tok _, ⟨_, rfl⟩, q⟩
theorem notTooLong {n : Nat} (h : n ≤ 1000000) : Builtin.Str.tooLong n = false := by
  unfold Builtin.Str.tooLong
  rw [sizeLine_eq]
  exact decide_eq_false (by omega)
def rUpper : V → List V → Hp → VK → Prop := fun x vs H Q => match x, vs with
  | .str z, [] => (∀ c ∈ z.cps.toList, c < 128) ∧ z.length ≤ 1000000 ∧ Q (.str ⟨z.cps.map up1⟩) H
  | _, _ => False
theorem wq6 {z : Str} {H : Hp} {Q : VK} : rUpper (.str z) [] H Q ↔ (∀ c ∈ z.cps.toList, c < 128) ∧ z.length ≤ 1000000 ∧ Q (.str ⟨z.cps.map up1⟩) H := Iff.rfl
def rLower : V → List V → Hp → VK → Prop := fun x vs H Q => match x, vs with
  | .str z, [] => (∀ c ∈ z.cps.toList, c < 128) ∧ z.length ≤ 1000000 ∧ Q (.str ⟨z.cps.map lo1⟩) H
  | _, _ => False
theorem xq4 {z : Str} {H : Hp} {Q : VK} : rLower (.str z) [] H Q ↔ (∀ c ∈ z.cps.toList, c < 128) ∧ z.length ≤ 1000000 ∧ Q (.str ⟨z.cps.map lo1⟩) H := Iff.rfl
theorem qqr : MtR X "str.lower" rLower := by
  intro pins s σ H x vs v us Q I rx rv h
  unfold rLower at h
  split at h
  rotate_left
  · exact h.elim
  rename_i z
  obtain ⟨ha, hz, q⟩ := h
  obtain ⟨t, rfl⟩ := rx
  cases rv
  have e := lower_ascii ha
  refine SC.lower ?_ ⟨.str ⟨z.cps.map lo1⟩, H, I.tok _, ⟨_, by rw [e]⟩, q⟩
  rw [e]
  exact notTooLong (by show (z.cps.map lo1).size ≤ _; rw [Array.size_map]; exact hz)
def rAlnum : V → List V → Hp → VK → Prop := fun x vs H Q => match x, vs with
  | .str z, [] => Q (.bl (Txt.isalnum z)) H
  | _, _ => False
theorem xqT {z : Str} {H : Hp} {Q : VK} : rAlnum (.str z) [] H Q ↔ Q (.bl (Txt.isalnum z)) H := Iff.rfl
theorem qqZ {ys : List Str} : ∀ {us : List Value}, Vals (ys.map V.str) us → StrsAre us ys := by
  induction ys with
  | nil => intro us r; rw [List.map_nil] at r; cases r; exact .nil
  | cons y ys ih =>
    intro us r
    rw [List.map_cons] at r
    cases r with
    | cons r1 r2 =>
      obtain ⟨t, e⟩ := r1
      subst e
      exact .cons y t (ih r2)
def rJoin (K : PySem.W.Frag) : V → List V → Hp → VK → Prop := fun x vs H Q => ∃ z p ys, x = .str z ∧ vs = [.ref p] ∧ SqL K H p (ys.map V.str) ∧ (ys.map (·.length)).sum + ys.length * z.length ≤ 16777216 ∧ Q (.str (Txt.join z ys)) H
theorem wqw : MtR X "str.join" (rJoin X.K) := by
  intro pins s σ H x vs v us Q I rx rv h
  obtain ⟨z, p, ys, rfl, rfl, hq, hz, q⟩ := h
  obtain ⟨t, rfl⟩ := rx
  obtain ⟨u, rfl, ru⟩ := vals1 rv
  cases ru
  obtain ⟨its, r, pl, hl⟩ := I.list hq
  exact join_list pl.isList (by simpa using qqZ r) hz fun t' k => ⟨.str (Txt.join z ys), H, I.tok k, ⟨t', rfl⟩, q⟩
def rIsi (K : PySem.W.Frag) : List V → Hp → VK → Prop := fun vs H Q => ∃ x T t b, vs = [x, .ty T] ∧ TyOf K H x t ∧ PySem.W.kitOne K t (.type T) = some b ∧ Q (.bl b) H
theorem tqB : CallR X (.builtin "isinstance") (rIsi X.K) := by
  intro pins s σ H xs us Q I r h
  obtain ⟨x, T, t, b, rfl, ty, e, q⟩ := h
  obtain ⟨u, v, rfl, ru, rv⟩ := vals2 r
  cases (show v = Value.type T from rv)
  exact sq6 I ru ty e fun tk => ⟨.bl b, H, I.tok tk, rfl, q⟩
def rCatD : R2 := fun x y H Q => ∃ a b xs ys, x = .ref a ∧ y = .ref b ∧ H a = some (.tup xs) ∧ H b = some (.tup ys) ∧ xs.length + ys.length ≤ sizeLine ∧ ∀ p H', Same H H' → H' p = some (.tup (xs ++ ys)) → Q (.ref p) H'
theorem wqj : OpR X (binaryOp .Add) rCatD := by
  intro pins s σ H x y v u Q I rx ry h
  obtain ⟨a, b, xs, ys, rfl, rfl, ha, hb, hz, q⟩ := h
  by_cases hx : xs = []
  · subst hx
    cases rx
    cases ry
    obtain ⟨its, r1, p1, _⟩ := I.tuple (SqT.of ha)
    obtain ⟨its2, r2, p2, _⟩ := I.tuple (SqT.of hb)
    cases r1
    obtain ⟨⟨cls, dd, data, sl⟩, ho, hc, n, hd⟩ := id p1
    obtain ⟨⟨cls2, dd2, data2, sl2⟩, ho2, hc2, n2, hd2⟩ := id p2
    simp only at hc hd hc2 hd2
    subst hc hd hc2 hd2
    exact concat_meets ⟨_, ho, rfl⟩ ⟨_, ho2, rfl⟩ noFill_tuple_add seq_tuple_add PySem.F.slot_tuple_add PySem.F.entry_tuple_add (PySem.F.args_tuple_add_2 _ _)
      (tuple_addW0 a b ([] : List Value).toArray its2.toArray n n2 dd dd2 sl sl2 rfl) ⟨ho, ho2, ⟨.ref b, H, I, rfl, q b H (Same.refl _) hb⟩⟩
  · refine sqi pins s σ H _ _ v u Q I rx ry ⟨a, b, xs, ys, rfl, rfl, SqT.of ha, SqT.of hb, hx, hz, fun e => q a H (Same.refl _) (by rw [e, List.append_nil]; exact ha), fun _ p hp => q p _ (fun b o e => by rw [aqI (aqz e hp)]; exact e) aqr⟩
def rAddU (K : PySem.W.Frag) : R2 := fun x y H Q => match x, y with
  | .int i, .int j => Q (.int (i + j)) H
  | .str i, .str j => i.length + j.length ≤ sizeLine ∧ Q (.str (i ++ j)) H
  | .ref a, .ref b => (∃ xs zs, H a = some (.lst xs) ∧ H b = some (.lst zs) ∧ xs.length + zs.length ≤ sizeLine ∧ ∀ p, H p = none → Q (.ref p) (upd H p (.lst (xs ++ zs)))) ∨
      (∃ xs ys, H a = some (.tup xs) ∧ H b = some (.tup ys) ∧ xs.length + ys.length ≤ sizeLine ∧ ∀ p H', Same H H' → H' p = some (.tup (xs ++ ys)) → Q (.ref p) H')
  | _, _ => False
theorem sqz : OpR X (binaryOp .Add) (rAddU X.K) := by
  intro pins s σ H x y v u Q I rx ry h
  cases x with
  | int i =>
    cases y with
    | int j => exact xq7 pins s σ H _ _ v u Q I rx ry ⟨i, j, rfl, rfl, h⟩
    | _ => exact h.elim
  | str i =>
    cases y with
    | str j => exact qqX pins s σ H _ _ v u Q I rx ry ⟨i, j, rfl, rfl, h.1, h.2⟩
    | _ => exact h.elim
  | ref a =>
    cases y with
    | ref b =>
      rcases h with ⟨xs, zs, h1, h2, h3, h4⟩ | ⟨xs, ys, h1, h2, h3, h4⟩
      · exact xqq pins s σ H _ _ v u Q I rx ry ⟨a, b, xs, zs, rfl, rfl, h1, h2, h3, h4⟩
      · exact wqj pins s σ H _ _ v u Q I rx ry ⟨a, b, xs, ys, rfl, rfl, h1, h2, h3, h4⟩
    | _ => exact h.elim
  | _ => exact h.elim
theorem xqn {K : PySem.W.Frag} {i j : Int} {H : Hp} {Q : VK} : rAddU K (.int i) (.int j) H Q ↔ Q (.int (i + j)) H := Iff.rfl
theorem xqJ {K : PySem.W.Frag} {i j : Str} {H : Hp} {Q : VK} : rAddU K (.str i) (.str j) H Q ↔ i.length + j.length ≤ sizeLine ∧ Q (.str (i ++ j)) H := Iff.rfl
end
section
variable {X : Cx}
def rMulU : R2 := fun x y H Q => match x, y with
  | .int i, .int j => CMul i j ∧ Q (.int (i * j)) H
  | .str z, .int k => MulOk z k ∧ Q (.str (Txt.mul z k)) H
  | _, _ => False
theorem hqf : OpR X (binaryOp .Mult) rMulU := by
  intro pins s σ H x y v u Q I rx ry h
  cases x with
  | int i =>
    cases y with
    | int j => exact wq8 pins s σ H _ _ v u Q I rx ry ⟨i, j, rfl, rfl, h.1, h.2⟩
    | _ => exact h.elim
  | str z =>
    cases y with
    | int k =>
      obtain ⟨t, rfl⟩ := rx
      obtain ⟨t', rfl⟩ := ry
      exact SB.mul h.1 fun t' k' => ⟨.str (Txt.mul z k), H, I.tok k', ⟨t', rfl⟩, h.2⟩
    | _ => exact h.elim
  | _ => exact h.elim
theorem xqX {i j : Int} {H : Hp} {Q : VK} : rMulU (.int i) (.int j) H Q ↔ CMul i j ∧ Q (.int (i * j)) H := Iff.rfl
theorem wqX {z : Str} {k : Int} {H : Hp} {Q : VK} : rMulU (.str z) (.int k) H Q ↔ MulOk z k ∧ Q (.str (Txt.mul z k)) H := Iff.rfl
def rLenU (K : PySem.W.Frag) : List V → Hp → VK → Prop := fun xs H Q => match xs with
  | [.str z] => z.length ≤ sizeLine ∧ Q (.int z.length) H
  | [.ref p] => ∃ ys, (SqL K H p ys ∨ SqT K H p ys) ∧ Q (.int ys.length) H
  | _ => False
theorem tqc : CallR X (.builtin "len") (rLenU X.K) := by
  intro pins s σ H xs us Q I r h
  unfold rLenU at h
  split at h
  · exact oqW pins s σ H _ us Q I r ⟨_, rfl, h.1, h.2⟩
  · obtain ⟨ys, h1, h2⟩ := h
    exact pqf pins s σ H _ us Q I r ⟨_, ys, rfl, h1, h2⟩
  · exact h.elim
theorem wq5 {K : PySem.W.Frag} {z : Str} {H : Hp} {Q : VK} : rLenU K [.str z] H Q ↔ z.length ≤ sizeLine ∧ Q (.int z.length) H := Iff.rfl
theorem xqD {K : PySem.W.Frag} {p : Addr} {H : Hp} {Q : VK} : rLenU K [.ref p] H Q ↔ ∃ ys, (SqL K H p ys ∨ SqT K H p ys) ∧ Q (.int ys.length) H := Iff.rfl
def rOrdU : List V → Hp → VK → Prop := fun xs H Q => match xs with
  | [.str z] => z.length = 1 ∧ Q (.int (z.cps.getD 0 0 : Nat)) H
  | _ => False
theorem kqW : CallR X (.builtin "ord") rOrdU := by
  intro pins s σ H xs us Q I r h
  unfold rOrdU at h
  split at h
  · exact tqw pins s σ H _ us Q I r ⟨_, rfl, h.1, h.2⟩
  · exact h.elim
theorem xqt {c : Nat} {H : Hp} {Q : VK} : rOrdU [.str ⟨#[c]⟩] H Q ↔ Q (.int (c : Nat)) H := ⟨fun h => h.2, fun h => ⟨rfl, h⟩⟩
theorem mqw : bootBuiltins "int" = some (.type "int") := by decide +kernel
theorem hqZ : bootBuiltins "str" = some (.type "str") := by decide +kernel
theorem pq2 : bootBuiltins "bool" = some (.type "bool") := by decide +kernel
theorem cq8 : bootBuiltins "tuple" = some (.type "tuple") := by decide +kernel
theorem nqu : bootBuiltins "ord" = some (.builtin "ord") := by decide +kernel
theorem aqt : bootBuiltins "isinstance" = some (.builtin "isinstance") := by decide +kernel
def rIntU : List V → Hp → VK → Prop := fun xs H Q => match xs with
  | [.int i] => Q (.int i) H
  | [.bl k] => Q (.int (if k then 1 else 0)) H
  | _ => False
theorem kqZ : CallR X (.type "int") rIntU := by
  intro pins s σ H xs us Q I r h
  unfold rIntU at h
  split at h
  · exact oqZ pins s σ H _ us Q I r (.inl ⟨_, rfl, h⟩)
  · exact oqZ pins s σ H _ us Q I r (.inr ⟨_, rfl, h⟩)
  · exact h.elim
theorem yqJ {k : Bool} {H : Hp} {Q : VK} : rIntU [.bl k] H Q ↔ Q (.int (if k then 1 else 0)) H := Iff.rfl
def rInU : R2 := fun x y H Q => match x, y with
  | .str i, .str j => Q (.bl (!(Builtin.Str.occurrences j i 0 j.length 1).isEmpty)) H
  | _, _ => False
theorem mqB : OpR X (compareOp .In) rInU := by
  intro pins s σ H x y v u Q I rx ry h
  cases x with
  | str i =>
    cases y with
    | str j => exact sqc pins s σ H _ _ v u Q I rx ry ⟨i, j, rfl, rfl, h⟩
    | _ => exact h.elim
  | _ => exact h.elim
def rNotInU : R2 := fun x y H Q => match x, y with
  | .str i, .str j => Q (.bl (!(!(Builtin.Str.occurrences j i 0 j.length 1).isEmpty))) H
  | _, _ => False
theorem xq5 {c : Nat} {j : Str} {H : Hp} {Q : VK} : rInU (.str ⟨#[c]⟩) (.str j) H Q ↔ Q (.bl (decide (c ∈ j.cps.toList))) H := by
  show Q (.bl (!(Builtin.Str.occurrences j ⟨#[c]⟩ 0 j.length 1).isEmpty)) H ↔ _
  rw [StrLaws.found_one]
theorem rqy {c : Nat} {j : Str} {H : Hp} {Q : VK} : rNotInU (.str ⟨#[c]⟩) (.str j) H Q ↔ Q (.bl (!decide (c ∈ j.cps.toList))) H := by
  show Q (.bl (!(!(Builtin.Str.occurrences j ⟨#[c]⟩ 0 j.length 1).isEmpty))) H ↔ _
  rw [StrLaws.found_one]
def rIsN (neg : Bool) : R2 := fun x y H Q => y = .non ∧ Q (.bl (if neg then !decide (x = .non) else decide (x = .non))) H
theorem cq5 : OpR X (compareOp .Is) (rIsN false) := fun pins s σ H x y v u Q I rx ry h => yqe pins s σ H x y v u Q I rx ry h
theorem cqq : OpR X (compareOp .IsNot) (rIsN true) := fun pins s σ H x y v u Q I rx ry h => vqZ pins s σ H x y v u Q I rx ry h
theorem yqz {x : V} {H : Hp} {Q : VK} : rIsN false x .non H Q ↔ Q (.bl (decide (x = .non))) H := ⟨fun h => h.2, fun h => ⟨rfl, h⟩⟩
theorem yqG {x : V} {H : Hp} {Q : VK} : rIsN true x .non H Q ↔ Q (.bl (!decide (x = .non))) H := ⟨fun h => h.2, fun h => ⟨rfl, h⟩⟩
def kindV (x : V) (H : Hp) : Option String := match x with
  | .non => some "NoneType"
  | .bl _ => some "bool"
  | .int _ => some "int"
  | .str _ => some "str"
  | .ref a => match H a with
    | some (.lst _) => some "list"
    | some (.tup _) => some "tuple"
    | _ => none
  | _ => none
def subT (a b : String) : Bool := a == b || (a == "bool" && b == "int")
theorem sqr (K : PySem.W.Frag) : ∀ a ∈ ["NoneType", "bool", "int", "str", "list", "tuple"], ∀ b ∈ ["bool", "int", "str", "list", "tuple"], PySem.W.kitOne K (.type a) (.type b) = some (subT a b) := by
  intro a ha b hb
  simp only [List.mem_cons, List.not_mem_nil, or_false] at ha hb
  rcases ha with rfl | rfl | rfl | rfl | rfl | rfl <;> rcases hb with rfl | rfl | rfl | rfl | rfl <;> with_unfolding_all kernel_rfl
def rIsiU : List V → Hp → VK → Prop := fun vs H Q => match vs with
  | [x, .ty T] => ∃ k, kindV x H = some k ∧ T ∈ ["bool", "int", "str", "list", "tuple"] ∧ Q (.bl (subT k T)) H
  | _ => False
theorem iqV : CallR X (.builtin "isinstance") rIsiU := by
  intro pins s σ H xs us Q I r h
  unfold rIsiU at h
  split at h
  · rename_i x T
    obtain ⟨k, hk, hT, q⟩ := h
    have key : TyOf X.K H x (.type k) ∧ k ∈ ["NoneType", "bool", "int", "str", "list", "tuple"] := by
      unfold kindV at hk
      split at hk
      · cases hk; exact ⟨.non, by decide⟩
      · cases hk; exact ⟨.bl _, by decide⟩
      · cases hk; exact ⟨.int _, by decide⟩
      · cases hk; exact ⟨.str _, by decide⟩
      · split at hk
        · rename_i e; cases hk; exact ⟨.lst e, by decide⟩
        · rename_i e; cases hk; exact ⟨.tup e, by decide⟩
        · cases hk
      · cases hk
    exact tqB pins s σ H _ us Q I r ⟨x, T, .type k, subT k T, rfl, key.1, sqr X.K k key.2 T hT, q⟩
  · exact h.elim
end
section
variable {σ : St} {H : Hp} {Q : VK} {D : Ends} {K : PySem.W.Frag} {ta tb te : TE} {tt tu : TT} {t u : TS} {aa ab : TA} {v x y : V} {r r' : R2}
theorem uqG {i : Nat} : tVar i σ H Q ↔ ∃ v, σ[i]? = some (some v) ∧ Q v H := Iff.rfl
theorem rd_C : tC v σ H Q ↔ Q v H := Iff.rfl
theorem sqO : tSeq t u D σ H ↔ t { D with nx := u D } σ H := Iff.rfl
theorem xqy {g : TG} : tAsg te g D σ H ↔ te σ H fun x H1 => g x σ H1 D.nx := Iff.rfl
theorem vqm {i : Nat} {R : St → Hp → Prop} : gName i v σ H R ↔ R (σ.set i (some v)) H := Iff.rfl
theorem xq1 : tIfS tt t u D σ H ↔ tt σ H fun b H1 => if b = true then t D σ H1 else u D σ H1 := Iff.rfl
theorem wqq : tNext D σ H ↔ D.nx σ H := Iff.rfl
theorem xqA : tBreak D σ H ↔ D.bk σ H := Iff.rfl
theorem yqh : tRet te D σ H ↔ te σ H D.rt := Iff.rfl
theorem vqR : tDrop te D σ H ↔ te σ H fun _ H1 => D.nx σ H1 := Iff.rfl
theorem yqH : tOp r ta tb σ H Q ↔ ta σ H fun x H1 => tb σ H1 fun y H2 => r x y H2 Q := Iff.rfl
theorem vqq {R : Bool → Hp → Prop} : tTest te σ H R ↔ te σ H fun x H' => ∃ k, x = .bl k ∧ R k H' := Iff.rfl
theorem rd_B {R : Bool → Hp → Prop} : tB te σ H R ↔ te σ H fun x H' => ∃ k, x = .bl k ∧ R k H' := Iff.rfl
theorem yqi {R : Bool → Hp → Prop} : tAnd tt tu σ H R ↔ tt σ H fun c H1 => if c = true then tu σ H1 R else R false H1 := Iff.rfl
theorem yqF {R : Bool → Hp → Prop} : tOr tt tu σ H R ↔ tt σ H fun c H1 => if c = true then R true H1 else tu σ H1 R := Iff.rfl
theorem yqc {R : Bool → Hp → Prop} : tNot tt σ H R ↔ tt σ H fun c H1 => R (!c) H1 := Iff.rfl
theorem vqz : tAndV ta tb σ H Q ↔ ta σ H fun x H1 => ∃ c, x = .bl c ∧ if c = true then tb σ H1 Q else Q (.bl false) H1 := Iff.rfl
theorem wq7 : tOrV ta tb σ H Q ↔ ta σ H fun x H1 => ∃ c, x = .bl c ∧ if c = true then Q (.bl true) H1 else tb σ H1 Q := Iff.rfl
theorem vqE : tNotV ta σ H Q ↔ ta σ H fun x H1 => ∃ c, x = .bl c ∧ Q (.bl (!c)) H1 := Iff.rfl
theorem yqB : tIf tt ta tb σ H Q ↔ tt σ H fun c H1 => if c = true then ta σ H1 Q else tb σ H1 Q := Iff.rfl
theorem tqS {tc : TE} : tChain r r' ta tb tc σ H Q ↔ ta σ H fun x H1 => tb σ H1 fun y H2 => r x y H2 fun z H3 => ∃ k, z = .bl k ∧ (if k = true then tc σ H3 fun w' H4 => r' y w' H4 Q else Q (.bl false) H3) := Iff.rfl
theorem yql {R : List V → Hp → Prop} : tNil σ H R ↔ R [] H := Iff.rfl
theorem sqb {R : List V → Hp → Prop} : tCons te aa σ H R ↔ te σ H fun x H1 => aa σ H1 fun xs H2 => R (x :: xs) H2 := Iff.rfl
theorem xqb : tLst aa σ H Q ↔ aa σ H fun xs H1 => xs.length ≤ sizeLine ∧ ∀ p, H1 p = none → Q (.ref p) (upd H1 p (.lst xs)) := Iff.rfl
theorem xqH : tTup aa σ H Q ↔ aa σ H fun xs H1 => xs.length ≤ sizeLine ∧ ∀ p, H1 p = none → Q (.ref p) (upd H1 p (.tup xs)) := Iff.rfl
theorem rqr {sp : Sp} {dvs : List V} {E : XK} : tCall sp dvs E aa σ H Q ↔ aa σ H fun vs H1 => sp (vs ++ dvs) H1 Q E := Iff.rfl
theorem yqN {c : List V → Hp → VK → Prop} : tCB c aa σ H Q ↔ aa σ H fun vs H1 => c vs H1 Q := Iff.rfl
theorem yqC {T : String} {m : V → List V → Hp → VK → Prop} : tBM K T m te aa σ H Q ↔ te σ H fun x H1 => tyV K T x H1 ∧ aa σ H1 fun xs H2 => m x xs H2 Q := Iff.rfl
theorem xqr {T : String} {m : V → List V → Hp → VK → Prop} : tBM0 K T m te σ H Q ↔ te σ H fun x H1 => tyV K T x H1 ∧ m x [] H1 Q := Iff.rfl
theorem yqT {m : V → Option Int → Option Int → Hp → VK → Prop} {tl th : TO} : tSl m te tl th σ H Q ↔ te σ H fun x H1 => tl σ H1 fun l H2 => th σ H2 fun u H3 => m x l u H3 Q := Iff.rfl
theorem sqw {R : Option Int → Hp → Prop} : tNoPart σ H R ↔ R none H := Iff.rfl
theorem wqP {R : Option Int → Hp → Prop} : tPart te σ H R ↔ te σ H fun x H1 => ∃ i, x = .int i ∧ R (some i) H1 := Iff.rfl
theorem tqO {z : Str} : tyV K "str" (.str z) H ↔ True := ⟨fun _ => trivial, fun _ => rfl⟩
theorem rd_I {C : Int → Int → Prop} {g : Int → Int → V} {i j : Int} : rI C g (.int i) (.int j) H Q ↔ C i j ∧ Q (g i j) H :=
  ⟨fun ⟨_, _, h1, h2, h3⟩ => by cases h1; cases h2; exact h3, fun h => ⟨i, j, rfl, rfl, h⟩⟩
theorem yqv {g : Int → Int → V} {i j : Int} : rI0 g (.int i) (.int j) H Q ↔ Q (g i j) H :=
  ⟨fun ⟨_, _, h1, h2, h3⟩ => by cases h1; cases h2; exact h3, fun h => ⟨i, j, rfl, rfl, h⟩⟩
theorem wqz {i j : Int} : rEq (.int i) (.int j) H Q ↔ Q (.bl (decide (i = j))) H := by
  unfold rEq scal; simp only [true_and, V.int.injEq]
theorem nqt {i j : Str} : rEq (.str i) (.str j) H Q ↔ Q (.bl (decide (i = j))) H := by
  unfold rEq scal; simp only [true_and, V.str.injEq]
theorem wqD {i j : Bool} : rEq (.bl i) (.bl j) H Q ↔ Q (.bl (decide (i = j))) H := by
  unfold rEq scal; simp only [true_and, V.bl.injEq]
theorem rq9 {i j : Int} : rNe (.int i) (.int j) H Q ↔ Q (.bl (!decide (i = j))) H := by
  unfold rNe scal; simp only [true_and, V.int.injEq]
theorem vqb {i j : Str} : rNe (.str i) (.str j) H Q ↔ Q (.bl (!decide (i = j))) H := by
  unfold rNe scal; simp only [true_and, V.str.injEq]
theorem vql {i j : Bool} : rNe (.bl i) (.bl j) H Q ↔ Q (.bl (!decide (i = j))) H := by
  unfold rNe scal; simp only [true_and, V.bl.injEq]
theorem wqQ : rNe .non .non H Q ↔ Q (.bl false) H := ⟨fun h => h.2, fun h => ⟨rfl, h⟩⟩
theorem wqc {i : Str} : rNe (.str i) .non H Q ↔ Q (.bl true) H := ⟨fun h => h.2, fun h => ⟨rfl, h⟩⟩
theorem tqX {i : Str} : rNe .non (.str i) H Q ↔ Q (.bl true) H := ⟨fun h => h.2, fun h => ⟨rfl, h⟩⟩
theorem vqv : rEq .non .non H Q ↔ Q (.bl true) H := ⟨fun h => h.2, fun h => ⟨rfl, h⟩⟩
theorem wqS {i : Str} : rEq (.str i) .non H Q ↔ Q (.bl false) H := ⟨fun h => h.2, fun h => ⟨rfl, h⟩⟩
theorem tq1 {i : Str} : rEq .non (.str i) H Q ↔ Q (.bl false) H := ⟨fun h => h.2, fun h => ⟨rfl, h⟩⟩
def NS (x : V) : Prop := x = .non ∨ ∃ z, x = .str z
theorem vqC (hx : NS x) (hy : NS y) : rNe x y H Q ↔ Q (.bl (!decide (x = y))) H := by
  have e : scal x y = true := by
    rcases hx with rfl | ⟨z, rfl⟩ <;> rcases hy with rfl | ⟨z', rfl⟩ <;> rfl
  unfold rNe; rw [e]; simp only [true_and]
theorem xqQ {z : Str} {i : Int} : rIx K (.str z) (.int i) H Q ↔ ∃ c, z.length ≤ sizeLine ∧ atI z.cps.toList i = some c ∧ Q (.str ⟨#[c]⟩) H := by
  constructor
  · rintro (⟨p, xs, j, v, h, _⟩ | ⟨p, xs, j, v, h, _⟩ | ⟨z', j, c, h1, h2, h3, h4, h5⟩)
    · cases h
    · cases h
    · cases h1; cases h2; exact ⟨c, h3, h4, h5⟩
  · rintro ⟨c, h3, h4, h5⟩
    exact .inr (.inr ⟨z, i, c, rfl, rfl, h3, h4, h5⟩)
theorem yqj {z : Str} {lo hi : Option Int} : rSl K (.str z) lo hi H Q ↔ z.length ≤ sizeLine ∧ Q (.str (Txt.slice z lo hi)) H := by
  constructor
  · rintro (⟨a, xs, h, _⟩ | ⟨z', h1, h2, h3⟩)
    · cases h
    · cases h1; exact ⟨h2, h3⟩
  · rintro ⟨h2, h3⟩
    exact .inr ⟨z, rfl, h2, h3⟩
end
section
variable {σ : St} {H : Hp} {Q : VK} {K : PySem.W.Frag}
theorem xqp {a : Addr} {lo hi : Option Int} : rSl K (.ref a) lo hi H Q ↔ ∃ xs, SqL K H a xs ∧ ∀ p, H p = none → Q (.ref p) (upd H p (.lst (cutV xs lo hi))) := by
  constructor
  · rintro (⟨a', xs, h, h2⟩ | ⟨z', h1, _⟩)
    · cases h; exact ⟨xs, h2⟩
    · cases h1
  · rintro ⟨xs, h2⟩
    exact .inl ⟨a, xs, rfl, h2⟩
theorem xqP {p : Addr} {i : Int} : rIx K (.ref p) (.int i) H Q ↔ ∃ xs v, (SqL K H p xs ∨ SqT K H p xs) ∧ atI xs i = some v ∧ Q v H := by
  constructor
  · rintro (⟨p', xs, j, v, h, h2, h3, h4⟩ | ⟨p', xs, j, v, h, h2, h3, h4⟩ | ⟨z', j, c, h1, _⟩)
    · cases h; cases h2; exact ⟨xs, v, .inl h3, h4⟩
    · cases h; cases h2; exact ⟨xs, v, .inr h3, h4⟩
    · cases h1
  · rintro ⟨xs, v, h | h, h2⟩
    · exact .inl ⟨p, xs, i, v, rfl, rfl, h, h2⟩
    · exact .inr (.inl ⟨p, xs, i, v, rfl, rfl, h, h2⟩)
theorem xq3 {a b : Addr} : rAddU K (.ref a) (.ref b) H Q ↔ (∃ xs zs, H a = some (.lst xs) ∧ H b = some (.lst zs) ∧ xs.length + zs.length ≤ sizeLine ∧ ∀ p, H p = none → Q (.ref p) (upd H p (.lst (xs ++ zs)))) ∨
      (∃ xs ys, H a = some (.tup xs) ∧ H b = some (.tup ys) ∧ xs.length + ys.length ≤ sizeLine ∧ ∀ p H', Same H H' → H' p = some (.tup (xs ++ ys)) → Q (.ref p) H') := Iff.rfl
theorem cx_K {CX : CXT} {P : Program} {w : World} {mg : Str → Option Value} {base : Heap} {N : List Str} {qual : Str} {scope : Scope} {f : Addr} {cd : Value} {A : Around} {outer : List Env} {s : Shared} {E : XK} :
    (cxOf CX P w K mg base N qual scope f cd A outer s H E).K = K := rfl
end
def LoopI (J : It) (g : TG) (tb : TS) (D : Ends) (σ : St) (H : Hp) : Prop := ∃ W : Nat → Nat → St → Hp → Prop, (∃ m, W 0 m σ H) ∧ ∀ i m σ H, W i m σ H →
  (J.stop i H ∧ D.nx σ H) ∨ (J.go i H ∧ ∃ N : St → Hp → Prop, (∀ σ' H', N σ' H' → ∃ m', m' < m ∧ W (i + 1) m' σ' H') ∧ ∀ x H', J.yld i H x H' → g x σ H' fun σ2 H2 => tb { D with nx := N, ct := N, bk := D.nx } σ2 H2)
section
variable {σ : St} {H : Hp} {D : Ends} {K : PySem.W.Frag} {te : TE} {g : TG} {tb : TS} {aa : TA}
theorem vqw : tFor (iStr te) g tb D σ H ↔ te σ H fun x H1 => ∃ z, x = .str z ∧ LoopI (Its z) g tb D σ H1 := Iff.rfl
theorem wqA : tFor (iList K te) g tb D σ H ↔ te σ H fun x H1 => ∃ a, x = .ref a ∧ (∃ xs, SqL K H1 a xs) ∧ LoopI (Itl K a) g tb D σ H1 := Iff.rfl
theorem vqu : tFor (iRng1 aa) g tb D σ H ↔ aa σ H fun vs H1 => ∃ j : Int, vs = [.int j] ∧ -(2 ^ 62) ≤ j ∧ j < 2 ^ 62 ∧ LoopI (Itr 0 j.toNat) g tb D σ H1 := Iff.rfl
theorem uqv {z : Str} (Pv : Nat → St → Hp → Prop) (h0 : Pv 0 σ H)
    (hs : ∀ i c σ H, z.cps.toList[i]? = some c → Pv i σ H → g (.str ⟨#[c]⟩) σ H fun σ2 H2 => tb { D with nx := Pv (i + 1), ct := Pv (i + 1), bk := D.nx } σ2 H2) (hd : ∀ σ H, Pv z.length σ H → D.nx σ H) : LoopI (Its z) g tb D σ H := wqe Pv h0 hs hd
theorem oqC {a : Addr} {xs : List V} (Pv : Nat → St → Hp → Prop) (h0 : Pv 0 σ H) (hl : ∀ i σ H, i ≤ xs.length → Pv i σ H → SqL K H a xs)
    (hs : ∀ i x σ H, xs[i]? = some x → Pv i σ H → g x σ H fun σ2 H2 => tb { D with nx := Pv (i + 1), ct := Pv (i + 1), bk := D.nx } σ2 H2) (hd : ∀ σ H, Pv xs.length σ H → D.nx σ H) : LoopI (Itl K a) g tb D σ H := uqh Pv h0 hl hs hd
theorem jqp {lo : Int} {n : Nat} (Pv : Nat → St → Hp → Prop) (h0 : Pv 0 σ H)
    (hs : ∀ i σ H, i < n → Pv i σ H → g (.int (lo + i)) σ H fun σ2 H2 => tb { D with nx := Pv (i + 1), ct := Pv (i + 1), bk := D.nx } σ2 H2) (hd : ∀ σ H, Pv n σ H → D.nx σ H) : LoopI (Itr lo n) g tb D σ H := rq7 Pv h0 hs hd
end
end L2
namespace L2
open PySem PySem.Spec PyProof.Rows
section
variable {prog : Program} {w : World} {A : Around} {R : Result → Shared → Prop} {s : Shared}
theorem jq2 {elt target iter : Expr} {ifs : List Expr} {scope : Scope} {pos : Pos} {it acc : Value} {env : Env} (I : Nat → Shared → Prop)
    (turn : ∀ n s, I n s → wpAny (model prog w) A (pyNext it) (fun r s₁ => match r with
      | none => R (.ok .next) s₁
      | some v => wpAny (model prog w) A (letOwnedTupleGo target it v) (fun _ s₁' => wpAny (model prog w) A (assign target env v) (fun _ s₂ =>
          wpAny (model prog w) A (forIn ifs true fun c r => if r = true then do let ok ← isTrue c env (eval c env); pure (ForInStep.yield ok) else pure (ForInStep.yield r)) (fun ok s₃ =>
            if ok = true then wpAny (model prog w) A (eval elt env) (fun x s₄ =>
              wpAny (model prog w) A (call (.builtin "list.append") [acc, x]) (fun _ s₅ => ∃ m, m < n ∧ I m s₅) (fun _ _ => False) s₄) (fun _ _ => False) s₃
            else ∃ m, m < n ∧ I m s₃) (fun _ _ => False) s₂) (fun _ _ => False) s₁') (fun _ _ => False) s₁) (fun _ _ => False) s)
    (n : Nat) (h : I n s) : codeAny (model prog w) A (.compLoop (.ListComp elt [⟨target, iter, ifs, 0⟩] scope pos) 0 it acc env) R s := by
  refine codeAny_loop rfl I (fun n s hI => ?_) n h
  show wpAny _ A ((compTurn (.ListComp elt [⟨target, iter, ifs, 0⟩] scope pos) 0 it acc env).onRaise (fun x => do noteFrame x env; theTreesLotGoes x)) _ _ s
  refine wpAny_noted ?_
  rw [compTurn_list]
  refine wpAny_bind (wpAny_standAt (wpAny_bind (wpAny_mono (turn n s hI) (fun r s₁ h₁ => ?_) fun _ _ h' => h'.elim)))
  cases r with
  | none => exact wpAny_pure h₁
  | some v =>
    refine wpAny_bind (wpAny_mono h₁ (fun _ s₁' h₁' => wpAny_bind (wpAny_mono h₁' (fun _ s₂ h₂ => wpAny_bind (wpAny_mono h₂ (fun ok s₃ h₃ => ?_) fun _ _ h' => h'.elim)) fun _ _ h' => h'.elim)) fun _ _ h' => h'.elim)
    cases ok with
    | false => exact wpAny_pure ⟨rfl, h₃⟩
    | true =>
      exact wpAny_bind (wpAny_bind (wpAny_mono h₃ (fun x s₄ h₄ => wpAny_bind (wpAny_mono h₄ (fun _ s₅ h₅ => wpAny_pure (wpAny_pure ⟨rfl, h₅⟩)) fun _ _ h' => h'.elim)) fun _ _ h' => h'.elim))
end
def compCx (X : Cx) (N' : List Str) (scope : Scope) (cl : List (Str × Addr)) (s : Shared) (H : Hp) (fp : List Addr) : Cx :=
  { X with N := N', s₀ := s, H₀ := H, env := compEnvC scope cl s.heap.objs.size X.env, outer := X.stack, stack := X.stack, ex := fp, fn := fun _ => false, pn := [], xe := fun _ _ => False }
inductive Frees (X : Cx) (rs : Scope) (cl : List (Str × Addr)) : List Str → List Nat → Prop where
  | nil : Frees X rs cl [] []
  | cons {y : Str} {i : Nat} {fx : List Str} {fr : List Nat} (h1 : X.N[i]? = some y) (h2 : X.env.kindOf y = some .cell) (h3 : rs.names.lookup y = some .cell) (h4 : cl.lookup y = X.env.cells.lookup y) (r : Frees X rs cl fx fr) : Frees X rs cl (y :: fx) (i :: fr)
def frV (σ : St) (fr : List Nat) : St := fr.map fun i => (σ[i]?).getD none
theorem Frees.len {X : Cx} {rs : Scope} {cl : List (Str × Addr)} {fx : List Str} {fr : List Nat} (F : Frees X rs cl fx fr) : fr.length = fx.length := by
  induction F with
  | nil => rfl
  | cons _ _ _ _ _ ih => simp [ih]
theorem Frees.at {X : Cx} {rs : Scope} {cl : List (Str × Addr)} {σ : St} : ∀ {fx : List Str} {fr : List Nat}, Frees X rs cl fx fr → ∀ (j : Nat) (y : Str) (v : V), fx[j]? = some y → (frV σ fr)[j]? = some (some v) →
    ∃ i : Nat, X.N[i]? = some y ∧ σ[i]? = some (some v) ∧ X.env.kindOf y = some .cell ∧ rs.names.lookup y = some .cell ∧ cl.lookup y = X.env.cells.lookup y
  | _, _, .nil, j, y, v, h, _ => by simp at h
  | _, _, .cons (y := z) (i := i) h1 h2 h3 h4 r, 0, y, v, h, hv => by
    simp only [List.getElem?_cons_zero, Option.some.injEq] at h
    subst h
    simp only [frV, List.map_cons, List.getElem?_cons_zero, Option.some.injEq] at hv
    refine ⟨i, h1, ?_, h2, h3, h4⟩
    cases e : σ[i]? with
    | none => rw [e] at hv; cases hv
    | some o => rw [e] at hv; exact congrArg some hv
  | _, _, .cons h1 h2 h3 h4 r, j + 1, y, v, h, hv => by
    simp only [List.getElem?_cons_succ] at h
    simp only [frV, List.map_cons, List.getElem?_cons_succ] at hv
    exact r.at j y v h hv
theorem Frees.mem {X : Cx} {rs : Scope} {cl : List (Str × Addr)} : ∀ {fx : List Str} {fr : List Nat}, Frees X rs cl fx fr → ∀ y ∈ fx, X.env.kindOf y = some .cell ∧ cl.lookup y = X.env.cells.lookup y
  | _, _, .nil, y, h => by simp at h
  | _, _, .cons h1 h2 h3 h4 r, y, h => by
    rcases List.mem_cons.mp h with rfl | h
    · exact ⟨h2, h4⟩
    · exact r.mem y h
section
variable {X : Cx} {pins : List (Addr × Obj)} {σ : St} {H1 : Hp} {s3 : Shared} {x : Str} {fx : List Str} {fr : List Nat} {scope : Scope} {cl : List (Str × Addr)} {fp : List Addr}
theorem uq2 (I : Inv X pins σ H1 s3) (hkind : scope.kind = .function) (hcl : ∀ y c, cl.lookup y = some c → X.env.cells.lookup y = some c)
    (F : Frees X (relabel scope X.env) cl fx fr) (hfx : ((relabel scope X.env).names.all fun p => if (p.2 == .cell || p.2 == .free) then fx.contains p.1 else true) = true)
    (ffp : ∀ b ∈ fp, FpOk X pins H1 b) (flt : ∀ b ∈ fp, b < s3.heap.objs.size) : (compCx X (x :: fx) scope cl s3 H1 fp).Ok where
  mod := I.ok.mod
  kind := hkind
  glob := I.ok.glob
  blt := I.ok.blt
  above := Nat.le_refl _
  inj := fun y z c h1 h2 => I.ok.inj y z c (hcl y c h1) (hcl z c h2)
  has := fun y h => by
    have h : (relabel scope X.env).names.lookup y = some .cell ∨ (relabel scope X.env).names.lookup y = some .free := h
    have key : y ∈ fx := by
      rcases h with h | h
      · have q := List.all_eq_true.mp hfx _ (PySem.mem_of_lookup h)
        simpa using q
      · have q := List.all_eq_true.mp hfx _ (PySem.mem_of_lookup h)
        simpa using q
    obtain ⟨k1, k2⟩ := F.mem y key
    obtain ⟨c, e⟩ := I.ok.has y (.inl k1)
    exact ⟨c, k2.trans e⟩
  cab := fun y c h => by cases (show false = true from h)
  hd := I.ok.hd
  frames := I.ok.frames
  stk := .inl rfl
  exf := fun b hb => ⟨Nat.ne_of_lt (flt b hb), fun y c e => (ffp b hb).2.2.2.2.1 y c (hcl y c e)⟩
  bs := I.bs
  bsz := Nat.le_trans I.ok.bsz I.sz
  noex := fun b o e hb => by
    rcases (ffp b hb).2.2.2.1 with z | z
    · exact I.ok.noex b o e z
    · exact absurd (Nat.lt_of_lt_of_le (Heap.lt_size (I.ok.bs b o e).1) z) (Nat.lt_irrefl _)
  exfs := fun b hb z => by
    rcases List.mem_cons.mp (I.stkSub b z) with q | q
    · exact (ffp b hb).2.1 q
    · exact (ffp b hb).2.2.1 q
  funs := I.stack
  frf := I.stkFree
theorem rqm (I : Inv X pins σ H1 s3) (hkind : scope.kind = .function) (hcl : ∀ y c, cl.lookup y = some c → X.env.cells.lookup y = some c)
    (F : Frees X (relabel scope X.env) cl fx fr) (hfx : ((relabel scope X.env).names.all fun p => if (p.2 == .cell || p.2 == .free) then fx.contains p.1 else true) = true)
    (ffp : ∀ b ∈ fp, FpOk X pins H1 b) (flt : ∀ b ∈ fp, b < s3.heap.objs.size) {h1 : Heap} {t : Nat} {m : Str → Option Value} (hn : h1.Ns s3.heap.objs.size m)
    (keep : ∀ b u, s3.heap.get? b = some u → h1.get? b = some u) : Inv (compCx X (x :: fx) scope cl s3 H1 fp) [] (none :: frV σ fr) H1 { s3 with heap := h1, toks := t } := by
  refine ⟨uq2 I hkind hcl F hfx ffp flt, rfl, I.bare, Un.kept keep, ⟨m, hn, fun i y v e1 e2 e3 => ?_⟩, fun y c e => ?_, I.hok.fresh (Nat.le_refl _), fun y c e => I.freeC y c (hcl y c e), fun p hp => absurd (show p ∈ ([] : List (Addr × Obj)) from hp) (by simp), I.hok.kept keep, ?_⟩
  · cases i with
    | zero => simp at e2
    | succ j =>
      obtain ⟨i0, k1, k2, k3, k4, k5⟩ := F.at (σ := σ) j y v (by simpa [compCx] using e1) (by simpa using e2)
      obtain ⟨m0, hn0, hl0⟩ := I.loc
      obtain ⟨u, r, l⟩ := hl0 i0 y v k1 k2 (.inr (.inl k3))
      refine ⟨u, r, ?_⟩
      rcases l with ⟨z, _⟩ | ⟨_, c, e, o, ho, hd⟩
      · rw [k3] at z; cases z
      · exact .inr ⟨.inl k4, c, k5.trans e, o, keep c o ho, hd⟩
  · obtain ⟨v, o, ho, hd⟩ := I.cell y c (hcl y c e)
    exact ⟨v, o, keep c o ho, hd⟩
  · show (none :: frV σ fr).length = (x :: fx).length
    simp [frV, F.len]
theorem oqa {N' : List Str} {pins' : List (Addr × Obj)} {σ' : St} {H2 : Hp} {s' : Shared} {h' : Heap} (I : Inv X pins σ H1 s3) (J : Inv (compCx X N' scope cl s3 H1 fp) pins' σ' H2 s') (ffp : ∀ b ∈ fp, FpOk X pins H1 b)
    (sb : Heap.SameBut s3.heap.objs.size s'.heap h') : Inv X pins σ H2 { s' with heap := h' } := by
  have k : ∀ b u, b ≠ s3.heap.objs.size → s'.heap.get? b = some u → h'.get? b = some u := fun b u hb e => sb.extBut b u hb e
  have lt : ∀ b u, s3.heap.get? b = some u → b ≠ s3.heap.objs.size := fun b u e => Nat.ne_of_lt (Heap.lt_size e)
  have u : Un (frs X.stack) fp H1 H2 s3.heap s'.heap := J.base
  have u' : Un (frs X.stack) fp H1 H2 s3.heap h' :=
    ⟨fun b o q n hb hx => k b o (lt b o q) (u.keep b o q n hb hx), fun b o q n hb hx => by
        obtain ⟨sl, e⟩ := u.slot b o q n hb hx
        exact ⟨sl, k b _ (lt b o q) e⟩, u.free, fun b o q hx => by
        obtain ⟨o', e⟩ := u.there b o q hx
        exact ⟨o', k b _ (lt b o q) e⟩, u.tups, u.frzs, u.tbls⟩
  have nC : H2 s3.heap.objs.size = none := J.free
  have hok : HOk X.prog X.w H2 h' := fun b uo e => by
    refine (J.hok b uo e).stay (fun c v hc q => k c v ?_ q) (fun _ q => q) fun _ _ q => q
    rintro rfl
    rcases hc with z | z
    · rw [← z, nC] at e; cases e
    · rw [nC] at z; cases z
  have os : s'.os = s3.os := J.os
  have bare := J.bare
  obtain ⟨hh, g, d, t, os'⟩ := s'
  obtain rfl : os' = s3.os := os
  have fin := I.call (h' := h') (g' := g) (d' := d) (t' := t) (ch := fp) u' hok bare fun b hb => by
    obtain ⟨f0, f1, f2, f3, f4, f5⟩ := ffp b hb
    exact ⟨f3, f1, f4, f5⟩
  exact fin
end
def PF (X : Cx) (ifs : List Expr) (t : TT) : Prop :=
  ∀ (pins : List (Addr × Obj)) (s : Shared) (σ : St) (H : Hp) (Q : Bool → Hp → Prop), Inv X pins σ H s → t σ H Q →
    wpAny (model X.prog X.w) X.A (forIn ifs true fun c r => if r = true then do let ok ← isTrue c X.env (eval c X.env); pure (ForInStep.yield ok) else pure (ForInStep.yield r)) (TP X pins σ Q) X.xe s
def tYes : TT := fun _ H Q => Q true H
theorem mqA {X : Cx} : PF X [] tYes := fun _ _ _ H _ I h => wpAny_tests_nil ⟨H, I, h⟩
theorem wqU {X : Cx} {c : Expr} {t : TT} (h : PT X c t) : PF X [c] t := fun pins s σ H Q I q => wpAny_tests_one (h pins s σ H Q I q)
def CompI (J : It) (p : Addr) (fv : St) (tt : TT) (te : TE) (Q : VK) (H1 : Hp) : Prop :=
  ∃ W : Nat → Nat → List V → Hp → Prop, (∃ m, W 0 m [] (upd H1 p (.lst []))) ∧ ∀ i m ys H2, W i m ys H2 → H2 p = some (.lst ys) ∧
    ((J.stop i H2 ∧ Q (.ref p) H2) ∨ (J.go i H2 ∧ ys.length < sizeLine ∧ ∀ x H3, J.yld i H2 x H3 → tt (some x :: fv) H3 fun b H4 =>
      if b = true then te (some x :: fv) H4 fun y H5 => H5 p = some (.lst ys) ∧ ∃ m', m' < m ∧ W (i + 1) m' (ys ++ [y]) (upd H5 p (.lst (ys ++ [y])))
      else ∃ m', m' < m ∧ W (i + 1) m' ys H4))
def tComp (wi : TI) (fr : List Nat) (tt : TT) (te : TE) : TE := fun σ H Q => wi σ H fun J H1 => ∀ p, H1 p = none → CompI J p (frV σ fr) tt te Q H1
section
variable {X : Cx} {elt iter : Expr} {x : Str} {px pos : Pos} {ifs : List Expr} {scope : Scope} {cl : List (Str × Addr)} {fx : List Str} {fr : List Nat} {wi : TI} {tt : TT} {te : TE}
theorem qqT {pins : List (Addr × Obj)} {σ : St} {H3 : Hp} {s3 : Shared} {it p : Addr} {fp : List Addr} {tn : Nat → Heap → Prop} {J : It} {Q : VK} {W : Nat → Nat → List V → Hp → Prop} {m0 t : Nat} {h₁ : Heap} {m : Str → Option Value} {RR : Result → Shared → Prop}
    (hc : X.calm = true) (hkind : scope.kind = .function) (hx : scope.names.lookup x = some .local) (hnd : (x :: fx).Nodup)
    (hcl : ∀ y c, cl.lookup y = some c → X.env.cells.lookup y = some c) (F : Frees X (relabel scope X.env) cl fx fr)
    (hfx : ((relabel scope X.env).names.all fun p => if (p.2 == .cell || p.2 == .free) then fx.contains p.1 else true) = true)
    (ht : ∀ s H fp, PF (compCx X (x :: fx) scope cl s H fp) ifs tt) (he : ∀ s H fp, PE (compCx X (x :: fx) scope cl s H fp) elt te)
    (I3 : Inv X pins σ H3 s3) (T : Turn X.prog X.w X.K (.Name x px) J fp it tn) (st3 : tn 0 s3.heap) (ffp : ∀ b ∈ fp, FpOk X pins H3 b) (flt3 : ∀ b ∈ fp, b < s3.heap.objs.size)
    (w0 : W 0 m0 [] H3) (turn : ∀ i m ys H2, W i m ys H2 → H2 p = some (.lst ys) ∧
      ((J.stop i H2 ∧ Q (.ref p) H2) ∨ (J.go i H2 ∧ ys.length < sizeLine ∧ ∀ x H3, J.yld i H2 x H3 → tt (some x :: frV σ fr) H3 fun b H4 =>
        if b = true then te (some x :: frV σ fr) H4 fun y H5 => H5 p = some (.lst ys) ∧ ∃ m', m' < m ∧ W (i + 1) m' (ys ++ [y]) (upd H5 p (.lst (ys ++ [y])))
        else ∃ m', m' < m ∧ W (i + 1) m' ys H4)))
    (hns : h₁.Ns s3.heap.objs.size m) (keep1 : ∀ b u, s3.heap.get? b = some u → h₁.get? b = some u)
    (fin : ∀ s6 H5 o, Inv (compCx X (x :: fx) scope cl s3 H3 fp) [] (o :: frV σ fr) H5 s6 → Q (.ref p) H5 → RR (.ok .next) s6) :
    codeAny (model X.prog X.w) X.A (.compStart (.ListComp elt [⟨.Name x px, iter, ifs, 0⟩] scope pos) 0 (.ref it) (.ref p) (compEnvC scope cl s3.heap.objs.size X.env))
      RR { s3 with heap := h₁, toks := t } := by
  have I4 := rqm (x := x) (t := t) I3 hkind hcl F hfx ffp flt3 hns keep1
  have st4 : tn 0 h₁ := T.keep _ _ _ st3 fun b hb o e => keep1 b o e
  have fp0 : ∀ b ∈ fp, H3 b = none := fun b hb => (ffp b hb).1
  have hcal : (compCx X (x :: fx) scope cl s3 H3 fp).calm = true := hc
  have stat : ∀ {H' : Hp}, (∀ b ∈ fp, H' b = none) → ∀ b ∈ fp, FpOk (compCx X (x :: fx) scope cl s3 H3 fp) [] H' b := fun {H'} hn b hb => by
    obtain ⟨f0, f1, f2, f3, f4, f5⟩ := ffp b hb
    exact ⟨hn b hb, Nat.ne_of_lt (flt3 b hb), I4.ok.exfs b hb, .inl hb, fun y c e => f4 y c (hcl y c e), fun q hq => absurd (show q ∈ ([] : List (Addr × Obj)) from hq) (by simp)⟩
  have hxl : (relabel scope X.env).names.lookup x = some .local := lookup_relabel_local hx
  have pg : PG (compCx X (x :: fx) scope cl s3 H3 fp) (.Name x px) (gName 0) := aq9 (i := 0) hnd rfl (.inl hxl) (.inr hxl)
  have loop : codeAny (model X.prog X.w) X.A (.compLoop (.ListComp elt [⟨.Name x px, iter, ifs, 0⟩] scope pos) 0 (.ref it) (.ref p) (compEnvC scope cl s3.heap.objs.size X.env))
        RR { s3 with heap := h₁, toks := t } := by
    refine jq2 (fun n s' => ∃ i ys H' o, Inv (compCx X (x :: fx) scope cl s3 H3 fp) [] (o :: frV σ fr) H' s' ∧ tn i s'.heap ∧ (∀ b ∈ fp, H' b = none) ∧ W i n ys H') ?_ m0 ⟨0, [], _, none, I4, st4, fp0, w0⟩
    rintro n s5 ⟨i, ys, H5, o, I5, st5, fr5, w5⟩
    obtain ⟨hp5, alt⟩ := turn i n ys H5 w5
    rcases alt with ⟨stop, qn⟩ | ⟨go, hlen, step⟩
    · refine thn (T.done (compCx X (x :: fx) scope cl s3 H3 fp) rfl rfl rfl hcal i [] s5 (o :: frV σ fr) H5 _ I5 (stat fr5) st5 stop) fun r s6 ⟨hr, I6⟩ => ?_
      subst hr
      exact fin s6 H5 o I6 qn
    · refine thn (T.item (compCx X (x :: fx) scope cl s3 H3 fp) rfl rfl rfl hcal i [] s5 (o :: frV σ fr) H5 _ I5 (stat fr5) st5 go) fun r s6 ⟨u, hr, h6⟩ => ?_
      subst hr
      refine thn h6 fun _ s7 ⟨y7, H7, I7, r7, yl7, st7, fr7⟩ => ?_
      have I7' := I7.pinned (stat fr7) (T.obj _ _ st7)
      have back : ∀ {σ' : St} {H' : Hp} {s' : Shared}, Inv (compCx X (x :: fx) scope cl s3 H3 fp) ([] ++ pinsAt fp s7.heap) σ' H' s' → tn (i + 1) s'.heap ∧ ∀ b ∈ fp, H' b = none := fun {σ' H' s'} I' => by
        refine ⟨T.keep _ _ _ st7 fun b hb o e => (I'.pin (b, o) (List.mem_append_right _ (List.mem_append_right _ (eqC hb e)))).1, fun b hb => ?_⟩
        obtain ⟨o, e, d⟩ := T.obj _ _ st7 b hb
        exact (I'.pin (b, o) (List.mem_append_right _ (List.mem_append_right _ (eqC hb e)))).2.1
      refine thn (pg _ s7 _ H7 y7 u (fun σ' H' => σ' = some y7 :: frV σ fr ∧ H' = H7) I7' r7 ⟨rfl, rfl⟩) fun _ s8 ⟨σ8, H8, I8, e8, e8'⟩ => ?_
      subst e8 e8'
      refine thn (ht s3 H3 fp _ s8 _ _ _ I8 (step y7 _ yl7)) fun b s9 ⟨H9, I9, q9⟩ => ?_
      cases b with
      | false =>
        rw [if_neg Bool.false_ne_true] at q9 ⊢
        obtain ⟨m', hm, w9⟩ := q9
        exact ⟨m', hm, i + 1, ys, H9, some y7, I9.unpinned, (back I9).1, (back I9).2, w9⟩
      | true =>
        rw [if_pos rfl] at q9 ⊢
        refine thn (he s3 H3 fp _ s9 _ H9 _ I9 q9) fun u10 s10 ⟨y10, H10, I10, r10, hp10, m', hm, w10⟩ => ?_
        refine thn (cqj _ s10 _ H10 (.ref p) [y10] (.ref p) [u10] (fun _ H' => H' = upd H10 p (.lst (ys ++ [y10]))) I10 rfl (.cons r10 .nil) ⟨p, ys, y10, rfl, rfl, hp10, hlen, rfl⟩) fun _ s11 ⟨_, H11, I11, _, e11⟩ => ?_
        subst e11
        exact ⟨m', hm, i + 1, ys ++ [y10], _, some y7, I11.unpinned, (back I11).1, (back I11).2, w10⟩
  exact codeAny_compStart_list loop (T.self _ 0 _ _ _ st4 loop)
theorem jqm (hc : X.calm = true) (hclos : closureFor scope X.env = pure cl) (hcell : ∀ y ∈ scope.names, y.2 ≠ .cell) (hkind : scope.kind = .function)
    (hnames : ∀ y ∈ scope.names, y.2 = .local → scope.names.lookup y.1 = some .local) (hx : scope.names.lookup x = some .local) (hnd : (x :: fx).Nodup)
    (hk : (cl.all fun q => fx.contains q.1) = true) (F : Frees X (relabel scope X.env) cl fx fr)
    (hfx : ((relabel scope X.env).names.all fun p => if (p.2 == .cell || p.2 == .free) then fx.contains p.1 else true) = true)
    (hi : PI X (.Name x px) iter wi) (ht : ∀ s H fp, PF (compCx X (x :: fx) scope cl s H fp) ifs tt) (he : ∀ s H fp, PE (compCx X (x :: fx) scope cl s H fp) elt te)
    (hs : ∀ x, foldedSetIterable iter X.env x = pure x := by intro _; rfl) :
    PE X (.ListComp elt [⟨.Name x px, iter, ifs, 0⟩] scope pos) (tComp wi fr tt te) := by
  intro pins s σ H Q I h
  have hcl : ∀ y c, cl.lookup y = some c → X.env.cells.lookup y = some c := fun y c e => by
    have q := List.all_eq_true.mp hk _ (PySem.mem_of_lookup e)
    rw [← (F.mem y (by simpa using q)).2]
    exact e
  rw [eval_ListComp]
  refine wpAny_comprehension_free (use := none) rfl hs hclos hkind hnames ?_
  refine thn (hi pins s σ H _ I h) fun v s1 h1 => thn h1 fun itv s2 h2 => ?_
  obtain ⟨it, fp, tn, J, H2, e, I2, T, st2, f2, q2⟩ := h2
  subst e
  have hp0 : H2 s2.heap.objs.size = none := I2.hok.fresh (Nat.le_refl _)
  obtain ⟨W, ⟨m0, w0⟩, turn⟩ := q2 _ hp0
  have flt : ∀ b ∈ fp, b < s2.heap.objs.size := fun b hb => by
    obtain ⟨o, e, _⟩ := T.obj _ _ st2 b hb
    exact Heap.lt_size e
  refine wpAny_newObj_type (wpAny_newFunctionEnv hcell (by intro y hy; simp at hy) (fun h₁ hns₁ hsb₁ => ?_) hkind)
  dsimp only at hns₁ hsb₁ ⊢
  have hlay : ∀ b u, s2.heap.get? b = some u → (s2.heap.push { cls := .type "list", dict := none, data := .seq ([] : List Value).toArray }).get? b = some u := fun b u e => Heap.get?_push_of_some _ e
  have hnew : (s2.heap.push { cls := .type "list", dict := none, data := .seq ([] : List Value).toArray }).get? s2.heap.objs.size = some { cls := .type "list", dict := none, data := .seq ([] : List Value).toArray } := Heap.get?_push_size _ rfl
  have hsz : (s2.heap.push { cls := .type "list", dict := none, data := .seq ([] : List Value).toArray }).objs.size = s2.heap.objs.size + 1 := Heap.size_push _ _
  generalize hHH : s2.heap.push { cls := .type "list", dict := none, data := .seq ([] : List Value).toArray } = HH at hns₁ hsb₁ hlay hnew hsz ⊢
  have I3 : Inv X pins σ (upd H2 s2.heap.objs.size (.lst [])) { s2 with heap := HH, toks := s2.toks } :=
    I2.laid (t' := s2.toks) (o := .lst []) hlay (Nat.le_refl _) ⟨Nat.zero_le _, [], 0, .nil, hnew⟩
  have ffp : ∀ b ∈ fp, FpOk X pins (upd H2 s2.heap.objs.size (.lst [])) b := fun b hb => by
    obtain ⟨f0, fr'⟩ := f2 b hb
    exact ⟨by rw [aqI (Nat.ne_of_lt (flt b hb))]; exact f0, fr'⟩
  have keep1 : ∀ b u, HH.get? b = some u → h₁.get? b = some u := fun b u e => hsb₁.extBut b u (Nat.ne_of_lt (Heap.lt_size e)) (Heap.get?_push_of_some _ e)
  exact qqT (s3 := { s2 with heap := HH, toks := s2.toks }) hc hkind hx hnd hcl F hfx ht he I3 T (T.keep _ _ _ st2 fun b hb o e => hlay b o e) ffp (fun b hb => by show b < HH.objs.size; rw [hsz]; exact Nat.lt_succ_of_lt (flt b hb)) w0 turn hns₁ keep1 fun s6 H5 o I6 qn => by
    obtain ⟨m, hn6, _⟩ := id I6.loc
    exact ⟨m, hn6, fun h' sb => ⟨.ref _, H5, oqa I3 I6 ffp sb, rfl, qn⟩⟩
end
section
variable {p : Addr} {fv : St} {te : TE} {Q : VK} {H1 : Hp}
theorem qqd {z : Str} (hz : z.length ≤ sizeLine) (hp : H1 p = none) (f : Nat → V)
    (he : ∀ c, c ∈ z.cps.toList → ∀ (H' : Hp) (R : VK), (∀ H'', Same H' H'' → R (f c) H'') → te (some (.str ⟨#[c]⟩) :: fv) H' R)
    (hQ : ∀ H', Same H1 H' → H' p = some (.lst (z.cps.toList.map f)) → Q (.ref p) H') : CompI (Its z) p fv tYes te Q H1 := by
  have hl : z.cps.toList.length = z.length := by simp [Str.length]
  refine ⟨fun i m ys H2 => m = z.length - i ∧ i ≤ z.length ∧ ys = (z.cps.toList.take i).map f ∧ H2 p = some (.lst ys) ∧ Same H1 H2, ⟨z.length, by simp, Nat.zero_le _, by simp, aqr, fun b o e => by rw [aqI (aqz e hp)]; exact e⟩, ?_⟩
  rintro i m ys H2 ⟨rfl, hi, rfl, hp2, sm⟩
  refine ⟨hp2, ?_⟩
  by_cases hlt : i < z.length
  · refine .inr ⟨hlt, ?_, fun x H3 y => ?_⟩
    · rw [List.length_map, List.length_take]; omega
    · obtain ⟨rfl, c, hc, rfl⟩ := y
      unfold tYes
      dsimp only
      rw [if_pos rfl]
      refine he c (List.mem_of_getElem? hc) _ _ fun H5 s5 => ⟨s5 _ _ hp2, z.length - (i + 1), by omega, rfl, hlt, ?_, aqr, fun b o e => ?_⟩
      · rw [List.take_add_one, hc, List.map_append]; rfl
      · rw [aqI (aqz e hp)]; exact s5 _ _ (sm _ _ e)
  · have e : i = z.length := by omega
    subst e
    refine .inl ⟨Nat.le_refl _, hQ H2 sm ?_⟩
    rw [hp2, ← hl, List.take_length]
end
section
variable {σ : St} {H : Hp} {Q : VK} {K : PySem.W.Frag} {tl te : TE} {tt : TT} {fr : List Nat}
theorem wqt : frV σ [] = [] := rfl
theorem tqN {i : Nat} {r : List Nat} : frV σ (i :: r) = (σ[i]?).getD none :: frV σ r := rfl
theorem xqa {z : Str} {p : Addr} : rJoin K (.str z) [.ref p] H Q ↔ ∃ ys : List Str, SqL K H p (ys.map V.str) ∧ (ys.map (·.length)).sum + ys.length * z.length ≤ 16777216 ∧ Q (.str (Txt.join z ys)) H := by
  constructor
  · rintro ⟨z', p', ys, h1, h2, h3⟩
    cases h1; cases h2
    exact ⟨ys, h3⟩
  · rintro ⟨ys, h⟩
    exact ⟨z, p, ys, rfl, rfl, h⟩
theorem tqK : tComp (iStr tl) fr tt te σ H Q ↔ tl σ H fun x H1 => ∃ z, x = .str z ∧ ∀ p, H1 p = none → CompI (Its z) p (frV σ fr) tt te Q H1 := Iff.rfl
theorem tqs : tComp (iList K tl) fr tt te σ H Q ↔ tl σ H fun x H1 => ∃ a, x = .ref a ∧ (∃ xs, SqL K H1 a xs) ∧ ∀ p, H1 p = none → CompI (Itl K a) p (frV σ fr) tt te Q H1 := Iff.rfl
end
section
variable {X : Cx} {K : PySem.W.Frag}
theorem aqD (h : X.K = K) : OpR X (binaryOp .Add) (rAddU K) := by subst h; exact sqz
theorem aqf (h : X.K = K) : IxR X (rIx K) := by subst h; exact wqV
theorem mqX (h : X.K = K) : SlR X (rSl K) := by subst h; exact yqf
theorem aqQ (h : X.K = K) : CallR X (.builtin "len") (rLenU K) := by subst h; exact tqc
theorem hqM (h : X.K = K) : MtR X "str.join" (rJoin K) := by subst h; exact wqw
theorem nqh {tg l : Expr} {tl : TE} (h : X.K = K) (hl : PE X l tl) : PI X tg l (iList K tl) := by subst h; exact vqI hl
variable {o e : Expr} {es : List Expr} {to : TE} {t : TA} {name : Str} {apos cpos : Pos} {T id : String} {r : V → List V → Hp → VK → Prop}
theorem nqz (h : X.K = K) (pa : PlainAttrs T) (slot : Slot T name id) (hty : typeOf (.builtin id) = pure (.type "method_descriptor")) (hm : MtR X id r) (ho : PE X o to)
    (hbase : attributeBase o name X.env (eval o X.env) = eval o X.env := by rfl) (hline : (apos.endLine == cpos.line) = true := by rfl) : PE X (.Call (.Attribute o name apos) [] [] cpos) (tBM0 K T r to) := by
  subst h; exact xqW pa slot hty hm ho hbase hline
theorem dqg (h : X.K = K) (pa : PlainAttrs T) (slot : Slot T name id) (hty : typeOf (.builtin id) = pure (.type "method_descriptor")) (hm : MtR X id r) (ho : PE X o to) (ha : PA X (e :: es) t)
    (hbase : attributeBase o name X.env (eval o X.env) = eval o X.env := by rfl)
    (hfew : ((backTo cpos (starEach (e :: es) X.env)).all (fun x => !x.1) && (backToKw cpos (keywordEach [] X.env)).all (fun x => x.1.isSome)
      && decide ((e :: es).length + ([] : List Keyword).length + (if ([] : List Keyword).isEmpty then 0 else 1) < 30)) = true := by rfl)
    (hline : (apos.endLine == cpos.line) = true := by rfl) (hs : starEach (e :: es) X.env = (false, eval e X.env) :: starEach es X.env := by rfl) (hplain : (backTo cpos (starEach es X.env)).any (·.1) = false := by rfl) :
    PE X (.Call (.Attribute o name apos) (e :: es) [] cpos) (tBM K T r to t) := by
  subst h; exact yqR pa slot hty hm ho ha hbase hfew hline hs hplain
end
structure FunD (K : PySem.W.Frag) (x qual : Str) (st : Stmt) (f : Addr) (fd : FuncData) (T : Addr) : Prop where
  ex : ∃ (oc : Value) (od : Option Addr) (kV doc pm : Value) (an : Option Addr) (cdv ct : Value) (osl : Array (Option Value)),
    fd = PySem.W.fnOf x qual (defArgs st) (defBody st) (defScope st) (.ref T) kV doc pm an cdv ct ∧ K.lookup f = some ⟨oc, od, .func fd, osl⟩ ∧ PySem.W.codeIn K cdv qual = true
  kp : PySem.W.keepIn K (.ref f) = true
section
variable {P : Program} {w : World} {K : PySem.W.Frag} {mg : Str → Option Value} {base : Heap}
theorem FunD.ok {x qual : Str} {st : Stmt} {f T : Addr} {fd : FuncData} {N ps : List Str} {k : Nat} {sp : Sp} (F : FunD K x qual st f fd T) (S : FnScope N ps (defScope st)) (len : ∀ vs H Q E, sp vs H Q E → vs.length = ps.length)
    (hbody : ∀ (cdv : Value) (A : Around) (outer : List Env) (s : Shared) (H : Hp) (vs : List V) (Q : VK) (E : XK), Room k (A.deeper (envOfC qual (defScope st) s.heap.objs.size f cdv)) → sp vs H Q E →
      ∃ t, PSs (cxOf CX0 P w K mg base N qual (defScope st) f cdv A outer s H E).nox (defBody st) t ∧ t { nx := fun _ H' => Q .non H', rt := Q } (start N vs) H) : FnOk P w K mg base CX0 (k + 1) f fd ps sp := by
  obtain ⟨oc, od, kV, doc, pm, an, cdv, ct, osl, rfl, lk, hcd⟩ := F.ex
  refine xqV lk hcd S len fun A outer s H vs Q E hr hsp => ?_
  obtain ⟨t, h, q⟩ := hbody cdv A outer s H vs Q E hr hsp
  exact ⟨t, h.nox, q⟩
theorem FunD.binds {x qual : Str} {st : Stmt} {f T : Addr} {fd : FuncData} {ps : List Str} {ds : List Value} {oc : Value} {od : Option Addr} {items : Array Value} {n : Nat} {sl : Array (Option Value)} (F : FunD K x qual st f fd T) (hT : K.lookup T = some ⟨oc, od, .seq items n, sl⟩)
    (h : ∀ (kV doc pm : Value) (an : Option Addr) (cdv ct : Value) (us : List Value), (us ++ ds).length = ps.length → ∃ k : Option (Array Value) → Sem (List (Str × Value)),
      bindArgs (PySem.W.fnOf x qual (defArgs st) (defBody st) (defScope st) (.ref T) kV doc pm an cdv ct) ⟨us, []⟩ = seqItems? (.ref T) >>= k ∧ k (some items) = pure (ps.zip (us ++ ds))) : Binds K fd ps ds := by
  obtain ⟨oc', od', kV, doc, pm, an, cdv, ct, osl, rfl, lk, hcd⟩ := F.ex
  intro s us X hl
  obtain ⟨k, h1, h2⟩ := h kV doc pm an cdv ct us hl
  exact BindsTo.of_defaults (T := T) rfl (X T _ hT) rfl h1 h2
theorem jqA {x qual : Str} {st : Stmt} {f T : Addr} {oc : Value} {od an : Option Addr} {osl : Array (Option Value)} {kV doc pm cdv ct : Value} (l : K.lookup f = some ⟨oc, od, .func (PySem.W.fnOf x qual (defArgs st) (defBody st) (defScope st) (.ref T) kV doc pm an cdv ct), osl⟩)
    (c : PySem.W.codeIn K cdv qual = true) (k : PySem.W.keepIn K (.ref f) = true) : FunD K x qual st f (PySem.W.fnOf x qual (defArgs st) (defBody st) (defScope st) (.ref T) kV doc pm an cdv ct) T := ⟨⟨oc, od, kV, doc, pm, an, cdv, ct, osl, rfl, l, c⟩, k⟩
end
theorem lqR {c : TT} {tb : TS} {D : Ends} {σ : St} {H : Hp} (W : Nat → St → Hp → Prop) (m0 : Nat) (h0 : W m0 σ H)
    (hs : ∀ m σ H, W m σ H → c σ H fun b H1 => if b = true then ∃ N : St → Hp → Prop, (∀ σ' H', N σ' H' → ∃ m', m' < m ∧ W m' σ' H') ∧ tb { D with nx := N, ct := N, bk := D.nx } σ H1 else D.nx σ H1) : tWhile c tb D σ H := ⟨W, ⟨m0, h0⟩, hs⟩
section
variable {σ : St} {H : Hp} {Q : VK}
theorem yqM {r : V → Hp → VK → Prop} {ta : TE} : tUn r ta σ H Q ↔ ta σ H fun x H1 => r x H1 Q := Iff.rfl
theorem rd_U {g : Int → V} {i : Int} : rU g (.int i) H Q ↔ Q (g i) H := ⟨fun ⟨_, h1, h2⟩ => by cases h1; exact h2, fun h => ⟨i, rfl, h⟩⟩
theorem wq4 {l : Addr} {y : V} : rAppend (.ref l) [y] H Q ↔ ∃ xs, H l = some (.lst xs) ∧ xs.length < sizeLine ∧ Q .non (upd H l (.lst (xs ++ [y]))) := by
  constructor
  · rintro ⟨l', xs, y', h1, h2, h3⟩
    cases h1; cases h2
    exact ⟨xs, h3⟩
  · rintro ⟨xs, h⟩
    exact ⟨l, xs, y, rfl, rfl, h⟩
theorem vqQ {K : PySem.W.Frag} {p : Addr} : tyV K "list" (.ref p) H ↔ ∃ xs, SqL K H p xs := by
  constructor
  · rintro (⟨_, h⟩ | ⟨h, _⟩ | ⟨h, _⟩ | ⟨h, _⟩)
    · exact h
    · exact absurd h (by decide)
    · exact absurd h (by decide)
    · exact absurd h (by decide)
  · intro h; exact .inl ⟨rfl, h⟩
end
end L2
namespace L2
open PySem PySem.Spec PyProof.Rows
mutual
inductive Is (H : Hp) : PyData → V → Prop
  | non : Is H .none .non
  | bl (b : Bool) : Is H (.bool b) (.bl b)
  | int (i : Int) : Is H (.int i) (.int i)
  | str (x : Str) : Is H (.str x) (.str x)
  | lst {p : Addr} {xs : List V} {ds : List PyData} : H p = some (.lst xs) → IsAll H ds xs → Is H (.list ds) (.ref p)
  | tup {p : Addr} {xs : List V} {ds : List PyData} : H p = some (.tup xs) → IsAll H ds xs → Is H (.tuple ds) (.ref p)
inductive IsAll (H : Hp) : List PyData → List V → Prop
  | nil : IsAll H [] []
  | cons {d : PyData} {x : V} {ds : List PyData} {xs : List V} : Is H d x → IsAll H ds xs → IsAll H (d :: ds) (x :: xs)
end
mutual
theorem Is.mono {H H' : Hp} (sm : Same H H') : ∀ {d : PyData} {x : V}, Is H d x → Is H' d x
  | _, _, .non => .non
  | _, _, .bl b => .bl b
  | _, _, .int i => .int i
  | _, _, .str x => .str x
  | _, _, .lst h r => .lst (sm _ _ h) (IsAll.mono sm r)
  | _, _, .tup h r => .tup (sm _ _ h) (IsAll.mono sm r)
theorem IsAll.mono {H H' : Hp} (sm : Same H H') : ∀ {ds : List PyData} {xs : List V}, IsAll H ds xs → IsAll H' ds xs
  | _, _, .nil => .nil
  | _, _, .cons h r => .cons (Is.mono sm h) (IsAll.mono sm r)
end
theorem IsAll.length {H : Hp} : ∀ {ds : List PyData} {xs : List V}, IsAll H ds xs → ds.length = xs.length
  | _, _, .nil => rfl
  | _, _, .cons _ r => by rw [List.length_cons, List.length_cons, IsAll.length r]
section
variable {X : Cx} {pins : List (Addr × Obj)} {σ : St} {H : Hp} {s : Shared}
mutual
theorem Is.reads (I : Inv X pins σ H s) : ∀ {d : PyData} {x : V} {v : Value}, Is H d x → RelV x v → ∃ as, Reads s.heap v d as
  | _, _, _, .non, r => by cases r; exact ⟨_, .none⟩
  | _, _, _, .bl b, r => by cases r; exact ⟨_, .bool b⟩
  | _, _, _, .int i, r => by obtain ⟨t, rfl⟩ := r; exact ⟨_, .int i t⟩
  | _, _, _, .str x, r => by obtain ⟨t, rfl⟩ := r; exact ⟨_, .str x t⟩
  | _, _, _, .lst h q, r => by
    cases r
    obtain ⟨its, vs, ⟨o, n, e, c, _, dt⟩, _⟩ := I.list (SqL.of h)
    obtain ⟨as, ra⟩ := IsAll.reads I q vs
    exact ⟨_, .list e c dt (by simpa using ra)⟩
  | _, _, _, .tup h q, r => by
    cases r
    obtain ⟨its, vs, ⟨o, e, c, n, dt⟩, _⟩ := I.tuple (SqT.of h)
    obtain ⟨as, ra⟩ := IsAll.reads I q vs
    exact ⟨_, .tuple e c dt (by simpa using ra)⟩
theorem IsAll.reads (I : Inv X pins σ H s) : ∀ {ds : List PyData} {xs : List V} {vs : List Value}, IsAll H ds xs → Vals xs vs → ∃ as, ReadsAll s.heap vs ds as
  | _, _, _, .nil, r => by cases r; exact ⟨_, .nil⟩
  | _, _, _, .cons q t, r => by
    cases r with
    | cons r1 r2 =>
      obtain ⟨as, h1⟩ := Is.reads I q r1
      obtain ⟨bs, h2⟩ := IsAll.reads I t r2
      exact ⟨_, .cons h1 h2⟩
end
def rEqD : R2 := fun x y H Q => ∃ d e, Is H d x ∧ Is H e y ∧ SeqAt.shaped d = true ∧ SeqAt.shaped e = true ∧ Q (.bl (PyData.eqv d e)) H
def rNeD : R2 := fun x y H Q => ∃ d e, Is H d x ∧ Is H e y ∧ SeqAt.shaped d = true ∧ SeqAt.shaped e = true ∧ Q (.bl (!PyData.eqv d e)) H
theorem pqd (hu : X.A.units + 64 < cLine) : OpR X (compareOp .Eq) rEqD := by
  intro pins s σ H x y v u Q I rx ry h
  obtain ⟨d, e, hx, hy, sx, sy, q⟩ := h
  obtain ⟨as, ra⟩ := hx.reads I rx
  obtain ⟨bs, rb⟩ := hy.reads I ry
  exact eq_dataH ra rb sx sy hu ⟨.bl _, H, I, rfl, q⟩
theorem xqL (hu : X.A.units + 64 < cLine) : OpR X (compareOp .NotEq) rNeD := by
  intro pins s σ H x y v u Q I rx ry h
  obtain ⟨d, e, hx, hy, sx, sy, q⟩ := h
  obtain ⟨as, ra⟩ := hx.reads I rx
  obtain ⟨bs, rb⟩ := hy.reads I ry
  exact ne_dataH ra rb sx sy hu ⟨.bl _, H, I, rfl, q⟩
end
mutual
inductive IsT (H : Hp) : PyData → V → Prop
  | non : IsT H .none .non
  | bl (b : Bool) : IsT H (.bool b) (.bl b)
  | int (i : Int) : IsT H (.int i) (.int i)
  | str (x : Str) : IsT H (.str x) (.str x)
  | tup {p : Addr} {xs : List V} {ds : List PyData} : H p = some (.tup xs) → IsTAll H ds xs → IsT H (.tuple ds) (.ref p)
inductive IsTAll (H : Hp) : List PyData → List V → Prop
  | nil : IsTAll H [] []
  | cons {d : PyData} {x : V} {ds : List PyData} {xs : List V} : IsT H d x → IsTAll H ds xs → IsTAll H (d :: ds) (x :: xs)
end
def SameT (H H' : Hp) : Prop := ∀ b xs, H b = some (.tup xs) → H' b = some (.tup xs)
theorem Same.toT {H H' : Hp} (h : Same H H') : SameT H H' := fun b xs e => h b _ e
theorem kq8 {H : Hp} {p : Addr} {xs : List V} {o : HO} (h : H p = some (.lst xs)) : SameT H (upd H p o) := fun b ys e => by
  rw [aqI (vqg e h (by intro z; cases z))]; exact e
mutual
theorem IsT.mono {H H' : Hp} (sm : SameT H H') : ∀ {d : PyData} {x : V}, IsT H d x → IsT H' d x
  | _, _, .non => .non
  | _, _, .bl b => .bl b
  | _, _, .int i => .int i
  | _, _, .str x => .str x
  | _, _, .tup h r => .tup (sm _ _ h) (IsTAll.mono sm r)
theorem IsTAll.mono {H H' : Hp} (sm : SameT H H') : ∀ {ds : List PyData} {xs : List V}, IsTAll H ds xs → IsTAll H' ds xs
  | _, _, .nil => .nil
  | _, _, .cons h r => .cons (IsT.mono sm h) (IsTAll.mono sm r)
end
mutual
theorem IsT.is {H : Hp} : ∀ {d : PyData} {x : V}, IsT H d x → Is H d x
  | _, _, .non => .non
  | _, _, .bl b => .bl b
  | _, _, .int i => .int i
  | _, _, .str x => .str x
  | _, _, .tup h r => .tup h (IsTAll.is r)
theorem IsTAll.is {H : Hp} : ∀ {ds : List PyData} {xs : List V}, IsTAll H ds xs → IsAll H ds xs
  | _, _, .nil => .nil
  | _, _, .cons h r => .cons (IsT.is h) (IsTAll.is r)
end
theorem IsTAll.append {H : Hp} : ∀ {ds es : List PyData} {xs ys : List V}, IsTAll H ds xs → IsTAll H es ys → IsTAll H (ds ++ es) (xs ++ ys)
  | _, _, _, _, .nil, r => r
  | _, _, _, _, .cons h t, r => .cons h (t.append r)
theorem IsTAll.length {H : Hp} {ds : List PyData} {xs : List V} (h : IsTAll H ds xs) : ds.length = xs.length := h.is.length
section
variable {p : Addr} {fv : St} {te : TE} {Q : VK} {H1 : Hp}
inductive All2 (R : V → V → Hp → Prop) (H : Hp) : List V → List V → Prop
  | nil : All2 R H [] []
  | cons {x y : V} {xs ys : List V} : R x y H → All2 R H xs ys → All2 R H (x :: xs) (y :: ys)
theorem All2.mono {R : V → V → Hp → Prop} (hm : ∀ x y H H', SameT H H' → R x y H → R x y H') {H H' : Hp} (sm : SameT H H') : ∀ {xs ys : List V}, All2 R H xs ys → All2 R H' xs ys
  | _, _, .nil => .nil
  | _, _, .cons h t => .cons (hm _ _ _ _ sm h) (t.mono hm sm)
theorem All2.snoc {R : V → V → Hp → Prop} {H : Hp} {x y : V} (h : R x y H) : ∀ {xs ys : List V}, All2 R H xs ys → All2 R H (xs ++ [x]) (ys ++ [y])
  | _, _, .nil => .cons h .nil
  | _, _, .cons q t => .cons q (t.snoc h)
theorem All2.length {R : V → V → Hp → Prop} {H : Hp} : ∀ {xs ys : List V}, All2 R H xs ys → xs.length = ys.length
  | _, _, .nil => rfl
  | _, _, .cons _ t => by rw [List.length_cons, List.length_cons, t.length]
theorem qqY {K : PySem.W.Frag} {a : Addr} {xs : List V} (hxs : SqL K H1 a xs) (hlen : xs.length ≤ sizeLine) (hp : H1 p = none) (R : V → V → Hp → Prop) (hm : ∀ x y H H', SameT H H' → R x y H → R x y H')
    (he : ∀ x, x ∈ xs → ∀ (H' : Hp) (T : VK), Same H1 H' → (∀ y H'', Same H' H'' → R x y H'' → T y H'') → te (some x :: fv) H' T)
    (hQ : ∀ ys H', Same H1 H' → All2 R H' xs ys → H' p = some (.lst ys) → Q (.ref p) H') : CompI (Itl K a) p fv tYes te Q H1 := by
  refine ⟨fun i m ys H2 => m = xs.length - i ∧ i ≤ xs.length ∧ All2 R H2 (xs.take i) ys ∧ H2 p = some (.lst ys) ∧ Same H1 H2, ⟨xs.length, by simp, Nat.zero_le _, by rw [List.take_zero]; exact .nil, aqr, fun b o e => by rw [aqI (aqz e hp)]; exact e⟩, ?_⟩
  rintro i m ys H2 ⟨rfl, hi, hys, hp2, sm⟩
  refine ⟨hp2, ?_⟩
  have q := sm.seq hxs
  have hl := hys.length
  rw [List.length_take] at hl
  by_cases hlt : i < xs.length
  · refine .inr ⟨⟨xs, xs[i], q, by simp [hlt]⟩, by omega, fun x H3 y => ?_⟩
    obtain ⟨rfl, y⟩ := y
    have hc := y xs q
    unfold tYes
    dsimp only
    rw [if_pos rfl]
    refine he x (List.mem_of_getElem? hc) _ _ sm fun y H5 s5 hr => ⟨s5 _ _ hp2, xs.length - (i + 1), by omega, rfl, hlt, ?_, aqr, fun b o e => ?_⟩
    · rw [List.take_add_one, hc]
      exact ((hys.mono hm s5.toT).snoc hr).mono hm (kq8 (s5 _ _ hp2))
    · rw [aqI (aqz e hp)]; exact s5 _ _ (sm _ _ e)
  · have e : i = xs.length := by omega
    subst e
    refine .inl ⟨⟨xs, q, Nat.le_refl _⟩, hQ ys H2 sm ?_ hp2⟩
    rw [List.take_length] at hys
    exact hys
end
section
variable {X : Cx}
def rAllB (K : PySem.W.Frag) : List V → Hp → VK → Prop := fun vs H Q => ∃ (p : Addr) (bs : List Bool), vs = [.ref p] ∧ SqL K H p (bs.map V.bl) ∧ Q (.bl (bs.all id)) H
def rAnyB (K : PySem.W.Frag) : List V → Hp → VK → Prop := fun vs H Q => ∃ (p : Addr) (bs : List Bool), vs = [.ref p] ∧ SqL K H p (bs.map V.bl) ∧ Q (.bl (bs.any id)) H
theorem uqb {bs : List Bool} : ∀ {us : List Value}, Vals (bs.map V.bl) us → ∀ (i : Nat) (v : Value), us[i]? = some v → ∃ b, bs[i]? = some b ∧ v = .bool b := by
  induction bs with
  | nil => intro us r i v h; rw [List.map_nil] at r; cases r; simp at h
  | cons b bs ih =>
    intro us r i v h
    rw [List.map_cons] at r
    cases r with
    | cons r1 r2 =>
      cases i with
      | zero => simp at h; subst h; exact ⟨b, rfl, r1⟩
      | succ i =>
        obtain ⟨c, h1, h2⟩ := ih r2 i v (by simpa using h)
        exact ⟨c, by simpa using h1, h2⟩
theorem sql (hc : X.calm = true) : CallR X (.builtin "all") (rAllB X.K) := by
  intro pins s σ H xs us Q I r h
  obtain ⟨p, bs, rfl, hq, q⟩ := h
  obtain ⟨u, rfl, ru⟩ := vals1 r
  cases ru
  obtain ⟨its, vs, pl, hl⟩ := I.list hq
  have hI := pl.isList
  have hlt : p < s.heap.objs.size := by obtain ⟨_, e, _⟩ := hI; exact Heap.lt_size e
  refine call_all_walk (wpAny_pyIter_list hI ?_)
  refine ⟨s.heap.objs.size, [s.heap.objs.size, p], [s.heap.objs.size], its.toArray.size, _, _, fun i => (bs[i]?).getD true, rfl, Walks.list (A := X.A.in1) (I.ok.hd hc) _ p (Nat.ne_of_lt hlt) its.toArray,
    ⟨⟨_, Heap.get?_push_size _ rfl, rfl, rfl⟩, hI.push _⟩, fun i v s' Q' E' hP hQ => ?_, fun h' tk hk => ?_⟩
  · obtain ⟨b, e, rfl⟩ := uqb vs i v (by simpa using hP)
    simp only [e, Option.getD_some] at hQ
    exact wpAny_truthy_bool hQ
  · have hbl := vs.length
    rw [List.length_map] at hbl
    have e : ((List.range its.toArray.size).all fun i => (bs[i]?).getD true) = bs.all id := by
      rw [List.size_toArray, ← hbl]; exact PyProof.Rows.LSm.range_all bs
    exact ⟨.bl _, H, I.kept (t' := tk) (PyProof.Rows.LSm.kept_iter hk), rfl, by rw [e]; exact q⟩
variable {K : PySem.W.Frag}
theorem sqy (h : X.K = K) (hc : X.calm = true) : CallR X (.builtin "all") (rAllB K) := by subst h; exact sql hc
def rListU (K : PySem.W.Frag) : List V → Hp → VK → Prop := fun xs H Q => ∃ p ys, xs = [.ref p] ∧ (SqL K H p ys ∨ SqT K H p ys) ∧ ∀ l, H l = none → Q (.ref l) (upd H l (.lst ys))
def rTupleU (K : PySem.W.Frag) : List V → Hp → VK → Prop := fun xs H Q => ∃ p ys, xs = [.ref p] ∧ ((SqL K H p ys ∧ ∀ l, H l = none → Q (.ref l) (upd H l (.tup ys))) ∨ (SqT K H p ys ∧ Q (.ref p) H))
theorem iqh {tg l : Expr} {tl : TE} (h : X.K = K) (hl : PE X l tl) : PI X tg l (iTup K tl) := by subst h; exact wq0 hl
end
section
variable {H : Hp} {Q : VK} {K : PySem.W.Frag}
theorem uq7 {x : V} {T : String} : rIsiU [x, .ty T] H Q ↔ ∃ k, kindV x H = some k ∧ T ∈ ["bool", "int", "str", "list", "tuple"] ∧ Q (.bl (subT k T)) H := Iff.rfl
theorem tq8 : kindV .non H = some "NoneType" := rfl
theorem wqL {b : Bool} : kindV (.bl b) H = some "bool" := rfl
theorem tqt {i : Int} : kindV (.int i) H = some "int" := rfl
theorem tq0 {x : Str} : kindV (.str x) H = some "str" := rfl
theorem tqq {p : Addr} {xs : List V} (h : H p = some (.lst xs)) : kindV (.ref p) H = some "list" := by simp only [kindV, h]
theorem tqx {p : Addr} {xs : List V} (h : H p = some (.tup xs)) : kindV (.ref p) H = some "tuple" := by simp only [kindV, h]
theorem sq8 : ("bool" ∈ ["bool", "int", "str", "list", "tuple"]) = True := by simp
theorem tq6 : ("int" ∈ ["bool", "int", "str", "list", "tuple"]) = True := by simp
theorem tqz : ("str" ∈ ["bool", "int", "str", "list", "tuple"]) = True := by simp
theorem rqF : ("list" ∈ ["bool", "int", "str", "list", "tuple"]) = True := by simp
theorem qq1 : ("tuple" ∈ ["bool", "int", "str", "list", "tuple"]) = True := by simp
theorem jqG : subT "NoneType" "bool" = false := by decide
theorem kqk : subT "NoneType" "int" = false := by decide
theorem kqh : subT "NoneType" "str" = false := by decide
theorem jqy : subT "NoneType" "list" = false := by decide
theorem iq9 : subT "NoneType" "tuple" = false := by decide
theorem nqC : subT "bool" "bool" = true := by decide
theorem oq0 : subT "bool" "int" = true := by decide
theorem nqM : subT "bool" "str" = false := by decide
theorem nqr : subT "bool" "list" = false := by decide
theorem lq4 : subT "bool" "tuple" = false := by decide
theorem oqL : subT "int" "bool" = false := by decide
theorem pqK : subT "int" "int" = true := by decide
theorem pqk : subT "int" "str" = false := by decide
theorem oqe : subT "int" "list" = false := by decide
theorem nqf : subT "int" "tuple" = false := by decide
theorem oqG : subT "str" "bool" = false := by decide
theorem pq3 : subT "str" "int" = false := by decide
theorem pqS : subT "str" "str" = true := by decide
theorem oqT : subT "str" "list" = false := by decide
theorem mq1 : subT "str" "tuple" = false := by decide
theorem mqL : subT "list" "bool" = false := by decide
theorem nqK : subT "list" "int" = false := by decide
theorem oqA : subT "list" "str" = false := by decide
theorem nqE : subT "list" "list" = true := by decide
theorem lq9 : subT "list" "tuple" = false := by decide
theorem lq5 : subT "tuple" "bool" = false := by decide
theorem nqv : subT "tuple" "int" = false := by decide
theorem mq6 : subT "tuple" "str" = false := by decide
theorem mqc : subT "tuple" "list" = false := by decide
theorem lqb : subT "tuple" "tuple" = true := by decide
theorem wqh {n : Nat} {t : TGs} {v : V} {σ : St} {R : St → Hp → Prop} : gTup K n t v σ H R ↔ ∃ a xs, v = .ref a ∧ SqT K H a xs ∧ xs.length = n ∧ t xs σ H R := Iff.rfl
theorem uqs {t : TG} {u : TGs} {vs : List V} {σ : St} {R : St → Hp → Prop} : gCons t u vs σ H R ↔ ∃ v r, vs = v :: r ∧ t v σ H fun σ' H' => u r σ' H' R := Iff.rfl
theorem vqi {vs : List V} {σ : St} {R : St → Hp → Prop} : gNil vs σ H R ↔ vs = [] ∧ R σ H := Iff.rfl
theorem uq8 {to ti : TE} {t : TSet} {v : V} {σ : St} {R : St → Hp → Prop} : gSub to ti t v σ H R ↔ to σ H fun o H1 => ti σ H1 fun i H2 => t o i v H2 fun H3 => R σ H3 := Iff.rfl
theorem vqo {p : Addr} {k : Int} {v : V} {R : Hp → Prop} : rSetL (.ref p) (.int k) v H R ↔ ∃ xs j, H p = some (.lst xs) ∧ ixN xs.length k = some j ∧ R (upd H p (.lst (xs.set j v))) := by
  constructor
  · rintro ⟨p', xs, k', j, h1, h2, h3⟩; cases h1; cases h2; exact ⟨xs, j, h3⟩
  · rintro ⟨xs, j, h⟩; exact ⟨p, xs, k, j, rfl, rfl, h⟩
end
section
variable {X : Cx} {K : PySem.W.Frag}
theorem mqQ {es : List Expr} {k : Nat} {t : TGs} {n : Nat} {pos : Pos} (h : X.K = K) (hc : X.calm = true) (hg : PGs X es t)
    (hn : (assignEach es X.env).length = n := by rfl) (hst : (assignEach es X.env).findIdx? (·.1) = none := by rfl) : PG X (.Tuple es k pos) (gTup K n t) := by
  subst h; exact uqT hc hg hn hst
end
def SameBut (p : Addr) (H H' : Hp) : Prop := ∀ b o, b ≠ p → H b = some o → H' b = some o
theorem SameBut.refl (p : Addr) (H : Hp) : SameBut p H H := fun _ _ _ e => e
theorem SameBut.trans {p : Addr} {H H' H'' : Hp} (h : SameBut p H H') (h' : SameBut p H' H'') : SameBut p H H'' := fun b o n e => h' b o n (h b o n e)
theorem Same.but {p : Addr} {H H' : Hp} (h : Same H H') : SameBut p H H' := fun b o _ e => h b o e
theorem lqQ {p : Addr} {H : Hp} {o : HO} : SameBut p H (upd H p o) := fun b u n e => by rw [aqI n]; exact e
theorem SameBut.toT {p : Addr} {H H' : Hp} {xs : List V} (h : SameBut p H H') (hp : H p = some (.lst xs)) : SameT H H' := fun b ys e => h b _ (vqg e hp (by intro z; cases z)) e
theorem SameBut.same {p : Addr} {H H' : Hp} (h : SameBut p H H') (hp : H p = none) : Same H H' := fun b o e => h b o (aqz e hp) e
section
variable {p : Addr} {fv : St} {te : TE} {Q : VK} {H1 : Hp} {K : PySem.W.Frag}
theorem Same.tup {H H' : Hp} {a : Addr} {xs : List V} (e : Same H H') (h : SqT K H a xs) : SqT K H' a xs := by
  rcases h with (h | ⟨o, h⟩) | h
  · exact .inl (.inl (e _ _ h))
  · exact .inl (.inr ⟨o, e _ _ h⟩)
  · exact .inr h
theorem sqJ {a : Addr} {xs zs : List V} (hxs : SqT K H1 a xs) (hlen : xs.length ≤ sizeLine) (hp : H1 p = none) (hz : zs.length = xs.length)
    (he : ∀ (i : Nat) (x z : V), xs[i]? = some x → zs[i]? = some z → ∀ (H' : Hp) (T : VK), Same H1 H' → (∀ H'', Same H' H'' → T z H'') → te (some x :: fv) H' T)
    (hQ : ∀ H', Same H1 H' → H' p = some (.lst zs) → Q (.ref p) H') : CompI (Itt K a) p fv tYes te Q H1 := by
  refine ⟨fun i m ys H2 => m = xs.length - i ∧ i ≤ xs.length ∧ ys = zs.take i ∧ H2 p = some (.lst ys) ∧ Same H1 H2, ⟨xs.length, by simp, Nat.zero_le _, by simp, aqr, fun b o e => by rw [aqI (aqz e hp)]; exact e⟩, ?_⟩
  rintro i m ys H2 ⟨rfl, hi, rfl, hp2, sm⟩
  refine ⟨hp2, ?_⟩
  have q := sm.tup hxs
  by_cases hlt : i < xs.length
  · refine .inr ⟨⟨xs, xs[i], q, by simp [hlt]⟩, ?_, fun x H3 y => ?_⟩
    · rw [List.length_take]; omega
    · obtain ⟨rfl, y⟩ := y
      have hc := y xs q
      have hzi : zs[i]? = some zs[i] := List.getElem?_eq_getElem (by omega)
      unfold tYes
      dsimp only
      rw [if_pos rfl]
      refine he i x _ hc hzi _ _ sm fun H5 s5 => ⟨s5 _ _ hp2, xs.length - (i + 1), by omega, rfl, hlt, ?_, aqr, fun b o e => ?_⟩
      · rw [List.take_add_one, hzi]; rfl
      · rw [aqI (aqz e hp)]; exact s5 _ _ (sm _ _ e)
  · have e : i = xs.length := by omega
    subst e
    refine .inl ⟨⟨xs, q, Nat.le_refl _⟩, hQ H2 sm ?_⟩
    rw [hp2, ← hz, List.take_length]
variable {σ : St} {H : Hp} {tl : TE} {tt : TT} {fr : List Nat} {g : TG} {tb : TS} {D : Ends}
theorem uqx : tComp (iTup K tl) fr tt te σ H Q ↔ tl σ H fun x H1 => ∃ a, x = .ref a ∧ (∃ xs, SqT K H1 a xs) ∧ ∀ p, H1 p = none → CompI (Itt K a) p (frV σ fr) tt te Q H1 := Iff.rfl
theorem uq9 : tFor (iTup K te) g tb D σ H ↔ te σ H fun x H1 => ∃ a, x = .ref a ∧ (∃ xs, SqT K H1 a xs) ∧ LoopI (Itt K a) g tb D σ H1 := Iff.rfl
theorem nqi {a : Addr} {xs : List V} (Pv : Nat → St → Hp → Prop) (h0 : Pv 0 σ H) (hl : ∀ i σ H, i ≤ xs.length → Pv i σ H → SqT K H a xs)
    (hs : ∀ i x σ H, xs[i]? = some x → Pv i σ H → g x σ H fun σ2 H2 => tb { D with nx := Pv (i + 1), ct := Pv (i + 1), bk := D.nx } σ2 H2) (hd : ∀ σ H, Pv xs.length σ H → D.nx σ H) : LoopI (Itt K a) g tb D σ H := wqu Pv h0 hl hs hd
theorem sqs {a : Addr} : rAllB K [.ref a] H Q ↔ ∃ bs : List Bool, SqL K H a (bs.map V.bl) ∧ Q (.bl (bs.all id)) H := by
  constructor
  · rintro ⟨p, bs, h1, h2⟩; cases h1; exact ⟨bs, h2⟩
  · rintro ⟨bs, h⟩; exact ⟨a, bs, rfl, h⟩
theorem vqP {a : Addr} : rAnyB K [.ref a] H Q ↔ ∃ bs : List Bool, SqL K H a (bs.map V.bl) ∧ Q (.bl (bs.any id)) H := by
  constructor
  · rintro ⟨p, bs, h1, h2⟩; cases h1; exact ⟨bs, h2⟩
  · rintro ⟨bs, h⟩; exact ⟨a, bs, rfl, h⟩
theorem yqq {a : Addr} : rListU K [.ref a] H Q ↔ ∃ ys, (SqL K H a ys ∨ SqT K H a ys) ∧ ∀ l, H l = none → Q (.ref l) (upd H l (.lst ys)) := by
  constructor
  · rintro ⟨p, bs, h1, h2⟩; cases h1; exact ⟨bs, h2⟩
  · rintro ⟨bs, h⟩; exact ⟨a, bs, rfl, h⟩
theorem wq3 {a : Addr} : rTupleU K [.ref a] H Q ↔ ∃ ys, (SqL K H a ys ∧ ∀ l, H l = none → Q (.ref l) (upd H l (.tup ys))) ∨ (SqT K H a ys ∧ Q (.ref a) H) := by
  constructor
  · rintro ⟨p, bs, h1, h2⟩; cases h1; exact ⟨bs, h2⟩
  · rintro ⟨bs, h⟩; exact ⟨a, bs, rfl, h⟩
theorem wqb {a : Addr} {lo hi : Option Int} : rSlT K (.ref a) lo hi H Q ↔ ∃ xs, SqT K H a xs ∧ ¬ (HT.sIx xs.length 0 lo = 0 ∧ HT.sIx xs.length xs.length hi = xs.length) ∧ ∀ p, H p = none → Q (.ref p) (upd H p (.tup (cutV xs lo hi))) := by
  constructor
  · rintro ⟨p, bs, h1, h2⟩; cases h1; exact ⟨bs, h2⟩
  · rintro ⟨bs, h⟩; exact ⟨a, bs, rfl, h⟩
end
def tCut (t u : TS) : TS := fun D σ H => ∃ P : St → Hp → Prop, t { D with nx := P } σ H ∧ ∀ σ' H', P σ' H' → u D σ' H'
section
variable {X : Cx} {st : Stmt} {rest : List Stmt} {t u : TS}
theorem aqx (h1 : PS X st t) (h2 : PSs X rest u) : PSs X (st :: rest) (tCut t u) := by
  intro pins s σ H D I h
  obtain ⟨P, h, hu⟩ := h
  refine wpAny_execs_cons (thn (h1 pins s σ H { D with nx := P } I h) fun f s1 q => ?_)
  cases f with
  | next =>
    obtain ⟨σ', H', I', q⟩ := q
    exact h2 pins s1 σ' H' D I' (hu _ _ q)
  | ret v => exact q
  | brk => exact q
  | cont => exact q
def Later (u : TS) (D : Ends) (σ : St) (H : Hp) : Prop := u D σ H
theorem tqy {D : Ends} {x : Option V} {σ : St} {H : Hp} : Later u D (x :: σ) H ↔ u D (x :: σ) H := Iff.rfl
theorem xqx {D : Ends} {σ : St} {H : Hp} : tCut t u D σ H ↔ ∃ P : St → Hp → Prop, t { D with nx := P } σ H ∧ ∀ σ' H', P σ' H' → Later u D σ' H' := Iff.rfl
end
theorem SameBut.free {p q : Addr} {H H' : Hp} (sb : SameBut p H H') (hq : H' q = none) (hne : q ≠ p) : H q = none := by
  cases e : H q with
  | none => rfl
  | some o => rw [sb q o hne e] at hq; cases hq
theorem SameBut.upd {p q : Addr} {H H' : Hp} {o : HO} (sb : SameBut p H H') (hq : H q = none) : SameBut p H (upd H' q o) := fun b u n e => by
  rw [aqI (aqz e hq)]; exact sb b u n e
theorem IsTAll.snoc {H : Hp} {ds : List PyData} {xs : List V} {d : PyData} {x : V} (h : IsTAll H ds xs) (hd : IsT H d x) : IsTAll H (ds ++ [d]) (xs ++ [x]) := h.append (.cons hd .nil)
theorem bqs {H : Hp} {p : Addr} {o : HO} (hp : H p = none) : Same H (upd H p o) := fun b u e => by rw [aqI (aqz e hp)]; exact e
def tTupS (t : TA) : TE := fun σ H Q => t σ H fun xs H1 => xs.length ≤ sizeLine ∧ ∀ p H', H1 p = none → Same H1 H' → H' p = some (.tup xs) → Q (.ref p) H'
def tLstS (t : TA) : TE := fun σ H Q => t σ H fun xs H1 => xs.length ≤ sizeLine ∧ ∀ p H', H1 p = none → Same H1 H' → H' p = some (.lst xs) → Q (.ref p) H'
section
variable {X : Cx} {es : List Expr} {t : TA} {pos : Pos} {K : PySem.W.Frag}
theorem aqy {x1} (h : PA X es t) : PE X (.Tuple es x1 pos) (tTupS t) := by
  intro pins s σ H Q I hq
  refine wpAny_Tuple_spliced (thn (h pos pins s σ H _ I hq) fun us s1 ⟨xs, H1, I1, r, z, q⟩ => ⟨by rw [← r.length]; exact z, ?_⟩)
  have hf : H1 s1.heap.objs.size = none := I1.hok.fresh (Nat.le_refl _)
  refine ⟨.ref s1.heap.objs.size, upd H1 s1.heap.objs.size (.tup xs), I1.laid (t' := s1.toks) (fun b u e => Heap.get?_push_of_some _ e) (Nat.le_refl _) ?_, rfl, q _ _ hf (bqs hf) aqr⟩
  exact ⟨z, us, r, ⟨_, Heap.get?_push_size _ rfl, rfl, _, rfl⟩⟩
theorem cqU (h : PA X es t) : PE X (.List es pos) (tLstS t) := by
  intro pins s σ H Q I hq
  refine wpAny_List_spliced (thn (h pos pins s σ H _ I hq) fun us s1 ⟨xs, H1, I1, r, z, q⟩ => ⟨by rw [← r.length]; exact z, ?_⟩)
  have hf : H1 s1.heap.objs.size = none := I1.hok.fresh (Nat.le_refl _)
  refine ⟨.ref s1.heap.objs.size, upd H1 s1.heap.objs.size (.lst xs), I1.laid (t' := s1.toks) (fun b u e => Heap.get?_push_of_some _ e) (Nat.le_refl _) ?_, rfl, q _ _ hf (bqs hf) aqr⟩
  exact ⟨z, us, 0, r, Heap.get?_push_size _ rfl⟩
def rAddS (K : PySem.W.Frag) : R2 := fun x y H Q => match x, y with
  | .int i, .int j => Q (.int (i + j)) H
  | .str i, .str j => i.length + j.length ≤ sizeLine ∧ Q (.str (i ++ j)) H
  | .ref a, .ref b => (∃ xs zs, H a = some (.lst xs) ∧ H b = some (.lst zs) ∧ xs.length + zs.length ≤ sizeLine ∧ ∀ p H', H p = none → Same H H' → H' p = some (.lst (xs ++ zs)) → Q (.ref p) H') ∨
      (∃ xs ys, H a = some (.tup xs) ∧ H b = some (.tup ys) ∧ xs.length + ys.length ≤ sizeLine ∧ ∀ p H', Same H H' → H' p = some (.tup (xs ++ ys)) → Q (.ref p) H')
  | _, _ => False
theorem aqN : OpR X (binaryOp .Add) (rAddS K) := by
  intro pins s σ H x y v u Q I rx ry h
  refine sqz pins s σ H x y v u Q I rx ry ?_
  cases x with
  | int i =>
    cases y with
    | int j => exact h
    | _ => exact h.elim
  | str i =>
    cases y with
    | str j => exact h
    | _ => exact h.elim
  | ref a =>
    cases y with
    | ref b =>
      rcases h with ⟨xs, zs, h1, h2, h3, h4⟩ | h
      · exact .inl ⟨xs, zs, h1, h2, h3, fun p hp => h4 p _ hp (bqs hp) aqr⟩
      · exact .inr h
    | _ => exact h.elim
  | _ => exact h.elim
def rListS (K : PySem.W.Frag) : List V → Hp → VK → Prop := fun xs H Q => ∃ p ys, xs = [.ref p] ∧ (SqL K H p ys ∨ SqT K H p ys) ∧ ∀ l H', H l = none → Same H H' → H' l = some (.lst ys) → Q (.ref l) H'
def rTupleS (K : PySem.W.Frag) : List V → Hp → VK → Prop := fun xs H Q => ∃ p ys, xs = [.ref p] ∧ (SqL K H p ys ∨ H p = some (.tup ys)) ∧ ∀ l H', Same H H' → H' l = some (.tup ys) → Q (.ref l) H'
theorem dqI (h : X.K = K) : CallR X (.type "tuple") (rTupleS K) := by
  subst h
  intro pins s σ H xs us Q I r h
  obtain ⟨p, ys, h1, h2, h3⟩ := h
  rcases h2 with h2 | h2
  · exact jqg pins s σ H xs us Q I r ⟨p, ys, h1, .inl ⟨h2, fun l hl => h3 l _ (bqs hl) aqr⟩⟩
  · exact jqg pins s σ H xs us Q I r ⟨p, ys, h1, .inr ⟨SqT.of h2, h3 p H (Same.refl _) h2⟩⟩
def rSlS2 (K : PySem.W.Frag) : V → Option Int → Option Int → Hp → VK → Prop := fun x lo hi H Q => ∃ a xs, x = .ref a ∧ SqT K H a xs ∧
  ¬ (HT.sIx xs.length 0 lo = 0 ∧ HT.sIx xs.length xs.length hi = xs.length) ∧ ∀ p H', H p = none → Same H H' → H' p = some (.tup (cutV xs lo hi)) → Q (.ref p) H'
end
section
variable {σ : St} {H : Hp} {Q : VK} {K : PySem.W.Frag} {aa : TA}
theorem vqX : tTupS aa σ H Q ↔ aa σ H fun xs H1 => xs.length ≤ sizeLine ∧ ∀ p H', H1 p = none → Same H1 H' → H' p = some (.tup xs) → Q (.ref p) H' := Iff.rfl
theorem vqk : tLstS aa σ H Q ↔ aa σ H fun xs H1 => xs.length ≤ sizeLine ∧ ∀ p H', H1 p = none → Same H1 H' → H' p = some (.lst xs) → Q (.ref p) H' := Iff.rfl
theorem wqk {i j : Int} : rAddS K (.int i) (.int j) H Q ↔ Q (.int (i + j)) H := Iff.rfl
theorem wqB {i j : Str} : rAddS K (.str i) (.str j) H Q ↔ i.length + j.length ≤ sizeLine ∧ Q (.str (i ++ j)) H := Iff.rfl
theorem wqN {a : Addr} : rListS K [.ref a] H Q ↔ ∃ ys, (SqL K H a ys ∨ SqT K H a ys) ∧ ∀ l H', H l = none → Same H H' → H' l = some (.lst ys) → Q (.ref l) H' := by
  constructor
  · rintro ⟨p, bs, h1, h2⟩; cases h1; exact ⟨bs, h2⟩
  · rintro ⟨bs, h⟩; exact ⟨a, bs, rfl, h⟩
theorem wqO {a : Addr} : rTupleS K [.ref a] H Q ↔ ∃ ys, (SqL K H a ys ∨ H a = some (.tup ys)) ∧ ∀ l H', Same H H' → H' l = some (.tup ys) → Q (.ref l) H' := by
  constructor
  · rintro ⟨p, bs, h1, h2⟩; cases h1; exact ⟨bs, h2⟩
  · rintro ⟨bs, h⟩; exact ⟨a, bs, rfl, h⟩
theorem vqd {a : Addr} {lo hi : Option Int} : rSlS2 K (.ref a) lo hi H Q ↔ ∃ xs, SqT K H a xs ∧ ¬ (HT.sIx xs.length 0 lo = 0 ∧ HT.sIx xs.length xs.length hi = xs.length) ∧ ∀ p H', H p = none → Same H H' → H' p = some (.tup (cutV xs lo hi)) → Q (.ref p) H' := by
  constructor
  · rintro ⟨p, bs, h1, h2⟩; cases h1; exact ⟨bs, h2⟩
  · rintro ⟨bs, h⟩; exact ⟨a, bs, rfl, h⟩
end
def rSlLS (K : PySem.W.Frag) : V → Option Int → Option Int → Hp → VK → Prop := fun x lo hi H Q => ∃ a xs, x = .ref a ∧ SqL K H a xs ∧ ∀ p H', H p = none → Same H H' → H' p = some (.lst (cutV xs lo hi)) → Q (.ref p) H'
theorem tqh {K : PySem.W.Frag} {H : Hp} {Q : VK} {a : Addr} {lo hi : Option Int} : rSlLS K (.ref a) lo hi H Q ↔ ∃ xs, SqL K H a xs ∧ ∀ p H', H p = none → Same H H' → H' p = some (.lst (cutV xs lo hi)) → Q (.ref p) H' := by
  constructor
  · rintro ⟨p, bs, h1, h2⟩; cases h1; exact ⟨bs, h2⟩
  · rintro ⟨bs, h⟩; exact ⟨a, bs, rfl, h⟩
def rIsB (neg : Bool) : R2 := fun x y H Q => match x, y with
  | .bl b, .bl c => Q (.bl (if neg then !decide (b = c) else decide (b = c))) H
  | _, _ => False
theorem yqO {b c : Bool} {H : Hp} {Q : VK} : rIsB false (.bl b) (.bl c) H Q ↔ Q (.bl (decide (b = c))) H := Iff.rfl
end L2
namespace Wm
open PySem L2
def isSg (c : Nat) : Bool := decide (32 ≤ c) && decide (c ≤ 126) && !decide (c = 37)
def SG : List Nat := (List.range 127).filter isSg
def hexd (n : Nat) : Nat := if n < 10 then 48 + n else 87 + n
def fig (a : Nat) : Option Nat := if 48 ≤ a ∧ a ≤ 57 then some (a - 48) else if 97 ≤ a ∧ a ≤ 102 then some (a - 87) else if 65 ≤ a ∧ a ≤ 70 then some (a - 55) else none
def figV (a : Nat) : V := match fig a with | some n => .int (n : Nat) | none => .non
abbrev one (c : Nat) : V := .str ⟨#[c]⟩
def sgV (n : Nat) : V := if isSg n then one n else .non
def signOf (a b : Nat) : V := match fig a, fig b with | some h, some l => sgV (h * 16 + l) | _, _ => .non
def signOfL : List Nat → V
  | [a, b] => signOf a b
  | _ => .non
theorem uqW {c : Nat} : c ∈ SG ↔ isSg c = true := by
  unfold SG
  rw [List.mem_filter, List.mem_range]
  constructor
  · exact fun h => h.2
  · intro h
    refine ⟨?_, h⟩
    simp only [isSg, Bool.and_eq_true, decide_eq_true_eq] at h
    omega
theorem cq2 {c : Nat} (h : isSg c = true) : 32 ≤ c ∧ c ≤ 126 ∧ c ≠ 37 := by
  simp only [isSg, Bool.and_eq_true, decide_eq_true_eq, Bool.not_eq_true', decide_eq_false_iff_not] at h
  omega
theorem vq4 : ∀ n, n < 16 → (Str.ofString "0123456789abcdef").cps.toList[n]? = some (hexd n) := by decide +kernel
theorem xqo {i : Int} {n : Nat} (e : i = (n : Int)) (h : n < 16) : atI (Str.ofString "0123456789abcdef").cps.toList i = some (hexd n) := by
  rw [e]; exact cqB (vq4 n h)
theorem nq3 : (Str.ofString "0123456789abcdef").length ≤ sizeLine := by decide +kernel
theorem tqk : ∀ a, a < 128 → a ∈ (Str.ofString "0123456789abcdef").cps.toList →
    Builtin.Str.occurrences (Str.ofString "0123456789abcdef") ⟨#[a]⟩ 0 (Str.ofString "0123456789abcdef").length 1 = [(fig a).getD 0] ∧ (fig a).isSome = true := by decide +kernel
theorem uqy : ∀ a, a < 128 → ¬ a ∈ (Str.ofString "0123456789abcdef").cps.toList → a ∈ (Str.ofString "0123456789ABCDEF").cps.toList →
    Builtin.Str.occurrences (Str.ofString "0123456789ABCDEF") ⟨#[a]⟩ 0 (Str.ofString "0123456789ABCDEF").length 1 = [(fig a).getD 0] ∧ (fig a).isSome = true := by decide +kernel
theorem yqD : ∀ a, a < 128 → ¬ a ∈ (Str.ofString "0123456789abcdef").cps.toList → ¬ a ∈ (Str.ofString "0123456789ABCDEF").cps.toList → fig a = none := by decide +kernel
theorem tql : ∀ n, n < 127 → isSg n = true → (Str.ofString " !\"#$&'()*+,-./0123456789:;<=>?@ABCDEFGHIJKLMNOPQRSTUVWXYZ[\\]^_`abcdefghijklmnopqrstuvwxyz{|}~").cps.toList[n - 32 - (if 37 < n then 1 else 0)]? = some n := by decide +kernel
theorem nq8 : (Str.ofString " !\"#$&'()*+,-./0123456789:;<=>?@ABCDEFGHIJKLMNOPQRSTUVWXYZ[\\]^_`abcdefghijklmnopqrstuvwxyz{|}~").length ≤ sizeLine := by decide +kernel
theorem xqS : (Str.ofString " !\"#$&'()*+,-./0123456789:;<=>?@ABCDEFGHIJKLMNOPQRSTUVWXYZ[\\]^_`" ++ Str.ofString "abcdefghijklmnopqrstuvwxyz{|}~" : Str) = ⟨SG.toArray⟩ := by decide +kernel
theorem vqY : (Str.ofString " !\"#$&'()*+,-./0123456789:;<=>?@ABCDEFGHIJKLMNOPQRSTUVWXYZ[\\]^_`").length + (Str.ofString "abcdefghijklmnopqrstuvwxyz{|}~").length ≤ sizeLine := by decide +kernel
theorem uqI : SG.length = 94 := by decide +kernel
theorem wqT (c : Nat) (hc : isSg c = true) : signOf (hexd (c / 16)) (hexd (c % 16)) = one c := by
  have l := cq2 hc
  have key : ∀ h, h < 16 → fig (hexd h) = some h := by decide +kernel
  unfold signOf
  rw [key _ (by omega), key _ (by omega)]
  have e : c / 16 * 16 + c % 16 = c := by omega
  simp only [sgV, e, hc, if_true]
theorem nqI (l : List Nat) (a : Nat) : ∀ k, ((List.range k).map fun j => a + j).filterMap (fun i => l[i]?) = (l.drop a).take k
  | 0 => by simp
  | k + 1 => by
    rw [List.range_succ, List.map_append, List.filterMap_append, nqI l a k, List.take_add_one, List.getElem?_drop]
    simp only [List.map_cons, List.map_nil]
    cases e : l[a + k]? with
    | none => simp [e]
    | some c => simp [e]
def clipI (n : Nat) (v : Int) : Nat := (max 0 (min (if v < 0 then v + n else v) n)).toNat
theorem uqf (a b : Nat) : sliceRange (a : Int) (b : Int) 1 = (List.range (b - a)).map fun j => a + j := by
  unfold sliceRange
  have h1 : (1 : Int) > 0 := by decide
  simp only [h1, if_true, Int.one_mul, Int.ediv_one]
  have e : (if (a : Int) < (b : Int) then (b : Int) - (a : Int) + 1 - 1 else 0).toNat = b - a := by split <;> omega
  rw [e]
  apply List.map_congr_left
  intro j _
  omega
theorem pqE (lo hi : Option Int) (n : Nat) : Builtin.Str.strSliceIndices lo hi 1 n = (List.range ((hi.elim n (clipI n)) - (lo.elim 0 (clipI n)))).map fun j => (lo.elim 0 (clipI n)) + j := by
  unfold Builtin.Str.strSliceIndices
  have h1 : (1 : Int) > 0 := by decide
  simp only [h1, if_true]
  rw [← uqf]
  congr 1
  · cases lo with
    | none => rfl
    | some v => simp only [Option.elim_some, clipI]; omega
  · cases hi with
    | none => rfl
    | some v => simp only [Option.elim_some, clipI]; omega
theorem lqc (l : List Nat) (lo hi : Option Int) : Txt.slice (⟨l.toArray⟩ : Str) lo hi = ⟨((l.drop (lo.elim 0 (clipI l.length))).take ((hi.elim l.length (clipI l.length)) - (lo.elim 0 (clipI l.length)))).toArray⟩ := by
  have hl : (⟨l.toArray⟩ : Str).length = l.length := by simp [Str.length]
  have hb : hi.elim l.length (clipI l.length) ≤ l.length := by
    cases hi with
    | none => exact Nat.le_refl _
    | some v => simp only [Option.elim_some, clipI]; omega
  have hb' : lo.elim 0 (clipI l.length) ≤ l.length := by
    cases lo with
    | none => exact Nat.zero_le _
    | some v => simp only [Option.elim_some, clipI]; omega
  have ef : (fun i : Nat => (⟨l.toArray⟩ : Str).cps[i]?) = fun i => l[i]? := by funext i; simp
  unfold Txt.slice
  rw [hl, pqE, ef]
  split
  · rename_i h
    simp only [List.length_map, List.length_range, beq_self_eq_true, Bool.true_and, beq_iff_eq] at h
    have e1 : lo.elim 0 (clipI l.length) = 0 := by omega
    have e2 : hi.elim l.length (clipI l.length) = l.length := by omega
    rw [e1, e2]
    simp
  · rw [nqI l (lo.elim 0 (clipI l.length)) ((hi.elim l.length (clipI l.length)) - (lo.elim 0 (clipI l.length)))]
theorem mq9 (n k : Nat) : clipI n (k : Int) = min k n := by unfold clipI; split <;> omega
theorem fqO (l : List Nat) (k : Nat) : Txt.slice (⟨l.toArray⟩ : Str) (some (k : Int)) none = ⟨(l.drop k).toArray⟩ := by
  rw [lqc]
  simp only [Option.elim_some, Option.elim_none, mq9]
  by_cases h : k ≤ l.length
  · rw [Nat.min_eq_left h, List.take_of_length_le (by simp)]
  · rw [Nat.min_eq_right (by omega), List.drop_eq_nil_of_le (Nat.le_refl _), List.drop_eq_nil_of_le (by omega)]
    simp
theorem uqe (l : List Nat) (k : Nat) : Txt.slice (⟨l.toArray⟩ : Str) none (some (k : Int)) = ⟨(l.take k).toArray⟩ := by
  rw [lqc]
  simp only [Option.elim_some, Option.elim_none, mq9, List.drop_zero, Nat.sub_zero]
  by_cases h : k ≤ l.length
  · rw [Nat.min_eq_left h]
  · rw [Nat.min_eq_right (by omega), List.take_length, List.take_of_length_le (by omega)]
theorem sqd (l : List Nat) (i j : Nat) : Txt.slice (⟨l.toArray⟩ : Str) (some (i : Int)) (some (j : Int)) = ⟨((l.drop i).take (j - i)).toArray⟩ := by
  rw [lqc]
  simp only [Option.elim_some, mq9]
  by_cases h : i ≤ l.length
  · rw [Nat.min_eq_left h]
    by_cases h2 : j ≤ l.length
    · rw [Nat.min_eq_left h2]
    · rw [Nat.min_eq_right (by omega : l.length ≤ j), List.take_of_length_le (by simp), List.take_of_length_le (by simp; omega)]
  · rw [Nat.min_eq_right (by omega : l.length ≤ i), List.drop_eq_nil_of_le (Nat.le_refl _), List.drop_eq_nil_of_le (by omega)]
    simp
theorem xqF : Str.ofString "" = ⟨([] : List Nat).toArray⟩ := by decide +kernel
theorem qqB (ys : List Str) : Txt.join (⟨([] : List Nat).toArray⟩ : Str) ys = ⟨(ys.flatMap fun y => y.cps.toList).toArray⟩ := by
  show Builtin.Str.glued _ _ = _
  rw [StrLaws.glued_eq_join]
  induction ys with
  | nil => rfl
  | cons y r ih =>
    cases r with
    | nil =>
      show y = _
      simp
    | cons z r =>
      show y ++ (⟨#[]⟩ : Str) ++ Str.join ⟨#[]⟩ (z :: r) = _
      rw [ih]
      show Str.mk (y.cps ++ #[] ++ _) = _
      simp [List.flatMap_cons]
theorem oqz (l m : List Nat) : ((⟨l.toArray⟩ : Str) ++ (⟨m.toArray⟩ : Str)) = ⟨(l ++ m).toArray⟩ := by
  show Str.mk (l.toArray ++ m.toArray) = _
  simp
theorem eqf {l m : List Nat} : ((⟨l.toArray⟩ : Str) = ⟨m.toArray⟩) ↔ l = m := by
  constructor
  · intro h; injection h with h; injection h
  · rintro rfl; rfl
theorem dqy (l : List Nat) : (⟨l.toArray⟩ : Str).length = l.length := by simp [Str.length]
theorem tqI : Str.ofString "~" = ⟨[126].toArray⟩ := by decide +kernel
theorem wqy (l : List Nat) : Txt.slice (⟨l.toArray⟩ : Str) (some 1) none = ⟨(l.drop 1).toArray⟩ := fqO l 1
theorem gqX {a n : Nat} (h : fig a = some n) : figV a = .int (n : Nat) := by unfold figV; rw [h]
theorem kq9 {a : Nat} (h : fig a = none) : figV a = .non := by unfold figV; rw [h]
theorem vqp {n : Nat} (h : isSg n = true) : sgV n = one n := by unfold sgV; rw [if_pos h]
theorem sq3 {n : Nat} (h : ¬ isSg n = true) : sgV n = .non := by unfold sgV; rw [if_neg h]
theorem vqL {n : Nat} (h1 : 32 ≤ n) (h2 : n ≤ 126) (h3 : n ≠ 37) : isSg n = true := by
  simp only [isSg, Bool.and_eq_true, decide_eq_true_eq, Bool.not_eq_true', decide_eq_false_iff_not]
  omega
theorem rqi {l : List Nat} (h : l.length ≠ 2) : signOfL l = .non := by
  match l with
  | [] => rfl
  | [_] => rfl
  | [_, _] => exact absurd rfl h
  | _ :: _ :: _ :: _ => rfl
theorem xqB {l : List Nat} (h : l.length = 2) : ∃ a b, l = [a, b] := by
  match l, h with
  | [a, b], _ => exact ⟨a, b, rfl⟩
theorem uq6 (l : List Nat) (m k : Int) (h0 : 0 < k) (h : k ≤ l.length) : ∃ a, a ∈ l ∧ atI l (m % k) = some a := by
  have h1 := Int.emod_nonneg m (show k ≠ 0 by omega)
  have h2 := Int.emod_lt_of_pos m h0
  have h3 : (m % k).toNat < l.length := by omega
  refine ⟨l[(m % k).toNat], List.getElem_mem _, ?_⟩
  have := cqB (xs := l) (j := (m % k).toNat) (v := l[(m % k).toNat]) (by simp [h3])
  rw [Int.toNat_of_nonneg h1] at this
  exact this
def isPl (c : Nat) : Bool := decide (48 ≤ c ∧ c ≤ 57) || decide (65 ≤ c ∧ c ≤ 90) || decide (97 ≤ c ∧ c ≤ 122) || decide (c = 45) || decide (c = 46) || decide (c = 95)
theorem qqu : ∀ c, c < 128 → (decide (c ∈ (Str.ofString "abcdefghijklmnopqrstuvwxyzABCDEFGHIJKLMNOPQRSTUVWXYZ0123456789-_.").cps.toList)) = isPl c := by decide +kernel
def wr1 (c : Nat) : List Nat := if isPl c then [c] else [126, hexd (c / 16), hexd (c % 16)]
def wr (l : List Nat) : List Nat := l.flatMap wr1
theorem sqB (c : Nat) : (wr1 c).length ≤ 3 := by unfold wr1; split <;> simp
theorem gq9 (l : List Nat) : (wr l).length ≤ 3 * l.length := by
  induction l with
  | nil => simp [wr]
  | cons c r ih =>
    have := sqB c
    unfold wr at ih ⊢
    rw [List.flatMap_cons, List.length_append, List.length_cons]
    omega
def sgO (a b : Nat) : Option Nat := match fig a, fig b with
  | some h, some l => if isSg (h * 16 + l) then some (h * 16 + l) else none
  | _, _ => none
def oV : Option Nat → V
  | some c => one c
  | none => .non
theorem sqT (a b : Nat) : signOf a b = oV (sgO a b) := by
  unfold signOf sgO
  cases fig a with
  | none => rfl
  | some h =>
    cases fig b with
    | none => rfl
    | some l =>
      simp only [sgV]
      split <;> rfl
theorem sqV {c : Nat} (hc : isSg c = true) : sgO (hexd (c / 16)) (hexd (c % 16)) = some c := by
  have l := cq2 hc
  have key : ∀ h, h < 16 → fig (hexd h) = some h := by decide +kernel
  unfold sgO
  rw [key _ (by omega), key _ (by omega)]
  have e : c / 16 * 16 + c % 16 = c := by omega
  simp only [e, hc, if_true]
def sgAt (c : Int) : Nat := SG.getD (c % 94).toNat 32
theorem wqK (c : Int) : atI SG (c % 94) = some (sgAt c) ∧ isSg (sgAt c) = true := by
  have h1 := Int.emod_nonneg c (show (94 : Int) ≠ 0 by decide)
  have h2 := Int.emod_lt_of_pos c (show (0 : Int) < 94 by decide)
  have h3 : (c % 94).toNat < SG.length := by rw [uqI]; omega
  have e : SG[(c % 94).toNat]? = some (sgAt c) := by
    unfold sgAt
    rw [List.getElem?_eq_getElem h3, List.getD_eq_getElem?_getD, List.getElem?_eq_getElem h3]
    rfl
  refine ⟨?_, uqW.mp (List.mem_of_getElem? e)⟩
  have := cqB e
  rw [Int.toNat_of_nonneg h1] at this
  exact this
theorem vqS {ns : List Int} {k : Nat} (h : k < ns.length) : atI (ns.map V.int) (k : Int) = some (.int (ns.getD k 0)) := by
  refine cqB ?_
  rw [List.getElem?_map, List.getElem?_eq_getElem h, List.getD_eq_getElem?_getD, List.getElem?_eq_getElem h]
  rfl
theorem aqn {n : Nat} (h : n ≤ 100000) : n ≤ sizeLine := Nat.le_trans h (by decide)
theorem wqp (f : Nat → Nat) (l : List Nat) : (l.toArray).map f = (l.map f).toArray := by simp
theorem rqN (l : List Nat) : (⟨l.toArray⟩ : Str).cps.toList = l := rfl
theorem tqm {H : Hp} {p : Addr} {o : HO} (hp : H p = none) : Same H (upd H p o) := fun b u e => by rw [aqI (aqz e hp)]; exact e
theorem wqm : SG.length ≤ sizeLine := aqn (by rw [uqI]; decide)
theorem qq4 (dn : List Nat) : ((dn.map fun c => (⟨[c].toArray⟩ : Str)).flatMap fun y => y.cps.toList) = dn := by
  induction dn with
  | nil => rfl
  | cons c r ih => rw [List.map_cons, List.flatMap_cons, ih]; rfl
theorem rqv (dn : List Nat) : ((dn.map fun c => (⟨[c].toArray⟩ : Str)).map (·.length)).sum = dn.length := by
  induction dn with
  | nil => rfl
  | cons c r ih => rw [List.map_cons, List.map_cons, List.sum_cons, ih, List.length_cons]; show 1 + _ = _; omega
theorem vq0 (xs : List V) (m k : Int) (h0 : 0 < k) (h : k ≤ xs.length) : ∃ a, a ∈ xs ∧ atI xs (m % k) = some a := by
  have h1 := Int.emod_nonneg m (show k ≠ 0 by omega)
  have h2 := Int.emod_lt_of_pos m h0
  have h3 : (m % k).toNat < xs.length := by omega
  refine ⟨xs[(m % k).toNat], List.getElem_mem _, ?_⟩
  have := cqB (xs := xs) (j := (m % k).toNat) (v := xs[(m % k).toNat]) (by simp [h3])
  rw [Int.toNat_of_nonneg h1] at this
  exact this
def hit (a b c : Nat) : Bool := decide ([hexd (c / 16), hexd (c % 16)] = [PyProof.Rows.lo1 a, PyProof.Rows.lo1 b])
end Wm
namespace Wm
open PySem L2
mutual
def smallD : PyData → Bool
  | .str x => decide (x.length ≤ 100000)
  | .list xs => decide (xs.length ≤ 100000) && smallAll xs
  | .tuple xs => decide (xs.length ≤ 100000) && smallAll xs
  | .dict _ => false
  | .none => true
  | .bool _ => true
  | .int _ => true
def smallAll : List PyData → Bool
  | [] => true
  | d :: ds => smallD d && smallAll ds
end
theorem oqm {x : Str} (h : smallD (.str x) = true) : x.length ≤ 100000 := by simpa [smallD] using h
def isLet (c : Nat) : Bool := decide (65 ≤ c ∧ c ≤ 90) || decide (97 ≤ c ∧ c ≤ 122)
def isAln (c : Nat) : Bool := isLet c || decide (48 ≤ c ∧ c ≤ 57)
theorem xqm : ∀ c, c < 128 → (decide (c ∈ (Str.ofString "abcdefghijklmnopqrstuvwxyzABCDEFGHIJKLMNOPQRSTUVWXYZ").cps.toList)) = isLet c := by decide +kernel
theorem wqW : ∀ c, c < 128 → (decide (c ∈ (Str.ofString "abcdefghijklmnopqrstuvwxyzABCDEFGHIJKLMNOPQRSTUVWXYZ0123456789").cps.toList)) = isAln c := by decide +kernel
theorem xqM : (Str.ofString " !\"#$&'()*+,-./0123456789:;<=>?@ABCDEFGHIJKLMNOPQRSTUVWXYZ[\\]^_`abcdefghijklmnopqrstuvwxyz{|}~").cps.toList = SG := by decide +kernel
theorem xqR (c : Nat) : (decide (c ∈ (Str.ofString " !\"#$&'()*+,-./0123456789:;<=>?@ABCDEFGHIJKLMNOPQRSTUVWXYZ[\\]^_`abcdefghijklmnopqrstuvwxyz{|}~").cps.toList)) = isSg c := by
  rw [xqM, Bool.eq_iff_iff, decide_eq_true_eq, uqW]
def tx : PyData → Bool
  | .str x => x.cps.toList.all isSg
  | _ => false
def schD : PyData → Bool
  | .str x => x.cps.toList.all isSg && decide (x.length ≤ 8) && (x.cps.toList.take 1).all isLet && x.cps.toList.all isAln
  | _ => false
abbrev st (l : List Nat) : PyData := .str ⟨l.toArray⟩
def oD : Option (List Nat) → PyData
  | none => .none
  | some l => st l
def otV : Option (List Nat) → V
  | none => .non
  | some l => .str ⟨l.toArray⟩
theorem oqv {H : Hp} (o : Option (List Nat)) : IsT H (oD o) (otV o) := by
  cases o with
  | none => exact .non
  | some x => exact .str _
def iD : Option Int → PyData
  | none => .none
  | some i => .int i
def qD : Option (List (List Nat × Option (List Nat))) → PyData
  | none => .none
  | some ps => .tuple (ps.map fun p => .tuple [st p.1, oD p.2])
structure Ad where
  scheme : List Nat
  house : Option (List Nat)
  door : Option Int
  rooted : Bool
  steps : List (List Nat)
  ends : Bool
  quest : Option (List (List Nat × Option (List Nat)))
  mark : Option (List Nat)
def Ad.way (x : Ad) : PyData := .tuple [.bool x.rooted, .tuple (x.steps.map st), .bool x.ends]
def Ad.data (x : Ad) : PyData := .tuple [st x.scheme, oD x.house, iD x.door, x.way, qD x.quest, oD x.mark]
def Tx (n : Nat) (l : List Nat) : Prop := l.length ≤ n ∧ ∀ c ∈ l, isSg c = true
structure Ad.Ok (x : Ad) : Prop where
  sch : x.scheme.length ≤ 8 ∧ (∀ c ∈ x.scheme, isAln c = true) ∧ ∀ c ∈ x.scheme.take 1, isLet c = true
  hou : ∀ l, x.house = some l → 0 < l.length ∧ Tx 60 l
  doo : ∀ i, x.door = some i → (0 ≤ i ∧ i ≤ 65535) ∧ x.house ≠ none
  stp : x.steps.length ≤ 50 ∧ ∀ l ∈ x.steps, 0 < l.length ∧ Tx 60 l
  roo : x.scheme ≠ [] ∨ x.house ≠ none → x.rooted = true
  end_ : x.steps = [] → x.ends = x.rooted
  que : ∀ ps, x.quest = some ps → ps.length ≤ 20 ∧ ∀ p ∈ ps, (0 < p.1.length ∧ Tx 6 p.1) ∧ ∀ v, p.2 = some v → Tx 6 v
  mar : ∀ l, x.mark = some l → Tx 60 l
theorem kq4 {c : Nat} (h : isAln c = true) : isSg c = true := by
  simp only [isAln, isLet, Bool.or_eq_true, decide_eq_true_eq] at h
  simp only [isSg, Bool.and_eq_true, decide_eq_true_eq, Bool.not_eq_true', decide_eq_false_iff_not]
  omega
theorem yqK {α : Type} (l : List α) {r : Int} (h0 : 0 ≤ r) (h1 : r < l.length) : ∃ c, c ∈ l ∧ atI l r = some c := by
  have h3 : r.toNat < l.length := by omega
  refine ⟨l[r.toNat], List.getElem_mem _, ?_⟩
  have := cqB (xs := l) (j := r.toNat) (v := l[r.toNat]) (by simp [h3])
  rw [Int.toNat_of_nonneg h0] at this
  exact this
def AL : List Nat := (Str.ofString "abcdefghijklmnopqrstuvwxyzABCDEFGHIJKLMNOPQRSTUVWXYZ0123456789").cps.toList
theorem yqk : (Str.ofString "abcdefghijklmnopqrstuvwxyzABCDEFGHIJKLMNOPQRSTUVWXYZ" ++ Str.ofString "0123456789" : Str) = ⟨AL.toArray⟩ := by decide +kernel
theorem uqS : AL.length = 62 := by decide +kernel
theorem wq2 : ∀ c ∈ AL, isAln c = true := by decide +kernel
theorem xqI : ∀ i, i < 52 → ∃ c, AL[i]? = some c ∧ isLet c = true := by
  have h : ∀ i, i < 52 → (AL[i]?).any isLet = true := by decide +kernel
  intro i hi
  have := h i hi
  cases e : AL[i]? with
  | none => rw [e] at this; cases this
  | some c => rw [e] at this; exact ⟨c, rfl, this⟩
theorem pqL {α : Type} (l : List α) (c : α) : (l ++ [c]).take 1 = if l.length = 0 then [c] else l.take 1 := by
  cases l with
  | nil => rfl
  | cons a r => rfl
def itV : Option Int → V
  | none => .non
  | some i => .int i
theorem vqM {H : Hp} (o : Option Int) : IsT H (iD o) (itV o) := by
  cases o with
  | none => exact .non
  | some x => exact .int _
theorem mqR : ∀ {ss : List (List Nat)}, (∀ l ∈ ss, ∀ c ∈ l, isSg c = true) → PyData.canLayAll0 (ss.map st) = true ∧ PyData.depthAll (ss.map st) = 0
  | [], _ => ⟨rfl, rfl⟩
  | l :: r, h => by
    obtain ⟨h1, h2⟩ := mqR (ss := r) fun l' hl' => h l' (List.mem_cons_of_mem _ hl')
    have hc : PyData.strOk ⟨l.toArray⟩ = true := by
      simp only [PyData.strOk, List.all_toArray, List.all_eq_true, decide_eq_true_eq]
      intro c hc
      have := cq2 (h l List.mem_cons_self c hc)
      omega
    refine ⟨?_, ?_⟩
    · simp only [List.map_cons, PyData.canLayAll0, PyData.canLay0, hc, h1]; rfl
    · simp only [List.map_cons, PyData.depthAll, PyData.depth, h2]; rfl
theorem fqq {ss : List (List Nat)} (h : ∀ l ∈ ss, ∀ c ∈ l, isSg c = true) : SeqAt.shaped (.tuple (ss.map st)) = true := by
  obtain ⟨h1, h2⟩ := mqR h
  unfold SeqAt.shaped
  simp only [PyData.canLay0, PyData.depth, h1, h2]
  decide
theorem mqZ (ds : List PyData) : PyData.eqv (.tuple ds) (.tuple []) = ds.isEmpty := by
  cases ds <;> simp [PyData.eqv, PyData.eqvAll]
theorem mqx {l : List Nat} : ((⟨l.toArray⟩ : Str) = ⟨#[]⟩) ↔ l = [] := eqf (m := [])
def Bad (f : PyData → Bool) (H : Hp) (v : V) : Prop := ∃ d, Is H d v ∧ smallD d = true ∧ f d = false
def Bads (f : PyData → Bool) (H : Hp) (vs : List V) : Prop := ∀ v ∈ vs, Bad f H v
theorem Bads.cons {f : PyData → Bool} {H : Hp} {v : V} {vs : List V} (h : Bad f H v) (r : Bads f H vs) : Bads f H (v :: vs) := fun w hw => by
  rcases List.mem_cons.mp hw with rfl | hw
  · exact h
  · exact r w hw
theorem gq4 {q : Addr} {H H' : Hp} {o : HO} (hq : H q = none) (sm : Same H H') : Same H (upd H' q o) := fun b u e => by
  rw [aqI (aqz e hq)]; exact sm _ _ e
end Wm
namespace Wm
open PySem L2
def dg (i : Int) : List Nat := (Str.ofString (toString i)).cps.toList
theorem sqG {i : Int} (hi : 0 ≤ i) : ∀ c ∈ dg i, 48 ≤ c ∧ c ≤ 57 := by
  intro c hc
  obtain ⟨n, rfl⟩ := Int.eq_ofNat_of_zero_le hi
  unfold dg at hc
  rw [PySem.W.KIN.signs_num, List.mem_map] at hc
  obtain ⟨d, hd, rfl⟩ := hc
  have := Nat.isDigit_of_mem_toDigits (by decide) (by decide) hd
  simp only [Char.isDigit, Bool.and_eq_true, decide_eq_true_eq] at this
  exact ⟨this.1, this.2⟩
theorem oql {i : Int} (hi : 0 ≤ i) (hi' : i ≤ 65535) : (dg i).length ≤ 5 := by
  have := PyProof.Rows.toString_length_le hi (k := 5) (by decide) (by omega)
  simpa [dg, Str.length] using this
def Hd (p : Nat → Bool) (r : List Nat) : Prop := ∀ c r', r = c :: r' → p c = true
theorem Hd.cons {p : Nat → Bool} {c : Nat} {r : List Nat} (h : p c = true) : Hd p (c :: r) := fun d r' e => by injection e with e; exact e ▸ h
def wch (c : Nat) : Bool := isPl c || decide (c = 126)
theorem sqt : ∀ n, n < 16 → isPl (hexd n) = true := by decide +kernel
theorem uqi {l : List Nat} (h : ∀ c ∈ l, isSg c = true) : ∀ c ∈ wr l, wch c = true := by
  intro c hc
  unfold wr at hc
  obtain ⟨d, hd, hc⟩ := List.mem_flatMap.mp hc
  have := cq2 (h d hd)
  unfold wr1 at hc
  split at hc
  · next hp => rw [List.mem_singleton] at hc; rw [hc, wch, hp]; rfl
  · simp only [List.mem_cons, List.not_mem_nil, or_false] at hc
    rcases hc with rfl | rfl | rfl
    · rfl
    · rw [wch, sqt _ (by omega)]; rfl
    · rw [wch, sqt _ (by omega)]; rfl
theorem lqK {c : Nat} (h : wch c = true) : c ≠ 35 ∧ c ≠ 38 ∧ c ≠ 47 ∧ c ≠ 58 ∧ c ≠ 61 ∧ c ≠ 63 := by
  simp only [wch, isPl, Bool.or_eq_true, decide_eq_true_eq] at h
  omega
theorem pqZ {c : Nat} (h : isAln c = true) : wch c = true := by
  simp only [isAln, isLet, Bool.or_eq_true, decide_eq_true_eq] at h
  simp only [wch, isPl, Bool.or_eq_true, decide_eq_true_eq]
  omega
def tlT (sep : Nat) : List (List Nat) → List Nat
  | [] => []
  | s :: r => sep :: (s ++ tlT sep r)
def joinT (sep : Nat) : List (List Nat) → List Nat
  | [] => []
  | s :: r => s ++ tlT sep r
theorem uqX {sep : Nat} {P : Nat → Prop} (hs : P sep) : ∀ {a : List (List Nat)}, (∀ s ∈ a, ∀ c ∈ s, P c) → ∀ c ∈ tlT sep a, P c
  | [], _, c, hc => by cases hc
  | s :: a, h, c, hc => by
    simp only [tlT, List.mem_cons, List.mem_append] at hc
    rcases hc with rfl | hc | hc
    · exact hs
    · exact h s (List.mem_cons_self ..) c hc
    · exact uqX hs (fun t ht => h t (List.mem_cons_of_mem _ ht)) c hc
theorem kqH {sep : Nat} {P : Nat → Prop} (hs : P sep) {a : List (List Nat)} (h : ∀ s ∈ a, ∀ c ∈ s, P c) : ∀ c ∈ joinT sep a, P c := by
  intro c hc
  match a with
  | [] => cases hc
  | s :: a =>
    simp only [joinT, List.mem_append] at hc
    rcases hc with hc | hc
    · exact h s (List.mem_cons_self ..) c hc
    · exact uqX hs (fun t ht => h t (List.mem_cons_of_mem _ ht)) c hc
def oT (sep : Nat) : Option (List Nat) → List Nat
  | none => []
  | some l => sep :: wr l
def pairT (p : List Nat × Option (List Nat)) : List Nat := wr p.1 ++ oT 61 p.2
def queT : Option (List (List Nat × Option (List Nat))) → List Nat
  | none => []
  | some ps => 63 :: joinT 38 (ps.map pairT)
def wayT (r : Bool) (ss : List (List Nat)) (e : Bool) : List Nat := (if r then [47] else []) ++ (joinT 47 (ss.map wr) ++ (if e && !ss.isEmpty then [47] else []))
def dooT : Option Int → List Nat
  | none => []
  | some i => 58 :: dg i
def houT : Option (List Nat) → List Nat
  | none => []
  | some l => 47 :: 47 :: wr l
def schT (s : List Nat) : List Nat := if s = [] then [] else s ++ [58]
def Ad.wayT (x : Ad) : List Nat := Wm.wayT x.rooted x.steps x.ends
def Ad.shw (x : Ad) : List Nat := schT x.scheme ++ (houT x.house ++ (dooT x.door ++ (x.wayT ++ (queT x.quest ++ oT 35 x.mark))))
theorem sqU {sep : Nat} {P : Nat → Prop} (hs : P sep) (hw : ∀ c, wch c = true → P c) {o : Option (List Nat)} (h : ∀ l, o = some l → ∀ c ∈ l, isSg c = true) : ∀ c ∈ oT sep o, P c := by
  intro c hc
  cases o with
  | none => cases hc
  | some l =>
    simp only [oT, List.mem_cons] at hc
    rcases hc with rfl | hc
    · exact hs
    · exact hw c (uqi (h l rfl) c hc)
def PairOk (p : List Nat × Option (List Nat)) : Prop := (0 < p.1.length ∧ ∀ c ∈ p.1, isSg c = true) ∧ ∀ v, p.2 = some v → ∀ c ∈ v, isSg c = true
theorem uqu {P : Nat → Prop} (hs : P 61) (hw : ∀ c, wch c = true → P c) {p : List Nat × Option (List Nat)} (h : PairOk p) : ∀ c ∈ pairT p, P c := by
  intro c hc
  rcases List.mem_append.mp hc with hc | hc
  · exact hw c (uqi h.1.2 c hc)
  · exact sqU hs hw h.2 c hc
def StepOk (s : List Nat) : Prop := 0 < s.length ∧ ∀ c ∈ s, isSg c = true
def stpT (ss : List (List Nat)) (e : Bool) : List Nat := joinT 47 (ss.map wr) ++ (if e && !ss.isEmpty then [47] else [])
theorem tqJ (e : Bool) : stpT [] e = [] := by simp [stpT, joinT]
theorem sqF (r : Bool) (ss : List (List Nat)) (e : Bool) : wayT r ss e = (if r then [47] else []) ++ stpT ss e := rfl
structure Ad.Wf (x : Ad) : Prop where
  sch : x.scheme.length ≤ 8 ∧ (∀ c ∈ x.scheme, isAln c = true) ∧ ∀ c ∈ x.scheme.take 1, isLet c = true
  hou : ∀ l, x.house = some l → (0 < l.length ∧ l.length ≤ 60) ∧ ∀ c ∈ l, isSg c = true
  doo : ∀ i, x.door = some i → (0 ≤ i ∧ i ≤ 65535) ∧ x.house ≠ none
  stp : ∀ s ∈ x.steps, StepOk s
  roo : x.scheme ≠ [] ∨ x.house ≠ none → x.rooted = true
  end_ : x.steps = [] → x.ends = x.rooted
  que : ∀ ps, x.quest = some ps → ∀ p ∈ ps, PairOk p
  mar : ∀ l, x.mark = some l → ∀ c ∈ l, isSg c = true
def Ad.mid (x : Ad) : List Nat := houT x.house ++ (dooT x.door ++ x.wayT)
def Ad.pre (x : Ad) : List Nat := schT x.scheme ++ x.mid
theorem Ad.shw_eq (x : Ad) : x.shw = (x.pre ++ queT x.quest) ++ oT 35 x.mark := by simp [Ad.shw, Ad.pre, Ad.mid]
theorem wqv {P : Nat → Prop} (hs : P 47) (hw : ∀ c, wch c = true → P c) {ss : List (List Nat)} {e : Bool} (h : ∀ s ∈ ss, StepOk s) : ∀ c ∈ stpT ss e, P c := by
  intro c hc
  rcases List.mem_append.mp hc with hc | hc
  · refine kqH hs (fun s hs' d hd => ?_) c hc
    obtain ⟨t, ht, rfl⟩ := List.mem_map.mp hs'
    exact hw d (uqi (h t ht).2 d hd)
  · split at hc
    · rw [List.mem_singleton.mp hc]; exact hs
    · cases hc
theorem sqK {P : Nat → Prop} (hs : P 47) (hw : ∀ c, wch c = true → P c) {r : Bool} {ss : List (List Nat)} {e : Bool} (h : ∀ s ∈ ss, StepOk s) : ∀ c ∈ wayT r ss e, P c := by
  intro c hc
  rw [sqF] at hc
  rcases List.mem_append.mp hc with hc | hc
  · split at hc
    · rw [List.mem_singleton.mp hc]; exact hs
    · cases hc
  · exact wqv hs hw h c hc
theorem vqj {c : Nat} (h : 48 ≤ c ∧ c ≤ 57) : wch c = true := by
  simp only [wch, isPl, Bool.or_eq_true, decide_eq_true_eq]; omega
theorem Ad.Wf.pre_all {P : Nat → Prop} {x : Ad} (h : x.Wf) (h1 : P 47) (h2 : P 58) (hw : ∀ c, wch c = true → P c) : ∀ c ∈ x.pre, P c := by
  intro c hc
  rcases List.mem_append.mp hc with hc | hc
  · unfold schT at hc
    split at hc
    · cases hc
    · rcases List.mem_append.mp hc with hc | hc
      · exact hw c (pqZ (h.sch.2.1 c hc))
      · rw [List.mem_singleton.mp hc]; exact h2
  rcases List.mem_append.mp hc with hc | hc
  · cases hh : x.house with
    | none => rw [hh] at hc; cases hc
    | some l =>
      rw [hh] at hc
      simp only [houT, List.mem_cons] at hc
      rcases hc with rfl | rfl | hc
      · exact h1
      · exact h1
      · exact hw c (uqi (h.hou l hh).2 c hc)
  rcases List.mem_append.mp hc with hc | hc
  · cases hd : x.door with
    | none => rw [hd] at hc; cases hc
    | some i =>
      rw [hd] at hc
      simp only [dooT, List.mem_cons] at hc
      rcases hc with rfl | hc
      · exact h2
      · exact hw c (vqj (sqG (h.doo i hd).1.1 c hc))
  · exact sqK h1 hw h.stp c hc
theorem Ad.Wf.nodoor {x : Ad} (h : x.Wf) (hh : x.house = none) : x.door = none := by
  cases hd : x.door with
  | none => rfl
  | some i => exact absurd hh (h.doo i hd).2
theorem pqc (l m : List Nat) : PyData.eqv (st l) (st m) = true ↔ l = m := by
  simp only [PyData.eqv, beq_iff_eq]; exact eqf
theorem rqQ (a b : Option (List Nat)) : PyData.eqv (oD a) (oD b) = true ↔ a = b := by
  match a, b with
  | none, none => simp [oD, PyData.eqv]
  | none, some m => simp [oD, PyData.eqv]
  | some l, none => simp [oD, PyData.eqv]
  | some l, some m => exact (pqc l m).trans (by simp)
theorem xqg (a b : Option Int) : PyData.eqv (iD a) (iD b) = true ↔ a = b := by
  match a, b with
  | none, none => simp [iD, PyData.eqv]
  | none, some m => simp [iD, PyData.eqv]
  | some l, none => simp [iD, PyData.eqv]
  | some l, some m => simp [iD, PyData.eqv]
theorem eqI {α : Type} {f : α → PyData} (hf : ∀ a b, PyData.eqv (f a) (f b) = true ↔ a = b) : ∀ (l m : List α), PyData.eqvAll (l.map f) (m.map f) = true ↔ l = m
  | [], [] => by simp [PyData.eqvAll]
  | [], b :: m => by simp [PyData.eqvAll]
  | a :: l, [] => by simp [PyData.eqvAll]
  | a :: l, b :: m => by
    simp only [List.map_cons, PyData.eqvAll, Bool.and_eq_true, List.cons.injEq]
    rw [hf a b, eqI hf l m]
theorem xqd (a b : Option (List (List Nat × Option (List Nat)))) : PyData.eqv (qD a) (qD b) = true ↔ a = b := by
  match a, b with
  | none, none => simp [qD, PyData.eqv]
  | none, some m => simp [qD, PyData.eqv]
  | some l, none => simp [qD, PyData.eqv]
  | some l, some m =>
    simp only [qD, PyData.eqv, Option.some.injEq]
    refine eqI (fun a b => ?_) l m
    simp only [PyData.eqv, PyData.eqvAll, Bool.and_eq_true, Bool.and_true]
    rw [rqQ, beq_iff_eq]
    exact ⟨fun h => Prod.ext (eqf.mp h.1) h.2, fun h => by rw [h]; exact ⟨rfl, rfl⟩⟩
theorem wqJ (x y : Ad) : PyData.eqv x.way y.way = true ↔ x.rooted = y.rooted ∧ x.steps = y.steps ∧ x.ends = y.ends := by
  simp only [Ad.way, PyData.eqv, PyData.eqvAll, Bool.and_eq_true, Bool.and_true, beq_iff_eq]
  rw [eqI pqc]
theorem Ad.eqv_iff (x y : Ad) : PyData.eqv x.data y.data = true ↔ x = y := by
  simp only [Ad.data, PyData.eqv, PyData.eqvAll, Bool.and_eq_true, Bool.and_true, beq_iff_eq]
  rw [rqQ, xqg, wqJ, xqd, rqQ]
  cases x; cases y
  simp only [Ad.mk.injEq]
  constructor
  · rintro ⟨h1, h2, h3, ⟨h4, h5, h6⟩, h7, h8⟩
    exact ⟨eqf.mp h1, h2, h3, h4, h5, h6, h7, h8⟩
  · rintro ⟨h1, h2, h3, h4, h5, h6, h7, h8⟩
    exact ⟨by rw [h1], h2, h3, ⟨h4, h5, h6⟩, h7, h8⟩
def LayAt (n : Nat) (d : PyData) : Prop := d.canLay0 = true ∧ d.depth ≤ n
theorem LayAt.shaped {n : Nat} {d : PyData} (h : LayAt n d) (hn : n ≤ 64) : SeqAt.shaped d = true := by
  unfold SeqAt.shaped; rw [h.1, decide_eq_true (Nat.le_trans h.2 hn)]; rfl
theorem LayAt.le {n m : Nat} {d : PyData} (h : LayAt n d) (hn : n ≤ m) : LayAt m d := ⟨h.1, Nat.le_trans h.2 hn⟩
theorem layAll {n : Nat} : ∀ {ds : List PyData}, (∀ d ∈ ds, LayAt n d) → PyData.canLayAll0 ds = true ∧ PyData.depthAll ds ≤ n
  | [], _ => ⟨rfl, Nat.zero_le _⟩
  | d :: ds, h => by
    obtain ⟨h1, h2⟩ := layAll (ds := ds) fun e he => h e (List.mem_cons_of_mem _ he)
    have := h d (List.mem_cons_self ..)
    simp only [PyData.canLayAll0, PyData.depthAll, this.1, h1, Bool.and_self, true_and]
    exact Nat.max_le.mpr ⟨this.2, h2⟩
theorem LayAt.tup {n : Nat} {ds : List PyData} (h : ∀ d ∈ ds, LayAt n d) : LayAt (n + 1) (.tuple ds) := by
  obtain ⟨h1, h2⟩ := layAll h
  exact ⟨by simp only [PyData.canLay0, h1], by simp only [PyData.depth]; omega⟩
theorem LayAt.st {l : List Nat} (h : ∀ c ∈ l, isSg c = true) : LayAt 0 (st l) := by
  refine ⟨?_, Nat.le_refl _⟩
  simp only [PyData.canLay0, PyData.strOk, List.all_toArray, List.all_eq_true, decide_eq_true_eq]
  intro c hc
  have := cq2 (h c hc)
  omega
theorem LayAt.bool {b : Bool} : LayAt 0 (.bool b) := ⟨rfl, Nat.le_refl _⟩
theorem LayAt.oD {o : Option (List Nat)} (h : ∀ l, o = some l → ∀ c ∈ l, isSg c = true) : LayAt 0 (oD o) := by
  cases o with
  | none => exact ⟨rfl, Nat.le_refl _⟩
  | some l => exact .st (h l rfl)
theorem LayAt.iD {o : Option Int} : LayAt 0 (iD o) := by
  cases o with
  | none => exact ⟨rfl, Nat.le_refl _⟩
  | some l => exact ⟨rfl, Nat.le_refl _⟩
theorem LayAt.qD {q : Option (List (List Nat × Option (List Nat)))} (h : ∀ ps, q = some ps → ∀ p ∈ ps, PairOk p) : LayAt 2 (qD q) := by
  cases q with
  | none => exact ⟨rfl, Nat.zero_le _⟩
  | some ps =>
    refine .tup (n := 1) fun d hd => ?_
    obtain ⟨p, hp, rfl⟩ := List.mem_map.mp hd
    have hk := h ps rfl p hp
    refine .tup (n := 0) fun e he => ?_
    simp only [List.mem_cons, List.not_mem_nil, or_false] at he
    rcases he with rfl | rfl
    · exact .st hk.1.2
    · exact .oD hk.2
theorem Ad.Wf.layWay {x : Ad} (h : x.Wf) : LayAt 2 x.way := by
  refine .tup (n := 1) fun e he => ?_
  simp only [List.mem_cons, List.not_mem_nil, or_false] at he
  rcases he with rfl | rfl | rfl
  · exact LayAt.bool.le (by decide)
  · refine .tup (n := 0) fun d hd => ?_
    obtain ⟨s, hs, rfl⟩ := List.mem_map.mp hd
    exact .st (h.stp s hs).2
  · exact LayAt.bool.le (by decide)
theorem Ad.Wf.lay {x : Ad} (h : x.Wf) : LayAt 3 x.data := by
  refine .tup (n := 2) fun e he => ?_
  simp only [List.mem_cons, List.not_mem_nil, or_false] at he
  rcases he with rfl | rfl | rfl | rfl | rfl | rfl
  · exact (LayAt.st fun c hc => kq4 (h.sch.2.1 c hc)).le (by decide)
  · exact (LayAt.oD fun l e => (h.hou l e).2).le (by decide)
  · exact LayAt.iD.le (by decide)
  · exact h.layWay
  · exact .qD h.que
  · exact (LayAt.oD h.mar).le (by decide)
theorem Ad.Wf.shaped {x : Ad} (h : x.Wf) : SeqAt.shaped x.data = true := h.lay.shaped (by decide)
end Wm
namespace Wm
open PySem L2
theorem qqq {H : Hp} {l : List Nat} {v : V} (h : IsT H (st l) v) : v = .str ⟨l.toArray⟩ := by cases h; rfl
theorem sq0 {H : Hp} {o : Option (List Nat)} {v : V} (h : IsT H (oD o) v) : v = otV o := by
  cases o with
  | none => cases h; rfl
  | some l => exact qqq h
theorem xqG {H : Hp} {o : Option Int} {v : V} (h : IsT H (iD o) v) : v = itV o := by
  cases o with
  | none => cases h; rfl
  | some l => cases h; rfl
theorem kqE {H : Hp} {b : Bool} {v : V} (h : IsT H (.bool b) v) : v = .bl b := by cases h; rfl
theorem iqs {H : Hp} {ds : List PyData} {v : V} (h : IsT H (.tuple ds) v) : ∃ p xs, v = .ref p ∧ H p = some (.tup xs) ∧ IsTAll H ds xs := by
  cases h with
  | tup h1 h2 => exact ⟨_, _, rfl, h1, h2⟩
theorem isT2 {H : Hp} {a b : PyData} {v : V} (h : IsT H (.tuple [a, b]) v) : ∃ p x y, v = .ref p ∧ H p = some (.tup [x, y]) ∧ IsT H a x ∧ IsT H b y := by
  obtain ⟨p, xs, rfl, hp, r⟩ := iqs h
  cases r with
  | cons h1 r => cases r with
    | cons h2 r => cases r; exact ⟨p, _, _, rfl, hp, h1, h2⟩
theorem isT3 {H : Hp} {a b c : PyData} {v : V} (h : IsT H (.tuple [a, b, c]) v) : ∃ p x y z, v = .ref p ∧ H p = some (.tup [x, y, z]) ∧ IsT H a x ∧ IsT H b y ∧ IsT H c z := by
  obtain ⟨p, xs, rfl, hp, r⟩ := iqs h
  cases r with
  | cons h1 r => cases r with
    | cons h2 r => cases r with
      | cons h3 r => cases r; exact ⟨p, _, _, _, rfl, hp, h1, h2, h3⟩
theorem isT6 {H : Hp} {a b c d e f : PyData} {v : V} (h : IsT H (.tuple [a, b, c, d, e, f]) v) : ∃ p x0 x1 x2 x3 x4 x5, v = .ref p ∧ H p = some (.tup [x0, x1, x2, x3, x4, x5]) ∧ IsT H a x0 ∧ IsT H b x1 ∧ IsT H c x2 ∧ IsT H d x3 ∧ IsT H e x4 ∧ IsT H f x5 := by
  obtain ⟨p, xs, rfl, hp, r⟩ := iqs h
  cases r with
  | cons h1 r => cases r with
    | cons h2 r => cases r with
      | cons h3 r => cases r with
        | cons h4 r => cases r with
          | cons h5 r => cases r with
            | cons h6 r => cases r; exact ⟨p, _, _, _, _, _, _, rfl, hp, h1, h2, h3, h4, h5, h6⟩
theorem kqX {H : Hp} : ∀ {ss : List (List Nat)} {xs : List V}, IsTAll H (ss.map st) xs → xs = ss.map fun l => V.str ⟨l.toArray⟩
  | [], _, h => by cases h; rfl
  | s :: ss, _, h => by
    cases h with
    | cons h1 h2 => rw [qqq h1, kqX h2]; rfl
end Wm
namespace Wm
structure Ad.Sz (x : Ad) : Prop where
  stp : ∀ s ∈ x.steps, s.length ≤ 2000
  que : ∀ ps, x.quest = some ps → ps.length ≤ 2000 ∧ ∀ p ∈ ps, p.1.length ≤ 2000 ∧ ∀ v, p.2 = some v → v.length ≤ 2000
  mar : ∀ l, x.mark = some l → l.length ≤ 2000
  num : x.steps.length ≤ 2000
  all : x.shw.length ≤ 90000
end Wm
namespace Wm
theorem lg {i : Int} (h : 0 ≤ i) (h' : i ≤ 65535) : i.natAbs.log2 < 1920 := by
  by_cases h0 : i.natAbs = 0
  · rw [h0]; simp
  · refine (Nat.log2_lt h0).mpr (Nat.lt_of_lt_of_le (show i.natAbs < 2 ^ 16 by omega) (Nat.pow_le_pow_right (by decide) (by decide)))
theorem pq8 (i : Int) : PySem.Str.ofString (toString i) = ⟨(dg i).toArray⟩ := rfl
end Wm
namespace Wm
end Wm
namespace Wm
open PySem L2
end Wm
namespace Wm
open PySem L2
theorem kqz (sep : Nat) (ys : List (List Nat)) : Txt.join (⟨[sep].toArray⟩ : Str) (ys.map fun l => (⟨l.toArray⟩ : Str)) = ⟨(joinT sep ys).toArray⟩ := by
  show Builtin.Str.glued _ _ = _
  rw [StrLaws.glued_eq_join]
  induction ys with
  | nil => rfl
  | cons y r ih =>
    cases r with
    | nil =>
      show (⟨y.toArray⟩ : Str) = _
      simp [joinT, tlT]
    | cons z r =>
      show (⟨y.toArray⟩ : Str) ++ (⟨[sep].toArray⟩ : Str) ++ Str.join ⟨[sep].toArray⟩ ((z :: r).map fun l => (⟨l.toArray⟩ : Str)) = _
      rw [ih, oqz, oqz]
      simp [joinT, tlT]
theorem uqU {sep : Nat} : ∀ (ys : List (List Nat)), (tlT sep ys).length = (ys.map (·.length)).sum + ys.length
  | [] => rfl
  | y :: r => by simp only [tlT, List.length_cons, List.length_append, List.map_cons, List.sum_cons, uqU r]; omega
theorem kqw {sep : Nat} (ys : List (List Nat)) : (ys.map (·.length)).sum + ys.length ≤ (joinT sep ys).length + 1 := by
  cases ys with
  | nil => simp [joinT]
  | cons y r => simp only [joinT, List.length_append, List.map_cons, List.sum_cons, List.length_cons, uqU]; omega
end Wm
namespace Wm
open PySem L2
theorem qqI {sep m : Nat} : ∀ {ys : List (List Nat)}, (∀ s ∈ ys, s.length ≤ m) → (tlT sep ys).length ≤ ys.length * (m + 1)
  | [], _ => by simp [tlT]
  | y :: r, h => by
    have h1 := h y (List.mem_cons_self ..)
    have h2 := qqI (sep := sep) (ys := r) fun s hs => h s (List.mem_cons_of_mem _ hs)
    simp only [tlT, List.length_cons, List.length_append, Nat.add_mul, Nat.one_mul]
    omega
theorem eqH {sep m : Nat} {ys : List (List Nat)} (h : ∀ s ∈ ys, s.length ≤ m) : (joinT sep ys).length ≤ ys.length * (m + 1) := by
  cases ys with
  | nil => simp [joinT]
  | cons y r =>
    have h1 := h y (List.mem_cons_self ..)
    have h2 := qqI (sep := sep) (ys := r) fun s hs => h s (List.mem_cons_of_mem _ hs)
    simp only [joinT, List.length_cons, List.length_append, Nat.add_mul, Nat.one_mul]
    omega
theorem pq4 {sep n : Nat} {o : Option (List Nat)} (h : ∀ l, o = some l → l.length ≤ n) : (oT sep o).length ≤ 3 * n + 1 := by
  cases o with
  | none => simp [oT]
  | some l => have := h l rfl; have := gq9 l; simp only [oT, List.length_cons]; omega
end Wm
namespace Wm
open PySem L2
theorem mq2 (ts : List (List Nat)) : (ts.map fun l => (⟨l.toArray⟩ : Str)).map (·.length) = ts.map List.length := by
  rw [List.map_map]
  apply List.map_congr_left
  intro l _
  exact dqy l
theorem yqx {a : V} {r : List V} : atI (a :: r) 0 = some a := by
  unfold atI ixN
  simp
def slT (r : Bool) (ts : List (List Nat)) (e : Bool) : List Nat := (if r then [47] else []) ++ (joinT 47 ts ++ (if e && !ts.isEmpty then [47] else []))
theorem wqE (r : Bool) (ss : List (List Nat)) (e : Bool) : wayT r ss e = slT r (ss.map wr) e := by
  unfold wayT slT
  simp
end Wm
namespace L2
open PySem
theorem IsTAll.get {H : Hp} : ∀ {ds : List PyData} {xs : List V} {i : Nat} {d : PyData} {x : V}, IsTAll H ds xs → ds[i]? = some d → xs[i]? = some x → IsT H d x
  | _, _, 0, _, _, .cons h _, h1, h2 => by
    simp only [List.getElem?_cons_zero, Option.some.injEq] at h1 h2
    subst h1 h2; exact h
  | _, _, i + 1, _, _, .cons _ r, h1, h2 => by
    simp only [List.getElem?_cons_succ] at h1 h2
    exact r.get h1 h2
end L2
namespace Wm
open PySem L2
abbrev Stp := List Nat
def sUp : Stp := [46, 46]
def sStay : Stp := [46]
def isDot (s : Stp) : Bool := decide (s = sUp) || decide (s = sStay)
theorem eqJ : sUp ≠ sStay := by decide
theorem iqu {s : Stp} : isDot s = false ↔ s ≠ sUp ∧ s ≠ sStay := by simp [isDot]
def fwd (r : Bool) (q : Nat × List Stp) (s : Stp) : Nat × List Stp :=
  if s = sUp then (match q.2 with | [] => (if r then q.1 else q.1 + 1, []) | _ :: t => (q.1, t))
  else if s = sStay then q else (q.1, s :: q.2)
def goneS (r : Bool) (ss : List Stp) : List Stp := List.replicate (ss.foldl (fwd r) (0, [])).1 sUp ++ (ss.foldl (fwd r) (0, [])).2.reverse
def bwd1 (s : Stp) (q : Nat × List Stp) : Nat × List Stp :=
  if s = sUp then (q.1 + 1, q.2) else if s ≠ sStay ∧ 0 < q.1 then (q.1 - 1, q.2) else if s ≠ sStay then (q.1, s :: q.2) else q
def bwd (ss : List Stp) : Nat × List Stp := ss.foldr bwd1 (0, [])
theorem iqC (s : Stp) (ss : List Stp) : bwd (s :: ss) = bwd1 s (bwd ss) := rfl
theorem jqB (r : Bool) : ∀ (ss : List Stp) (u : Nat) (ns : List Stp),
    ss.foldl (fwd r) (u, ns) = (if r then u else u + ((bwd ss).1 - ns.length), (bwd ss).2.reverse ++ ns.drop (bwd ss).1)
  | [], u, ns => by simp [bwd]
  | s :: ss, u, ns => by
    rw [List.foldl_cons, iqC]
    by_cases h1 : s = sUp
    · cases ns with
      | nil =>
        rw [show fwd r (u, []) s = (if r then u else u + 1, []) by simp [fwd, h1], jqB r ss]
        cases r <;> simp [bwd1, h1]
        omega
      | cons a t =>
        rw [show fwd r (u, a :: t) s = (u, t) by simp [fwd, h1], jqB r ss]
        simp [bwd1, h1]
    · by_cases h2 : s = sStay
      · rw [show fwd r (u, ns) s = (u, ns) by simp [fwd, h1, h2, eqJ.symm], jqB r ss]
        simp [bwd1, h2, eqJ.symm]
      · rw [show fwd r (u, ns) s = (u, s :: ns) by simp [fwd, h1, h2], jqB r ss]
        by_cases h3 : 0 < (bwd ss).1
        · obtain ⟨k, hk⟩ : ∃ k, (bwd ss).1 = k + 1 := ⟨(bwd ss).1 - 1, by omega⟩
          simp [bwd1, h1, h2, hk]
        · have h0 : (bwd ss).1 = 0 := by omega
          simp [bwd1, h1, h2, h0]
theorem hqU (r : Bool) (ss : List Stp) : goneS r ss = (if r then [] else List.replicate (bwd ss).1 sUp) ++ (bwd ss).2 := by
  unfold goneS
  rw [jqB]
  cases r <;> simp
theorem pqH {ss : List Stp} : ∀ s ∈ (bwd ss).2, s ∈ ss ∧ isDot s = false := by
  induction ss with
  | nil => simp [bwd]
  | cons t ss ih =>
    intro s hs
    rw [iqC] at hs
    unfold bwd1 at hs
    split at hs
    · exact ⟨List.mem_cons_of_mem _ (ih s hs).1, (ih s hs).2⟩
    · next h1 =>
      split at hs
      · exact ⟨List.mem_cons_of_mem _ (ih s hs).1, (ih s hs).2⟩
      · split at hs
        · next h2 =>
          rcases List.mem_cons.mp hs with rfl | hs
          · exact ⟨List.mem_cons_self .., iqu.mpr ⟨h1, h2⟩⟩
          · exact ⟨List.mem_cons_of_mem _ (ih s hs).1, (ih s hs).2⟩
        · exact ⟨List.mem_cons_of_mem _ (ih s hs).1, (ih s hs).2⟩
theorem pqQ (ss : List Stp) : (bwd ss).1 + (bwd ss).2.length ≤ ss.length := by
  induction ss with
  | nil => simp [bwd]
  | cons t ss ih =>
    rw [iqC]
    unfold bwd1
    split
    · simp; omega
    · split
      · simp; omega
      · split <;> simp <;> omega
theorem gone_len (r : Bool) (ss : List Stp) : (goneS r ss).length ≤ ss.length := by
  rw [hqU]
  have := pqQ ss
  cases r <;> simp <;> omega
theorem kqy {r : Bool} {ss : List Stp} : ∀ s ∈ goneS r ss, s ∈ ss ∧ isDot s = false ∨ r = false ∧ s = sUp := by
  intro s hs
  rw [hqU] at hs
  rcases List.mem_append.mp hs with hs | hs
  · cases r with
    | true => cases hs
    | false => exact .inr ⟨rfl, (List.mem_replicate.mp (by simpa using hs)).2⟩
  · exact .inl (pqH s hs)
theorem rql {ss : List Stp} : ∀ s ∈ goneS true ss, isDot s = false := fun s hs => by
  rcases kqy s hs with h | h
  · exact h.2
  · cases h.1
theorem fqW (r : Bool) : ∀ (ns : List Stp) (u : Nat) (t : List Stp), (∀ s ∈ ns, isDot s = false) → ns.foldl (fwd r) (u, t) = (u, ns.reverse ++ t)
  | [], u, t, _ => by simp
  | s :: ns, u, t, h => by
    have := iqu.mp (h s (List.mem_cons_self ..))
    rw [List.foldl_cons, show fwd r (u, t) s = (u, s :: t) by simp [fwd, this.1, this.2], fqW r ns u _ fun x hx => h x (List.mem_cons_of_mem _ hx)]
    simp
theorem qqK : ∀ (n u : Nat), (List.replicate n sUp).foldl (fwd false) (u, []) = (u + n, [])
  | 0, u => by simp
  | n + 1, u => by
    rw [List.replicate_succ, List.foldl_cons, show fwd false (u, []) sUp = (u + 1, []) by simp [fwd], qqK n (u + 1)]
    congr 1; omega
theorem gone_again (r : Bool) (ss : List Stp) : goneS r (goneS r ss) = goneS r ss := by
  rw [hqU r ss]
  have hn : ∀ s ∈ (bwd ss).2, isDot s = false := fun s hs => (pqH s hs).2
  cases r with
  | true =>
    simp only [if_true, List.nil_append]
    unfold goneS
    rw [fqW true _ _ _ hn]; simp
  | false =>
    simp only [Bool.false_eq_true, if_false]
    unfold goneS
    rw [List.foldl_append, qqK, fqW false _ _ _ hn]; simp
def lastDot (ss : List Stp) : Bool := match ss.getLast? with | some s => isDot s | none => false
def goneW (r : Bool) (ss : List Stp) (e : Bool) : Bool × List Stp × Bool :=
  if ss = [] then (r, [], e) else if goneS r ss = [] then (r, if r then [] else [sStay], true) else (r, goneS r ss, e || lastDot ss)
theorem tq7 (r : Bool) : goneS r [] = [] := by simp [goneS]
theorem sqR (r : Bool) (ss : List Stp) (e : Bool) : (goneW r ss e).1 = r := by
  unfold goneW; split; rfl; split <;> rfl
theorem lqd {a b : List Stp} (h : b ≠ []) : lastDot (a ++ b) = lastDot b := by
  unfold lastDot; rw [List.getLast?_append]
  cases hb : b.getLast? with
  | none => exact absurd (List.getLast?_eq_none_iff.mp hb) h
  | some s => rfl
theorem lqh {ss : List Stp} (h : ∀ s ∈ ss, isDot s = false) : lastDot ss = false := by
  unfold lastDot
  cases hl : ss.getLast? with
  | none => rfl
  | some s => exact h s (List.mem_of_getLast? hl)
theorem nqP {r : Bool} {ss : List Stp} (h : lastDot (goneS r ss) = true) : lastDot ss = true := by
  rw [hqU] at h
  have hn : ∀ s ∈ (bwd ss).2, isDot s = false := fun s hs => (pqH s hs).2
  by_cases h2 : (bwd ss).2 = []
  · rw [h2] at h
    cases r with
    | true => simp [lastDot] at h
    | false =>
      have hu : 0 < (bwd ss).1 := by
        by_cases h0 : (bwd ss).1 = 0
        · simp [h0, lastDot] at h
        · omega
      cases hl : ss.getLast? with
      | none => rw [List.getLast?_eq_none_iff.mp hl] at hu; simp [bwd] at hu
      | some s =>
        unfold lastDot; rw [hl]
        show isDot s = true
        cases hd : isDot s with
        | true => rfl
        | false =>
          exfalso
          obtain ⟨pre, hp⟩ : ∃ pre, ss = pre ++ [s] := List.getLast?_eq_some_iff.mp hl
          have key : ∀ (pre : List Stp), s ∈ (bwd (pre ++ [s])).2 := by
            intro pre
            have hs := iqu.mp hd
            induction pre with
            | nil => simp [bwd, bwd1, hs.1, hs.2]
            | cons t pre ih =>
              rw [List.cons_append, iqC]
              unfold bwd1
              split
              · exact ih
              · split
                · exact ih
                · split
                  · exact List.mem_cons_of_mem _ ih
                  · exact ih
          have := key pre
          rw [← hp, h2] at this; cases this
  · rw [lqd h2, lqh hn] at h; cases h
theorem pqI (r : Bool) (ss : List Stp) (e : Bool) : goneW (goneW r ss e).1 (goneW r ss e).2.1 (goneW r ss e).2.2 = goneW r ss e := by
  by_cases h1 : ss = []
  · simp [goneW, h1]
  · by_cases h2 : goneS r ss = []
    · cases r with
      | true => simp [goneW, h1, h2]
      | false =>
        have : goneS false [sStay] = [] := by decide
        simp [goneW, h1, h2, this]
    · have h3 : goneW r ss e = (r, goneS r ss, e || lastDot ss) := by simp [goneW, h1, h2]
      rw [h3]
      show goneW r (goneS r ss) (e || lastDot ss) = _
      have : goneW r (goneS r ss) (e || lastDot ss) = (r, goneS r (goneS r ss), (e || lastDot ss) || lastDot (goneS r ss)) := by
        unfold goneW; rw [if_neg h2, gone_again, if_neg h2]
      rw [this, gone_again]
      cases hl : lastDot (goneS r ss) with
      | false => simp
      | true => rw [nqP hl]; simp
end Wm
namespace Wm
open PySem L2
def stk (q : Nat × List Stp) : List Stp := List.replicate q.1 sUp ++ q.2.reverse
def goUp (r : Bool) (L : List Stp) : List Stp :=
  match L.getLast? with
  | some s => if s = sUp then (if r then L else L ++ [sUp]) else L.dropLast
  | none => if r then L else L ++ [sUp]
def StkOk (r : Bool) (q : Nat × List Stp) : Prop := (r = true → q.1 = 0) ∧ ∀ s ∈ q.2, s ≠ sUp
theorem tqE {r : Bool} {q : Nat × List Stp} (h : StkOk r q) : goUp r (stk q) = stk (fwd r q sUp) := by
  obtain ⟨u, t⟩ := q
  obtain ⟨h1, h2⟩ := h
  dsimp only at h1 h2
  unfold fwd stk
  rw [if_pos rfl]
  cases t with
  | cons a t =>
    have ha := h2 a (List.mem_cons_self ..)
    simp only [List.reverse_cons]
    rw [← List.append_assoc]
    unfold goUp
    rw [List.getLast?_concat]
    simp only [if_neg ha, List.dropLast_concat]
  | nil =>
    cases r with
    | true =>
      have e := h1 rfl
      subst e
      simp [goUp]
    | false =>
      simp only [List.reverse_nil, List.append_nil, Bool.false_eq_true, if_false]
      cases u with
      | zero => simp [goUp]
      | succ u =>
        have e : List.replicate (u + 1) sUp = List.replicate u sUp ++ [sUp] := List.replicate_succ'
        have e2 : List.replicate (u + 1 + 1) sUp = List.replicate (u + 1) sUp ++ [sUp] := List.replicate_succ'
        rw [e2]
        unfold goUp
        rw [e, List.getLast?_concat]
        simp
theorem StkOk.fwd {r : Bool} {q : Nat × List Stp} (h : StkOk r q) (s : Stp) : StkOk r (fwd r q s) := by
  obtain ⟨u, t⟩ := q
  obtain ⟨h1, h2⟩ := h
  dsimp only at h1 h2
  unfold Wm.fwd
  by_cases e : s = sUp
  · rw [if_pos e]
    cases t with
    | nil => exact ⟨fun z => by simp [z, h1 z], fun s hs => absurd hs (by simp)⟩
    | cons a t => exact ⟨h1, fun s hs => h2 s (List.mem_cons_of_mem _ hs)⟩
  · rw [if_neg e]
    by_cases e2 : s = sStay
    · rw [if_pos e2]; exact ⟨h1, h2⟩
    · rw [if_neg e2]
      refine ⟨h1, fun x hx => ?_⟩
      rcases List.mem_cons.mp hx with rfl | hx
      · exact e
      · exact h2 x hx
theorem pqv (r : Bool) (q : Nat × List Stp) (s : Stp) : (stk (fwd r q s)).length ≤ (stk q).length + 1 := by
  obtain ⟨u, t⟩ := q
  unfold fwd stk
  by_cases e : s = sUp
  · rw [if_pos e]
    cases t with
    | nil => cases r <;> simp
    | cons a t => simp; omega
  · rw [if_neg e]
    by_cases e2 : s = sStay
    · rw [if_pos e2]; simp
    · rw [if_neg e2]; simp; omega
theorem wqo {r : Bool} {q : Nat × List Stp} {s : Stp} (h1 : s ≠ sUp) (h2 : s ≠ sStay) : stk (fwd r q s) = stk q ++ [s] := by
  unfold fwd stk
  rw [if_neg h1, if_neg h2]; simp
theorem tqp {r : Bool} {q : Nat × List Stp} : fwd r q sStay = q := by
  unfold fwd
  rw [if_neg eqJ.symm, if_pos rfl]
def sofar (r : Bool) (ss : List Stp) (i : Nat) : Nat × List Stp := (ss.take i).foldl (fwd r) (0, [])
theorem qqw (r : Bool) (ss : List Stp) : ∀ i, StkOk r (sofar r ss i) ∧ (stk (sofar r ss i)).length ≤ i
  | 0 => by simp [sofar, StkOk, stk]
  | i + 1 => by
    obtain ⟨h1, h2⟩ := qqw r ss i
    unfold sofar at *
    rw [List.take_add_one]
    cases e : ss[i]? with
    | none => simpa using ⟨h1, by omega⟩
    | some s =>
      rw [List.foldl_append]
      simp only [Option.toList_some, List.foldl_cons, List.foldl_nil]
      have := pqv r (List.foldl (fwd r) (0, []) (List.take i ss)) s
      exact ⟨h1.fwd s, by omega⟩
theorem rqb {r : Bool} {ss : List Stp} {i : Nat} {s : Stp} (h : ss[i]? = some s) : sofar r ss (i + 1) = fwd r (sofar r ss i) s := by
  unfold sofar
  rw [List.take_add_one, h, List.foldl_append]; rfl
theorem rqz (r : Bool) (ss : List Stp) : stk (sofar r ss ss.length) = goneS r ss := by
  unfold sofar; rw [List.take_length]; rfl
end Wm
namespace L2
open PySem PySem.Spec PyProof.Rows HT
section
variable {prog : Program} {w : World} {A : Around} {E : Value → Shared → Prop} {s : Shared}
theorem fqk {t sl : Addr} {items : Array Value} {vl vu : Value} {lo hi : Option Int} {Q : Value → Shared → Prop} (ht : IsTup s.heap t items) (hs : s.heap.IsSliceOf sl vl vu .none) (pl : IsPart vl lo) (pu : IsPart vu hi)
    (hw : sIx items.size 0 lo = 0 ∧ sIx items.size items.size hi = items.size) (h : Q (.ref t) s) : wpAny (model prog w) A (getItem (.ref t) (.ref sl)) Q E s := by
  obtain ⟨os, hos, hcs, hds⟩ := id hs
  have hTs : s.TypeIs (.ref sl) "slice" := ⟨os, hos, hcs⟩
  unfold getItem
  try with_reducible refine wpAny_holding ?_
  first | refine wpAny_bind (wpAny_pure ?_) | skip
  refine wpAny_bind (wpAny_sequenceKey ht.typeIs (by decide) ?_)
  refine wpAny_bind (wpAny_callSpecial?_slot (name := Str.ofString "__getitem__") ht.typeIs PyProof.Rows.slot_tuple_getitem
    (wpAny_call_entry PyProof.Rows.slot_tuple_getitem ht.typeIs entry_tuple_getitem ?_ (args_tuple_getitem _ _)))
  show wpAny _ _ (Builtin.Tuple.tupleItemsOf (.ref t) >>= _) _ _ s
  refine wpAny_bind (tupleItemsOf_ ht ?_)
  refine wpAny_bind (wpAny_typeOf hTs ?_)
  rw [if_pos (by decide)]
  refine wpAny_bind (gqF hs pl pu ?_)
  show wpAny _ _ (if (((sIx items.size 0 lo : Nat) : Int) == 0 && (1 : Int) == 1 && (sIx items.size items.size hi - sIx items.size 0 lo) == items.size) = true then _ else _) _ _ s
  rw [if_pos (by rw [hw.1, hw.2]; simp)]
  refine wpAny_bind ?_
  show wpAny _ _ (typeOf (.ref t) >>= _) _ _ s
  refine wpAny_bind (wpAny_typeOf ht.typeIs (wpAny_pure ?_))
  rw [if_pos (by decide)]
  exact wpAny_bind (wpAny_rule (wpAny_pure ⟨_, rfl, wpAny_pure h⟩))
end
section
variable {X : Cx} {K : PySem.W.Frag}
def rSlTA : V → Option Int → Option Int → Hp → VK → Prop := fun x lo hi H Q => ∃ a xs, x = .ref a ∧ H a = some (.tup xs) ∧ ∀ p H', Same H H' → H' p = some (.tup (cutV xs lo hi)) → Q (.ref p) H'
theorem mqG {xs : List V} {lo hi : Option Int} (h : sIx xs.length 0 lo = 0 ∧ sIx xs.length xs.length hi = xs.length) : cutV xs lo hi = xs := by
  unfold cutV
  rw [h.1, h.2, List.drop_zero, Nat.sub_zero, List.take_length]
theorem eq6 : SlR X rSlTA := by
  intro pins s σ H x v vl vu lo hi sl Q I rx hs pl pu h
  obtain ⟨a, xs, rfl, hx, q⟩ := h
  by_cases hw : sIx xs.length 0 lo = 0 ∧ sIx xs.length xs.length hi = xs.length
  · cases rx
    obtain ⟨its, r, ht, hz⟩ := I.tuple (SqT.of hx)
    have hlen : its.toArray.size = xs.length := by rw [List.size_toArray]; exact r.length.symm
    refine ⟨"tuple", _, PyProof.Rows.slot_tuple_getitem.lookup, ht.typeIs, ?_⟩
    exact fqk ht hs pl pu (by rw [hlen]; exact hw) ⟨.ref a, H, I, rfl, q a H (Same.refl _) (by rw [mqG hw]; exact hx)⟩
  · exact uqC pins s σ H _ v vl vu lo hi sl Q I rx hs pl pu ⟨a, xs, rfl, SqT.of hx, hw, fun p hp => q p _ (bqs hp) aqr⟩
theorem tqL {a : Addr} {lo hi : Option Int} {H : Hp} {Q : VK} : rSlTA (.ref a) lo hi H Q ↔ ∃ xs, H a = some (.tup xs) ∧ ∀ p H', Same H H' → H' p = some (.tup (cutV xs lo hi)) → Q (.ref p) H' := by
  constructor
  · rintro ⟨p, bs, h1, h2⟩; cases h1; exact ⟨bs, h2⟩
  · rintro ⟨bs, h⟩; exact ⟨a, bs, rfl, h⟩
end
end L2
namespace L2
open PySem PySem.Spec PyProof.Rows HT
mutual
inductive IsK (K : PySem.W.Frag) (H : Hp) : PyData → V → Prop
  | non : IsK K H .none .non
  | bl (b : Bool) : IsK K H (.bool b) (.bl b)
  | int (i : Int) : IsK K H (.int i) (.int i)
  | str (x : Str) : IsK K H (.str x) (.str x)
  | tup {p : Addr} {xs : List V} {ds : List PyData} : SqT K H p xs → IsKAll K H ds xs → IsK K H (.tuple ds) (.ref p)
inductive IsKAll (K : PySem.W.Frag) (H : Hp) : List PyData → List V → Prop
  | nil : IsKAll K H [] []
  | cons {d : PyData} {x : V} {ds : List PyData} {xs : List V} : IsK K H d x → IsKAll K H ds xs → IsKAll K H (d :: ds) (x :: xs)
end
section
variable {K : PySem.W.Frag} {H H' : Hp}
mutual
theorem IsK.mono (sm : Same H H') : ∀ {d : PyData} {x : V}, IsK K H d x → IsK K H' d x
  | _, _, .non => .non
  | _, _, .bl b => .bl b
  | _, _, .int i => .int i
  | _, _, .str x => .str x
  | _, _, .tup h r => .tup (sm.tup h) (IsKAll.mono sm r)
theorem IsKAll.mono (sm : Same H H') : ∀ {ds : List PyData} {xs : List V}, IsKAll K H ds xs → IsKAll K H' ds xs
  | _, _, .nil => .nil
  | _, _, .cons h r => .cons (IsK.mono sm h) (IsKAll.mono sm r)
end
mutual
theorem IsT.k : ∀ {d : PyData} {x : V}, IsT H d x → IsK K H d x
  | _, _, .non => .non
  | _, _, .bl b => .bl b
  | _, _, .int i => .int i
  | _, _, .str x => .str x
  | _, _, .tup h r => .tup (SqT.of h) (IsTAll.k r)
theorem IsTAll.k : ∀ {ds : List PyData} {xs : List V}, IsTAll H ds xs → IsKAll K H ds xs
  | _, _, .nil => .nil
  | _, _, .cons h r => .cons (IsT.k h) (IsTAll.k r)
end
end
section
variable {X : Cx} {pins : List (Addr × Obj)} {σ : St} {H : Hp} {s : Shared}
mutual
theorem IsK.reads (I : Inv X pins σ H s) : ∀ {d : PyData} {x : V} {v : Value}, IsK X.K H d x → RelV x v → ∃ as, Reads s.heap v d as
  | _, _, _, .non, r => by cases r; exact ⟨_, .none⟩
  | _, _, _, .bl b, r => by cases r; exact ⟨_, .bool b⟩
  | _, _, _, .int i, r => by obtain ⟨t, rfl⟩ := r; exact ⟨_, .int i t⟩
  | _, _, _, .str x, r => by obtain ⟨t, rfl⟩ := r; exact ⟨_, .str x t⟩
  | _, _, _, .tup h q, r => by
    cases r
    obtain ⟨its, vs, ⟨o, e, c, n, dt⟩, _⟩ := I.tuple h
    obtain ⟨as, ra⟩ := IsKAll.reads I q vs
    exact ⟨_, .tuple e c dt (by simpa using ra)⟩
theorem IsKAll.reads (I : Inv X pins σ H s) : ∀ {ds : List PyData} {xs : List V} {vs : List Value}, IsKAll X.K H ds xs → Vals xs vs → ∃ as, ReadsAll s.heap vs ds as
  | _, _, _, .nil, r => by cases r; exact ⟨_, .nil⟩
  | _, _, _, .cons q t, r => by
    cases r with
    | cons r1 r2 =>
      obtain ⟨as, h1⟩ := IsK.reads I q r1
      obtain ⟨bs, h2⟩ := IsKAll.reads I t r2
      exact ⟨_, .cons h1 h2⟩
end
variable {K : PySem.W.Frag}
def rEqX (K : PySem.W.Frag) : R2 := fun x y H Q => ∃ d e, IsK K H d x ∧ IsK K H e y ∧ SeqAt.shaped d = true ∧ SeqAt.shaped e = true ∧ Q (.bl (PyData.eqv d e)) H
def rNeX (K : PySem.W.Frag) : R2 := fun x y H Q => ∃ d e, IsK K H d x ∧ IsK K H e y ∧ SeqAt.shaped d = true ∧ SeqAt.shaped e = true ∧ Q (.bl (!PyData.eqv d e)) H
theorem mqH (hk : X.K = K) (hu : X.A.units + 64 < cLine) : OpR X (compareOp .Eq) (rEqX K) := by
  subst hk
  intro pins s σ H x y v u Q I rx ry h
  obtain ⟨d, e, hx, hy, sx, sy, q⟩ := h
  obtain ⟨as, ra⟩ := hx.reads I rx
  obtain ⟨bs, rb⟩ := hy.reads I ry
  exact eq_dataH ra rb sx sy hu ⟨.bl _, H, I, rfl, q⟩
theorem yqg (hk : X.K = K) (hu : X.A.units + 64 < cLine) : OpR X (compareOp .NotEq) (rNeX K) := by
  subst hk
  intro pins s σ H x y v u Q I rx ry h
  obtain ⟨d, e, hx, hy, sx, sy, q⟩ := h
  obtain ⟨as, ra⟩ := hx.reads I rx
  obtain ⟨bs, rb⟩ := hy.reads I ry
  exact ne_dataH ra rb sx sy hu ⟨.bl _, H, I, rfl, q⟩
def rSlX (K : PySem.W.Frag) : V → Option Int → Option Int → Hp → VK → Prop := fun x lo hi H Q => ∃ a xs, x = .ref a ∧ SqT K H a xs ∧ ∀ p H', Same H H' → SqT K H' p (cutV xs lo hi) → Q (.ref p) H'
theorem gqB (hk : X.K = K) : SlR X (rSlX K) := by
  subst hk
  intro pins s σ H x v vl vu lo hi sl Q I rx hs pl pu h
  obtain ⟨a, xs, rfl, hx, q⟩ := h
  by_cases hw : sIx xs.length 0 lo = 0 ∧ sIx xs.length xs.length hi = xs.length
  · cases rx
    obtain ⟨its, r, ht, hz⟩ := I.tuple hx
    have hlen : its.toArray.size = xs.length := by rw [List.size_toArray]; exact r.length.symm
    refine ⟨"tuple", _, PyProof.Rows.slot_tuple_getitem.lookup, ht.typeIs, ?_⟩
    exact fqk ht hs pl pu (by rw [hlen]; exact hw) ⟨.ref a, H, I, rfl, q a H (Same.refl _) (by rw [mqG hw]; exact hx)⟩
  · exact uqC pins s σ H _ v vl vu lo hi sl Q I rx hs pl pu ⟨a, xs, rfl, hx, hw, fun p hp => q p _ (bqs hp) (SqT.of aqr)⟩
theorem uq4 {a : Addr} {lo hi : Option Int} {H : Hp} {Q : VK} : rSlX K (.ref a) lo hi H Q ↔ ∃ xs, SqT K H a xs ∧ ∀ p H', Same H H' → SqT K H' p (cutV xs lo hi) → Q (.ref p) H' := by
  constructor
  · rintro ⟨p, bs, h1, h2⟩; cases h1; exact ⟨bs, h2⟩
  · rintro ⟨bs, h⟩; exact ⟨a, bs, rfl, h⟩
def rCatX (K : PySem.W.Frag) : R2 := fun x y H Q => ∃ a b xs ys, x = .ref a ∧ y = .ref b ∧ SqT K H a xs ∧ SqT K H b ys ∧ xs.length + ys.length ≤ sizeLine ∧ ∀ p H', Same H H' → SqT K H' p (xs ++ ys) → Q (.ref p) H'
theorem gqw (hk : X.K = K) : OpR X (binaryOp .Add) (rCatX K) := by
  subst hk
  intro pins s σ H x y v u Q I rx ry h
  obtain ⟨a, b, xs, ys, rfl, rfl, ha, hb, hz, q⟩ := h
  by_cases hx : xs = []
  · subst hx
    cases rx
    cases ry
    obtain ⟨its, r1, p1, _⟩ := I.tuple ha
    obtain ⟨its2, r2, p2, _⟩ := I.tuple hb
    cases r1
    obtain ⟨⟨cls, dd, data, sl⟩, ho, hc, n, hd⟩ := id p1
    obtain ⟨⟨cls2, dd2, data2, sl2⟩, ho2, hc2, n2, hd2⟩ := id p2
    simp only at hc hd hc2 hd2
    subst hc hd hc2 hd2
    exact concat_meets ⟨_, ho, rfl⟩ ⟨_, ho2, rfl⟩ noFill_tuple_add seq_tuple_add PySem.F.slot_tuple_add PySem.F.entry_tuple_add (PySem.F.args_tuple_add_2 _ _)
      (tuple_addW0 a b ([] : List Value).toArray its2.toArray n n2 dd dd2 sl sl2 rfl) ⟨ho, ho2, ⟨.ref b, H, I, rfl, q b H (Same.refl _) hb⟩⟩
  · refine sqi pins s σ H _ _ v u Q I rx ry ⟨a, b, xs, ys, rfl, rfl, ha, hb, hx, hz, fun e => q a H (Same.refl _) (by rw [e, List.append_nil]; exact ha), fun _ p hp => q p _ (bqs hp) (SqT.of aqr)⟩
theorem tq9 {a b : Addr} {H : Hp} {Q : VK} : rCatX K (.ref a) (.ref b) H Q ↔ ∃ xs ys, SqT K H a xs ∧ SqT K H b ys ∧ xs.length + ys.length ≤ sizeLine ∧ ∀ p H', Same H H' → SqT K H' p (xs ++ ys) → Q (.ref p) H' := by
  constructor
  · rintro ⟨p, p', xs, ys, h1, h2, h3⟩; cases h1; cases h2; exact ⟨xs, ys, h3⟩
  · rintro ⟨xs, ys, h⟩; exact ⟨a, b, xs, ys, rfl, rfl, h⟩
def KindK (K : PySem.W.Frag) (H : Hp) (x : V) (k : String) : Prop := kindV x H = some k ∨ ∃ a xs, x = .ref a ∧ SqT K H a xs ∧ k = "tuple"
theorem KindK.tup {K : PySem.W.Frag} {H : Hp} {a : Addr} {xs : List V} (h : SqT K H a xs) : KindK K H (.ref a) "tuple" := .inr ⟨a, xs, rfl, h, rfl⟩
def rIsiX (K : PySem.W.Frag) : List V → Hp → VK → Prop := fun vs H Q => match vs with
  | [x, .ty T] => ∃ k, KindK K H x k ∧ T ∈ ["bool", "int", "str", "list", "tuple"] ∧ Q (.bl (subT k T)) H
  | _ => False
theorem bqr (hk : X.K = K) : CallR X (.builtin "isinstance") (rIsiX K) := by
  subst hk
  intro pins s σ H xs us Q I r h
  unfold rIsiX at h
  split at h
  · rename_i x T
    obtain ⟨k, hk, hT, q⟩ := h
    rcases hk with hk | ⟨a, xs, rfl, ha, rfl⟩
    · exact iqV pins s σ H _ us Q I r ⟨k, hk, hT, q⟩
    · obtain ⟨u, v, rfl, ru, rv⟩ := vals2 r
      cases (show v = Value.type T from rv)
      cases (show u = Value.ref a from ru)
      obtain ⟨its, _, pt, _⟩ := I.tuple ha
      exact PySem.W.kia_one PySem.W.kitx_tuple I.kIn pt.typeIs (sqr X.K "tuple" (by decide) T hT) (fun z => nomatch z) fun tk => ⟨.bl _, H, I.tok tk, rfl, q⟩
  · exact h.elim
theorem uqg {x : V} {T : String} {H : Hp} {Q : VK} : rIsiX K [x, .ty T] H Q ↔ ∃ k, KindK K H x k ∧ T ∈ ["bool", "int", "str", "list", "tuple"] ∧ Q (.bl (subT k T)) H := Iff.rfl
end
end L2
namespace Wm
open PySem L2
section
variable {K : PySem.W.Frag} {H : Hp}
theorem nqL {l : List Nat} {v : V} (h : IsK K H (st l) v) : v = .str ⟨l.toArray⟩ := by cases h; rfl
theorem qqF {o : Option (List Nat)} {v : V} (h : IsK K H (oD o) v) : v = otV o := by
  cases o with
  | none => cases h; rfl
  | some l => exact nqL h
theorem yqa {o : Option Int} {v : V} (h : IsK K H (iD o) v) : v = itV o := by
  cases o with
  | none => cases h; rfl
  | some l => cases h; rfl
theorem qqi {b : Bool} {v : V} (h : IsK K H (.bool b) v) : v = .bl b := by cases h; rfl
theorem gqE {ds : List PyData} {v : V} (h : IsK K H (.tuple ds) v) : ∃ p xs, v = .ref p ∧ SqT K H p xs ∧ IsKAll K H ds xs := by
  cases h with
  | tup h1 h2 => exact ⟨_, _, rfl, h1, h2⟩
theorem isK2 {a b : PyData} {v : V} (h : IsK K H (.tuple [a, b]) v) : ∃ p x y, v = .ref p ∧ SqT K H p [x, y] ∧ IsK K H a x ∧ IsK K H b y := by
  obtain ⟨p, xs, rfl, hp, r⟩ := gqE h
  cases r with
  | cons h1 r => cases r with
    | cons h2 r => cases r; exact ⟨p, _, _, rfl, hp, h1, h2⟩
theorem isK3 {a b c : PyData} {v : V} (h : IsK K H (.tuple [a, b, c]) v) : ∃ p x y z, v = .ref p ∧ SqT K H p [x, y, z] ∧ IsK K H a x ∧ IsK K H b y ∧ IsK K H c z := by
  obtain ⟨p, xs, rfl, hp, r⟩ := gqE h
  cases r with
  | cons h1 r => cases r with
    | cons h2 r => cases r with
      | cons h3 r => cases r; exact ⟨p, _, _, _, rfl, hp, h1, h2, h3⟩
theorem isK6 {a b c d e f : PyData} {v : V} (h : IsK K H (.tuple [a, b, c, d, e, f]) v) : ∃ p x0 x1 x2 x3 x4 x5, v = .ref p ∧ SqT K H p [x0, x1, x2, x3, x4, x5] ∧ IsK K H a x0 ∧ IsK K H b x1 ∧ IsK K H c x2 ∧ IsK K H d x3 ∧ IsK K H e x4 ∧ IsK K H f x5 := by
  obtain ⟨p, xs, rfl, hp, r⟩ := gqE h
  cases r with
  | cons h1 r => cases r with
    | cons h2 r => cases r with
      | cons h3 r => cases r with
        | cons h4 r => cases r with
          | cons h5 r => cases r with
            | cons h6 r => cases r; exact ⟨p, _, _, _, _, _, _, rfl, hp, h1, h2, h3, h4, h5, h6⟩
theorem nq1 : ∀ {ss : List (List Nat)} {xs : List V}, IsKAll K H (ss.map st) xs → xs = ss.map fun l => V.str ⟨l.toArray⟩
  | [], _, h => by cases h; rfl
  | s :: ss, _, h => by
    cases h with
    | cons h1 h2 => rw [nqL h1, nq1 h2]; rfl
theorem oqi : ∀ (ss : List (List Nat)), IsKAll K H (ss.map st) (ss.map fun l => V.str ⟨l.toArray⟩)
  | [] => .nil
  | s :: ss => .cons (.str _) (oqi ss)
theorem yqo (o : Option (List Nat)) : IsK K H (oD o) (otV o) := (oqv o).k
theorem yqI (o : Option Int) : IsK K H (iD o) (itV o) := (vqM o).k
theorem jqJ {r e : Bool} {ss : List (List Nat)} {v : V} (h : IsK K H (.tuple [.bool r, .tuple (ss.map st), .bool e]) v) : ∃ p q, v = .ref p ∧ SqT K H p [.bl r, .ref q, .bl e] ∧ SqT K H q (ss.map fun l => V.str ⟨l.toArray⟩) := by
  obtain ⟨p, x, y, z, rfl, hp, h1, h2, h3⟩ := isK3 h
  cases qqi h1
  cases qqi h3
  obtain ⟨q, xs, rfl, hq, r⟩ := gqE h2
  cases nq1 r
  exact ⟨p, q, rfl, hp, hq⟩
theorem wayK {r e : Bool} {ss : List (List Nat)} {p q : Addr} (hp : SqT K H p [.bl r, .ref q, .bl e]) (hq : SqT K H q (ss.map fun l => V.str ⟨l.toArray⟩)) : IsK K H (.tuple [.bool r, .tuple (ss.map st), .bool e]) (.ref p) :=
  .tup hp (.cons (.bl _) (.cons (.tup hq (oqi _)) (.cons (.bl _) .nil)))
theorem dq4 {x : Ad} {v : V} (h : IsK K H x.data v) : ∃ p w q, v = .ref p ∧ SqT K H p [.str ⟨x.scheme.toArray⟩, otV x.house, itV x.door, w, q, otV x.mark] ∧ IsK K H x.way w ∧ IsK K H (qD x.quest) q := by
  obtain ⟨p, x0, x1, x2, x3, x4, x5, rfl, hp, i0, i1, i2, i3, i4, i5⟩ := isK6 (show IsK K H (.tuple [st x.scheme, oD x.house, iD x.door, x.way, qD x.quest, oD x.mark]) v from h)
  cases nqL i0
  cases qqF i1
  cases yqa i2
  cases qqF i5
  exact ⟨p, x3, x4, rfl, hp, i3, i4⟩
theorem adK {x : Ad} {p : Addr} {w q : V} (hp : SqT K H p [.str ⟨x.scheme.toArray⟩, otV x.house, itV x.door, w, q, otV x.mark]) (hw : IsK K H x.way w) (hq : IsK K H (qD x.quest) q) : IsK K H x.data (.ref p) :=
  .tup hp (.cons (.str _) (.cons (yqo _) (.cons (yqI _) (.cons hw (.cons hq (.cons (yqo _) .nil))))))
end
end Wm
namespace L2
open PySem PySem.Spec PyProof.Rows
theorem Vals.at {xs : List V} {us : List Value} (h : Vals xs us) : ∀ (i : Nat), (∃ x u, xs[i]? = some x ∧ us[i]? = some u ∧ RelV x u) ∨ (xs[i]? = none ∧ us[i]? = none) := by
  induction h with
  | nil => intro i; exact .inr ⟨by simp, by simp⟩
  | cons r _ ih =>
    intro i
    cases i with
    | zero => exact .inl ⟨_, _, rfl, rfl, r⟩
    | succ i => simpa using ih i
theorem Vals.pick {xs : List V} {us : List Value} (h : Vals xs us) : ∀ (l : List Nat), Vals (l.filterMap fun i => xs[i]?) (l.filterMap fun i => us[i]?)
  | [] => .nil
  | i :: l => by
    rcases h.at i with ⟨x, u, h1, h2, r⟩ | ⟨h1, h2⟩
    · rw [List.filterMap_cons_some h1, List.filterMap_cons_some h2]; exact .cons r (h.pick l)
    · rw [List.filterMap_cons_none h1, List.filterMap_cons_none h2]; exact h.pick l
def pickV {α : Type} (xs : List α) (lo hi st : Option Int) : List α :=
  (sliceRange (sliceBounds lo hi st xs.length).1 (sliceBounds lo hi st xs.length).2.1 (sliceBounds lo hi st xs.length).2.2).filterMap fun i => xs[i]?
theorem oqX {α β : Type} (f : α → β) (xs : List α) (lo hi st : Option Int) : pickV (xs.map f) lo hi st = (pickV xs lo hi st).map f := by
  unfold pickV
  rw [List.length_map, List.map_filterMap]
  congr 1
  funext i
  rw [List.getElem?_map]
theorem rq6 {α : Type} (xs : List α) (lo hi st : Option Int) : (pickV xs lo hi st).length ≤ (sliceRange (sliceBounds lo hi st xs.length).1 (sliceBounds lo hi st xs.length).2.1 (sliceBounds lo hi st xs.length).2.2).length := List.length_filterMap_le _ _
section
variable {X : Cx}
def tSl3 (K : PySem.W.Frag) (te : TE) (tl th ts : TO) : TE := fun σ H Q => te σ H fun x H1 => tl σ H1 fun l H2 => th σ H2 fun u H3 => ts σ H3 fun k H4 =>
  ∃ a xs, x = .ref a ∧ SqL K H4 a xs ∧ k ≠ some 0 ∧ (pickV xs l u k).length ≤ sizeLine ∧ ∀ p, H4 p = none → Q (.ref p) (upd H4 p (.lst (pickV xs l u k)))
theorem sqH {e : Expr} {lo hi : Option Expr} {st : Expr} {te : TE} {tl th ts : TO} {p2 pos : Pos} (he : PE X e te) (hl : PO X lo tl) (hu : PO X hi th) (hs : PO X (some st) ts) : PE X (.Subscript e (.Slice lo hi (some st) p2) pos) (tSl3 X.K te tl th ts) := by
  intro pins s σ H Q I h
  refine Subscript_ (thn (he pins s σ H _ I h) fun v s1 ⟨x, H1, I1, r1, q1⟩ => ?_)
  refine wpAny_Slice (thn (hl pins s1 σ H1 _ I1 q1) fun vl s2 ⟨l, H2, I2, pl, q2⟩ => thn (hu pins s2 σ H2 _ I2 q2) fun vu s3 ⟨u, H3, I3, pu, q3⟩ => thn (hs pins s3 σ H3 _ I3 q3) fun vs s4 ⟨k, H4, I4, ps, q4⟩ => ?_)
  have I5 : Inv X pins σ H4 { s4 with heap := s4.heap.push { cls := .type "slice", data := .fields #[vl, vu, vs] } } := I4.kept (t' := s4.toks) fun b ob q => Heap.get?_push_of_some _ q
  obtain ⟨a, xs, rfl, hx, hk, hz, q⟩ := q4
  cases r1
  obtain ⟨its, r, ht, _⟩ := I5.list hx
  have hlen := r.length
  show wpAny (model X.prog X.w) X.A (subscriptTail e (.Slice lo hi (some st) p2) (.ref a) (.ref s4.heap.objs.size)) (EP X pins σ Q) X.xe { s4 with heap := s4.heap.push { cls := .type "slice", data := .fields #[vl, vu, vs] } }
  refine tail_any (ops := [.ref a, .ref s4.heap.objs.size]) ht.isList.typeIs slot_list_getitem.lookup ?_ (by with_unfolding_all rfl)
  refine wpAny_getItem_list_slice ht.isList (Heap.IsSliceOf.new ..) pl pu ps hk ?_ (by rw [List.size_toArray] <;> omega)
  have e : slicePick its.toArray l u k = ((sliceRange (sliceBounds l u k xs.length).1 (sliceBounds l u k xs.length).2.1 (sliceBounds l u k xs.length).2.2).filterMap fun i => its[i]?).toArray := by
    unfold slicePick
    rw [List.size_toArray, ← hlen]
    simp
  rw [e]
  refine ⟨.ref _, _, I5.laid (t' := s4.toks) (o := .lst (pickV xs l u k)) (fun b ob q => Heap.get?_push_of_some _ q) (Nat.le_refl _) ?_, rfl, q _ (I5.hok.fresh (Nat.le_refl _))⟩
  exact ⟨hz, _, 0, r.pick _, Heap.get?_push_size _ rfl⟩
theorem mqf {K : PySem.W.Frag} {e : Expr} {lo hi : Option Expr} {st : Expr} {te : TE} {tl th ts : TO} {p2 pos : Pos} (h : X.K = K) (he : PE X e te) (hl : PO X lo tl) (hu : PO X hi th) (hs : PO X (some st) ts) : PE X (.Subscript e (.Slice lo hi (some st) p2) pos) (tSl3 K te tl th ts) := by
  subst h; exact sqH he hl hu hs
end
theorem yqn {K : PySem.W.Frag} {te : TE} {tl th ts : TO} {σ : St} {H : Hp} {Q : VK} : tSl3 K te tl th ts σ H Q ↔ te σ H fun x H1 => tl σ H1 fun l H2 => th σ H2 fun u H3 => ts σ H3 fun k H4 =>
  ∃ a xs, x = .ref a ∧ SqL K H4 a xs ∧ k ≠ some 0 ∧ (pickV xs l u k).length ≤ sizeLine ∧ ∀ p, H4 p = none → Q (.ref p) (upd H4 p (.lst (pickV xs l u k))) := Iff.rfl
end L2
namespace Wm
open PySem L2
abbrev Way := Bool × List Stp × Bool
def Ad.w (x : Ad) : Way := (x.rooted, x.steps, x.ends)
def Ad.withWay (x : Ad) (w : Way) : Ad := { x with rooted := w.1, steps := w.2.1, ends := w.2.2 }
def goneV (w : Way) : Way := goneW w.1 w.2.1 w.2.2
def Ad.gone (x : Ad) : Ad := x.withWay (goneV x.w)
theorem gqb (w : Way) : goneV (goneV w) = goneV w := pqI w.1 w.2.1 w.2.2
theorem Ad.gone_w (x : Ad) : x.gone.w = goneV x.w := rfl
theorem Ad.gone_again (x : Ad) : x.gone.gone = x.gone := by
  show (x.withWay (goneV x.w)).withWay (goneV (x.withWay (goneV x.w)).w) = _
  rw [show (x.withWay (goneV x.w)).w = goneV x.w from rfl, gqb]
  rfl
def holder (w : Way) : List Stp := if (goneV w).2.2 then (goneV w).2.1 else (goneV w).2.1.dropLast
def resM (b x : Ad) : Ad :=
  if x.scheme ≠ [] then x.gone
  else if x.house ≠ none then ({ x with scheme := b.scheme } : Ad).gone
  else if x.rooted = true then ({ x with scheme := b.scheme, house := b.house, door := b.door } : Ad).gone
  else if x.steps ≠ [] then ({ x with scheme := b.scheme, house := b.house, door := b.door, rooted := true, steps := holder b.w ++ x.steps } : Ad).gone
  else ({ b with quest := (if x.quest = none then b.quest else x.quest), mark := x.mark } : Ad).gone
def comm : List Stp → List Stp → Nat
  | a :: l, b :: m => if a = b then comm l m + 1 else 0
  | _, _ => 0
def lastW (g : Way) : List Stp := if (goneV g).2.2 then [] else (goneV g).2.1.drop ((goneV g).2.1.length - 1)
def betw0 (b g : Way) : List Stp := List.replicate ((holder b).length - comm (holder b) (holder g)) sUp ++ (holder g).drop (comm (holder b) (holder g)) ++ lastW g
def betw (b g : Way) : List Stp := if betw0 b g = [] then [sStay] else betw0 b g
def relM (b g : Ad) : Ad :=
  if g.scheme ≠ b.scheme ∨ (g.house = none ∧ b.house ≠ none) then g.gone
  else if g.house ≠ b.house ∨ g.door ≠ b.door then { g.gone with scheme := [] }
  else if b.gone.w = g.gone.w ∧ (g.quest ≠ none ∨ b.quest = none) then { scheme := [], house := none, door := none, rooted := false, steps := [], ends := false, quest := (if g.quest = b.quest then none else g.quest), mark := g.mark }
  else { scheme := [], house := none, door := none, rooted := false, steps := betw b.w g.w, ends := (goneV g.w).2.2, quest := g.quest, mark := g.mark }
theorem rqu (ss : List Stp) (t : List Stp) : ss.foldl (fwd true) (0, t) = (0, (bwd ss).2.reverse ++ t.drop (bwd ss).1) := by rw [jqB]; simp
theorem mql (ss : List Stp) : ss.foldl (fwd true) (0, []) = (0, (goneS true ss).reverse) := by
  rw [rqu, hqU]; simp
theorem qqf (a b : List Stp) : goneS true (a ++ b) = ((b.foldl (fwd true) (0, (goneS true a).reverse)).2).reverse := by
  have h : (a ++ b).foldl (fwd true) (0, []) = b.foldl (fwd true) (0, (goneS true a).reverse) := by rw [List.foldl_append, mql]
  have h2 := mql (a ++ b)
  rw [h] at h2; rw [h2]; simp
theorem jqz {a : List Stp} (h : ∀ s ∈ a, isDot s = false) : goneS true a = a := by
  unfold goneS; rw [fqW true a 0 [] h]; simp
theorem pops : ∀ (n : Nat) (t : List Stp), (List.replicate n sUp).foldl (fwd true) (0, t) = (0, t.drop n)
  | 0, t => by simp
  | n + 1, [] => by
    rw [List.replicate_succ, List.foldl_cons, show fwd true (0, []) sUp = (0, []) by simp [fwd], pops n []]; simp
  | n + 1, a :: t => by
    rw [List.replicate_succ, List.foldl_cons, show fwd true (0, a :: t) sUp = (0, t) by simp [fwd], pops n t]; simp
theorem mqY : ∀ (h t : List Stp), comm h t ≤ h.length
  | [], t => by simp [comm]
  | a :: l, [] => by simp [comm]
  | a :: l, b :: m => by
    unfold comm
    split
    · have := mqY l m; simp; omega
    · simp
theorem oq9 : ∀ (h t : List Stp), h.take (comm h t) = t.take (comm h t)
  | [], t => by simp [comm]
  | a :: l, [] => by simp [comm]
  | a :: l, b :: m => by
    unfold comm
    split
    · next e => simp [e, oq9 l m]
    · simp
theorem uqq (h : List Stp) {k : Nat} (hk : k ≤ h.length) : h.reverse.drop (h.length - k) = (h.take k).reverse := by
  rw [List.drop_reverse]; congr 2; omega
theorem rq0 {h t l : List Stp} (hh : ∀ s ∈ h, isDot s = false) (ht : ∀ s ∈ t, isDot s = false) (hl : ∀ s ∈ l, isDot s = false) :
    goneS true (h ++ (List.replicate (h.length - comm h t) sUp ++ t.drop (comm h t) ++ l)) = t ++ l := by
  rw [qqf, jqz hh, List.append_assoc, List.foldl_append, pops, uqq h (mqY h t)]
  rw [fqW true (t.drop (comm h t) ++ l) 0 _ (fun s hs => by
    rcases List.mem_append.mp hs with hs | hs
    · exact ht s (List.mem_of_mem_drop hs)
    · exact hl s hs)]
  simp only [List.reverse_append, List.reverse_reverse, List.append_assoc]
  rw [oq9 h t, ← List.append_assoc, List.take_append_drop]
theorem mqe {w : Way} (h : w.1 = true) (he : w.2.1 = [] → w.2.2 = true) : (goneV w).1 = true ∧ (goneV w).2.1 = goneS true w.2.1 ∧ (∀ s ∈ (goneV w).2.1, isDot s = false) ∧ ((goneV w).2.1 = [] → (goneV w).2.2 = true) := by
  obtain ⟨r, ss, e⟩ := w
  cases h
  show (goneW true ss e).1 = true ∧ (goneW true ss e).2.1 = goneS true ss ∧ (∀ s ∈ (goneW true ss e).2.1, isDot s = false) ∧ ((goneW true ss e).2.1 = [] → (goneW true ss e).2.2 = true)
  unfold goneW
  by_cases h1 : ss = []
  · rw [if_pos h1]
    refine ⟨rfl, by rw [h1, tq7], by simp, fun _ => he h1⟩
  · rw [if_neg h1]
    by_cases h2 : goneS true ss = []
    · rw [if_pos h2]; exact ⟨rfl, by simp [h2], by simp, fun _ => rfl⟩
    · rw [if_neg h2]; exact ⟨rfl, rfl, rql, fun h => absurd h h2⟩
theorem jqL {w : Way} (h : w.1 = true) (he : w.2.1 = [] → w.2.2 = true) : ∀ s ∈ holder w, isDot s = false := fun s hs => by
  have := (mqe h he).2.2.1
  unfold holder at hs
  split at hs
  · exact this s hs
  · exact this s (List.dropLast_subset _ hs)
theorem pqM {w : Way} : holder w ++ lastW w = (goneV w).2.1 := by
  unfold holder lastW
  split
  · simp
  · rw [List.dropLast_eq_take, List.take_append_drop]
theorem rqV {b g : Way} (hb : b.1 = true) (hbe : b.2.1 = [] → b.2.2 = true) (hg : g.1 = true) (hge : g.2.1 = [] → g.2.2 = true) :
    goneV (true, holder b ++ betw b g, (goneV g).2.2) = goneV g := by
  obtain ⟨g1, g2, g3, g4⟩ := mqe hg hge
  have nb := jqL hb hbe
  have ng := jqL hg hge
  have hl : ∀ s ∈ lastW g, isDot s = false := fun s hs => by
    unfold lastW at hs
    split at hs
    · cases hs
    · exact g3 s (List.mem_of_mem_drop hs)
  have key : goneS true (holder b ++ betw0 b g) = holder g ++ lastW g := rq0 nb ng hl
  rw [pqM] at key
  have hs : goneS true (holder b ++ betw b g) = (goneV g).2.1 := by
    unfold betw
    by_cases he : betw0 b g = []
    · rw [if_pos he]
      rw [he] at key
      rw [← key, qqf, jqz nb]
      simp [fwd, eqJ.symm, jqz nb]
    · rw [if_neg he]; exact key
  have hne : holder b ++ betw b g ≠ [] := by
    unfold betw
    by_cases he : betw0 b g = []
    · rw [if_pos he]; simp
    · rw [if_neg he]; intro e; exact he (List.append_eq_nil_iff.mp e).2
  have hE : (goneV g).2.1 ≠ [] → ((goneV g).2.2 || lastDot (holder b ++ betw b g)) = (goneV g).2.2 := fun hn => by
    cases hh : (goneV g).2.2 with
    | true => rfl
    | false =>
      have hd : lastW g ≠ [] := by
        unfold lastW
        rw [hh]
        intro e
        have h1 := List.drop_eq_nil_iff.mp e
        have : 0 < (goneV g).2.1.length := List.length_pos_iff.mpr hn
        omega
      have h0 : betw0 b g ≠ [] := fun e => hd (List.append_eq_nil_iff.mp e).2
      unfold betw
      rw [if_neg h0, Bool.false_or]
      unfold betw0
      rw [← List.append_assoc, lqd hd]
      exact lqh hl
  show goneW true (holder b ++ betw b g) (goneV g).2.2 = goneV g
  unfold goneW
  rw [if_neg hne, hs]
  by_cases h0 : (goneV g).2.1 = []
  · rw [if_pos h0]
    have := g4 h0
    exact Prod.ext g1.symm (Prod.ext (by simp [h0]) this.symm)
  · rw [if_neg h0, hE h0]
    exact Prod.ext g1.symm rfl
theorem Ad.Wf.ends_w {x : Ad} (h : x.Wf) (hr : x.rooted = true) : x.w.2.1 = [] → x.w.2.2 = true := fun e => by
  have := h.end_ e; rw [hr] at this; exact this
theorem Ad.ext_w {x y : Ad} (h1 : x.scheme = y.scheme) (h2 : x.house = y.house) (h3 : x.door = y.door) (h4 : x.w = y.w) (h5 : x.quest = y.quest) (h6 : x.mark = y.mark) : x = y := by
  cases x; cases y
  simp only [Ad.w, Prod.mk.injEq] at h4
  simp_all
theorem mqp {b x : Ad} (h : x.scheme ≠ []) : resM b x = x.gone := by unfold resM; rw [if_pos h]
theorem rqt {b g : Ad} (hb : b.Wf) (hg : g.Wf) (wb : b.scheme ≠ []) (wg : g.scheme ≠ []) : resM b (relM b g) = g.gone := by
  have rb := hb.roo (.inl wb)
  have rg := hg.roo (.inl wg)
  unfold relM
  by_cases h1 : g.scheme ≠ b.scheme ∨ (g.house = none ∧ b.house ≠ none)
  · rw [if_pos h1, mqp (by exact wg), Ad.gone_again]
  rw [if_neg h1]
  have es : g.scheme = b.scheme := Classical.not_not.mp fun h => h1 (.inl h)
  by_cases h2 : g.house ≠ b.house ∨ g.door ≠ b.door
  · rw [if_pos h2]
    have hh : g.house ≠ none := fun e => by
      have : b.house = none := Classical.not_not.mp fun h => h1 (.inr ⟨e, h⟩)
      rcases h2 with h | h
      · exact h (by rw [e, this])
      · exact h (by rw [hg.nodoor e, hb.nodoor this])
    unfold resM
    rw [if_neg (by simp), if_pos (by exact hh)]
    show ({ g.gone with scheme := b.scheme } : Ad).gone = g.gone
    rw [← es]
    exact Ad.gone_again g
  rw [if_neg h2]
  have eh : g.house = b.house := Classical.not_not.mp fun h => h2 (.inl h)
  have ed : g.door = b.door := Classical.not_not.mp fun h => h2 (.inr h)
  by_cases h3 : b.gone.w = g.gone.w ∧ (g.quest ≠ none ∨ b.quest = none)
  · rw [if_pos h3]
    unfold resM
    rw [if_neg (by simp), if_neg (by simp), if_neg (by simp), if_neg (by simp)]
    refine Ad.ext_w (by exact es.symm) (by exact eh.symm) (by exact ed.symm) ?_ ?_ rfl
    · exact h3.1
    · show (if (if g.quest = b.quest then none else g.quest) = none then b.quest else if g.quest = b.quest then none else g.quest) = g.quest
      by_cases h4 : g.quest = b.quest
      · simp [h4]
      · rw [if_neg h4]
        by_cases h5 : g.quest = none
        · rcases h3.2 with h | h
          · exact absurd h5 h
          · exact absurd (by rw [h5, h]) h4
        · rw [if_neg h5]
  · rw [if_neg h3]
    have hn : betw b.w g.w ≠ [] := by
      unfold betw
      by_cases he : betw0 b.w g.w = []
      · rw [if_pos he]; simp
      · rw [if_neg he]; exact he
    unfold resM
    rw [if_neg (by simp), if_neg (by simp), if_neg (by simp), if_pos (by exact hn)]
    refine Ad.ext_w (by exact es.symm) (by exact eh.symm) (by exact ed.symm) ?_ rfl rfl
    exact rqV (b := b.w) (g := g.w) rb (hb.ends_w rb) rg (hg.ends_w rg)
end Wm
namespace Wm
open PySem L2
def wayOf (w : Way) : PyData := .tuple [.bool w.1, .tuple (w.2.1.map st), .bool w.2.2]
theorem yqr {l : Addr} {H : Hp} {Q : VK} : rReverse (.ref l) [] H Q ↔ ∃ xs, H l = some (.lst xs) ∧ Q .non (upd H l (.lst xs.reverse)) :=
  ⟨fun ⟨_, xs, e, _, h, q⟩ => by cases e; exact ⟨xs, h, q⟩, fun ⟨xs, h, q⟩ => ⟨l, xs, rfl, rfl, h, q⟩⟩
end Wm
namespace Wm
open PySem L2
abbrev sV (l : List Nat) : V := .str ⟨l.toArray⟩
theorem uq3 {α : Type} {l : List α} {i : Nat} {a : α} (h : l[i]? = some a) : l.drop i = a :: l.drop (i + 1) := by
  obtain ⟨hi, e⟩ := List.getElem?_eq_some_iff.mp h
  rw [← e]; exact List.drop_eq_getElem_cons hi
end Wm
namespace Wm
open PySem L2
theorem kqI {H : Hp} : ∀ (ss : List (List Nat)), IsAll H (ss.map st) (ss.map sV)
  | [] => .nil
  | s :: ss => .cons (.str _) (kqI ss)
theorem hqd {H : Hp} : ∀ (ss : List (List Nat)), IsTAll H (ss.map st) (ss.map sV)
  | [] => .nil
  | s :: ss => .cons (.str _) (hqd ss)
theorem pqg {ss : List (List Nat)} (h : ∀ l ∈ ss, ∀ c ∈ l, isSg c = true) : SeqAt.shaped (.list (ss.map st)) = true := by
  obtain ⟨h1, h2⟩ := mqR h
  unfold SeqAt.shaped
  simp only [PyData.canLay0, PyData.depth, h1, h2]
  decide
theorem uqr (ds : List PyData) : PyData.eqv (.list ds) (.list []) = ds.isEmpty := by
  cases ds <;> simp [PyData.eqv, PyData.eqvAll]
end Wm
namespace Wm
open PySem L2
theorem hqR {α : Type} {l : List α} {s : α} (g : α → V) (h : l.getLast? = some s) : atI (l.map g) (-1) = some (g s) := by
  obtain ⟨pre, rfl⟩ := List.getLast?_eq_some_iff.mp h
  have e : ixN ((pre ++ [s]).map g).length (-1) = some pre.length := by
    unfold ixN
    simp
    try omega
  unfold atI
  rw [e]
  simp
theorem vqf (s : Stp) : inV (sV s) [sV sStay, sV sUp] = isDot s := by
  have e : ∀ a : Stp, eqV (sV a) (sV s) = decide (s = a) := fun a => by
    show ((⟨a.toArray⟩ : Str) == ⟨s.toArray⟩) = decide (s = a)
    rw [Bool.eq_iff_iff, beq_iff_eq, decide_eq_true_eq, eqf]
    exact ⟨Eq.symm, Eq.symm⟩
  unfold inV isDot
  simp only [List.any_cons, List.any_nil, Bool.or_false, e]
  rw [Bool.or_comm]
end Wm
namespace Wm
open PySem L2
theorem eqE {r e : Bool} {ss : List (List Nat)} (h : ∀ s ∈ ss, ∀ c ∈ s, isSg c = true) : SeqAt.shaped (wayOf (r, ss, e)) = true := by
  refine LayAt.shaped (n := 2) (.tup (n := 1) fun d hd => ?_) (by decide)
  simp only [List.mem_cons, List.not_mem_nil, or_false] at hd
  rcases hd with rfl | rfl | rfl
  · exact LayAt.bool.le (by decide)
  · refine .tup (n := 0) fun d hd => ?_
    obtain ⟨s, hs, rfl⟩ := List.mem_map.mp hd
    exact .st (h s hs)
  · exact LayAt.bool.le (by decide)
theorem rqL (w : Way) : PyData.eqv (wayOf w) (wayOf w) = true := by
  simp only [wayOf, PyData.eqv, PyData.eqvAll, Bool.and_eq_true, Bool.and_true, beq_self_eq_true, true_and]
  exact (eqI pqc _ _).mpr rfl
end Wm
namespace L2
open PySem
end L2
namespace L2
open PySem
theorem xqj {l : Addr} {H : Hp} {Q : VK} : rPop (.ref l) [] H Q ↔ ∃ xs y, H l = some (.lst xs) ∧ xs[xs.length - 1]? = some y ∧ Q y (upd H l (.lst xs.dropLast)) :=
  ⟨fun ⟨_, xs, y, h1, _, h3, h4, h5⟩ => by cases h1; exact ⟨xs, y, h3, h4, h5⟩, fun ⟨xs, y, h3, h4, h5⟩ => ⟨_, xs, y, rfl, rfl, h3, h4, h5⟩⟩
theorem yqb {H : Hp} {p : Addr} {o : HO} (h : H p = some o) : upd H p o = H := by
  funext b
  by_cases e : b = p
  · subst e; rw [aqr, h]
  · rw [aqI e]
end L2
namespace L2
open PySem
theorem tqn {D : Ends} {σ : St} {H : Hp} : tNever D σ H ↔ False := Iff.rfl
end L2
namespace Wm
open PySem L2
structure Ad.Tiny (x : Ad) : Prop where
  stp : ∀ s ∈ x.steps, s.length ≤ 9
  que : ∀ ps, x.quest = some ps → ps.length ≤ 3 ∧ ∀ p ∈ ps, p.1.length ≤ 5 ∧ ∀ v, p.2 = some v → v.length ≤ 6
  mar : ∀ l, x.mark = some l → l.length ≤ 7
  hou : ∀ l, x.house = some l → l.length ≤ 13
def QOk (q : Option (List (List Nat × Option (List Nat)))) : Prop := ∀ ps, q = some ps → ps.length ≤ 3 ∧ ∀ p ∈ ps, PairOk p ∧ p.1.length ≤ 5 ∧ ∀ v, p.2 = some v → v.length ≤ 6
def noWay : Way := (false, [], false)
def wayFrom (b w : Way) : Way := if w = noWay then b else if w.1 then w else (true, holder b ++ w.2.1, w.2.2)
def questFrom (b x : Ad) : Option (List (List Nat × Option (List Nat))) := if x.w = noWay ∧ x.quest = none then b.quest else x.quest
def madeWhole (b x : Ad) : Ad := if x.house ≠ none then { x with scheme := b.scheme } else { scheme := b.scheme, house := b.house, door := b.door, rooted := (wayFrom b.w x.w).1, steps := (wayFrom b.w x.w).2.1, ends := (wayFrom b.w x.w).2.2, quest := questFrom b x, mark := x.mark }
theorem rqM {b x : Ad} (hx : x.Wf) (h : x.scheme = []) : resM b x = (madeWhole b x).gone := by
  unfold resM madeWhole
  rw [if_neg (by simp [h])]
  by_cases h1 : x.house ≠ none
  · rw [if_pos h1, if_pos h1]
  · rw [if_neg h1, if_neg h1]
    by_cases h2 : x.rooted = true
    · rw [if_pos h2]
      have e : x.w ≠ noWay := fun z => by
        have := congrArg Prod.fst z
        simp only [Ad.w, noWay] at this
        rw [h2] at this; cases this
      unfold wayFrom questFrom
      simp only [if_neg e, e, false_and, if_false]
      rw [if_pos (show x.w.1 = true from h2)]
      rfl
    · rw [if_neg h2]
      have hf : x.rooted = false := by simpa using h2
      by_cases h3 : x.steps ≠ []
      · rw [if_pos h3]
        have e : x.w ≠ noWay := fun z => h3 (by have := congrArg (fun q : Way => q.2.1) z; exact this)
        unfold wayFrom questFrom
        simp only [if_neg e, e, false_and, if_false]
        rw [if_neg (show ¬ x.w.1 = true by rw [show x.w.1 = x.rooted from rfl, hf]; decide)]
        rfl
      · rw [if_neg h3]
        have h3 : x.steps = [] := Classical.not_not.mp h3
        have he := hx.end_ h3
        have e : x.w = noWay := by simp only [Ad.w, noWay, hf, h3, he]
        unfold wayFrom questFrom
        simp only [e, if_true, true_and]
        rfl
theorem mq7 (a b : Way) : PyData.eqv (wayOf a) (wayOf b) = decide (a = b) := by
  obtain ⟨r, ss, e⟩ := a
  obtain ⟨q, tt, f⟩ := b
  rw [Bool.eq_iff_iff, decide_eq_true_eq]
  simp only [wayOf, PyData.eqv, PyData.eqvAll, Bool.and_eq_true, Bool.and_true, beq_iff_eq, Prod.mk.injEq]
  constructor
  · rintro ⟨h1, h2, h3⟩
    exact ⟨h1, (eqI pqc _ _).mp h2, h3⟩
  · rintro ⟨h1, h2, h3⟩
    exact ⟨h1, (eqI pqc _ _).mpr h2, h3⟩
end Wm
namespace Wm
open PySem L2
theorem lqw (w : Way) : (goneV w).2.1.length ≤ w.2.1.length := by
  unfold goneV goneW
  split
  · rename_i h; simp
  · rename_i h
    have := List.length_pos_iff.mpr h
    split
    · cases w.1 <;> simp <;> omega
    · exact gone_len _ _
theorem rqC : StepOk sStay := ⟨by decide, by decide⟩
theorem xqv : StepOk sUp := ⟨by decide, by decide⟩
theorem kqx {w : Way} (h : ∀ s ∈ w.2.1, StepOk s) : ∀ s ∈ (goneV w).2.1, StepOk s := by
  intro s hs
  unfold goneV goneW at hs
  split at hs
  · cases hs
  · split at hs
    · cases e : w.1
      · rw [e] at hs; simp at hs; subst hs; exact rqC
      · rw [e] at hs; simp at hs
    · rcases kqy s hs with z | z
      · exact h s z.1
      · rw [z.2]; exact xqv
theorem qq3 {w : Way} (h : w.2.1 = [] → w.2.2 = w.1) : (goneV w).2.1 = [] → (goneV w).2.2 = (goneV w).1 := by
  intro e
  unfold goneV goneW at e ⊢
  split at e
  · rename_i z; rw [if_pos z]; exact h z
  · rename_i z
    rw [if_neg z]
    split at e
    · rename_i y
      rw [if_pos y]
      cases ew : w.1
      · rw [ew] at e; simp at e
      · rfl
    · rename_i y; exact absurd e y
theorem rqA (w : Way) : (goneV w).1 = w.1 := sqR _ _ _
theorem Ad.Wf.gone {x : Ad} (h : x.Wf) : x.gone.Wf where
  sch := h.sch
  hou := h.hou
  doo := h.doo
  stp := kqx (w := x.w) h.stp
  roo := fun z => (rqA x.w).trans (h.roo z)
  end_ := qq3 (w := x.w) h.end_
  que := h.que
  mar := h.mar
theorem Ad.gone_len (x : Ad) : x.gone.steps.length ≤ x.steps.length := lqw x.w
theorem dqA (w : Way) : (holder w).length ≤ w.2.1.length := by
  have := lqw w
  unfold holder
  split
  · exact this
  · rw [List.length_dropLast]; omega
theorem sqv {w : Way} (h : ∀ s ∈ w.2.1, StepOk s) : ∀ s ∈ holder w, StepOk s := by
  intro s hs
  unfold holder at hs
  split at hs
  · exact kqx h s hs
  · exact kqx h s (List.dropLast_subset _ hs)
theorem pqw (b w : Way) : (wayFrom b w).2.1.length ≤ b.2.1.length + w.2.1.length := by
  unfold wayFrom
  have := dqA b
  split
  · omega
  · split
    · omega
    · simp only [List.length_append]; omega
theorem mqT (b x : Ad) : (madeWhole b x).steps.length ≤ b.steps.length + x.steps.length := by
  unfold madeWhole
  split
  · dsimp only; omega
  · exact pqw b.w x.w
theorem tq3 {g : Way} (hg : ∀ s ∈ g.2.1, StepOk s) : ∀ s ∈ lastW g, StepOk s := by
  intro s hs
  unfold lastW at hs
  split at hs
  · cases hs
  · exact kqx hg s (List.drop_subset _ _ hs)
theorem nq5 (g : Way) : (lastW g).length ≤ 1 := by
  unfold lastW
  split
  · simp
  · rw [List.length_drop]; omega
theorem vqV {b g : Way} (hg : ∀ s ∈ g.2.1, StepOk s) : ∀ s ∈ betw b g, StepOk s := by
  intro s hs
  unfold betw at hs
  split at hs
  · rw [List.mem_singleton.mp hs]; exact rqC
  · unfold betw0 at hs
    rcases List.mem_append.mp hs with hs | hs
    · rcases List.mem_append.mp hs with hs | hs
      · rw [(List.mem_replicate.mp hs).2]; exact xqv
      · exact sqv hg s (List.drop_subset _ _ hs)
    · exact tq3 hg s hs
theorem vqO (b g : Way) : betw b g ≠ [] := by
  unfold betw
  split
  · simp
  · assumption
theorem tqG (b g : Way) : (betw b g).length ≤ b.2.1.length + g.2.1.length + 1 := by
  have h1 := dqA b
  have h2 := dqA g
  have h3 := nq5 g
  unfold betw
  split
  · simp
  · unfold betw0
    simp only [List.length_append, List.length_replicate, List.length_drop]
    omega
theorem sq7 {b g : Ad} (hg : g.Wf) (wg : g.scheme ≠ []) : (relM b g).Wf := by
  have hgr := hg.roo (.inl wg)
  have hgg := hg.gone
  unfold relM
  split
  · exact hgg
  · split
    · exact ⟨⟨Nat.zero_le _, (fun c hc => by cases hc), (fun c hc => by cases hc)⟩, hgg.hou, hgg.doo, hgg.stp, fun _ => hgg.roo (.inl wg), hgg.end_, hgg.que, hgg.mar⟩
    · split
      · refine ⟨⟨Nat.zero_le _, (fun c hc => by cases hc), (fun c hc => by cases hc)⟩, (fun l e => by cases e), (fun i e => by cases e), (fun s hs => by cases hs), fun z => ?_, fun _ => rfl, fun ps e => ?_, hg.mar⟩
        · rcases z with z | z <;> exact absurd rfl z
        · dsimp only at e
          split at e
          · cases e
          · exact hg.que ps e
      · refine ⟨⟨Nat.zero_le _, (fun c hc => by cases hc), (fun c hc => by cases hc)⟩, (fun l e => by cases e), (fun i e => by cases e), vqV (b := b.w) (g := g.w) hg.stp, fun z => ?_, fun z => absurd z (vqO _ _), hg.que, hg.mar⟩
        rcases z with z | z <;> exact absurd rfl z
theorem uqo (b g : Ad) : (relM b g).steps.length ≤ b.steps.length + g.steps.length + 1 := by
  have := Ad.gone_len g
  unfold relM
  split
  · omega
  · split
    · show g.gone.steps.length ≤ _; omega
    · split
      · simp
      · exact tqG b.w g.w
theorem sqj (b g : Way) : betw (goneV b) (goneV g) = betw b g := by
  have h : ∀ w : Way, holder (goneV w) = holder w := fun w => by unfold holder; rw [gqb]
  have l : lastW (goneV g) = lastW g := by unfold lastW; rw [gqb]
  have e : betw0 (goneV b) (goneV g) = betw0 b g := by unfold betw0; rw [h, h, l]
  unfold betw; rw [e]
theorem rqT (b g : Ad) : relM b.gone g.gone = relM b g := by
  unfold relM
  rw [Ad.gone_again, Ad.gone_again]
  rw [Ad.gone_w, Ad.gone_w, sqj, gqb]
  rfl
end Wm
namespace Wm
end Wm
namespace Wm
open PySem L2
def cutA {α : Type} (xs : List α) (lo hi : Option Int) : List α := (xs.drop (HT.sIx xs.length 0 lo)).take (HT.sIx xs.length xs.length hi - HT.sIx xs.length 0 lo)
theorem kqD {α : Type} (f : α → V) (xs : List α) (lo hi : Option Int) : cutV (xs.map f) lo hi = (cutA xs lo hi).map f := by
  unfold cutV cutA; rw [List.length_map, List.map_take, List.map_drop]
theorem qqa {α : Type} (xs : List α) (lo hi : Option Int) : (cutA xs lo hi).length ≤ xs.length := by
  unfold cutA; rw [List.length_take, List.length_drop]; omega
theorem tqr {α : Type} {xs : List α} {lo hi : Option Int} {x : α} (h : x ∈ cutA xs lo hi) : x ∈ xs := List.mem_of_mem_drop (List.mem_of_mem_take h)
theorem oq4 {P : Stp → Prop} {H : Hp} : ∀ {xs ys : List V}, All2 (fun _ y _ => ∃ s : Stp, y = sV s ∧ P s) H xs ys → ∃ ss : List Stp, ys = ss.map sV ∧ ss.length = xs.length ∧ ∀ s ∈ ss, P s
  | _, _, .nil => ⟨[], rfl, rfl, by simp⟩
  | _, _, .cons h r => by
    obtain ⟨s, rfl, hs⟩ := h
    obtain ⟨ss, rfl, hl, h2⟩ := oq4 r
    exact ⟨s :: ss, rfl, by simp [hl], fun t ht => by
      rcases List.mem_cons.mp ht with rfl | ht
      · exact hs
      · exact h2 t ht⟩
def AllSg (ss : List Stp) : Prop := ∀ s ∈ ss, ∀ c ∈ s, isSg c = true
end Wm
namespace Wm
open PySem L2
theorem vqA {α : Type} (xs : List α) {n : Nat} {i : Int} (h : HT.sIx xs.length xs.length (some i) = n) : cutA xs none (some i) = xs.take n := by
  unfold cutA
  rw [h, show HT.sIx xs.length 0 none = 0 from rfl, List.drop_zero, Nat.sub_zero]
theorem rqh {α : Type} (xs : List α) : cutA xs none (some (-1)) = xs.dropLast := by
  rw [vqA (n := xs.length - 1), List.dropLast_eq_take]
  show (if (-1 : Int) < 0 then ((-1 : Int) + (xs.length : Int)).toNat else min (-1 : Int).toNat xs.length) = _
  rw [if_pos (by decide)]; omega
end Wm
namespace L2
open PySem
theorem IsKAll.at {K : PySem.W.Frag} {H : Hp} : ∀ {ds : List PyData} {xs : List V} {i : Nat} {x : V}, IsKAll K H ds xs → xs[i]? = some x → ∃ d, ds[i]? = some d ∧ IsK K H d x
  | _, _, 0, _, .cons h _, h2 => by
    simp only [List.getElem?_cons_zero, Option.some.injEq] at h2
    subst h2; exact ⟨_, rfl, h⟩
  | _, _, i + 1, _, .cons _ r, h2 => by
    simp only [List.getElem?_cons_succ] at h2
    obtain ⟨d, h1, h3⟩ := r.at h2
    exact ⟨d, by simpa using h1, h3⟩
end L2
namespace Wm
open PySem L2
section
variable {H : Hp}
theorem pqP {r e : Bool} {ss : List (List Nat)} {v : V} (h : IsT H (.tuple [.bool r, .tuple (ss.map st), .bool e]) v) : ∃ p q, v = .ref p ∧ H p = some (.tup [.bl r, .ref q, .bl e]) ∧ H q = some (.tup (ss.map fun l => V.str ⟨l.toArray⟩)) := by
  obtain ⟨p, x, y, z, rfl, hp, h1, h2, h3⟩ := isT3 h
  cases kqE h1
  cases kqE h3
  obtain ⟨q, xs, rfl, hq, r⟩ := iqs h2
  cases kqX r
  exact ⟨p, q, rfl, hp, hq⟩
theorem wayT' {r e : Bool} {ss : List (List Nat)} {p q : Addr} (hp : H p = some (.tup [.bl r, .ref q, .bl e])) (hq : H q = some (.tup (ss.map fun l => V.str ⟨l.toArray⟩))) : IsT H (.tuple [.bool r, .tuple (ss.map st), .bool e]) (.ref p) :=
  .tup hp (.cons (.bl _) (.cons (.tup hq (hqd _)) (.cons (.bl _) .nil)))
theorem jqY {x : Ad} {v : V} (h : IsT H x.data v) : ∃ p w q, v = .ref p ∧ H p = some (.tup [.str ⟨x.scheme.toArray⟩, otV x.house, itV x.door, w, q, otV x.mark]) ∧ IsT H x.way w ∧ IsT H (qD x.quest) q := by
  obtain ⟨p, x0, x1, x2, x3, x4, x5, rfl, hp, i0, i1, i2, i3, i4, i5⟩ := isT6 (show IsT H (.tuple [st x.scheme, oD x.house, iD x.door, x.way, qD x.quest, oD x.mark]) v from h)
  cases qqq i0
  cases sq0 i1
  cases xqG i2
  cases sq0 i5
  exact ⟨p, x3, x4, rfl, hp, i3, i4⟩
theorem adT {x : Ad} {p : Addr} {w q : V} (hp : H p = some (.tup [.str ⟨x.scheme.toArray⟩, otV x.house, itV x.door, w, q, otV x.mark])) (hw : IsT H x.way w) (hq : IsT H (qD x.quest) q) : IsT H x.data (.ref p) :=
  .tup hp (.cons (.str _) (.cons (oqv _) (.cons (vqM _) (.cons hw (.cons hq (.cons (oqv _) .nil))))))
end
theorem Ad.Wf.sg {x : Ad} (h : x.Wf) : AllSg x.steps := fun s hs => (h.stp s hs).2
theorem Ad.Wf.local {x : Ad} (h : x.Wf) : ({ x with scheme := [], house := none, door := none } : Ad).Wf :=
  ⟨⟨Nat.zero_le _, (fun c hc => by cases hc), (fun c hc => by cases hc)⟩, (fun l e => by cases e), (fun l e => by cases e), h.stp, (fun z => z.elim (fun y => absurd rfl y) (fun y => absurd rfl y)), h.end_, h.que, h.mar⟩
theorem Ad.Wf.noquest {x : Ad} (h : x.Wf) : ({ x with quest := none } : Ad).Wf :=
  ⟨h.sch, h.hou, h.doo, h.stp, h.roo, h.end_, (fun ps e => by cases e), h.mar⟩
def Goods (n : Nat) (H : Hp) (vs : List V) : Prop := ∀ v ∈ vs, ∃ x : Ad, x.Wf ∧ x.steps.length ≤ n ∧ IsT H x.data v
theorem Goods.cons {n : Nat} {H : Hp} {v : V} {vs : List V} {x : Ad} (h1 : x.Wf) (h2 : x.steps.length ≤ n) (h3 : IsT H x.data v) (h : Goods n H vs) : Goods n H (v :: vs) := fun u hu => by
  rcases List.mem_cons.mp hu with rfl | hu
  · exact ⟨x, h1, h2, h3⟩
  · exact h u hu
end Wm
namespace Wm
open PySem L2
end Wm
namespace Wm
open PySem L2
end Wm
namespace L2
open PySem PySem.Spec PyProof.Rows
theorem yqS {b c : Bool} {H : Hp} {Q : VK} : rIsB true (.bl b) (.bl c) H Q ↔ Q (.bl (!decide (b = c))) H := Iff.rfl
end L2
namespace Wm
open PySem L2
end Wm
namespace Wm
open PySem L2
end Wm
namespace Wm
open PySem L2
theorem mqN : ∀ (h t : List Stp), comm h t ≤ t.length
  | [], t => by simp [comm]
  | _ :: _, [] => by simp [comm]
  | a :: l, b :: m => by
    unfold comm
    split
    · have := mqN l m
      simp; omega
    · simp
theorem sqA : ∀ {h t : List Stp} {i : Nat}, i ≤ comm h t → (i < comm h t ↔ ∃ s, h[i]? = some s ∧ t[i]? = some s)
  | [], t, i, hi => by
    have : i = 0 := by simpa [comm] using hi
    subst this
    simp [comm]
  | a :: l, [], i, hi => by
    have : i = 0 := by simpa [comm] using hi
    subst this
    simp [comm]
  | a :: l, b :: m, i, hi => by
    unfold comm at hi ⊢
    by_cases e : a = b
    · rw [if_pos e] at hi ⊢
      cases i with
      | zero => simp [e]
      | succ i =>
        have ih := sqA (h := l) (t := m) (i := i) (by omega)
        simp only [List.getElem?_cons_succ]
        rw [← ih]
        omega
    · rw [if_neg e] at hi ⊢
      have : i = 0 := by omega
      subst this
      simp [e]
      intro h; exact e h.symm
theorem sqo {α : Type} (xs : List α) {n : Nat} (h : n ≤ xs.length) : cutA xs (some (n : Int)) none = xs.drop n := by
  unfold cutA
  have e1 : HT.sIx xs.length 0 (some (n : Int)) = n := by rw [HT.sIx_nat]; omega
  rw [e1, show HT.sIx xs.length xs.length none = xs.length from rfl]
  exact List.take_of_length_le (by rw [List.length_drop]; omega)
theorem qqP {α : Type} (xs : List α) : cutA xs (some (-1)) none = xs.drop (xs.length - 1) := by
  unfold cutA
  have e1 : HT.sIx xs.length 0 (some (-1)) = xs.length - 1 := by
    show (if (-1 : Int) < 0 then ((-1 : Int) + (xs.length : Int)).toNat else min (-1 : Int).toNat xs.length) = _
    rw [if_pos (by decide)]; omega
  rw [e1, show HT.sIx xs.length xs.length none = xs.length from rfl]
  exact List.take_of_length_le (by rw [List.length_drop]; omega)
theorem vqa (a b : Option (List (List Nat × Option (List Nat)))) : PyData.eqv (qD a) (qD b) = decide (a = b) := by
  have h := Ad.eqv_iff ⟨[], none, none, false, [], false, a, none⟩ ⟨[], none, none, false, [], false, b, none⟩
  have e : PyData.eqv (Ad.data ⟨[], none, none, false, [], false, a, none⟩) (Ad.data ⟨[], none, none, false, [], false, b, none⟩) = PyData.eqv (qD a) (qD b) := by
    simp [Ad.data, Ad.way, PyData.eqv, PyData.eqvAll, oD, iD]
  rw [e] at h
  rw [Bool.eq_iff_iff, decide_eq_true_eq, h]
  constructor
  · intro z; exact congrArg Ad.quest z
  · intro z; rw [z]
theorem oqo {q : Option (List (List Nat × Option (List Nat)))} (h : ∀ ps, q = some ps → ∀ p ∈ ps, PairOk p) : SeqAt.shaped (qD q) = true := (LayAt.qD h).shaped (by decide)
theorem wqx {a b : Option (List Nat)} : otV a = otV b ↔ a = b := by
  cases a <;> cases b <;> simp [otV]
end Wm
namespace Wm
open PySem L2
theorem yqP {a b : Option (List Nat)} {H : Hp} {R : VK} (h : R (.bl (!decide (a = b))) H) : rNe (otV a) (otV b) H R := by
  have ha : NS (otV a) := by cases a <;> simp [otV, NS]
  have hb : NS (otV b) := by cases b <;> simp [otV, NS]
  rw [vqC ha hb]
  rw [show decide (otV a = otV b) = decide (a = b) from decide_eq_decide.mpr wqx]
  exact h
theorem yqy {a b : Option Int} {H : Hp} {R : VK} (h : R (.bl (!decide (a = b))) H) : rNe (itV a) (itV b) H R := by
  cases a with
  | none =>
    cases b with
    | none => exact ⟨rfl, by simpa using h⟩
    | some j => exact ⟨rfl, by simpa [itV] using h⟩
  | some i =>
    cases b with
    | none => exact ⟨rfl, by simpa [itV] using h⟩
    | some j =>
      refine rq9.mpr ?_
      rw [show decide (i = j) = decide (some i = some j) from decide_eq_decide.mpr (by simp)]
      exact h
end Wm
namespace Wm
open PySem L2
structure GoodAd (n : Nat) (x : Ad) : Prop where
  wf : x.Wf
  ti : x.Tiny
  sc : x.scheme ≠ []
  ln : x.steps.length ≤ n
theorem GoodAd.le {n m : Nat} {x : Ad} (h : GoodAd n x) (hm : n ≤ m) : GoodAd m x := ⟨h.wf, h.ti, h.sc, Nat.le_trans h.ln hm⟩
theorem GoodAd.rt {n : Nat} {x : Ad} (h : GoodAd n x) : x.rooted = true := h.wf.roo (.inl h.sc)
theorem GoodAd.head {n m : Nat} {b g : Ad} (hb : GoodAd n b) (hg : GoodAd m g) : GoodAd m { g with scheme := b.scheme, house := b.house, door := b.door } :=
  ⟨⟨hb.wf.sch, hb.wf.hou, hb.wf.doo, hg.wf.stp, fun _ => hg.rt, hg.wf.end_, hg.wf.que, hg.wf.mar⟩, ⟨hg.ti.stp, hg.ti.que, hg.ti.mar, hb.ti.hou⟩, hb.sc, hg.ln⟩
theorem GoodAd.way {n m : Nat} {g : Ad} (hg : GoodAd n g) {ss : List Stp} {e : Bool} (h1 : ∀ s ∈ ss, StepOk s ∧ s.length ≤ 9) (h2 : ss.length ≤ m) (h3 : ss = [] → e = true) : GoodAd m { g with rooted := true, steps := ss, ends := e } :=
  ⟨⟨hg.wf.sch, hg.wf.hou, hg.wf.doo, fun s hs => (h1 s hs).1, fun _ => rfl, h3, hg.wf.que, hg.wf.mar⟩, ⟨fun s hs => (h1 s hs).2, hg.ti.que, hg.ti.mar, hg.ti.hou⟩, hg.sc, h2⟩
theorem GoodAd.quest {n m : Nat} {b g : Ad} (hb : GoodAd n b) (hg : GoodAd m g) : GoodAd m { g with quest := b.quest } :=
  ⟨⟨hg.wf.sch, hg.wf.hou, hg.wf.doo, hg.wf.stp, hg.wf.roo, hg.wf.end_, hb.wf.que, hg.wf.mar⟩, ⟨hg.ti.stp, hb.ti.que, hg.ti.mar, hg.ti.hou⟩, hg.sc, hg.ln⟩
theorem GoodAd.noquest {m : Nat} {g : Ad} (hg : GoodAd m g) : GoodAd m { g with quest := none } :=
  ⟨hg.wf.noquest, ⟨hg.ti.stp, (fun ps e => by cases e), hg.ti.mar, hg.ti.hou⟩, hg.sc, hg.ln⟩
theorem GoodAd.okst {n : Nat} {g : Ad} (hg : GoodAd n g) : ∀ s ∈ g.steps, StepOk s ∧ s.length ≤ 9 := fun s hs => ⟨hg.wf.stp s hs, hg.ti.stp s hs⟩
end Wm
namespace L2
open PySem PySem.Spec PyProof.Rows
theorem qqJ : Manifest.owners.lookup (String.ofList ['d', 'e', 's', 'r', 'e', 'v', 'e', 'r'].reverse) = some Manifest.sig_reversed := by kernel_rfl
theorem lqH : Slot "reversed" "__next__" "reversed.__next__" := .of (owner := "reversed") (n := "__next__") (by rw [typeLookup_type, builtinLookup_eq_fast]; kernel_rfl) (by decide +kernel) (by decide +kernel) (by decide +kernel) (by first | exact .inl (by decide +kernel) | exact .inr (by decide +kernel)) (by rw [isSubtype_type]; kernel_rfl)
theorem qqt : entryFor table "reversed.__next__" = some Builtin.«reversed.__next__» := entryFor_of_tree (by kernel_rfl)
theorem qqx (a : Value) : argsOk "reversed.__next__" ⟨[a], []⟩ := by
  unfold argsOk; rw [signature?_of (id := "reversed.__next__") (n := ['_', '_', 't', 'x', 'e', 'n', '_', '_']) (o := ['d', 'e', 's', 'r', 'e', 'v', 'e', 'r']) (by kernel_rfl) qqJ]; kernel_rfl
theorem rqI : Slot "reversed" "__iter__" "reversed.__iter__" := .of (owner := "reversed") (n := "__iter__") (by rw [typeLookup_type, builtinLookup_eq_fast]; kernel_rfl) (by decide +kernel) (by decide +kernel) (by decide +kernel) (by first | exact .inl (by decide +kernel) | exact .inr (by decide +kernel)) (by rw [isSubtype_type]; kernel_rfl)
theorem tqR (a : Value) : argsOk "reversed.__iter__" ⟨[a], []⟩ := by
  unfold argsOk; rw [signature?_of (id := "reversed.__iter__") (n := ['_', '_', 'r', 'e', 't', 'i', '_', '_']) (o := ['d', 'e', 's', 'r', 'e', 'v', 'e', 'r']) (by kernel_rfl) qqJ]; kernel_rfl
theorem uqj : entryFor table "reversed.__iter__" = some Builtin.«dict_keyiterator.__iter__» :=
  entryFor_alias (id' := "dict_keyiterator.__iter__") (by kernel_rfl) (by first | rfl | decide +kernel | (unfold String.splitOn; simp +decide [String.splitOnAux])) (by decide +kernel) (by kernel_rfl)
theorem sqx : Slot "reversed" "__init__" "object.__init__" := .of (owner := "object") (n := "__init__") (by rw [typeLookup_type, builtinLookup_eq_fast]; kernel_rfl) (by decide +kernel) (by decide +kernel) (by decide +kernel) (by first | exact .inl (by decide +kernel) | exact .inr (by decide +kernel)) (by rw [isSubtype_type]; kernel_rfl)
theorem nq7 : TypeCalled "reversed" "reversed.__new__" "object.__init__" := ⟨by decide +kernel, F.create_reversed, ⟨_, _, F.mro_reversed⟩, F.made_reversed, F.plain_reversed_new, F.sub_reversed_self, sqx⟩
theorem tqo : typeLookup (.type "tuple") "__reversed__" = pure none := by rw [typeLookup_type, builtinLookup_eq_fast]; kernel_rfl
theorem tqf : isSubtype (.type "tuple") (.type "dict") = pure false := by rw [isSubtype_type]; kernel_rfl
def rvObj (t : Addr) (i : Int) : Obj := { cls := .type "reversed", data := .fields #[.ref t, rawInt i] }
def IsRv (h : Heap) (a t : Addr) (i : Int) : Prop := ∃ o, h.get? a = some o ∧ o.cls = .type "reversed" ∧ o.data = .fields #[.ref t, rawInt i]
section
variable {prog : Program} {w : World} {A : Around} {E : Value → Shared → Prop} {s : Shared}
theorem IsRv.ty {a t : Addr} {i : Int} (x : IsRv s.heap a t i) : s.TypeIs (.ref a) "reversed" := let ⟨o, ho, hc, _⟩ := x; ⟨o, ho, hc⟩
theorem wqC {t : Addr} {items : Array Value} {Q₁ : Value → Shared → Prop} (ht : IsTup s.heap t items) (hz : items.size ≤ sizeLine)
    (h : ∀ tk, Q₁ (.ref s.heap.objs.size) { s with heap := s.heap.push (rvObj t ((items.size : Int) - 1)), toks := tk }) :
    codeAny (model prog w) A (.call (.builtin "reversed.__new__") ⟨[.type "reversed", .ref t], []⟩) (wants Q₁ E) s := by
  refine codeAny_of_tree ?_
  show wpAny _ A.in1 (do checkBuiltinCall "reversed.__new__" ⟨[.type "reversed", .ref t], []⟩; again (.builtin "reversed.__new__" ⟨[.type "reversed", .ref t], []⟩)) _ _ s
  refine wpAny_bind (wpAny_of_eq (F.newCall_reversed_1 _) (wpAny_pure ⟨plainId_quiet F.plain_reversed_new _, codeAny_builtin F.entry_reversed_new ?_⟩))
  rw [Around.under_plainId F.plain_reversed_new _]
  unfold Builtin.«reversed.__new__»
  refine wpAny_bind (wpAny_of_eq (newClass_reversed _) ?_)
  try dsimp only
  refine wpAny_bind (wpAny_of_eq (a := ()) (by first | rfl | kernel_rfl) (wpAny_bind (wpAny_of_eq (a := ()) (by first | rfl | kernel_rfl) ?_)))
  try dsimp only
  refine wpAny_bind (wpAny_specialOf ht.typeIs tqo ?_)
  try dsimp only
  refine wpAny_bind ?_
  refine wpAny_bind (m := isInstance (.ref t) (.type "dict")) (wpAny_isInstance (T := "tuple") (b := false) ht.typeIs tqf ?_)
  try dsimp only
  rw [if_neg Bool.false_ne_true]
  refine wpAny_bind (wpAny_specialOf ht.typeIs PySem.F.slot_tuple_getitem.lookup ?_)
  try dsimp only
  rw [if_pos (by decide)]
  refine wpAny_pure ?_
  rw [if_neg (show ¬ ((!true) = true) by decide)]
  have hf : (items.size : Int) < 2 ^ 63 := by have := line63; omega
  refine wpAny_bind (len_tuple ht hf (wpAny_bind (m := asInt? _) (wpAny_pure ?_)))
  try dsimp only
  refine wpAny_bind ?_
  show wpAny _ _ (newObj (.type "reversed") (.fields #[.ref t, rawInt ((items.size : Int) - 1)])) _ _ _
  exact wpAny_newObj_type (wpAny_pure (h _)) (show 2 ≤ sizeLine + 2 from Nat.le_add_left 2 _)
theorem vqy {t : Addr} {items : Array Value} {Q : Value → Shared → Prop} (ht : IsTup s.heap t items) (hz : items.size ≤ sizeLine)
    (h : ∀ tk, Q (.ref s.heap.objs.size) { s with heap := s.heap.push (rvObj t ((items.size : Int) - 1)), toks := tk }) : wpAny (model prog w) A (call (.type "reversed") [.ref t]) Q E s := by
  refine callType_codes (Q₁ := fun obj s₁ => obj = .ref s.heap.objs.size ∧ ∃ tk, s₁ = { s with heap := s.heap.push (rvObj t ((items.size : Int) - 1)), toks := tk }) nq7 (F.typeCall_reversed_1 _) F.entry_object_init (wqC ht hz fun tk => ⟨rfl, tk, rfl⟩) ?_
  rintro obj s₁ ⟨rfl, tk, rfl⟩
  have hT : ({ s with heap := s.heap.push (rvObj t ((items.size : Int) - 1)), toks := tk } : Shared).TypeIs (.ref s.heap.objs.size) "reversed" := ⟨_, Heap.get?_push_size _ rfl, rfl⟩
  refine ⟨hT, F.args_object_init_2 _ _, ?_⟩
  exact object_init_meets sqx.lookup nq7.made (by decide) prog w A.in1 _ _ ⟨hT, rfl, h tk⟩
theorem wqI {it t : Addr} {i : Nat} {items : Array Value} {x : Value} {Q : Option Value → Shared → Prop} (hit : IsRv s.heap it t (i : Int)) (ht : IsTup s.heap t items) (hi : i < items.size) (hz : items.size ≤ sizeLine) (hx : items[i]? = some x)
    (hQ : ∀ h' tk, IsRv h' it t ((i : Int) - 1) → Heap.SameBut it s.heap h' → Q (some x) { s with heap := h', toks := tk }) : wpAny (model prog w) A (pyNext (.ref it)) Q E s := by
  obtain ⟨o, ho, hc, hd⟩ := id hit
  unfold pyNext
  refine wpAny_bind (wpAny_attempt (wpAny_callSpecial?_slot (name := Str.ofString "__next__") hit.ty lqH (wpAny_call_entry lqH hit.ty qqt ?_ (qqx _))))
  unfold Builtin.«reversed.__next__»
  refine wpAny_bind (wpAny_of_eq (a := (Value.ref it, [])) rfl (wpAny_bind (wpAny_field ho hd (x := .ref t) rfl (wpAny_bind (wpAny_field ho hd (x := rawInt (i : Int)) rfl ?_)))))
  show wpAny _ _ (if (i : Int) < 0 then _ else _) _ _ s
  rw [if_neg (by omega)]
  refine wpAny_bind (wpAny_specialOf ht.typeIs PySem.F.slot_tuple_getitem.lookup ?_)
  try dsimp only
  rw [if_neg (show ¬ ((some (Value.builtin "tuple.__getitem__")).isNone = true) by decide)]
  have h63 := line63
  have hk : seqIndex? (i : Int) items.size = some i := by
    rw [seqIndex_of (by omega) (by omega)]
    simp
  refine wpAny_bind (wpAny_mkInt (wpAny_bind (wpAny_attempt (PyProof.Rows.getItem_tuple ht (by omega) (by omega) hk hx ?_))))
  try dsimp only
  refine wpAny_bind (wpAny_field ho hd (x := rawInt (i : Int)) rfl ?_)
  show wpAny _ _ (setField (.ref it) 1 (rawInt ((i : Int) - 1)) >>= _) _ _ _
  refine wpAny_bind (wpAny_setField ho hd (by simp) (wpAny_pure ⟨x, rfl, wpAny_pure (hQ _ _ ?_ (Heap.SameBut.update ..))⟩))
  exact ⟨_, Heap.get?_update_self _ ho (Obj.isFreed_of_fields (Obj.data_mapFields hd _)), (Obj.cls_mapFields ..).trans hc, by rw [Obj.data_mapFields hd]; simp⟩
theorem xqi {it t : Addr} {Q : Option Value → Shared → Prop} (hh : A.handled = none) (hit : IsRv s.heap it t (-1)) (hQ : ∀ h', Heap.ExtBut it s.heap h' → Q none { s with heap := h' }) : wpAny (model prog w) A (pyNext (.ref it)) Q E s := by
  obtain ⟨o, ho, hc, hd⟩ := id hit
  unfold pyNext
  refine wpAny_bind (wpAny_attempt (wpAny_callSpecial?_slot (name := Str.ofString "__next__") hit.ty lqH (wpAny_call_entry lqH hit.ty qqt ?_ (qqx _))))
  unfold Builtin.«reversed.__next__»
  refine wpAny_bind (wpAny_of_eq (a := (Value.ref it, [])) rfl (wpAny_bind (wpAny_field ho hd (x := .ref t) rfl (wpAny_bind (wpAny_field ho hd (x := rawInt (-1)) rfl ?_)))))
  show wpAny _ _ (if (-1 : Int) < 0 then _ else _) _ _ s
  rw [if_pos (by decide)]
  refine wpAny_bind (wpAny_rule (wpAny_bind ?_))
  refine wpAny_bind (m := setField (.ref it) 1 (rawInt (-1))) (wpAny_setField ho hd (by simp) ?_)
  have ho2 := Heap.get?_update_self (Obj.mapFields fun x => x.setIfInBounds 1 (rawInt (-1))) ho (Obj.isFreed_of_fields (Obj.data_mapFields hd _))
  refine wpAny_setField ho2 (Obj.data_mapFields hd _) (by simp) (wpAny_bind ?_)
  show wpAny _ _ (newExc (.type "StopIteration") [] >>= _) _ _ _
  refine wpAny_bind ?_
  simp only [newExc, newTuple]
  refine wpAny_bind (wpAny_newObj_type (wpAny_bind (m := firstArgMember _ _) (wpAny_of_eq (a := Value.none) (by first | rfl | (simp only [firstArgMember]; rfl)) (wpAny_newObj_type ?_ (by size_fits)))) (by size_fits))
  simp only [raiseNew]
  refine wpAny_bind (wpAny_handled ?_)
  first | rw [show A.in1.handled = none from hh] | rw [hh]
  refine wpAny_bind (wpAny_pure (wpAny_throw ?_))
  refine wpAny_bind (wpAny_isInstance (T := "StopIteration") (b := true) (show Shared.TypeIs _ (.ref _) "StopIteration" from ⟨_, Heap.get?_push_size _ rfl, rfl⟩) isSubtype_stop (wpAny_pure (hQ _ ?_)))
  have e1 : Heap.ExtBut it s.heap (s.heap.update it (Obj.mapFields fun x => x.setIfInBounds 1 (rawInt (-1)))) := (Heap.SameBut.update ..).extBut
  exact fun b o hb e => Heap.get?_push_of_some _ (Heap.get?_push_of_some _ ((Heap.SameBut.update ..).extBut b o hb (e1 b o hb e)))
theorem sqE {it t : Addr} {i : Int} {Q : Value → Shared → Prop} (hit : IsRv s.heap it t i) (h : Q (.ref it) s) : wpAny (model prog w) A (pyIter (.ref it)) Q E s := by
  refine wpAny_pyIter_slot hit.ty rqI (wpAny_call_entry rqI hit.ty uqj ?_ (tqR _))
  show wpAny _ _ (ret (.ref it)) _ _ s
  exact wpAny_pure ⟨_, rfl, "reversed", _, hit.ty, lqH.lookup, h⟩
end
def Itv (K : PySem.W.Frag) (a : Addr) (n : Nat) : It :=
  ⟨fun i H => ∃ xs x, SqT K H a xs ∧ xs.length = n ∧ i < n ∧ xs[n - 1 - i]? = some x, fun i H x H' => H' = H ∧ ∀ xs, SqT K H a xs → xs.length = n → xs[n - 1 - i]? = some x, fun i _ => n ≤ i⟩
theorem vqN {P : Program} {w : World} {K : PySem.W.Frag} {tg : Expr} (a it : Addr) (n : Nat) : Turn P w K tg (Itv K a n) [it] it (fun i h => i ≤ n ∧ IsRv h it a ((n : Int) - 1 - (i : Int))) where
  mem := by simp
  obj := fun i h st b hb => by
    have e : b = it := by simpa using hb
    subst e
    obtain ⟨_, o, e, c, d⟩ := st
    exact ⟨o, e, fun v z => by rw [d] at z; cases z⟩
  keep := fun i h h' st k => by
    obtain ⟨hi, o, e, r⟩ := st
    exact ⟨hi, o, k it (by simp) o e, r⟩
  item := by
    intro X hP hw hK hc i pins s σ H E I hf st hg
    subst hP hw hK
    obtain ⟨xs, x, hq, hn, hi, hx⟩ := hg
    obtain ⟨its, rv, p, hz⟩ := I.tuple hq
    obtain ⟨u, hu, ru⟩ := rv.get hx
    obtain ⟨f0, f1, f2, f3, f4, f5⟩ := hf it (by simp)
    have hl := rv.length
    have e1 : (n : Int) - 1 - (i : Int) = ((n - 1 - i : Nat) : Int) := by omega
    have hit := st.2
    rw [e1] at hit
    refine wqI hit p (by simp; omega) (by simp; omega) (x := u) (by simpa using hu) fun h' tk st' sb => ?_
    have I1 : Inv X pins σ H { s with heap := h', toks := tk } := I.turned (t' := tk) (fun b o hb e => (sb.2 b hb).trans e) f0 f1 f3 f4 f5
    have e2 : ((n - 1 - i : Nat) : Int) - 1 = (n : Int) - 1 - ((i + 1 : Nat) : Int) := by omega
    rw [e2] at st'
    obtain ⟨o, e, c, d⟩ := id st'
    exact ⟨u, rfl, rqa (s := { s with heap := h', toks := tk }) e c d (by decide) ⟨x, H, I1, ru, ⟨rfl, fun ys hy hn' => by rw [I.tuple_inj hy hq]; exact hx⟩, ⟨hi, st'⟩, fun b hb => (hf b hb).1⟩⟩
  done := by
    intro X hP hw hK hc i pins s σ H E I hf st hg
    subst hP hw hK
    obtain ⟨f0, f1, f2, f3, f4, f5⟩ := hf it (by simp)
    have hge : n ≤ i := hg
    have e1 : (n : Int) - 1 - (i : Int) = -1 := by have := st.1; omega
    have hit := st.2
    rw [e1] at hit
    exact xqi (I.ok.hd hc) hit fun h' eb => ⟨rfl, I.turned (t' := s.toks) (fun b o hb e => eb b o hb e) f0 f1 f3 f4 f5⟩
  self := fun _ _ _ _ _ st h => sqE st.2 h
section
variable {X : Cx} {tg : Expr} {K : PySem.W.Frag}
def iRev (K : PySem.W.Frag) (ta : TA) : TI := fun σ H R => ta σ H fun vs H1 => ∃ a xs, vs = [.ref a] ∧ SqT K H1 a xs ∧ R (Itv K a xs.length) H1
theorem xqZ {a : Expr} {ta : TA} {p pos : Pos} (hg : Gl X "reversed") (hm : X.mg "reversed" = none) (ha : PA X [a] ta) (hs : starEach [a] X.env = [(false, eval a X.env)] := by rfl) : PI X tg (.Call (.Name "reversed" p) [a] [] pos) (iRev X.K ta) := by
  intro pins s σ H R I h
  refine Call_ (pqb I hg hm boot_reversed (PyProof.Rows.callWith_type1 (thn (ha pos pins s σ H _ I h) fun us s1 ⟨vs, H1, I1, r1, q1⟩ => ?_) hs rfl))
  obtain ⟨a, xs, e, hq, q⟩ := q1
  subst e
  obtain ⟨u, rfl, ru⟩ := vals1 r1
  cases ru
  obtain ⟨its, rv, pt, hz⟩ := I1.tuple hq
  have hl := rv.length
  refine vqy pt (by simp; omega) fun tk => ?_
  have hn : IsRv (s1.heap.push (rvObj a ((its.toArray.size : Int) - 1))) s1.heap.objs.size a ((xs.length : Int) - 1 - ((0 : Nat) : Int)) := ⟨_, Heap.get?_push_size _ rfl, rfl, by simp [rvObj, hl]⟩
  refine sqE (s := { s1 with heap := s1.heap.push (rvObj a ((its.toArray.size : Int) - 1)), toks := tk }) hn ?_
  refine ⟨s1.heap.objs.size, [s1.heap.objs.size], _, _, H1, rfl, I1.kept (t' := tk) fun b o e => Heap.get?_push_of_some _ e, vqN a _ xs.length, ⟨Nat.zero_le _, hn⟩, fun b hb => ?_, q⟩
  have e : b = s1.heap.objs.size := by simpa using hb
  subst e
  exact I1.fpOk (Nat.le_refl _) (I1.hok.fresh (Nat.le_refl _))
theorem vq9 {a : Expr} {ta : TA} {p pos : Pos} (h : X.K = K) (hg : Gl X "reversed") (hm : X.mg "reversed" = none) (ha : PA X [a] ta) (hs : starEach [a] X.env = [(false, eval a X.env)] := by rfl) : PI X tg (.Call (.Name "reversed" p) [a] [] pos) (iRev K ta) := by
  subst h; exact xqZ hg hm ha hs
variable {σ : St} {H : Hp} {D : Ends} {g : TG} {tb : TS} {aa : TA}
theorem vqJ : tFor (iRev K aa) g tb D σ H ↔ aa σ H fun vs H1 => ∃ a xs, vs = [.ref a] ∧ SqT K H1 a xs ∧ LoopI (Itv K a xs.length) g tb D σ H1 := Iff.rfl
theorem tqH {a : Addr} {xs : List V} (Pv : Nat → St → Hp → Prop) (h0 : Pv 0 σ H) (hl : ∀ i σ H, i ≤ xs.length → Pv i σ H → SqT K H a xs)
    (hs : ∀ i x σ H, i < xs.length → xs[xs.length - 1 - i]? = some x → Pv i σ H → g x σ H fun σ2 H2 => tb { D with nx := Pv (i + 1), ct := Pv (i + 1), bk := D.nx } σ2 H2) (hd : ∀ σ H, Pv xs.length σ H → D.nx σ H) : LoopI (Itv K a xs.length) g tb D σ H := by
  refine ⟨fun i m σ H => m = xs.length - i ∧ i ≤ xs.length ∧ Pv i σ H, ⟨xs.length, by simp, Nat.zero_le _, h0⟩, ?_⟩
  rintro i m σ H ⟨rfl, hi, p⟩
  have hq := hl i σ H hi p
  by_cases hlt : i < xs.length
  · have hx : xs[xs.length - 1 - i]? = some xs[xs.length - 1 - i] := List.getElem?_eq_getElem (by omega)
    refine .inr ⟨⟨xs, _, hq, rfl, hlt, hx⟩, Pv (i + 1), fun σ' H' p' => ⟨xs.length - (i + 1), by omega, rfl, hlt, p'⟩, fun x H' y => ?_⟩
    obtain ⟨e, y⟩ := y
    subst e
    exact hs i x σ _ hlt (y xs hq rfl) p
  · have e : i = xs.length := by omega
    subst e
    exact .inl ⟨Nat.le_refl _, hd σ H p⟩
end
end L2
namespace L2
open PySem PySem.Spec PyProof.Rows
theorem oqp : fillsNumberSlot (.type "tuple") "mul" = pure false := PySem.fillsNumberSlot_seq (id := "tuple.__mul__") (r := some (.builtin "tuple.__rmul__")) F.slot_tuple_mul.lookup (by decide +kernel) F.slot_tuple_rmul.lookup (by decide +kernel)
theorem oqI : seqRepeat? (.type "tuple") = pure (some (.builtin "tuple.__mul__")) := by
  unfold seqRepeat?
  rw [PySem.seqSlot_of (T := "tuple") (name := "__mul__") (id := "tuple.__mul__") F.slot_tuple_mul.lookup (by decide +kernel), PySem.seqSlot_of (T := "tuple") (name := "__rmul__") (id := "tuple.__rmul__") F.slot_tuple_rmul.lookup (by decide +kernel)]
  rfl
theorem sqk (a : Int) (t : Tok) (l : Addr) (items : Array Value) (n : Nat) (dd : Option Addr) (sl : Array (Option Value)) :
    Meets (Builtin.«int.__rmul__» ⟨[.int a t, .ref l], []⟩) (fun _ R s => s.heap.get? l = some { cls := .type "tuple", dict := dd, data := .seq items n, slots := sl } ∧ R (.ok (.ret Value.notImplemented)) s) :=
  .of_wp fun prog w A R s h => by
    obtain ⟨hp, g, d, tk, os⟩ := s; obtain ⟨hl, h⟩ := h
    wp_walk; exact ⟨_, rfl, h⟩
theorem yqp (l : Addr) (items : Array Value) (n : Nat) (dd : Option Addr) (sl : Array (Option Value)) (x : Int) (u : Tok) (h0 : items.isEmpty = false) (h1 : ¬ (decide (x < -(2 ^ 63)) || decide (x ≥ 2 ^ 63)) = true) (h2 : 2 ≤ x) (h3 : ¬ ((items.size : Int) * x > (2 ^ 63 - 1) / 8)) (h4 : (items.size : Int) * x ≤ sizeLine) :
    Meets (Builtin.«tuple.__mul__» ⟨[.ref l, .int x u], []⟩) (fun _ R s => s.heap.get? l = some { cls := .type "tuple", dict := dd, data := .seq items n, slots := sl } ∧
      R (.ok (.ret (Value.ref s.heap.objs.size))) { s with heap := s.heap.push { cls := Value.type "tuple", data := Data.seq (List.foldl (fun x1 x2 => x1 ++ x2) #[] (List.replicate x.toNat items)) }, toks := s.toks }) :=
  .of_wp fun prog w A R s h => by
    obtain ⟨hp, g, d, tk, os⟩ := s; obtain ⟨hl, h⟩ := h
    unfold Builtin.«tuple.__mul__»
    wp_walk
    have hx1 : ¬ (items.isEmpty || x == 1) = true := by rw [h0, Bool.false_or]; intro z; have := eq_of_beq z; omega
    have hx2 : ¬ (decide (x ≤ 0) || items.isEmpty) = true := by rw [h0, Bool.or_false, decide_eq_true_eq]; omega
    have hx3 : ¬ Builtin.Tuple.tupleTooMany ((items.size : Int) * x) = true := by unfold Builtin.Tuple.tupleTooMany; rw [decide_eq_true_eq]; omega
    rw [if_neg h1]
    wp_walk
    rw [if_neg hx1]
    try dsimp only
    rw [if_neg hx2]
    try dsimp only
    rw [if_neg h3]
    try dsimp only
    rw [if_neg hx3]
    refine wpAny_bind (m := Builtin.Tuple.tupleExact _) (wpAny_newObj_type (wpAny_pure ⟨_, rfl, h⟩) ?_)
    show (List.foldl (fun x1 x2 => x1 ++ x2) #[] (List.replicate x.toNat items)).size ≤ sizeLine
    have e : List.foldl (fun x1 x2 => x1 ++ x2) #[] (List.replicate x.toNat items.toList.toArray) = (List.replicate x.toNat items.toList).flatten.toArray := by
      have := jqf items.toList x.toNat []
      rw [List.nil_append] at this
      exact this
    rw [show items.toList.toArray = items by simp] at e
    rw [e, List.size_toArray, pqF, Array.length_toList]
    have : (items.size : Int) * x = ((x.toNat * items.size : Nat) : Int) := by rw [Int.natCast_mul, Int.toNat_of_nonneg (by omega), Int.mul_comm]
    omega
section
variable {X : Cx}
def rRepT : R2 := fun x y H Q => ∃ a k xs, x = .ref a ∧ y = .int k ∧ H a = some (.tup xs) ∧ 2 ≤ k ∧ k < 1000 ∧ xs.length * k.toNat ≤ sizeLine ∧ ∀ p H', Same H H' → H' p = some (.tup (List.replicate k.toNat xs).flatten) → Q (.ref p) H'
theorem rq2 (l : Addr) (items : Array Value) (n : Nat) (dd : Option Addr) (sl : Array (Option Value)) (x : Int) (u : Tok) (h0 : items.isEmpty = true) (h1 : ¬ (decide (x < -(2 ^ 63)) || decide (x ≥ 2 ^ 63)) = true) :
    Meets (Builtin.«tuple.__mul__» ⟨[.ref l, .int x u], []⟩) (fun _ R s => s.heap.get? l = some { cls := .type "tuple", dict := dd, data := .seq items n, slots := sl } ∧ R (.ok (.ret (Value.ref l))) s) :=
  .of_wp fun prog w A R s h => by
    obtain ⟨hp, g, d, tk, os⟩ := s; obtain ⟨hl, h⟩ := h
    unfold Builtin.«tuple.__mul__»
    have hx1 : (items.isEmpty || x == 1) = true := by rw [h0, Bool.true_or]
    wp_walk
    rw [if_neg h1]
    wp_walk
    exact ⟨_, rfl, h⟩
theorem vqt : OpR X (binaryOp .Mult) rRepT := by
  intro pins s σ H x y v u Q I rx ry h
  obtain ⟨a, k, xs, rfl, rfl, hH, h1, h2, hz, q⟩ := h
  cases rx
  obtain ⟨t, rfl⟩ := ry
  obtain ⟨its, r, p, hl⟩ := I.tuple (SqT.of hH)
  obtain ⟨⟨cls, dd, data, sl⟩, ho, hc, n, hd⟩ := id p
  simp only at hc hd
  subst hc hd
  have hlen := r.length
  have hb : ¬ (decide (k < -(2 ^ 63)) || decide (k ≥ 2 ^ 63)) = true := by
    rw [Bool.or_eq_true, decide_eq_true_eq, decide_eq_true_eq]; omega
  have hprod : ((its.toArray.size : Nat) : Int) * k ≤ sizeLine := by
    rw [List.size_toArray, ← hlen]
    have : (xs.length : Int) * k = ((xs.length * k.toNat : Nat) : Int) := by rw [Int.natCast_mul, Int.toNat_of_nonneg (by omega)]
    omega
  refine wpAny_binaryOp_repeat_ref (T := "tuple") (U := "int") (by decide) p.typeIs (fun s' => typeIs_int s' k t) oqp F.fills_int_mul F.slot_int_rmul oqI F.slot_int_index.lookup
    (call_meets F.slot_int_rmul (typeIs_int s k t) F.entry_int_rmul (F.args_int_rmul_2 _ _) (sqk k t a its.toArray n dd sl) ⟨ho, rfl, p.typeIs, ?_⟩)
  by_cases he : its = []
  · subst he
    have hx0 : xs = [] := r.nil_iff.mp rfl
    subst hx0
    exact call_meets F.slot_tuple_mul p.typeIs F.entry_tuple_mul (F.args_tuple_mul_2 _ _) (rq2 a _ n dd sl k t rfl hb) ⟨ho, .ref a, H, I, rfl, q a H (Same.refl _) (by rw [hH]; congr 2; exact (List.flatten_eq_nil_iff.mpr fun l hl => (List.mem_replicate.mp hl).2).symm)⟩
  · have h0 : its.toArray.isEmpty = false := by simpa using he
    have hcap : ¬ (((its.toArray.size : Nat) : Int) * k > (2 ^ 63 - 1) / 8) := by
      have : (sizeLine : Int) ≤ (2 ^ 63 - 1) / 8 := by decide
      omega
    refine call_meets F.slot_tuple_mul p.typeIs F.entry_tuple_mul (F.args_tuple_mul_2 _ _) (yqp a _ n dd sl k t h0 hb h1 hcap hprod) ⟨ho, ?_⟩
    have e : List.foldl (fun x1 x2 => x1 ++ x2) #[] (List.replicate k.toNat its.toArray) = (List.replicate k.toNat its).flatten.toArray := by
      have := jqf its k.toNat []
      rw [List.nil_append] at this
      exact this
    rw [e]
    have hf : H s.heap.objs.size = none := I.hok.fresh (Nat.le_refl _)
    refine ⟨.ref s.heap.objs.size, _, I.laid (t' := s.toks) (o := .tup (List.replicate k.toNat xs).flatten) (fun b ob q => Heap.get?_push_of_some _ q) (Nat.le_refl _) ?_, rfl, q _ _ (bqs hf) aqr⟩
    exact ⟨by rw [pqF, Nat.mul_comm]; exact hz, _, r.rep k.toNat, IsTup.new _ _⟩
theorem tqY {a : Addr} {k : Int} {H : Hp} {Q : VK} : rRepT (.ref a) (.int k) H Q ↔ ∃ xs, H a = some (.tup xs) ∧ 2 ≤ k ∧ k < 1000 ∧ xs.length * k.toNat ≤ sizeLine ∧ ∀ p H', Same H H' → H' p = some (.tup (List.replicate k.toNat xs).flatten) → Q (.ref p) H' := by
  constructor
  · rintro ⟨a', k', xs, h1, h2, h⟩; cases h1; cases h2; exact ⟨xs, h⟩
  · rintro ⟨xs, h⟩; exact ⟨a, k, xs, rfl, rfl, h⟩
def rRepS : R2 := fun x y H Q => ∃ l k xs, x = .ref l ∧ y = .int k ∧ H l = some (.lst xs) ∧ 0 ≤ k ∧ k < 1000000 ∧ xs.length * k.toNat ≤ sizeLine ∧ ∀ p H', H p = none → Same H H' → H' p = some (.lst (List.replicate k.toNat xs).flatten) → Q (.ref p) H'
theorem wqF : OpR X (binaryOp .Mult) rRepS := by
  intro pins s σ H x y v u Q I rx ry h
  obtain ⟨l, k, xs, hx, hy, hH, h1, h2, hz, q⟩ := h
  exact xqY pins s σ H x y v u Q I rx ry ⟨l, k, xs, hx, hy, hH, by omega, by omega, hz, fun p hp => q p _ hp (bqs hp) aqr⟩
theorem uqz {a : Addr} {k : Int} {H : Hp} {Q : VK} : rRepS (.ref a) (.int k) H Q ↔ ∃ xs, H a = some (.lst xs) ∧ 0 ≤ k ∧ k < 1000000 ∧ xs.length * k.toNat ≤ sizeLine ∧ ∀ p H', H p = none → Same H H' → H' p = some (.lst (List.replicate k.toNat xs).flatten) → Q (.ref p) H' := by
  constructor
  · rintro ⟨a', k', xs, h1, h2, h⟩; cases h1; cases h2; exact ⟨xs, h⟩
  · rintro ⟨xs, h⟩; exact ⟨a, k, xs, rfl, rfl, h⟩
end
end L2
namespace L2
open PySem PySem.Spec PyProof.Rows
theorem xq0 (l : Addr) (items : Array Value) (n : Nat) (dd : Option Addr) (sl : Array (Option Value)) (u : Tok) :
    Meets (Builtin.«tuple.__mul__» ⟨[.ref l, .int 1 u], []⟩) (fun _ R s => s.heap.get? l = some { cls := .type "tuple", dict := dd, data := .seq items n, slots := sl } ∧ R (.ok (.ret (Value.ref l))) s) :=
  .of_wp fun prog w A R s h => by
    obtain ⟨hp, g, d, tk, os⟩ := s; obtain ⟨hl, h⟩ := h
    unfold Builtin.«tuple.__mul__»
    have hx1 : (items.isEmpty || ((1 : Int) == 1)) = true := by simp
    have h1 : ¬ (decide ((1 : Int) < -(2 ^ 63)) || decide ((1 : Int) ≥ 2 ^ 63)) = true := by decide
    wp_walk
    first | rw [if_neg h1] | skip
    wp_walk
    first | rw [if_pos hx1] | skip
    wp_walk
    exact ⟨_, rfl, h⟩
theorem wqM (l : Addr) (items : Array Value) (n : Nat) (dd : Option Addr) (sl : Array (Option Value)) (u : Tok) (h0 : items.isEmpty = false) :
    Meets (Builtin.«tuple.__mul__» ⟨[.ref l, .int 0 u], []⟩) (fun _ R s => s.heap.get? l = some { cls := .type "tuple", dict := dd, data := .seq items n, slots := sl } ∧
      R (.ok (.ret (Value.ref s.heap.objs.size))) { s with heap := s.heap.push { cls := Value.type "tuple", data := Data.seq #[] }, toks := s.toks }) :=
  .of_wp fun prog w A R s h => by
    obtain ⟨hp, g, d, tk, os⟩ := s; obtain ⟨hl, h⟩ := h
    unfold Builtin.«tuple.__mul__»
    have h1 : ¬ (decide ((0 : Int) < -(2 ^ 63)) || decide ((0 : Int) ≥ 2 ^ 63)) = true := by decide
    have hx1 : ¬ (items.isEmpty || ((0 : Int) == 1)) = true := by rw [h0]; decide
    have hx2 : (decide ((0 : Int) ≤ 0) || items.isEmpty) = true := by simp
    wp_walk
    first | rw [if_neg h1] | skip
    wp_walk
    first | rw [if_neg hx1] | skip
    try dsimp only
    first | rw [if_pos hx2] | skip
    exact ⟨_, rfl, h⟩
section
variable {X : Cx}
def rRepN : R2 := fun x y H Q => ∃ a k xs, x = .ref a ∧ y = .int k ∧ H a = some (.tup xs) ∧ 0 ≤ k ∧ k < 1000 ∧ xs.length * k.toNat ≤ sizeLine ∧ ∀ p H', Same H H' → H' p = some (.tup (List.replicate k.toNat xs).flatten) → Q (.ref p) H'
theorem uq5 : OpR X (binaryOp .Mult) rRepN := by
  intro pins s σ H x y v u Q I rx ry h
  obtain ⟨a, k, xs, rfl, rfl, hH, h1, h2, hz, q⟩ := h
  by_cases hk : 2 ≤ k
  · exact vqt pins s σ H _ _ v u Q I rx ry ⟨a, k, xs, rfl, rfl, hH, hk, h2, hz, q⟩
  cases rx
  obtain ⟨t, rfl⟩ := ry
  obtain ⟨its, r, p, hl⟩ := I.tuple (SqT.of hH)
  obtain ⟨⟨cls, dd, data, sl⟩, ho, hc, n, hd⟩ := id p
  simp only at hc hd
  subst hc hd
  refine wpAny_binaryOp_repeat_ref (T := "tuple") (U := "int") (by decide) p.typeIs (fun s' => typeIs_int s' k t) oqp F.fills_int_mul F.slot_int_rmul oqI F.slot_int_index.lookup
    (call_meets F.slot_int_rmul (typeIs_int s k t) F.entry_int_rmul (F.args_int_rmul_2 _ _) (sqk k t a its.toArray n dd sl) ⟨ho, rfl, p.typeIs, ?_⟩)
  have h01 : k = 0 ∨ k = 1 := by omega
  rcases h01 with rfl | rfl
  · by_cases he : its = []
    · subst he
      have hx0 : xs = [] := r.nil_iff.mp rfl
      subst hx0
      exact call_meets F.slot_tuple_mul p.typeIs F.entry_tuple_mul (F.args_tuple_mul_2 _ _) (rq2 a _ n dd sl 0 t rfl (by decide)) ⟨ho, .ref a, H, I, rfl, q a H (Same.refl _) hH⟩
    · have h0 : its.toArray.isEmpty = false := by simpa using he
      refine call_meets F.slot_tuple_mul p.typeIs F.entry_tuple_mul (F.args_tuple_mul_2 _ _) (wqM a _ n dd sl t h0) ⟨ho, ?_⟩
      have hf : H s.heap.objs.size = none := I.hok.fresh (Nat.le_refl _)
      refine ⟨.ref s.heap.objs.size, _, I.laid (t' := s.toks) (o := .tup []) (fun b ob q => Heap.get?_push_of_some _ q) (Nat.le_refl _) ?_, rfl, q _ _ (bqs hf) aqr⟩
      exact ⟨Nat.zero_le _, [], .nil, IsTup.new _ _⟩
  · exact call_meets F.slot_tuple_mul p.typeIs F.entry_tuple_mul (F.args_tuple_mul_2 _ _) (xq0 a _ n dd sl t) ⟨ho, .ref a, H, I, rfl, q a H (Same.refl _) (by rw [hH]; simp)⟩
theorem tqv {a : Addr} {k : Int} {H : Hp} {Q : VK} : rRepN (.ref a) (.int k) H Q ↔ ∃ xs, H a = some (.tup xs) ∧ 0 ≤ k ∧ k < 1000 ∧ xs.length * k.toNat ≤ sizeLine ∧ ∀ p H', Same H H' → H' p = some (.tup (List.replicate k.toNat xs).flatten) → Q (.ref p) H' := by
  constructor
  · rintro ⟨a', k', xs, h1, h2, h⟩; cases h1; cases h2; exact ⟨xs, h⟩
  · rintro ⟨xs, h⟩; exact ⟨a, k, xs, rfl, rfl, h⟩
end
end L2
namespace L2
open PySem PySem.Spec PyProof.Rows
section
variable {X : Cx}
def intsV (lo : Int) (n : Nat) : List V := (List.range n).map fun k => .int (lo + (k : Nat))
def tLR (ta : TA) : TE := fun σ H Q => ta σ H fun vs H1 => ∃ j : Int, vs = [.int j] ∧ 0 ≤ j ∧ j ≤ 1000000 ∧ ∀ p, H1 p = none → Q (.ref p) (upd H1 p (.lst (intsV 0 j.toNat)))
end
theorem yqL {ta : TA} {σ : St} {H : Hp} {Q : VK} : tLR ta σ H Q ↔ ta σ H fun vs H1 => ∃ j : Int, vs = [.int j] ∧ 0 ≤ j ∧ j ≤ 1000000 ∧ ∀ p, H1 p = none → Q (.ref p) (upd H1 p (.lst (intsV 0 j.toNat))) := Iff.rfl
end L2
namespace L2
open PySem
section
variable {p : Addr} {fv : St} {tt : TT} {te : TE} {Q : VK} {H1 : Hp} {K : PySem.W.Frag}
theorem rqU {a : Addr} {xs : List V} (f : V → Bool) (g : V → V) (hxs : SqT K H1 a xs) (hlen : xs.length ≤ sizeLine) (hp : H1 p = none)
    (ht : ∀ (i : Nat) (x : V), xs[i]? = some x → ∀ (H' : Hp) (R : Bool → Hp → Prop), Same H1 H' → (∀ H'', Same H' H'' → R (f x) H'') → tt (some x :: fv) H' R)
    (he : ∀ (i : Nat) (x : V), xs[i]? = some x → f x = true → ∀ (H' : Hp) (T : VK), Same H1 H' → (∀ H'', Same H' H'' → T (g x) H'') → te (some x :: fv) H' T)
    (hQ : ∀ H', Same H1 H' → H' p = some (.lst ((xs.filter f).map g)) → Q (.ref p) H') : CompI (Itt K a) p fv tt te Q H1 := by
  refine ⟨fun i m ys H2 => m = xs.length - i ∧ i ≤ xs.length ∧ ys = ((xs.take i).filter f).map g ∧ H2 p = some (.lst ys) ∧ Same H1 H2, ⟨xs.length, by simp, Nat.zero_le _, by simp, aqr, fun b o e => by rw [aqI (aqz e hp)]; exact e⟩, ?_⟩
  rintro i m ys H2 ⟨rfl, hi, rfl, hp2, sm⟩
  refine ⟨hp2, ?_⟩
  have q := sm.tup hxs
  by_cases hlt : i < xs.length
  · refine .inr ⟨⟨xs, xs[i], q, by simp [hlt]⟩, ?_, fun x H3 y => ?_⟩
    · rw [List.length_map]
      have := List.length_filter_le f (xs.take i)
      rw [List.length_take] at this
      omega
    · obtain ⟨rfl, y⟩ := y
      have hc := y xs q
      refine ht i x hc _ _ sm fun H4 s4 => ?_
      by_cases hf : f x = true
      · rw [if_pos hf]
        refine he i x hc hf _ _ (sm.trans s4) fun H5 s5 => ⟨(s4.trans s5) _ _ hp2, xs.length - (i + 1), by omega, rfl, hlt, ?_, aqr, fun b o e => ?_⟩
        · rw [List.take_add_one, hc]; simp [hf]
        · rw [aqI (aqz e hp)]; exact (s4.trans s5) _ _ (sm _ _ e)
      · rw [if_neg hf]
        refine ⟨xs.length - (i + 1), by omega, rfl, hlt, ?_, s4 _ _ hp2, sm.trans s4⟩
        rw [List.take_add_one, hc]; simp [hf]
  · have e : i = xs.length := by omega
    subst e
    refine .inl ⟨⟨xs, q, Nat.le_refl _⟩, hQ H2 sm ?_⟩
    rw [hp2, List.take_length]
end
end L2
namespace L2
open PySem PySem.Spec PyProof.Rows
section
variable {X : Cx} {pins : List (Addr × Obj)} {σ : St} {H1 : Hp} {s3 : Shared} {x x2 : Str} {fx : List Str} {fr : List Nat} {scope : Scope} {cl : List (Str × Addr)} {fp : List Addr}
theorem tqj (I : Inv X pins σ H1 s3) (hkind : scope.kind = .function) (hcl : ∀ y c, cl.lookup y = some c → X.env.cells.lookup y = some c)
    (F : Frees X (relabel scope X.env) cl fx fr) (hfx : ((relabel scope X.env).names.all fun p => if (p.2 == .cell || p.2 == .free) then fx.contains p.1 else true) = true)
    (ffp : ∀ b ∈ fp, FpOk X pins H1 b) (flt : ∀ b ∈ fp, b < s3.heap.objs.size) : (compCx X (x :: x2 :: fx) scope cl s3 H1 fp).Ok where
  mod := I.ok.mod
  kind := hkind
  glob := I.ok.glob
  blt := I.ok.blt
  above := Nat.le_refl _
  inj := fun y z c h1 h2 => I.ok.inj y z c (hcl y c h1) (hcl z c h2)
  has := fun y h => by
    have h : (relabel scope X.env).names.lookup y = some .cell ∨ (relabel scope X.env).names.lookup y = some .free := h
    have key : y ∈ fx := by
      rcases h with h | h
      · have q := List.all_eq_true.mp hfx _ (PySem.mem_of_lookup h)
        simpa using q
      · have q := List.all_eq_true.mp hfx _ (PySem.mem_of_lookup h)
        simpa using q
    obtain ⟨k1, k2⟩ := F.mem y key
    obtain ⟨c, e⟩ := I.ok.has y (.inl k1)
    exact ⟨c, k2.trans e⟩
  cab := fun y c h => by cases (show false = true from h)
  hd := I.ok.hd
  frames := I.ok.frames
  stk := .inl rfl
  exf := fun b hb => ⟨Nat.ne_of_lt (flt b hb), fun y c e => (ffp b hb).2.2.2.2.1 y c (hcl y c e)⟩
  bs := I.bs
  bsz := Nat.le_trans I.ok.bsz I.sz
  noex := fun b o e hb => by
    rcases (ffp b hb).2.2.2.1 with z | z
    · exact I.ok.noex b o e z
    · exact absurd (Nat.lt_of_lt_of_le (Heap.lt_size (I.ok.bs b o e).1) z) (Nat.lt_irrefl _)
  exfs := fun b hb z => by
    rcases List.mem_cons.mp (I.stkSub b z) with q | q
    · exact (ffp b hb).2.1 q
    · exact (ffp b hb).2.2.1 q
  funs := I.stack
  frf := I.stkFree
theorem pqn (I : Inv X pins σ H1 s3) (hkind : scope.kind = .function) (hcl : ∀ y c, cl.lookup y = some c → X.env.cells.lookup y = some c)
    (F : Frees X (relabel scope X.env) cl fx fr) (hfx : ((relabel scope X.env).names.all fun p => if (p.2 == .cell || p.2 == .free) then fx.contains p.1 else true) = true)
    (ffp : ∀ b ∈ fp, FpOk X pins H1 b) (flt : ∀ b ∈ fp, b < s3.heap.objs.size) {h1 : Heap} {t : Nat} {m : Str → Option Value} (hn : h1.Ns s3.heap.objs.size m)
    (keep : ∀ b u, s3.heap.get? b = some u → h1.get? b = some u) : Inv (compCx X (x :: x2 :: fx) scope cl s3 H1 fp) [] (none :: none :: frV σ fr) H1 { s3 with heap := h1, toks := t } := by
  refine ⟨tqj I hkind hcl F hfx ffp flt, rfl, I.bare, Un.kept keep, ⟨m, hn, fun i y v e1 e2 e3 => ?_⟩, fun y c e => ?_, I.hok.fresh (Nat.le_refl _), fun y c e => I.freeC y c (hcl y c e), fun p hp => absurd (show p ∈ ([] : List (Addr × Obj)) from hp) (by simp), I.hok.kept keep, ?_⟩
  · cases i with
    | zero => simp at e2
    | succ j =>
     cases j with
     | zero => simp at e2
     | succ j =>
      obtain ⟨i0, k1, k2, k3, k4, k5⟩ := F.at (σ := σ) j y v (by simpa [compCx] using e1) (by simpa using e2)
      obtain ⟨m0, hn0, hl0⟩ := I.loc
      obtain ⟨u, r, l⟩ := hl0 i0 y v k1 k2 (.inr (.inl k3))
      refine ⟨u, r, ?_⟩
      rcases l with ⟨z, _⟩ | ⟨_, c, e, o, ho, hd⟩
      · rw [k3] at z; cases z
      · exact .inr ⟨.inl k4, c, k5.trans e, o, keep c o ho, hd⟩
  · obtain ⟨v, o, ho, hd⟩ := I.cell y c (hcl y c e)
    exact ⟨v, o, keep c o ho, hd⟩
  · show (none :: none :: frV σ fr).length = (x :: x2 :: fx).length
    simp [frV, F.len]
end
def CompI2 (K : PySem.W.Frag) (J : It) (p : Addr) (fv : St) (tt : TT) (te : TE) (Q : VK) (H1 : Hp) : Prop :=
  ∃ W : Nat → Nat → List V → Hp → Prop, (∃ m, W 0 m [] (upd H1 p (.lst []))) ∧ ∀ i m ys H2, W i m ys H2 → H2 p = some (.lst ys) ∧
    ((J.stop i H2 ∧ Q (.ref p) H2) ∨ (J.go i H2 ∧ ys.length < sizeLine ∧ ∀ z H3, J.yld i H2 z H3 → ∃ a x y, z = .ref a ∧ SqT K H3 a [x, y] ∧ tt (some x :: some y :: fv) H3 fun b H4 =>
      if b = true then te (some x :: some y :: fv) H4 fun y H5 => H5 p = some (.lst ys) ∧ ∃ m', m' < m ∧ W (i + 1) m' (ys ++ [y]) (upd H5 p (.lst (ys ++ [y])))
      else ∃ m', m' < m ∧ W (i + 1) m' ys H4))
def tComp2 (K : PySem.W.Frag) (wi : TI) (fr : List Nat) (tt : TT) (te : TE) : TE := fun σ H Q => wi σ H fun J H1 => ∀ p, H1 p = none → CompI2 K J p (frV σ fr) tt te Q H1
section
variable {X : Cx} {elt iter : Expr} {x x2 : Str} {px px2 ptx pos : Pos} {kx : Nat} {ifs : List Expr} {scope : Scope} {cl : List (Str × Addr)} {fx : List Str} {fr : List Nat} {wi : TI} {tt : TT} {te : TE}
theorem pqG {pins : List (Addr × Obj)} {σ : St} {H3 : Hp} {s3 : Shared} {it p : Addr} {fp : List Addr} {tn : Nat → Heap → Prop} {J : It} {Q : VK} {W : Nat → Nat → List V → Hp → Prop} {m0 t : Nat} {h₁ : Heap} {m : Str → Option Value} {RR : Result → Shared → Prop}
    (hc : X.calm = true) (hkind : scope.kind = .function) (hx : scope.names.lookup x = some .local) (hx2 : scope.names.lookup x2 = some .local) (hnd : (x :: x2 :: fx).Nodup)
    (hcl : ∀ y c, cl.lookup y = some c → X.env.cells.lookup y = some c) (F : Frees X (relabel scope X.env) cl fx fr)
    (hfx : ((relabel scope X.env).names.all fun p => if (p.2 == .cell || p.2 == .free) then fx.contains p.1 else true) = true)
    (ht : ∀ s H fp, PF (compCx X (x :: x2 :: fx) scope cl s H fp) ifs tt) (he : ∀ s H fp, PE (compCx X (x :: x2 :: fx) scope cl s H fp) elt te)
    (I3 : Inv X pins σ H3 s3) (T : Turn X.prog X.w X.K (.Tuple [.Name x px, .Name x2 px2] kx ptx) J fp it tn) (st3 : tn 0 s3.heap) (ffp : ∀ b ∈ fp, FpOk X pins H3 b) (flt3 : ∀ b ∈ fp, b < s3.heap.objs.size)
    (w0 : W 0 m0 [] H3) (turn : ∀ i m ys H2, W i m ys H2 → H2 p = some (.lst ys) ∧
      ((J.stop i H2 ∧ Q (.ref p) H2) ∨ (J.go i H2 ∧ ys.length < sizeLine ∧ ∀ z H3, J.yld i H2 z H3 → ∃ a x y, z = .ref a ∧ SqT X.K H3 a [x, y] ∧ tt (some x :: some y :: frV σ fr) H3 fun b H4 =>
        if b = true then te (some x :: some y :: frV σ fr) H4 fun y H5 => H5 p = some (.lst ys) ∧ ∃ m', m' < m ∧ W (i + 1) m' (ys ++ [y]) (upd H5 p (.lst (ys ++ [y])))
        else ∃ m', m' < m ∧ W (i + 1) m' ys H4)))
    (hns : h₁.Ns s3.heap.objs.size m) (keep1 : ∀ b u, s3.heap.get? b = some u → h₁.get? b = some u)
    (fin : ∀ s6 H5 o o2, Inv (compCx X (x :: x2 :: fx) scope cl s3 H3 fp) [] (o :: o2 :: frV σ fr) H5 s6 → Q (.ref p) H5 → RR (.ok .next) s6) :
    codeAny (model X.prog X.w) X.A (.compStart (.ListComp elt [⟨.Tuple [.Name x px, .Name x2 px2] kx ptx, iter, ifs, 0⟩] scope pos) 0 (.ref it) (.ref p) (compEnvC scope cl s3.heap.objs.size X.env))
      RR { s3 with heap := h₁, toks := t } := by
  have I4 := pqn (x := x) (x2 := x2) (t := t) I3 hkind hcl F hfx ffp flt3 hns keep1
  have st4 : tn 0 h₁ := T.keep _ _ _ st3 fun b hb o e => keep1 b o e
  have fp0 : ∀ b ∈ fp, H3 b = none := fun b hb => (ffp b hb).1
  have hcal : (compCx X (x :: x2 :: fx) scope cl s3 H3 fp).calm = true := hc
  have stat : ∀ {H' : Hp}, (∀ b ∈ fp, H' b = none) → ∀ b ∈ fp, FpOk (compCx X (x :: x2 :: fx) scope cl s3 H3 fp) [] H' b := fun {H'} hn b hb => by
    obtain ⟨f0, f1, f2, f3, f4, f5⟩ := ffp b hb
    exact ⟨hn b hb, Nat.ne_of_lt (flt3 b hb), I4.ok.exfs b hb, .inl hb, fun y c e => f4 y c (hcl y c e), fun q hq => absurd (show q ∈ ([] : List (Addr × Obj)) from hq) (by simp)⟩
  have hxl : (relabel scope X.env).names.lookup x = some .local := lookup_relabel_local hx
  have hxl2 : (relabel scope X.env).names.lookup x2 = some .local := lookup_relabel_local hx2
  have pg : PG (compCx X (x :: x2 :: fx) scope cl s3 H3 fp) (.Tuple [.Name x px, .Name x2 px2] kx ptx) (gTup X.K 2 (gCons (gName 0) (gCons (gName 1) gNil))) := uqT hcal (bqJ (aq9 (i := 0) hnd rfl (.inl hxl) (.inr hxl)) (bqJ (aq9 (i := 1) hnd rfl (.inl hxl2) (.inr hxl2)) lql))
  have loop : codeAny (model X.prog X.w) X.A (.compLoop (.ListComp elt [⟨.Tuple [.Name x px, .Name x2 px2] kx ptx, iter, ifs, 0⟩] scope pos) 0 (.ref it) (.ref p) (compEnvC scope cl s3.heap.objs.size X.env))
        RR { s3 with heap := h₁, toks := t } := by
    refine jq2 (fun n s' => ∃ i ys H' o o2, Inv (compCx X (x :: x2 :: fx) scope cl s3 H3 fp) [] (o :: o2 :: frV σ fr) H' s' ∧ tn i s'.heap ∧ (∀ b ∈ fp, H' b = none) ∧ W i n ys H') ?_ m0 ⟨0, [], _, none, none, I4, st4, fp0, w0⟩
    rintro n s5 ⟨i, ys, H5, o, o2, I5, st5, fr5, w5⟩
    obtain ⟨hp5, alt⟩ := turn i n ys H5 w5
    rcases alt with ⟨stop, qn⟩ | ⟨go, hlen, step⟩
    · refine thn (T.done (compCx X (x :: x2 :: fx) scope cl s3 H3 fp) rfl rfl rfl hcal i [] s5 (o :: o2 :: frV σ fr) H5 _ I5 (stat fr5) st5 stop) fun r s6 ⟨hr, I6⟩ => ?_
      subst hr
      exact fin s6 H5 o o2 I6 qn
    · refine thn (T.item (compCx X (x :: x2 :: fx) scope cl s3 H3 fp) rfl rfl rfl hcal i [] s5 (o :: o2 :: frV σ fr) H5 _ I5 (stat fr5) st5 go) fun r s6 ⟨u, hr, h6⟩ => ?_
      subst hr
      refine thn h6 fun _ s7 ⟨y7, H7, I7, r7, yl7, st7, fr7⟩ => ?_
      have I7' := I7.pinned (stat fr7) (T.obj _ _ st7)
      have back : ∀ {σ' : St} {H' : Hp} {s' : Shared}, Inv (compCx X (x :: x2 :: fx) scope cl s3 H3 fp) ([] ++ pinsAt fp s7.heap) σ' H' s' → tn (i + 1) s'.heap ∧ ∀ b ∈ fp, H' b = none := fun {σ' H' s'} I' => by
        refine ⟨T.keep _ _ _ st7 fun b hb o e => (I'.pin (b, o) (List.mem_append_right _ (List.mem_append_right _ (eqC hb e)))).1, fun b hb => ?_⟩
        obtain ⟨o, e, d⟩ := T.obj _ _ st7 b hb
        exact (I'.pin (b, o) (List.mem_append_right _ (List.mem_append_right _ (eqC hb e)))).2.1
      obtain ⟨a7, z1, z2, e7, q7, step7⟩ := step y7 _ yl7
      subst e7
      refine thn (pg _ s7 _ H7 (.ref a7) u (fun σ' H' => σ' = some z1 :: some z2 :: frV σ fr ∧ H' = H7) I7' r7 ⟨a7, [z1, z2], rfl, q7, rfl, z1, [z2], rfl, z2, [], rfl, rfl, rfl, rfl⟩) fun _ s8 ⟨σ8, H8, I8, e8, e8'⟩ => ?_
      subst e8 e8'
      refine thn (ht s3 H3 fp _ s8 _ _ _ I8 step7) fun b s9 ⟨H9, I9, q9⟩ => ?_
      cases b with
      | false =>
        rw [if_neg Bool.false_ne_true] at q9 ⊢
        obtain ⟨m', hm, w9⟩ := q9
        exact ⟨m', hm, i + 1, ys, H9, some z1, some z2, I9.unpinned, (back I9).1, (back I9).2, w9⟩
      | true =>
        rw [if_pos rfl] at q9 ⊢
        refine thn (he s3 H3 fp _ s9 _ H9 _ I9 q9) fun u10 s10 ⟨y10, H10, I10, r10, hp10, m', hm, w10⟩ => ?_
        refine thn (cqj _ s10 _ H10 (.ref p) [y10] (.ref p) [u10] (fun _ H' => H' = upd H10 p (.lst (ys ++ [y10]))) I10 rfl (.cons r10 .nil) ⟨p, ys, y10, rfl, rfl, hp10, hlen, rfl⟩) fun _ s11 ⟨_, H11, I11, _, e11⟩ => ?_
        subst e11
        exact ⟨m', hm, i + 1, ys ++ [y10], _, some z1, some z2, I11.unpinned, (back I11).1, (back I11).2, w10⟩
  exact codeAny_compStart_list loop (T.self _ 0 _ _ _ st4 loop)
theorem tqT (hc : X.calm = true) (hclos : closureFor scope X.env = pure cl) (hcell : ∀ y ∈ scope.names, y.2 ≠ .cell) (hkind : scope.kind = .function)
    (hnames : ∀ y ∈ scope.names, y.2 = .local → scope.names.lookup y.1 = some .local) (hx : scope.names.lookup x = some .local) (hx2 : scope.names.lookup x2 = some .local) (hnd : (x :: x2 :: fx).Nodup)
    (hk : (cl.all fun q => fx.contains q.1) = true) (F : Frees X (relabel scope X.env) cl fx fr)
    (hfx : ((relabel scope X.env).names.all fun p => if (p.2 == .cell || p.2 == .free) then fx.contains p.1 else true) = true)
    (hi : PI X (.Tuple [.Name x px, .Name x2 px2] kx ptx) iter wi) (ht : ∀ s H fp, PF (compCx X (x :: x2 :: fx) scope cl s H fp) ifs tt) (he : ∀ s H fp, PE (compCx X (x :: x2 :: fx) scope cl s H fp) elt te)
    (hs : ∀ x, foldedSetIterable iter X.env x = pure x := by intro _; rfl) :
    PE X (.ListComp elt [⟨.Tuple [.Name x px, .Name x2 px2] kx ptx, iter, ifs, 0⟩] scope pos) (tComp2 X.K wi fr tt te) := by
  intro pins s σ H Q I h
  have hcl : ∀ y c, cl.lookup y = some c → X.env.cells.lookup y = some c := fun y c e => by
    have q := List.all_eq_true.mp hk _ (PySem.mem_of_lookup e)
    rw [← (F.mem y (by simpa using q)).2]
    exact e
  rw [eval_ListComp]
  refine wpAny_comprehension_free (use := none) rfl hs hclos hkind hnames ?_
  refine thn (hi pins s σ H _ I h) fun v s1 h1 => thn h1 fun itv s2 h2 => ?_
  obtain ⟨it, fp, tn, J, H2, e, I2, T, st2, f2, q2⟩ := h2
  subst e
  have hp0 : H2 s2.heap.objs.size = none := I2.hok.fresh (Nat.le_refl _)
  obtain ⟨W, ⟨m0, w0⟩, turn⟩ := q2 _ hp0
  have flt : ∀ b ∈ fp, b < s2.heap.objs.size := fun b hb => by
    obtain ⟨o, e, _⟩ := T.obj _ _ st2 b hb
    exact Heap.lt_size e
  refine wpAny_newObj_type (wpAny_newFunctionEnv hcell (by intro y hy; simp at hy) (fun h₁ hns₁ hsb₁ => ?_) hkind)
  dsimp only at hns₁ hsb₁ ⊢
  have hlay : ∀ b u, s2.heap.get? b = some u → (s2.heap.push { cls := .type "list", dict := none, data := .seq ([] : List Value).toArray }).get? b = some u := fun b u e => Heap.get?_push_of_some _ e
  have hnew : (s2.heap.push { cls := .type "list", dict := none, data := .seq ([] : List Value).toArray }).get? s2.heap.objs.size = some { cls := .type "list", dict := none, data := .seq ([] : List Value).toArray } := Heap.get?_push_size _ rfl
  have hsz : (s2.heap.push { cls := .type "list", dict := none, data := .seq ([] : List Value).toArray }).objs.size = s2.heap.objs.size + 1 := Heap.size_push _ _
  generalize hHH : s2.heap.push { cls := .type "list", dict := none, data := .seq ([] : List Value).toArray } = HH at hns₁ hsb₁ hlay hnew hsz ⊢
  have I3 : Inv X pins σ (upd H2 s2.heap.objs.size (.lst [])) { s2 with heap := HH, toks := s2.toks } :=
    I2.laid (t' := s2.toks) (o := .lst []) hlay (Nat.le_refl _) ⟨Nat.zero_le _, [], 0, .nil, hnew⟩
  have ffp : ∀ b ∈ fp, FpOk X pins (upd H2 s2.heap.objs.size (.lst [])) b := fun b hb => by
    obtain ⟨f0, fr'⟩ := f2 b hb
    exact ⟨by rw [aqI (Nat.ne_of_lt (flt b hb))]; exact f0, fr'⟩
  have keep1 : ∀ b u, HH.get? b = some u → h₁.get? b = some u := fun b u e => hsb₁.extBut b u (Nat.ne_of_lt (Heap.lt_size e)) (Heap.get?_push_of_some _ e)
  exact pqG (s3 := { s2 with heap := HH, toks := s2.toks }) hc hkind hx hx2 hnd hcl F hfx ht he I3 T (T.keep _ _ _ st2 fun b hb o e => hlay b o e) ffp (fun b hb => by show b < HH.objs.size; rw [hsz]; exact Nat.lt_succ_of_lt (flt b hb)) w0 turn hns₁ keep1 fun s6 H5 o o2 I6 qn => by
    obtain ⟨m, hn6, _⟩ := id I6.loc
    exact ⟨m, hn6, fun h' sb => ⟨.ref _, H5, oqa I3 I6 ffp sb, rfl, qn⟩⟩
theorem rqw {K : PySem.W.Frag} (h : X.K = K) (hc : X.calm = true) (hclos : closureFor scope X.env = pure cl) (hcell : ∀ y ∈ scope.names, y.2 ≠ .cell) (hkind : scope.kind = .function)
    (hnames : ∀ y ∈ scope.names, y.2 = .local → scope.names.lookup y.1 = some .local) (hx : scope.names.lookup x = some .local) (hx2 : scope.names.lookup x2 = some .local) (hnd : (x :: x2 :: fx).Nodup)
    (hk : (cl.all fun q => fx.contains q.1) = true) (F : Frees X (relabel scope X.env) cl fx fr)
    (hfx : ((relabel scope X.env).names.all fun p => if (p.2 == .cell || p.2 == .free) then fx.contains p.1 else true) = true)
    (hi : PI X (.Tuple [.Name x px, .Name x2 px2] kx ptx) iter wi) (ht : ∀ s H fp, PF (compCx X (x :: x2 :: fx) scope cl s H fp) ifs tt) (he : ∀ s H fp, PE (compCx X (x :: x2 :: fx) scope cl s H fp) elt te)
    (hs : ∀ x, foldedSetIterable iter X.env x = pure x := by intro _; rfl) :
    PE X (.ListComp elt [⟨.Tuple [.Name x px, .Name x2 px2] kx ptx, iter, ifs, 0⟩] scope pos) (tComp2 K wi fr tt te) := by
  subst h; exact tqT hc hclos hcell hkind hnames hx hx2 hnd hk F hfx hi ht he hs
end
section
variable {p : Addr} {fv : St} {te : TE} {Q : VK} {H1 : Hp} {K : PySem.W.Frag}
theorem sq5 {a : Addr} {xs zs : List V} {f : Nat → V × V} (hxs : SqT K H1 a xs) (hlen : xs.length ≤ sizeLine) (hp : H1 p = none) (hz : zs.length = xs.length)
    (hit : ∀ (i : Nat) (x : V) (H' : Hp), xs[i]? = some x → Same H1 H' → ∃ b, x = .ref b ∧ SqT K H' b [(f i).1, (f i).2])
    (he : ∀ (i : Nat) (z : V), i < xs.length → zs[i]? = some z → ∀ (H' : Hp) (T : VK), Same H1 H' → (∀ H'', Same H' H'' → T z H'') → te (some (f i).1 :: some (f i).2 :: fv) H' T)
    (hQ : ∀ H', Same H1 H' → H' p = some (.lst zs) → Q (.ref p) H') : CompI2 K (Itt K a) p fv tYes te Q H1 := by
  refine ⟨fun i m ys H2 => m = xs.length - i ∧ i ≤ xs.length ∧ ys = zs.take i ∧ H2 p = some (.lst ys) ∧ Same H1 H2, ⟨xs.length, by simp, Nat.zero_le _, by simp, aqr, fun b o e => by rw [aqI (aqz e hp)]; exact e⟩, ?_⟩
  rintro i m ys H2 ⟨rfl, hi, rfl, hp2, sm⟩
  refine ⟨hp2, ?_⟩
  have q := sm.tup hxs
  by_cases hlt : i < xs.length
  · refine .inr ⟨⟨xs, xs[i], q, by simp [hlt]⟩, ?_, fun x H3 y => ?_⟩
    · rw [List.length_take]; omega
    · obtain ⟨rfl, y⟩ := y
      have hc := y xs q
      obtain ⟨b, rfl, hb⟩ := hit i x H3 hc sm
      refine ⟨b, _, _, rfl, hb, ?_⟩
      unfold tYes
      dsimp only
      rw [if_pos rfl]
      have hzi : zs[i]? = some zs[i] := by simp [hz, hlt]
      refine he i _ hlt hzi _ _ sm fun H5 s5 => ⟨s5 _ _ hp2, xs.length - (i + 1), by omega, rfl, hlt, ?_, aqr, fun b o e => ?_⟩
      · rw [List.take_add_one, hzi]; rfl
      · rw [aqI (aqz e hp)]; exact s5 _ _ (sm _ _ e)
  · have e : i = xs.length := by omega
    subst e
    refine .inl ⟨⟨xs, q, Nat.le_refl _⟩, hQ H2 sm ?_⟩
    rw [hp2, ← hz, List.take_length]
theorem tqe {tl : TE} {tt : TT} {fr : List Nat} {σ : St} {H : Hp} : tComp2 K (iTup K tl) fr tt te σ H Q ↔ tl σ H fun x H1 => ∃ a, x = .ref a ∧ (∃ xs, SqT K H1 a xs) ∧ ∀ p, H1 p = none → CompI2 K (Itt K a) p (frV σ fr) tt te Q H1 := Iff.rfl
end
end L2
namespace L2
open PySem PySem.Spec PyProof.Rows
section
variable {X : Cx}
def rFind : V → List V → Hp → VK → Prop := fun x vs H Q => match x, vs with
  | .str z, [.str y] => Q (.int (Txt.find z y)) H
  | _, _ => False
theorem vq7 {z y : Str} {H : Hp} {Q : VK} : rFind (.str z) [.str y] H Q ↔ Q (.int (Txt.find z y)) H := Iff.rfl
end
end L2
namespace Wm
open PySem L2
def low1 (c : Nat) : Nat := if 65 ≤ c ∧ c ≤ 90 then c + 32 else c
theorem xqs : ∀ c, c < 128 → isSg c = true → isSg (low1 c) = true := by decide +kernel
theorem vq3 : ∀ c, c < 128 → isAln c = true → isAln (low1 c) = true := by decide +kernel
theorem vqe : ∀ c, c < 128 → isLet c = true → isLet (low1 c) = true := by decide +kernel
def lowT (l : List Nat) : List Nat := l.map low1
theorem mq0 (l : List Nat) : (lowT l).length = l.length := List.length_map ..
def plainM (x : Ad) : Ad := ({ x with scheme := lowT x.scheme, house := x.house.map lowT } : Ad).gone
theorem hqV {c : Nat} (h : isSg c = true) : c < 128 := by have := cq2 h; omega
theorem oqV {x : Ad} (h : x.Wf) : (plainM x).Wf := by
  refine Ad.Wf.gone ⟨⟨by rw [mq0]; exact h.sch.1, fun c hc => ?_, fun c hc => ?_⟩, fun l e => ?_, fun i e => ?_, h.stp, fun z => h.roo (z.imp (fun y e => y (by rw [e]; rfl)) (fun y e => y (by rw [e]; rfl))), h.end_, h.que, h.mar⟩
  · obtain ⟨d, hd, rfl⟩ := List.mem_map.mp hc
    have := h.sch.2.1 d hd
    exact vq3 d (hqV (kq4 this)) this
  · unfold lowT at hc
    rw [← List.map_take] at hc
    obtain ⟨d, hd, rfl⟩ := List.mem_map.mp hc
    have h1 := h.sch.2.2 d hd
    exact vqe d (hqV (kq4 (h.sch.2.1 d (List.mem_of_mem_take hd)))) h1
  · obtain ⟨m, hm, rfl⟩ := Option.map_eq_some_iff.mp e
    obtain ⟨h1, h2⟩ := h.hou m hm
    refine ⟨by rw [mq0]; exact h1, fun c hc => ?_⟩
    obtain ⟨d, hd, rfl⟩ := List.mem_map.mp hc
    exact xqs d (hqV (h2 d hd)) (h2 d hd)
  · obtain ⟨h1, h2⟩ := h.doo i e
    refine ⟨h1, fun z => h2 ?_⟩
    cases hh : x.house with
    | none => rfl
    | some l => rw [hh] at z; cases z
theorem mqi (x : Ad) : (plainM x).steps.length ≤ x.steps.length := Ad.gone_len _
end Wm
namespace Wm
open PySem L2
end Wm
namespace Wm
open PySem L2
end Wm
namespace Wm
end Wm
namespace L2
open PySem
theorem xqO {l : Addr} {H : Hp} {Q : VK} {i : Int} : rPopAt (.ref l) [.int i] H Q ↔ ∃ xs k y, H l = some (.lst xs) ∧ -(2 ^ 63) ≤ i ∧ i < 2 ^ 63 ∧ seqIndex? i xs.length = some k ∧ xs[k]? = some y ∧ Q y (upd H l (.lst (xs.eraseIdx k))) :=
  ⟨fun ⟨_, xs, _, k, y, h1, h2, h⟩ => by cases h1; cases h2; exact ⟨xs, k, y, h⟩, fun ⟨xs, k, y, h⟩ => ⟨_, xs, _, k, y, rfl, rfl, h⟩⟩
end L2
namespace L2
open PySem PySem.Spec PySem.W PyProof.Rows
def tRaise (E : XK) (C : Addr) : TS := fun _ _ H => E (.ref C) none H
theorem tq2 {E : XK} {C : Addr} {D : Ends} {σ : St} {H : Hp} : tRaise E C D σ H ↔ E (.ref C) none H := Iff.rfl
structure Flown (P : Program) (w : World) (base : Heap) (outer : List Env) (H : Hp) (s : Shared) (a t C : Addr) (B : Heap) (H' : Hp) (s' : Shared) : Prop where
  os : s'.os = s.os
  bare : AllBare s'.gens
  st : base.StaysIn B
  fly : Heap.FlyingW B outer a (.ref C) (.ref t) s'.heap
  hok : HOk P w H' B
  un : Un (frs outer) [] H H' s.heap s'.heap
  kb : ∀ b o, s.heap.get? b = some o → H b = none → b ∉ frs outer → B.get? b = some o
  thB : ∀ b o, s.heap.get? b = some o → b ∉ frs outer → ∃ o', B.get? b = some o'
section
variable {P : Program} {w : World} {K : Frag} {mg : Str → Option Value} {base : Heap} {N : List Str} {qual : Str} {scope : Scope} {f : Addr} {cd : Value} {A : Around} {outer : List Env} {s : Shared} {H : Hp} {E : XK}
end
end L2
namespace L2
open PySem PySem.Spec PySem.W PyProof.Rows
def exO (a C : Addr) : HO := .ext fun h => ∃ o, h.get? a = some o ∧ o.cls = .ref C
section
variable {X : Cx} {pins : List (Addr × Obj)} {σ : St} {H H1 H2 : Hp} {s s1 s2 : Shared}
end
structure Catch (K : Frag) (W : Addr) : Prop where
  ty : typeIn K (.ref W) = some (.type "type")
  ex : subIn K (.ref W) (.type "BaseException") = some true
  cl : (clsIn K W).isSome = true
end L2
namespace L2
open PySem PySem.Spec PySem.W PyProof.Rows
def tTry (K : Frag) (sp : Sp) (t : TA) (W : Addr) (i : Nat) (tb : TS) : TS := fun D σ H => t σ H fun vs H1 => sp vs H1 (fun _ H2 => D.nx σ H2) fun cls _ H2 =>
  ∃ C, cls = .ref C ∧ subIn K (.ref C) (.ref W) = some true ∧ ∀ a, H2 a = none → tb { nx := fun σ' H' => D.nx (σ'.set i none) H', rt := D.rt } (σ.set i (some (.ref a))) (upd H2 a (exO a C))
end L2
namespace L2
open PySem PySem.Spec PySem.W PySem.Calls PyProof.Rows PySem.Builtin PySem.Builtin.ObjectAttr PySem.Builtin.Getset_descriptor
structure ExLook (K : Frag) (C : Addr) : Prop where
  ga : findIn K (.ref C) "__getattribute__" = some (some (.builtin "BaseException.__getattribute__"))
  cl : findIn K (.ref C) "__class__" = some (some (.builtin "object.__class__"))
  na : findIn K (.ref C) "__getattr__" = some none
  mo : mroIn K C (.type "object") = some true
  mb : mroIn K C (.type "BaseException") = some true
  is : (clsIn K C).isSome = true
section
variable {prog : Program} {w : World} {A : Around} {E : Value → Shared → Prop} {hh : Heap} {g : Array GenState} {dr : Drawn} {t : Nat} {os : OsState} {K : Frag} {a C : Addr} {o : Obj}
end
inductive KitAns (K : Frag) (H : Hp) (C : Addr) : V → Bool → Prop
  | cls {W : Addr} {b : Bool} : kitOne K (.ref C) (.ref W) = some b → KitAns K H C (.ref W) b
  | ty {T : String} {b : Bool} : kitOne K (.ref C) (.type T) = some b → KitAns K H C (.ty T) b
  | tup {p : Addr} {cs : List Addr} {b : Bool} : H p = some (.tup (cs.map V.ref)) → kitAny K (.ref C) (cs.map Value.ref) = some b → KitAns K H C (.ref p) b
def rIsE (K : Frag) : List V → Hp → VK → Prop := fun vs H Q => ∃ a c C b, vs = [.ref a, c] ∧ H a = some (exO a C) ∧ ExLook K C ∧ KitAns K H C c b ∧ Q (.bl b) H
end L2
namespace L2
open PySem PySem.W
theorem xq2 {K : Frag} {a : Addr} {c : V} {H : Hp} {Q : VK} : rIsE K [.ref a, c] H Q ↔ ∃ C b, H a = some (exO a C) ∧ ExLook K C ∧ KitAns K H C c b ∧ Q (.bl b) H :=
  ⟨fun ⟨_, _, C, b, e, h⟩ => by cases e; exact ⟨C, b, h⟩, fun ⟨C, b, h⟩ => ⟨a, c, C, b, rfl, h⟩⟩
theorem xqE {K : Frag} {sp : Sp} {t : TA} {W : Addr} {i : Nat} {tb : TS} {D : Ends} {σ : St} {H : Hp} : tTry K sp t W i tb D σ H ↔ t σ H fun vs H1 => sp vs H1 (fun _ H2 => D.nx σ H2) fun cls _ H2 =>
  ∃ C, cls = .ref C ∧ subIn K (.ref C) (.ref W) = some true ∧ ∀ a, H2 a = none → tb { nx := fun σ' H' => D.nx (σ'.set i none) H', rt := D.rt } (σ.set i (some (.ref a))) (upd H2 a (exO a C)) := Iff.rfl
end L2
namespace L2
open PySem PySem.Spec PyProof.Rows
theorem sw3 (x y : Str) (t u : Tok) (i : Nat) (v : Tok) :
    Meets (Builtin.«str.startswith» ⟨[.str x t, .str y u, .int (i : Int) v], []⟩) (fun _ R s => R (.ok (.ret (.bool (decide (i + y.length ≤ x.length) && Builtin.Str.subAt x y i)))) s) :=
  .of_wp fun prog w A R s h => by
    obtain ⟨hp, g, d, tk, os⟩ := s
    unfold Builtin.«str.startswith»
    wp_walk
    rw [F.slot_int_index.lookup]
    wp_walk
    refine ⟨_, rfl, ?_⟩
    have e1 : (max (0 : Int) (if (i : Int) < 0 then (i : Int) + (x.length : Int) else (i : Int))).toNat = i := by
      rw [if_neg (by omega)]; omega
    have e2 : min ((x.length : Nat) : Int).toNat x.length = x.length := by omega
    dsimp only
    rw [e1, e2]
    exact h
section
variable {X : Cx}
def rStarts : V → List V → Hp → VK → Prop := fun x vs H Q => ∃ z y, ∃ i : Nat, x = .str z ∧ vs = [.str y, .int (i : Int)] ∧ Q (.bl (decide (i + y.length ≤ z.length) && Builtin.Str.subAt z y i)) H
theorem rqc : MtR X "str.startswith" rStarts := by
  intro pins s σ H x vs v us Q I rx rv h
  obtain ⟨z, y, i, rfl, rfl, q⟩ := h
  obtain ⟨t, rfl⟩ := rx
  obtain ⟨u1, u2, rfl, r1, r2⟩ := vals2 rv
  obtain ⟨t1, rfl⟩ := r1
  obtain ⟨t2, rfl⟩ := r2
  exact call_meets F.slot_str_startswith (typeIs_str _ _ _) F.entry_str_startswith (F.args_str_startswith_3 _ _ _) (sw3 z y t t1 i t2) ⟨.bl _, H, I, rfl, q⟩
end
end L2
namespace L2
open PySem PySem.Spec PyProof.Rows
section
variable {X : Cx}
def rPart : V → List V → Hp → VK → Prop := fun x vs H Q => ∃ z y, x = .str z ∧ vs = [.str y] ∧ (y.length == 0) = false ∧ z.length ≤ sizeLine ∧
  ∀ p, H p = none → Q (.ref p) (upd H p (.tup [.str (Txt.partition z y).1, .str (Txt.partition z y).2.1, .str (Txt.partition z y).2.2]))
theorem nqV : MtR X "str.partition" rPart := by
  intro pins s σ H x vs v us Q I rx rv h
  obtain ⟨z, y, rfl, rfl, hy, hz, q⟩ := h
  obtain ⟨t, rfl⟩ := rx
  obtain ⟨u, rfl, t', rfl⟩ := vals1 rv
  have hf : H s.heap.objs.size = none := I.hok.fresh (Nat.le_refl _)
  have q := q _ hf
  refine call_meets F.slot_str_partition (typeIs_str _ _ _) F.entry_str_partition (F.args_str_partition_2 _ _) (meets_str_partition z y t t' hy hz) ?_
  unfold Txt.partition at q
  revert q
  cases Builtin.Str.occurrences z y 0 z.length 1 with
  | nil =>
    intro q
    refine ⟨.ref s.heap.objs.size, _, I.laid (t' := s.toks + 1) (o := .tup _) (fun b u e => Heap.get?_push_of_some _ e) (by omega) ?_, rfl, q⟩
    exact ⟨by show 3 ≤ sizeLine; decide, _, .cons ⟨_, rfl⟩ (.cons ⟨_, rfl⟩ (.cons ⟨_, rfl⟩ .nil)), IsTup.new _ _⟩
  | cons i r =>
    intro q
    refine ⟨.ref s.heap.objs.size, _, I.laid (t' := s.toks + 1 + 1) (o := .tup _) (fun b u e => Heap.get?_push_of_some _ e) (by omega) ?_, rfl, q⟩
    exact ⟨by show 3 ≤ sizeLine; decide, _, .cons ⟨_, rfl⟩ (.cons ⟨_, rfl⟩ (.cons ⟨_, rfl⟩ .nil)), IsTup.new _ _⟩
end
end L2
namespace L2
open PySem PySem.Spec PyProof.Rows
theorem rqD {us : List Value} {d : Value} (h : (us ++ [d]).length = 3) : ∃ x y, us = [x, y] := by
  match us, h with
  | [x, y], _ => exact ⟨x, y, rfl⟩
  | [], h => simp at h
  | [_], h => simp at h
  | _ :: _ :: _ :: _, h => simp at h
section
variable {X : Cx}
def rIntS : List V → Hp → VK → Prop := fun xs H Q => ∃ z n, xs = [.str z] ∧ z.length ≤ 640 ∧ PySem.intText? z = some n ∧ Q (.int n) H
theorem oqs : CallR X (.type "int") rIntS := by
  intro pins s σ H xs us Q I r h
  obtain ⟨z, n, rfl, hz, hn, q⟩ := h
  obtain ⟨u, rfl, t, rfl⟩ := vals1 r
  exact PySem.W.KIN.call_text hn hz ⟨.int n, H, I.tok _, ⟨_, rfl⟩, q⟩
theorem vqs {z : Str} {H : Hp} {Q : VK} : rIntS [.str z] H Q ↔ ∃ n, z.length ≤ 640 ∧ PySem.intText? z = some n ∧ Q (.int n) H :=
  ⟨fun ⟨_, n, e, h⟩ => by cases e; exact ⟨n, h⟩, fun ⟨n, h⟩ => ⟨z, n, rfl, h⟩⟩
theorem xql {z y : Str} {i : Nat} {H : Hp} {Q : VK} : rStarts (.str z) [.str y, .int (i : Int)] H Q ↔ Q (.bl (decide (i + y.length ≤ z.length) && Builtin.Str.subAt z y i)) H :=
  ⟨fun ⟨_, _, j, e1, e2, h⟩ => by
    cases e1
    injection e2 with e2 e3
    cases e2
    injection e3 with e3
    injection e3 with e3
    obtain rfl : i = j := by omega
    exact h, fun h => ⟨z, y, i, rfl, rfl, h⟩⟩
theorem uqN {z y : Str} {H : Hp} {Q : VK} : rPart (.str z) [.str y] H Q ↔ (y.length == 0) = false ∧ z.length ≤ sizeLine ∧ ∀ p, H p = none → Q (.ref p) (upd H p (.tup [.str (Txt.partition z y).1, .str (Txt.partition z y).2.1, .str (Txt.partition z y).2.2])) :=
  ⟨fun ⟨_, _, e1, e2, h⟩ => by cases e1; cases e2; exact h, fun h => ⟨z, y, rfl, rfl, h⟩⟩
theorem xqN {K : PySem.W.Frag} {ta : TE} {f : Str} {σ : St} {H : Hp} {Q : VK} : tFld K ta f σ H Q ↔ ta σ H fun x H1 => ∃ a C dx fs v, x = .ref a ∧ H1 a = some (.ins C dx fs) ∧ Cls K C ∧ NoAttr K C f ∧ fs.lookup f = some v ∧ Q v H1 := Iff.rfl
theorem vqc {K : PySem.W.Frag} {ta tv : TE} {f : Str} {D : Ends} {σ : St} {H : Hp} : sFld K ta tv f D σ H ↔ tv σ H fun y H1 => ta σ H1 fun x H2 => ∃ a C dx fs, x = .ref a ∧ H2 a = some (.ins C dx fs) ∧ Cls K C ∧ NoAttr K C f ∧ fs.length < 1000 ∧ D.nx σ (upd H2 a (.ins C dx (putF f y fs))) := Iff.rfl
theorem wql {C : Addr} {m : Str} {sp : Sp} {dvs : List V} {E : XK} {ta : TE} {t : TA} {σ : St} {H : Hp} {Q : VK} : tMeth C m sp dvs E ta t σ H Q ↔ ta σ H fun x H1 => ∃ a dx fs, x = .ref a ∧ H1 a = some (.ins C dx fs) ∧ fs.lookup m = none ∧ t σ H1 fun vs H2 => sp (x :: (vs ++ dvs)) H2 Q E := Iff.rfl
theorem vqD {C : Addr} {sp : Sp} {dvs : List V} {E : XK} {t : TA} {σ : St} {H : Hp} {Q : VK} : tMake C sp dvs E t σ H Q ↔ t σ H fun vs H1 => ∀ x dx, H1 x = none → H1 dx = none → dx ≠ x → sp (.ref x :: (vs ++ dvs)) (upd (upd H1 dx (.own x)) x (.ins C dx [])) (fun v H2 => v = .non ∧ Q (.ref x) H2) E := Iff.rfl
end
end L2
namespace Wm
open PySem L2
theorem uqJ (t w : List Nat) (i : Nat) (hi : i ≤ t.length) : (decide (i + (⟨w.toArray⟩ : Str).length ≤ (⟨t.toArray⟩ : Str).length) && Builtin.Str.subAt ⟨t.toArray⟩ ⟨w.toArray⟩ i) = decide ((t.drop i).take w.length = w) := by
  rw [dqy, dqy]
  have e : Builtin.Str.subAt ⟨t.toArray⟩ ⟨w.toArray⟩ i = decide ((t.drop i).take w.length = w) := by
    unfold Builtin.Str.subAt
    rw [dqy, Bool.eq_iff_iff, beq_iff_eq, decide_eq_true_eq]
    show (t.toArray.extract i (i + w.length) = w.toArray) ↔ _
    rw [← Array.toList_inj]
    simp
  rw [e]
  by_cases h : (t.drop i).take w.length = w
  · have hl := congrArg List.length h
    rw [List.length_take, List.length_drop] at hl
    rw [decide_eq_true h, Bool.and_true]
    by_cases hw : w.length = 0
    · rw [hw, Nat.add_zero]
      exact decide_eq_true hi
    · exact decide_eq_true (by omega)
  · rw [decide_eq_false h, Bool.and_false]
theorem occ1 (x y : Str) : ∀ (l : List Nat) (free : Nat), (∀ i ∈ l, free ≤ i) →
    (forIn l ((#[] : Array Nat), free) (StrLaws.occBody x y x.length 1)).run.fst.toList = (l.find? fun i => decide (i + y.length ≤ x.length) && Builtin.Str.subAt x y i).toList
  | [], free, _ => rfl
  | a :: l, free, hf => by
    rw [List.forIn_cons, List.find?_cons]
    have ha : free ≤ a := hf a (List.mem_cons_self ..)
    by_cases hc : a + y.length ≤ x.length ∧ Builtin.Str.subAt x y a = true
    · have e : (decide (a + y.length ≤ x.length) && Builtin.Str.subAt x y a) = true := by rw [decide_eq_true hc.1, hc.2]; rfl
      rw [e]
      unfold StrLaws.occBody
      rw [if_pos ⟨⟨⟨by simp, ha⟩, hc.1⟩, hc.2⟩]
      have full : ∀ (l : List Nat) (st : Array Nat × Nat), st.1.size = 1 → (forIn l st (StrLaws.occBody x y x.length 1)).run.fst = st.1 := by
        intro l
        induction l with
        | nil => intro st _; rfl
        | cons b l ih =>
          intro st hs
          rw [List.forIn_cons]
          unfold StrLaws.occBody
          rw [if_neg (fun h => by have := h.1.1.1; omega)]
          exact ih st hs
      show (forIn l ((#[] : Array Nat).push a, a + y.length) (StrLaws.occBody x y x.length 1)).run.fst.toList = _
      rw [full l _ (by simp)]
      simp
    · have e : (decide (a + y.length ≤ x.length) && Builtin.Str.subAt x y a) = false := by
        cases h1 : Builtin.Str.subAt x y a with
        | false => rw [Bool.and_false]
        | true => rw [Bool.and_true]; exact decide_eq_false fun z => hc ⟨z, h1⟩
      rw [e]
      unfold StrLaws.occBody
      rw [if_neg (fun h => hc ⟨h.1.2, h.2⟩)]
      exact occ1 x y l free fun i hi => hf i (List.mem_cons_of_mem _ hi)
def ahead (t : List Nat) : List Nat := t.takeWhile fun c => decide (c ≠ 58)
theorem uqm (t : List Nat) (i : Nat) : (decide (i + (⟨[58].toArray⟩ : Str).length ≤ (⟨t.toArray⟩ : Str).length) && Builtin.Str.subAt ⟨t.toArray⟩ ⟨[58].toArray⟩ i) = decide (t[i]? = some 58) := by
  by_cases hi : i ≤ t.length
  · rw [uqJ t [58] i hi, decide_eq_decide]
    cases h : t.drop i with
    | nil =>
      have : t[i]? = none := List.getElem?_eq_none (by have := congrArg List.length h; rw [List.length_drop, List.length_nil] at this; omega)
      rw [this]
      simp
    | cons c r =>
      have : t[i]? = some c := by rw [← List.head?_drop, h]; rfl
      rw [this]
      simp
  · rw [List.getElem?_eq_none (by omega), dqy, dqy, decide_eq_false (by rw [List.length_singleton]; omega)]
    rfl
theorem qq2 (t : List Nat) : ∀ (k : Nat), k ≤ t.length → (t.take k).all (fun c => decide (c ≠ 58)) = true →
    ((List.range' k (t.length + 1 - k)).find? fun i => decide (t[i]? = some 58)) = if 58 ∈ t then some (ahead t).length else none := by
  intro k
  induction hn : t.length - k generalizing k with
  | zero =>
    intro hk ha
    have e : k = t.length := by omega
    subst e
    rw [List.take_length] at ha
    have hno : 58 ∉ t := fun h => by have := List.all_eq_true.mp ha 58 h; simp at this
    rw [if_neg hno, show t.length + 1 - t.length = 1 by omega]
    simp
  | succ n ih =>
    intro hk ha
    have hk' : k < t.length := by omega
    have hc : t[k]? = some t[k] := List.getElem?_eq_getElem hk'
    rw [show t.length + 1 - k = (t.length + 1 - (k + 1)) + 1 by omega, List.range'_succ, List.find?_cons, hc]
    by_cases h58 : t[k] = 58
    · rw [h58]
      simp only [decide_true]
      rw [if_pos (by rw [← h58]; exact List.getElem_mem hk')]
      congr 1
      have ht : t = t.take k ++ 58 :: t.drop (k + 1) := by
        rw [← h58, List.getElem_cons_drop, List.take_append_drop]
      unfold ahead
      rw [ht, List.takeWhile_append_of_pos (fun c hc' => List.all_eq_true.mp ha c hc'), List.takeWhile_cons_of_neg (by simp)]
      simp; omega
    · rw [show decide (some t[k] = some 58) = false from decide_eq_false (by simpa using h58)]
      refine ih (k + 1) (by omega) (by omega) ?_
      rw [List.take_add_one, hc, List.all_append, ha]
      simpa using h58
theorem qqO (t : List Nat) : (Txt.partition ⟨t.toArray⟩ ⟨[58].toArray⟩).1 = ⟨(ahead t).toArray⟩ := by
  have e : Builtin.Str.occurrences (⟨t.toArray⟩ : Str) ⟨[58].toArray⟩ 0 (⟨t.toArray⟩ : Str).length 1 = (if 58 ∈ t then some (ahead t).length else none).toList := by
    rw [StrLaws.occ_eq, occ1 _ _ _ _ (fun i _ => Nat.zero_le i)]
    simp only [uqm]
    rw [dqy]
    exact congrArg Option.toList (qq2 t 0 (Nat.zero_le _) rfl)
  unfold Txt.partition
  rw [e]
  by_cases h : 58 ∈ t
  · rw [if_pos h]
    show Builtin.Str.strSub ⟨t.toArray⟩ 0 (ahead t).length = _
    unfold Builtin.Str.strSub
    have hp : t.take (ahead t).length = ahead t := (List.prefix_iff_eq_take.mp (List.takeWhile_prefix _)).symm
    rw [← hp, List.length_take]
    have : (ahead t).length ≤ t.length := (List.takeWhile_prefix _).length_le
    rw [show min (ahead t).length t.length = (ahead t).length by omega]
    show (⟨t.toArray.extract 0 (ahead t).length⟩ : Str) = _
    simp
  · rw [if_neg h]
    have all : ∀ l : List Nat, 58 ∉ l → ahead l = l := fun l => by
      induction l with
      | nil => intro _; rfl
      | cons c l ih =>
        intro hl
        have h1 : c ≠ 58 := fun z => hl (by rw [z]; exact List.mem_cons_self ..)
        unfold ahead
        rw [List.takeWhile_cons, if_pos (decide_eq_true h1)]
        exact congrArg (c :: ·) (ih fun z => hl (List.mem_cons_of_mem _ z))
    have : ahead t = t := all t h
    rw [this]
    rfl
def Cur (H : Hp) (C p : Addr) (t : List Nat) (k : Nat) : Prop := ∃ dx, H p = some (.ins C dx [("text", .str ⟨t.toArray⟩), ("place", .int (k : Int))])
inductive WrT (fr : List Nat) : List Nat → List Nat → Prop
  | nil : WrT fr [] []
  | self {c : Nat} {s w : List Nat} : (isPl c = true ∨ c ∈ fr) → c ≠ 126 → WrT fr s w → WrT fr (c :: s) (c :: w)
  | pair {c a b : Nat} {s w : List Nat} : sgO a b = some c → WrT fr s w → WrT fr (c :: s) (126 :: a :: b :: w)
def Stops (fr r : List Nat) : Prop := ∀ c, r.head? = some c → isPl c = false ∧ c ∉ fr ∧ c ≠ 126
def moV : Option Nat → V
  | none => .non
  | some m => .int (m : Int)
theorem sqe {fr s w s' w' : List Nat} (h : WrT fr s w) (h' : WrT fr s' w') : WrT fr (s ++ s') (w ++ w') := by
  induction h with
  | nil => exact h'
  | self a b _ ih => exact .self a b ih
  | pair a _ ih => exact .pair a ih
theorem lqu {fr s : List Nat} (h : ∀ c ∈ s, isSg c = true) : WrT fr s (wr s) := by
  induction s with
  | nil => exact .nil
  | cons c s ih =>
    have hc := h c (List.mem_cons_self ..)
    have ih := ih fun d hd => h d (List.mem_cons_of_mem _ hd)
    show WrT fr (c :: s) (wr1 c ++ wr s)
    unfold wr1
    by_cases hp : isPl c = true
    · rw [if_pos hp]
      exact .self (.inl hp) (fun z => by rw [z] at hp; cases hp) ih
    · rw [if_neg hp]
      exact .pair (sqV hc) ih
theorem uqY {a n : Nat} (h : fig a = some n) : a < 128 ∧ n < 16 ∧ (n < 10 → a = 48 + n) := by
  unfold fig at h
  split at h
  · cases h; omega
  · split at h
    · cases h; omega
    · split at h
      · cases h; omega
      · cases h
theorem oqr {a b c : Nat} (h : sgO a b = some c) : a ∈ (Str.ofString "234567").cps.toList ∧ a < 128 ∧ b < 128 ∧ isSg c = true := by
  unfold sgO at h
  cases ha : fig a with
  | none => simp [ha] at h
  | some n =>
    cases hb : fig b with
    | none => simp [ha, hb] at h
    | some m =>
      simp only [ha, hb] at h
      split at h
      · next hs =>
        cases h
        obtain ⟨a1, a2, a3⟩ := uqY ha
        obtain ⟨b1, b2, _⟩ := uqY hb
        have hr := hs
        simp only [isSg, Bool.and_eq_true, decide_eq_true_eq] at hr
        have e := a3 (by omega)
        refine ⟨?_, a1, b1, hs⟩
        have key : ∀ n, n < 8 → 2 ≤ n → 48 + n ∈ (Str.ofString "234567").cps.toList := by decide +kernel
        rw [e]
        exact key n (by omega) (by omega)
      · cases h
section
variable {K : PySem.W.Frag} {H : Hp} {C p : Addr} {t : List Nat} {i : Nat}
theorem wqG {v u : V} : List.lookup (Str.ofString "text") [(Str.ofString "text", v), (Str.ofString "place", u)] = some v := by
  rw [List.lookup_cons, beq_self_eq_true]
theorem tqU {v u : V} : List.lookup (Str.ofString "place") [(Str.ofString "text", v), (Str.ofString "place", u)] = some u := by
  rw [List.lookup_cons, show (Str.ofString "place" == Str.ofString "text") = false by decide +kernel, List.lookup_cons, beq_self_eq_true]
theorem gqi {R : V → Prop} (h : Cur H C p t i) (cl : Cls K C) (n : NoAttr K C "text") (r : R (.str ⟨t.toArray⟩)) : ∃ a C dx fs v, p = a ∧ H a = some (.ins C dx fs) ∧ Cls K C ∧ NoAttr K C (Str.ofString "text") ∧ List.lookup (Str.ofString "text") fs = some v ∧ R v :=
  let ⟨dx, hp⟩ := h
  ⟨p, C, dx, _, _, rfl, hp, cl, n, wqG, r⟩
theorem dqp {R : V → Prop} (h : Cur H C p t i) (cl : Cls K C) (n : NoAttr K C "place") (r : R (.int (i : Int))) : ∃ a C dx fs v, p = a ∧ H a = some (.ins C dx fs) ∧ Cls K C ∧ NoAttr K C (Str.ofString "place") ∧ List.lookup (Str.ofString "place") fs = some v ∧ R v :=
  let ⟨dx, hp⟩ := h
  ⟨p, C, dx, _, _, rfl, hp, cl, n, tqU, r⟩
theorem sqq {v u w : V} : putF (Str.ofString "place") w [(Str.ofString "text", v), (Str.ofString "place", u)] = [(Str.ofString "text", v), (Str.ofString "place", w)] := by
  have h : Str.ofString "text" ≠ Str.ofString "place" := by decide +kernel
  simp only [putF, if_neg h, if_true]
theorem nqS {N : Hp → Prop} {z : Int} (h : Cur H C p t i) (cl : Cls K C) (n : NoAttr K C "place") (j : Nat) (hz : z = (j : Int)) (hN : ∀ H', SameBut p H H' → Cur H' C p t j → N H') :
    ∃ a C dx fs, p = a ∧ H a = some (.ins C dx fs) ∧ Cls K C ∧ NoAttr K C (Str.ofString "place") ∧ fs.length < 1000 ∧ N (upd H a (.ins C dx (putF (Str.ofString "place") (.int z) fs))) := by
  obtain ⟨dx, hp⟩ := h
  refine ⟨p, C, dx, _, rfl, hp, cl, n, by show 2 < 1000; decide, ?_⟩
  rw [sqq, hz]
  exact hN _ lqQ ⟨dx, aqr⟩
theorem uq0 {m : Str} {v u : V} (h1 : (m == Str.ofString "text") = false) (h2 : (m == Str.ofString "place") = false) : List.lookup m [(Str.ofString "text", v), (Str.ofString "place", u)] = none := by
  rw [List.lookup_cons, h1, List.lookup_cons, h2]; rfl
theorem aqw {R : Prop} {m : Str} (h : Cur H C p t i) (r : R) (h1 : (m == Str.ofString "text") = false := by decide +kernel) (h2 : (m == Str.ofString "place") = false := by decide +kernel) :
    ∃ a dx fs, p = a ∧ H a = some (.ins C dx fs) ∧ List.lookup m fs = none ∧ R :=
  let ⟨dx, hp⟩ := h
  ⟨p, dx, _, rfl, hp, uq0 h1 h2, r⟩
theorem Cur.same {H' : Hp} (h : Cur H C p t i) (s : Same H H') : Cur H' C p t i := let ⟨dx, hp⟩ := h; ⟨dx, s _ _ hp⟩
end
def plS : List Nat := (Str.ofString "abcdefghijklmnopqrstuvwxyzABCDEFGHIJKLMNOPQRSTUVWXYZ0123456789-_.").cps.toList
theorem sqD : plS.length = 65 := by decide +kernel
theorem qqm {c : Nat} (h : c < 128) : (c ∈ plS) ↔ isPl c = true := by
  have := qqu c h
  rw [← this, decide_eq_true_eq]
  exact Iff.rfl
def seesB (t sg : List Nat) (i : Nat) : Bool := ((t[i]?).map fun c => decide (c ∈ sg)).getD false
theorem bqE {t sg : List Nat} {i c : Nat} (h : t[i]? = some c) : seesB t sg i = decide (c ∈ sg) := by unfold seesB; rw [h]; rfl
theorem hqK {t sg : List Nat} {i : Nat} (h : t[i]? = none) : seesB t sg i = false := by unfold seesB; rw [h]; rfl
theorem jqw {t w : List Nat} {i c : Nat} (h : t.drop i = c :: w) : t[i]? = some c ∧ i < t.length := by
  have e : t[i]? = some c := by rw [← List.head?_drop, h]; rfl
  exact ⟨e, (List.getElem?_eq_some_iff.mp e).1⟩
theorem wqd {fr s w : List Nat} (h : WrT fr s w) : s.length ≤ w.length := by
  induction h with
  | nil => exact Nat.le_refl _
  | self _ _ _ ih => simp only [List.length_cons]; omega
  | pair _ _ ih => simp only [List.length_cons]; omega
def frS : List Nat := (Str.ofString "!$'()*,;@&=+").cps.toList
def frQ : List Nat := (Str.ofString "!$'()*,;@+/?:").cps.toList
def frM : List Nat := (Str.ofString "!$'()*,;@&=+/?:").cps.toList
theorem jqt : frS.length ≤ 100 := by decide +kernel
theorem jqE : frQ.length ≤ 100 := by decide +kernel
theorem sqS : frM.length ≤ 100 := by decide +kernel
theorem kqR {fr : List Nat} : Stops fr [] := fun c h => by cases h
theorem dqM {fr r : List Nat} {c : Nat} (h : isPl c = false ∧ c ∉ fr ∧ c ≠ 126) : Stops fr (c :: r) := fun d e => by cases e; exact h
def MarW (o : Option (List Nat)) (w : List Nat) : Prop := match o with
  | none => w = []
  | some s => ∃ v, w = 35 :: v ∧ WrT frM s v
def ValW (o : Option (List Nat)) (w : List Nat) : Prop := match o with
  | none => w = []
  | some s => ∃ v, w = 61 :: v ∧ WrT frQ s v
def HouW (o : Option (List Nat)) (w : List Nat) : Prop := match o with
  | none => w = []
  | some s => ∃ v, w = 47 :: 47 :: v ∧ WrT [] s v ∧ s ≠ [] ∧ s.length ≤ 60
inductive TlW : List (List Nat) → Bool → List Nat → Prop
  | stop : TlW [] false []
  | ends : TlW [] true [47]
  | more {s w : List Nat} {ss : List (List Nat)} {e : Bool} {v : List Nat} : WrT frS s w → s ≠ [] → TlW ss e v → TlW (s :: ss) e (47 :: (w ++ v))
inductive StpW : List (List Nat) → Bool → List Nat → Prop
  | none {e : Bool} : StpW [] e []
  | some {s w : List Nat} {ss : List (List Nat)} {e : Bool} {v : List Nat} : WrT frS s w → s ≠ [] → TlW ss e v → StpW (s :: ss) e (w ++ v)
theorem sqf : (47 : Nat) ∉ frS := by decide +kernel
theorem qqc {fr s w : List Nat} (h : WrT fr s w) (hs : s ≠ []) : ∃ c r, w = c :: r ∧ (isPl c = true ∨ c ∈ fr ∨ c = 126) := by
  cases h with
  | nil => exact absurd rfl hs
  | self a _ _ => exact ⟨_, _, rfl, a.elim .inl (fun z => .inr (.inl z))⟩
  | pair _ _ => exact ⟨_, _, rfl, .inr (.inr rfl)⟩
theorem qqg {ss : List (List Nat)} {e : Bool} {v rest : List Nat} (h : TlW ss e v) (hr : Stops frS rest) : Stops frS (v ++ rest) := by
  cases h with
  | stop => exact hr
  | ends => exact dqM ⟨by decide, sqf, by decide⟩
  | more _ _ _ => exact dqM ⟨by decide, sqf, by decide⟩
theorem qql {ss : List (List Nat)} {e : Bool} {v rest : List Nat} (h : StpW ss e v) (hr : rest.head? ≠ some 47) : (v ++ rest).head? ≠ some 47 := by
  cases h with
  | none => exact hr
  | some hw hs _ =>
    obtain ⟨c, r, rfl, hc⟩ := qqc hw hs
    intro z
    have e : c = 47 := Option.some.inj z
    subst e
    rcases hc with z | z | z
    · cases z
    · exact sqf z
    · cases z
theorem vqh {ss : List (List Nat)} {e : Bool} {v : List Nat} (h : TlW ss e v) : ss.length ≤ v.length := by
  induction h with
  | stop => exact Nat.le_refl _
  | ends => exact Nat.zero_le _
  | more _ _ _ ih => simp only [List.length_cons, List.length_append]; omega
theorem tqV {ss : List (List Nat)} {e : Bool} {v : List Nat} (h : StpW ss e v) : ss.length ≤ v.length := by
  cases h with
  | none => exact Nat.le_refl _
  | some hw hs ht =>
    obtain ⟨c, r, rfl, _⟩ := qqc hw hs
    have := vqh ht
    simp only [List.length_cons, List.length_append]; omega
inductive PrsW : List (List Nat × Option (List Nat)) → List Nat → Prop
  | nil : PrsW [] []
  | cons {n w v : List Nat} {o : Option (List Nat)} {ps : List (List Nat × Option (List Nat))} {r : List Nat} : WrT frQ n w → n ≠ [] → ValW o v → PrsW ps r → PrsW ((n, o) :: ps) (38 :: (w ++ (v ++ r)))
def QueW (q : Option (List (List Nat × Option (List Nat)))) (w : List Nat) : Prop := match q with
  | none => w = []
  | some [] => w = [63]
  | some ((n, o) :: ps) => ∃ a v r, w = 63 :: (a ++ (v ++ r)) ∧ WrT frQ n a ∧ n ≠ [] ∧ ValW o v ∧ PrsW ps r
theorem rqB : (35 : Nat) ∉ frQ ∧ (38 : Nat) ∉ frQ ∧ (61 : Nat) ∉ frQ := by decide +kernel
theorem lqn {ps : List (List Nat × Option (List Nat))} {r rest : List Nat} (h : PrsW ps r) (hr : rest = [] ∨ ∃ x, rest = 35 :: x) : Stops frQ (r ++ rest) ∧ (r ++ rest).head? ≠ some 61 := by
  cases h with
  | nil =>
    rcases hr with rfl | ⟨x, rfl⟩
    · exact ⟨kqR, by simp⟩
    · exact ⟨dqM ⟨by decide, rqB.1, by decide⟩, by simp⟩
  | cons _ _ _ _ => exact ⟨dqM ⟨by decide, rqB.2.1, by decide⟩, by simp⟩
theorem nqR {o : Option (List Nat)} {v r : List Nat} (h : ValW o v) (hr : Stops frQ r) : Stops frQ (v ++ r) := by
  cases o with
  | none =>
    have h : v = [] := h
    subst h
    exact hr
  | some s =>
    obtain ⟨x, rfl, _⟩ := h
    exact dqM ⟨by decide, rqB.2.2, by decide⟩
theorem vqU {ps : List (List Nat × Option (List Nat))} {r : List Nat} (h : PrsW ps r) : ps.length ≤ r.length := by
  induction h with
  | nil => exact Nat.le_refl _
  | cons _ _ _ _ ih => simp only [List.length_cons, List.length_append]; omega
theorem Cur.toT {H H' : Hp} {C p : Addr} {t : List Nat} {i : Nat} (h : Cur H C p t i) (s : SameBut p H H') : SameT H H' := fun b xs e => s b _ (by
  obtain ⟨dx, hp⟩ := h
  exact vqg e hp (by intro z; cases z)) e
def pD (a : List Nat × Option (List Nat)) : PyData := .tuple [st a.1, oD a.2]
def PrL (H : Hp) (vs : List V) (dn : List (List Nat × Option (List Nat))) : Prop := vs.length = dn.length ∧ ∀ (i : Nat) (a : List Nat × Option (List Nat)) (y : V), dn[i]? = some a → vs[i]? = some y → IsT H (pD a) y
theorem PrL.mono {H H' : Hp} {vs : List V} {dn : List (List Nat × Option (List Nat))} (h : PrL H vs dn) (s : SameT H H') : PrL H' vs dn := ⟨h.1, fun i a y e1 e2 => (h.2 i a y e1 e2).mono s⟩
theorem PrL.snoc {H : Hp} {vs : List V} {dn : List (List Nat × Option (List Nat))} {a : List Nat × Option (List Nat)} {y : V} (h : PrL H vs dn) (hy : IsT H (pD a) y) : PrL H (vs ++ [y]) (dn ++ [a]) := by
  refine ⟨by simp [h.1], fun i b z e1 e2 => ?_⟩
  by_cases hi : i < dn.length
  · rw [List.getElem?_append_left hi] at e1
    rw [List.getElem?_append_left (by rw [h.1]; exact hi)] at e2
    exact h.2 i b z e1 e2
  · have := (List.getElem?_eq_some_iff.mp e1).1
    rw [List.length_append, List.length_singleton] at this
    have e : i = dn.length := by omega
    subst e
    rw [List.getElem?_append_right (Nat.le_refl _), Nat.sub_self] at e1
    rw [← h.1, List.getElem?_append_right (Nat.le_refl _), Nat.sub_self] at e2
    cases e1
    cases e2
    exact hy
theorem mqq {H : Hp} {α : Type} {g : α → PyData} : ∀ {l : List α} {ys : List V}, ys.length = l.length → (∀ (i : Nat) (a : α) (y : V), l[i]? = some a → ys[i]? = some y → IsT H (g a) y) → IsTAll H (l.map g) ys
  | [], [], _, _ => .nil
  | [], _ :: _, h, _ => by simp at h
  | _ :: _, [], h, _ => by simp at h
  | a :: l, y :: ys, h, k => .cons (k 0 a y rfl rfl) (mqq (by simpa using h) fun i b z e1 e2 => k (i + 1) b z (by simpa using e1) (by simpa using e2))
def fgS : List Nat := (Str.ofString "0123456789").cps.toList
theorem sqa {c : Nat} : c ∈ fgS ↔ 48 ≤ c ∧ c ≤ 57 := by
  rw [show fgS = [48, 49, 50, 51, 52, 53, 54, 55, 56, 57] by decide +kernel]
  simp only [List.mem_cons, List.not_mem_nil, or_false]
  omega
def valD (ds : List Nat) : Nat := ds.foldl (fun a c => a * 10 + (c - 48)) 0
theorem iqW (ds : List Nat) (c : Nat) : valD (ds ++ [c]) = valD ds * 10 + (c - 48) := by unfold valD; rw [List.foldl_append]; rfl
theorem nqa : ∀ (es ds : List Nat), valD ds ≤ valD (ds ++ es)
  | [], ds => by rw [List.append_nil]; exact Nat.le_refl _
  | c :: es, ds => by
    have h := nqa es (ds ++ [c])
    rw [iqW, List.append_assoc] at h
    exact Nat.le_trans (by omega) h
theorem uqp {ds : List Nat} {c : Nat} {r : List Nat} (h : ds = c :: r) (hc : 49 ≤ c) : 0 < valD ds := by
  have := nqa r [c]
  rw [h]
  have e : valD [c] = c - 48 := by unfold valD; simp
  show 0 < valD ([c] ++ r)
  omega
def DooW (o : Option Int) (w : List Nat) : Prop := match o with
  | none => w = []
  | some n => ∃ ds, w = 58 :: ds ∧ ds ≠ [] ∧ (∀ c ∈ ds, 48 ≤ c ∧ c ≤ 57) ∧ (valD ds : Int) = n ∧ valD ds ≤ 65535 ∧ (ds = [48] ∨ ds.head? ≠ some 48)
theorem sqQ : ∀ c, c < 58 → 48 ≤ c → PySem.intText? ⟨#[c]⟩ = some (((c - 48 : Nat)) : Int) := by decide +kernel
theorem oqx {s r : List Nat} (h : ∀ c ∈ s, c ≠ 58) : ahead (s ++ 58 :: r) = s := by
  unfold ahead
  rw [List.takeWhile_append_of_pos (fun c hc => decide_eq_true (h c hc)), List.takeWhile_cons_of_neg (by simp), List.append_nil]
theorem oqy (t : List Nat) : ∃ r, t = ahead t ++ r := ⟨t.dropWhile fun c => decide (c ≠ 58), (List.takeWhile_append_dropWhile (p := fun c => decide (c ≠ 58))).symm⟩
theorem tqd (t : List Nat) : (ahead t).length ≤ t.length := by
  obtain ⟨r, h⟩ := oqy t
  have := congrArg List.length h
  rw [List.length_append] at this
  omega
theorem mqr (t : List Nat) : t.take (ahead t ++ [58]).length = ahead t ++ [58] ↔ t[(ahead t).length]? = some 58 := by
  obtain ⟨r, h⟩ := oqy t
  generalize ahead t = a at h
  subst h
  rw [List.length_append, List.length_singleton, List.getElem?_append_right (Nat.le_refl _), Nat.sub_self, List.take_append]
  rw [List.take_of_length_le (by omega), show a.length + 1 - a.length = 1 by omega]
  constructor
  · intro e
    have e := List.append_cancel_left e
    cases r with
    | nil => simp at e
    | cons c r => simp at e; rw [e]; rfl
  · intro e
    cases r with
    | nil => simp at e
    | cons c r => simp at e; rw [e]; rfl
def schM (t : List Nat) : List Nat := if ahead t ≠ [] ∧ schD (.str ⟨(ahead t).toArray⟩) = true ∧ t[(ahead t).length]? = some 58 then ahead t else []
def schP (t : List Nat) : Nat := (schT (schM t)).length
theorem nqs {t : List Nat} (h1 : ahead t ≠ []) (h2 : schD (.str ⟨(ahead t).toArray⟩) = true) (h3 : t[(ahead t).length]? = some 58) : schM t = ahead t ∧ schP t = (ahead t ++ [58]).length := by
  have e : schM t = ahead t := by unfold schM; rw [if_pos ⟨h1, h2, h3⟩]
  exact ⟨e, by unfold schP schT; rw [e, if_neg h1]⟩
theorem lqf {t : List Nat} (h : ¬ (ahead t ≠ [] ∧ schD (.str ⟨(ahead t).toArray⟩) = true ∧ t[(ahead t).length]? = some 58)) : schM t = [] ∧ schP t = 0 := by
  have e : schM t = [] := by unfold schM; rw [if_neg h]
  exact ⟨e, by unfold schP schT; rw [e, if_pos rfl]; rfl⟩
def RdW (x : Ad) (t : List Nat) : Prop := ∃ h d w q m, t = schT x.scheme ++ (h ++ (d ++ ((if x.rooted then [47] else []) ++ (w ++ (q ++ m))))) ∧ schM t = x.scheme ∧ HouW x.house h ∧ DooW x.door d ∧ StpW x.steps x.ends w ∧ QueW x.quest q ∧ MarW x.mark m
end Wm
namespace L2
open PySem
theorem IsKAll.length {K : PySem.W.Frag} {H : Hp} : ∀ {ds : List PyData} {xs : List V}, IsKAll K H ds xs → xs.length = ds.length
  | _, _, .nil => rfl
  | _, _, .cons _ r => by simp [IsKAll.length r]
theorem mqy {K : PySem.W.Frag} {H : Hp} : ∀ {ds : List PyData} {xs : List V} {i : Nat} {d : PyData} {x : V}, IsKAll K H ds xs → ds[i]? = some d → xs[i]? = some x → IsK K H d x
  | _, _, 0, _, _, .cons h _, e1, e2 => by cases e1; cases e2; exact h
  | _, _, i + 1, _, _, .cons _ r, e1, e2 => mqy r (i := i) (by simpa using e1) (by simpa using e2)
  | _, _, 0, _, _, .nil, e1, _ => by cases e1
  | _, _, _ + 1, _, _, .nil, e1, _ => by cases e1
end L2
namespace Wm
open PySem L2
theorem mqk : ∀ n : Nat, valD ((Nat.toDigits 10 n).map Char.toNat) = n ∧ (Nat.toDigits 10 n).map Char.toNat ≠ [] ∧ (((Nat.toDigits 10 n).map Char.toNat).head? = some 48 → n = 0)
  | n => by
    by_cases h : n < 10
    · rw [Nat.toDigits_of_lt_base h]
      have key : ∀ n, n < 10 → valD ([Nat.digitChar n].map Char.toNat) = n ∧ ([Nat.digitChar n].map Char.toNat).head? = some (48 + n) := by decide +kernel
      obtain ⟨k1, k2⟩ := key n h
      refine ⟨k1, by simp, fun z => ?_⟩
      rw [k2] at z
      injection z with z
      omega
    · have h' : 10 ≤ n := by omega
      rw [Nat.toDigits_of_base_le (by decide) h', List.map_append]
      obtain ⟨i1, i2, i3⟩ := mqk (n / 10)
      have key : ∀ n, n < 10 → ([Nat.digitChar n].map Char.toNat) = [48 + n] := by decide +kernel
      rw [key (n % 10) (by omega), iqW, i1]
      refine ⟨by omega, by simp, fun z => ?_⟩
      cases hh : (Nat.toDigits 10 (n / 10)).map Char.toNat with
      | nil => exact absurd hh i2
      | cons c r =>
        rw [hh] at z i3
        have := i3 z
        omega
theorem qqM {o : Option Int} (h : ∀ i, o = some i → 0 ≤ i ∧ i ≤ 65535) : DooW o (dooT o) := by
  cases o with
  | none => rfl
  | some i =>
    obtain ⟨h1, h2⟩ := h i rfl
    obtain ⟨n, rfl⟩ := Int.eq_ofNat_of_zero_le h1
    have e : dg (n : Int) = (Nat.toDigits 10 n).map Char.toNat := by unfold dg; rw [PySem.W.KIN.signs_num]
    obtain ⟨i1, i2, i3⟩ := mqk n
    refine ⟨dg n, rfl, by rw [e]; exact i2, sqG h1, by rw [e, i1], by rw [e, i1]; omega, ?_⟩
    by_cases hz : (dg n).head? = some 48
    · rw [e] at hz
      have := i3 hz
      subst this
      exact .inl (by rw [e]; decide)
    · exact .inr hz
theorem tqi {o : Option (List Nat)} (h : ∀ l, o = some l → (0 < l.length ∧ l.length ≤ 60) ∧ ∀ c ∈ l, isSg c = true) : HouW o (houT o) := by
  cases o with
  | none => rfl
  | some l =>
    obtain ⟨⟨h1, h2⟩, h3⟩ := h l rfl
    exact ⟨wr l, rfl, lqu h3, (fun e => by rw [e] at h1; cases h1), h2⟩
theorem tqZ {o : Option (List Nat)} (h : ∀ l, o = some l → ∀ c ∈ l, isSg c = true) : MarW o (oT 35 o) := by
  cases o with
  | none => rfl
  | some l => exact ⟨wr l, rfl, lqu (h l rfl)⟩
theorem qqn {o : Option (List Nat)} (h : ∀ l, o = some l → ∀ c ∈ l, isSg c = true) : ValW o (oT 61 o) := by
  cases o with
  | none => rfl
  | some l => exact ⟨wr l, rfl, lqu (h l rfl)⟩
theorem uqD {e : Bool} : ∀ {ss : List (List Nat)}, (∀ s ∈ ss, StepOk s) → TlW ss e (tlT 47 (ss.map wr) ++ if e then [47] else [])
  | [], _ => by cases e <;> simp [tlT] <;> constructor
  | s :: ss, h => by
    have h1 := h s (List.mem_cons_self ..)
    have := TlW.more (lqu (fr := frS) h1.2) (fun z => by rw [z] at h1; cases h1.1) (uqD (e := e) (ss := ss) fun t ht => h t (List.mem_cons_of_mem _ ht))
    simpa [tlT] using this
theorem uqa {ss : List (List Nat)} {e : Bool} (h : ∀ s ∈ ss, StepOk s) : StpW ss e (stpT ss e) := by
  cases ss with
  | nil => rw [tqJ]; exact .none
  | cons s ss =>
    have h1 := h s (List.mem_cons_self ..)
    have := StpW.some (lqu (fr := frS) h1.2) (fun z => by rw [z] at h1; cases h1.1) (uqD (e := e) (ss := ss) fun t ht => h t (List.mem_cons_of_mem _ ht))
    unfold stpT
    simpa [joinT] using this
theorem qqA : ∀ {ps : List (List Nat × Option (List Nat))}, (∀ p ∈ ps, PairOk p) → PrsW ps (tlT 38 (ps.map pairT))
  | [], _ => .nil
  | (n, o) :: ps, h => by
    have h1 := h (n, o) (List.mem_cons_self ..)
    have := PrsW.cons (lqu (fr := frQ) h1.1.2) (fun z => by have := h1.1.1; rw [z] at this; cases this) (qqn h1.2) (qqA (ps := ps) fun t ht => h t (List.mem_cons_of_mem _ ht))
    simpa [tlT, pairT] using this
theorem uql {q : Option (List (List Nat × Option (List Nat)))} (h : ∀ ps, q = some ps → ∀ p ∈ ps, PairOk p) : QueW q (queT q) := by
  cases q with
  | none => rfl
  | some ps =>
    cases ps with
    | nil => rfl
    | cons p ps =>
      obtain ⟨n, o⟩ := p
      have h1 := h _ rfl (n, o) (List.mem_cons_self ..)
      exact ⟨wr n, oT 61 o, tlT 38 (ps.map pairT), by simp [queT, joinT, pairT], lqu h1.1.2, (fun z => by have := h1.1.1; rw [z] at this; cases this), qqn h1.2, qqA fun t ht => h _ rfl t (List.mem_cons_of_mem _ ht)⟩
theorem qqz {P : Nat → Prop} (h1 : P 63) (h2 : P 38) (h3 : P 61) (hw : ∀ c, wch c = true → P c) {q : Option (List (List Nat × Option (List Nat)))} (h : ∀ ps, q = some ps → ∀ p ∈ ps, PairOk p) : ∀ c ∈ queT q, P c := by
  intro c hc
  cases q with
  | none => cases hc
  | some ps =>
    simp only [queT, List.mem_cons] at hc
    rcases hc with rfl | hc
    · exact h1
    · refine kqH h2 (fun s hs d hd => ?_) c hc
      obtain ⟨p, hp, rfl⟩ := List.mem_map.mp hs
      exact uqu h3 hw (h ps rfl p hp) d hd
theorem Ad.Wf.all {P : Nat → Prop} {x : Ad} (h : x.Wf) (h1 : P 47) (h2 : P 58) (h3 : P 63) (h4 : P 38) (h5 : P 61) (h6 : P 35) (hw : ∀ c, wch c = true → P c) : ∀ c ∈ x.shw, P c := by
  intro c hc
  rw [Ad.shw_eq] at hc
  rcases List.mem_append.mp hc with hc | hc
  · rcases List.mem_append.mp hc with hc | hc
    · exact h.pre_all h1 h2 hw c hc
    · exact qqz h3 h4 h5 hw h.que c hc
  · exact sqU h6 hw h.mar c hc
theorem uqO {c : Nat} (h : wch c = true) : c < 128 := by
  simp only [wch, isPl, Bool.or_eq_true, decide_eq_true_eq] at h
  omega
theorem vq1 {x : Ad} (h : x.Wf) : ∀ c ∈ x.shw, c < 128 := h.all (by decide) (by decide) (by decide) (by decide) (by decide) (by decide) fun _ => uqO
theorem uqc {x : Ad} (h : x.Wf) : schM x.shw = x.scheme := by
  by_cases hs : x.scheme = []
  · rw [hs]
    refine (lqf ?_).1
    rintro ⟨_, z2, z3⟩
    cases hh : x.house with
    | some l =>
      obtain ⟨r, hr⟩ : ∃ r, x.shw = 47 :: r := by
        unfold Ad.shw
        rw [hs, hh]
        exact ⟨_, rfl⟩
      rw [hr] at z2
      have : (ahead (47 :: r)) = 47 :: ahead r := by unfold ahead; rw [List.takeWhile_cons_of_pos (by decide)]
      rw [this] at z2
      simp [schD, isLet] at z2
    | none =>
      have hd : x.door = none := by
        cases hd : x.door with
        | none => rfl
        | some i => exact absurd hh (h.doo i hd).2
      have hm : (58 : Nat) ∈ x.shw := List.mem_of_getElem? z3
      unfold Ad.shw at hm
      rw [hs, hh, hd] at hm
      simp only [schT, if_true, houT, dooT, List.nil_append] at hm
      have ha : ∀ c, c ∈ x.wayT ++ (queT x.quest ++ oT 35 x.mark) → c ≠ 58 := by
        intro c hc
        rcases List.mem_append.mp hc with hc | hc
        · exact sqK (P := fun c => c ≠ 58) (by decide) (fun c hc => (lqK hc).2.2.2.1) h.stp c hc
        · rcases List.mem_append.mp hc with hc | hc
          · exact qqz (P := fun c => c ≠ 58) (by decide) (by decide) (by decide) (fun c hc => (lqK hc).2.2.2.1) h.que c hc
          · exact sqU (P := fun c => c ≠ 58) (by decide) (fun c hc => (lqK hc).2.2.2.1) h.mar c hc
      exact ha 58 hm rfl
  · have hc : ∀ c ∈ x.scheme, c ≠ 58 := fun c hc => (lqK (pqZ (h.sch.2.1 c hc))).2.2.2.1
    obtain ⟨r, hr⟩ : ∃ r, x.shw = x.scheme ++ 58 :: r := by
      unfold Ad.shw schT
      rw [if_neg hs]
      exact ⟨_, by rw [List.append_assoc]; rfl⟩
    have ha : ahead x.shw = x.scheme := by rw [hr]; exact oqx hc
    have := (nqs (t := x.shw) (by rw [ha]; exact hs) (by
      rw [ha]
      simp only [schD, Bool.and_eq_true, List.all_eq_true, decide_eq_true_eq]
      exact ⟨⟨⟨fun c hc => kq4 (h.sch.2.1 c hc), by show x.scheme.length ≤ 8; exact h.sch.1⟩, h.sch.2.2⟩, h.sch.2.1⟩) (by
      rw [ha, hr, List.getElem?_append_right (Nat.le_refl _), Nat.sub_self]; rfl)).1
    rw [this, ha]
theorem vq5 {x : Ad} (h : x.Wf) : RdW x x.shw :=
  ⟨houT x.house, dooT x.door, stpT x.steps x.ends, queT x.quest, oT 35 x.mark, by
    unfold Ad.shw Ad.wayT
    rw [sqF, List.append_assoc], uqc h, tqi h.hou, qqM fun i e => (h.doo i e).1, uqa h.stp, uql h.que, tqZ h.mar⟩
theorem Ad.Tiny.sz {x : Ad} (h : x.Wf) (t : x.Tiny) (hn : x.steps.length ≤ 300) : x.Sz where
  stp := fun s hs => Nat.le_trans (t.stp s hs) (by decide)
  que := fun ps e => ⟨Nat.le_trans (t.que ps e).1 (by decide), fun p hp => ⟨Nat.le_trans ((t.que ps e).2 p hp).1 (by decide), fun v hv => Nat.le_trans (((t.que ps e).2 p hp).2 v hv) (by decide)⟩⟩
  mar := fun l e => Nat.le_trans (t.mar l e) (by decide)
  num := Nat.le_trans hn (by decide)
  all := by
    have a1 : (schT x.scheme).length ≤ 9 := by
      unfold schT
      split
      · simp
      · have := h.sch.1; simp only [List.length_append, List.length_cons, List.length_nil]; omega
    have a2 : (houT x.house).length ≤ 200 := by
      cases hh : x.house with
      | none => simp [houT]
      | some l => have := (h.hou l hh).1.2; have := gq9 l; simp only [houT, List.length_cons]; omega
    have a3 : (dooT x.door).length ≤ 6 := by
      cases hh : x.door with
      | none => simp [dooT]
      | some i => have b := (h.doo i hh).1; have := oql b.1 b.2; simp only [dooT, List.length_cons]; omega
    have a4 : x.wayT.length ≤ 9000 := by
      have hj := eqH (sep := 47) (m := 27) (ys := x.steps.map wr) fun s hs => by
        obtain ⟨u, hu, rfl⟩ := List.mem_map.mp hs
        have := gq9 u; have := t.stp u hu; omega
      rw [List.length_map] at hj
      have e1 : (if x.rooted then [47] else [] : List Nat).length ≤ 1 := by split <;> simp
      have e2 : (if x.ends && !x.steps.isEmpty then [47] else [] : List Nat).length ≤ 1 := by split <;> simp
      simp only [Ad.wayT, Wm.wayT, List.length_append]
      have : x.steps.length * (27 + 1) ≤ 300 * 28 := Nat.mul_le_mul hn (Nat.le_refl _)
      omega
    have a5 : (queT x.quest).length ≤ 1000 := by
      cases hq : x.quest with
      | none => simp [queT]
      | some ps =>
        have hk := t.que ps hq
        have hj := eqH (sep := 38) (m := 37) (ys := ps.map pairT) fun s hs => by
          obtain ⟨p, hp, rfl⟩ := List.mem_map.mp hs
          have h1 := (hk.2 p hp).1
          have h2 := pq4 (sep := 61) (n := 6) (o := p.2) fun v hv => (hk.2 p hp).2 v hv
          have := gq9 p.1
          simp only [pairT, List.length_append]
          omega
        rw [List.length_map] at hj
        have : ps.length * (37 + 1) ≤ 3 * 38 := Nat.mul_le_mul hk.1 (Nat.le_refl _)
        simp only [queT, List.length_cons]
        omega
    have a6 := pq4 (sep := 35) (n := 60) (o := x.mark) fun l e => Nat.le_trans (t.mar l e) (by decide)
    simp only [Ad.shw, List.length_append]
    omega
theorem rqn {w : Way} (h : ∀ s ∈ w.2.1, s.length ≤ 9) : ∀ s ∈ (goneV w).2.1, s.length ≤ 9 := by
  intro s hs
  unfold goneV goneW at hs
  split at hs
  · cases hs
  · split at hs
    · split at hs
      · cases hs
      · rw [List.mem_singleton.mp hs]; decide
    · rcases kqy s hs with z | z
      · exact h s z.1
      · rw [z.2]; decide
theorem Ad.Tiny.gone {x : Ad} (h : x.Tiny) : x.gone.Tiny := ⟨rqn (w := x.w) h.stp, h.que, h.mar, h.hou⟩
theorem kqV {x : Ad} (h : x.Tiny) : (plainM x).Tiny := by
  refine Ad.Tiny.gone ⟨h.stp, h.que, h.mar, fun l e => ?_⟩
  obtain ⟨m, hm, rfl⟩ := Option.map_eq_some_iff.mp e
  rw [mq0]
  exact h.hou m hm
def GoodsT (n : Nat) (H : Hp) (vs : List V) : Prop := ∀ v ∈ vs, ∃ x : Ad, (x.Wf ∧ x.Tiny ∧ x.steps.length ≤ n) ∧ IsT H x.data v
theorem GoodsT.cons {n : Nat} {H : Hp} {v : V} {vs : List V} {x : Ad} (h1 : x.Wf ∧ x.Tiny ∧ x.steps.length ≤ n) (h3 : IsT H x.data v) (h : GoodsT n H vs) : GoodsT n H (v :: vs) := fun u hu => by
  rcases List.mem_cons.mp hu with rfl | hu
  · exact ⟨x, h1, h3⟩
  · exact h u hu
theorem Ad.Tiny.local {x : Ad} (h : x.Tiny) : ({ x with scheme := [], house := none, door := none } : Ad).Tiny := ⟨h.stp, h.que, h.mar, fun l e => by cases e⟩
end Wm
namespace Wm
open PySem L2
def Bt (H : Hp) (q : Addr) (n : Nat) : Prop := ∃ bs : List Int, H q = some (.lst (bs.map V.int)) ∧ bs ≠ [] ∧ (∀ b ∈ bs, 0 ≤ b ∧ b ≤ 2147483647) ∧ bs.length ≤ n
theorem Bt.toT {H H' : Hp} {q : Addr} {n : Nat} (h : Bt H q n) (s : SameBut q H H') : SameT H H' := by
  obtain ⟨bs, hq, _⟩ := h
  exact s.toT hq
theorem Bt.same {H H' : Hp} {q : Addr} {n : Nat} (h : Bt H q n) (s : Same H H') : Bt H' q n := by
  obtain ⟨bs, hq, r⟩ := h
  exact ⟨bs, s _ _ hq, r⟩
theorem Bt.le {H : Hp} {q : Addr} {n m : Nat} (h : Bt H q n) (hm : n ≤ m) : Bt H q m := by
  obtain ⟨bs, hq, h1, h2, h3⟩ := h
  exact ⟨bs, hq, h1, h2, Nat.le_trans h3 hm⟩
def plL : List Nat := (Str.ofString "-_.0123456789abcdefghijklmnopqrstuvwxyzABCDEFGHIJKLMNOPQRSTUVWXYZ").cps.toList
theorem vqK : plL.length = 65 := by decide +kernel
theorem xqz : ∀ c, c < 128 → (c ∈ plL ↔ isPl c = true) := by decide +kernel
theorem jqs {fr s w : List Nat} (hf : ∀ c ∈ fr, c < 128) (h : WrT fr s w) : ∀ c ∈ w, c < 128 := by
  induction h with
  | nil => intro c hc; cases hc
  | self a b _ ih =>
    intro d hd
    rcases List.mem_cons.mp hd with rfl | hd
    · rcases a with a | a
      · exact uqO (by unfold wch; rw [a]; rfl)
      · exact hf _ a
    · exact ih d hd
  | pair a _ ih =>
    intro d hd
    obtain ⟨_, h1, h2, _⟩ := oqr a
    simp only [List.mem_cons] at hd
    rcases hd with rfl | rfl | rfl | hd
    · decide
    · exact h1
    · exact h2
    · exact ih d hd
theorem uqP {fr s w : List Nat} (hf : (58 : Nat) ∉ fr) (h : WrT fr s w) : ∀ c ∈ w, c ≠ 58 := by
  induction h with
  | nil => intro c hc; cases hc
  | self a b _ ih =>
    intro d hd
    rcases List.mem_cons.mp hd with rfl | hd
    · rcases a with a | a
      · intro z; rw [z] at a; cases a
      · intro z; rw [z] at a; exact hf a
    · exact ih d hd
  | pair a _ ih =>
    intro d hd
    unfold sgO at a
    simp only [List.mem_cons] at hd
    rcases hd with rfl | rfl | rfl | hd
    · decide
    · intro z; subst z
      rw [show fig 58 = none by decide] at a
      simp at a
    · intro z; subst z
      rw [show fig 58 = none by decide] at a
      simp at a
    · exact ih d hd
theorem uqR : (58 : Nat) ∉ frS := by decide +kernel
theorem xqh {ss : List (List Nat)} {e : Bool} {v : List Nat} (h : TlW ss e v) : ∀ c ∈ v, c ≠ 58 := by
  induction h with
  | stop => intro c hc; cases hc
  | ends => intro c hc; rw [List.mem_singleton.mp hc]; decide
  | more hw _ _ ih =>
    intro c hc
    simp only [List.mem_cons, List.mem_append] at hc
    rcases hc with rfl | hc | hc
    · decide
    · exact uqP uqR hw c hc
    · exact ih c hc
theorem wqH {ss : List (List Nat)} {e : Bool} {v : List Nat} (h : StpW ss e v) : ∀ c ∈ v, c ≠ 58 := by
  cases h with
  | none => intro c hc; cases hc
  | some hw _ ht =>
    intro c hc
    rcases List.mem_append.mp hc with hc | hc
    · exact uqP uqR hw c hc
    · exact xqh ht c hc
theorem oqK {w r : List Nat} (hw : ∀ c ∈ w, c ≠ 58) (hr : r = [] ∨ ∃ c y, r = c :: y ∧ isAln c = false ∧ c ≠ 58) : schM (w ++ r) = [] := by
  refine (lqf ?_).1
  rintro ⟨_, z2, z3⟩
  rcases hr with rfl | ⟨c, y, rfl, h1, h2⟩
  · rw [List.append_nil] at z3
    exact hw 58 (List.mem_of_getElem? z3) rfl
  · have e : ahead (w ++ c :: y) = w ++ c :: ahead y := by
      unfold ahead
      rw [List.takeWhile_append_of_pos (fun c hc => decide_eq_true (hw c hc)), List.takeWhile_cons_of_pos (by simpa using h2)]
    rw [e] at z2
    simp only [schD, Bool.and_eq_true, List.all_eq_true] at z2
    have := z2.2 c (by simp)
    rw [h1] at this
    cases this
theorem xqC {x : Ad} {h d w q m : List Nat} (wf : x.Wf) (hH : HouW x.house h) (hD : DooW x.door d) (hS : StpW x.steps x.ends w) (hQ : QueW x.quest q) (hM : MarW x.mark m) :
    RdW x (schT x.scheme ++ (h ++ (d ++ ((if x.rooted then [47] else []) ++ (w ++ (q ++ m)))))) := by
  refine ⟨h, d, w, q, m, rfl, ?_, hH, hD, hS, hQ, hM⟩
  by_cases hs : x.scheme = []
  · rw [hs, show schT [] = [] from rfl, List.nil_append]
    cases hh : x.house with
    | some l =>
      rw [hh] at hH
      obtain ⟨v, rfl, _⟩ := hH
      exact oqK (w := []) (fun c hc => by cases hc) (.inr ⟨47, _, rfl, by decide, by decide⟩)
    | none =>
      rw [hh] at hH
      have hH : h = [] := hH
      cases hd : x.door with
      | some i => exact absurd hh (wf.doo i hd).2
      | none =>
        rw [hd] at hD
        have hD : d = [] := hD
        rw [hH, hD, List.nil_append, List.nil_append, ← List.append_assoc]
        refine oqK (fun c hc => ?_) ?_
        · rcases List.mem_append.mp hc with hc | hc
          · split at hc
            · rw [List.mem_singleton.mp hc]; decide
            · cases hc
          · exact wqH hS c hc
        · have hmr : m = [] ∨ ∃ y, m = 35 :: y := by
            cases hm : x.mark with
            | none => rw [hm] at hM; exact .inl hM
            | some s => rw [hm] at hM; obtain ⟨v, e, _⟩ := hM; exact .inr ⟨v, e⟩
          cases hq : x.quest with
          | none =>
            rw [hq] at hQ
            have hQ : q = [] := hQ
            rw [hQ]
            rcases hmr with e | ⟨y, e⟩
            · exact .inl e
            · exact .inr ⟨35, y, e, by decide, by decide⟩
          | some ps =>
            rw [hq] at hQ
            cases ps with
            | nil =>
              have hQ : q = [63] := hQ
              exact .inr ⟨63, m, by rw [hQ]; rfl, by decide, by decide⟩
            | cons a ps =>
              obtain ⟨n, o⟩ := a
              obtain ⟨a, v, r, e, _⟩ := hQ
              exact .inr ⟨63, _, by rw [e]; rfl, by decide, by decide⟩
  · have hc : ∀ c ∈ x.scheme, c ≠ 58 := fun c hc => (lqK (pqZ (wf.sch.2.1 c hc))).2.2.2.1
    have er : schT x.scheme = x.scheme ++ [58] := by unfold schT; rw [if_neg hs]
    rw [er, List.append_assoc, List.cons_append, List.nil_append]
    generalize (h ++ (d ++ ((if x.rooted then [47] else []) ++ (w ++ (q ++ m))))) = r
    have ha : ahead (x.scheme ++ 58 :: r) = x.scheme := oqx hc
    have := (nqs (t := x.scheme ++ 58 :: r) (by rw [ha]; exact hs) (by
      rw [ha]
      simp only [schD, Bool.and_eq_true, List.all_eq_true, decide_eq_true_eq]
      exact ⟨⟨⟨fun c hc => kq4 (wf.sch.2.1 c hc), by show x.scheme.length ≤ 8; exact wf.sch.1⟩, wf.sch.2.2⟩, wf.sch.2.1⟩) (by
      rw [ha, List.getElem?_append_right (Nat.le_refl _), Nat.sub_self]; rfl)).1
    rw [this, ha]
theorem sqP {c : Nat} (hc : isSg c = true) : sgO (if c / 16 < 10 then 48 + c / 16 else 55 + c / 16) (if c % 16 < 10 then 48 + c % 16 else 55 + c % 16) = some c := by
  have l := cq2 hc
  have key : ∀ h, h < 16 → fig (if h < 10 then 48 + h else 55 + h) = some h := by decide +kernel
  unfold sgO
  rw [key (c / 16) (by omega), key (c % 16) (by omega)]
  simp only
  rw [show c / 16 * 16 + c % 16 = c by omega, if_pos hc]
theorem vqB : ∀ n, n < 16 → (Str.ofString "0123456789abcdef").cps.toList[n]? = some (hexd n) := by decide +kernel
theorem rqE : ∀ n, n < 16 → (Str.ofString "0123456789ABCDEF").cps.toList[n]? = some (if n < 10 then 48 + n else 55 + n) := by decide +kernel
end Wm
namespace L2
open PySem
theorem rqS {K : PySem.W.Frag} {p a : Addr} {fv : St} {te : TE} {Q : VK} {H1 : Hp} {xs : List V} (J : Nat → List V → Hp → Prop) (hlen : xs.length ≤ sizeLine) (h0 : J 0 [] (upd H1 p (.lst []))) (hS : ∀ i ys H2, J i ys H2 → SqT K H2 a xs)
    (he : ∀ (i : Nat) (x : V) (ys : List V) (H2 : Hp) (T : VK), xs[i]? = some x → J i ys H2 → H2 p = some (.lst ys) → (∀ y H3, H3 p = some (.lst ys) → J (i + 1) (ys ++ [y]) (upd H3 p (.lst (ys ++ [y]))) → T y H3) → te (some x :: fv) H2 T)
    (hQ : ∀ ys H2, J xs.length ys H2 → H2 p = some (.lst ys) → Q (.ref p) H2) : CompI (Itt K a) p fv tYes te Q H1 := by
  refine ⟨fun i m ys H2 => m = xs.length - i ∧ i ≤ xs.length ∧ ys.length = i ∧ H2 p = some (.lst ys) ∧ J i ys H2, ⟨xs.length, by simp, Nat.zero_le _, rfl, aqr, h0⟩, ?_⟩
  rintro i m ys H2 ⟨rfl, hi, hyl, hp2, hJ⟩
  refine ⟨hp2, ?_⟩
  have q := hS _ _ _ hJ
  by_cases hlt : i < xs.length
  · refine .inr ⟨⟨xs, xs[i], q, by simp [hlt]⟩, by omega, fun x H3 y => ?_⟩
    obtain ⟨rfl, y⟩ := y
    have hc := y xs q
    unfold tYes
    dsimp only
    rw [if_pos rfl]
    exact he i x ys _ _ hc hJ hp2 fun y H5 hp5 hJ5 => ⟨hp5, xs.length - (i + 1), by omega, rfl, hlt, by rw [List.length_append, hyl]; rfl, aqr, hJ5⟩
  · have e : i = xs.length := by omega
    subst e
    exact .inl ⟨⟨xs, q, Nat.le_refl _⟩, hQ ys H2 hJ hp2⟩
end L2
namespace Wm
open PySem L2
def PrW (p : List Nat × Option (List Nat)) (w : List Nat) : Prop := ∃ a v, w = a ++ v ∧ WrT frQ p.1 a ∧ ValW p.2 v
inductive PrWs : List (List Nat × Option (List Nat)) → List (List Nat) → Prop
  | nil : PrWs [] []
  | cons {p : List Nat × Option (List Nat)} {w : List Nat} {ps : List (List Nat × Option (List Nat))} {ws : List (List Nat)} : PrW p w → PrWs ps ws → PrWs (p :: ps) (w :: ws)
theorem PrWs.snoc {p : List Nat × Option (List Nat)} {w : List Nat} (h : PrW p w) : ∀ {ps : List (List Nat × Option (List Nat))} {ws : List (List Nat)}, PrWs ps ws → PrWs (ps ++ [p]) (ws ++ [w])
  | _, _, .nil => .cons h .nil
  | _, _, .cons a r => .cons a (PrWs.snoc h r)
theorem PrWs.length : ∀ {ps : List (List Nat × Option (List Nat))} {ws : List (List Nat)}, PrWs ps ws → ws.length = ps.length
  | _, _, .nil => rfl
  | _, _, .cons _ r => by simp [PrWs.length r]
theorem rqP : ∀ {ps : List (List Nat × Option (List Nat))} {ws : List (List Nat)}, PrWs ps ws → (∀ p ∈ ps, p.1 ≠ []) → PrsW ps (tlT 38 ws)
  | _, _, .nil, _ => .nil
  | (n, o) :: ps, _, .cons (w := w) (ws := ws) h r, hn => by
    obtain ⟨a, v, rfl, ha, hv⟩ := h
    have := PrsW.cons ha (hn (n, o) (List.mem_cons_self ..)) hv (rqP r fun p hp => hn p (List.mem_cons_of_mem _ hp))
    simpa [tlT] using this
theorem vq6 {ps : List (List Nat × Option (List Nat))} {ws : List (List Nat)} (h : PrWs ps ws) (hn : ∀ p ∈ ps, p.1 ≠ []) : QueW (some ps) (63 :: joinT 38 ws) := by
  cases h with
  | nil => rfl
  | cons h r =>
    rename_i p w ps ws
    obtain ⟨n, o⟩ := p
    obtain ⟨a, v, rfl, ha, hv⟩ := h
    exact ⟨a, v, tlT 38 ws, by simp [joinT], ha, hn (n, o) (List.mem_cons_self ..), hv, rqP r fun p hp => hn p (List.mem_cons_of_mem _ hp)⟩
inductive StWs : List (List Nat) → List (List Nat) → Prop
  | nil : StWs [] []
  | cons {s w : List Nat} {ss ws : List (List Nat)} : WrT frS s w → StWs ss ws → StWs (s :: ss) (w :: ws)
theorem StWs.snoc {s w : List Nat} (h : WrT frS s w) : ∀ {ss ws : List (List Nat)}, StWs ss ws → StWs (ss ++ [s]) (ws ++ [w])
  | _, _, .nil => .cons h .nil
  | _, _, .cons a r => .cons a (StWs.snoc h r)
theorem StWs.length : ∀ {ss ws : List (List Nat)}, StWs ss ws → ws.length = ss.length
  | _, _, .nil => rfl
  | _, _, .cons _ r => by simp [StWs.length r]
theorem uqF {e : Bool} : ∀ {ss ws : List (List Nat)}, StWs ss ws → (∀ s ∈ ss, s ≠ []) → TlW ss e (tlT 47 ws ++ if e then [47] else [])
  | _, _, .nil, _ => by cases e <;> simp [tlT] <;> constructor
  | s :: ss, _, .cons (w := w) (ws := ws) h r, hn => by
    have := TlW.more h (hn s (List.mem_cons_self ..)) (uqF (e := e) r fun p hp => hn p (List.mem_cons_of_mem _ hp))
    simpa [tlT] using this
theorem vq8 {e : Bool} {ss ws : List (List Nat)} (h : StWs ss ws) (hn : ∀ s ∈ ss, s ≠ []) : StpW ss e (joinT 47 ws ++ if e && !ss.isEmpty then [47] else []) := by
  cases h with
  | nil => simp [joinT]; exact .none
  | cons h r =>
    rename_i s w ss ws
    have := StpW.some h (hn s (List.mem_cons_self ..)) (uqF (e := e) r fun p hp => hn p (List.mem_cons_of_mem _ hp))
    simpa [joinT] using this
end Wm
namespace Wm
open PySem L2
theorem oqk : (126 : Nat) ∉ frQ ∧ ∀ c ∈ frQ, c < 128 := by decide +kernel
theorem uqM : (126 : Nat) ∉ frS ∧ ∀ c ∈ frS, c < 128 := by decide +kernel
theorem uqK : (126 : Nat) ∉ frM ∧ ∀ c ∈ frM, c < 128 := by decide +kernel
theorem Bt.ne {H : Hp} {q b : Addr} {n : Nat} {xs : List V} (h : Bt H q n) (hb : H b = some (.tup xs)) : b ≠ q := by
  obtain ⟨bs, hq, _⟩ := h
  intro z
  subst z
  rw [hb] at hq
  cases hq
theorem Bt.ne0 {H : Hp} {q b : Addr} {n : Nat} (h : Bt H q n) (hb : H b = none) : b ≠ q := by
  obtain ⟨bs, hq, _⟩ := h
  intro z
  subst z
  rw [hb] at hq
  cases hq
theorem Bt.upd {H : Hp} {q b : Addr} {n : Nat} {o : HO} (h : Bt H q n) (hb : b ≠ q) : Bt (L2.upd H b o) q n := by
  obtain ⟨bs, hq, r⟩ := h
  exact ⟨bs, by rw [aqI hb.symm]; exact hq, r⟩
end Wm
namespace Wm
open PySem L2
theorem sq4 {α : Type} (xs : List α) (i : Int) (h : xs.length ≤ 63) (hi : 9 ≤ i) : (pickV xs (some i) (some 69) (some 2)).length ≤ 27 := by
  refine Nat.le_trans (rq6 ..) ?_
  unfold sliceRange sliceBounds
  simp only [Option.getD_some, List.length_map, List.length_range]
  generalize xs.length = n at h
  simp only [show (2 : Int) > 0 by decide, if_true]
  repeat' split
  all_goals omega
def wrsL (ss : List (List Nat)) : Nat := (ss.map fun s => (wr s).length + 1).sum
theorem qqy (a b : List (List Nat)) : wrsL (a ++ b) = wrsL a + wrsL b := by unfold wrsL; rw [List.map_append, List.sum_append]
theorem nqj {n : Nat} : ∀ {ss : List (List Nat)}, (∀ s ∈ ss, s.length ≤ 9) → ss.length ≤ n → wrsL ss ≤ 28 * n
  | [], _, _ => Nat.zero_le _
  | s :: ss, h, hn => by
    cases n with
    | zero => simp at hn
    | succ n =>
      have h1 := h s (List.mem_cons_self ..)
      have h2 := gq9 s
      have h3 := nqj (n := n) (fun s hs => h s (List.mem_cons_of_mem _ hs)) (by simpa using hn)
      show (wr s).length + 1 + wrsL ss ≤ _
      omega
theorem vqr (n : Nat) : wrsL (List.replicate n sUp) = 3 * n := by
  induction n with
  | zero => rfl
  | succ n ih =>
    show (wr sUp).length + 1 + wrsL (List.replicate n sUp) = _
    rw [ih, show (wr sUp).length = 2 by decide +kernel]
    omega
theorem wqr (ss : List (List Nat)) : (tlT 47 (ss.map wr)).length = wrsL ss := by
  induction ss with
  | nil => rfl
  | cons s ss ih =>
    show (47 :: (wr s ++ tlT 47 (ss.map wr))).length = (wr s).length + 1 + wrsL ss
    rw [List.length_cons, List.length_append, ih]
    omega
theorem tqW (ss : List (List Nat)) : (joinT 47 (ss.map wr)).length ≤ wrsL ss := by
  cases ss with
  | nil => exact Nat.zero_le _
  | cons s ss =>
    show (wr s ++ tlT 47 (ss.map wr)).length ≤ (wr s).length + 1 + wrsL ss
    rw [List.length_append, wqr]
    omega
theorem wqs {x : Ad} (h : x.Wf) (t : x.Tiny) : x.shw.length ≤ (schT x.scheme).length + (houT x.house).length + (dooT x.door).length + wrsL x.steps + 2 + 130 := by
  have a4 : x.wayT.length ≤ wrsL x.steps + 2 := by
    have hj := tqW x.steps
    have e1 : (if x.rooted then [47] else [] : List Nat).length ≤ 1 := by split <;> simp
    have e2 : (if x.ends && !x.steps.isEmpty then [47] else [] : List Nat).length ≤ 1 := by split <;> simp
    simp only [Ad.wayT, Wm.wayT, List.length_append]
    omega
  have a5 : (queT x.quest).length ≤ 106 := by
    cases hq : x.quest with
    | none => simp [queT]
    | some ps =>
      have hk := t.que ps hq
      have hj := eqH (sep := 38) (m := 34) (ys := ps.map pairT) fun s hs => by
        obtain ⟨p, hp, rfl⟩ := List.mem_map.mp hs
        have h1 := (hk.2 p hp).1
        have h2 := pq4 (sep := 61) (n := 6) (o := p.2) fun v hv => (hk.2 p hp).2 v hv
        have := gq9 p.1
        simp only [pairT, List.length_append]
        omega
      rw [List.length_map] at hj
      have : ps.length * (34 + 1) ≤ 3 * 35 := Nat.mul_le_mul hk.1 (Nat.le_refl _)
      simp only [queT, List.length_cons]
      omega
  have a6 : (oT 35 x.mark).length ≤ 22 := by
    have := pq4 (sep := 35) (n := 7) (o := x.mark) fun v hv => t.mar v hv
    omega
  unfold Ad.shw
  simp only [List.length_append]
  omega
theorem tqA {x : Ad} (h : x.Wf) (t : x.Tiny) : (schT x.scheme).length + (houT x.house).length + (dooT x.door).length ≤ 60 := by
  have a1 : (schT x.scheme).length ≤ 9 := by
    unfold schT
    split
    · simp
    · have := h.sch.1; simp only [List.length_append, List.length_cons, List.length_nil]; omega
  have a2 : (houT x.house).length ≤ 41 := by
    cases hh : x.house with
    | none => simp [houT]
    | some l => have := t.hou l hh; have := gq9 l; simp only [houT, List.length_cons]; omega
  have a3 : (dooT x.door).length ≤ 6 := by
    cases hh : x.door with
    | none => simp [dooT]
    | some i => have b := (h.doo i hh).1; have := oql b.1 b.2; simp only [dooT, List.length_cons]; omega
  omega
end Wm
namespace Wm
open PySem L2
theorem mqF (w : Way) : ∀ s ∈ holder w, s ∈ (goneV w).2.1 := fun s hs => by
  unfold holder at hs
  split at hs
  · exact hs
  · exact List.dropLast_subset _ hs
theorem oqM (w : Way) : ∀ s ∈ lastW w, s ∈ (goneV w).2.1 := fun s hs => by
  unfold lastW at hs
  split at hs
  · cases hs
  · exact List.mem_of_mem_drop hs
theorem rq5 {b g : Way} {s : Stp} (h : s ∈ betw0 b g) : s = sUp ∨ s ∈ (goneV g).2.1 := by
  unfold betw0 at h
  rcases List.mem_append.mp h with h | h
  · rcases List.mem_append.mp h with h | h
    · exact .inl (List.eq_of_mem_replicate h)
    · exact .inr (mqF g s (List.mem_of_mem_drop h))
  · exact .inr (oqM g s h)
theorem nqO {b g : Ad} (hg : g.Tiny) (hb : b.Tiny) : (relM b g).Tiny := by
  have gg := hg.gone
  unfold relM
  split
  · exact gg
  · split
    · exact ⟨gg.stp, gg.que, gg.mar, gg.hou⟩
    · split
      · refine ⟨(fun s hs => by cases hs), fun ps e => ?_, hg.mar, (fun l e => by cases e)⟩
        dsimp only at e
        split at e
        · cases e
        · exact hg.que ps e
      · refine ⟨fun s hs => ?_, hg.que, hg.mar, (fun l e => by cases e)⟩
        have hs : s ∈ betw b.w g.w := hs
        unfold betw at hs
        split at hs
        · rw [List.mem_singleton.mp hs]; decide +kernel
        · rcases rq5 hs with rfl | h
          · decide +kernel
          · exact gg.stp s h
theorem pq0 (w : Way) : (holder w).length + (lastW w).length ≤ w.2.1.length := by
  have := lqw w
  unfold holder lastW
  split
  · simp; exact this
  · rw [List.length_dropLast, List.length_drop]
    omega
theorem tq5 {b g : Way} (hb : b.2.1.length ≤ 54) (hg : g.2.1.length ≤ 54) (ht : ∀ s ∈ (goneV g).2.1, s.length ≤ 9) : wrsL (betw b g) ≤ 1700 := by
  unfold betw
  split
  · decide +kernel
  · unfold betw0
    rw [qqy, qqy, vqr]
    have h1 := dqA b
    have h2 := pq0 g
    have h3 := nqj (n := (holder g).length) (ss := (holder g).drop (comm (holder b) (holder g))) (fun s hs => ht s (mqF g s (List.mem_of_mem_drop hs))) (by rw [List.length_drop]; omega)
    have h4 := nqj (n := (lastW g).length) (ss := lastW g) (fun s hs => ht s (oqM g s hs)) (Nat.le_refl _)
    omega
theorem rq4 {b g : Ad} (wg : g.Wf) (sg : g.scheme ≠ []) (tb : b.Tiny) (tg : g.Tiny) (lb : b.steps.length ≤ 54) (lg : g.steps.length ≤ 54) : (relM b g).shw.length ≤ 2000 := by
  have wf := sq7 (b := b) wg sg
  have ti := nqO (b := b) tg tb
  have h := wqs wf ti
  have hh := tqA wf ti
  have gg := tg.gone
  have gl := Ad.gone_len g
  have key : wrsL (relM b g).steps + (schT (relM b g).scheme).length + (houT (relM b g).house).length + (dooT (relM b g).door).length ≤ 1800 := by
    have hw : wrsL g.gone.steps ≤ 28 * 54 := nqj gg.stp (by omega)
    have e1 : (relM b g).steps = g.gone.steps ∨ (relM b g).steps = [] ∨ ((relM b g).steps = betw b.w g.w ∧ (relM b g).scheme = [] ∧ (relM b g).house = none ∧ (relM b g).door = none) := by
      unfold relM
      split
      · exact .inl rfl
      · split
        · exact .inl rfl
        · split
          · exact .inr (.inl rfl)
          · exact .inr (.inr ⟨rfl, rfl, rfl, rfl⟩)
    rcases e1 with e | e | ⟨e, e2, e3, e4⟩
    · rw [e]; omega
    · rw [e]; show 0 + _ + _ + _ ≤ _; omega
    · have := tq5 (b := b.w) (g := g.w) lb lg gg.stp
      rw [e, e2, e3, e4]
      show _ + 0 + 0 + 0 ≤ _
      omega
  omega
end Wm
namespace Wm
open PySem L2
def top (i : Nat) : Stmt := PySem.Challenge.pw_waymark_k92_whole_relative_comes_back.main.body.getD i (.Pass ⟨0, 0, 0, 0⟩)
abbrev eqZ : Stmt := top 15
abbrev eqY : Stmt := top 16
abbrev bqh : Stmt := top 18
abbrev bqi : Stmt := top 19
abbrev dqO : Stmt := top 34
abbrev gqh : Stmt := top 44
abbrev iqw : Stmt := top 47
abbrev dqz : Stmt := top 53
abbrev aqR : Stmt := top 55
abbrev aqV : Stmt := inClass (top 58) 0
abbrev bqf : Stmt := inClass (top 58) 1
abbrev bqU : Stmt := inClass (top 58) 3
abbrev bqn : Stmt := inClass (top 58) 4
abbrev cqY : Stmt := top 63
abbrev eqN : Stmt := top 75
abbrev bqo : Stmt := top 85
abbrev bqv : Stmt := top 87
abbrev cq4 : Stmt := top 88
abbrev bqk : Stmt := top 90
abbrev aqU : Stmt := top 91
abbrev cq0 : Stmt := top 93
abbrev bqQ : Stmt := top 94
abbrev bqu : Stmt := top 100
abbrev eq2 : Stmt := top 14
abbrev eqL : Stmt := top 17
abbrev eq4 : Stmt := top 20
abbrev cqg : Stmt := top 46
abbrev bqK : Stmt := inClass (top 58) 2
abbrev cqZ : Stmt := top 89
abbrev cqS : Stmt := top 92
abbrev bqm : Stmt := top 95
abbrev cqT : Stmt := top 96
abbrev bqt : Stmt := top 101
abbrev cq3 : Stmt := top 35
abbrev lqG : Stmt := top 45
abbrev bq8 : Stmt := top 62
abbrev cqf : Stmt := top 70
abbrev bqO : Stmt := top 73
abbrev cq6 : Stmt := top 74
abbrev bqS : Stmt := top 77
abbrev bq5 : Stmt := top 78
abbrev dqB : Stmt := top 97
abbrev aqT : Stmt := top 102
abbrev bqj : Stmt := top 48
abbrev gqu : Stmt := top 49
abbrev bqz : Stmt := top 60
abbrev bqG : Stmt := top 69
abbrev aq5 : Stmt := top 76
abbrev bqy : Stmt := top 98
abbrev cqm : Stmt := top 103
abbrev bqT : Stmt := top 54
abbrev cqX : Stmt := top 64
abbrev bqL : Stmt := top 66
abbrev bq7 : Stmt := top 67
abbrev aqJ : Stmt := top 68
abbrev kqS : Stmt := top 72
abbrev iqq : Stmt := top 80
abbrev dqE : Stmt := top 84
abbrev cq1 : Stmt := top 99
abbrev cqR : Stmt := top 52
abbrev bqR : Stmt := top 61
abbrev aq3 : Stmt := top 65
abbrev cqi : Stmt := top 83
abbrev dqC : Stmt := top 51
abbrev lqa : Stmt := top 59
abbrev dqN : Stmt := top 82
abbrev cqV : Stmt := top 104
abbrev pqT : Stmt := top 105
abbrev sqN : V := .str (Str.ofString " !\"#$&'()*+,-./0123456789:;<=>?@ABCDEFGHIJKLMNOPQRSTUVWXYZ[\\]^_`abcdefghijklmnopqrstuvwxyz{|}~")
abbrev sqm : V := .str (Str.ofString "abcdefghijklmnopqrstuvwxyzABCDEFGHIJKLMNOPQRSTUVWXYZ")
abbrev gqQ : V := .str (Str.ofString "abcdefghijklmnopqrstuvwxyzABCDEFGHIJKLMNOPQRSTUVWXYZ0123456789")
abbrev kqY : V := .str (Str.ofString "0123456789")
abbrev pqu : V := .str (Str.ofString "abcdefghijklmnopqrstuvwxyzABCDEFGHIJKLMNOPQRSTUVWXYZ0123456789-_.")
abbrev eqK : V := .str (Str.ofString "!$'()*,;@&=+")
abbrev bqe : V := .str (Str.ofString "!$'()*,;@+/?:")
abbrev gqP : V := .str (Str.ofString "!$'()*,;@&=+/?:")
abbrev iqf : V := .int 32
abbrev mq5 : V := .int 126
abbrev fqL : V := .int 37
abbrev dqf : V := .str (Str.ofString "0123456789abcdef")
abbrev gqS : V := .str (Str.ofString "0123456789ABCDEF")
abbrev hqD : V := .int 0
abbrev gqv : V := .int 1
abbrev qqN : V := .int 2
abbrev lqI : V := .int 3
abbrev bqF : V := .int 4
abbrev qqC : V := .int 5
abbrev iqA : V := .int 0
abbrev jqH : V := .int 1
abbrev mqu : V := .int 2
abbrev kqo : V := .int 8
abbrev lqO : V := .int 60
abbrev pql : V := .int 65535
abbrev oqP : V := .str (Str.ofString ".")
abbrev k_UP : V := .str (Str.ofString "..")
abbrev gqU : V := .str (Str.ofString "234567")
set_option genInjectivity false
set_option genSizeOf false
set_option genSizeOfSpec false
structure G (K : PySem.W.Frag) (mg : Str → Option Value) where
  iqT : Addr
  hqP : FuncData
  hqt : Fun K "made_of" "made_of" eqZ iqT hqP
  iqy : mg "made_of" = some (.ref iqT)
  iqO : Binds K hqP ["text", "signs"] []
  iqU : Addr
  hqC : FuncData
  kq3 : Fun K "pair_of" "pair_of" eqY iqU hqC
  oq3 : mg "pair_of" = some (.ref iqU)
  oq8 : Binds K hqC ["sign"] []
  dqk : Addr
  cqG : FuncData
  dqj : Fun K "figure_number" "figure_number" bqh dqk cqG
  eqS : mg "figure_number" = some (.ref dqk)
  eqP : Binds K cqG ["figure"] []
  dqi : Addr
  cqF : FuncData
  fqa : Fun K "sign_numbered" "sign_numbered" bqi dqi cqF
  hqc : mg "sign_numbered" = some (.ref dqi)
  hqw : Binds K cqF ["number"] []
  hqQ : Addr
  fq2 : FuncData
  dqF : Fun K "is_whole" "is_whole" dqO hqQ fq2
  eqG : mg "is_whole" = some (.ref hqQ)
  eqD : Binds K fq2 ["address"] []
  kqC : Addr
  iqJ : FuncData
  mqP : Fun K "is_dot" "is_dot" gqh kqC iqJ
  pq7 : mg "is_dot" = some (.ref kqC)
  qqh : Binds K iqJ ["step"] []
  nqA : Addr
  kqF : FuncData
  pqB : Fun K "go_up" "go_up" iqw nqA kqF
  rqW : mg "go_up" = some (.ref nqA)
  rqY : Binds K kqF ["left", "rooted"] []
  hqN : Addr
  gqd : FuncData
  jqo : Fun K "can_stay" "can_stay" dqz hqN gqd
  mqo : mg "can_stay" = some (.ref hqN)
  mqg : Binds K gqd ["base", "goal"] []
  cqu : Addr
  bq2 : FuncData
  dqJ : Fun K "count_in_common" "count_in_common" aqR cqu bq2
  fqQ : mg "count_in_common" = some (.ref cqu)
  fqR : Binds K bq2 ["one", "other"] []
  cqA : Addr
  bq3 : FuncData
  fqP : Fun K "__init__" "Cursor.__init__" aqV cqA bq3
  fqN : Binds K bq3 ["self", "text"] []
  dqt : Addr
  cqN : FuncData
  gqV : Fun K "at_end" "Cursor.at_end" bqf dqt cqN
  eqW : Binds K cqN ["self"] []
  eqw : Addr
  dqV : FuncData
  jqi : Fun K "take" "Cursor.take" bqU eqw dqV
  cqx : Binds K dqV ["self"] []
  dqv : Addr
  cqK : FuncData
  gq5 : Fun K "passes" "Cursor.passes" bqn dqv cqK
  aqK : Binds K cqK ["self", "text"] []
  gqy : Addr
  fqf : FuncData
  gqg : Fun K "door_with" "door_with" cqY gqy fqf
  iqm : mg "door_with" = some (.ref gqy)
  iqx : Binds K fqf ["door", "cursor"] []
  iqY : Addr
  hqG : FuncData
  lqB : Fun K "slashed" "slashed" eqN iqY hqG
  oqj : mg "slashed" = some (.ref iqY)
  nq6 : Binds K hqG ["rooted", "texts", "ends"] []
  dqw : Addr
  cqO : FuncData
  eq5 : Fun K "question_from" "question_from" bqo dqw cqO
  hqj : mg "question_from" = some (.ref dqw)
  hqA : Binds K cqO ["base", "address"] []
  dqQ : Addr
  dqn : FuncData
  aqX : Fun K "_law_cell_at" "_law_cell_at" bqv dqQ dqn
  bqb : mg "_law_cell_at" = some (.ref dqQ)
  bqa : Binds K dqn ["_law_script", "_law_k"] []
  fq7 : Addr
  fqe : FuncData
  cq7 : Fun K "_law_text" "_law_text" cq4 fq7 fqe
  dqH : mg "_law_text" = some (.ref fq7)
  dqD : Binds K fqe ["_law_cell", "_law_most"] []
  dqr : Addr
  cqH : FuncData
  eqO : Fun K "_law_same_way" "_law_same_way" bqk dqr cqH
  hqh : mg "_law_same_way" = some (.ref dqr)
  hqq : Binds K cqH ["_law_found", "_law_due"] []
  cqs : Addr
  bq1 : FuncData
  dqK : Fun K "_law_same_pairs" "_law_same_pairs" aqU cqs bq1
  fqU : mg "_law_same_pairs" = some (.ref cqs)
  fqS : Binds K bq1 ["_law_found"] []
  gqx : Addr
  fqd : FuncData
  iqo : Fun K "_law_gone" "_law_gone" cq0 gqx fqd
  kq7 : mg "_law_gone" = some (.ref gqx)
  lqE : Binds K fqd ["_law_way_here"] []
  eqr : Addr
  dqP : FuncData
  gqt : Fun K "_law_scheme" "_law_scheme" bqQ eqr dqP
  iq2 : mg "_law_scheme" = some (.ref eqr)
  iqz : Binds K dqP ["_law_cell"] []
  dqY : Addr
  dqs : FuncData
  fqG : Fun K "_law_pair_of" "_law_pair_of" bqu dqY dqs
  hq9 : mg "_law_pair_of" = some (.ref dqY)
  iqd : Binds K dqs ["_law_sign", "_law_great"] []
  iq6 : Addr
  hqE : FuncData
  kq1 : Fun K "is_text" "is_text" eq2 iq6 hqE
  oqF : mg "is_text" = some (.ref iq6)
  oqE : Binds K hqE ["thing"] []
  iqH : Addr
  hqJ : FuncData
  lqo : Fun K "sign_of" "sign_of" eqL iqH hqJ
  oqB : mg "sign_of" = some (.ref iqH)
  pqa : Binds K hqJ ["figures"] []
  jqd : Addr
  hqS : FuncData
  dq5 : Fun K "written" "written" eq4 jqd hqS
  eqQ : mg "written" = some (.ref jqd)
  eqM : Binds K hqS ["text"] []
  fqy : Addr
  eqz : FuncData
  hqr : Fun K "steps_left" "steps_left" cqg fqy eqz
  jqV : mg "steps_left" = some (.ref fqy)
  jqQ : Binds K eqz ["steps", "rooted"] []
  eqq : Addr
  dqW : FuncData
  iqM : Fun K "sees" "Cursor.sees" bqK eqq dqW
  dqc : Binds K dqW ["self", "signs"] []
  gqm : Addr
  fqj : FuncData
  iqv : Fun K "_law_step" "_law_step" cqZ gqm fqj
  lqe : mg "_law_step" = some (.ref gqm)
  lqC : Binds K fqj ["_law_cell"] []
  gqk : Addr
  fqn : FuncData
  eq0 : Fun K "_law_same" "_law_same" cqS gqk fqn
  fq5 : mg "_law_same" = some (.ref gqk)
  fqZ : Binds K fqn ["_law_found", "_law_due"] []
  dql : Addr
  cqL : FuncData
  eq8 : Fun K "_law_question" "_law_question" bqm dql cqL
  gq2 : mg "_law_question" = some (.ref dql)
  hqk : Binds K cqL ["_law_cell"] []
  fq8 : Addr
  fqr : FuncData
  iql : Fun K "_law_mark" "_law_mark" cqT fq8 fqr
  kqN : mg "_law_mark" = some (.ref fq8)
  lqg : Binds K fqr ["_law_cell"] []
  dq1 : Addr
  dqd : FuncData
  bqw : Fun K "_law_written" "_law_written" bqt dq1 dqd
  bqZ : mg "_law_written" = some (.ref dq1)
  bq0 : Binds K dqd ["_law_text_here", "_law_free", "_law_bits"] []
  gqj : Addr
  fql : FuncData
  iqn : Fun K "is_scheme" "is_scheme" cq3 gqj fql
  lqN : mg "is_scheme" = some (.ref gqj)
  lqj : Binds K fql ["thing"] []
  qqp : Addr
  nqd : FuncData
  qqD : Fun K "gone" "gone" lqG qqp nqd
  rq1 : mg "gone" = some (.ref qqp)
  rqH : Binds K nqd ["way"] []
  fqo : Addr
  eqx : FuncData
  hql : Fun K "taken_door" "taken_door" bq8 fqo eqx
  jqU : mg "taken_door" = some (.ref fqo)
  jq6 : Binds K eqx ["cursor"] []
  fqA : Addr
  eqo : FuncData
  gq8 : Fun K "taken_pair" "taken_pair" cqf fqA eqo
  jq3 : mg "taken_pair" = some (.ref fqA)
  jq9 : Binds K eqo ["cursor"] []
  eqy : Addr
  dqX : FuncData
  fq6 : Fun K "shown_house" "shown_house" bqO eqy dqX
  iq0 : mg "shown_house" = some (.ref eqy)
  iqS : Binds K dqX ["house", "door"] []
  fq4 : Addr
  fqs : FuncData
  iqp : Fun K "shown_way" "shown_way" cq6 fq4 fqs
  kqK : mg "shown_way" = some (.ref fq4)
  lqD : Binds K fqs ["way"] []
  eql : Addr
  dqZ : FuncData
  gqs : Fun K "shown_asked" "shown_asked" bqS eql dqZ
  iqZ : mg "shown_asked" = some (.ref eql)
  iq4 : Binds K dqZ ["name", "value"] []
  fqg : Addr
  eqB : FuncData
  gqT : Fun K "shown_mark" "shown_mark" bq5 fqg eqB
  jq1 : mg "shown_mark" = some (.ref fqg)
  jqO : Binds K eqB ["mark"] []
  hqO : Addr
  gql : FuncData
  jqx : Fun K "_law_way" "_law_way" dqB hqO gql
  mqm : mg "_law_way" = some (.ref hqO)
  mqJ : Binds K gql ["_law_cells", "_law_rooted", "_law_ends"] []
  cqr : Addr
  bq4 : FuncData
  dqG : Fun K "_law_asked_text" "_law_asked_text" aqT cqr bq4
  fqV : mg "_law_asked_text" = some (.ref cqr)
  fqI : Binds K bq4 ["_law_question_here", "_law_bits"] []
  dqm : Addr
  cqM : FuncData
  bqB : Fun K "with_way_gone" "with_way_gone" bqj dqm cqM
  cqb : mg "with_way_gone" = some (.ref dqm)
  cqk : Binds K cqM ["address"] []
  kqJ : Addr
  iqQ : FuncData
  iq7 : Fun K "holder" "holder" gqu kqJ iqQ
  kqA : mg "holder" = some (.ref kqJ)
  kqG : Binds K iqQ ["way"] []
  dq2 : Addr
  dqq : FuncData
  fqF : Fun K "taken_scheme" "taken_scheme" bqz dq2 dqq
  iqc : mg "taken_scheme" = some (.ref dq2)
  iqe : Binds K dqq ["cursor"] []
  fqh : Addr
  dqx : FuncData
  jqN : Addr
  lq0 : Tok
  bqI : FunD K "taken_text" "taken_text" bqG fqh dqx jqN
  cqw : Binds K dqx ["cursor", "free", "most"] [.none]
  cqp : mg "taken_text" = some (.ref fqh)
  jq0 : Binds K dqx ["cursor", "free", "most"] []
  cqJ : Addr
  cqz : FuncData
  eqa : Fun K "shown_question" "shown_question" aq5 cqJ cqz
  gqM : mg "shown_question" = some (.ref cqJ)
  gqH : Binds K cqz ["question"] []
  dqR : Addr
  dqh : FuncData
  dqU : Fun K "_law_address" "_law_address" bqy dqR dqh
  fqC : mg "_law_address" = some (.ref dqR)
  fqE : Binds K dqh ["_law_script", "_law_first", "_law_whole", "_law_cells"] []
  fqt : Addr
  eqm : FuncData
  fqx : Fun K "_law_shown" "_law_shown" cqm fqt eqm
  hqe : mg "_law_shown" = some (.ref fqt)
  gq0 : Binds K eqm ["_law_address_here", "_law_bits"] []
  equ : Addr
  dqS : FuncData
  gqa : Fun K "way_between" "way_between" bqT equ dqS
  jqb : mg "way_between" = some (.ref equ)
  iqI : Binds K dqS ["base_way", "goal_way"] []
  gqe : Addr
  fqi : FuncData
  iqj : Fun K "taken_way" "taken_way" cqX gqe fqi
  lqv : mg "taken_way" = some (.ref gqe)
  lqy : Binds K fqi ["cursor", "must_be_rooted"] []
  eqp : Addr
  dqT : FuncData
  eqA : Fun K "taken_value" "taken_value" bqL eqp dqT
  gqC : mg "taken_value" = some (.ref eqp)
  gqq : Binds K dqT ["cursor"] []
  fqz : Addr
  eqt : FuncData
  hqB : Fun K "taken_mark" "taken_mark" bq7 fqz eqt
  jq5 : mg "taken_mark" = some (.ref fqz)
  jq7 : Binds K eqt ["cursor"] []
  bqP : Addr
  aq6 : FuncData
  eq1 : Addr
  gqY : Tok
  bqM : FunD K "taken_filled_text" "taken_filled_text" aqJ bqP aq6 eq1
  eqj : Binds K aq6 ["cursor", "free", "most"] [.none]
  cqW : mg "taken_filled_text" = some (.ref bqP)
  eqR : Binds K aq6 ["cursor", "free", "most"] []
  qqb : Addr
  nqq : FuncData
  sqg : Fun K "show" "show" kqS qqb nqq
  uqB : mg "show" = some (.ref qqb)
  uqH : Binds K nqq ["address"] []
  nqk : Addr
  fd_plain : FuncData
  lqq : Fun K "plain" "plain" iqq nqk fd_plain
  mqO : mg "plain" = some (.ref nqk)
  nqD : Binds K fd_plain ["address"] []
  hqW : Addr
  fqX : FuncData
  jql : Fun K "way_from" "way_from" dqE hqW fqX
  mqn : mg "way_from" = some (.ref hqW)
  mqs : Binds K fqX ["base_way", "way"] []
  fq9 : Addr
  fqv : FuncData
  iqt : Fun K "_law_pair" "_law_pair" cq1 fq9 fqv
  lqA : mg "_law_pair" = some (.ref fq9)
  lqk : Binds K fqv ["_law_script"] []
  gqc : Addr
  fqp : FuncData
  iqi : Fun K "told_from" "told_from" cqR gqc fqp
  lqx : mg "told_from" = some (.ref gqc)
  kq2 : Binds K fqp ["base", "goal"] []
  eqn : Addr
  dq3 : FuncData
  gqr : Fun K "taken_house" "taken_house" bqR eqn dq3
  iqF : mg "taken_house" = some (.ref eqn)
  iq3 : Binds K dq3 ["cursor"] []
  cqI : Addr
  cqt : FuncData
  eqd : Fun K "taken_question" "taken_question" aq3 cqI cqt
  gqG : mg "taken_question" = some (.ref cqI)
  gqI : Binds K cqt ["cursor"] []
  fqw : Addr
  eqs : FuncData
  gq3 : Fun K "made_whole" "made_whole" cqi fqw eqs
  kqa : mg "made_whole" = some (.ref fqw)
  jq8 : Binds K eqs ["base", "address"] []
  hqL : Addr
  gqf : FuncData
  jqI : Fun K "relative" "relative" dqC hqL gqf
  mqt : mg "relative" = some (.ref hqL)
  mqC : Binds K gqf ["base", "goal"] []
  qqv : Addr
  nqn : FuncData
  oqO : Fun K "read" "read" lqa qqv nqn
  pq9 : mg "read" = some (.ref qqv)
  pq5 : Binds K nqn ["text"] []
  hqF : Addr
  fq3 : FuncData
  jqC : Fun K "resolved" "resolved" dqN hqF fq3
  mqK : mg "resolved" = some (.ref hqF)
  mqz : Binds K fq3 ["base", "address"] []
  fq1 : Addr
  fqu : FuncData
  gqD : Fun K "_law_back" "_law_back" cqV fq1 fqu
  iqr : mg "_law_back" = some (.ref fq1)
  iqg : Binds K fqu ["_law_base", "_law_goal"] []
  tqD : Addr
  nqW : FuncData
  yqu : Fun K "law" "law" pqT tqD nqW
  yqE : mg "law" = some (.ref tqD)
  yqw : Binds K nqW ["_law_script"] []
  aqu : Addr
  aqq : Cls K aqu
  aq8 : NoAttr K aqu "text"
  aqH : NoAttr K aqu "place"
  qqk : mg "Cursor" = some (.ref aqu)
  qqs : Mk K aqu cqA
  eqe : Meth K aqu "at_end" dqt
  bqX : Meth K aqu "take" eqw
  aqG : Meth K aqu "passes" dqv
  cqD : Meth K aqu "sees" eqq
  kqP : Tok
  pqj : mg "SIGNS" = some (.str (Str.ofString " !\"#$&'()*+,-./0123456789:;<=>?@ABCDEFGHIJKLMNOPQRSTUVWXYZ[\\]^_`abcdefghijklmnopqrstuvwxyz{|}~") kqP)
  gqW : Tok
  oq5 : mg "LETTERS" = some (.str (Str.ofString "abcdefghijklmnopqrstuvwxyzABCDEFGHIJKLMNOPQRSTUVWXYZ") gqW)
  aqY : Tok
  dq7 : mg "LETTERS_AND_FIGURES" = some (.str (Str.ofString "abcdefghijklmnopqrstuvwxyzABCDEFGHIJKLMNOPQRSTUVWXYZ0123456789") aqY)
  gqZ : Tok
  kqU : mg "FIGURES" = some (.str (Str.ofString "0123456789") gqZ)
  kq6 : Tok
  pqO : mg "PLAIN" = some (.str (Str.ofString "abcdefghijklmnopqrstuvwxyzABCDEFGHIJKLMNOPQRSTUVWXYZ0123456789-_.") kq6)
  cql : Tok
  eq9 : mg "FREE_IN_STEPS" = some (.str (Str.ofString "!$'()*,;@&=+") cql)
  bqd : Tok
  bqN : mg "FREE_IN_QUESTIONS" = some (.str (Str.ofString "!$'()*,;@+/?:") bqd)
  cqe : Tok
  gq6 : mg "FREE_IN_MARKS" = some (.str (Str.ofString "!$'()*,;@&=+/?:") cqe)
  cqE : Tok
  fqB : mg "FIRST_NUMBER" = some (.int 32 cqE)
  dqa : Tok
  iq1 : mg "LAST_NUMBER" = some (.int 126 dqa)
  bqA : Tok
  dqL : mg "NUMBER_LEFT_OUT" = some (.int 37 bqA)
  bq6 : Tok
  cqa : mg "SMALL_FIGURES" = some (.str (Str.ofString "0123456789abcdef") bq6)
  cqn : Tok
  eq7 : mg "GREAT_FIGURES" = some (.str (Str.ofString "0123456789ABCDEF") cqn)
  iqG : Tok
  fqY : mg "SCHEME" = some (.int 0 iqG)
  lqp : Tok
  fqH : mg "HOUSE" = some (.int 1 lqp)
  nqU : Tok
  oqw : mg "DOOR" = some (.int 2 nqU)
  sqW : Tok
  kqr : mg "WAY" = some (.int 3 sqW)
  fqK : Tok
  bqp : mg "QUESTION" = some (.int 4 fqK)
  nqZ : Tok
  oqH : mg "MARK" = some (.int 5 nqZ)
  iqR : Tok
  hqI : mg "ROOTED" = some (.int 0 iqR)
  lqm : Tok
  iqk : mg "STEPS" = some (.int 1 lqm)
  oqh : Tok
  lqJ : mg "ENDS" = some (.int 2 oqh)
  bqW : Tok
  gqL : mg "LONGEST_SCHEME" = some (.int 8 bqW)
  cqh : Tok
  hqn : mg "LONGEST_HOUSE" = some (.int 60 cqh)
  eqT : Tok
  lqi : mg "LAST_DOOR" = some (.int 65535 eqT)
  oq2 : Tok
  nq0 : mg "STAY" = some (.str (Str.ofString ".") oq2)
  t_UP : Tok
  c_UP : mg "UP" = some (.str (Str.ofString "..") t_UP)
  hqT : Addr
  kqB : mg "NO_WAY" = some (.ref hqT)
  iqP : ∀ H, IsK K H (.tuple [.bool false, .tuple [], .bool false]) (.ref hqT)
  cqc : Tok
  hqi : mg "FIRST_FIGURES" = some (.str (Str.ofString "234567") cqc)
  yqt : mg "all" = none
  tqM : mg "ord" = none
  fqT : mg "len" = none
  yqs : mg "min" = none
  pqz : mg "int" = none
  nqp : mg "range" = none
  aqA : mg "isinstance" = none
  lqF : mg "str" = none
  qqG : mg "bool" = none
  eqb : mg "tuple" = none
  mqj : mg "reversed" = none
def rqj : Sp := fun vs H Q _ => ∃ x y : Str, vs = [.str x, .str y] ∧ x.length ≤ 100000 ∧ ∀ H', Same H H' → Q (.bl (x.cps.toList.all fun c => decide (c ∈ y.cps.toList))) H'
def mqv : Sp := fun vs H Q _ => ∃ c : Nat, vs = [one c] ∧ c < 256 ∧ Q (.str ⟨[126, hexd (c / 16), hexd (c % 16)].toArray⟩) H
def gqO : Sp := fun vs H Q _ => ∃ a : Nat, vs = [one a] ∧ a < 128 ∧ Q (figV a) H
def kqj : Sp := fun vs H Q _ => ∃ n : Nat, vs = [.int (n : Int)] ∧ Q (sgV n) H
def pqq (K : PySem.W.Frag) : Sp := fun vs H Q _ => ∃ (p : Addr) (l : List Nat) (r : List V), vs = [.ref p] ∧ SqT K H p (.str ⟨l.toArray⟩ :: r) ∧ Q (.bl (!decide (l = []))) H
def rqX : Sp := fun vs H Q _ => ∃ s : Stp, vs = [sV s] ∧ Q (.bl (isDot s)) H
def tqu (K : PySem.W.Frag) : Sp := fun vs H Q _ => ∃ (p : Addr) (L : List Stp) (r : Bool), vs = [.ref p, .bl r] ∧ H p = some (.lst (L.map sV)) ∧ L.length ≤ 2000 ∧ Q .non (upd H p (.lst ((goUp r L).map sV)))
def pqh (K : PySem.W.Frag) : Sp := fun vs H Q _ => ∃ (b g : Ad) (vb vg : V), vs = [vb, vg] ∧ IsK K H b.data vb ∧ IsK K H g.data vg ∧ b.Wf ∧ g.Wf ∧ Q (.bl (decide (b.w = g.w ∧ (g.quest ≠ none ∨ b.quest = none)))) H
def iqK (K : PySem.W.Frag) : Sp := fun vs H Q _ => ∃ (p q : Addr) (h t : List Stp), vs = [.ref p, .ref q] ∧ SqT K H p (h.map sV) ∧ SqT K H q (t.map sV) ∧ Q (.int (comm h t)) H
def jqe (K : PySem.W.Frag) (C : Addr) : Sp := fun vs H Q _ => ∃ (p dx : Addr) (t : List Nat), vs = [.ref p, .str ⟨t.toArray⟩] ∧ H p = some (.ins C dx []) ∧ ∀ H', SameBut p H H' → Cur H' C p t 0 → Q .non H'
def kqn (K : PySem.W.Frag) (C : Addr) : Sp := fun vs H Q _ => ∃ (p : Addr) (t : List Nat) (i : Nat), vs = [.ref p] ∧ Cur H C p t i ∧ t.length ≤ 100000 ∧ Q (.bl (decide (i = t.length))) H
def lqZ (K : PySem.W.Frag) (C : Addr) : Sp := fun vs H Q _ => ∃ (p : Addr) (t : List Nat) (i c : Nat), vs = [.ref p] ∧ Cur H C p t i ∧ t[i]? = some c ∧ t.length ≤ 100000 ∧ ∀ H', SameBut p H H' → Cur H' C p t (i + 1) → Q (.str ⟨#[c]⟩) H'
def cqP (K : PySem.W.Frag) (C : Addr) : Sp := fun vs H Q _ => ∃ (p : Addr) (t w : List Nat) (i : Nat), vs = [.ref p, .str ⟨w.toArray⟩] ∧ Cur H C p t i ∧ i ≤ t.length ∧ t.length ≤ 100000 ∧ ((t.drop i).take w.length = w → ∀ H', SameBut p H H' → Cur H' C p t (i + w.length) → Q (.bl true) H') ∧ (¬ (t.drop i).take w.length = w → Q (.bl false) H)
def oqJ (K : PySem.W.Frag) (C : Addr) : Sp := fun vs H Q _ => ∃ (p : Addr) (t : List Nat) (i c n : Nat), vs = [.int (n : Int), .ref p] ∧ Cur H C p t i ∧ t.length ≤ 100000 ∧ t[i]? = some c ∧ 48 ≤ c ∧ c ≤ 57 ∧ n ≤ 100000 ∧ Q (.int ((n * 10 + (c - 48) : Nat) : Int)) H
def rqp (K : PySem.W.Frag) : Sp := fun vs H Q _ => ∃ (r e : Bool) (p : Addr) (ts : List (List Nat)), vs = [.bl r, .ref p, .bl e] ∧ SqL K H p (ts.map fun l => V.str ⟨l.toArray⟩) ∧ (joinT 47 ts).length ≤ 90000 ∧ Q (.str ⟨(slT r ts e).toArray⟩) H
def kqe (K : PySem.W.Frag) : Sp := fun vs H Q _ => ∃ (b x : Ad) (vb vx : V), vs = [vb, vx] ∧ IsK K H b.data vb ∧ IsK K H x.data vx ∧ x.Wf ∧ ∀ v : V, IsK K H (qD (questFrom b x)) v → Q v H
def kqT (K : PySem.W.Frag) : Sp := fun vs H Q _ => ∃ (a : Addr) (ns : List Int) (k : Nat), vs = [.ref a, .int (k : Int)] ∧ SqL K H a (ns.map V.int) ∧ Q (.int (ns.getD k 0)) H
def oq1 : Sp := fun vs H Q _ => ∃ (c m : Int), vs = [.int c, .int m] ∧ 0 < m ∧ m ≤ 60 ∧ ∀ l : List Nat, 0 < l.length → (l.length : Int) ≤ m → (∀ c ∈ l, isSg c = true) → Q (sV l) H
def kqq (K : PySem.W.Frag) : Sp := fun vs H Q _ => ∃ (w : Way) (v u : V), vs = [v, u] ∧ IsK K H (wayOf w) v ∧ IsK K H (wayOf w) u ∧ (∀ s ∈ w.2.1, ∀ c ∈ s, isSg c = true) ∧ w.2.1.length ≤ 2000 ∧ ∀ H', Same H H' → Q (.bl true) H'
def iqB (K : PySem.W.Frag) : Sp := fun vs H Q _ => ∃ (q : Option (List (List Nat × Option (List Nat)))) (v : V), vs = [v] ∧ IsK K H (qD q) v ∧ Q (.bl true) H
def nqY (K : PySem.W.Frag) : Sp := fun vs H Q _ => ∃ (w : Way) (v : V), vs = [v] ∧ IsT H (wayOf w) v ∧ (∀ s ∈ w.2.1, ∀ c ∈ s, isSg c = true) ∧ w.2.1.length ≤ 2000 ∧ ∀ (u : V) (H' : Hp), Same H H' → IsT H' (wayOf (goneV w)) u → Q u H'
def lqT : Sp := fun vs H Q _ => ∃ c : Int, vs = [.int c] ∧ ∀ l : List Nat, 0 < l.length → l.length ≤ 8 → (∀ c ∈ l, isAln c = true) → (∀ c ∈ l.take 1, isLet c = true) → Q (.str ⟨l.toArray⟩) H
def gqR : Sp := fun vs H Q _ => ∃ (c : Nat) (g : Bool), vs = [.str ⟨#[c]⟩, .bl g] ∧ isSg c = true ∧ ∀ a b, sgO a b = some c → Q (.str ⟨[126, a, b].toArray⟩) H
def qq7 : Sp := fun vs H Q _ => ∃ (d : PyData) (v : V), vs = [v] ∧ Is H d v ∧ smallD d = true ∧ ∀ H', Same H H' → Q (.bl (tx d)) H'
def mqD : Sp := fun vs H Q _ => ∃ l : List Nat, vs = [.str ⟨l.toArray⟩] ∧ l.length ≤ 1000 ∧ (∀ c ∈ l, c < 128) ∧ Q (signOfL l) H
def fqM : Sp := fun vs H Q _ => ∃ l : List Nat, vs = [.str ⟨l.toArray⟩] ∧ l.length ≤ 2000 ∧ (∀ c ∈ l, isSg c = true) ∧ ∀ H', Same H H' → Q (.str ⟨(wr l).toArray⟩) H'
def nqg (K : PySem.W.Frag) : Sp := fun vs H Q _ => ∃ (ps : Addr) (ss : List Stp) (r : Bool), vs = [.ref ps, .bl r] ∧ SqT K H ps (ss.map sV) ∧ ss.length ≤ 2000 ∧ ∀ p H', Same H H' → H' p = some (.tup ((goneS r ss).map sV)) → Q (.ref p) H'
def mqb (K : PySem.W.Frag) (C : Addr) : Sp := fun vs H Q _ => ∃ (p : Addr) (t sg : List Nat) (i : Nat), vs = [.ref p, .str ⟨sg.toArray⟩] ∧ Cur H C p t i ∧ i ≤ t.length ∧ t.length ≤ 100000 ∧ Q (.bl (seesB t sg i)) H
def jqZ : Sp := fun vs H Q _ => ∃ c : Int, vs = [.int c] ∧ ∀ (l : List Nat) (H' : Hp), Same H H' → 0 < l.length → l.length ≤ 9 → (∀ c ∈ l, isSg c = true) → Q (sV l) H'
def nq4 (K : PySem.W.Frag) : Sp := fun vs H Q _ => ∃ (x : Ad) (v u : V), vs = [v, u] ∧ IsK K H x.data v ∧ IsK K H x.data u ∧ x.Wf ∧ x.steps.length ≤ 2000 ∧ ∀ H', Same H H' → Q (.bl true) H'
def kqi : Sp := fun vs H Q _ => ∃ c : Int, vs = [.int c] ∧ ∀ (q : Option (List (List Nat × Option (List Nat)))) (v : V) (H' : Hp), QOk q → Same H H' → IsT H' (qD q) v → Q v H'
def oqN : Sp := fun vs H Q _ => ∃ c : Int, vs = [.int c] ∧ ∀ o : Option (List Nat), (∀ l, o = some l → l.length ≤ 7 ∧ ∀ c ∈ l, isSg c = true) → Q (otV o) H
def gq1 : Sp := fun vs H Q _ => ∃ (s fr : List Nat) (q : Addr) (n : Nat), vs = [.str ⟨s.toArray⟩, .str ⟨fr.toArray⟩, .ref q] ∧ Bt H q n ∧ n ≤ 90000 ∧ s.length ≤ 2000 ∧ (∀ c ∈ s, isSg c = true) ∧ fr.length ≤ 100 ∧ (126 : Nat) ∉ fr ∧ ∀ (w : List Nat) (H' : Hp), WrT fr s w → w.length ≤ 3 * s.length → SameBut q H H' → Bt H' q (n + s.length) → Q (.str ⟨w.toArray⟩) H'
def oqS : Sp := fun vs H Q _ => ∃ (d : PyData) (v : V), vs = [v] ∧ Is H d v ∧ smallD d = true ∧ ∀ H', Same H H' → Q (.bl (schD d)) H'
def wqn (K : PySem.W.Frag) : Sp := fun vs H Q _ => ∃ (w : Way) (v : V), vs = [v] ∧ IsK K H (wayOf w) v ∧ w.2.1.length ≤ 2000 ∧ ∀ (u : V) (H' : Hp), Same H H' → IsK K H' (wayOf (goneV w)) u → Q u H'
def mq8 (K : PySem.W.Frag) (C : Addr) : Sp := fun vs H Q _ => ∃ (p : Addr) (t w r : List Nat) (i : Nat) (o : Option Int), vs = [.ref p] ∧ Cur H C p t i ∧ i ≤ t.length ∧ t.length ≤ 100000 ∧ (∀ c ∈ t, c < 128) ∧ t.drop i = w ++ r ∧ DooW o w ∧ (∀ c, r.head? = some c → ¬ (48 ≤ c ∧ c ≤ 57)) ∧ (o = none → r.head? ≠ some 58) ∧ ∀ H', SameBut p H H' → Cur H' C p t (i + w.length) → Q (itV o) H'
def mq4 (K : PySem.W.Frag) (C : Addr) : Sp := fun vs H Q _ => ∃ (p : Addr) (t r : List Nat) (i a b c : Nat), vs = [.ref p] ∧ Cur H C p t i ∧ t.drop i = a :: b :: r ∧ sgO a b = some c ∧ t.length ≤ 100000 ∧ ∀ H', SameBut p H H' → Cur H' C p t (i + 2) → Q (.str ⟨#[c]⟩) H'
def lq3 : Sp := fun vs H Q _ => ∃ (o : Option (List Nat)) (d : Option Int), vs = [otV o, itV d] ∧ (∀ l, o = some l → l.length ≤ 60 ∧ ∀ c ∈ l, isSg c = true) ∧ (∀ i, d = some i → (0 ≤ i ∧ i ≤ 65535) ∧ o ≠ none) ∧ ∀ H', Same H H' → Q (.str ⟨(houT o ++ dooT d).toArray⟩) H'
def oqq (K : PySem.W.Frag) : Sp := fun vs H Q _ => ∃ (r e : Bool) (ss : List (List Nat)) (p q : Addr), vs = [.ref p] ∧ SqT K H p [.bl r, .ref q, .bl e] ∧ SqT K H q (ss.map fun l => V.str ⟨l.toArray⟩) ∧ (∀ s ∈ ss, s.length ≤ 2000 ∧ ∀ c ∈ s, isSg c = true) ∧ ss.length ≤ 2000 ∧ (wayT r ss e).length ≤ 90000 ∧ ∀ H', Same H H' → Q (.str ⟨(wayT r ss e).toArray⟩) H'
def lq2 : Sp := fun vs H Q _ => ∃ (n : List Nat) (o : Option (List Nat)), vs = [.str ⟨n.toArray⟩, otV o] ∧ PairOk (n, o) ∧ n.length ≤ 2000 ∧ (∀ l, o = some l → l.length ≤ 2000) ∧ ∀ H', Same H H' → Q (.str ⟨(pairT (n, o)).toArray⟩) H'
def nqo : Sp := fun vs H Q _ => ∃ o : Option (List Nat), vs = [otV o] ∧ (∀ l, o = some l → l.length ≤ 2000 ∧ ∀ c ∈ l, isSg c = true) ∧ ∀ H', Same H H' → Q (.str ⟨(oT 35 o).toArray⟩) H'
def pqJ (K : PySem.W.Frag) : Sp := fun vs H Q _ => ∃ (pc : Addr) (cs : List Int) (r e : Bool), vs = [.ref pc, .bl r, .bl e] ∧ SqL K H pc (cs.map V.int) ∧ cs.length ≤ 2000 ∧ ∀ (ss : List Stp) (e' : Bool) (v : V) (H' : Hp), ss.length = cs.length → (∀ s ∈ ss, StepOk s ∧ s.length ≤ 9) → (ss = [] → e' = r) → Same H H' → IsT H' (wayOf (r, ss, e')) v → Q v H'
def iqE (K : PySem.W.Frag) : Sp := fun vs H Q _ => ∃ (ps : List (List Nat × Option (List Nat))) (v : V) (q : Addr) (n : Nat), vs = [v, .ref q] ∧ IsT H (qD (some ps)) v ∧ Bt H q n ∧ n ≤ 80000 ∧ ps.length ≤ 3 ∧ (∀ p ∈ ps, PairOk p ∧ p.1.length ≤ 5 ∧ ∀ v, p.2 = some v → v.length ≤ 6) ∧ ∀ (t : List Nat) (H' : Hp), QueW (some ps) t → (∀ c ∈ t, c < 128) → t.length ≤ 200 → SameBut q H H' → Bt H' q (n + 33) → Q (.str ⟨t.toArray⟩) H'
def kqv (K : PySem.W.Frag) : Sp := fun vs H Q _ => ∃ (x : Ad) (v : V), vs = [v] ∧ IsK K H x.data v ∧ x.steps.length ≤ 2000 ∧ ∀ (u : V) (H' : Hp), Same H H' → IsK K H' x.gone.data u → Q u H'
def sqn (K : PySem.W.Frag) : Sp := fun vs H Q _ => ∃ (w : Way) (v : V), vs = [v] ∧ IsK K H (wayOf w) v ∧ w.2.1.length ≤ 2000 ∧ ∀ (p : Addr) (H' : Hp), Same H H' → SqT K H' p ((holder w).map sV) → Q (.ref p) H'
def kqO (K : PySem.W.Frag) (C : Addr) : Sp := fun vs H Q _ => ∃ (p : Addr) (t : List Nat), vs = [.ref p] ∧ Cur H C p t 0 ∧ t.length ≤ 90000 ∧ ∀ H', SameBut p H H' → Cur H' C p t (schP t) → Q (.str ⟨(schM t).toArray⟩) H'
def mqS (K : PySem.W.Frag) (C : Addr) : Sp := fun vs H Q _ => ∃ (p : Addr) (t fr s w r : List Nat) (i : Nat) (mo : Option Nat), vs = [.ref p, .str ⟨fr.toArray⟩, moV mo] ∧ Cur H C p t i ∧ i ≤ t.length ∧ t.length ≤ 100000 ∧ (∀ c ∈ t, c < 128) ∧ fr.length ≤ 100 ∧ t.drop i = w ++ r ∧ WrT fr s w ∧ (Stops fr r ∨ mo = some s.length) ∧ (∀ m, mo = some m → s.length ≤ m) ∧
  ∀ H', SameBut p H H' → Cur H' C p t (i + w.length) → Q (.str ⟨s.toArray⟩) H'
def jqv (K : PySem.W.Frag) : Sp := fun vs H Q _ => ∃ (q : Option (List (List Nat × Option (List Nat)))) (v : V), vs = [v] ∧ IsK K H (qD q) v ∧ (∀ ps, q = some ps → ps.length ≤ 2000 ∧ ∀ p ∈ ps, PairOk p ∧ p.1.length ≤ 2000 ∧ ∀ l, p.2 = some l → l.length ≤ 2000) ∧ (queT q).length ≤ 90000 ∧ ∀ H', Same H H' → Q (.str ⟨(queT q).toArray⟩) H'
def kq5 (K : PySem.W.Frag) : Sp := fun vs H Q _ => ∃ (a : Addr) (ns : List Int) (i : Nat) (wh : Bool) (pc : Addr) (cs : List Int), vs = [.ref a, .int (i : Int), .bl wh, .ref pc] ∧ SqL K H a (ns.map V.int) ∧ SqL K H pc (cs.map V.int) ∧ cs.length ≤ 2000 ∧ ∀ (x : Ad) (v : V) (H' : Hp), x.Wf → x.Tiny → x.steps.length ≤ cs.length → (wh = true → x.scheme ≠ []) → Same H H' → IsT H' x.data v → Q v H'
def nqc (K : PySem.W.Frag) : Sp := fun vs H Q _ => ∃ (x : Ad) (v : V) (q : Addr) (n : Nat), vs = [v, .ref q] ∧ IsT H x.data v ∧ x.Wf ∧ x.Tiny ∧ x.steps.length ≤ 200 ∧ Bt H q n ∧ n ≤ 50000 ∧ ∀ (t : List Nat) (H' : Hp), RdW x t → (∀ c ∈ t, c < 128) → t.length ≤ 90000 → SameBut q H H' → Bt H' q (n + 2000) → Q (.str ⟨t.toArray⟩) H'
def lqX (K : PySem.W.Frag) : Sp := fun vs H Q _ => ∃ (b g : Way) (vb vg : V), vs = [vb, vg] ∧ IsK K H (wayOf b) vb ∧ IsK K H (wayOf g) vg ∧ goneV b = b ∧ goneV g = g ∧ b.2.1.length ≤ 900 ∧ g.2.1.length ≤ 900 ∧ ∀ (v : V) (H' : Hp), Same H H' → IsK K H' (wayOf (false, betw b g, g.2.2)) v → Q v H'
def jqK (K : PySem.W.Frag) (C : Addr) : Sp := fun vs H Q _ => ∃ (p : Addr) (t v rest : List Nat) (i : Nat) (must r : Bool) (ss : List (List Nat)) (e : Bool), vs = [.ref p, .bl must] ∧ Cur H C p t i ∧ i ≤ t.length ∧ t.length ≤ 100000 ∧ (∀ c ∈ t, c < 128) ∧ t.drop i = (if r then [47] else []) ++ (v ++ rest) ∧ StpW ss e v ∧ (ss = [] → e = r) ∧ (must = true → r = true) ∧ Stops frS rest ∧ rest.head? ≠ some 47 ∧
  ∀ (u : V) (H' : Hp), SameBut p H H' → Cur H' C p t (t.length - rest.length) → IsT H' (wayOf (r, ss, e)) u → Q u H'
def mqa (K : PySem.W.Frag) (C : Addr) : Sp := fun vs H Q _ => ∃ (p : Addr) (t w r : List Nat) (i : Nat) (o : Option (List Nat)), vs = [.ref p] ∧ Cur H C p t i ∧ i ≤ t.length ∧ t.length ≤ 100000 ∧ (∀ c ∈ t, c < 128) ∧ t.drop i = w ++ r ∧ ValW o w ∧ Stops frQ r ∧ r.head? ≠ some 61 ∧ ∀ H', SameBut p H H' → Cur H' C p t (i + w.length) → Q (otV o) H'
def mqW (K : PySem.W.Frag) (C : Addr) : Sp := fun vs H Q _ => ∃ (p : Addr) (t w : List Nat) (i : Nat) (o : Option (List Nat)), vs = [.ref p] ∧ Cur H C p t i ∧ i ≤ t.length ∧ t.length ≤ 100000 ∧ (∀ c ∈ t, c < 128) ∧ t.drop i = w ∧ MarW o w ∧ ∀ H', SameBut p H H' → Cur H' C p t t.length → Q (otV o) H'
def hqY (K : PySem.W.Frag) (C : Addr) : Sp := fun vs H Q _ => ∃ (p : Addr) (t fr s w r : List Nat) (i : Nat) (mo : Option Nat), vs = [.ref p, .str ⟨fr.toArray⟩, moV mo] ∧ Cur H C p t i ∧ i ≤ t.length ∧ t.length ≤ 100000 ∧ (∀ c ∈ t, c < 128) ∧ fr.length ≤ 100 ∧ t.drop i = w ++ r ∧ WrT fr s w ∧ s ≠ [] ∧ (Stops fr r ∨ mo = some s.length) ∧ (∀ m, mo = some m → s.length ≤ m) ∧
  ∀ H', SameBut p H H' → Cur H' C p t (i + w.length) → Q (.str ⟨s.toArray⟩) H'
def wqg (K : PySem.W.Frag) : Sp := fun vs H Q _ => ∃ (x : Ad) (v : V), vs = [v] ∧ IsK K H x.data v ∧ x.Wf ∧ x.Sz ∧ ∀ H', Same H H' → Q (.str ⟨x.shw.toArray⟩) H'
def uqA (K : PySem.W.Frag) : Sp := fun vs H Q _ => ∃ (x : Ad) (v : V), vs = [v] ∧ IsK K H x.data v ∧ x.Wf ∧ x.steps.length ≤ 2000 ∧ ∀ (u : V) (H' : Hp), Same H H' → IsK K H' (plainM x).data u → Q u H'
def pqx (K : PySem.W.Frag) : Sp := fun vs H Q _ => ∃ (b w : Way) (vb vw : V), vs = [vb, vw] ∧ IsK K H (wayOf b) vb ∧ IsK K H (wayOf w) vw ∧ (∀ s ∈ w.2.1, ∀ c ∈ s, isSg c = true) ∧ b.2.1.length ≤ 1000 ∧ w.2.1.length ≤ 1000 ∧ ∀ (v : V) (H' : Hp), Same H H' → IsK K H' (wayOf (wayFrom b w)) v → Q v H'
def nqQ (K : PySem.W.Frag) : Sp := fun vs H Q _ => ∃ (a : Addr) (ns : List Int), vs = [.ref a] ∧ SqL K H a (ns.map V.int) ∧ ns.length ≤ 63 ∧ ∀ (b g : Ad) (vb vg : V) (p : Addr) (H' : Hp), Same H H' → GoodAd 54 b → GoodAd 54 g → IsT H' b.data vb → IsT H' g.data vg → H' p = some (.tup [vb, vg]) → Q (.ref p) H'
def oqR (K : PySem.W.Frag) : Sp := fun vs H Q _ => ∃ (b g : Ad) (vb vg : V), vs = [vb, vg] ∧ IsK K H b.data vb ∧ IsK K H g.data vg ∧ b.Wf ∧ g.Wf ∧ b.gone = b ∧ g.gone = g ∧ b.steps.length ≤ 900 ∧ g.steps.length ≤ 900 ∧ ∀ (v : V) (H' : Hp), Same H H' → IsK K H' (relM b g).data v → Q v H'
def mqd (K : PySem.W.Frag) (C : Addr) : Sp := fun vs H Q _ => ∃ (p : Addr) (t w r : List Nat) (i : Nat) (o : Option (List Nat)), vs = [.ref p] ∧ Cur H C p t i ∧ i ≤ t.length ∧ t.length ≤ 100000 ∧ (∀ c ∈ t, c < 128) ∧ t.drop i = w ++ r ∧ HouW o w ∧ (o ≠ none → Stops [] r) ∧ (o = none → ¬ r.take 2 = [47, 47]) ∧ ∀ H', SameBut p H H' → Cur H' C p t (i + w.length) → Q (otV o) H'
def jqq (K : PySem.W.Frag) (C : Addr) : Sp := fun vs H Q _ => ∃ (p : Addr) (t w rest : List Nat) (i : Nat) (qs : Option (List (List Nat × Option (List Nat)))), vs = [.ref p] ∧ Cur H C p t i ∧ i ≤ t.length ∧ t.length ≤ 100000 ∧ (∀ c ∈ t, c < 128) ∧ t.drop i = w ++ rest ∧ QueW qs w ∧ (rest = [] ∨ ∃ r, rest = 35 :: r) ∧
  ∀ (u : V) (H' : Hp), SameBut p H H' → Cur H' C p t (t.length - rest.length) → IsT H' (qD qs) u → Q u H'
def mqM (K : PySem.W.Frag) : Sp := fun vs H Q _ => ∃ (b x : Ad) (vb vx : V), vs = [vb, vx] ∧ IsK K H b.data vb ∧ IsK K H x.data vx ∧ x.Wf ∧ b.steps.length ≤ 1000 ∧ x.steps.length ≤ 1000 ∧ ∀ (v : V) (H' : Hp), Same H H' → IsK K H' (madeWhole b x).data v → Q v H'
def pqN (K : PySem.W.Frag) : Sp := fun vs H Q _ => ∃ (b g : Ad) (vb vg : V), vs = [vb, vg] ∧ IsK K H b.data vb ∧ IsK K H g.data vg ∧ b.Wf ∧ g.Wf ∧ b.scheme ≠ [] ∧ g.scheme ≠ [] ∧ b.steps.length ≤ 900 ∧ g.steps.length ≤ 900 ∧ ∀ (v : V) (H' : Hp), Same H H' → IsK K H' (relM b g).data v → Q v H'
def uq1 (K : PySem.W.Frag) : Sp := fun vs H Q _ => ∃ (x : Ad) (t : List Nat), vs = [.str ⟨t.toArray⟩] ∧ t.length ≤ 90000 ∧ (∀ c ∈ t, c < 128) ∧ x.Wf ∧ RdW x t ∧ ∀ (u : V) (H' : Hp), Same H H' → IsT H' x.data u → Q u H'
def pqW (K : PySem.W.Frag) : Sp := fun vs H Q _ => ∃ (b x : Ad) (vb vx : V), vs = [vb, vx] ∧ IsK K H b.data vb ∧ IsK K H x.data vx ∧ b.scheme ≠ [] ∧ x.Wf ∧ b.steps.length ≤ 1000 ∧ x.steps.length ≤ 1000 ∧ ∀ (v : V) (H' : Hp), Same H H' → IsK K H' (resM b x).data v → Q v H'
def nqT (K : PySem.W.Frag) : Sp := fun vs H Q _ => ∃ (b g : Ad) (vb vg : V), vs = [vb, vg] ∧ IsK K H b.data vb ∧ IsK K H g.data vg ∧ b.Wf ∧ g.Wf ∧ b.Tiny ∧ g.Tiny ∧ b.scheme ≠ [] ∧ g.scheme ≠ [] ∧ b.steps.length ≤ 54 ∧ g.steps.length ≤ 54 ∧ ∀ (v : V) (H' : Hp), Same H H' → IsK K H' g.gone.data v → Q v H'
def qqe (K : PySem.W.Frag) : Sp := fun vs H Q _ => ∃ (a : Addr) (ns : List Int), vs = [.ref a] ∧ SqL K H a (ns.map V.int) ∧ ns.length ≤ 63 ∧ ∀ H', Q (.bl true) H'
section
variable {H : Hp} {Q : VK} {E : XK} {K : PySem.W.Frag}
theorem xqU {c : Nat} : mqv [.str ⟨[c].toArray⟩] H Q E ↔ c < 256 ∧ Q (.str ⟨[126, hexd (c / 16), hexd (c % 16)].toArray⟩) H :=
  ⟨fun ⟨_, e, h⟩ => by injection e with e; injection e with e; cases eqf.mp e; exact h, fun h => ⟨c, rfl, h⟩⟩
theorem yqQ {c : Nat} : gqO [.str ⟨[c].toArray⟩] H Q E ↔ c < 128 ∧ Q (figV c) H :=
  ⟨fun ⟨_, e, h⟩ => by injection e with e; injection e with e; cases eqf.mp e; exact h, fun h => ⟨c, rfl, h⟩⟩
theorem squ {l : List Nat} : mqD [.str ⟨l.toArray⟩] H Q E ↔ l.length ≤ 1000 ∧ (∀ c ∈ l, c < 128) ∧ Q (signOfL l) H :=
  ⟨fun ⟨_, e, h⟩ => by injection e with e; injection e with e; cases eqf.mp e; exact h, fun h => ⟨l, rfl, h⟩⟩
theorem rqZ {l : List Nat} : fqM [.str ⟨l.toArray⟩] H Q E ↔ l.length ≤ 2000 ∧ (∀ c ∈ l, isSg c = true) ∧ ∀ H', Same H H' → Q (.str ⟨(wr l).toArray⟩) H' :=
  ⟨fun ⟨_, e, h⟩ => by injection e with e; injection e with e; cases eqf.mp e; exact h, fun h => ⟨l, rfl, h⟩⟩
end
section
variable {P : Program} {w : World} {K : PySem.W.Frag} {mg : Str → Option Value} {base : Heap}
seal PE PA PT PS PSs PG PI PF PO PW
local macro_rules | `(tactic| walk_at "rd") => `(tactic| simp only [L2.start, List.map_cons, List.map_nil, List.length_cons, List.length_nil, Nat.reduceAdd, Nat.reduceSub, Nat.zero_add, List.replicate_succ, List.replicate_zero, L2.uqG, L2.rd_C, L2.sqO, L2.xqx, L2.tqy, L2.xqy, L2.vqm, L2.xq1, L2.wqq, L2.xqA, L2.yqh, L2.vqR, L2.yqH, L2.vqq, L2.rd_B, L2.yqi, L2.yqF, L2.yqc, L2.vqz, L2.wq7, L2.vqE, L2.yqB, L2.tqS, L2.yql, L2.sqb, L2.xqb, L2.xqH, L2.vqX, L2.vqk, L2.wqk, L2.wqB, L2.wqN, L2.wqO, L2.vqd, L2.tqh, L2.rqr, L2.yqN, L2.yqC, L2.xqr, L2.yqT, L2.sqw, L2.wqP, L2.tqO, L2.rd_I, L2.yqv, L2.wqz, L2.nqt, L2.wqD, L2.rq9, L2.vqb, L2.vql, L2.wqQ, L2.wqc, L2.tqX, L2.vqv, L2.wqS, L2.tq1, L2.xqQ, L2.yqj, L2.xqp, L2.xqP, L2.xq3, L2.uq7, L2.tq8, L2.wqL, L2.tqt, L2.tq0, L2.sq8, L2.tq6, L2.tqz, L2.rqF, L2.qq1, L2.jqG, L2.kqk, L2.kqh, L2.jqy, L2.iq9, L2.nqC, L2.oq0, L2.nqM, L2.nqr, L2.lq4, L2.oqL, L2.pqK, L2.pqk, L2.oqe, L2.nqf, L2.oqG, L2.pq3, L2.pqS, L2.oqT, L2.mq1, L2.mqL, L2.nqK, L2.oqA, L2.nqE, L2.lq9, L2.lq5, L2.nqv, L2.mq6, L2.mqc, L2.lqb, L2.wqh, L2.uq8, L2.uqs, L2.vqi, L2.vqo, L2.cx_K, L2.xqn, L2.xqJ, L2.xqX, L2.wqX, L2.wq5, L2.xqD, L2.xqt, L2.yqJ, L2.xq5, L2.rqy, L2.yqz, L2.yqO, L2.yqG, L2.tqK, L2.tqs, L2.wqt, L2.tqN, Option.getD_some, L2.xqa, L2.yqM, L2.rd_U, L2.wq4, L2.vqQ, L2.uqx, L2.uq9, L2.sqs, L2.vqP, L2.yqq, L2.wq3, L2.wqb, L2.vqw, L2.wqA, L2.vqu, List.getElem?_cons_zero, List.getElem?_cons_succ, List.set_cons_zero, List.set_cons_succ, List.nil_append, List.cons_append, List.append_nil, Option.some.injEq, exists_eq_left, exists_eq_left', true_and, and_true, L2.V.bl.injEq, L2.V.int.injEq, L2.V.str.injEq, L2.V.ref.injEq, List.cons.injEq, reduceCtorEq, false_and, and_false, exists_false, false_or, or_false, decide_eq_true_eq, Bool.not_true, Bool.not_false, ↓reduceIte, if_true, if_false, not_true_eq_false, not_false_eq_true, decide_true, decide_false, Bool.false_eq_true, xqU, yqQ, squ, rqZ, L2.tqL, L2.uq4, L2.tq9, L2.uqg, L2.yqn, yqr, L2.xqj, L2.tqn, L2.yqS, L2.vqJ, L2.tqY, L2.uqz, L2.tqv, L2.yqL, L2.tqe, L2.vq7, L2.xqO, L2.tq2, L2.xqE, L2.xq2, L2.vqs, L2.xql, L2.uqN, L2.xqN, L2.wql, L2.vqD, L2.vqc, xqF, tqI, oqz, dqy, rqN, wqy, wqp, List.drop_succ_cons, List.drop_zero, L2.tq4, L2.wq6, L2.xq4, L2.xqT, Bool.not_eq_true', decide_eq_false_iff_not])
theorem qq5 : FnScope ["text", "signs"] ["text", "signs"] (defScope eqZ) := ⟨rfl, rfl, rfl, by decide +kernel, rfl, by decide +kernel, by decide +kernel⟩
theorem mqE : FnScope ["sign", "number"] ["sign"] (defScope eqY) := ⟨rfl, rfl, rfl, by decide +kernel, rfl, by decide +kernel, by decide +kernel⟩
theorem kqm : FnScope ["figure"] ["figure"] (defScope bqh) := ⟨rfl, rfl, rfl, by decide +kernel, rfl, by decide +kernel, by decide +kernel⟩
theorem dq8 : FnScope ["number", "place"] ["number"] (defScope bqi) := ⟨rfl, rfl, rfl, by decide +kernel, rfl, by decide +kernel, by decide +kernel⟩
theorem pqy : FnScope ["address"] ["address"] (defScope dqO) := ⟨rfl, rfl, rfl, by decide +kernel, rfl, by decide +kernel, by decide +kernel⟩
theorem rq3 : FnScope ["step"] ["step"] (defScope gqh) := ⟨rfl, rfl, rfl, by decide +kernel, rfl, by decide +kernel, by decide +kernel⟩
theorem tqQ : FnScope ["left", "rooted"] ["left", "rooted"] (defScope iqw) := ⟨rfl, rfl, rfl, by decide +kernel, rfl, by decide +kernel, by decide +kernel⟩
theorem pqt : FnScope ["base", "goal"] ["base", "goal"] (defScope dqz) := ⟨rfl, rfl, rfl, by decide +kernel, rfl, by decide +kernel, by decide +kernel⟩
theorem cq9 : FnScope ["one", "other", "count"] ["one", "other"] (defScope aqR) := ⟨rfl, rfl, rfl, by decide +kernel, rfl, by decide +kernel, by decide +kernel⟩
theorem jqc : FnScope ["self", "text"] ["self", "text"] (defScope aqV) := ⟨rfl, rfl, rfl, by decide +kernel, rfl, by decide +kernel, by decide +kernel⟩
theorem kqt : FnScope ["self"] ["self"] (defScope bqf) := ⟨rfl, rfl, rfl, by decide +kernel, rfl, by decide +kernel, by decide +kernel⟩
theorem hq7 : FnScope ["self", "sign"] ["self"] (defScope bqU) := ⟨rfl, rfl, rfl, by decide +kernel, rfl, by decide +kernel, by decide +kernel⟩
theorem kqp : FnScope ["self", "text"] ["self", "text"] (defScope bqn) := ⟨rfl, rfl, rfl, by decide +kernel, rfl, by decide +kernel, by decide +kernel⟩
theorem nqN : FnScope ["door", "cursor"] ["door", "cursor"] (defScope cqY) := ⟨rfl, rfl, rfl, by decide +kernel, rfl, by decide +kernel, by decide +kernel⟩
theorem jqj : FnScope ["rooted", "texts", "ends", "ahead", "behind"] ["rooted", "texts", "ends"] (defScope eqN) := ⟨rfl, rfl, rfl, by decide +kernel, rfl, by decide +kernel, by decide +kernel⟩
theorem gqK : FnScope ["base", "address", "stays"] ["base", "address"] (defScope bqo) := ⟨rfl, rfl, rfl, by decide +kernel, rfl, by decide +kernel, by decide +kernel⟩
theorem kqL : FnScope ["_law_script", "_law_k"] ["_law_script", "_law_k"] (defScope bqv) := ⟨rfl, rfl, rfl, by decide +kernel, rfl, by decide +kernel, by decide +kernel⟩
theorem bqH : FnScope ["_law_cell", "_law_most", "_law_some", "_law_text_here", "_law_number", "_law_k"] ["_law_cell", "_law_most"] (defScope cq4) := ⟨rfl, rfl, rfl, by decide +kernel, rfl, by decide +kernel, by decide +kernel⟩
theorem kqu : FnScope ["_law_found", "_law_due"] ["_law_found", "_law_due"] (defScope bqk) := ⟨rfl, rfl, rfl, by decide +kernel, rfl, by decide +kernel, by decide +kernel⟩
theorem fqm : FnScope ["_law_found", "_law_pair_here"] ["_law_found"] (defScope aqU) := ⟨rfl, rfl, rfl, by decide +kernel, rfl, by decide +kernel, by decide +kernel⟩
theorem bqc : FnScope ["_law_way_here", "_law_rooted", "_law_steps", "_law_ends", "_law_left", "_law_up", "_law_step_here"] ["_law_way_here"] (defScope cq0) := ⟨rfl, rfl, rfl, by decide +kernel, rfl, by decide +kernel, by decide +kernel⟩
theorem bqx : FnScope ["_law_cell", "_law_letters", "_law_scheme_here", "_law_number", "_law_k"] ["_law_cell"] (defScope bqQ) := ⟨rfl, rfl, rfl, by decide +kernel, rfl, by decide +kernel, by decide +kernel⟩
theorem eqX : FnScope ["_law_sign", "_law_great", "_law_figures"] ["_law_sign", "_law_great"] (defScope bqu) := ⟨rfl, rfl, rfl, by decide +kernel, rfl, by decide +kernel, by decide +kernel⟩
theorem rqf : FnScope ["thing"] ["thing"] (defScope eq2) := ⟨rfl, rfl, rfl, by decide +kernel, rfl, by decide +kernel, by decide +kernel⟩
theorem jqk : FnScope ["figures", "high", "low"] ["figures"] (defScope eqL) := ⟨rfl, rfl, rfl, by decide +kernel, rfl, by decide +kernel, by decide +kernel⟩
theorem qq8 : FnScope ["text"] ["text"] (defScope eq4) := ⟨rfl, rfl, rfl, by decide +kernel, rfl, by decide +kernel, by decide +kernel⟩
theorem gqA : FnScope ["steps", "rooted", "left", "step"] ["steps", "rooted"] (defScope cqg) := ⟨rfl, rfl, rfl, by decide +kernel, rfl, by decide +kernel, by decide +kernel⟩
theorem lq8 : FnScope ["self", "signs"] ["self", "signs"] (defScope bqK) := ⟨rfl, rfl, rfl, by decide +kernel, rfl, by decide +kernel, by decide +kernel⟩
theorem jq4 : FnScope ["_law_cell", "_law_number"] ["_law_cell"] (defScope cqZ) := ⟨rfl, rfl, rfl, by decide +kernel, rfl, by decide +kernel, by decide +kernel⟩
theorem kqb : FnScope ["_law_found", "_law_due", "_law_text_here"] ["_law_found", "_law_due"] (defScope cqS) := ⟨rfl, rfl, rfl, by decide +kernel, rfl, by decide +kernel, by decide +kernel⟩
theorem bqq : FnScope ["_law_cell", "_law_pairs", "_law_k", "_law_number", "_law_value"] ["_law_cell"] (defScope bqm) := ⟨rfl, rfl, rfl, by decide +kernel, rfl, by decide +kernel, by decide +kernel⟩
theorem nqH : FnScope ["_law_cell"] ["_law_cell"] (defScope cqT) := ⟨rfl, rfl, rfl, by decide +kernel, rfl, by decide +kernel, by decide +kernel⟩
theorem bqD : FnScope ["_law_text_here", "_law_free", "_law_bits", "_law_plain_signs", "_law_found", "_law_sign"] ["_law_text_here", "_law_free", "_law_bits"] (defScope bqt) := ⟨rfl, rfl, rfl, by decide +kernel, rfl, by decide +kernel, by decide +kernel⟩
theorem pqe : FnScope ["thing"] ["thing"] (defScope cq3) := ⟨rfl, rfl, rfl, by decide +kernel, rfl, by decide +kernel, by decide +kernel⟩
theorem pqU : FnScope ["way", "steps", "left"] ["way"] (defScope lqG) := ⟨rfl, rfl, rfl, by decide +kernel, rfl, by decide +kernel, by decide +kernel⟩
theorem gqo : FnScope ["cursor", "door"] ["cursor"] (defScope bq8) := ⟨rfl, rfl, rfl, by decide +kernel, rfl, by decide +kernel, by decide +kernel⟩
theorem gqn : FnScope ["cursor", "figures", "sign"] ["cursor"] (defScope cqf) := ⟨rfl, rfl, rfl, by decide +kernel, rfl, by decide +kernel, by decide +kernel⟩
theorem iqa : FnScope ["house", "door", "behind"] ["house", "door"] (defScope bqO) := ⟨rfl, rfl, rfl, by decide +kernel, rfl, by decide +kernel, by decide +kernel⟩
theorem oqd : FnScope ["way"] ["way"] (defScope cq6) := ⟨rfl, rfl, rfl, by decide +kernel, rfl, by decide +kernel, by decide +kernel⟩
theorem lq6 : FnScope ["name", "value"] ["name", "value"] (defScope bqS) := ⟨rfl, rfl, rfl, by decide +kernel, rfl, by decide +kernel, by decide +kernel⟩
theorem nqw : FnScope ["mark"] ["mark"] (defScope bq5) := ⟨rfl, rfl, rfl, by decide +kernel, rfl, by decide +kernel, by decide +kernel⟩
theorem lqr : FnScope ["_law_cells", "_law_rooted", "_law_ends", "_law_steps"] ["_law_cells", "_law_rooted", "_law_ends"] (defScope dqB) := ⟨rfl, rfl, rfl, by decide +kernel, rfl, by decide +kernel, by decide +kernel⟩
theorem aq1 : FnScope ["_law_question_here", "_law_bits", "_law_pairs", "_law_name", "_law_value", "_law_pair_here"] ["_law_question_here", "_law_bits"] (defScope aqT) := ⟨rfl, rfl, rfl, by decide +kernel, rfl, by decide +kernel, by decide +kernel⟩
theorem kqf : FnScope ["address"] ["address"] (defScope bqj) := ⟨rfl, rfl, rfl, by decide +kernel, rfl, by decide +kernel, by decide +kernel⟩
theorem oqQ : FnScope ["way", "way_gone"] ["way"] (defScope gqu) := ⟨rfl, rfl, rfl, by decide +kernel, rfl, by decide +kernel, by decide +kernel⟩
theorem gq7 : FnScope ["cursor", "scheme"] ["cursor"] (defScope bqz) := ⟨rfl, rfl, rfl, by decide +kernel, rfl, by decide +kernel, by decide +kernel⟩
theorem fq0 : FnScope ["cursor", "free", "most", "signs", "allowed"] ["cursor", "free", "most"] (defScope bqG) := ⟨rfl, rfl, rfl, by decide +kernel, rfl, by decide +kernel, by decide +kernel⟩
theorem jqF : FnScope ["question"] ["question"] (defScope aq5) := ⟨rfl, rfl, rfl, by decide +kernel, rfl, by decide +kernel, by decide +kernel⟩
theorem aqL : FnScope ["_law_script", "_law_first", "_law_whole", "_law_cells", "_law_head", "_law_scheme_here", "_law_house", "_law_door", "_law_rooted", "_law_way_here", "_law_question_here"] ["_law_script", "_law_first", "_law_whole", "_law_cells"] (defScope bqy) := ⟨rfl, rfl, rfl, by decide +kernel, rfl, by decide +kernel, by decide +kernel⟩
theorem aqC : FnScope ["_law_address_here", "_law_bits", "_law_scheme_here", "_law_house", "_law_door", "_law_way_here", "_law_question_here", "_law_mark_here", "_law_text_here"] ["_law_address_here", "_law_bits"] (defScope cqm) := ⟨rfl, rfl, rfl, by decide +kernel, rfl, by decide +kernel, by decide +kernel⟩
theorem bqY : FnScope ["base_way", "goal_way", "here", "there", "shared", "last", "steps"] ["base_way", "goal_way"] (defScope bqT) := ⟨rfl, rfl, rfl, by decide +kernel, rfl, by decide +kernel, by decide +kernel⟩
theorem cqd : FnScope ["cursor", "must_be_rooted", "rooted", "steps", "ends", "step"] ["cursor", "must_be_rooted"] (defScope cqX) := ⟨rfl, rfl, rfl, by decide +kernel, rfl, by decide +kernel, by decide +kernel⟩
theorem lq1 : FnScope ["cursor"] ["cursor"] (defScope bqL) := ⟨rfl, rfl, rfl, by decide +kernel, rfl, by decide +kernel, by decide +kernel⟩
theorem nqG : FnScope ["cursor"] ["cursor"] (defScope bq7) := ⟨rfl, rfl, rfl, by decide +kernel, rfl, by decide +kernel, by decide +kernel⟩
theorem eqk : FnScope ["cursor", "free", "most", "text"] ["cursor", "free", "most"] (defScope aqJ) := ⟨rfl, rfl, rfl, by decide +kernel, rfl, by decide +kernel, by decide +kernel⟩
theorem sqL : FnScope ["address", "scheme"] ["address"] (defScope kqS) := ⟨rfl, rfl, rfl, by decide +kernel, rfl, by decide +kernel, by decide +kernel⟩
theorem mqV : FnScope ["address", "house", "small_house"] ["address"] (defScope iqq) := ⟨rfl, rfl, rfl, by decide +kernel, rfl, by decide +kernel, by decide +kernel⟩
theorem pqV : FnScope ["base_way", "way"] ["base_way", "way"] (defScope dqE) := ⟨rfl, rfl, rfl, by decide +kernel, rfl, by decide +kernel, by decide +kernel⟩
theorem aqZ : FnScope ["_law_script", "_law_base", "_law_goal", "_law_head", "_law_many", "_law_steps"] ["_law_script"] (defScope cq1) := ⟨rfl, rfl, rfl, by decide +kernel, rfl, by decide +kernel, by decide +kernel⟩
theorem jqM : FnScope ["base", "goal", "question"] ["base", "goal"] (defScope cqR) := ⟨rfl, rfl, rfl, by decide +kernel, rfl, by decide +kernel, by decide +kernel⟩
theorem lqS : FnScope ["cursor"] ["cursor"] (defScope bqR) := ⟨rfl, rfl, rfl, by decide +kernel, rfl, by decide +kernel, by decide +kernel⟩
theorem cqv : FnScope ["cursor", "name", "pairs"] ["cursor"] (defScope aq3) := ⟨rfl, rfl, rfl, by decide +kernel, rfl, by decide +kernel, by decide +kernel⟩
theorem jqa : FnScope ["base", "address", "way"] ["base", "address"] (defScope cqi) := ⟨rfl, rfl, rfl, by decide +kernel, rfl, by decide +kernel, by decide +kernel⟩
theorem pq1 : FnScope ["base", "goal"] ["base", "goal"] (defScope dqC) := ⟨rfl, rfl, rfl, by decide +kernel, rfl, by decide +kernel, by decide +kernel⟩
theorem hqz : FnScope ["text", "cursor", "scheme", "house", "door", "way", "question", "mark"] ["text"] (defScope lqa) := ⟨rfl, rfl, rfl, by decide +kernel, rfl, by decide +kernel, by decide +kernel⟩
theorem pqA : FnScope ["base", "address"] ["base", "address"] (defScope dqN) := ⟨rfl, rfl, rfl, by decide +kernel, rfl, by decide +kernel, by decide +kernel⟩
theorem jqW : FnScope ["_law_base", "_law_goal", "_law_text_here"] ["_law_base", "_law_goal"] (defScope cqV) := ⟨rfl, rfl, rfl, by decide +kernel, rfl, by decide +kernel, by decide +kernel⟩
theorem jqP : FnScope ["_law_script", "_law_pair_here", "_law_bits", "_law_base", "_law_goal", "_law_one", "_law_other", "_law_due"] ["_law_script"] (defScope pqT) := ⟨rfl, rfl, rfl, by decide +kernel, rfl, by decide +kernel, by decide +kernel⟩
theorem jqr (g : G K mg) : FnOk P w K mg base CX0 1 g.iqT g.hqP ["text", "signs"] rqj := by
  refine g.hqt.ok qq5 (fun vs H Q E h => ?_) (fun cdv A outer s H vs Q E hr h => ?_)
  · obtain ⟨x, y, rfl, _⟩ := h; rfl
  · obtain ⟨x, y, rfl, hx, k⟩ := h
    refine ⟨_, (aqc (aql (aqv (sqy (K := K) rfl rfl) rfl g.yqt PyProof.Rows.boot_all (aqa (jqm (fx := ["signs"]) (fr := [1]) rfl rfl (by decide +kernel) rfl (by decide +kernel) rfl (by decide +kernel) rfl (.cons rfl rfl rfl rfl .nil) rfl (sqZ (pv 0)) (fun _ _ _ => mqA) (fun _ _ _ => (aq4 mqB (pv 0) (pv 1) (by with_unfolding_all rfl)))) aqb)))), ?_⟩
    walk_at "rd"
    intro p hp
    refine qqd (z := x) (aqn hx) hp (fun c => .bl (decide (c ∈ y.cps.toList))) (fun c hc H' R hR => ?_) (fun H' sm hp' => ?_)
    · walk_at "rd"
      exact hR H' (Same.refl _)
    · refine sqs.mpr ⟨x.cps.toList.map fun c => decide (c ∈ y.cps.toList), SqL.of (by rw [hp', List.map_map]; rfl), ?_⟩
      rw [List.all_map]
      exact k H' sm
theorem rqg (g : G K mg) : FnOk P w K mg base CX0 1 g.iqU g.hqC ["sign"] mqv := by
  refine g.kq3.ok mqE (fun vs H Q E h => ?_) (fun cdv A outer s H vs Q E hr h => ?_)
  · obtain ⟨c, rfl, _⟩ := h; rfl
  · obtain ⟨c, rfl, hc, k⟩ := h
    refine ⟨_, (aqd (aqj (i := 1) mqE.nd rfl (Or.inl rfl) (aqv kqW rfl g.tqM nqu (aqa (pv 0) aqb)))
      (aqc (aql (aqm (aqD (K := K) rfl) (aqm (aqD (K := K) rfl) aqp (aqs (aqf (K := K) rfl) (aqh (v := dqf) rfl g.cqa ⟨_, rfl⟩) (aqm aqS (pv 1) aqe) (fun _ _ => rfl))) (aqs (aqf (K := K) rfl) (aqh (v := dqf) rfl g.cqa ⟨_, rfl⟩) (aqm aqW (pv 1) aqe) (fun _ _ => rfl)))))), ?_⟩
    walk_at "rd"
    exact ⟨⟨by decide, by decide⟩, hexd (c / 16), nq3, xqo (by omega) (by omega), by decide, by decide, hexd (c % 16), nq3, xqo (by omega) (by omega), by decide, k⟩
theorem gqJ (g : G K mg) : FnOk P w K mg base CX0 1 g.dqk g.cqG ["figure"] gqO := by
  refine g.dqj.ok kqm (fun vs H Q E h => ?_) (fun cdv A outer s H vs Q E hr h => ?_)
  · obtain ⟨c, rfl, _⟩ := h; rfl
  · obtain ⟨a, rfl, ha, k⟩ := h
    refine ⟨_, (aqd (aqE (aqk mqB (pv 0) (aqh (v := dqf) rfl g.cqa ⟨_, rfl⟩) (by with_unfolding_all rfl))
        (aqc (aql (dqg (K := K) rfl PySem.F.plainAttrs_str PySem.F.slot_str_index PySem.F.type_str_index qqH (aqh (v := dqf) rfl g.cqa ⟨_, rfl⟩) (aqa (pv 0) aqb)))) aqo)
      (aqd (aqE (aqk mqB (pv 0) (aqh (v := gqS) rfl g.eq7 ⟨_, rfl⟩) (by with_unfolding_all rfl))
        (aqc (aql (dqg (K := K) rfl PySem.F.plainAttrs_str PySem.F.slot_str_index PySem.F.type_str_index qqH (aqh (v := gqS) rfl g.eq7 ⟨_, rfl⟩) (aqa (pv 0) aqb)))) aqo)
      (aqc (aql aqF)))), ?_⟩
    walk_at "rd"
    refine ite2 (fun h => ?_) (fun h => ?_)
    · obtain ⟨e1, e2⟩ := tqk a ha h
      obtain ⟨n, hn⟩ := Option.isSome_iff_exists.mp e2
      rw [hn] at e1
      rw [gqX hn] at k
      exact ⟨n, [], e1, k⟩
    · refine ite2 (fun h2 => ?_) (fun h2 => ?_)
      · obtain ⟨e1, e2⟩ := uqy a ha h h2
        obtain ⟨n, hn⟩ := Option.isSome_iff_exists.mp e2
        rw [hn] at e1
        rw [gqX hn] at k
        exact ⟨n, [], e1, k⟩
      · rw [kq9 (yqD a ha h h2)] at k
        exact k
theorem kqs (g : G K mg) : FnOk P w K mg base CX0 1 g.dqi g.cqF ["number"] kqj := by
  refine g.fqa.ok dq8 (fun vs H Q E h => ?_) (fun cdv A outer s H vs Q E hr h => ?_)
  · obtain ⟨c, rfl, _⟩ := h; rfl
  · obtain ⟨n, rfl, k⟩ := h
    refine ⟨_, (aqd (aqE (PW.pt (fqD (aqk pqi (pv 0) (aqh (v := iqf) rfl g.fqB ⟨_, rfl⟩) (nomark _)) (fqD (aqk kql (pv 0) (aqh (v := mq5) rfl g.iq1 ⟨_, rfl⟩) (nomark _)) (eqg (aqk eqc (pv 0) (aqh (v := fqL) rfl g.dqL ⟨_, rfl⟩) (nomark _))))))
        (aqc (aql aqF)) aqo)
      (aqd (aqj (i := 1) dq8.nd rfl (Or.inl rfl) (aqm mqI (pv 0) (aqh (v := iqf) rfl g.fqB ⟨_, rfl⟩)))
      (aqd (aqE (aqk kql (pv 0) (aqh (v := fqL) rfl g.dqL ⟨_, rfl⟩) (nomark _))
        (aqc (aqj (i := 1) dq8.nd rfl (Or.inl rfl) (aqm mqI (pv 1) aqe))) aqo)
      (aqc (aql (aqs (aqf (K := K) rfl) (aqh (v := sqN) rfl g.pqj ⟨_, rfl⟩) (pv 1) (fun _ _ => rfl))))))), ?_⟩
    walk_at "rd"
    refine ite2 (fun h => ?_) (fun h => ?_)
    · rw [sq3 (fun q => by have := cq2 q; omega)] at k
      exact k
    · refine ite2 (fun h1 => ?_) (fun h1 => ?_)
      · rw [sq3 (fun q => by have := cq2 q; omega)] at k
        exact k
      · refine ite2 (fun h2 => ?_) (fun h2 => ?_)
        · rw [sq3 (fun q => by have := cq2 q; omega)] at k
          exact k
        · have hs : isSg n = true := vqL (by omega) (by omega) (by omega)
          rw [vqp hs] at k
          have hat := tql n (by omega) hs
          refine ite2 (fun h3 => ?_) (fun h3 => ?_)
          · rw [if_pos (show 37 < n by omega)] at hat
            refine ⟨n, nq8, ?_, k⟩
            rw [show (n : Int) - 32 - 1 = ((n - 32 - 1 : Nat) : Int) by omega]
            exact cqB hat
          · rw [if_neg (show ¬ 37 < n by omega)] at hat
            refine ⟨n, nq8, ?_, k⟩
            rw [show (n : Int) - 32 = ((n - 32 - 0 : Nat) : Int) by omega]
            exact cqB hat
theorem eq3 (g : G K mg) : FnOk P w K mg base CX0 1 g.hqQ g.fq2 ["address"] (pqq K) := by
  refine g.dqF.ok pqy (fun vs H Q E h => ?_) (fun cdv A outer s H vs Q E hr h => ?_)
  · obtain ⟨p, l, r, rfl, _⟩ := h; rfl
  · obtain ⟨p, l, r, rfl, hp, k⟩ := h
    refine ⟨_, (aqc (aql (aq4 hqX (aqs (aqf (K := K) rfl) (pv 0) (aqh (v := hqD) rfl g.fqY ⟨_, rfl⟩) (fun _ _ => rfl)) aqp (nomark _)))), ?_⟩
    walk_at "rd"
    refine ⟨_, _, .inr hp, yqx, ?_⟩
    walk_at "rd"
    rw [show decide ((⟨l.toArray⟩ : Str) = ⟨([] : List Nat).toArray⟩) = decide (l = []) from decide_eq_decide.mpr eqf]
    exact k
theorem kup : k_UP = sV sUp := congrArg V.str (show Str.ofString ".." = ⟨sUp.toArray⟩ by decide +kernel)
theorem kst : oqP = sV sStay := congrArg V.str (show Str.ofString "." = ⟨sStay.toArray⟩ by decide +kernel)
theorem sqh (g : G K mg) : FnOk P w K mg base CX0 1 g.kqC g.iqJ ["step"] rqX := by
  refine g.mqP.ok rq3 (fun vs H Q E h => ?_) (fun cdv A outer s H vs Q E hr h => ?_)
  · obtain ⟨s, rfl, _⟩ := h; rfl
  · obtain ⟨s, rfl, k⟩ := h
    refine ⟨_, (aqc (aql (nq9 (aq4 eqc (pv 0) (aqh (v := oqP) rfl g.nq0 ⟨_, rfl⟩) (nomark _)) (fqb (aq4 eqc (pv 0) (aqh (v := k_UP) rfl g.c_UP ⟨_, rfl⟩) (nomark _)))))), ?_⟩
    have d1 : Str.ofString ".." = ⟨sUp.toArray⟩ := by decide +kernel
    have d2 : Str.ofString "." = ⟨sStay.toArray⟩ := by decide +kernel
    walk_at "rd"
    rw [d1, d2]
    simp only [eqf]
    by_cases h2 : s = sStay
    · rw [if_pos h2]
      rw [show isDot s = true by simp [isDot, h2]] at k
      exact k
    · rw [if_neg h2]
      rw [show isDot s = decide (s = sUp) by simp [isDot, h2]] at k
      exact k
theorem tqP (g : G K mg) : FnOk P w K mg base CX0 1 g.nqA g.kqF ["left", "rooted"] (tqu K) := by
  refine g.pqB.ok tqQ (fun vs H Q E h => ?_) (fun cdv A outer s H vs Q E hr h => ?_)
  · obtain ⟨p, L, r, rfl, _⟩ := h; rfl
  · obtain ⟨p, L, r, rfl, hp, hl, k⟩ := h
    refine ⟨_, (aqc (aqE (PW.pt (fqJ (aqk kql (aqv (aqQ (K := K) rfl) rfl g.fqT PySem.boot_len (aqa (pv 0) aqb)) aqe (nomark _)) (dq9 (aqk hqX (aqs (aqf (K := K) rfl) (pv 0) (oqc jqX aqe) (fun _ _ => rfl)) (aqh (v := k_UP) rfl g.c_UP ⟨_, rfl⟩) (nomark _)))))
        (aqc (dqu (nqz (K := K) rfl PySem.F.plainAttrs_list PySem.F.slot_list_pop PySem.F.type_list_pop xq8 (pv 0)))) (aqc (aqE (aq2 (aqB (pv 1)))
        (aqc (dqu (dqg (K := K) rfl PySem.F.plainAttrs_list PySem.F.slot_list_append PySem.F.type_list_append cqj (pv 0) (aqa (aqh (v := k_UP) rfl g.c_UP ⟨_, rfl⟩) aqb)))) aqo)))), ?_⟩
    walk_at "rd"
    simp only [kup]
    have hS : SqL K H p (L.map sV) ∨ SqT K H p (L.map sV) := .inl (.of hp)
    have put : (if r then L else L ++ [sUp]) = goUp r L → (if r = false then (∃ xs, SqL K H p xs) ∧ ∃ xs, H p = some (.lst xs) ∧ xs.length < sizeLine ∧ Q .non (upd H p (.lst (xs ++ [sV sUp]))) else Q .non H) := fun e => by
      cases r with
      | true =>
        rw [if_neg (by decide)]
        rw [← e, if_pos rfl, yqb hp] at k
        exact k
      | false =>
        rw [if_pos rfl]
        refine ⟨⟨_, .of hp⟩, _, hp, aqn (by rw [List.length_map]; omega), ?_⟩
        rw [← e, if_neg (by decide), List.map_append] at k
        exact k
    refine ⟨_, hS, ?_⟩
    rw [List.length_map]
    cases hg : L.getLast? with
    | none =>
      have hL := List.getLast?_eq_none_iff.mp hg
      subst hL
      refine ite2 (fun z => absurd z (by decide)) (fun _ => put ?_)
      simp [goUp]
    | some s =>
      have hn : L ≠ [] := fun z => by rw [z] at hg; cases hg
      have hl0 := List.length_pos_iff.mpr hn
      refine ite2 (fun _ => ?_) (fun z => absurd (by omega) z)
      refine ⟨_, _, hS, hqR _ hg, ?_⟩
      walk_at "rd"
      by_cases hs : s = sUp
      · subst hs
        refine ite2 (fun z => absurd (rfl : (⟨sUp.toArray⟩ : Str) = ⟨sUp.toArray⟩) z) (fun _ => put ?_)
        simp only [goUp, hg, if_true]
      · refine ite2 (fun _ => ?_) (fun z => absurd (fun e => hs (eqf.mp e)) z)
        refine ⟨⟨_, .of hp⟩, _, sV s, hp, ?_, ?_⟩
        · rw [List.length_map, List.getElem?_map, ← List.getLast?_eq_getElem?, hg]; rfl
        · rw [show goUp r L = L.dropLast by simp only [goUp, hg, if_neg hs], List.map_dropLast] at k
          exact k
theorem pqr (g : G K mg) : FnOk P w K mg base CX0 1 g.hqN g.gqd ["base", "goal"] (pqh K) := by
  refine g.jqo.ok pqt (fun vs H Q E h => ?_) (fun cdv A outer s H vs Q E hr h => ?_)
  · obtain ⟨b, g, vb, vg, rfl, _⟩ := h; rfl
  · obtain ⟨b, g', vb, vg, rfl, hB, hG, wb, wg, k⟩ := h
    refine ⟨_, (aqc (aql (iq8 (aq4 (mqH (K := K) rfl hr.units) (aqs (aqf (K := K) rfl) (pv 0) (aqh (v := lqI) rfl g.kqr ⟨_, rfl⟩) (fun _ _ => rfl)) (aqs (aqf (K := K) rfl) (pv 1) (aqh (v := lqI) rfl g.kqr ⟨_, rfl⟩) (fun _ _ => rfl)) (nomark _)) (fqb (nq9 (aq4 cqq (aqs (aqf (K := K) rfl) (pv 1) (aqh (v := bqF) rfl g.bqp ⟨_, rfl⟩) (fun _ _ => rfl)) aqF (nomark _)) (fqb (aq4 cq5 (aqs (aqf (K := K) rfl) (pv 0) (aqh (v := bqF) rfl g.bqp ⟨_, rfl⟩) (fun _ _ => rfl)) aqF (nomark _)))))))), ?_⟩
    obtain ⟨pb, ub, qb, rfl, hpb, hwb, hqb⟩ := dq4 hB
    obtain ⟨pg, ug, qg, rfl, hpg, hwg, hqg⟩ := dq4 hG
    walk_at "rd"
    refine ⟨_, _, .inr hpb, rfl, _, _, .inr hpg, rfl, ?_⟩
    refine ⟨wayOf b.w, wayOf g'.w, hwb, hwg, eqE wb.sg, eqE wg.sg, _, rfl, ?_⟩
    rw [mq7]
    by_cases e : b.w = g'.w
    · rw [if_pos (decide_eq_true e)]
      refine ⟨_, _, .inr hpg, rfl, ?_⟩
      cases hg : g'.quest with
      | some ps =>
        rw [hg] at hqg
        obtain ⟨p', xs, rfl, _⟩ := gqE hqg
        refine ite2 (fun _ => ?_) (fun z => absurd (Classical.not_not.mp z) (by simp))
        rw [decide_eq_true (show b.w = g'.w ∧ (g'.quest ≠ none ∨ b.quest = none) from ⟨e, .inl (by simp [hg])⟩)] at k
        exact k
      | none =>
        rw [hg] at hqg
        cases hqg
        refine ite2 (fun z => absurd rfl z) (fun _ => ⟨_, _, .inr hpb, rfl, ?_⟩)
        cases hq : b.quest with
        | none =>
          rw [hq] at hqb
          cases hqb
          rw [decide_eq_true (show b.w = g'.w ∧ (g'.quest ≠ none ∨ b.quest = none) from ⟨e, .inr hq⟩)] at k
          exact k
        | some ps =>
          rw [hq] at hqb
          obtain ⟨p', xs, rfl, _⟩ := gqE hqb
          rw [decide_eq_false (show ¬ (b.w = g'.w ∧ (g'.quest ≠ none ∨ b.quest = none)) from fun z => by
            rcases z.2 with z | z
            · exact z hg
            · rw [hq] at z; cases z)] at k
          exact k
    · rw [if_neg (by simpa using e)]
      rw [decide_eq_false (fun z => e z.1)] at k
      exact k
theorem iqX (g : G K mg) : FnOk P w K mg base CX0 1 g.cqu g.bq2 ["one", "other"] (iqK K) := by
  refine g.dqJ.ok cq9 (fun vs H Q E h => ?_) (fun cdv A outer s H vs Q E hr h => ?_)
  · obtain ⟨p, q, h1, t1, rfl, _⟩ := h; rfl
  · obtain ⟨p, q, h1, t1, rfl, hp, hq, k⟩ := h
    refine ⟨_, (aqd (aqj (i := 2) cq9.nd rfl (Or.inl rfl) aqe)
      (aqd (iqN PassesOwn.never (PW.pt (fqJ (aqk pqi (pv 2) (aqv (rqs rfl) rfl g.yqs PyProof.Rows.boot_min (aqa (aqv (aqQ (K := K) rfl) rfl g.fqT PySem.boot_len (aqa (pv 0) aqb)) (aqa (aqv (aqQ (K := K) rfl) rfl g.fqT PySem.boot_len (aqa (pv 1) aqb)) aqb))) (nomark _)) (dq9 (aqk eqc (aqs (aqf (K := K) rfl) (pv 0) (pv 2) (fun _ _ => rfl)) (aqs (aqf (K := K) rfl) (pv 1) (pv 2) (fun _ _ => rfl)) (nomark _)))))
      (aqc (aqj (i := 2) cq9.nd rfl (Or.inl rfl) (aqm (aqD (K := K) rfl) (pv 2) aqe))))
      (aqc (aql (pv 2))))), ?_⟩
    walk_at "rd"
    refine lqR (fun m σ H' => ∃ i : Nat, H' = H ∧ m = h1.length - i ∧ σ = [some (.ref p), some (.ref q), some (.int (i : Int))] ∧ i ≤ comm h1 t1) h1.length ⟨0, rfl, rfl, rfl, Nat.zero_le _⟩ ?_
    rintro m σ H' ⟨i, rfl, rfl, rfl, hi⟩
    have ha := sqA hi
    have hl1 := mqY h1 t1
    have hl2 := mqN h1 t1
    walk_at "rd"
    refine ⟨_, .inr hp, _, .inr hq, _, _, ⟨rfl, rfl⟩, ?_⟩
    rw [List.length_map, List.length_map]
    have stop : ¬ i < comm h1 t1 → Q (.int (i : Int)) H' := fun z => by
      rw [show comm h1 t1 = i by omega] at k; exact k
    by_cases hlt : i < h1.length ∧ i < t1.length
    · refine ite2 (fun _ => ?_) (fun z => absurd (by split <;> omega) z)
      obtain ⟨s1, e1⟩ : ∃ s, h1[i]? = some s := ⟨h1[i], by simp [hlt.1]⟩
      obtain ⟨s2, e2⟩ : ∃ s, t1[i]? = some s := ⟨t1[i], by simp [hlt.2]⟩
      refine ⟨_, _, .inr hp, cqB (by rw [List.getElem?_map, e1]; rfl), _, _, .inr hq, cqB (by rw [List.getElem?_map, e2]; rfl), ?_⟩
      walk_at "rd"
      by_cases e : s1 = s2
      · subst e
        have hi2 := ha.mpr ⟨s1, e1, e2⟩
        refine ite2 (fun _ => ⟨fun σ' H2 => H2 = H' ∧ σ' = [some (.ref p), some (.ref q), some (.int ((i : Int) + 1))], fun σ' H2 z => ⟨h1.length - (i + 1), by omega, i + 1, z.1, rfl, by rw [z.2]; simp, hi2⟩, rfl, rfl⟩) (fun z => absurd rfl z)
      · refine ite2 (fun z => absurd (eqf.mp z) e) (fun _ => stop (fun z => ?_))
        obtain ⟨s, f1, f2⟩ := ha.mp z
        rw [e1] at f1; rw [e2] at f2
        exact e (by rw [Option.some.inj f1, Option.some.inj f2])
    · refine ite2 (fun z => absurd (by split at z <;> omega) hlt) (fun _ => stop (fun z => hlt ⟨by omega, by omega⟩))
theorem jqh (g : G K mg) : FnOk P w K mg base CX0 1 g.cqA g.bq3 ["self", "text"] (jqe K g.aqu) := by
  refine g.fqP.ok jqc (fun vs H Q E h => ?_) (fun cdv A outer s H vs Q E hr h => ?_)
  · obtain ⟨p, dx, t, rfl, _⟩ := h; rfl
  · obtain ⟨p, dx, t, rfl, hp, k⟩ := h
    refine ⟨_, (aqd (pq6 (pv 0) (pv 1) rfl)
      (aqc (pq6 (pv 0) aqe rfl))), ?_⟩
    walk_at "rd"
    refine ⟨p, _, dx, _, rfl, hp, g.aqq, g.aq8, by show 0 < 1000; decide, ?_⟩
    refine ⟨p, _, dx, _, rfl, aqr, g.aqq, g.aqH, by show 1 < 1000; decide, ?_⟩
    have h : Str.ofString "text" ≠ Str.ofString "place" := by decide +kernel
    rw [vqH]
    refine k _ lqQ ⟨dx, ?_⟩
    rw [aqr]
    simp only [putF, if_neg h]
    rfl
theorem gqN (g : G K mg) : FnOk P w K mg base CX0 1 g.dqt g.cqN ["self"] (kqn K g.aqu) := by
  refine g.gqV.ok kqt (fun vs H Q E h => ?_) (fun cdv A outer s H vs Q E hr h => ?_)
  · obtain ⟨p, t, i, rfl, _⟩ := h; rfl
  · obtain ⟨p, t, i, rfl, ⟨dx, hp⟩, hl, k⟩ := h
    refine ⟨_, (aqc (aql (aq4 eqc (eqh (pv 0) rfl) (aqv (aqQ (K := K) rfl) rfl g.fqT PySem.boot_len (aqa (eqh (pv 0) rfl) aqb)) (nomark _)))), ?_⟩
    have hcur : Cur H g.aqu p t i := ⟨dx, hp⟩
    walk_at "rd"
    refine dqp hcur g.aqq g.aqH (gqi hcur g.aqq g.aq8 ?_)
    walk_at "rd"
    refine ⟨aqn hl, ?_⟩
    rw [show decide ((i : Int) = (t.length : Int)) = decide (i = t.length) from decide_eq_decide.mpr (by omega)]
    exact k
theorem cqC (g : G K mg) : FnOk P w K mg base CX0 1 g.eqw g.dqV ["self"] (lqZ K g.aqu) := by
  refine g.jqi.ok hq7 (fun vs H Q E h => ?_) (fun cdv A outer s H vs Q E hr h => ?_)
  · obtain ⟨p, t, i, c, rfl, _⟩ := h; rfl
  · obtain ⟨p, t, i, c, rfl, ⟨dx, hp⟩, hc, hl, k⟩ := h
    refine ⟨_, (aqd (aqj (i := 1) hq7.nd rfl (Or.inl rfl) (aqs (aqf (K := K) rfl) (eqh (pv 0) rfl) (eqh (pv 0) rfl) (fun _ _ => rfl)))
      (aqd (pq6 (pv 0) (aqm (aqD (K := K) rfl) (eqh (pv 0) rfl) aqe) rfl)
      (aqc (aql (pv 1))))), ?_⟩
    have hcur : Cur H g.aqu p t i := ⟨dx, hp⟩
    walk_at "rd"
    refine gqi hcur g.aqq g.aq8 (dqp hcur g.aqq g.aqH ?_)
    walk_at "rd"
    refine ⟨c, aqn hl, cqB hc, ?_⟩
    refine dqp hcur g.aqq g.aqH ?_
    walk_at "rd"
    exact nqS hcur g.aqq g.aqH (i + 1) (by omega) fun H' sb h => k H' sb h
theorem dqb {K : PySem.W.Frag} {C p : Addr} {H : Hp} {Q : VK} {E : XK} {t w r : List Nat} {i : Nat} (h : Cur H C p t i) (hi : i ≤ t.length) (hl : t.length ≤ 100000) (hd : t.drop i = w ++ r) (k : ∀ H', SameBut p H H' → Cur H' C p t (i + w.length) → i + w.length ≤ t.length → t.drop (i + w.length) = r → Q (.bl true) H') : cqP K C [.ref p, .str ⟨w.toArray⟩] H Q E :=
  ⟨p, t, w, i, rfl, h, hi, hl, fun _ H' s c => k H' s c (by have := congrArg List.length hd; rw [List.length_drop, List.length_append] at this; omega) (by rw [← List.drop_drop, hd, List.drop_left]), fun z => absurd (by rw [hd, List.take_left]) z⟩
theorem pqo {K : PySem.W.Frag} {C p : Addr} {H : Hp} {Q : VK} {E : XK} {t w : List Nat} {i : Nat} (h : Cur H C p t i) (hi : i ≤ t.length) (hl : t.length ≤ 100000) (hn : ¬ (t.drop i).take w.length = w) (k : Q (.bl false) H) : cqP K C [.ref p, .str ⟨w.toArray⟩] H Q E :=
  ⟨p, t, w, i, rfl, h, hi, hl, fun z => absurd z hn, fun _ => k⟩
theorem gqz {K : PySem.W.Frag} {C p : Addr} {H : Hp} {Q : VK} {E : XK} {t r : List Nat} {i c : Nat} (h : Cur H C p t i) (hi : i ≤ t.length) (hl : t.length ≤ 100000) (hd : t.drop i = r) (hn : r.head? ≠ some c) (k : Q (.bl false) H) : cqP K C [.ref p, .str ⟨[c].toArray⟩] H Q E :=
  pqo h hi hl (fun z => hn (by rw [hd] at z; cases r with | nil => cases z | cons d r => rw [(List.cons.inj z).1]; rfl)) k
theorem aqM (g : G K mg) : FnOk P w K mg base CX0 1 g.dqv g.cqK ["self", "text"] (cqP K g.aqu) := by
  refine g.gq5.ok kqp (fun vs H Q E h => ?_) (fun cdv A outer s H vs Q E hr h => ?_)
  · obtain ⟨p, t, w, i, rfl, _⟩ := h; rfl
  · obtain ⟨p, t, w, i, rfl, ⟨dx, hp⟩, hi, hl, k1, k2⟩ := h
    refine ⟨_, (aqd (aqE (aq2 (aqB (dqg (K := K) rfl PySem.F.plainAttrs_str PySem.F.slot_str_startswith PySem.F.type_str_startswith rqc (eqh (pv 0) rfl) (aqa (pv 1) (aqa (eqh (pv 0) rfl) aqb)))))
        (aqc (aql dqe)) aqo)
      (aqd (pq6 (pv 0) (aqm (aqD (K := K) rfl) (eqh (pv 0) rfl) (aqv (aqQ (K := K) rfl) rfl g.fqT PySem.boot_len (aqa (pv 1) aqb))) rfl)
      (aqc (aql dqe)))), ?_⟩
    have hcur : Cur H g.aqu p t i := ⟨dx, hp⟩
    walk_at "rd"
    refine gqi hcur g.aqq g.aq8 ⟨rfl, dqp hcur g.aqq g.aqH ?_⟩
    walk_at "rd"
    have e := uqJ t w i hi
    rw [dqy, dqy] at e
    rw [e]
    by_cases h : (t.drop i).take w.length = w
    · rw [decide_eq_true h, if_neg (by decide)]
      refine dqp hcur g.aqq g.aqH ?_
      walk_at "rd"
      exact ⟨aqn (by have := congrArg List.length h; rw [List.length_take, List.length_drop] at this; omega), nqS hcur g.aqq g.aqH (i + w.length) (by omega) fun H' sb h' => k1 h H' sb h'⟩
    · rw [decide_eq_false h, if_pos rfl]
      exact k2 h
theorem jqS (g : G K mg) : FnOk P w K mg base CX0 1 g.gqy g.fqf ["door", "cursor"] (oqJ K g.aqu) := by
  refine g.gqg.ok nqN (fun vs H Q E h => ?_) (fun cdv A outer s H vs Q E hr h => ?_)
  · obtain ⟨p, t, i, c, n, rfl, _⟩ := h; rfl
  · obtain ⟨p, t, i, c, n, rfl, hcur, hl, hc, h48, h57, hn, k⟩ := h
    refine ⟨_, (aqc (aql (aqm (aqD (K := K) rfl) (aqm hqf (pv 0) aqe) (bqC oqs rfl g.pqz mqw (aqa (aqs (aqf (K := K) rfl) (eqh (pv 1) rfl) (eqh (pv 1) rfl) (fun _ _ => rfl)) aqb))))), ?_⟩
    walk_at "rd"
    refine ⟨.inl ⟨by omega, by omega⟩, gqi hcur g.aqq g.aq8 (dqp hcur g.aqq g.aqH ?_)⟩
    walk_at "rd"
    refine ⟨c, aqn hl, cqB hc, _, by show 1 ≤ 640; decide, sqQ c (by omega) h48, ?_⟩
    rw [show (n : Int) * 10 + ((c - 48 : Nat) : Int) = ((n * 10 + (c - 48) : Nat) : Int) by omega]
    exact k
theorem qq0 (g : G K mg) : FnOk P w K mg base CX0 1 g.iqY g.hqG ["rooted", "texts", "ends"] (rqp K) := by
  refine g.lqB.ok jqj (fun vs H Q E h => ?_) (fun cdv A outer s H vs Q E hr h => ?_)
  · obtain ⟨r, e, p, ts, rfl, _⟩ := h; rfl
  · obtain ⟨r, e, p, ts, rfl, hp, hl, k⟩ := h
    refine ⟨_, (aqx (aqj (i := 3) jqj.nd rfl (Or.inl rfl) (aq0 (aqB (pv 0)) aqp aqp))
      (aqx (aqj (i := 4) jqj.nd rfl (Or.inl rfl) (aq0 (PW.pt (fqJ (aqB (pv 2)) (dq9 (aqk kql (aqv (aqQ (K := K) rfl) rfl g.fqT PySem.boot_len (aqa (pv 1) aqb)) aqe (nomark _))))) aqp aqp))
      (aqc (aql (aqm (aqD (K := K) rfl) (aqm (aqD (K := K) rfl) (pv 3) (dqg (K := K) rfl PySem.F.plainAttrs_str PySem.F.slot_str_join PySem.F.type_str_join (hqM (K := K) rfl) aqp (aqa (pv 1) aqb))) (pv 4)))))), ?_⟩
    have c1 : Str.ofString "/" = ⟨[47].toArray⟩ := by decide +kernel
    rw [c1]
    walk_at "rd"
    refine ⟨fun σ H' => H' = H ∧ σ = [some (.bl r), some (.ref p), some (.bl e), some (.str ⟨(if r then [47] else [] : List Nat).toArray⟩), none], ?_, ?_⟩
    · cases r with
      | true => exact ite2 (fun _ => ⟨rfl, rfl⟩) (fun z => absurd rfl z)
      | false => exact ite2 (fun z => by cases z) (fun _ => ⟨rfl, rfl⟩)
    rintro σ H' ⟨rfl, rfl⟩
    walk_at "rd"
    refine ⟨fun σ H'' => H'' = H' ∧ σ = [some (.bl r), some (.ref p), some (.bl e), some (.str ⟨(if r then [47] else [] : List Nat).toArray⟩), some (.str ⟨(if e && !ts.isEmpty then [47] else [] : List Nat).toArray⟩)], ?_, ?_⟩
    · cases e with
      | false => exact ite2 (fun z => by cases z) (fun _ => ⟨rfl, rfl⟩)
      | true =>
        refine ite2 (fun _ => ⟨_, .inl hp, ?_⟩) (fun z => absurd rfl z)
        rw [List.length_map]
        cases ts with
        | nil => exact ite2 (fun z => absurd z (by decide)) (fun _ => ⟨rfl, rfl⟩)
        | cons t ts => exact ite2 (fun _ => ⟨rfl, rfl⟩) (fun z => absurd (by simp) z)
    rintro σ H'' ⟨rfl, rfl⟩
    walk_at "rd"
    have hj := kqw (sep := 47) ts
    have h1 : (if r = true then [47] else ([] : List Nat)).length ≤ 1 := by split <;> simp
    have h2 : (if (e && !ts.isEmpty) = true then [47] else ([] : List Nat)).length ≤ 1 := by split <;> simp
    refine ⟨ts.map fun l => ⟨l.toArray⟩, by rw [List.map_map]; exact hp, ?_, ?_⟩
    · rw [mq2, List.length_map]
      have : (ts.map List.length).sum + ts.length ≤ (joinT 47 ts).length + 1 := hj
      omega
    rw [show (⟨#[47]⟩ : Str) = ⟨[47].toArray⟩ from rfl, kqz]
    walk_at "rd"
    refine ⟨aqn (by omega), aqn (by rw [List.length_append]; omega), ?_⟩
    rw [List.append_assoc]
    exact k
theorem kqg (g : G K mg) : FnOk P w K mg base CX0 1 g.dqw g.cqO ["base", "address"] (kqe K) := by
  refine g.eq5.ok gqK (fun vs H Q E h => ?_) (fun cdv A outer s H vs Q E hr h => ?_)
  · obtain ⟨b, x, vb, vx, rfl, _⟩ := h; rfl
  · obtain ⟨b, x, vb, vx, rfl, hB, hX, wf, k⟩ := h
    refine ⟨_, (aqd (aqj (i := 2) gqK.nd rfl (Or.inl rfl) (iq8 (aq4 (mqH (K := K) rfl hr.units) (aqs (aqf (K := K) rfl) (pv 1) (aqh (v := lqI) rfl g.kqr ⟨_, rfl⟩) (fun _ _ => rfl)) (aqh (v := .ref g.hqT) rfl g.kqB rfl) (nomark _)) (fqb (aq4 cq5 (aqs (aqf (K := K) rfl) (pv 1) (aqh (v := bqF) rfl g.bqp ⟨_, rfl⟩) (fun _ _ => rfl)) aqF (nomark _)))))
      (aqc (aql (aq0 (aqB (pv 2)) (aqs (aqf (K := K) rfl) (pv 0) (aqh (v := bqF) rfl g.bqp ⟨_, rfl⟩) (fun _ _ => rfl)) (aqs (aqf (K := K) rfl) (pv 1) (aqh (v := bqF) rfl g.bqp ⟨_, rfl⟩) (fun _ _ => rfl)))))), ?_⟩
    obtain ⟨pb, wb, qb, rfl, hpb, hwb, hqb⟩ := dq4 hB
    obtain ⟨px, wx, qx, rfl, hpx, hwx, hqx⟩ := dq4 hX
    walk_at "rd"
    refine ⟨_, _, .inr hpx, rfl, ?_⟩
    refine ⟨wayOf x.w, wayOf noWay, hwx, g.iqP H, eqE (fun s hs => (wf.stp s hs).2), by decide, _, rfl, ?_⟩
    rw [mq7]
    by_cases e : x.w = noWay
    · rw [if_pos (decide_eq_true e)]
      refine ⟨_, _, .inr hpx, rfl, ?_⟩
      cases hq : x.quest with
      | none =>
        rw [hq] at hqx
        cases hqx
        refine ite2 (fun _ => ⟨_, _, .inr hpb, rfl, k _ ?_⟩) (fun z => absurd rfl z)
        rw [questFrom, if_pos ⟨e, hq⟩]; exact hqb
      | some ps =>
        rw [hq] at hqx
        obtain ⟨p', xs, rfl, _⟩ := gqE hqx
        refine ite2 (fun z => by cases z) (fun _ => ⟨_, _, .inr hpx, rfl, k _ ?_⟩)
        rw [questFrom, if_neg (by simp [hq]), hq]; exact hqx
    · rw [if_neg (by simpa using e)]
      refine ⟨_, _, .inr hpx, rfl, k _ ?_⟩
      rw [questFrom, if_neg (fun z => e z.1)]; exact hqx
theorem bqg (g : G K mg) : FnOk P w K mg base CX0 1 g.dqQ g.dqn ["_law_script", "_law_k"] (kqT K) := by
  refine g.aqX.ok kqL (fun vs H Q E h => ?_) (fun cdv A outer s H vs Q E hr h => ?_)
  · obtain ⟨a, ns, k, rfl, _⟩ := h; rfl
  · obtain ⟨a, ns, i, rfl, hS, k⟩ := h
    refine ⟨_, (aqd (aqE (aqk pqi (pv 1) (aqv (aqQ (K := K) rfl) rfl g.fqT PySem.boot_len (aqa (pv 0) aqb)) (nomark _))
        (aqc (aql (aqs (aqf (K := K) rfl) (pv 0) (pv 1) (fun _ _ => rfl)))) aqo)
      (aqc (aql aqe))), ?_⟩
    walk_at "rd"
    refine ⟨ns.map V.int, .inl hS, ite2 (fun h => ?_) (fun h => ?_)⟩
    · rw [List.length_map] at h
      exact ⟨ns.map V.int, _, .inl hS, vqS (by omega), k⟩
    · rw [List.length_map] at h
      rw [List.getD_eq_getElem?_getD, List.getElem?_eq_none (by omega)] at k
      exact k
theorem dq6 (g : G K mg) : FnOk P w K mg base CX0 1 g.fq7 g.fqe ["_law_cell", "_law_most"] oq1 := by
  refine g.cq7.ok bqH (fun vs H Q E h => ?_) (fun cdv A outer s H vs Q E hr h => ?_)
  · obtain ⟨c, m, rfl, _⟩ := h; rfl
  · obtain ⟨c, m, rfl, hm, hm2, k⟩ := h
    refine ⟨_, (aqd (aqj (i := 2) bqH.nd rfl (Or.inl rfl) aqp)
      (aqd (aqj (i := 2) bqH.nd rfl (Or.inl rfl) (aqm (aqD (K := K) rfl) (pv 2) aqp))
      (aqd (aqj (i := 3) bqH.nd rfl (Or.inl rfl) aqp)
      (aqd (aqj (i := 4) bqH.nd rfl (Or.inl rfl) (aqm aqS (pv 0) (pv 1)))
      (aqd (iqb PassesOwn.never rfl (lqM rfl g.nqp (aqa (aqm (aqD (K := K) rfl) aqe (aqm aqW (pv 0) (pv 1))) aqb)) (aq9 (i := 5) bqH.nd rfl (Or.inl rfl))
      (aqd (aqj (i := 3) bqH.nd rfl (Or.inl rfl) (aqm (aqD (K := K) rfl) (pv 3) (aqs (aqf (K := K) rfl) (pv 2) (aqm aqW (aqm (aqD (K := K) rfl) (pv 4) (aqm hqf (aqm hqf aqe (pv 5)) (pv 5))) aqe) (fun _ _ => rfl))))
      (aqc (aqj (i := 4) bqH.nd rfl (Or.inl rfl) (aqm aqS (pv 4) aqe)))))
      (aqc (aql (pv 3)))))))), ?_⟩
    walk_at "rd"
    have h1 := Int.emod_nonneg c (show m ≠ 0 by omega)
    have h2 := Int.emod_lt_of_pos c hm
    refine ⟨vqY, ⟨hm, by omega⟩, hm, by omega, by omega, ?_⟩
    rw [xqS]
    refine jqp (fun i σ H' => H' = H ∧ ∃ (l : List Nat) (nn : Int) (kk : Option V), σ = [some (.int c), some (.int m), some (.str ⟨SG.toArray⟩), some (sV l), some (.int nn), kk] ∧ l.length = i ∧ ∀ d ∈ l, isSg d = true) ⟨rfl, [], _, none, rfl, rfl, by simp⟩ ?_ ?_
    · rintro i σ H' hi ⟨rfl, l, nn, kk, rfl, hl, hs⟩
      have hl2 : l.length < 100 := by omega
      walk_at "rd"
      have hat := wqK (nn + 31 * (0 + (i : Int)) * (0 + (i : Int)))
      refine ⟨.inl ⟨by decide, by decide⟩, .inr ⟨by omega, by omega⟩, by decide, ?_⟩
      refine ⟨_, wqm, hat.1, aqn (by omega), ⟨by decide, by decide⟩, l ++ [sgAt (nn + 31 * (0 + (i : Int)) * (0 + (i : Int)))], _, _, ⟨rfl, rfl, rfl⟩, by simp [hl], fun d hd => ?_⟩
      rcases List.mem_append.mp hd with z | z
      · exact hs d z
      · rw [List.mem_singleton.mp z]; exact hat.2
    · rintro σ H' ⟨rfl, l, nn, kk, rfl, hl, hs⟩
      walk_at "rd"
      exact k l (by omega) (by omega) hs
theorem kqc (g : G K mg) : FnOk P w K mg base CX0 1 g.dqr g.cqH ["_law_found", "_law_due"] (kqq K) := by
  refine g.eqO.ok kqu (fun vs H Q E h => ?_) (fun cdv A outer s H vs Q E hr h => ?_)
  · obtain ⟨w, v, u, rfl, _⟩ := h; rfl
  · obtain ⟨⟨rt, ss, en⟩, v, u, rfl, hI, hJ, hs, hn, k⟩ := h
    refine ⟨_, (aqd (aqE (PW.pt (fqD (aq2 (aqB (aqv (bqr (K := K) rfl) rfl g.aqA aqt (aqa (pv 0) (aqa (cqo (v := .ty "tuple") rfl g.eqb cq8 rfl) aqb))))) (fqD (aqk hqX (aqv (aqQ (K := K) rfl) rfl g.fqT PySem.boot_len (aqa (pv 0) aqb)) aqe (nomark _)) (eqg (aq2 (aqB (aqv (bqr (K := K) rfl) rfl g.aqA aqt (aqa (aqs (aqf (K := K) rfl) (pv 0) aqe (fun _ _ => rfl)) (aqa (cqo (v := .ty "bool") rfl g.qqG pq2 rfl) aqb)))))))))
        (aqc (aql dqe)) aqo)
      (aqd (aqE (PW.pt (fqD (aq2 (aqB (aqv (bqr (K := K) rfl) rfl g.aqA aqt (aqa (aqs (aqf (K := K) rfl) (pv 0) aqe (fun _ _ => rfl)) (aqa (cqo (v := .ty "tuple") rfl g.eqb cq8 rfl) aqb))))) (eqg (aq2 (aqB (aqv (bqr (K := K) rfl) rfl g.aqA aqt (aqa (aqs (aqf (K := K) rfl) (pv 0) aqe (fun _ _ => rfl)) (aqa (cqo (v := .ty "bool") rfl g.qqG pq2 rfl) aqb))))))))
        (aqc (aql dqe)) aqo)
      (aqc (aql (iq8 (aq4 (pqd hr.units) (jqm (fx := []) (fr := []) rfl rfl (by decide +kernel) rfl (by decide +kernel) rfl (by decide +kernel) rfl .nil rfl (iqh (K := K) rfl (aqs (aqf (K := K) rfl) (pv 0) aqe (fun _ _ => rfl))) (fun _ _ _ => (wqU (aq2 (aqB (aqv (bqr (K := K) rfl) rfl g.aqA aqt (aqa (pv 0) (aqa (cqo (v := .ty "str") rfl g.lqF hqZ rfl) aqb))))))) (fun _ _ _ => (pv 0))) (cqU aqb) (nomark _)) (fqb (aq4 (mqH (K := K) rfl hr.units) (pv 0) (pv 1) (nomark _)))))))), ?_⟩
    obtain ⟨pw, ps, rfl, hw, hps⟩ := jqJ (r := rt) (e := en) (ss := ss) hI
    dsimp only at hs hn
    walk_at "rd"
    refine ⟨"tuple", .tup hw, ?_⟩
    rw [if_neg (by decide)]
    refine ⟨_, .inr hw, ?_⟩
    rw [if_neg (by simp)]
    refine ⟨_, _, .inr hw, rfl, "bool", .inl rfl, ?_⟩
    rw [if_neg (by decide)]
    refine ⟨_, _, .inr hw, rfl, "tuple", .tup hps, ?_⟩
    rw [if_neg (by decide)]
    refine ⟨_, _, .inr hw, rfl, "bool", .inl rfl, ?_⟩
    rw [if_neg (by decide)]
    refine ⟨_, _, .inr hw, rfl, ps, rfl, ⟨_, hps⟩, fun p hp => ?_⟩
    have hel : (ss.map fun l => V.str ⟨l.toArray⟩).filter (fun _ => false) = [] := by simp
    refine rqU (fun _ => false) id hps (by rw [List.length_map]; exact aqn (by omega)) hp (fun i x hx H1 R sm hR => ?_) (fun i x _ z => absurd z (by decide)) (fun H1 sm hp1 => ?_)
    · rw [List.getElem?_map] at hx
      obtain ⟨s, _, rfl⟩ := Option.map_eq_some_iff.mp hx
      have hR := hR H1 (Same.refl _)
      walk_at "rd"
      refine ⟨"str", .inl rfl, ?_⟩
      exact hR
    · rw [hel] at hp1
      refine ⟨by decide, fun p2 H2 hn2 s2 hp2 => ?_⟩
      refine ⟨.list [], .list [], .lst (s2 _ _ hp1) .nil, .lst hp2 .nil, by decide, by decide, true, rfl, ?_⟩
      rw [if_pos rfl]
      have sm2 := sm.trans s2
      refine ⟨wayOf (rt, ss, en), wayOf (rt, ss, en), hI.mono sm2, hJ.mono sm2, eqE hs, eqE hs, ?_⟩
      rw [rqL]
      exact k H2 (sm.trans s2)
theorem iqD (g : G K mg) : FnOk P w K mg base CX0 1 g.cqs g.bq1 ["_law_found"] (iqB K) := by
  refine g.dqK.ok fqm (fun vs H Q E h => ?_) (fun cdv A outer s H vs Q E hr h => ?_)
  · obtain ⟨q, v, rfl, _⟩ := h; rfl
  · obtain ⟨q, v, rfl, hI, k⟩ := h
    refine ⟨_, (aqd (aqE (aqk cq5 (pv 0) aqF (nomark _))
        (aqc (aql dqe)) aqo)
      (aqd (aqE (aq2 (aqB (aqv (bqr (K := K) rfl) rfl g.aqA aqt (aqa (pv 0) (aqa (cqo (v := .ty "tuple") rfl g.eqb cq8 rfl) aqb)))))
        (aqc (aql dqe)) aqo)
      (aqd (iqb PassesOwn.never rfl (iqh (K := K) rfl (pv 0)) (aq9 (i := 1) fqm.nd rfl (Or.inl rfl))
      (aqd (aqE (PW.pt (fqD (aq2 (aqB (aqv (bqr (K := K) rfl) rfl g.aqA aqt (aqa (pv 1) (aqa (cqo (v := .ty "tuple") rfl g.eqb cq8 rfl) aqb))))) (fqD (aqk hqX (aqv (aqQ (K := K) rfl) rfl g.fqT PySem.boot_len (aqa (pv 1) aqb)) aqe (nomark _)) (eqg (aq2 (aqB (aqv (bqr (K := K) rfl) rfl g.aqA aqt (aqa (aqs (aqf (K := K) rfl) (pv 1) aqe (fun _ _ => rfl)) (aqa (cqo (v := .ty "str") rfl g.lqF hqZ rfl) aqb)))))))))
        (aqc (aql dqe)) aqo)
      (aqc (aqE (PW.pt (fqJ (aqk cqq (aqs (aqf (K := K) rfl) (pv 1) aqe (fun _ _ => rfl)) aqF (nomark _)) (dq9 (aq2 (aqB (aqv (bqr (K := K) rfl) rfl g.aqA aqt (aqa (aqs (aqf (K := K) rfl) (pv 1) aqe (fun _ _ => rfl)) (aqa (cqo (v := .ty "str") rfl g.lqF hqZ rfl) aqb))))))))
        (aqc (aql dqe)) aqo))))
      (aqc (aql dqe))))), ?_⟩
    walk_at "rd"
    cases q with
    | none =>
      cases hI
      exact ite2 (fun _ => k) (fun z => absurd rfl z)
    | some ps =>
      obtain ⟨p, xs, rfl, hp, r⟩ := gqE hI
      refine ite2 (fun z => by cases z) (fun _ => ⟨"tuple", .tup hp, ?_⟩)
      rw [if_neg (by decide)]
      refine ⟨p, rfl, ⟨_, hp⟩, nqi (xs := xs) (fun i σ H' => H' = H ∧ ∃ v1, σ = [some (.ref p), v1]) ⟨rfl, none, rfl⟩ (fun i σ H' _ h => h.1 ▸ hp) ?_ ?_⟩
      · rintro i y σ H' hy ⟨rfl, v1, rfl⟩
        obtain ⟨d, hd, hy⟩ := r.at hy
        rw [List.getElem?_map] at hd
        obtain ⟨⟨n, o⟩, _, rfl⟩ := Option.map_eq_some_iff.mp hd
        obtain ⟨b, x1, x2, rfl, hb, b1, b2⟩ := isK2 hy
        cases nqL b1
        cases qqF b2
        walk_at "rd"
        refine ⟨"tuple", .tup hb, ?_⟩
        rw [if_neg (by decide)]
        refine ⟨_, .inr hb, ?_⟩
        rw [if_neg (by simp)]
        refine ⟨_, _, .inr hb, rfl, "str", .inl rfl, ?_⟩
        rw [if_neg (by decide)]
        refine ⟨_, _, .inr hb, rfl, ?_⟩
        cases o with
        | none => exact ite2 (fun z => absurd rfl z) (fun _ => ⟨_, rfl⟩)
        | some l =>
          refine ite2 (fun _ => ⟨_, _, .inr hb, rfl, "str", .inl rfl, ?_⟩) (fun z => absurd (Classical.not_not.mp z) (by simp [otV]))
          rw [if_neg (by decide)]
          exact ⟨_, rfl⟩
      · rintro σ H' ⟨rfl, v1, rfl⟩
        walk_at "rd"
        exact k
theorem oqU (g : G K mg) : FnOk P w K mg base CX0 1 g.gqx g.fqd ["_law_way_here"] (nqY K) := by
  refine g.iqo.ok bqc (fun vs H Q E h => ?_) (fun cdv A outer s H vs Q E hr h => ?_)
  · obtain ⟨w, v, rfl, _⟩ := h; rfl
  · obtain ⟨⟨rt, ss, en⟩, v, rfl, hI, hs, hn, k⟩ := h
    refine ⟨_, (aqd (uqZ (pv 0) (mqQ (n := 3) (K := K) rfl rfl (bqJ (aq9 (i := 1) bqc.nd rfl (Or.inl rfl)) (bqJ (aq9 (i := 2) bqc.nd rfl (Or.inl rfl)) (bqJ (aq9 (i := 3) bqc.nd rfl (Or.inl rfl)) lql)))))
      (aqd (aqj (i := 4) bqc.nd rfl (Or.inl rfl) (cqU aqb))
      (aqd (aqj (i := 5) bqc.nd rfl (Or.inl rfl) aqe)
      (aqx (iqb PassesOwn.never rfl (vq9 (K := K) rfl rfl g.mqj (aqa (pv 2) aqb)) (aq9 (i := 6) bqc.nd rfl (Or.inl rfl))
      (aqc (aqE (aqk eqc (pv 6) aqp (nomark _))
        (aqc (aqj (i := 5) bqc.nd rfl (Or.inl rfl) (aqm (aqN (K := K)) (pv 5) aqe))) (aqc (aqE (PW.pt (fqJ (aqk hqX (pv 6) aqp (nomark _)) (dq9 (aqk kql (pv 5) aqe (nomark _)))))
        (aqc (aqj (i := 5) bqc.nd rfl (Or.inl rfl) (aqm mqI (pv 5) aqe))) (aqc (aqE (aqk hqX (pv 6) aqp (nomark _))
        (aqc (dqu (dqg (K := K) rfl PySem.F.plainAttrs_list PySem.F.slot_list_append PySem.F.type_list_append cqj (pv 4) (aqa (pv 6) aqb)))) aqo)))))))
      (aqx (dqu (nqz (K := K) rfl PySem.F.plainAttrs_list PySem.F.slot_list_reverse PySem.F.type_list_reverse rqd (pv 4)))
      (aqx (aqE (aq2 (aqB (pv 1)))
        (aqc (aqj (i := 4) bqc.nd rfl (Or.inl rfl) (aqm (aqN (K := K)) (aqm wqF (cqU (aqa aqp aqb)) (pv 5)) (pv 4)))) aqo)
      (aqd (aqE (aqk (pqd hr.units) (pv 2) (aqy aqb) (nomark _))
        (aqc (aql (pv 0))) aqo)
      (aqd (aqE (aqk (pqd hr.units) (pv 4) (cqU aqb) (nomark _))
        (aqc (aql (aqy (aqa (pv 1) (aqa (aq0 (aqB (pv 1)) (aqy aqb) (aqy (aqa aqp aqb))) (aqa dqe aqb)))))) aqo)
      (aqc (aql (aqy (aqa (pv 1) (aqa (bqC (dqI (K := K) rfl) rfl g.eqb cq8 (aqa (pv 4) aqb)) (aqa (nq9 (pv 3) (fqb (aq4 rqG (aqs (aqf (K := K) rfl) (pv 2) (oqc jqX aqe) (fun _ _ => rfl)) (aqy (aqa aqp (aqa aqp aqb))) (by with_unfolding_all rfl)))) aqb)))))))))))))), ?_⟩
    obtain ⟨pw, y0, y1, y2, rfl, hw, j0, j1, j2⟩ := isT3 (show IsT H (.tuple [.bool rt, .tuple (ss.map st), .bool en]) v from hI)
    cases kqE j0
    cases kqE j2
    obtain ⟨ps, zs, rfl, hps, r⟩ := iqs j1
    cases kqX r
    dsimp only at hs hn
    walk_at "rd"
    refine ⟨pw, _, rfl, .of hw, rfl, _, _, rfl, _, _, rfl, _, _, rfl, rfl, by decide, fun p H1 hp s1 hp1 => ?_⟩
    have d1 : Str.ofString ".." = ⟨sUp.toArray⟩ := by decide +kernel
    have d2 : Str.ofString "." = ⟨sStay.toArray⟩ := by decide +kernel
    refine ⟨fun σ H2 => Same H H2 ∧ H2 p = some (.lst ((bwd ss).2.reverse.map sV)) ∧ ∃ kk, σ = [some (.ref pw), some (.bl rt), some (.ref ps), some (.bl en), some (.ref p), some (.int (bwd ss).1), kk], ?_, ?_⟩
    · refine ⟨ps, _, rfl, .of (s1 _ _ hps), ?_⟩
      refine tqH (fun i σ H2 => Same H H2 ∧ H2 p = some (.lst ((bwd (ss.drop (ss.length - i))).2.reverse.map sV)) ∧ ∃ kk, σ = [some (.ref pw), some (.bl rt), some (.ref ps), some (.bl en), some (.ref p), some (.int (bwd (ss.drop (ss.length - i))).1), kk]) ?_ (fun i σ H2 _ h => .of (h.1 _ _ hps)) ?_ ?_
      · refine ⟨s1, ?_, none, ?_⟩
        · rw [hp1]; simp [bwd]
        · simp [bwd]
      · rintro i v σ H2 hi hv ⟨sm, hp2, kk, rfl⟩
        rw [List.length_map] at hi
        rw [List.length_map, List.getElem?_map] at hv
        obtain ⟨s, hs', hv⟩ := Option.map_eq_some_iff.mp hv
        subst hv
        have ed : ss.drop (ss.length - (i + 1)) = s :: ss.drop (ss.length - i) := by
          have := uq3 hs'
          rw [show ss.length - 1 - i + 1 = ss.length - i by omega] at this
          rw [show ss.length - (i + 1) = ss.length - 1 - i by omega]
          exact this
        have hbl := pqQ (ss.drop (ss.length - i))
        rw [List.length_drop] at hbl
        rw [ed, iqC]
        generalize hB : bwd (ss.drop (ss.length - i)) = B at *
        obtain ⟨u, l⟩ := B
        rw [d1, d2]
        walk_at "rd"
        simp only [eqf]
        by_cases h1 : s = sUp
        · rw [if_pos h1]
          refine ⟨sm, ?_, _, ?_, rfl⟩
          · rw [hp2]; simp [bwd1, h1]
          · simp [bwd1, h1]
        · rw [if_neg h1]
          by_cases h2 : s = sStay
          · simp only [h2, not_true_eq_false, if_false, false_and]
            refine ⟨sm, ?_, _, ?_, rfl⟩
            · rw [hp2]; simp [bwd1, eqJ.symm]
            · simp [bwd1, eqJ.symm]
          · rw [if_pos h2]
            by_cases h3 : 0 < u
            · rw [if_pos (by omega)]
              refine ⟨sm, ?_, _, ?_, rfl⟩
              · rw [hp2]; simp [bwd1, h1, h2, h3]
              · simp [bwd1, h1, h2, h3]; omega
            · rw [if_neg (by omega), if_pos h2]
              refine ⟨⟨_, .of hp2⟩, _, hp2, aqn (by simp at hbl ⊢; omega), gq4 hp sm, ?_, _, ?_, rfl⟩
              · rw [aqr]; simp [bwd1, h1, h2, h3]
              · simp [bwd1, h1, h2, h3]
      · rintro σ H2 ⟨sm, hp2, kk, rfl⟩
        rw [List.length_map, Nat.sub_self, List.drop_zero] at *
        exact ⟨sm, hp2, kk, rfl⟩
    rintro σ H2 ⟨sm, hp2, kk, rfl⟩
    walk_at "rd"
    refine ⟨fun σ H3 => Same H H3 ∧ H3 p = some (.lst ((bwd ss).2.map sV)) ∧ ∃ kk, σ = [some (.ref pw), some (.bl rt), some (.ref ps), some (.bl en), some (.ref p), some (.int (bwd ss).1), kk], ?_, ?_⟩
    · exact ⟨⟨_, .of hp2⟩, _, hp2, gq4 hp sm, by rw [aqr, ← List.map_reverse, List.reverse_reverse], kk, rfl⟩
    rintro σ H3 ⟨sm3, hp3, kk, rfl⟩
    walk_at "rd"
    have hbl := pqQ ss
    refine ⟨fun σ H4 => Same H H4 ∧ ∃ q kk, H4 q = some (.lst ((goneS rt ss).map sV)) ∧ σ = [some (.ref pw), some (.bl rt), some (.ref ps), some (.bl en), some (.ref q), some (.int (bwd ss).1), kk], ?_, ?_⟩
    · rw [hqU]
      cases rt with
      | true => exact ite2 (fun z => by cases z) (fun _ => ⟨sm3, p, kk, by simpa using hp3, rfl⟩)
      | false =>
        refine ite2 (fun _ => ?_) (fun z => absurd rfl z)
        refine ⟨by decide, fun q H4 hq s4 hq4 => ?_⟩
        walk_at "rd"
        have e : (List.replicate ((bwd ss).1 : Int).toNat [V.str (Str.ofString "..")]).flatten = List.replicate (bwd ss).1 (sV sUp) := by rw [d1]; simp
        refine ⟨_, hq4, by omega, by omega, aqn (by simp; omega), fun q5 H5 hq5n s5 hq5 => .inl ⟨_, _, hq5, (s4.trans s5) _ _ hp3, ?_, fun q6 H6 hn6 s6 hq6 => ⟨((sm3.trans s4).trans s5).trans s6, q6, kk, ?_, rfl, rfl⟩⟩⟩
        · rw [e]; exact aqn (by simp; omega)
        · rw [hq6, e]; simp
    rintro σ H4 ⟨sm4, q, kk, hq4, rfl⟩
    have hgl := gone_len rt ss
    have hgs : ∀ s ∈ goneS rt ss, ∀ c ∈ s, isSg c = true := fun s hs' => by
      rcases kqy s hs' with h | h
      · exact hs s h.1
      · rw [h.2]; decide
    walk_at "rd"
    refine ⟨by decide, fun p5 H5 hn5 s5 hp5 => ?_⟩
    refine ⟨.tuple (ss.map st), .tuple [], (j1.is).mono (sm4.trans s5), .tup hp5 .nil, fqq hs, by decide, ?_⟩
    rw [mqZ]
    walk_at "rd"
    by_cases h0 : ss = []
    · refine ite2 (fun _ => ?_) (fun z => absurd (by rw [h0]; rfl) z)
      refine k _ H5 (sm4.trans s5) ?_
      rw [show goneV (rt, ss, en) = (rt, ss, en) by simp [goneV, goneW, h0]]
      exact hI.mono (sm4.trans s5).toT
    refine ite2 (fun z => absurd (by simpa using z) h0) (fun _ => ?_)
    refine ⟨by decide, fun p6 H6 hn6 s6 hp6 => ?_⟩
    have sm6 : Same H H6 := (sm4.trans s5).trans s6
    have hq6 := (s5.trans s6) _ _ hq4
    refine ⟨.list ((goneS rt ss).map st), .list [], .lst hq6 (kqI _), .lst hp6 .nil, pqg hgs, by decide, ?_⟩
    rw [uqr]
    walk_at "rd"
    by_cases h1 : goneS rt ss = []
    · refine ite2 (fun _ => ?_) (fun z => absurd (by rw [h1]; rfl) z)
      cases rt with
      | true =>
        rw [if_pos rfl]
        refine ⟨by decide, fun p7 H7 hn7 s7 hp7 => ⟨by decide, fun p8 H8 hn8 s8 hp8 => k _ H8 ((sm6.trans s7).trans s8) ?_⟩⟩
        rw [show goneV (true, ss, en) = (true, [], true) by simp [goneV, goneW, h0, h1]]
        exact .tup hp8 (.cons (.bl _) (.cons (.tup (s8 _ _ hp7) .nil) (.cons (.bl _) .nil)))
      | false =>
        rw [if_neg (by decide)]
        refine ⟨by decide, fun p7 H7 hn7 s7 hp7 => ⟨by decide, fun p8 H8 hn8 s8 hp8 => k _ H8 ((sm6.trans s7).trans s8) ?_⟩⟩
        rw [show goneV (false, ss, en) = (false, [sStay], true) by simp [goneV, goneW, h0, h1]]
        rw [d2] at hp7
        exact .tup hp8 (.cons (.bl _) (.cons (.tup (s8 _ _ hp7) (.cons (.str _) .nil)) (.cons (.bl _) .nil)))
    refine ite2 (fun z => absurd (by simpa using z) h1) (fun _ => ?_)
    refine ⟨_, .inl (.of hq6), fun l H7 s7 hl7 => ?_⟩
    have hW : goneV (rt, ss, en) = (rt, goneS rt ss, en || lastDot ss) := by simp [goneV, goneW, h0, h1]
    have sm7 := sm6.trans s7
    refine ite2 (fun he => ⟨by decide, fun p8 H8 hn8 s8 hp8 => k _ H8 (sm7.trans s8) ?_⟩) (fun he => ?_)
    · rw [hW, he, Bool.true_or]
      exact .tup hp8 (.cons (.bl _) (.cons (.tup (s8 _ _ hl7) (hqd _)) (.cons (.bl _) .nil)))
    · have he : en = false := by simpa using he
      obtain ⟨s, hls⟩ : ∃ s, ss.getLast? = some s := by
        cases hl : ss.getLast? with
        | none => exact absurd (List.getLast?_eq_none_iff.mp hl) h0
        | some s => exact ⟨s, rfl⟩
      have hld : lastDot ss = isDot s := by unfold lastDot; rw [hls]
      refine ⟨_, _, .inr (.of (sm7 _ _ hps)), hqR _ hls, by decide, fun p8 H8 hn8 s8 hp8 => ?_⟩
      rw [d1, d2] at hp8
      refine ⟨p8, _, rfl, .inr (.of hp8), rfl, rfl, by decide, fun p9 H9 hn9 s9 hp9 => k _ H9 ((sm7.trans s8).trans s9) ?_⟩
      rw [hW, he, Bool.false_or, hld, ← vqf]
      exact .tup hp9 (.cons (.bl _) (.cons (.tup ((s8.trans s9) _ _ hl7) (hqd _)) (.cons (.bl _) .nil)))
theorem lqU (g : G K mg) : FnOk P w K mg base CX0 1 g.eqr g.dqP ["_law_cell"] lqT := by
  refine g.gqt.ok bqx (fun vs H Q E h => ?_) (fun cdv A outer s H vs Q E hr h => ?_)
  · obtain ⟨c, rfl, _⟩ := h; rfl
  · obtain ⟨c, rfl, k⟩ := h
    refine ⟨_, (aqd (aqj (i := 1) bqx.nd rfl (Or.inl rfl) aqp)
      (aqd (aqj (i := 2) bqx.nd rfl (Or.inl rfl) (aqs (aqf (K := K) rfl) (pv 1) (aqm aqW (pv 0) aqe) (fun _ _ => rfl)))
      (aqd (aqj (i := 3) bqx.nd rfl (Or.inl rfl) (aqm aqS (pv 0) aqe))
      (aqd (iqb PassesOwn.never rfl (lqM rfl g.nqp (aqa (aqm aqW (pv 3) aqe) aqb)) (aq9 (i := 4) bqx.nd rfl (Or.inl rfl))
      (aqd (aqj (i := 3) bqx.nd rfl (Or.inl rfl) (aqm aqS (pv 3) aqe))
      (aqc (aqj (i := 2) bqx.nd rfl (Or.inl rfl) (aqm (aqD (K := K) rfl) (pv 2) (aqs (aqf (K := K) rfl) (aqm (aqD (K := K) rfl) (pv 1) aqp) (aqm aqW (aqm (aqD (K := K) rfl) (pv 3) (aqm hqf aqe (pv 4))) aqe) (fun _ _ => rfl)))))))
      (aqc (aql (pv 2))))))), ?_⟩
    walk_at "rd"
    have h0 := Int.emod_nonneg c (show (52 : Int) ≠ 0 by decide)
    have h1 := Int.emod_lt_of_pos c (show (0 : Int) < 52 by decide)
    have h8 := Int.emod_nonneg (c / 52) (show (8 : Int) ≠ 0 by decide)
    have h9 := Int.emod_lt_of_pos (c / 52) (show (0 : Int) < 8 by decide)
    have e52 : (Str.ofString "abcdefghijklmnopqrstuvwxyzABCDEFGHIJKLMNOPQRSTUVWXYZ").cps.toList = AL.take 52 := by decide +kernel
    obtain ⟨c0, hc0, hl0⟩ := xqI (c % 52).toNat (by omega)
    have hat : atI (Str.ofString "abcdefghijklmnopqrstuvwxyzABCDEFGHIJKLMNOPQRSTUVWXYZ").cps.toList (c % 52) = some c0 := by
      rw [e52, show c % 52 = ((c % 52).toNat : Int) by omega]
      exact cqB (by rw [List.getElem?_take]; simp [hc0]; omega)
    refine ⟨by decide, c0, by decide +kernel, hat, ⟨by decide, by decide⟩, by decide, by omega, by omega, ?_⟩
    obtain ⟨m, hm, hm7⟩ : ∃ m : Nat, c / 52 % 8 = (m : Int) ∧ m ≤ 7 := ⟨(c / 52 % 8).toNat, by omega, by omega⟩
    rw [hm, Int.toNat_natCast]
    refine jqp (fun i σ H' => H' = H ∧ ∃ (l : List Nat) (nn : Int) (v4 : Option V), σ = [some (.int c), some (.str (Str.ofString "abcdefghijklmnopqrstuvwxyzABCDEFGHIJKLMNOPQRSTUVWXYZ")), some (.str ⟨l.toArray⟩), some (.int nn), v4] ∧ l.length = i + 1 ∧ (∀ d ∈ l, isAln d = true) ∧ ∀ d ∈ l.take 1, isLet d = true) ⟨rfl, [c0], _, none, rfl, rfl, ?_, ?_⟩ ?_ ?_
    · intro d hd
      rw [List.mem_singleton.mp hd]; simp [isAln, hl0]
    · intro d hd
      rw [List.mem_singleton.mp hd]; exact hl0
    · rintro i σ H' hi ⟨rfl, l, nn, v4, rfl, hl, hs, h1⟩
      walk_at "rd"
      rw [yqk]
      have hx0 := Int.emod_nonneg (nn / 8 + 7 * (0 + (i : Int))) (show (62 : Int) ≠ 0 by decide)
      have hx1 := Int.emod_lt_of_pos (nn / 8 + 7 * (0 + (i : Int))) (show (0 : Int) < 62 by decide)
      obtain ⟨d, hd, hat2⟩ := yqK AL hx0 (by rw [uqS]; exact hx1)
      refine ⟨⟨by decide, by decide⟩, by decide +kernel, .inl ⟨by decide, by decide⟩, by decide, ?_⟩
      walk_at "rd"
      refine ⟨d, aqn (by rw [uqS]; decide), hat2, aqn (by omega), l ++ [d], _, _, ⟨rfl, rfl, rfl⟩, by rw [List.length_append, List.length_singleton, hl], fun e he => ?_, fun e he => ?_⟩
      · rcases List.mem_append.mp he with z | z
        · exact hs e z
        · rw [List.mem_singleton.mp z]; exact wq2 d hd
      · rw [pqL, if_neg (by omega)] at he
        exact h1 e he
    · rintro σ H' ⟨rfl, l, nn, v4, rfl, hl, hs, h1⟩
      walk_at "rd"
      exact k l (by omega) (by omega) hs h1
theorem lqs (g : G K mg) : FnOk P w K mg base CX0 1 g.dqY g.dqs ["_law_sign", "_law_great"] gqR := by
  refine g.fqG.ok eqX (fun vs H Q E h => ?_) (fun cdv A outer s H vs Q E hr h => ?_)
  · obtain ⟨c, g, rfl, _⟩ := h; rfl
  · obtain ⟨c, gr, rfl, hc, k⟩ := h
    refine ⟨_, (aqd (aqj (i := 2) eqX.nd rfl (Or.inl rfl) aqp)
      (aqx (aqE (aqB (pv 1))
        (aqc (aqj (i := 2) eqX.nd rfl (Or.inl rfl) aqp)) aqo)
      (aqc (aql (aqm (aqD (K := K) rfl) (aqm (aqD (K := K) rfl) aqp (aqs (aqf (K := K) rfl) (pv 2) (aqm aqS (aqv kqW rfl g.tqM nqu (aqa (pv 0) aqb)) aqe) (fun _ _ => rfl))) (aqs (aqf (K := K) rfl) (pv 2) (aqm aqW (aqv kqW rfl g.tqM nqu (aqa (pv 0) aqb)) aqe) (fun _ _ => rfl))))))), ?_⟩
    have l := cq2 hc
    walk_at "rd"
    obtain ⟨fg, hfg⟩ : ∃ fg : Nat → Nat, fg = (if gr then (fun n => if n < 10 then 48 + n else 55 + n) else hexd) := ⟨_, rfl⟩
    have hk : sgO (fg (c / 16)) (fg (c % 16)) = some c := by
      rw [hfg]
      cases gr
      · exact sqV hc
      · exact sqP hc
    refine ⟨fun σ H1 => H1 = H ∧ ∃ z : Str, σ = [some (.str ⟨#[c]⟩), some (.bl gr), some (.str z)] ∧ z.length = 16 ∧ ∀ n, n < 16 → z.cps.toList[n]? = some (fg n), ?_, ?_⟩
    · rw [hfg]
      cases gr
      · exact ⟨rfl, _, rfl, by decide +kernel, vqB⟩
      · exact ⟨rfl, _, rfl, by decide +kernel, rqE⟩
    rintro σ H1 ⟨rfl, z, rfl, hz, hg⟩
    walk_at "rd"
    have a1 : atI z.cps.toList ((c : Int) / 16) = some (fg (c / 16)) := by
      rw [show (c : Int) / 16 = ((c / 16 : Nat) : Int) by omega]
      exact cqB (hg (c / 16) (by omega))
    have a2 : atI z.cps.toList ((c : Int) % 16) = some (fg (c % 16)) := by
      rw [show (c : Int) % 16 = ((c % 16 : Nat) : Int) by omega]
      exact cqB (hg (c % 16) (by omega))
    have hzl : z.length ≤ sizeLine := by rw [hz]; decide
    exact ⟨⟨by decide, by decide⟩, _, hzl, a1, by decide, by decide, _, hzl, a2, by decide, k _ _ hk⟩
theorem rqk (g : G K mg) : FnOk P w K mg base CX0 2 g.iq6 g.hqE ["thing"] qq7 := by
  refine g.kq1.ok rqf (fun vs H Q E h => ?_) (fun cdv A outer s H vs Q E hr h => ?_)
  · obtain ⟨d, v, rfl, _⟩ := h; rfl
  · obtain ⟨d, v, rfl, hv, hs, k⟩ := h
    refine ⟨_, (aqc (aql (iq8 (aqv iqV rfl g.aqA aqt (aqa (pv 0) (aqa (cqo (v := .ty "str") rfl g.lqF hqZ rfl) aqb))) (fqb (aqg (jqr g) (hr.mono (by decide)) rfl g.iqy g.hqt.kp g.iqO .nil pass0 (aqa (pv 0) (aqa (aqh (v := sqN) rfl g.pqj ⟨_, rfl⟩) aqb))))))), ?_⟩
    cases hv with
    | lst hp r => walk_at "rd"; simp only [tqq hp]; walk_at "rd"; exact k H (Same.refl _)
    | tup hp r => walk_at "rd"; simp only [tqx hp]; walk_at "rd"; exact k H (Same.refl _)
    | str x =>
      walk_at "rd"
      refine ⟨x, _, rfl, oqm hs, fun H' sm => ?_⟩
      simp only [xqR]
      exact k H' sm
    | _ => walk_at "rd"; exact k H (Same.refl _)
theorem qq9 (g : G K mg) : FnOk P w K mg base CX0 2 g.iqH g.hqJ ["figures"] mqD := by
  refine g.lqo.ok jqk (fun vs H Q E h => ?_) (fun cdv A outer s H vs Q E hr h => ?_)
  · obtain ⟨c, rfl, _⟩ := h; rfl
  · obtain ⟨l, rfl, hl, ha, k⟩ := h
    refine ⟨_, (aqd (aqE (aqk hqX (aqv (aqQ (K := K) rfl) rfl g.fqT PySem.boot_len (aqa (pv 0) aqb)) aqe (nomark _))
        (aqc (aql aqF)) aqo)
      (aqd (aqj (i := 1) jqk.nd rfl (Or.inl rfl) (aqg (gqJ g) (hr.mono (by decide)) rfl g.eqS g.dqj.kp g.eqP .nil pass0 (aqa (aqs (aqf (K := K) rfl) (pv 0) aqe (fun _ _ => rfl)) aqb)))
      (aqd (aqj (i := 2) jqk.nd rfl (Or.inl rfl) (aqg (gqJ g) (hr.mono (by decide)) rfl g.eqS g.dqj.kp g.eqP .nil pass0 (aqa (aqs (aqf (K := K) rfl) (pv 0) aqe (fun _ _ => rfl)) aqb)))
      (aqd (aqE (PW.pt (fqD (aqk cq5 (pv 1) aqF (nomark _)) (eqg (aqk cq5 (pv 2) aqF (nomark _)))))
        (aqc (aql aqF)) aqo)
      (aqc (aql (aqg (kqs g) (hr.mono (by decide)) rfl g.hqc g.fqa.kp g.hqw .nil pass0 (aqa (aqm (aqD (K := K) rfl) (aqm hqf (pv 1) aqe) (pv 2)) aqb)))))))), ?_⟩
    walk_at "rd"
    have hz : l.length ≤ sizeLine := aqn (by omega)
    refine ⟨hz, ite2 (fun h => ?_) (fun h => ?_)⟩
    · rw [rqi (by omega)] at k
      exact k
    · obtain ⟨a, b, rfl⟩ := xqB (l := l) (by omega)
      refine ⟨a, hz, rfl, ha a (by simp), b, hz, rfl, ha b (by simp), ?_⟩
      have k : Q (signOf a b) H := k
      unfold signOf at k
      cases e1 : fig a with
      | none =>
        rw [e1] at k
        rw [kq9 e1]
        exact k
      | some x =>
        cases e2 : fig b with
        | none =>
          rw [e1, e2] at k
          rw [gqX e1, kq9 e2]
          exact k
        | some y =>
          rw [e1, e2] at k
          rw [gqX e1, gqX e2]
          walk_at "rd"
          exact ⟨.inr ⟨by decide, by decide⟩, x * 16 + y, by rw [Int.natCast_add, Int.natCast_mul]; rfl, k⟩
theorem eqF (g : G K mg) : FnOk P w K mg base CX0 2 g.jqd g.hqS ["text"] fqM := by
  refine g.dq5.ok qq8 (fun vs H Q E h => ?_) (fun cdv A outer s H vs Q E hr h => ?_)
  · obtain ⟨c, rfl, _⟩ := h; rfl
  · obtain ⟨l, rfl, hl, hs, k⟩ := h
    refine ⟨_, (aqc (aql (dqg (K := K) rfl PySem.F.plainAttrs_str PySem.F.slot_str_join PySem.F.type_str_join (hqM (K := K) rfl) aqp (aqa (jqm (fx := []) (fr := []) rfl rfl (by decide +kernel) rfl (by decide +kernel) rfl (by decide +kernel) rfl .nil rfl (sqZ (pv 0)) (fun _ _ _ => mqA) (fun _ _ _ => (aq0 (aqk mqB (pv 0) (aqh (v := pqu) rfl g.pqO ⟨_, rfl⟩) (by with_unfolding_all rfl)) (pv 0) (aqg (rqg g) (hr.mono (by decide)) rfl g.oq3 g.kq3.kp g.oq8 .nil pass0 (aqa (pv 0) aqb))))) aqb)))), ?_⟩
    walk_at "rd"
    intro p hp
    refine qqd (z := ⟨l.toArray⟩) (by rw [dqy]; exact aqn (by omega)) hp (fun c => .str ⟨(wr1 c).toArray⟩) (fun c hc H' R hR => ?_) (fun H' sm hp' => ?_)
    · have l1 := cq2 (hs c hc)
      have e := qqu c (by omega)
      have hR' := hR H' (Same.refl _)
      walk_at "rd"
      unfold wr1 at hR'
      refine ite2 (fun h => ?_) (fun h => ?_)
      · rw [decide_eq_true h] at e
        rw [← e, if_pos rfl] at hR'
        exact hR'
      · rw [decide_eq_false h] at e
        rw [← e, if_neg (by decide)] at hR'
        exact ⟨by omega, hR'⟩
    · walk_at "rd"
      refine ⟨l.map fun c => ⟨(wr1 c).toArray⟩, SqL.of (by rw [hp', List.map_map]; rfl), ?_, ?_⟩
      · have h3 : ∀ m : List Nat, ((m.map fun c => (⟨(wr1 c).toArray⟩ : Str)).map (·.length)).sum ≤ 3 * m.length := fun m => by
          induction m with
          | nil => simp
          | cons c r ih =>
            have := sqB c
            simp only [List.map_cons, List.sum_cons, List.length_cons, dqy] at ih ⊢
            omega
        have := h3 l
        simp only [List.length_map, List.length_nil, Nat.mul_zero, Nat.add_zero, dqy] at this ⊢
        omega
      · rw [qqB]
        have e : ((l.map fun c => (⟨(wr1 c).toArray⟩ : Str)).flatMap fun y => y.cps.toList) = wr l := by
          unfold wr
          rw [List.flatMap_map]
        rw [e]
        exact k H' sm
theorem nqB (g : G K mg) : FnOk P w K mg base CX0 2 g.fqy g.eqz ["steps", "rooted"] (nqg K) := by
  refine g.hqr.ok gqA (fun vs H Q E h => ?_) (fun cdv A outer s H vs Q E hr h => ?_)
  · obtain ⟨ps, ss, r, rfl, _⟩ := h; rfl
  · obtain ⟨ps, ss, r, rfl, hps, hl, k⟩ := h
    refine ⟨_, (aqd (aqj (i := 2) gqA.nd rfl (Or.inl rfl) (cqU aqb))
      (aqd (iqb PassesOwn.never rfl (iqh (K := K) rfl (pv 0)) (aq9 (i := 3) gqA.nd rfl (Or.inl rfl))
      (aqc (aqE (aqk eqc (pv 3) (aqh (v := k_UP) rfl g.c_UP ⟨_, rfl⟩) (nomark _))
        (aqc (dqu (aqg (tqP g) (hr.mono (by decide)) rfl g.rqW g.pqB.kp g.rqY .nil pass0 (aqa (pv 2) (aqa (pv 1) aqb))))) (aqc (aqE (aqk hqX (pv 3) (aqh (v := oqP) rfl g.nq0 ⟨_, rfl⟩) (nomark _))
        (aqc (dqu (dqg (K := K) rfl PySem.F.plainAttrs_list PySem.F.slot_list_append PySem.F.type_list_append cqj (pv 2) (aqa (pv 3) aqb)))) aqo)))))
      (aqc (aql (bqC (dqI (K := K) rfl) rfl g.eqb cq8 (aqa (pv 2) aqb)))))), ?_⟩
    walk_at "rd"
    refine ⟨by decide, fun p H1 hp s1 hp1 => ⟨⟨_, s1.tup hps⟩, ?_⟩⟩
    refine nqi (xs := ss.map sV) (fun i σ H2 => Same H H2 ∧ H2 p = some (.lst ((stk (sofar r ss i)).map sV)) ∧ ∃ kk, σ = [some (.ref ps), some (.bl r), some (.ref p), kk]) ⟨s1, by rw [hp1]; simp [sofar, stk], none, rfl⟩ (fun i σ H2 _ h => h.1.tup hps) ?_ ?_
    · rintro i x σ H2 hx ⟨sm, hp2, kk, rfl⟩
      rw [List.getElem?_map] at hx
      obtain ⟨s, hs, rfl⟩ := Option.map_eq_some_iff.mp hx
      have hi : i < ss.length := by
        rcases Nat.lt_or_ge i ss.length with z | z
        · exact z
        · rw [List.getElem?_eq_none z] at hs; cases hs
      obtain ⟨ok, lk⟩ := qqw r ss i
      rw [rqb hs]
      simp only [kup, kst]
      walk_at "rd"
      simp only [eqf]
      by_cases h1 : s = sUp
      · rw [if_pos h1]
        refine ⟨p, _, r, rfl, hp2, by omega, gq4 hp sm, ?_, _, rfl⟩
        rw [aqr, tqE ok, h1]
      · rw [if_neg h1]
        by_cases h2 : s = sStay
        · subst h2
          rw [tqp]
          exact ite2 (fun z => absurd rfl z) (fun _ => ⟨sm, hp2, _, rfl⟩)
        · refine ite2 (fun _ => ?_) (fun z => absurd h2 z)
          refine ⟨⟨_, .of hp2⟩, _, hp2, aqn (by rw [List.length_map]; omega), gq4 hp sm, ?_, _, rfl⟩
          rw [aqr, wqo h1 h2, List.map_append]; rfl
    · rintro σ H2 ⟨sm, hp2, kk, rfl⟩
      rw [List.length_map, rqz] at hp2
      walk_at "rd"
      exact ⟨_, .inl (.of hp2), fun l H3 s3 hl3 => k l H3 (sm.trans s3) hl3⟩
theorem dq0 (g : G K mg) : FnOk P w K mg base CX0 2 g.eqq g.dqW ["self", "signs"] (mqb K g.aqu) := by
  refine g.iqM.ok lq8 (fun vs H Q E h => ?_) (fun cdv A outer s H vs Q E hr h => ?_)
  · obtain ⟨p, t, sg, i, rfl, _⟩ := h; rfl
  · obtain ⟨p, t, sg, i, rfl, ⟨dx, hp⟩, hi, hl, k⟩ := h
    refine ⟨_, (aqc (aql (iq8 (xq6 (gqp (pv 0) g.aqq g.eqe (gqN g) (hr.mono (by decide)) g.eqW .nil pass0)) (fqb (aq4 mqB (aqs (aqf (K := K) rfl) (eqh (pv 0) rfl) (eqh (pv 0) rfl) (fun _ _ => rfl)) (pv 1) (by with_unfolding_all rfl)))))), ?_⟩
    have hcur : Cur H g.aqu p t i := ⟨dx, hp⟩
    walk_at "rd"
    refine aqw hcur ⟨p, t, i, rfl, hcur, hl, _, rfl, ?_⟩
    by_cases he : i = t.length
    · rw [decide_eq_true he, if_neg (by decide)]
      rw [hqK (by rw [he]; exact List.getElem?_eq_none (Nat.le_refl _))] at k
      exact k
    rw [decide_eq_false he, if_pos rfl]
    refine gqi hcur g.aqq g.aq8 (dqp hcur g.aqq g.aqH ?_)
    have hc : t[i]? = some t[i] := List.getElem?_eq_getElem (by omega)
    walk_at "rd"
    refine ⟨t[i], aqn hl, cqB hc, ?_⟩
    rw [bqE hc] at k
    exact k
theorem qqQ {K : PySem.W.Frag} {p a : Addr} {fv : St} {Q : VK} {H1 : Hp} {cs : List Int} (hS : SqL K H1 a (cs.map V.int)) (hl : cs.length ≤ 2000) (hp : H1 p = none)
    (hQ : ∀ (ss : List Stp) (H' : Hp), Same H1 H' → ss.length = cs.length → (∀ s ∈ ss, StepOk s ∧ s.length ≤ 9) → H' p = some (.lst (ss.map sV)) → Q (.ref p) H') : CompI (Itl K a) p fv tYes (tCall jqZ [] E0 (tCons (tVar 0) tNil)) Q H1 := by
  refine qqY hS (by rw [List.length_map]; exact aqn (by omega)) hp (fun _ y _ => ∃ s : Stp, y = sV s ∧ (StepOk s ∧ s.length ≤ 9)) (fun _ _ _ _ _ h => h) (fun x hx H' T sm hT => ?_) (fun ys H' sm all hp' => ?_)
  · obtain ⟨c, _, rfl⟩ := List.mem_map.mp hx
    rw [L2.rqr, L2.sqb, L2.uqG]
    refine ⟨_, rfl, c, rfl, fun l H'' s'' h1 h2 h3 => hT _ H'' s'' ⟨l, rfl, ⟨h1, h3⟩, h2⟩⟩
  · obtain ⟨ss, rfl, h1, h2⟩ := oq4 all
    rw [List.length_map] at h1
    exact hQ ss H' sm h1 h2 hp'
theorem nqX (g : G K mg) : FnOk P w K mg base CX0 2 g.gqm g.fqj ["_law_cell"] jqZ := by
  refine g.iqv.ok jq4 (fun vs H Q E h => ?_) (fun cdv A outer s H vs Q E hr h => ?_)
  · obtain ⟨c, rfl, _⟩ := h; rfl
  · obtain ⟨c, rfl, k⟩ := h
    refine ⟨_, (aqd (aqj (i := 1) jq4.nd rfl (Or.inl rfl) (aqm aqS (pv 0) aqe))
      (aqd (aqE (aqk pqi (aqm aqW (pv 0) aqe) aqe (nomark _))
        (aqc (aql aqp)) aqo)
      (aqd (aqE (aqk eqc (aqm aqW (pv 0) aqe) aqe (nomark _))
        (aqc (aql aqp)) aqo)
      (aqd (aqE (aqk eqc (aqm aqW (pv 0) aqe) aqe (nomark _))
        (aqc (aql (aqs (aqf (K := K) rfl) (uqQ (aqa aqp (aqa aqp (aqa aqp (aqa aqp (aqa aqp (aqa aqp (aqa aqp (aqa aqp aqb))))))))) (aqm aqW (pv 1) aqe) (fun _ _ => rfl)))) aqo)
      (aqd (aqE (aqk pqi (aqm aqW (pv 0) aqe) aqe (nomark _))
        (aqc (aql (aqm hqf (aqs (aqf (K := K) rfl) aqp (aqm aqW (pv 1) aqe) (fun _ _ => rfl)) (aqm (aqD (K := K) rfl) aqe (aqm aqW (aqm aqS (pv 1) aqe) aqe))))) aqo)
      (aqc (aql (aqg (dq6 g) (hr.mono (by decide)) rfl g.dqH g.cq7.kp g.dqD .nil pass0 (aqa (pv 1) (aqa aqe aqb)))))))))), ?_⟩
    walk_at "rd"
    have put : ∀ (l : List Nat) (z : Str) (H' : Hp), z = ⟨l.toArray⟩ → Same H H' → 0 < l.length → l.length ≤ 9 → l.all isSg = true → Q (.str z) H' := fun l z H' e sm h1 h2 h3 => by
      rw [e]; exact k l H' sm h1 h2 (List.all_eq_true.mp h3)
    refine ⟨⟨by decide, by decide⟩, by decide, ite2 (fun _ => put [46, 46] _ H (by decide +kernel) (Same.refl _) (by decide) (by decide) (by decide)) (fun _ => ⟨by decide, ite2 (fun _ => put [46] _ H (by decide +kernel) (Same.refl _) (by decide) (by decide) (by decide)) (fun _ => ⟨by decide, ite2 (fun _ => ?_) (fun _ => ⟨by decide, ite2 (fun _ => ?_) (fun _ => ?_)⟩)⟩)⟩)⟩
    · refine ⟨by decide, fun p hp => ⟨by decide, ?_⟩⟩
      have sm := tqm (o := .lst [V.str (Str.ofString "..."), V.str (Str.ofString ".a"), V.str (Str.ofString "..b"), V.str (Str.ofString "a."), V.str (Str.ofString "-"), V.str ⟨#[126]⟩, V.str (Str.ofString "a/b"), V.str (Str.ofString ":")]) hp
      obtain ⟨v, hv, hat⟩ := vq0 [V.str (Str.ofString "..."), V.str (Str.ofString ".a"), V.str (Str.ofString "..b"), V.str (Str.ofString "a."), V.str (Str.ofString "-"), V.str ⟨#[126]⟩, V.str (Str.ofString "a/b"), V.str (Str.ofString ":")] (c / 8) 8 (by decide) (by decide)
      refine ⟨_, v, .inl (.of aqr), hat, ?_⟩
      simp only [List.mem_cons, List.not_mem_nil, or_false] at hv
      rcases hv with rfl | rfl | rfl | rfl | rfl | rfl | rfl | rfl
      · exact put [46, 46, 46] _ _ (by decide +kernel) sm (by decide) (by decide) (by decide)
      · exact put [46, 97] _ _ (by decide +kernel) sm (by decide) (by decide) (by decide)
      · exact put [46, 46, 98] _ _ (by decide +kernel) sm (by decide) (by decide) (by decide)
      · exact put [97, 46] _ _ (by decide +kernel) sm (by decide) (by decide) (by decide)
      · exact put [45] _ _ (by decide +kernel) sm (by decide) (by decide) (by decide)
      · exact put [126] _ _ (by decide +kernel) sm (by decide) (by decide) (by decide)
      · exact put [97, 47, 98] _ _ (by decide +kernel) sm (by decide) (by decide) (by decide)
      · exact put [58] _ _ (by decide +kernel) sm (by decide) (by decide) (by decide)
    · obtain ⟨d, hd, hat⟩ := uq6 (Str.ofString "abc").cps.toList (c / 8) 3 (by decide) (by decide +kernel)
      have hd : d = 97 ∨ d = 98 ∨ d = 99 := by
        rw [show (Str.ofString "abc").cps.toList = [97, 98, 99] by decide +kernel] at hd
        simpa using hd
      refine ⟨by decide, d, by decide +kernel, hat, ⟨by decide, by decide⟩, by decide, ?_⟩
      have h2 : c / 8 / 3 % 2 = 0 ∨ c / 8 / 3 % 2 = 1 := by omega
      have mo : ∀ (l : List Nat) (n : Int), (n = 1 ∨ n = 2) → l.length = 1 → MulOk (⟨l.toArray⟩ : Str) n := fun l n hn hl => by
        rcases hn with rfl | rfl <;> exact ⟨by decide, fun _ _ => by rw [dqy, hl]; decide, fun _ _ => notTooLong (by rw [dqy, hl]; decide)⟩
      rcases h2 with e | e <;> rw [e] <;> refine ⟨mo [d] _ (by simp) rfl, ?_⟩ <;> rcases hd with rfl | rfl | rfl
      · exact put [97] _ H (by decide +kernel) (Same.refl _) (by decide) (by decide) (by decide)
      · exact put [98] _ H (by decide +kernel) (Same.refl _) (by decide) (by decide) (by decide)
      · exact put [99] _ H (by decide +kernel) (Same.refl _) (by decide) (by decide) (by decide)
      · exact put [97, 97] _ H (by decide +kernel) (Same.refl _) (by decide) (by decide) (by decide)
      · exact put [98, 98] _ H (by decide +kernel) (Same.refl _) (by decide) (by decide) (by decide)
      · exact put [99, 99] _ H (by decide +kernel) (Same.refl _) (by decide) (by decide) (by decide)
    · exact ⟨_, 9, rfl, by decide, by decide, fun l h1 h2 h3 => k l H (Same.refl _) h1 (by omega) h3⟩
theorem hqs (g : G K mg) : FnOk P w K mg base CX0 2 g.gqk g.fqn ["_law_found", "_law_due"] (nq4 K) := by
  refine g.eq0.ok kqb (fun vs H Q E h => ?_) (fun cdv A outer s H vs Q E hr h => ?_)
  · obtain ⟨x, v, u, rfl, _⟩ := h; rfl
  · obtain ⟨x, v, u, rfl, hI, hJ, wf, hn, k⟩ := h
    refine ⟨_, (aqd (aqE (PW.pt (fqD (aq2 (aqB (aqv (bqr (K := K) rfl) rfl g.aqA aqt (aqa (pv 0) (aqa (cqo (v := .ty "tuple") rfl g.eqb cq8 rfl) aqb))))) (fqD (aqk hqX (aqv (aqQ (K := K) rfl) rfl g.fqT PySem.boot_len (aqa (pv 0) aqb)) aqe (nomark _)) (eqg (aq2 (aqB (aqv (bqr (K := K) rfl) rfl g.aqA aqt (aqa (aqs (aqf (K := K) rfl) (pv 0) aqe (fun _ _ => rfl)) (aqa (cqo (v := .ty "str") rfl g.lqF hqZ rfl) aqb)))))))))
        (aqc (aql dqe)) aqo)
      (aqx (aqE (PW.pt (fqJ (aqk cqq (aqs (aqf (K := K) rfl) (pv 0) aqe (fun _ _ => rfl)) aqF (nomark _)) (dq9 (PW.pt (fqD (aqB (aqv (bqr (K := K) rfl) rfl g.aqA aqt (aqa (aqs (aqf (K := K) rfl) (pv 0) aqe (fun _ _ => rfl)) (aqa (cqo (v := .ty "bool") rfl g.qqG pq2 rfl) aqb)))) (eqg (aq2 (aqB (aqv (bqr (K := K) rfl) rfl g.aqA aqt (aqa (aqs (aqf (K := K) rfl) (pv 0) aqe (fun _ _ => rfl)) (aqa (cqo (v := .ty "int") rfl g.pqz mqw rfl) aqb)))))))))))
        (aqc (aql dqe)) aqo)
      (aqd (iqb PassesOwn.never rfl (nqh (K := K) rfl (cqU (aqa (aqs (aqf (K := K) rfl) (pv 0) aqe (fun _ _ => rfl)) (aqa (aqs (aqf (K := K) rfl) (pv 0) aqe (fun _ _ => rfl)) aqb)))) (aq9 (i := 2) kqb.nd rfl (Or.inl rfl))
      (aqc (aqE (PW.pt (fqJ (aqk cqq (pv 2) aqF (nomark _)) (dq9 (aq2 (aqB (aqv (bqr (K := K) rfl) rfl g.aqA aqt (aqa (pv 2) (aqa (cqo (v := .ty "str") rfl g.lqF hqZ rfl) aqb))))))))
        (aqc (aql dqe)) aqo)))
      (aqc (aql (iq8 (aqg (kqc g) (hr.mono (by decide)) rfl g.hqh g.eqO.kp g.hqq .nil pass0 (aqa (aqs (aqf (K := K) rfl) (pv 0) aqe (fun _ _ => rfl)) (aqa (aqs (aqf (K := K) rfl) (pv 1) aqe (fun _ _ => rfl)) aqb))) (iq8 (aqg (iqD g) (hr.mono (by decide)) rfl g.fqU g.dqK.kp g.fqS .nil pass0 (aqa (aqs (aqf (K := K) rfl) (pv 0) aqe (fun _ _ => rfl)) aqb)) (fqb (aq4 (mqH (K := K) rfl hr.units) (pv 0) (pv 1) (nomark _)))))))))), ?_⟩
    obtain ⟨pv, wv, qv, rfl, hpv, hwv, hqv⟩ := dq4 hI
    obtain ⟨pu, wu, qu, rfl, hpu, hwu, hqu⟩ := dq4 hJ
    walk_at "rd"
    refine ⟨"tuple", .tup hpv, ?_⟩
    rw [if_neg (by decide)]
    refine ⟨_, .inr hpv, ?_⟩
    rw [if_neg (by simp)]
    refine ⟨_, _, .inr hpv, rfl, "str", .inl rfl, ?_⟩
    rw [if_neg (by decide)]
    refine ⟨fun σ H' => H' = H ∧ σ = [some (.ref pv), some (.ref pu), none], ?_, ?_⟩
    · refine ⟨_, _, .inr hpv, rfl, ?_⟩
      cases hd : x.door with
      | none => exact ite2 (fun z => absurd rfl z) (fun _ => ⟨rfl, rfl⟩)
      | some i =>
        refine ite2 (fun _ => ⟨_, _, .inr hpv, rfl, "int", .inl (by rw [hd]; rfl), ?_⟩) (fun z => absurd (Classical.not_not.mp z) (by simp [itV]))
        rw [if_neg (by decide)]
        refine ⟨_, _, .inr hpv, rfl, "int", .inl (by rw [hd]; rfl), ?_⟩
        rw [if_neg (by decide)]
        exact ⟨rfl, rfl⟩
    rintro σ H' ⟨rfl, rfl⟩
    walk_at "rd"
    refine ⟨_, _, .inr hpv, rfl, _, _, .inr hpv, rfl, by decide, fun pl H1 hn1 s1 hp1 => ⟨⟨_, .of hp1⟩, ?_⟩⟩
    refine oqC (xs := [otV x.house, otV x.mark]) (fun i σ H2 => H2 = H1 ∧ ∃ v2, σ = [some (.ref pv), some (.ref pu), v2]) ⟨rfl, none, rfl⟩ (fun i σ H2 _ h => h.1 ▸ .of hp1) ?_ ?_
    · rintro i y σ H2 hy ⟨rfl, v2, rfl⟩
      obtain ⟨o, rfl⟩ : ∃ o, y = otV o := by
        have hy := List.mem_of_getElem? hy
        simp only [List.mem_cons, List.not_mem_nil, or_false] at hy
        rcases hy with rfl | rfl <;> exact ⟨_, rfl⟩
      walk_at "rd"
      cases o with
      | none => exact ite2 (fun z => absurd rfl z) (fun _ => ⟨_, rfl⟩)
      | some l =>
        refine ite2 (fun _ => ⟨"str", .inl rfl, ?_⟩) (fun z => absurd (Classical.not_not.mp z) (by simp [otV]))
        rw [if_neg (by decide)]
        exact ⟨_, rfl⟩
    · rintro σ H2 ⟨rfl, v2, rfl⟩
      walk_at "rd"
      refine ⟨_, _, .inr (s1.tup hpv), rfl, _, _, .inr (s1.tup hpu), rfl, x.w, wv, wu, rfl, hwv.mono s1, hwu.mono s1, wf.sg, hn, fun H3 s3 => ⟨true, rfl, ?_⟩⟩
      rw [if_pos rfl]
      have s13 := s1.trans s3
      refine ⟨_, _, .inr (s13.tup hpv), rfl, x.quest, qv, rfl, hqv.mono s13, true, rfl, ?_⟩
      rw [if_pos rfl]
      refine ⟨x.data, x.data, hI.mono s13, hJ.mono s13, wf.shaped, wf.shaped, ?_⟩
      rw [show PyData.eqv x.data x.data = true from (Ad.eqv_iff x x).mpr rfl]
      exact k H3 s13
theorem kqd (g : G K mg) : FnOk P w K mg base CX0 2 g.dql g.cqL ["_law_cell"] kqi := by
  refine g.eq8.ok bqq (fun vs H Q E h => ?_) (fun cdv A outer s H vs Q E hr h => ?_)
  · obtain ⟨c, rfl, _⟩ := h; rfl
  · obtain ⟨c, rfl, k⟩ := h
    refine ⟨_, (aqd (aqE (aqk eqc (aqm aqW (pv 0) aqe) aqe (nomark _))
        (aqc (aql aqF)) aqo)
      (aqd (aqj (i := 1) bqq.nd rfl (Or.inl rfl) (cqU aqb))
      (aqd (iqb PassesOwn.never rfl (lqM rfl g.nqp (aqa (aqm aqW (aqm aqS (pv 0) aqe) aqe) aqb)) (aq9 (i := 2) bqq.nd rfl (Or.inl rfl))
      (aqd (aqj (i := 3) bqq.nd rfl (Or.inl rfl) (aqm (aqN (K := K)) (aqm aqS (pv 0) aqe) (aqm hqf aqe (pv 2))))
      (aqd (aqj (i := 4) bqq.nd rfl (Or.inl rfl) aqF)
      (aqx (aqE (aqk kql (aqm aqW (aqm aqS (pv 3) aqe) aqe) aqe (nomark _))
        (aqc (aqj (i := 4) bqq.nd rfl (Or.inl rfl) (aqP (mqX (K := K) rfl) (aqg (dq6 g) (hr.mono (by decide)) rfl g.dqH g.cq7.kp g.dqD .nil pass0 (aqa (aqm aqS (pv 3) aqe) (aqa aqe aqb))) (aqO (aqm mqI (aqm aqW (aqm aqS (pv 3) aqe) aqe) aqe)) bql))) aqo)
      (aqc (dqu (dqg (K := K) rfl PySem.F.plainAttrs_list PySem.F.slot_list_append PySem.F.type_list_append cqj (pv 1) (aqa (aqy (aqa (aqg (dq6 g) (hr.mono (by decide)) rfl g.dqH g.cq7.kp g.dqD .nil pass0 (aqa (pv 3) (aqa aqe aqb))) (aqa (pv 4) aqb))) aqb))))))))
      (aqc (aql (bqC (dqI (K := K) rfl) rfl g.eqb cq8 (aqa (pv 1) aqb))))))), ?_⟩
    walk_at "rd"
    refine ⟨by decide, ite2 (fun _ => k none _ H (fun _ z => by cases z) (Same.refl _) .non) (fun h => ⟨by decide, fun p H1 hn1 s1 hp1 => ⟨⟨by decide, by decide⟩, by decide, by omega, by omega, ?_⟩⟩)⟩
    obtain ⟨m, hm, hm3⟩ : ∃ m : Nat, c / 3 % 4 = (m : Int) ∧ m ≤ 3 := ⟨(c / 3 % 4).toNat, by omega, by omega⟩
    rw [hm, Int.toNat_natCast]
    refine jqp (fun i σ H' => Same H H' ∧ ∃ (ps : List (List Nat × Option (List Nat))) (ys : List V) (v2 v3 v4 : Option V), σ = [some (.int c), some (.ref p), v2, v3, v4] ∧ ps.length = i ∧ (∀ p ∈ ps, PairOk p ∧ p.1.length ≤ 5 ∧ ∀ v, p.2 = some v → v.length ≤ 6) ∧ H' p = some (.lst ys) ∧ IsTAll H' (ps.map fun p => .tuple [st p.1, oD p.2]) ys) ⟨s1, [], [], none, none, none, rfl, rfl, by simp, hp1, .nil⟩ ?_ ?_
    · rintro i σ H' hi ⟨sm, ps, ys, v2, v3, v4, rfl, hl, hs, hp', hys⟩
      walk_at "rd"
      refine ⟨⟨by decide, by decide⟩, .inl ⟨by decide, by decide⟩, ?_⟩
      generalize c / 12 + 71 * (0 + (i : Int)) = nn
      refine ⟨fun σ H2 => H2 = H' ∧ ∃ o : Option (List Nat), σ = [some (.int c), some (.ref p), some (.int (0 + (i : Int))), some (.int nn), some (otV o)] ∧ ∀ l, o = some l → l.length ≤ 6 ∧ ∀ c ∈ l, isSg c = true, ?_, ?_⟩
      · refine ⟨⟨by decide, by decide⟩, by decide, ite2 (fun h3 => ?_) (fun _ => ⟨rfl, none, rfl, fun _ z => by cases z⟩)⟩
        refine ⟨⟨by decide, by decide⟩, nn / 9, 6, rfl, by decide, by decide, fun l h1 h2 h3' => ?_⟩
        walk_at "rd"
        refine ⟨⟨by decide, by decide⟩, by decide, aqn (by omega), ?_⟩
        have h12 : nn / 3 % 3 - 1 = ((0 : Nat) : Int) ∨ nn / 3 % 3 - 1 = ((1 : Nat) : Int) := by omega
        rcases h12 with e | e
        · rw [e, fqO]
          exact ⟨some (l.drop 0), rfl, fun l' z => by cases z; exact ⟨by rw [List.length_drop]; omega, fun c hc => h3' c (List.mem_of_mem_drop hc)⟩⟩
        · rw [e, fqO]
          exact ⟨some (l.drop 1), rfl, fun l' z => by cases z; exact ⟨by rw [List.length_drop]; omega, fun c hc => h3' c (List.mem_of_mem_drop hc)⟩⟩
      · rintro σ H2 ⟨rfl, o, rfl, ho⟩
        walk_at "rd"
        refine ⟨⟨_, .of hp'⟩, nn, 5, rfl, by decide, by decide, fun l h1 h2 h3 => ⟨by decide, fun t H3 hn3 s3 ht => ?_⟩⟩
        have hyl := hys.length
        rw [List.length_map] at hyl
        refine ⟨ys, s3 _ _ hp', aqn (by omega), gq4 hn1 (sm.trans s3), ps ++ [(l, o)], ys ++ [.ref t], _, _, _, ⟨rfl, rfl, rfl⟩, by rw [List.length_append, List.length_singleton, hl], fun e he => ?_, aqr, ?_⟩
        · rcases List.mem_append.mp he with y | y
          · exact hs e y
          · rw [List.mem_singleton.mp y]
            exact ⟨⟨⟨h1, h3⟩, fun v hv => (ho v hv).2⟩, by show l.length ≤ 5; omega, fun v hv => (ho v hv).1⟩
        · rw [List.map_append]
          have st3 : SameT H3 (upd H3 p (.lst (ys ++ [.ref t]))) := kq8 (s3 _ _ hp')
          refine ((hys.mono s3.toT).mono st3).snoc (.tup (st3 _ _ ht) (.cons (.str _) (.cons (oqv o) .nil)))
    · rintro σ H' ⟨sm, ps, ys, v2, v3, v4, rfl, hl, hs, hp', hys⟩
      walk_at "rd"
      refine ⟨_, .inl (.of hp'), fun q H2 s2 hq => k (some ps) _ H2 (fun ps' z => by cases z; exact ⟨by omega, hs⟩) (sm.trans s2) (.tup hq (hys.mono s2.toT))⟩
theorem nq2 (g : G K mg) : FnOk P w K mg base CX0 2 g.fq8 g.fqr ["_law_cell"] oqN := by
  refine g.iql.ok nqH (fun vs H Q E h => ?_) (fun cdv A outer s H vs Q E hr h => ?_)
  · obtain ⟨c, rfl, _⟩ := h; rfl
  · obtain ⟨c, rfl, k⟩ := h
    refine ⟨_, (aqd (aqE (aqk eqc (aqm aqW (pv 0) aqe) aqe (nomark _))
        (aqc (aql aqF)) aqo)
      (aqc (aql (aqP (mqX (K := K) rfl) (aqg (dq6 g) (hr.mono (by decide)) rfl g.dqH g.cq7.kp g.dqD .nil pass0 (aqa (aqm aqS (pv 0) aqe) (aqa aqe aqb))) (aqO (aqm mqI (aqm aqW (pv 0) aqe) aqe)) bql)))), ?_⟩
    walk_at "rd"
    refine ⟨by decide, ite2 (fun _ => k none (fun _ z => by cases z)) (fun h => ⟨⟨by decide, by decide⟩, c / 3, 7, rfl, by decide, by decide, fun l h1 h2 h3 => ⟨by decide, ?_⟩⟩)⟩
    walk_at "rd"
    refine ⟨aqn (by omega), ?_⟩
    have h12 : c % 3 - 1 = ((0 : Nat) : Int) ∨ c % 3 - 1 = ((1 : Nat) : Int) := by omega
    rcases h12 with e | e
    · rw [e, fqO]
      exact k (some (l.drop 0)) (fun l' z => by cases z; exact ⟨by rw [List.length_drop]; omega, fun c hc => h3 c (List.mem_of_mem_drop hc)⟩)
    · rw [e, fqO]
      exact k (some (l.drop 1)) (fun l' z => by cases z; exact ⟨by rw [List.length_drop]; omega, fun c hc => h3 c (List.mem_of_mem_drop hc)⟩)
theorem bq9 (g : G K mg) : FnOk P w K mg base CX0 2 g.dq1 g.dqd ["_law_text_here", "_law_free", "_law_bits"] gq1 := by
  refine g.bqw.ok bqD (fun vs H Q E h => ?_) (fun cdv A outer s H vs Q E hr h => ?_)
  · obtain ⟨s, fr, q, n, rfl, _⟩ := h; rfl
  · obtain ⟨s, fr, q, n, rfl, hb, hn, hl, hs, hfl, hf, k⟩ := h
    refine ⟨_, (aqd (aqj (i := 3) bqD.nd rfl (Or.inl rfl) aqp)
      (aqd (aqj (i := 4) bqD.nd rfl (Or.inl rfl) aqp)
      (aqd (iqb PassesOwn.never rfl (sqZ (pv 0)) (aq9 (i := 5) bqD.nd rfl (Or.inl rfl))
      (aqx (dqu (dqg (K := K) rfl PySem.F.plainAttrs_list PySem.F.slot_list_append PySem.F.type_list_append cqj (pv 2) (aqa (aqm aqW (aqm hqf (aqs (aqf (K := K) rfl) (pv 2) (oqc jqX aqe) (fun _ _ => rfl)) aqe) aqe) aqb)))
      (aqc (aqE (PW.pt (fqJ (aqk mqB (pv 5) (aqm (aqD (K := K) rfl) (pv 3) (pv 1)) (by with_unfolding_all rfl)) (dq9 (aqk hqX (aqm aqW (aqm aqS (aqs (aqf (K := K) rfl) (pv 2) (oqc jqX aqe) (fun _ _ => rfl)) aqe) aqe) aqe (nomark _)))))
        (aqc (aqj (i := 4) bqD.nd rfl (Or.inl rfl) (aqm (aqD (K := K) rfl) (pv 4) (pv 5)))) (aqc (aqj (i := 4) bqD.nd rfl (Or.inl rfl) (aqm (aqD (K := K) rfl) (pv 4) (aqg (lqs g) (hr.mono (by decide)) rfl g.hq9 g.fqG.kp g.iqd .nil pass0 (aqa (pv 5) (aqa (aq4 eqc (aqm aqW (aqm aqS (aqs (aqf (K := K) rfl) (pv 2) (oqc jqX aqe) (fun _ _ => rfl)) aqe) aqe) aqe (nomark _)) aqb))))))))))
      (aqc (aql (pv 4)))))), ?_⟩
    have eP : Str.ofString "-_.0123456789abcdefghijklmnopqrstuvwxyzABCDEFGHIJKLMNOPQRSTUVWXYZ" = ⟨plL.toArray⟩ := by
      unfold plL; simp
    rw [eP]
    walk_at "rd"
    refine uqv (z := ⟨s.toArray⟩) (fun i σ H' => ∃ (w : List Nat) (v5 : Option V), σ = [some (.str ⟨s.toArray⟩), some (.str ⟨fr.toArray⟩), some (.ref q), some (.str ⟨plL.toArray⟩), some (.str ⟨w.toArray⟩), v5] ∧ WrT fr (s.take i) w ∧ w.length ≤ 3 * i ∧ SameBut q H H' ∧ Bt H' q (n + i)) ⟨[], none, rfl, .nil, Nat.zero_le _, SameBut.refl _ _, hb⟩ ?_ ?_
    · rintro i c σ H1 hci ⟨w, v5, rfl, hw, hwl, s1, b1⟩
      have hci : s[i]? = some c := hci
      have hi : i < s.length := (List.getElem?_eq_some_iff.mp hci).1
      have hc := hs c (List.mem_of_getElem? hci)
      have hc' := cq2 hc
      obtain ⟨bs, hq1, hne, hbb, hbl⟩ := b1
      obtain ⟨b, hlast⟩ : ∃ b, bs.getLast? = some b := by
        cases hl' : bs.getLast? with
        | none => exact absurd (List.getLast?_eq_none_iff.mp hl') hne
        | some b => exact ⟨b, rfl⟩
      have hbr := hbb b (List.mem_of_getLast? hlast)
      walk_at "rd"
      refine ⟨fun σ H2 => SameBut q H H2 ∧ ∃ (b2 : Int) (bs2 : List Int), H2 q = some (.lst ((bs2 ++ [b2]).map V.int)) ∧ (∀ b ∈ bs2 ++ [b2], 0 ≤ b ∧ b ≤ 2147483647) ∧ (bs2 ++ [b2]).length ≤ n + (i + 1) ∧ σ = [some (.str ⟨s.toArray⟩), some (.str ⟨fr.toArray⟩), some (.ref q), some (.str ⟨plL.toArray⟩), some (.str ⟨w.toArray⟩), some (.str ⟨#[c]⟩)], ?_, ?_⟩
      · refine ⟨⟨_, .of hq1⟩, _, _, .inl (.of hq1), hqR V.int hlast, ?_⟩
        walk_at "rd"
        refine ⟨.inl ⟨by omega, by omega⟩, by decide, _, hq1, ?_, ?_, b * 48271 % 2147483647, bs, ?_, ?_, ?_⟩
        · rw [List.length_map]
          exact Nat.lt_of_le_of_lt (show bs.length ≤ 100000 by omega) (by decide)
        · exact fun b' o n' e => by rw [aqI n']; exact s1 b' o n' e
        · rw [aqr, List.map_append]; rfl
        · intro b' hb'
          rcases List.mem_append.mp hb' with hb' | hb'
          · exact hbb b' hb'
          · rw [List.mem_singleton.mp hb']; omega
        · rw [List.length_append, List.length_singleton]; omega
      rintro σ H2 ⟨s2, b2, bs2, hq2, hb2, hl2, rfl⟩
      have hlast2 : (bs2 ++ [b2]).getLast? = some b2 := by simp
      have hbr2 := hb2 b2 (by simp)
      have bt2 : Bt H2 q (n + (i + 1)) := ⟨bs2 ++ [b2], hq2, by simp, hb2, hl2⟩
      have et : s.take (i + 1) = s.take i ++ [c] := by rw [List.take_add_one, hci]; rfl
      walk_at "rd"
      have hpr : ∀ He, He = H2 → ∃ xs v, (SqL K He q xs ∨ SqT K He q xs) ∧ atI xs (-1) = some v ∧ rI CDiv (fun i j => V.int (i / j)) v (V.int 64) He fun x H1 => rI (fun x j => 0 < j) (fun i j => V.int (i % j)) x (V.int 2) H1 fun x H1 => rEq x (V.int 1) H1 fun x H1 => gqR [V.str { cps := #[c] }, x] H1 (fun y H2 => rAddU K (V.str { cps := w.toArray }) y H2 fun x H1 => ∃ (w : List Nat) (v5 : Option V), (x = V.str { cps := w.toArray } ∧ some (V.str { cps := #[c] }) = v5) ∧ WrT fr (List.take (i + 1) s) w ∧ w.length ≤ 3 * (i + 1) ∧ SameBut q H H1 ∧ Bt H1 q (n + (i + 1))) E0 := by
        rintro He rfl
        refine ⟨_, _, .inl (.of hq2), hqR V.int hlast2, ?_⟩
        walk_at "rd"
        refine ⟨⟨by decide, by decide⟩, by decide, c, _, rfl, hc, fun a b hab => ?_⟩
        rw [show (⟨[126, a, b].toArray⟩ : Str) = ⟨[126, a, b].toArray⟩ from rfl]
        walk_at "rd"
        refine ⟨aqn (by show w.length + 3 ≤ 100000; omega), w ++ [126, a, b], _, ⟨rfl, rfl⟩, ?_, by rw [List.length_append]; show w.length + 3 ≤ _; omega, s2, bt2⟩
        rw [et]
        exact sqe hw (.pair hab .nil)
      refine ⟨aqn (by rw [vqK]; omega), ite2 (fun hin => ?_) (fun _ => hpr H2 rfl)⟩
      refine ⟨_, _, .inl (.of hq2), hqR V.int hlast2, ?_⟩
      walk_at "rd"
      refine ⟨⟨by decide, by decide⟩, by decide, ite2 (fun _ => ?_) (fun _ => hpr H2 rfl)⟩
      refine ⟨aqn (by omega), w ++ [c], _, ⟨rfl, rfl⟩, ?_, by rw [List.length_append, List.length_singleton]; omega, s2, bt2⟩
      rw [et]
      have hpl : isPl c = true ∨ c ∈ fr := by
        rcases List.mem_append.mp hin with z | z
        · exact .inl ((xqz c (by omega)).mp z)
        · exact .inr z
      refine sqe hw (.self hpl ?_ .nil)
      intro z
      subst z
      rcases hpl with z | z
      · cases z
      · exact hf z
    · rintro σ H1 ⟨w, v5, rfl, hw, hwl, s1, b1⟩
      walk_at "rd"
      have e : (⟨s.toArray⟩ : Str).length = s.length := rfl
      rw [e] at hw hwl b1
      rw [List.take_of_length_le (Nat.le_refl _)] at hw
      exact k w H1 hw hwl s1 b1
theorem oq6 (g : G K mg) : FnOk P w K mg base CX0 3 g.gqj g.fql ["thing"] oqS := by
  refine g.iqn.ok pqe (fun vs H Q E h => ?_) (fun cdv A outer s H vs Q E hr h => ?_)
  · obtain ⟨d, v, rfl, _⟩ := h; rfl
  · obtain ⟨d, v, rfl, hv, hs, k⟩ := h
    refine ⟨_, (aqd (aqE (PW.pt (fqD (aq2 (aqB (aqg (rqk g) (hr.mono (by decide)) rfl g.oqF g.kq1.kp g.oqE .nil pass0 (aqa (pv 0) aqb)))) (eqg (aqk kql (aqv (aqQ (K := K) rfl) rfl g.fqT PySem.boot_len (aqa (pv 0) aqb)) (aqh (v := kqo) rfl g.gqL ⟨_, rfl⟩) (nomark _)))))
        (aqc (aql dqe)) aqo)
      (aqc (aql (iq8 (aqg (jqr g) (hr.mono (by decide)) rfl g.iqy g.hqt.kp g.iqO .nil pass0 (aqa (aqP (mqX (K := K) rfl) (pv 0) bql (aqO aqe)) (aqa (aqh (v := sqm) rfl g.oq5 ⟨_, rfl⟩) aqb))) (fqb (aqg (jqr g) (hr.mono (by decide)) rfl g.iqy g.hqt.kp g.iqO .nil pass0 (aqa (pv 0) (aqa (aqh (v := gqQ) rfl g.dq7 ⟨_, rfl⟩) aqb)))))))), ?_⟩
    walk_at "rd"
    refine ⟨d, v, rfl, hv, hs, fun H1 s1 => ?_⟩
    walk_at "rd"
    have k1 := k H1 s1
    cases hv with
    | str x =>
      have hx := oqm hs
      refine ite2 (fun h => ?_) (fun h => ?_)
      · rw [show schD (.str x) = false by simp only [schD]; rw [show x.cps.toList.all isSg = false from h]; rfl] at k1
        exact k1
      have h : x.cps.toList.all isSg = true := (Bool.not_eq_false _).mp h
      walk_at "rd"
      refine ⟨aqn hx, ite2 (fun h2 => ?_) (fun h2 => ?_)⟩
      · rw [show schD (.str x) = false by simp only [schD, h, Bool.true_and]; rw [decide_eq_false (by omega)]; rfl] at k1
        exact k1
      have e : x = ⟨x.cps.toList.toArray⟩ := by simp
      refine ⟨aqn hx, ?_⟩
      have e1 : Txt.slice x none (some 1) = ⟨(x.cps.toList.take 1).toArray⟩ := by
        conv => lhs; rw [e]
        exact uqe x.cps.toList 1
      rw [e1]
      refine ⟨⟨(x.cps.toList.take 1).toArray⟩, _, rfl, by rw [dqy, List.length_take]; omega, fun H2 s2 => ?_⟩
      have hsg := List.all_eq_true.mp h
      have f1 : ((⟨(x.cps.toList.take 1).toArray⟩ : Str).cps.toList.all fun c => decide (c ∈ (Str.ofString "abcdefghijklmnopqrstuvwxyzABCDEFGHIJKLMNOPQRSTUVWXYZ").cps.toList)) = (x.cps.toList.take 1).all isLet := by
        rw [rqN, Bool.eq_iff_iff, List.all_eq_true, List.all_eq_true]
        refine forall_congr' fun c => forall_congr' fun hc => ?_
        rw [xqm c (by have := cq2 (hsg c (List.mem_of_mem_take hc)); omega)]
      have f2 : (x.cps.toList.all fun c => decide (c ∈ (Str.ofString "abcdefghijklmnopqrstuvwxyzABCDEFGHIJKLMNOPQRSTUVWXYZ0123456789").cps.toList)) = x.cps.toList.all isAln := by
        rw [Bool.eq_iff_iff, List.all_eq_true, List.all_eq_true]
        refine forall_congr' fun c => forall_congr' fun hc => ?_
        rw [wqW c (by have := cq2 (hsg c hc); omega)]
      rw [f1]
      walk_at "rd"
      refine ite2 (fun h3 => ?_) (fun h3 => ?_)
      · refine ⟨x, _, rfl, hx, fun H3 s3 => ?_⟩
        have k3 := k H3 (s1.trans (s2.trans s3))
        rw [f2]
        simp only [schD, h, h3, Bool.true_and, decide_eq_true (show x.length ≤ 8 by omega)] at k3
        exact k3
      · have k3 := k H2 (s1.trans s2)
        simp only [schD, h, (Bool.not_eq_true _).mp h3, Bool.false_and, Bool.and_false, Bool.true_and] at k3
        exact k3
    | _ => exact k1
theorem sq2 (g : G K mg) : FnOk P w K mg base CX0 3 g.qqp g.nqd ["way"] (wqn K) := by
  refine g.qqD.ok pqU (fun vs H Q E h => ?_) (fun cdv A outer s H vs Q E hr h => ?_)
  · obtain ⟨w, v, rfl, _⟩ := h; rfl
  · obtain ⟨⟨rt, ss, en⟩, v, rfl, hI, hn, k⟩ := h
    refine ⟨_, (aqd (aqj (i := 1) pqU.nd rfl (Or.inl rfl) (aqs (aqf (K := K) rfl) (pv 0) (aqh (v := jqH) rfl g.iqk ⟨_, rfl⟩) (fun _ _ => rfl)))
      (aqd (aqE (aqk eqc (aqv (aqQ (K := K) rfl) rfl g.fqT PySem.boot_len (aqa (pv 1) aqb)) aqe (nomark _))
        (aqc (aql (pv 0))) aqo)
      (aqd (aqj (i := 2) pqU.nd rfl (Or.inl rfl) (aqg (nqB g) (hr.mono (by decide)) rfl g.jqV g.hqr.kp g.jqQ .nil pass0 (aqa (pv 1) (aqa (aqs (aqf (K := K) rfl) (pv 0) (aqh (v := iqA) rfl g.hqI ⟨_, rfl⟩) (fun _ _ => rfl)) aqb))))
      (aqd (aqE (aqk kql (aqv (aqQ (K := K) rfl) rfl g.fqT PySem.boot_len (aqa (pv 2) aqb)) aqe (nomark _))
        (aqc (aql (aqy (aqa (aqs (aqf (K := K) rfl) (pv 0) (aqh (v := iqA) rfl g.hqI ⟨_, rfl⟩) (fun _ _ => rfl)) (aqa (pv 2) (aqa (nq9 (aqs (aqf (K := K) rfl) (pv 0) (aqh (v := mqu) rfl g.lqJ ⟨_, rfl⟩) (fun _ _ => rfl)) (fqb (aqg (sqh g) (hr.mono (by decide)) rfl g.pq7 g.mqP.kp g.qqh .nil pass0 (aqa (aqs (aqf (K := K) rfl) (pv 1) (oqc jqX aqe) (fun _ _ => rfl)) aqb)))) aqb)))))) aqo)
      (aqc (aql (aq0 (aqB (aqs (aqf (K := K) rfl) (pv 0) (aqh (v := iqA) rfl g.hqI ⟨_, rfl⟩) (fun _ _ => rfl))) (aqy (aqa dqe (aqa (aqy aqb) (aqa dqe aqb)))) (aqy (aqa dqe (aqa (aqy (aqa (aqh (v := oqP) rfl g.nq0 ⟨_, rfl⟩) aqb)) (aqa dqe aqb))))))))))), ?_⟩
    obtain ⟨pw, ps, rfl, hw, hps⟩ := jqJ (r := rt) (e := en) (ss := ss) hI
    dsimp only at hn
    walk_at "rd"
    refine ⟨_, _, .inr hw, rfl, ?_⟩
    walk_at "rd"
    refine ⟨_, .inr hps, ?_⟩
    rw [List.length_map]
    by_cases h0 : ss = []
    · subst h0
      refine ite2 (fun _ => k _ H (Same.refl _) ?_) (fun z => absurd rfl z)
      rw [show goneV (rt, [], en) = (rt, [], en) by simp [goneV, goneW]]
      exact hI
    have hp0 : 0 < ss.length := List.length_pos_iff.mpr h0
    refine ite2 (fun z => absurd z (by omega)) (fun _ => ?_)
    refine ⟨_, _, .inr hw, rfl, ?_⟩
    refine ⟨ps, ss, rt, rfl, hps, hn, fun p H1 s1 hp1 => ?_⟩
    have hw1 := s1.tup hw
    refine ⟨_, .inr (.of hp1), ?_⟩
    rw [List.length_map]
    walk_at "rd"
    by_cases h1 : goneS rt ss = []
    · refine ite2 (fun z => by rw [h1] at z; simp at z) (fun _ => ?_)
      refine ⟨_, _, .inr hw1, rfl, rt, rfl, ?_⟩
      cases rt with
      | true =>
        rw [if_pos rfl]
        refine ⟨by decide, fun p7 H7 hn7 s7 hp7 => ⟨by decide, fun p8 H8 hn8 s8 hp8 => k _ H8 ((s1.trans s7).trans s8) ?_⟩⟩
        rw [show goneV (true, ss, en) = (true, [], true) by simp [goneV, goneW, h0, h1]]
        exact wayK (.of hp8) (.of (s8 _ _ hp7))
      | false =>
        rw [if_neg (by decide)]
        refine ⟨by decide, fun p7 H7 hn7 s7 hp7 => ⟨by decide, fun p8 H8 hn8 s8 hp8 => k _ H8 ((s1.trans s7).trans s8) ?_⟩⟩
        rw [show goneV (false, ss, en) = (false, [sStay], true) by simp [goneV, goneW, h0, h1]]
        rw [kst] at hp7
        exact wayK (.of hp8) (.of (s8 _ _ hp7))
    · have hq0 : 0 < (goneS rt ss).length := List.length_pos_iff.mpr h1
      have hW : goneV (rt, ss, en) = (rt, goneS rt ss, en || lastDot ss) := by simp [goneV, goneW, h0, h1]
      refine ite2 (fun _ => ?_) (fun z => absurd (show (0 : Int) < ((goneS rt ss).length : Int) by omega) z)
      refine ⟨_, _, .inr hw1, rfl, _, _, .inr hw1, rfl, en, rfl, ?_⟩
      refine ite2 (fun he => ⟨by decide, fun p8 H8 hn8 s8 hp8 => k _ H8 (s1.trans s8) ?_⟩) (fun he => ?_)
      · rw [hW, he, Bool.true_or]
        exact wayK (.of hp8) (.of (s8 _ _ hp1))
      · have he : en = false := by simpa using he
        obtain ⟨s, hls⟩ : ∃ s, ss.getLast? = some s := by
          cases hl : ss.getLast? with
          | none => exact absurd (List.getLast?_eq_none_iff.mp hl) h0
          | some s => exact ⟨s, rfl⟩
        have hld : lastDot ss = isDot s := by unfold lastDot; rw [hls]
        refine ⟨_, _, .inr (s1.tup hps), hqR _ hls, s, rfl, by decide, fun p8 H8 hn8 s8 hp8 => k _ H8 (s1.trans s8) ?_⟩
        rw [hW, he, Bool.false_or, hld]
        exact wayK (.of hp8) (.of (s8 _ _ hp1))
theorem nqb (g : G K mg) : FnOk P w K mg base CX0 3 g.fqo g.eqx ["cursor"] (mq8 K g.aqu) := by
  refine g.hql.ok gqo (fun vs H Q E h => ?_) (fun cdv A outer s H vs Q E hr h => ?_)
  · obtain ⟨p, t, w, r, i, o, rfl, _⟩ := h; rfl
  · obtain ⟨p, t, w', r, i, o, rfl, hcur, hi, hl, h128, hd, hw, hst, hh, k⟩ := h
    refine ⟨_, (aqd (aqE (aq2 (aqB (dqo (pv 0) g.aqq g.aqG (aqM g) (hr.mono (by decide)) g.aqK .nil pass0 (aqa aqp aqb))))
        (aqc (aql aqF)) aqo)
      (aqd (aqE (aq2 (aqB (dqo (pv 0) g.aqq g.cqD (dq0 g) (hr.mono (by decide)) g.dqc .nil pass0 (aqa (aqh (v := kqY) rfl g.kqU ⟨_, rfl⟩) aqb))))
        (aqc fqc) aqo)
      (aqd (aqj (i := 1) gqo.nd rfl (Or.inl rfl) (bqC oqs rfl g.pqz mqw (aqa (gqp (pv 0) g.aqq g.bqX (cqC g) (hr.mono (by decide)) g.cqx .nil pass0) aqb)))
      (aqd (iqN PassesOwn.never (PW.pt (fqJ (aqk kql (pv 1) aqe (nomark _)) (fqJ (aqB (dqo (pv 0) g.aqq g.cqD (dq0 g) (hr.mono (by decide)) g.dqc .nil pass0 (aqa (aqh (v := kqY) rfl g.kqU ⟨_, rfl⟩) aqb))) (dq9 (aqk yqA (aqg (jqS g) (hr.mono (by decide)) rfl g.iqm g.gqg.kp g.iqx .nil pass0 (aqa (pv 1) (aqa (pv 0) aqb))) (aqh (v := pql) rfl g.lqi ⟨_, rfl⟩) (nomark _))))))
      (aqd (aqj (i := 1) gqo.nd rfl (Or.inl rfl) (aqg (jqS g) (hr.mono (by decide)) rfl g.iqm g.gqg.kp g.iqx .nil pass0 (aqa (pv 1) (aqa (pv 0) aqb))))
      (aqc (dqu (gqp (pv 0) g.aqq g.bqX (cqC g) (hr.mono (by decide)) g.cqx .nil pass0)))))
      (aqc (aql (pv 1))))))), ?_⟩
    have eF : kqY = .str ⟨fgS.toArray⟩ := by
      show V.str (Str.ofString _) = _
      unfold fgS; simp
    have e1 : Str.ofString ":" = ⟨[58].toArray⟩ := by decide +kernel
    rw [eF, e1]
    walk_at "rd"
    cases o with
    | none =>
      have hw : w' = [] := hw
      subst hw
      refine aqw hcur (gqz hcur hi hl hd (hh rfl) ⟨_, rfl, ?_⟩)
      rw [if_pos rfl]
      exact k H (SameBut.refl _ _) hcur
    | some n =>
      obtain ⟨ds, rfl, hne, hfg, rfl, h65, hz⟩ := hw
      refine aqw hcur (dqb (w := [58]) (r := ds ++ r) hcur hi hl hd fun H1 s1 c1 hi1 hd1 => ⟨_, rfl, ?_⟩)
      rw [if_neg (by decide)]
      cases ds with
      | nil => exact absurd rfl hne
      | cons d0 ds0 =>
      have hd0 := hfg d0 (List.mem_cons_self ..)
      obtain ⟨hx, hxl⟩ := jqw hd1
      refine aqw c1 ⟨p, t, fgS, _, rfl, c1, hi1, hl, _, rfl, ?_⟩
      rw [bqE hx, decide_eq_true (sqa.mpr hd0), if_neg (by decide)]
      refine aqw c1 ⟨p, t, _, d0, rfl, c1, hx, hl, fun H2 s2 c2 => ⟨_, _, rfl, by show 1 ≤ 640; decide, sqQ d0 (by omega) hd0.1, ?_⟩⟩
      have h12 := s1.trans s2
      have ev0 : valD [d0] = d0 - 48 := by unfold valD; simp
      rw [← ev0]
      refine lqR (fun m σ H' => ∃ (dn es : List Nat), m = es.length ∧ σ = [some (.ref p), some (.int (valD dn : Nat))] ∧ dn ≠ [] ∧ d0 :: ds0 = dn ++ es ∧ SameBut p H H' ∧ Cur H' g.aqu p t (i + 1 + dn.length)) ds0.length ⟨[d0], ds0, rfl, rfl, by simp, rfl, h12, c2⟩ ?_
      rintro m σ H3 ⟨dn, es, rfl, rfl, hdn, eds, s3, c3⟩
      have hd3 : t.drop (i + 1 + dn.length) = es ++ r := by
        rw [← List.drop_drop, show i + 1 = i + [58].length from rfl, hd1, eds, List.append_assoc, List.drop_left]
      have hi3 : i + 1 + dn.length ≤ t.length := by
        have := congrArg List.length hd1
        rw [List.length_drop, eds, List.length_append, List.length_append] at this
        simp only [List.length_singleton] at this hi1
        omega
      have hvl : valD dn ≤ 65535 := by
        have := nqa es dn
        rw [← eds] at this
        omega
      have hfin : es = [] → Q (.int (valD dn : Nat)) H3 := fun e => by
        subst e
        rw [List.append_nil] at eds
        rw [eds] at k
        refine k H3 s3 ?_
        rw [show i + (58 :: dn).length = i + 1 + dn.length by simp only [List.length_cons]; omega]
        exact c3
      walk_at "rd"
      have hfin2 : valD dn = 0 → es = [] := fun e => by
        rcases hz with z | z
        · rw [z] at eds
          have := congrArg List.length eds
          have h1 : 0 < dn.length := List.length_pos_iff.mpr hdn
          rw [List.length_append] at this
          simp only [List.length_singleton] at this
          exact List.length_eq_zero_iff.mp (by omega)
        · cases dn with
          | nil => exact absurd rfl hdn
          | cons a b =>
            have e0 : d0 = a := by injection eds
            subst e0
            have h9 : d0 ≠ 48 := fun z' => z (by rw [z']; rfl)
            have := uqp (ds := d0 :: b) rfl (by omega)
            omega
      by_cases h0 : valD dn = 0
      · rw [if_neg (by omega)]
        exact hfin (hfin2 h0)
      rw [if_pos (by omega)]
      refine aqw c3 ⟨p, t, fgS, _, rfl, c3, hi3, hl, _, rfl, ?_⟩
      cases es with
      | nil =>
        have hb : seesB t fgS (i + 1 + dn.length) = false := by
          cases hc : t[i + 1 + dn.length]? with
          | none => exact hqK hc
          | some c =>
            rw [bqE hc]
            refine decide_eq_false fun hin => hst c ?_ (sqa.mp hin)
            rw [← hc, ← List.head?_drop, hd3]
            rfl
        rw [hb, if_neg (by decide)]
        exact hfin rfl
      | cons c es1 =>
        have hc := hfg c (by rw [eds]; simp)
        obtain ⟨hx3, hxl3⟩ := jqw hd3
        have hle : valD dn * 10 + (c - 48) ≤ 65535 := by
          have := nqa es1 (dn ++ [c])
          rw [iqW, List.append_assoc, show [c] ++ es1 = c :: es1 from rfl, ← eds] at this
          omega
        rw [bqE hx3, decide_eq_true (sqa.mpr hc), if_pos rfl]
        refine ⟨p, t, _, c, valD dn, rfl, c3, hl, hx3, hc.1, hc.2, by omega, _, _, rfl, rfl, _, rfl, ?_⟩
        rw [decide_eq_true (by omega), if_pos rfl]
        refine ⟨_, fun _ _ h => h, p, t, _, c, valD dn, rfl, c3, hl, hx3, hc.1, hc.2, by omega, aqw c3 ⟨p, t, _, c, rfl, c3, hx3, hl, fun H4 s4 c4 => ⟨es1.length, Nat.lt_succ_self _, dn ++ [c], es1, rfl, by rw [iqW], by simp, by rw [eds, List.append_assoc]; rfl, s3.trans s4, ?_⟩⟩⟩
        rw [List.length_append]
        exact c4
theorem mqU (g : G K mg) : FnOk P w K mg base CX0 3 g.fqA g.eqo ["cursor"] (mq4 K g.aqu) := by
  refine g.gq8.ok gqn (fun vs H Q E h => ?_) (fun cdv A outer s H vs Q E hr h => ?_)
  · obtain ⟨p, t, r, i, a, b, c, rfl, _⟩ := h; rfl
  · obtain ⟨p, t, r, i, a, b, c, rfl, hcur, hd, hs, hl, k⟩ := h
    refine ⟨_, (aqd (aqE (aq2 (aqB (dqo (pv 0) g.aqq g.cqD (dq0 g) (hr.mono (by decide)) g.dqc .nil pass0 (aqa (aqh (v := gqU) rfl g.hqi ⟨_, rfl⟩) aqb))))
        (aqc fqc) aqo)
      (aqd (aqj (i := 1) gqn.nd rfl (Or.inl rfl) (aqm (aqD (K := K) rfl) (gqp (pv 0) g.aqq g.bqX (cqC g) (hr.mono (by decide)) g.cqx .nil pass0) (aqP (mqX (K := K) rfl) (eqh (pv 0) rfl) (aqO (eqh (pv 0) rfl)) (aqO (aqm (aqD (K := K) rfl) (eqh (pv 0) rfl) aqe)))))
      (aqd (aqj (i := 2) gqn.nd rfl (Or.inl rfl) (aqg (qq9 g) (hr.mono (by decide)) rfl g.oqB g.lqo.kp g.pqa .nil pass0 (aqa (pv 1) aqb)))
      (aqd (aqE (aqk cq5 (pv 2) aqF (nomark _))
        (aqc fqc) aqo)
      (aqd (dqu (gqp (pv 0) g.aqq g.bqX (cqC g) (hr.mono (by decide)) g.cqx .nil pass0))
      (aqc (aql (pv 2)))))))), ?_⟩
    obtain ⟨hf, ha, hb, hcs⟩ := oqr hs
    have hlen : i + 2 ≤ t.length := by have := congrArg List.length hd; rw [List.length_drop] at this; simp only [List.length_cons] at this; omega
    have hia : t[i]? = some a := by rw [← List.head?_drop, hd]; rfl
    have hib : t[i + 1]? = some b := by rw [← List.head?_drop, ← List.drop_drop, hd]; rfl
    have eF : gqU = .str ⟨[50, 51, 52, 53, 54, 55].toArray⟩ := by
      show V.str (Str.ofString "234567") = _
      rw [show Str.ofString "234567" = ⟨[50, 51, 52, 53, 54, 55].toArray⟩ by decide +kernel]
    have hf : a ∈ [50, 51, 52, 53, 54, 55] := by
      rw [show (Str.ofString "234567").cps.toList = [50, 51, 52, 53, 54, 55] by decide +kernel] at hf
      exact hf
    walk_at "rd"
    rw [eF]
    refine aqw hcur ⟨p, t, _, i, rfl, hcur, by omega, hl, _, rfl, ?_⟩
    rw [bqE hia, decide_eq_true hf, if_neg (by decide)]
    refine aqw hcur ⟨p, t, i, a, rfl, hcur, hia, hl, fun H1 s1 c1 => ?_⟩
    refine gqi c1 g.aqq g.aq8 (dqp c1 g.aqq g.aqH ⟨_, rfl, dqp c1 g.aqq g.aqH ?_⟩)
    walk_at "rd"
    rw [show ((i + 1 : Nat) : Int) + 1 = ((i + 2 : Nat) : Int) by omega, sqd, show i + 2 - (i + 1) = 1 by omega, ← List.drop_drop, hd, show List.take 1 (List.drop 1 (a :: b :: r)) = [b] from rfl]
    walk_at "rd"
    refine ⟨aqn hl, by decide, by decide, fun d hd' => ?_, ?_⟩
    · simp only [List.mem_cons, List.not_mem_nil, or_false] at hd'
      rcases hd' with rfl | rfl
      · exact ha
      · exact hb
    rw [show signOfL [a, b] = signOf a b from rfl, sqT, hs, if_neg (by intro z; cases z)]
    exact aqw c1 ⟨p, t, i + 1, b, rfl, c1, hib, hl, fun H2 s2 c2 => k H2 (s1.trans s2) c2⟩
theorem lqY (g : G K mg) : FnOk P w K mg base CX0 3 g.eqy g.dqX ["house", "door"] lq3 := by
  refine g.fq6.ok iqa (fun vs H Q E h => ?_) (fun cdv A outer s H vs Q E hr h => ?_)
  · obtain ⟨o, d, rfl, _⟩ := h; rfl
  · obtain ⟨o, d, rfl, ho, hd, k⟩ := h
    refine ⟨_, (aqd (aqE (aqk cq5 (pv 0) aqF (nomark _))
        (aqc (aql aqp)) aqo)
      (aqx (aqj (i := 2) iqa.nd rfl (Or.inl rfl) (aq0 (aqk cq5 (pv 1) aqF (nomark _)) aqp (aqm (aqD (K := K) rfl) aqp (bqC jqR rfl g.lqF hqZ (aqa (pv 1) aqb)))))
      (aqc (aql (aqm (aqD (K := K) rfl) (aqm (aqD (K := K) rfl) aqp (aqg (eqF g) (hr.mono (by decide)) rfl g.eqQ g.dq5.kp g.eqM .nil pass0 (aqa (pv 0) aqb))) (pv 2)))))), ?_⟩
    have c1 : Str.ofString ":" = ⟨[58].toArray⟩ := by decide +kernel
    have c2 : Str.ofString "//" = ⟨[47, 47].toArray⟩ := by decide +kernel
    rw [c1, c2]
    walk_at "rd"
    cases o with
    | none =>
      cases d with
      | some i => exact absurd rfl (hd i rfl).2
      | none =>
        refine ite2 (fun _ => ?_) (fun z => absurd rfl z)
        exact k H (Same.refl _)
    | some l =>
      refine ite2 (fun z => absurd z (by simp [otV])) (fun _ => ?_)
      have hl := ho l rfl
      have w := gq9 l
      refine ⟨fun σ H' => H' = H ∧ σ = [some (otV (some l)), some (itV d), some (.str ⟨(dooT d).toArray⟩)] ∧ (dooT d).length ≤ 6, ?_, ?_⟩
      · cases d with
        | none => exact ite2 (fun _ => ⟨rfl, rfl, by decide⟩) (fun z => absurd rfl z)
        | some i =>
          have hi := (hd i rfl).1
          have hdl := oql hi.1 hi.2
          refine ite2 (fun z => absurd z (by simp [itV])) (fun _ => ?_)
          refine ⟨i, rfl, lg hi.1 hi.2, aqn (by rw [pq8, dqy]; omega), rfl, ?_, ?_⟩
          · rw [pq8, show (⟨#[58]⟩ : Str) = ⟨[58].toArray⟩ from rfl, oqz]
            simp [dooT]
          · simp only [dooT, List.length_cons]; omega
      · rintro σ H' ⟨rfl, rfl, hdl⟩
        walk_at "rd"
        show fqM [.str ⟨l.toArray⟩] H' _ _
        walk_at "rd"
        refine ⟨by omega, hl.2, fun H'' s'' => ?_⟩
        refine ⟨aqn (by omega), aqn (by omega), ?_⟩
        have := k H'' s''
        simpa [houT] using this
theorem oqu (g : G K mg) : FnOk P w K mg base CX0 3 g.fq4 g.fqs ["way"] (oqq K) := by
  refine g.iqp.ok oqd (fun vs H Q E h => ?_) (fun cdv A outer s H vs Q E hr h => ?_)
  · obtain ⟨r, e, ss, p, q, rfl, _⟩ := h; rfl
  · obtain ⟨r, e, ss, p, q, rfl, hp, hq, hs, hn, hl, k⟩ := h
    refine ⟨_, (aqc (aql (aqg (qq0 g) (hr.mono (by decide)) rfl g.oqj g.lqB.kp g.nq6 .nil pass0 (aqa (aqs (aqf (K := K) rfl) (pv 0) (aqh (v := iqA) rfl g.hqI ⟨_, rfl⟩) (fun _ _ => rfl)) (aqa (jqm (fx := []) (fr := []) rfl rfl (by decide +kernel) rfl (by decide +kernel) rfl (by decide +kernel) rfl .nil rfl (iqh (K := K) rfl (aqs (aqf (K := K) rfl) (pv 0) (aqh (v := jqH) rfl g.iqk ⟨_, rfl⟩) (fun _ _ => rfl))) (fun _ _ _ => mqA) (fun _ _ _ => (aqg (eqF g) (hr.mono (by decide)) rfl g.eqQ g.dq5.kp g.eqM .nil pass0 (aqa (pv 0) aqb)))) (aqa (aqs (aqf (K := K) rfl) (pv 0) (aqh (v := mqu) rfl g.lqJ ⟨_, rfl⟩) (fun _ _ => rfl)) aqb)))))), ?_⟩
    walk_at "rd"
    refine ⟨_, _, .inr hp, rfl, ?_⟩
    refine ⟨_, _, .inr hp, rfl, q, rfl, ⟨_, hq⟩, fun p1 hn1 => ?_⟩
    refine sqJ (zs := (ss.map wr).map fun l => V.str ⟨l.toArray⟩) hq (by rw [List.length_map]; exact aqn (by omega)) hn1 (by simp) (fun i x z hx hz H' T sm hT => ?_) (fun H' sm hp' => ?_)
    · rw [List.getElem?_map] at hx hz
      rw [List.getElem?_map] at hz
      obtain ⟨s, hs', rfl⟩ := Option.map_eq_some_iff.mp hx
      rw [hs'] at hz
      simp only [Option.map_some, Option.some.injEq] at hz
      subst hz
      have hss := hs s (List.mem_of_getElem? hs')
      walk_at "rd"
      exact ⟨hss.1, hss.2, hT⟩
    · refine ⟨_, _, .inr (sm.tup hp), rfl, ?_⟩
      have hw : (joinT 47 (ss.map wr)).length ≤ 90000 := by
        have := hl
        unfold wayT at this
        simp only [List.length_append] at this
        omega
      refine ⟨r, e, p1, ss.map wr, rfl, .of hp', hw, ?_⟩
      rw [← wqE]
      exact k H' sm
theorem lqW (g : G K mg) : FnOk P w K mg base CX0 3 g.eql g.dqZ ["name", "value"] lq2 := by
  refine g.gqs.ok lq6 (fun vs H Q E h => ?_) (fun cdv A outer s H vs Q E hr h => ?_)
  · obtain ⟨n, o, rfl, _⟩ := h; rfl
  · obtain ⟨n, o, rfl, hk, hn, ho, k⟩ := h
    refine ⟨_, (aqc (aql (aq0 (aqk cq5 (pv 1) aqF (nomark _)) (aqg (eqF g) (hr.mono (by decide)) rfl g.eqQ g.dq5.kp g.eqM .nil pass0 (aqa (pv 0) aqb)) (aqm (aqD (K := K) rfl) (aqm (aqD (K := K) rfl) (aqg (eqF g) (hr.mono (by decide)) rfl g.eqQ g.dq5.kp g.eqM .nil pass0 (aqa (pv 0) aqb)) aqp) (aqg (eqF g) (hr.mono (by decide)) rfl g.eqQ g.dq5.kp g.eqM .nil pass0 (aqa (pv 1) aqb)))))), ?_⟩
    have c1 : Str.ofString "=" = ⟨[61].toArray⟩ := by decide +kernel
    rw [c1]
    have w1 := gq9 n
    walk_at "rd"
    cases o with
    | none =>
      refine ite2 (fun _ => ?_) (fun z => absurd rfl z)
      refine ⟨hn, hk.1.2, fun H' s' => ?_⟩
      rw [show pairT (n, none) = wr n by simp [pairT, oT]] at k
      exact k H' s'
    | some l =>
      refine ite2 (fun z => absurd z (by simp [otV])) (fun _ => ?_)
      have hll := ho l rfl
      have w2 := gq9 l
      rw [show pairT (n, some l) = wr n ++ [61] ++ wr l by simp [pairT, oT]] at k
      refine ⟨hn, hk.1.2, fun H' s' => ?_⟩
      refine ⟨aqn (by simp; omega), ?_⟩
      show fqM [.str ⟨l.toArray⟩] H' _ _
      walk_at "rd"
      refine ⟨hll, hk.2 l rfl, fun H'' s'' => ⟨aqn (by simp; omega), k H'' (s'.trans s'')⟩⟩
theorem mq3 (g : G K mg) : FnOk P w K mg base CX0 3 g.fqg g.eqB ["mark"] nqo := by
  refine g.gqT.ok nqw (fun vs H Q E h => ?_) (fun cdv A outer s H vs Q E hr h => ?_)
  · obtain ⟨o, rfl, _⟩ := h; rfl
  · obtain ⟨o, rfl, ho, k⟩ := h
    refine ⟨_, (aqc (aql (aq0 (aqk cq5 (pv 0) aqF (nomark _)) aqp (aqm (aqD (K := K) rfl) aqp (aqg (eqF g) (hr.mono (by decide)) rfl g.eqQ g.dq5.kp g.eqM .nil pass0 (aqa (pv 0) aqb)))))), ?_⟩
    have c1 : Str.ofString "#" = ⟨[35].toArray⟩ := by decide +kernel
    rw [c1]
    walk_at "rd"
    cases o with
    | none => exact ite2 (fun _ => k H (Same.refl _)) (fun z => absurd rfl z)
    | some l =>
      refine ite2 (fun z => absurd z (by simp [otV])) (fun _ => ?_)
      have hl := ho l rfl
      have w := gq9 l
      show fqM [.str ⟨l.toArray⟩] H _ _
      rw [show (⟨#[35]⟩ : Str) = ⟨[35].toArray⟩ from rfl]
      walk_at "rd"
      refine ⟨hl.1, hl.2, fun H' s' => ⟨aqn (by omega), ?_⟩⟩
      exact k H' s'
theorem pqR (g : G K mg) : FnOk P w K mg base CX0 3 g.hqO g.gql ["_law_cells", "_law_rooted", "_law_ends"] (pqJ K) := by
  refine g.jqx.ok lqr (fun vs H Q E h => ?_) (fun cdv A outer s H vs Q E hr h => ?_)
  · obtain ⟨pc, cs, r, e, rfl, _⟩ := h; rfl
  · obtain ⟨pc, cs, r, e, rfl, hS, hn, k⟩ := h
    refine ⟨_, (aqd (aqj (i := 3) lqr.nd rfl (Or.inl rfl) (bqC (dqI (K := K) rfl) rfl g.eqb cq8 (aqa (jqm (fx := []) (fr := []) rfl rfl (by decide +kernel) rfl (by decide +kernel) rfl (by decide +kernel) rfl .nil rfl (nqh (K := K) rfl (pv 0)) (fun _ _ _ => mqA) (fun _ _ _ => (aqg (nqX g) (hr.mono (by decide)) rfl g.lqe g.iqv.kp g.lqC .nil pass0 (aqa (pv 0) aqb)))) aqb)))
      (aqd (aqE (aqk (pqd hr.units) (pv 3) (aqy aqb) (nomark _))
        (aqc (aql (aqy (aqa (pv 1) (aqa (aqy aqb) (aqa (pv 1) aqb)))))) aqo)
      (aqc (aql (aqy (aqa (pv 1) (aqa (pv 3) (aqa (pv 2) aqb)))))))), ?_⟩
    walk_at "rd"
    refine ⟨⟨_, hS⟩, fun p1 hn1 => qqQ hS hn hn1 (fun ss H1 s1 hl hs hp1 => ?_)⟩
    walk_at "rd"
    refine ⟨_, .inl (.of hp1), fun p2 H2 s2 hp2 => ⟨by decide, fun p3 H3 hn3 s3 hp3 => ?_⟩⟩
    have sm := (s1.trans s2).trans s3
    have hI2 : IsT H3 (.tuple (ss.map st)) (.ref p2) := .tup (s3 _ _ hp2) (hqd _)
    refine ⟨.tuple (ss.map st), .tuple [], hI2.is, .tup hp3 .nil, fqq (fun s h => (hs s h).1.2), by decide, _, rfl, ?_⟩
    rw [mqZ]
    by_cases h0 : ss = []
    · refine ite2 (fun _ => ?_) (fun z => absurd (by rw [h0]; rfl) z)
      refine ⟨by decide, fun p4 H4 hn4 s4 hp4 => ⟨by decide, fun p5 H5 hn5 s5 hp5 => k ss r _ H5 hl hs (fun _ => rfl) ((sm.trans s4).trans s5) ?_⟩⟩
      rw [h0]
      exact .tup hp5 (.cons (.bl _) (.cons (.tup (s5 _ _ hp4) .nil) (.cons (.bl _) .nil)))
    · refine ite2 (fun z => absurd (by simpa using z) h0) (fun _ => ?_)
      refine ⟨by decide, fun p5 H5 hn5 s5 hp5 => k ss e _ H5 hl hs (fun z => absurd z h0) (sm.trans s5) ?_⟩
      exact .tup hp5 (.cons (.bl _) (.cons (hI2.mono s5.toT) (.cons (.bl _) .nil)))
theorem iqL (g : G K mg) : FnOk P w K mg base CX0 3 g.cqr g.bq4 ["_law_question_here", "_law_bits"] (iqE K) := by
  refine g.dqG.ok aq1 (fun vs H Q E h => ?_) (fun cdv A outer s H vs Q E hr h => ?_)
  · obtain ⟨ps, v, q, n, rfl, _⟩ := h; rfl
  · obtain ⟨ps, v, q, n, rfl, hI, hb, hn, hpl, hpp, k⟩ := h
    refine ⟨_, (aqd (aqj (i := 2) aq1.nd rfl (Or.inl rfl) (cqU aqb))
      (aqd (iqb PassesOwn.never rfl (iqh (K := K) rfl (pv 0)) (mqQ (n := 2) (K := K) rfl rfl (bqJ (aq9 (i := 3) aq1.nd rfl (Or.inl rfl)) (bqJ (aq9 (i := 4) aq1.nd rfl (Or.inl rfl)) lql)))
      (aqd (aqj (i := 5) aq1.nd rfl (Or.inl rfl) (aqg (bq9 g) (hr.mono (by decide)) rfl g.bqZ g.bqw.kp g.bq0 .nil pass0 (aqa (pv 3) (aqa aqp (aqa (pv 1) aqb)))))
      (aqx (aqE (aqk cqq (pv 4) aqF (nomark _))
        (aqc (aqj (i := 5) aq1.nd rfl (Or.inl rfl) (aqm (aqN (K := K)) (aqm (aqN (K := K)) (pv 5) aqp) (aqg (bq9 g) (hr.mono (by decide)) rfl g.bqZ g.bqw.kp g.bq0 .nil pass0 (aqa (pv 4) (aqa aqp (aqa (pv 1) aqb))))))) aqo)
      (aqc (dqu (dqg (K := K) rfl PySem.F.plainAttrs_list PySem.F.slot_list_append PySem.F.type_list_append cqj (pv 2) (aqa (pv 5) aqb)))))))
      (aqc (aql (aqm (aqN (K := K)) aqp (dqg (K := K) rfl PySem.F.plainAttrs_str PySem.F.slot_str_join PySem.F.type_str_join (hqM (K := K) rfl) aqp (aqa (pv 2) aqb))))))), ?_⟩
    have c1 : Str.ofString "?" = ⟨[63].toArray⟩ := by decide +kernel
    have c2 : Str.ofString "&" = ⟨[38].toArray⟩ := by decide +kernel
    have c3 : Str.ofString "=" = ⟨[61].toArray⟩ := by decide +kernel
    have eQ : Str.ofString "!$'()*,;@+/?:" = ⟨frQ.toArray⟩ := by unfold frQ; simp
    rw [c1, c2, c3, eQ]
    obtain ⟨pq, xs, rfl, hpq, r⟩ := iqs hI
    have hxl := r.length
    rw [List.length_map] at hxl
    walk_at "rd"
    refine ⟨Nat.zero_le _, fun p H1 hp s1 hp1 => ⟨⟨_, .of (s1 _ _ hpq)⟩, ?_⟩⟩
    have hpqn : pq ≠ q := hb.ne hpq
    have hpn : p ≠ q := hb.ne0 hp
    refine nqi (xs := xs) (fun i σ H' => ∃ (ws : List (List Nat)) (v3 v4 v5 : Option V), σ = [some (.ref pq), some (.ref q), some (.ref p), v3, v4, v5] ∧ H' p = some (.lst (ws.map sV)) ∧ PrWs (ps.take i) ws ∧ (∀ w ∈ ws, w.length ≤ 34 ∧ ∀ c ∈ w, c < 128) ∧ SameBut q H H' ∧ Bt H' q (n + 11 * i)) ⟨[], none, none, none, rfl, hp1, .nil, (fun w hw => by cases hw), s1.but, hb.same s1⟩ (fun i σ H' _ h => ?_) ?_ ?_
    · obtain ⟨_, _, _, _, _, _, _, _, sb, _⟩ := h
      exact .of (sb _ _ hpqn hpq)
    · rintro i x σ H2 hx ⟨ws, v3, v4, v5, rfl, hp2, hws, hwl, sb2, b2⟩
      have hi : i < ps.length := by have := (List.getElem?_eq_some_iff.mp hx).1; omega
      have he : ps[i]? = some ps[i] := by simp [hi]
      obtain ⟨b, x1, x2, rfl, hbb, b1, b2'⟩ := isT2 (r.get (by rw [List.getElem?_map, he]; rfl) hx)
      cases qqq b1
      cases sq0 b2'
      obtain ⟨⟨pn1, pn2⟩, pv⟩ := hpp ps[i] (List.getElem_mem hi)
      obtain ⟨pl1, pl2⟩ := pv
      have et : ps.take (i + 1) = ps.take i ++ [ps[i]] := by rw [List.take_add_one, he]; rfl
      walk_at "rd"
      refine ⟨b, _, rfl, .of (sb2 _ _ (hb.ne hbb) hbb), rfl, _, _, rfl, _, _, rfl, rfl, ?_⟩
      refine ⟨ps[i].1, frQ, q, _, rfl, b2, by omega, by omega, pn1.2, jqE, oqk.1, fun a H3 ha hal s3 b3 => ?_⟩
      refine ⟨fun σ H4 => ∃ (w : List Nat), σ = [some (.ref pq), some (.ref q), some (.ref p), some (.str ⟨ps[i].1.toArray⟩), some (otV ps[i].2), some (.str ⟨w.toArray⟩)] ∧ PrW ps[i] w ∧ w.length ≤ 34 ∧ (∀ c ∈ w, c < 128) ∧ H4 p = some (.lst (ws.map sV)) ∧ SameBut q H H4 ∧ Bt H4 q (n + 11 * (i + 1)), ?_, ?_⟩
      · cases ho : ps[i].2 with
        | none =>
          refine ite2 (fun z => absurd rfl z) (fun _ => ⟨a, rfl, ⟨a, [], by simp, ha, by rw [ho]; rfl⟩, by omega, jqs oqk.2 ha, s3 _ _ hpn hp2, sb2.trans s3, b3.le (by omega)⟩)
        | some v =>
          refine ite2 (fun _ => ?_) (fun z => absurd (Classical.not_not.mp z) (by simp [otV]))
          show rAddS K (.str ⟨a.toArray⟩) (.str ⟨[61].toArray⟩) H3 _
          walk_at "rd"
          refine ⟨aqn (by simp; omega), ?_⟩
          have lv := pl2 v ho
          show gq1 [.str ⟨v.toArray⟩, _, _] H3 _ _
          refine ⟨v, frQ, q, _, rfl, b3, by omega, by omega, pn2 v ho, jqE, oqk.1, fun a2 H5 ha2 hal2 s5 b5 => ?_⟩
          walk_at "rd"
          refine ⟨aqn (by simp; omega), a ++ [61] ++ a2, rfl, ⟨a, 61 :: a2, by simp, ha, by rw [ho]; exact ⟨a2, rfl, ha2⟩⟩, by simp; omega, ?_, (s3.trans s5) _ _ hpn hp2, (sb2.trans s3).trans s5, b5.le (by omega)⟩
          intro c hc
          rcases List.mem_append.mp hc with hc | hc
          · rcases List.mem_append.mp hc with hc | hc
            · exact jqs oqk.2 ha c hc
            · rw [List.mem_singleton.mp hc]; decide
          · exact jqs oqk.2 ha2 c hc
      rintro σ H4 ⟨w, rfl, hpw, hwl4, hw4, hp4, sb4, b4⟩
      walk_at "rd"
      refine ⟨⟨_, .of hp4⟩, _, hp4, ?_, ws ++ [w], _, _, _, ⟨rfl, rfl, rfl⟩, ?_, ?_, ?_, ?_, ?_⟩
      · rw [List.length_map, hws.length, List.length_take]
        exact Nat.lt_of_le_of_lt (show min i ps.length ≤ 100000 by omega) (by decide)
      · rw [aqr, List.map_append]; rfl
      · rw [et]; exact hws.snoc hpw
      · intro u hu
        rcases List.mem_append.mp hu with hu | hu
        · exact hwl u hu
        · rw [List.mem_singleton.mp hu]; exact ⟨hwl4, hw4⟩
      · exact sb4.upd hp
      · exact b4.upd hpn
    · rintro σ H2 ⟨ws, v3, v4, v5, rfl, hp2, hws, hwl, sb2, b2⟩
      rw [← hxl, List.take_of_length_le (Nat.le_refl _)] at hws
      have hwn := hws.length
      have hj := kqw (sep := 38) ws
      have hjb := eqH (sep := 38) (m := 34) (ys := ws) fun s hs => (hwl s hs).1
      have : ws.length * (34 + 1) ≤ 3 * 35 := Nat.mul_le_mul (by omega) (Nat.le_refl _)
      walk_at "rd"
      refine ⟨ws.map fun l => ⟨l.toArray⟩, by rw [List.map_map (f := fun l : List Nat => (⟨l.toArray⟩ : Str)) (g := V.str)]; exact .of hp2, ?_, ?_⟩
      · rw [mq2, List.length_map]
        have : (ws.map List.length).sum + ws.length ≤ (joinT 38 ws).length + 1 := hj
        omega
      rw [show (⟨#[38]⟩ : Str) = ⟨[38].toArray⟩ from rfl, kqz, show (⟨#[63]⟩ : Str) = ⟨[63].toArray⟩ from rfl]
      walk_at "rd"
      refine ⟨aqn (by omega), ?_⟩
      refine k (63 :: joinT 38 ws) H2 (vq6 hws fun p hp z => ?_) ?_ (by simp only [List.length_cons]; omega) sb2 (b2.le (by omega))
      · have := (hpp p hp).1.1.1
        rw [z] at this
        cases this
      · intro c hc
        rcases List.mem_cons.mp hc with rfl | hc
        · decide
        · exact kqH (P := fun c => c < 128) (by decide) (fun s hs => (hwl s hs).2) c hc
theorem cqQ (g : G K mg) : FnOk P w K mg base CX0 4 g.dqm g.cqM ["address"] (kqv K) := by
  refine g.bqB.ok kqf (fun vs H Q E h => ?_) (fun cdv A outer s H vs Q E hr h => ?_)
  · obtain ⟨x, v, rfl, _⟩ := h; rfl
  · obtain ⟨x, v, rfl, hI, hn, k⟩ := h
    refine ⟨_, (aqc (aql (aqm (gqw (K := K) rfl) (aqm (gqw (K := K) rfl) (aqP (gqB (K := K) rfl) (pv 0) bql (aqO (aqh (v := lqI) rfl g.kqr ⟨_, rfl⟩))) (aqy (aqa (aqg (sq2 g) (hr.mono (by decide)) rfl g.rq1 g.qqD.kp g.rqH .nil pass0 (aqa (aqs (aqf (K := K) rfl) (pv 0) (aqh (v := lqI) rfl g.kqr ⟨_, rfl⟩) (fun _ _ => rfl)) aqb)) aqb))) (aqP (gqB (K := K) rfl) (pv 0) (aqO (aqh (v := bqF) rfl g.bqp ⟨_, rfl⟩)) bql)))), ?_⟩
    obtain ⟨p, w, q, rfl, hp, hw, hq⟩ := dq4 hI
    walk_at "rd"
    refine ⟨_, hp, fun p1 H1 s1 hp1 => ⟨_, _, .inr (s1.tup hp), rfl, ?_⟩⟩
    refine ⟨x.w, w, rfl, hw.mono s1, hn, fun u H2 s2 hu => ⟨by decide, fun p3 H3 hn3 s3 hp3 => ⟨_, _, (s2.trans s3).tup hp1, .of hp3, (show 4 ≤ sizeLine by decide), fun p4 H4 s4 hp4 => ⟨_, (((s1.trans s2).trans s3).trans s4).tup hp, fun p5 H5 s5 hp5 => ⟨_, _, s5.tup hp4, hp5, (show 6 ≤ sizeLine by decide), fun p6 H6 s6 hp6 => ?_⟩⟩⟩⟩⟩
    have sm : Same H H6 := ((((s1.trans s2).trans s3).trans s4).trans s5).trans s6
    exact k _ H6 sm (adK (x := x.gone) hp6 (hu.mono (((s3.trans s4).trans s5).trans s6)) (hq.mono sm))
theorem kqM (g : G K mg) : FnOk P w K mg base CX0 4 g.kqJ g.iqQ ["way"] (sqn K) := by
  refine g.iq7.ok oqQ (fun vs H Q E h => ?_) (fun cdv A outer s H vs Q E hr h => ?_)
  · obtain ⟨w, v, rfl, _⟩ := h; rfl
  · obtain ⟨w, v, rfl, hI, hn, k⟩ := h
    refine ⟨_, (aqd (aqj (i := 1) oqQ.nd rfl (Or.inl rfl) (aqg (sq2 g) (hr.mono (by decide)) rfl g.rq1 g.qqD.kp g.rqH .nil pass0 (aqa (pv 0) aqb)))
      (aqc (aql (aq0 (aqB (aqs (aqf (K := K) rfl) (pv 1) (aqh (v := mqu) rfl g.lqJ ⟨_, rfl⟩) (fun _ _ => rfl))) (aqs (aqf (K := K) rfl) (pv 1) (aqh (v := jqH) rfl g.iqk ⟨_, rfl⟩) (fun _ _ => rfl)) (aqP (gqB (K := K) rfl) (aqs (aqf (K := K) rfl) (pv 1) (aqh (v := jqH) rfl g.iqk ⟨_, rfl⟩) (fun _ _ => rfl)) bql (aqO (oqc jqX aqe))))))), ?_⟩
    walk_at "rd"
    refine ⟨w, v, rfl, hI, hn, fun u H1 s1 hu => ?_⟩
    obtain ⟨pw, ps, rfl, hw, hps⟩ := jqJ (K := K) (r := (goneV w).1) (e := (goneV w).2.2) (ss := (goneV w).2.1) hu
    walk_at "rd"
    refine ⟨_, _, .inr hw, rfl, _, rfl, ?_⟩
    cases he : (goneV w).2.2 with
    | true =>
      rw [if_pos rfl]
      refine ⟨_, _, .inr hw, rfl, k ps H1 s1 ?_⟩
      rw [holder, if_pos he]; exact hps
    | false =>
      rw [if_neg (by decide)]
      refine ⟨_, _, .inr hw, rfl, ?_⟩
      walk_at "rd"
      refine ⟨_, hps, fun p2 H2 s2 hp2 => k p2 H2 (s1.trans s2) ?_⟩
      rw [kqD, rqh] at hp2
      rw [holder, if_neg (by rw [he]; decide)]
      exact hp2
theorem lqP (g : G K mg) : FnOk P w K mg base CX0 4 g.dq2 g.dqq ["cursor"] (kqO K g.aqu) := by
  refine g.fqF.ok gq7 (fun vs H Q E h => ?_) (fun cdv A outer s H vs Q E hr h => ?_)
  · obtain ⟨p, t, rfl, _⟩ := h; rfl
  · obtain ⟨p, t, rfl, hcur, hl, k⟩ := h
    refine ⟨_, (aqd (aqj (i := 1) gq7.nd rfl (Or.inl rfl) (aqs (aqf (K := K) rfl) (dqg (K := K) rfl PySem.F.plainAttrs_str PySem.F.slot_str_partition PySem.F.type_str_partition nqV (eqh (pv 0) rfl) (aqa aqp aqb)) aqe (fun _ _ => rfl)))
      (aqd (aqE (PW.pt (fqD (aqk eqc (pv 1) aqp (nomark _)) (fqD (aq2 (aqB (aqg (oq6 g) (hr.mono (by decide)) rfl g.lqN g.iqn.kp g.lqj .nil pass0 (aqa (pv 1) aqb)))) (eqg (aq2 (aqB (dqo (pv 0) g.aqq g.aqG (aqM g) (hr.mono (by decide)) g.aqK .nil pass0 (aqa (aqm (aqD (K := K) rfl) (pv 1) aqp) aqb))))))))
        (aqc (aql aqp)) aqo)
      (aqc (aql (pv 1))))), ?_⟩
    have e1 : Str.ofString ":" = ⟨[58].toArray⟩ := by decide +kernel
    rw [e1]
    walk_at "rd"
    refine gqi hcur g.aqq g.aq8 ⟨rfl, uqN.mpr ⟨by decide, aqn (show t.length ≤ 100000 by omega), fun q hq => ?_⟩⟩
    rw [show (⟨#[58]⟩ : Str) = ⟨[58].toArray⟩ from rfl, qqO]
    have sm1 := bqs (o := .tup [.str ⟨(ahead t).toArray⟩, .str (Txt.partition ⟨t.toArray⟩ ⟨[58].toArray⟩).2.1, .str (Txt.partition ⟨t.toArray⟩ ⟨[58].toArray⟩).2.2]) hq
    have hq1 : (upd H q (.tup [.str ⟨(ahead t).toArray⟩, .str (Txt.partition ⟨t.toArray⟩ ⟨[58].toArray⟩).2.1, .str (Txt.partition ⟨t.toArray⟩ ⟨[58].toArray⟩).2.2])) q = some (.tup [.str ⟨(ahead t).toArray⟩, .str (Txt.partition ⟨t.toArray⟩ ⟨[58].toArray⟩).2.1, .str (Txt.partition ⟨t.toArray⟩ ⟨[58].toArray⟩).2.2]) := aqr
    generalize upd H q (.tup [.str ⟨(ahead t).toArray⟩, .str (Txt.partition ⟨t.toArray⟩ ⟨[58].toArray⟩).2.1, .str (Txt.partition ⟨t.toArray⟩ ⟨[58].toArray⟩).2.2]) = H1 at sm1 hq1 ⊢
    have c1 := hcur.same sm1
    have hal := tqd t
    walk_at "rd"
    refine ⟨_, _, .inr (.of hq1), rfl, ?_⟩
    rw [L2.nqt]
    refine ⟨_, rfl, ?_⟩
    by_cases h1 : ahead t = []
    · rw [decide_eq_true (by rw [h1]), if_pos rfl]
      obtain ⟨z1, z2⟩ := lqf (t := t) (fun z => z.1 h1)
      have := k H1 sm1.but (by rw [z2]; exact c1)
      rw [z1] at this
      exact this
    rw [decide_eq_false (fun z => h1 (mqx.mp z)), if_neg (by decide)]
    refine ⟨.str ⟨(ahead t).toArray⟩, _, rfl, .str _, by simp [smallD, Str.length]; omega, fun H2 s2 => ⟨_, rfl, ?_⟩⟩
    have c2 := c1.same s2
    have sm2 := sm1.trans s2
    cases h2 : schD (.str ⟨(ahead t).toArray⟩) with
    | false =>
      rw [if_pos rfl]
      obtain ⟨z1, z2⟩ := lqf (t := t) (fun z => by rw [h2] at z; cases z.2.1)
      have := k H2 sm2.but (by rw [z2]; exact c2)
      rw [z1] at this
      exact this
    | true =>
      rw [if_neg (by decide)]
      refine aqw c2 ?_
      rw [show (⟨#[58]⟩ : Str) = ⟨[58].toArray⟩ from rfl]
      walk_at "rd"
      refine ⟨aqn (by simp; omega), ?_⟩
      by_cases h3 : t[(ahead t).length]? = some 58
      · obtain ⟨z1, z2⟩ := nqs h1 h2 h3
        have ht := (mqr t).mpr h3
        refine dqb (w := ahead t ++ [58]) (r := t.drop (ahead t ++ [58]).length) c2 (Nat.zero_le _) (by omega) ?_ fun H3 s3 c3 _ _ => ⟨_, rfl, ?_⟩
        · rw [List.drop_zero]
          conv => lhs; rw [← List.take_append_drop (ahead t ++ [58]).length t, ht]
        rw [if_neg (by decide)]
        have := k H3 (sm2.but.trans s3) (by rw [z2]; rw [Nat.zero_add] at c3; exact c3)
        rw [z1] at this
        exact this
      · obtain ⟨z1, z2⟩ := lqf (t := t) (fun z => h3 z.2.2)
        refine pqo (w := ahead t ++ [58]) c2 (Nat.zero_le _) (by omega) (by rw [List.drop_zero]; exact fun z => h3 ((mqr t).mp z)) ⟨_, rfl, ?_⟩
        rw [if_pos rfl]
        have := k H2 sm2.but (by rw [z2]; exact c2)
        rw [z1] at this
        exact this
theorem cqy (g : G K mg) : FnOk P w K mg base CX0 4 g.fqh g.dqx ["cursor", "free", "most"] (mqS K g.aqu) := by
  refine g.bqI.ok fq0 (fun vs H Q E h => ?_) (fun cdv A outer s H vs Q E hr h => ?_)
  · obtain ⟨p, t, fr, s, w, r, i, mo, rfl, _⟩ := h; rfl
  · obtain ⟨p, t, fr, s, w', r, i, mo, rfl, hcur, hi, hl, h128, hfl, hd, hw, hst, hmo, k⟩ := h
    refine ⟨_, (aqd (aqj (i := 3) fq0.nd rfl (Or.inl rfl) (uqQ aqb))
      (aqd (aqj (i := 4) fq0.nd rfl (Or.inl rfl) (aqm (aqD (K := K) rfl) (aqm (aqD (K := K) rfl) (aqh (v := pqu) rfl g.pqO ⟨_, rfl⟩) (pv 1)) aqp))
      (aqd (iqN PassesOwn.never (PW.pt (fqJ (PW.pt (fqD (aqk cq5 (pv 2) aqF (nomark _)) (eqg (aqk pqi (aqv (aqQ (K := K) rfl) rfl g.fqT PySem.boot_len (aqa (pv 3) aqb)) (pv 2) (nomark _))))) (dq9 (aqB (dqo (pv 0) g.aqq g.cqD (dq0 g) (hr.mono (by decide)) g.dqc .nil pass0 (aqa (pv 4) aqb))))))
      (aqc (dqu (dqg (K := K) rfl PySem.F.plainAttrs_list PySem.F.slot_list_append PySem.F.type_list_append cqj (pv 3) (aqa (aq0 (aqB (dqo (pv 0) g.aqq g.aqG (aqM g) (hr.mono (by decide)) g.aqK .nil pass0 (aqa aqp aqb))) (aqg (mqU g) (hr.mono (by decide)) rfl g.jq3 g.gq8.kp g.jq9 .nil pass0 (aqa (pv 0) aqb)) (gqp (pv 0) g.aqq g.bqX (cqC g) (hr.mono (by decide)) g.cqx .nil pass0)) aqb)))))
      (aqc (aql (dqg (K := K) rfl PySem.F.plainAttrs_str PySem.F.slot_str_join PySem.F.type_str_join (hqM (K := K) rfl) aqp (aqa (pv 3) aqb))))))), ?_⟩
    have eP : pqu = .str ⟨plS.toArray⟩ := by
      show V.str (Str.ofString _) = _
      unfold plS; simp
    rw [eP]
    walk_at "rd"
    refine ⟨by decide, fun q hq => ⟨aqn (by rw [sqD]; omega), aqn (by rw [List.length_append, sqD]; omega), ?_⟩⟩
    have hqp : q ≠ p := by obtain ⟨dx, hp⟩ := hcur; exact (aqz hp hq).symm
    refine lqR (fun m σ H' => ∃ (dn s' u w2 : List Nat), m = s'.length ∧ σ = [some (.ref p), some (.str ⟨fr.toArray⟩), some (moV mo), some (.ref q), some (.str ⟨(plS ++ fr ++ [126]).toArray⟩)] ∧ s = dn ++ s' ∧ w' = u ++ w2 ∧ WrT fr s' w2 ∧ H' q = some (.lst (dn.map one)) ∧ SameBut p H H' ∧ Cur H' g.aqu p t (i + u.length)) s.length ⟨[], s, [], w', rfl, rfl, rfl, rfl, hw, aqr, (bqs hq).but, ?_⟩ ?_
    · obtain ⟨dx, hp⟩ := hcur
      exact ⟨dx, by rw [aqI hqp.symm]; exact hp⟩
    rintro m σ H' ⟨dn, s', u, w2, rfl, rfl, es, ew, hw2, hq', sb, cur⟩
    have hd2 : t.drop (i + u.length) = w2 ++ r := by rw [← List.drop_drop, hd, ew, List.append_assoc, List.drop_left]
    have hdl : dn.length + s'.length = s.length := by rw [es, List.length_append]
    have hwl : i + w'.length ≤ t.length := by
      have := congrArg List.length hd
      rw [List.length_drop, List.length_append] at this
      omega
    have hk : i + u.length ≤ t.length := by rw [ew, List.length_append] at hwl; omega
    have hsl := wqd hw
    have hlen : (dn.map one).length < sizeLine := by
      rw [List.length_map]
      exact Nat.lt_of_le_of_lt (show dn.length ≤ 100000 by omega) (by decide)
    have fin : s' = [] → ∃ ys : List Str, SqL K H' q (ys.map V.str) ∧ (ys.map fun x => x.length).sum + ys.length * 0 ≤ 16777216 ∧ Q (V.str (Txt.join ⟨#[]⟩ ys)) H' := fun e => by
      subst e
      cases hw2
      rw [List.append_nil] at es ew
      refine ⟨dn.map fun c => ⟨[c].toArray⟩, SqL.of (by rw [hq', List.map_map]; rfl), ?_, ?_⟩
      · rw [rqv]
        simp only [List.length_map, Nat.mul_zero, Nat.add_zero]
        omega
      · rw [show (⟨#[]⟩ : Str) = ⟨([] : List Nat).toArray⟩ from rfl, qqB, qq4]
        rw [es, ew] at k
        exact k H' sb cur
    cases mo with
    | none =>
      walk_at "rd"
      rw [if_pos (show moV none = V.non from rfl)]
      cases hw2 with
      | nil =>
        have hn : ∀ c, t[i + u.length]? = some c → c ∉ plS ++ fr ++ [126] := fun c hc hin => by
          have hs0 : Stops fr r := hst.resolve_right (by simp)
          have hr : r.head? = some c := by rw [← hc, ← List.head?_drop, hd2]; rfl
          obtain ⟨z1, z2, z3⟩ := hs0 c hr
          have hlt := h128 c (List.mem_of_getElem? hc)
          rcases List.mem_append.mp hin with hin | hin
          · rcases List.mem_append.mp hin with hin | hin
            · rw [(qqm hlt).mp hin] at z1; cases z1
            · exact z2 hin
          · exact z3 (List.mem_singleton.mp hin)
        have hb : seesB t (plS ++ fr ++ [126]) (i + u.length) = false := by
          cases hc : t[i + u.length]? with
          | none => exact hqK hc
          | some c => rw [bqE hc]; exact decide_eq_false (hn c hc)
        refine aqw cur ⟨p, t, _, i + u.length, rfl, cur, hk, hl, _, rfl, ?_⟩
        rw [hb, if_neg (by decide)]
        exact fin rfl
      | self hpl hne hw3 =>
        rename_i c s3 w3
        obtain ⟨hx, hlt⟩ := jqw (show t.drop (i + u.length) = c :: (w3 ++ r) from hd2)
        have hc := h128 c (List.mem_of_getElem? hx)
        have hin : c ∈ plS ++ fr ++ [126] := List.mem_append.mpr (.inl (List.mem_append.mpr (hpl.imp (qqm hc).mpr id)))
        refine aqw cur ⟨p, t, _, i + u.length, rfl, cur, hk, hl, _, rfl, ?_⟩
        rw [bqE hx, decide_eq_true hin, if_pos rfl]
        refine ⟨_, fun _ _ h => h, ⟨_, .of hq'⟩, aqw cur ⟨p, t, [126], i + u.length, rfl, cur, hk, hl, fun hp1 => ?_, fun _ => ⟨_, rfl, ?_⟩⟩⟩
        · rw [hd2] at hp1
          exact absurd (List.cons.inj hp1).1 hne
        rw [if_neg (by decide)]
        refine aqw cur ⟨p, t, i + u.length, c, rfl, cur, hx, hl, fun H1 s1 c1 => ⟨_, s1 _ _ hqp hq', hlen, s3.length, Nat.lt_succ_self _, dn ++ [c], s3, u ++ [c], w3, rfl, rfl, by rw [es, List.append_assoc]; rfl, by rw [ew, List.append_assoc]; rfl, hw3, ?_, ?_, ?_⟩⟩
        · rw [aqr, List.map_append]; rfl
        · exact (sb.trans s1).upd hq
        · obtain ⟨dx, hpp⟩ := c1
          rw [List.length_append, List.length_singleton, ← Nat.add_assoc]
          exact ⟨dx, by rw [aqI hqp.symm]; exact hpp⟩
      | pair hsg hw3 =>
        rename_i c a b s3 w3
        obtain ⟨hx, hlt⟩ := jqw (show t.drop (i + u.length) = 126 :: (a :: b :: (w3 ++ r)) from hd2)
        have hin : 126 ∈ plS ++ fr ++ [126] := List.mem_append.mpr (.inr (List.mem_singleton.mpr rfl))
        refine aqw cur ⟨p, t, _, i + u.length, rfl, cur, hk, hl, _, rfl, ?_⟩
        rw [bqE hx, decide_eq_true hin, if_pos rfl]
        refine ⟨_, fun _ _ h => h, ⟨_, .of hq'⟩, aqw cur ⟨p, t, [126], i + u.length, rfl, cur, hk, hl, fun _ H1 s1 c1 => ⟨_, rfl, ?_⟩, fun hp1 => ?_⟩⟩
        · rw [if_pos rfl]
          have hd3 : t.drop (i + u.length + 1) = a :: b :: (w3 ++ r) := by rw [← List.drop_drop, hd2]; rfl
          refine ⟨p, t, w3 ++ r, i + u.length + 1, a, b, c, rfl, c1, hd3, hsg, hl, fun H2 s2 c2 => ⟨_, (s1.trans s2) _ _ hqp hq', hlen, s3.length, Nat.lt_succ_self _, dn ++ [c], s3, u ++ [126, a, b], w3, rfl, rfl, by rw [es, List.append_assoc]; rfl, by rw [ew, List.append_assoc]; rfl, hw3, ?_, ?_, ?_⟩⟩
          · rw [aqr, List.map_append]; rfl
          · exact ((sb.trans s1).trans s2).upd hq
          · obtain ⟨dx, hpp⟩ := c2
            rw [List.length_append, show [126, a, b].length = 3 from rfl, show i + (u.length + 3) = i + u.length + 1 + 2 by omega]
            exact ⟨dx, by rw [aqI hqp.symm]; exact hpp⟩
        · rw [hd2] at hp1
          exact absurd rfl hp1
    | some m =>
      have hm := hmo m rfl
      walk_at "rd"
      rw [if_neg (by intro z; cases z)]
      refine ⟨_, .inl (.of hq'), ?_⟩
      show rI0 (fun i j => V.bl (decide (i < j))) (V.int _) (V.int (m : Int)) H' _
      walk_at "rd"
      refine ite2 (fun hlt0 => ?_) (fun hge => ?_)
      · rw [List.length_map] at hlt0
        cases hw2 with
        | nil =>
          have hn : ∀ c, t[i + u.length]? = some c → c ∉ plS ++ fr ++ [126] := fun c hc hin => by
            have hs0 : Stops fr r := hst.resolve_right (fun z => by have := Option.some.inj z; simp at hdl; omega)
            have hr : r.head? = some c := by rw [← hc, ← List.head?_drop, hd2]; rfl
            obtain ⟨z1, z2, z3⟩ := hs0 c hr
            have hlt := h128 c (List.mem_of_getElem? hc)
            rcases List.mem_append.mp hin with hin | hin
            · rcases List.mem_append.mp hin with hin | hin
              · rw [(qqm hlt).mp hin] at z1; cases z1
              · exact z2 hin
            · exact z3 (List.mem_singleton.mp hin)
          have hb : seesB t (plS ++ fr ++ [126]) (i + u.length) = false := by
            cases hc : t[i + u.length]? with
            | none => exact hqK hc
            | some c => rw [bqE hc]; exact decide_eq_false (hn c hc)
          refine aqw cur ⟨p, t, _, i + u.length, rfl, cur, hk, hl, _, rfl, ?_⟩
          rw [hb, if_neg (by decide)]
          exact fin rfl
        | self hpl hne hw3 =>
          rename_i c s3 w3
          obtain ⟨hx, hlt⟩ := jqw (show t.drop (i + u.length) = c :: (w3 ++ r) from hd2)
          have hc := h128 c (List.mem_of_getElem? hx)
          have hin : c ∈ plS ++ fr ++ [126] := List.mem_append.mpr (.inl (List.mem_append.mpr (hpl.imp (qqm hc).mpr id)))
          refine aqw cur ⟨p, t, _, i + u.length, rfl, cur, hk, hl, _, rfl, ?_⟩
          rw [bqE hx, decide_eq_true hin, if_pos rfl]
          refine ⟨_, fun _ _ h => h, ⟨_, .of hq'⟩, aqw cur ⟨p, t, [126], i + u.length, rfl, cur, hk, hl, fun hp1 => ?_, fun _ => ⟨_, rfl, ?_⟩⟩⟩
          · rw [hd2] at hp1
            exact absurd (List.cons.inj hp1).1 hne
          rw [if_neg (by decide)]
          refine aqw cur ⟨p, t, i + u.length, c, rfl, cur, hx, hl, fun H1 s1 c1 => ⟨_, s1 _ _ hqp hq', hlen, s3.length, Nat.lt_succ_self _, dn ++ [c], s3, u ++ [c], w3, rfl, rfl, by rw [es, List.append_assoc]; rfl, by rw [ew, List.append_assoc]; rfl, hw3, ?_, ?_, ?_⟩⟩
          · rw [aqr, List.map_append]; rfl
          · exact (sb.trans s1).upd hq
          · obtain ⟨dx, hpp⟩ := c1
            rw [List.length_append, List.length_singleton, ← Nat.add_assoc]
            exact ⟨dx, by rw [aqI hqp.symm]; exact hpp⟩
        | pair hsg hw3 =>
          rename_i c a b s3 w3
          obtain ⟨hx, hlt⟩ := jqw (show t.drop (i + u.length) = 126 :: (a :: b :: (w3 ++ r)) from hd2)
          have hin : 126 ∈ plS ++ fr ++ [126] := List.mem_append.mpr (.inr (List.mem_singleton.mpr rfl))
          refine aqw cur ⟨p, t, _, i + u.length, rfl, cur, hk, hl, _, rfl, ?_⟩
          rw [bqE hx, decide_eq_true hin, if_pos rfl]
          refine ⟨_, fun _ _ h => h, ⟨_, .of hq'⟩, aqw cur ⟨p, t, [126], i + u.length, rfl, cur, hk, hl, fun _ H1 s1 c1 => ⟨_, rfl, ?_⟩, fun hp1 => ?_⟩⟩
          · rw [if_pos rfl]
            have hd3 : t.drop (i + u.length + 1) = a :: b :: (w3 ++ r) := by rw [← List.drop_drop, hd2]; rfl
            refine ⟨p, t, w3 ++ r, i + u.length + 1, a, b, c, rfl, c1, hd3, hsg, hl, fun H2 s2 c2 => ⟨_, (s1.trans s2) _ _ hqp hq', hlen, s3.length, Nat.lt_succ_self _, dn ++ [c], s3, u ++ [126, a, b], w3, rfl, rfl, by rw [es, List.append_assoc]; rfl, by rw [ew, List.append_assoc]; rfl, hw3, ?_, ?_, ?_⟩⟩
            · rw [aqr, List.map_append]; rfl
            · exact ((sb.trans s1).trans s2).upd hq
            · obtain ⟨dx, hpp⟩ := c2
              rw [List.length_append, show [126, a, b].length = 3 from rfl, show i + (u.length + 3) = i + u.length + 1 + 2 by omega]
              exact ⟨dx, by rw [aqI hqp.symm]; exact hpp⟩
          · rw [hd2] at hp1
            exact absurd rfl hp1
      · rw [List.length_map] at hge
        refine fin ?_
        cases s' with
        | nil => rfl
        | cons c s3 => simp only [List.length_cons] at hdl; omega
theorem jqD (g : G K mg) : FnOk P w K mg base CX0 4 g.cqJ g.cqz ["question"] (jqv K) := by
  refine g.eqa.ok jqF (fun vs H Q E h => ?_) (fun cdv A outer s H vs Q E hr h => ?_)
  · obtain ⟨q, v, rfl, _⟩ := h; rfl
  · obtain ⟨q, v, rfl, hI, hq, hl, k⟩ := h
    refine ⟨_, (aqd (aqE (aqk cq5 (pv 0) aqF (nomark _))
        (aqc (aql aqp)) aqo)
      (aqc (aql (aqm (aqD (K := K) rfl) aqp (dqg (K := K) rfl PySem.F.plainAttrs_str PySem.F.slot_str_join PySem.F.type_str_join (hqM (K := K) rfl) aqp (aqa (rqw (K := K) (fx := []) (fr := []) rfl rfl rfl (by decide +kernel) rfl (by decide +kernel) rfl rfl (by decide +kernel) rfl .nil rfl (iqh (K := K) rfl (pv 0)) (fun _ _ _ => mqA) (fun _ _ _ => (aqg (lqW g) (hr.mono (by decide)) rfl g.iqZ g.gqs.kp g.iq4 .nil pass0 (aqa (pv 0) (aqa (pv 1) aqb))))) aqb)))))), ?_⟩
    have c1 : Str.ofString "?" = ⟨[63].toArray⟩ := by decide +kernel
    have c2 : Str.ofString "&" = ⟨[38].toArray⟩ := by decide +kernel
    rw [c1, c2]
    walk_at "rd"
    cases q with
    | none =>
      cases hI
      exact ite2 (fun _ => k H (Same.refl _)) (fun z => absurd rfl z)
    | some ps =>
      obtain ⟨p, xs, rfl, hp, r⟩ := gqE hI
      refine ite2 (fun z => by cases z) (fun _ => ?_)
      obtain ⟨hpl, hpp⟩ := hq ps rfl
      have hxl := r.length
      rw [List.length_map] at hxl
      refine ⟨p, rfl, ⟨_, hp⟩, fun p1 hn1 => ?_⟩
      refine sq5 (f := fun i => match ps[i]? with | some p => (.str ⟨p.1.toArray⟩, otV p.2) | none => (.non, .non)) (zs := (ps.map pairT).map fun l => V.str ⟨l.toArray⟩) hp (aqn (by omega)) hn1 (by simp; omega) (fun i x H' hx sm => ?_) (fun i z hi hz H' T sm hT => ?_) (fun H' sm hp' => ?_)
      · have hi : i < ps.length := by have := (List.getElem?_eq_some_iff.mp hx).1; omega
        have he : ps[i]? = some ps[i] := by simp [hi]
        obtain ⟨b, x1, x2, rfl, hb, b1, b2⟩ := isK2 (mqy r (by rw [List.getElem?_map, he]; rfl) hx)
        cases nqL b1
        cases qqF b2
        refine ⟨b, rfl, ?_⟩
        rw [he]
        exact sm.tup hb
      · have hi : i < ps.length := by omega
        have he : ps[i]? = some ps[i] := by simp [hi]
        rw [List.getElem?_map, List.getElem?_map, he] at hz
        simp only [Option.map_some, Option.some.injEq] at hz
        subst hz
        obtain ⟨k1, k2, k3⟩ := hpp ps[i] (List.getElem_mem hi)
        rw [he]
        walk_at "rd"
        exact ⟨ps[i].1, ps[i].2, rfl, k1, k2, k3, hT⟩
      · walk_at "rd"
        have hj := kqw (sep := 38) (ps.map pairT)
        have hq2 : (queT (some ps)).length = (joinT 38 (ps.map pairT)).length + 1 := by simp [queT]
        refine ⟨(ps.map pairT).map fun l => ⟨l.toArray⟩, by rw [List.map_map (f := fun l : List Nat => (⟨l.toArray⟩ : Str)) (g := V.str)]; exact .of hp', ?_, ?_⟩
        · rw [mq2, List.length_map]
          have : ((ps.map pairT).map List.length).sum + (ps.map pairT).length ≤ (joinT 38 (ps.map pairT)).length + 1 := hj
          omega
        rw [show (⟨#[38]⟩ : Str) = ⟨[38].toArray⟩ from rfl, kqz, show (⟨#[63]⟩ : Str) = ⟨[63].toArray⟩ from rfl]
        walk_at "rd"
        refine ⟨aqn (by omega), ?_⟩
        have := k H' sm
        simpa [queT] using this
theorem hqo (g : G K mg) : FnOk P w K mg base CX0 4 g.dqR g.dqh ["_law_script", "_law_first", "_law_whole", "_law_cells"] (kq5 K) := by
  refine g.dqU.ok aqL (fun vs H Q E h => ?_) (fun cdv A outer s H vs Q E hr h => ?_)
  · obtain ⟨a, ns, i, wh, pc, cs, rfl, _⟩ := h; rfl
  · obtain ⟨a, ns, i, wh, pc, cs, rfl, hS, hC, hn, k⟩ := h
    refine ⟨_, (aqd (aqj (i := 4) aqL.nd rfl (Or.inl rfl) (aqg (bqg g) (hr.mono (by decide)) rfl g.bqb g.aqX.kp g.bqa .nil pass0 (aqa (pv 0) (aqa (pv 1) aqb))))
      (aqd (aqj (i := 5) aqL.nd rfl (Or.inl rfl) aqp)
      (aqd (aqj (i := 6) aqL.nd rfl (Or.inl rfl) aqF)
      (aqd (aqj (i := 7) aqL.nd rfl (Or.inl rfl) aqF)
      (aqx (aqE (PW.pt (fqD (aqB (pv 2)) (eqg (aqk eqc (aqm aqW (pv 4) aqe) aqe (nomark _)))))
        (aqc (aqj (i := 5) aqL.nd rfl (Or.inl rfl) (aqg (lqU g) (hr.mono (by decide)) rfl g.iq2 g.gqt.kp g.iqz .nil pass0 (aqa (aqm aqS (pv 4) aqe) aqb)))) aqo)
      (aqx (aqE (aqk kql (aqm aqW (aqm aqS (pv 4) aqe) aqe) aqe (nomark _))
        (aqd (aqj (i := 6) aqL.nd rfl (Or.inl rfl) (aqg (dq6 g) (hr.mono (by decide)) rfl g.dqH g.cq7.kp g.dqD .nil pass0 (aqa (aqg (bqg g) (hr.mono (by decide)) rfl g.bqb g.aqX.kp g.bqa .nil pass0 (aqa (pv 0) (aqa (aqm (aqN (K := K)) (pv 1) aqe) aqb))) (aqa aqe aqb))))
      (aqc (aqE (aqk eqc (aqm aqW (aqm aqS (pv 4) aqe) aqe) aqe (nomark _))
        (aqc (aqj (i := 7) aqL.nd rfl (Or.inl rfl) (aqm aqW (aqm aqS (aqg (bqg g) (hr.mono (by decide)) rfl g.bqb g.aqX.kp g.bqa .nil pass0 (aqa (pv 0) (aqa (aqm (aqN (K := K)) (pv 1) aqe) aqb))) aqe) aqe))) aqo))) aqo)
      (aqx (aqj (i := 8) aqL.nd rfl (Or.inl rfl) (nq9 (aq4 hqX (pv 5) aqp (nomark _)) (nq9 (aq4 cqq (pv 6) aqF (nomark _)) (fqb (aq4 eqc (aqm aqW (aqm aqS (pv 4) aqe) aqe) aqe (nomark _))))))
      (aqd (aqj (i := 9) aqL.nd rfl (Or.inl rfl) (aqg (pqR g) (hr.mono (by decide)) rfl g.mqm g.jqx.kp g.mqJ .nil pass0 (aqa (pv 3) (aqa (pv 8) (aqa (aq4 eqc (aqm aqW (aqm aqS (pv 4) aqe) aqe) aqe (nomark _)) aqb)))))
      (aqd (aqj (i := 10) aqL.nd rfl (Or.inl rfl) (aqg (kqd g) (hr.mono (by decide)) rfl g.gq2 g.eq8.kp g.hqk .nil pass0 (aqa (aqg (bqg g) (hr.mono (by decide)) rfl g.bqb g.aqX.kp g.bqa .nil pass0 (aqa (pv 0) (aqa (aqm (aqN (K := K)) (pv 1) aqe) aqb))) aqb)))
      (aqc (aql (aqy (aqa (pv 5) (aqa (pv 6) (aqa (pv 7) (aqa (pv 9) (aqa (pv 10) (aqa (aqg (nq2 g) (hr.mono (by decide)) rfl g.kqN g.iql.kp g.lqg .nil pass0 (aqa (aqg (bqg g) (hr.mono (by decide)) rfl g.bqb g.aqX.kp g.bqa .nil pass0 (aqa (pv 0) (aqa (aqm (aqN (K := K)) (pv 1) aqe) aqb))) aqb)) aqb)))))))))))))))))), ?_⟩
    walk_at "rd"
    refine ⟨a, ns, i, rfl, hS, ?_⟩
    walk_at "rd"
    generalize ns.getD i 0 = hd
    refine ⟨fun σ H1 => H1 = H ∧ ∃ sc : List Nat, σ = [some (.ref a), some (.int (i : Int)), some (.bl wh), some (.ref pc), some (.int hd), some (.str ⟨sc.toArray⟩), some .non, some .non, none, none, none] ∧ (wh = true → sc ≠ []) ∧ sc.length ≤ 8 ∧ (∀ c ∈ sc, isAln c = true) ∧ ∀ c ∈ sc.take 1, isLet c = true, ?_, ?_⟩
    · have put : ∀ l : List Nat, 0 < l.length → l.length ≤ 8 → (∀ c ∈ l, isAln c = true) → (∀ c ∈ l.take 1, isLet c = true) → ((H = H) ∧ ∃ sc : List Nat, [some (V.ref a), some (.int (i : Int)), some (.bl wh), some (.ref pc), some (.int hd), some (.str ⟨l.toArray⟩), some .non, some .non, none, none, none] = [some (V.ref a), some (.int (i : Int)), some (.bl wh), some (.ref pc), some (.int hd), some (.str ⟨sc.toArray⟩), some .non, some .non, none, none, none] ∧ (wh = true → sc ≠ []) ∧ sc.length ≤ 8 ∧ (∀ c ∈ sc, isAln c = true) ∧ ∀ c ∈ sc.take 1, isLet c = true) :=
        fun l h1 h2 h3 h4 => ⟨rfl, l, rfl, (fun _ z => by rw [z] at h1; cases h1), h2, h3, h4⟩
      refine ite2 (fun _ => ⟨⟨by decide, by decide⟩, _, rfl, put⟩) (fun hw => ⟨by decide, ite2 (fun _ => ⟨⟨by decide, by decide⟩, _, rfl, put⟩) (fun _ => ⟨rfl, [], rfl, fun z => absurd z hw, by decide, by simp, by simp⟩)⟩)
    rintro σ H1 ⟨rfl, sc, rfl, hw, hs1, hs2, hs3⟩
    walk_at "rd"
    refine ⟨fun σ H2 => H2 = H1 ∧ ∃ (ho : Option (List Nat)) (dr : Option Int), σ = [some (.ref a), some (.int (i : Int)), some (.bl wh), some (.ref pc), some (.int hd), some (.str ⟨sc.toArray⟩), some (otV ho), some (itV dr), none, none, none] ∧ (∀ l, ho = some l → (0 < l.length ∧ l.length ≤ 13) ∧ ∀ c ∈ l, isSg c = true) ∧ (∀ j, dr = some j → (0 ≤ j ∧ j ≤ 65535) ∧ ho ≠ none), ?_, ?_⟩
    · refine ⟨⟨by decide, by decide⟩, by decide, ite2 (fun _ => ?_) (fun _ => ⟨rfl, none, none, rfl, (fun _ z => by cases z), (fun _ z => by cases z)⟩)⟩
      refine ⟨a, ns, i + 1, by simp, hS, ?_⟩
      refine ⟨_, 12, rfl, by decide, by decide, fun l h1 h2 h3 => ?_⟩
      walk_at "rd"
      refine ⟨⟨by decide, by decide⟩, by decide, ite2 (fun _ => ?_) (fun _ => ⟨some l, none, ⟨rfl, rfl⟩, (fun l' z => by cases z; exact ⟨⟨h1, by omega⟩, h3⟩), (fun _ z => by cases z)⟩)⟩
      refine ⟨a, ns, i + 1, by simp, hS, ?_⟩
      walk_at "rd"
      have q0 := Int.emod_nonneg (ns.getD (i + 1) 0 / 7) (show (65536 : Int) ≠ 0 by decide)
      have q1 := Int.emod_lt_of_pos (ns.getD (i + 1) 0 / 7) (show (0 : Int) < 65536 by decide)
      refine ⟨⟨by decide, by decide⟩, by decide, some l, some _, ⟨rfl, rfl⟩, (fun l' z => by cases z; exact ⟨⟨h1, by omega⟩, h3⟩), (fun j z => by cases z; exact ⟨⟨q0, by omega⟩, by simp⟩)⟩
    rintro σ H2 ⟨rfl, ho, dr, rfl, hho, hdr⟩
    walk_at "rd"
    refine ⟨fun σ H3 => H3 = H2 ∧ ∃ rt : Bool, σ = [some (.ref a), some (.int (i : Int)), some (.bl wh), some (.ref pc), some (.int hd), some (.str ⟨sc.toArray⟩), some (otV ho), some (itV dr), some (.bl rt), none, none] ∧ (sc ≠ [] ∨ ho ≠ none → rt = true), ?_, ?_⟩
    · by_cases hsc : sc = []
      · subst hsc
        refine ite2 (fun z => absurd rfl z) (fun _ => ?_)
        cases ho with
        | some l => exact ite2 (fun _ => ⟨rfl, true, rfl, fun _ => rfl⟩) (fun z => absurd (Classical.not_not.mp z) (by simp [otV]))
        | none =>
          refine ite2 (fun z => absurd rfl z) (fun _ => ⟨⟨by decide, by decide⟩, by decide, rfl, _, rfl, fun z => ?_⟩)
          rcases z with z | z <;> exact absurd rfl z
      · refine ite2 (fun _ => ⟨rfl, true, rfl, fun _ => rfl⟩) (fun z => absurd (mqx.mp (Classical.not_not.mp z)) hsc)
    rintro σ H3 ⟨rfl, rt, rfl, hrt⟩
    walk_at "rd"
    refine ⟨⟨by decide, by decide⟩, by decide, pc, cs, rt, _, rfl, hC, hn, fun ss e' v H4 hl4 hs4 he4 s4 hv => ?_⟩
    walk_at "rd"
    refine ⟨a, ns, i + 2, by simp, s4.seq hS, _, rfl, fun q vq H5 hq s5 hvq => ?_⟩
    walk_at "rd"
    refine ⟨a, ns, i + 3, by simp, (s4.trans s5).seq hS, _, rfl, fun o ho5 => ⟨by decide, fun p6 H6 hn6 s6 hp6 => ?_⟩⟩
    refine k ⟨sc, ho, dr, rt, ss, e', q, o⟩ _ H6 ⟨⟨hs1, hs2, hs3⟩, (fun l e => ⟨⟨(hho l e).1.1, by have := (hho l e).1.2; omega⟩, (hho l e).2⟩), hdr, fun s hs => (hs4 s hs).1, hrt, he4, fun ps e p hp => ((hq ps e).2 p hp).1, fun l e => (ho5 l e).2⟩ ⟨fun s hs => (hs4 s hs).2, fun ps e => ⟨(hq ps e).1, fun p hp => ((hq ps e).2 p hp).2⟩, fun l e => (ho5 l e).1, fun l e => (hho l e).1.2⟩ (Nat.le_of_eq hl4) hw ((s4.trans s5).trans s6) ?_
    exact .tup hp6 (.cons (.str _) (.cons (oqv _) (.cons (vqM _) (.cons (hv.mono (s5.trans s6).toT) (.cons (hvq.mono s6.toT) (.cons (oqv _) .nil))))))
theorem iq5 (g : G K mg) : FnOk P w K mg base CX0 4 g.fqt g.eqm ["_law_address_here", "_law_bits"] (nqc K) := by
  refine g.fqx.ok aqC (fun vs H Q E h => ?_) (fun cdv A outer s H vs Q E hr h => ?_)
  · obtain ⟨x, v, q, n, rfl, _⟩ := h; rfl
  · obtain ⟨x, v, q, n, rfl, hI, wf, ti, hn, hb, hnn, k⟩ := h
    refine ⟨_, (aqd (uqZ (pv 0) (mqQ (n := 6) (K := K) rfl rfl (bqJ (aq9 (i := 2) aqC.nd rfl (Or.inl rfl)) (bqJ (aq9 (i := 3) aqC.nd rfl (Or.inl rfl)) (bqJ (aq9 (i := 4) aqC.nd rfl (Or.inl rfl)) (bqJ (aq9 (i := 5) aqC.nd rfl (Or.inl rfl)) (bqJ (aq9 (i := 6) aqC.nd rfl (Or.inl rfl)) (bqJ (aq9 (i := 7) aqC.nd rfl (Or.inl rfl)) lql))))))))
      (aqx (aqj (i := 8) aqC.nd rfl (Or.inl rfl) (aqm (aqN (K := K)) (pv 2) (aqs (aqf (K := K) rfl) (cqU (aqa aqp (aqa aqp aqb))) (bqC kqZ rfl g.pqz mqw (aqa (aq4 eqc (pv 2) aqp (nomark _)) aqb)) (fun _ _ => rfl))))
      (aqx (aqE (aqk cqq (pv 3) aqF (nomark _))
        (aqc (aqj (i := 8) aqC.nd rfl (Or.inl rfl) (aqm (aqN (K := K)) (aqm (aqN (K := K)) (pv 8) aqp) (aqg (bq9 g) (hr.mono (by decide)) rfl g.bqZ g.bqw.kp g.bq0 .nil pass0 (aqa (pv 3) (aqa aqp (aqa (pv 1) aqb))))))) aqo)
      (aqx (aqE (aqk cqq (pv 4) aqF (nomark _))
        (aqc (aqj (i := 8) aqC.nd rfl (Or.inl rfl) (aqm (aqN (K := K)) (aqm (aqN (K := K)) (pv 8) aqp) (bqC jqR rfl g.lqF hqZ (aqa (pv 4) aqb))))) aqo)
      (aqx (aqj (i := 8) aqC.nd rfl (Or.inl rfl) (aqm (aqN (K := K)) (pv 8) (aqs (aqf (K := K) rfl) (cqU (aqa aqp (aqa aqp aqb))) (bqC kqZ rfl g.pqz mqw (aqa (aqs (aqf (K := K) rfl) (pv 5) aqe (fun _ _ => rfl)) aqb)) (fun _ _ => rfl))))
      (aqx (aqj (i := 8) aqC.nd rfl (Or.inl rfl) (aqm (aqN (K := K)) (pv 8) (dqg (K := K) rfl PySem.F.plainAttrs_str PySem.F.slot_str_join PySem.F.type_str_join (hqM (K := K) rfl) aqp (aqa (jqm (fx := ["_law_bits"]) (fr := [1]) rfl rfl (by decide +kernel) rfl (by decide +kernel) rfl (by decide +kernel) rfl (.cons rfl rfl rfl rfl .nil) rfl (iqh (K := K) rfl (aqs (aqf (K := K) rfl) (pv 5) aqe (fun _ _ => rfl))) (fun _ _ _ => mqA) (fun _ _ _ => (aqg (bq9 g) (hr.mono (by decide)) rfl g.bqZ g.bqw.kp g.bq0 .nil pass0 (aqa (pv 0) (aqa aqp (aqa (pv 1) aqb)))))) aqb))))
      (aqx (aqj (i := 8) aqC.nd rfl (Or.inl rfl) (aqm (aqN (K := K)) (pv 8) (aqs (aqf (K := K) rfl) (cqU (aqa aqp (aqa aqp aqb))) (bqC kqZ rfl g.pqz mqw (aqa (iq8 (aqs (aqf (K := K) rfl) (pv 5) aqe (fun _ _ => rfl)) (fqb (aq4 (xqL hr.units) (aqs (aqf (K := K) rfl) (pv 5) aqe (fun _ _ => rfl)) (aqy aqb) (nomark _)))) aqb)) (fun _ _ => rfl))))
      (aqx (aqE (aqk cqq (pv 6) aqF (nomark _))
        (aqc (aqj (i := 8) aqC.nd rfl (Or.inl rfl) (aqm (aqN (K := K)) (pv 8) (aqg (iqL g) (hr.mono (by decide)) rfl g.fqV g.dqG.kp g.fqI .nil pass0 (aqa (pv 6) (aqa (pv 1) aqb)))))) aqo)
      (aqx (aqE (aqk cqq (pv 7) aqF (nomark _))
        (aqc (aqj (i := 8) aqC.nd rfl (Or.inl rfl) (aqm (aqN (K := K)) (aqm (aqN (K := K)) (pv 8) aqp) (aqg (bq9 g) (hr.mono (by decide)) rfl g.bqZ g.bqw.kp g.bq0 .nil pass0 (aqa (pv 7) (aqa aqp (aqa (pv 1) aqb))))))) aqo)
      (aqc (aql (pv 8)))))))))))), ?_⟩
    have c1 : Str.ofString ":" = ⟨[58].toArray⟩ := by decide +kernel
    have c2 : Str.ofString "//" = ⟨[47, 47].toArray⟩ := by decide +kernel
    have c3 : Str.ofString "/" = ⟨[47].toArray⟩ := by decide +kernel
    have c4 : Str.ofString "#" = ⟨[35].toArray⟩ := by decide +kernel
    have eS : Str.ofString "!$'()*,;@&=+" = ⟨frS.toArray⟩ := by unfold frS; simp
    have eM : Str.ofString "!$'()*,;@&=+/?:" = ⟨frM.toArray⟩ := by unfold frM; simp
    rw [c1, c2, c3, c4, eS, eM]
    obtain ⟨px, w, vq, rfl, hpx, hwx, hqx⟩ := jqY hI
    obtain ⟨pw, ps, rfl, hpw, hps⟩ := pqP (r := x.rooted) (e := x.ends) (ss := x.steps) hwx
    have npx := hb.ne hpx
    have npw := hb.ne hpw
    have nps := hb.ne hps
    have sl : (schT x.scheme).length ≤ 9 := by
      unfold schT
      split
      · simp
      · have := wf.sch.1; simp only [List.length_append, List.length_cons, List.length_nil]; omega
    have s128 : ∀ c ∈ schT x.scheme, c < 128 := by
      intro c hc
      unfold schT at hc
      split at hc
      · cases hc
      · rcases List.mem_append.mp hc with hc | hc
        · exact hqV (kq4 (wf.sch.2.1 c hc))
        · rw [List.mem_singleton.mp hc]; decide
    walk_at "rd"
    refine ⟨px, _, rfl, .of hpx, rfl, _, _, rfl, _, _, rfl, _, _, rfl, _, _, rfl, _, _, rfl, _, _, rfl, rfl, ?_⟩
    obtain ⟨S, hSS⟩ : ∃ S : List Nat → St, S = fun t => [some (.ref px), some (.ref q), some (.str ⟨x.scheme.toArray⟩), some (otV x.house), some (itV x.door), some (.ref pw), some vq, some (otV x.mark), some (.str ⟨t.toArray⟩)] := ⟨_, rfl⟩
    refine ⟨fun σ H1 => SameBut q H H1 ∧ Bt H1 q n ∧ σ = S (schT x.scheme), ?_, ?_⟩
    · rw [hSS]
      refine ⟨by decide, fun pl H1 hn1 s1 hpl => ?_⟩
      walk_at "rd"
      by_cases hs : x.scheme = []
      · refine ⟨_, .str ⟨([] : List Nat).toArray⟩, .inl (.of hpl), ?_, ?_⟩
        · rw [hs, if_pos rfl]
          rfl
        walk_at "rd"
        refine ⟨aqn (by rw [hs]; decide), s1.but, hb.same s1, ?_⟩
        rw [hs]
        rfl
      · refine ⟨_, .str ⟨[58].toArray⟩, .inl (.of hpl), ?_, ?_⟩
        · rw [if_neg (fun z => hs (mqx.mp z))]
          rfl
        walk_at "rd"
        refine ⟨aqn (by have := wf.sch.1; simp; omega), s1.but, hb.same s1, ?_⟩
        unfold schT
        rw [if_neg hs]
    rintro σ H1 ⟨s1, b1, e1⟩
    rw [hSS] at e1
    subst e1
    walk_at "rd"
    refine ⟨fun σ H2 => ∃ h, HouW x.house h ∧ h.length ≤ 41 ∧ (∀ c ∈ h, c < 128) ∧ SameBut q H H2 ∧ Bt H2 q (n + 13) ∧ σ = S (schT x.scheme ++ h), ?_, ?_⟩
    · rw [hSS]
      cases hh : x.house with
      | none => exact ite2 (fun z => absurd rfl z) (fun _ => ⟨[], rfl, by decide, by simp, s1, b1.le (by omega), by simp⟩)
      | some l =>
        refine ite2 (fun _ => ?_) (fun z => absurd (Classical.not_not.mp z) (by simp [otV]))
        have hl := wf.hou l hh
        have hl2 := ti.hou l hh
        refine ⟨aqn (by omega), ?_⟩
        refine ⟨l, [], q, n, rfl, b1, by omega, by omega, hl.2, by decide, by decide, fun a H2 ha hal s2 b2 => ?_⟩
        walk_at "rd"
        refine ⟨aqn (by simp; omega), 47 :: 47 :: a, ⟨a, rfl, ha, fun z => by rw [z] at hl; exact absurd hl.1.1 (by decide), hl.1.2⟩, by simp; omega, ?_, s1.trans s2, b2.le (by omega), by simp⟩
        intro c hc
        rcases List.mem_cons.mp hc with rfl | hc
        · decide
        · rcases List.mem_cons.mp hc with rfl | hc
          · decide
          · exact jqs (by simp) ha c hc
    rintro σ H2 ⟨h, hH, hhl, h128, s2, b2, e2⟩
    rw [hSS] at e2
    subst e2
    walk_at "rd"
    refine ⟨fun σ H3 => SameBut q H H3 ∧ Bt H3 q (n + 13) ∧ σ = S (schT x.scheme ++ (h ++ dooT x.door)), ?_, ?_⟩
    · rw [hSS]
      cases hd : x.door with
      | none => exact ite2 (fun z => absurd rfl z) (fun _ => ⟨s2, b2, by simp [dooT]⟩)
      | some i =>
        refine ite2 (fun _ => ?_) (fun z => absurd (Classical.not_not.mp z) (by simp [itV]))
        have hdi := (wf.doo i hd).1
        have hdl := oql hdi.1 hdi.2
        refine ⟨aqn (by rw [List.length_append]; omega), i, rfl, lg hdi.1 hdi.2, aqn (by rw [pq8, dqy]; simp only [List.length_append, List.length_cons, List.length_nil]; omega), s2, b2, ?_⟩
        rw [pq8, oqz]
        simp [dooT]
    rintro σ H3 ⟨s3, b3, e3⟩
    rw [hSS] at e3
    subst e3
    have dl : (dooT x.door).length ≤ 6 := by
      cases hh : x.door with
      | none => simp [dooT]
      | some i => have b := (wf.doo i hh).1; have := oql b.1 b.2; simp only [dooT, List.length_cons]; omega
    have d128 : ∀ c ∈ dooT x.door, c < 128 := by
      intro c hc
      cases hh : x.door with
      | none => rw [hh] at hc; cases hc
      | some i =>
        rw [hh] at hc
        simp only [dooT, List.mem_cons] at hc
        rcases hc with rfl | hc
        · decide
        · have := sqG (wf.doo i hh).1.1 c hc; omega
    obtain ⟨t3, et3⟩ : ∃ t3, t3 = schT x.scheme ++ (h ++ dooT x.door) := ⟨_, rfl⟩
    have t3l : t3.length ≤ 56 := by rw [et3, List.length_append, List.length_append]; omega
    have t3c : ∀ c ∈ t3, c < 128 := by
      intro c hc
      rw [et3] at hc
      rcases List.mem_append.mp hc with hc | hc
      · exact s128 c hc
      · rcases List.mem_append.mp hc with hc | hc
        · exact h128 c hc
        · exact d128 c hc
    rw [← et3]
    walk_at "rd"
    refine ⟨fun σ H4 => SameBut q H H4 ∧ Bt H4 q (n + 13) ∧ σ = S (t3 ++ (if x.rooted then [47] else [])), ?_, ?_⟩
    · rw [hSS]
      refine ⟨by decide, fun pl H4 hn4 s4 hpl => ⟨_, _, .inr (.of ((s3.trans s4.but) _ _ npw hpw)), rfl, ?_⟩⟩
      walk_at "rd"
      cases hr : x.rooted
      · refine ⟨_, .str ⟨([] : List Nat).toArray⟩, .inl (.of hpl), rfl, ?_⟩
        walk_at "rd"
        exact ⟨aqn (by simp; omega), s3.trans s4.but, b3.same s4⟩
      · refine ⟨_, .str ⟨[47].toArray⟩, .inl (.of hpl), rfl, ?_⟩
        walk_at "rd"
        exact ⟨aqn (by simp; omega), s3.trans s4.but, b3.same s4⟩
    rintro σ H4 ⟨s4, b4, e4⟩
    rw [hSS] at e4
    subst e4
    obtain ⟨t4, et4⟩ : ∃ t4, t4 = t3 ++ (if x.rooted then [47] else []) := ⟨_, rfl⟩
    have t4l : t4.length ≤ 57 := by
      rw [et4, List.length_append]
      have : (if x.rooted then [47] else [] : List Nat).length ≤ 1 := by split <;> simp
      omega
    have t4c : ∀ c ∈ t4, c < 128 := by
      intro c hc
      rw [et4] at hc
      rcases List.mem_append.mp hc with hc | hc
      · exact t3c c hc
      · split at hc
        · rw [List.mem_singleton.mp hc]; decide
        · cases hc
    rw [← et4]
    walk_at "rd"
    refine ⟨fun σ H5 => ∃ ws, StWs x.steps ws ∧ (∀ w ∈ ws, w.length ≤ 27 ∧ ∀ c ∈ w, c < 128) ∧ SameBut q H H5 ∧ Bt H5 q (n + 13 + 9 * x.steps.length) ∧ σ = S (t4 ++ joinT 47 ws), ?_, ?_⟩
    · rw [hSS]
      refine ⟨_, _, .inr (.of (s4 _ _ npw hpw)), rfl, ps, rfl, ⟨_, .of (s4 _ _ nps hps)⟩, fun p hp => ?_⟩
      have hpn : p ≠ q := b4.ne0 hp
      have hHp : H p = none := s4.free hp hpn
      refine rqS (xs := x.steps.map fun l => V.str ⟨l.toArray⟩) (fun i ys H2 => ∃ ws : List (List Nat), ys = ws.map sV ∧ StWs (x.steps.take i) ws ∧ (∀ w ∈ ws, w.length ≤ 27 ∧ ∀ c ∈ w, c < 128) ∧ SameBut q H H2 ∧ Bt H2 q (n + 13 + 9 * i)) (aqn (by rw [List.length_map]; omega)) ⟨[], rfl, .nil, by simp, s4.upd hHp, b4.upd hpn⟩ ?_ ?_ ?_
      · rintro i ys H2 ⟨_, _, _, _, sb, _⟩
        exact .of (sb _ _ nps hps)
      · rintro i v ys H2 T hv ⟨ws, rfl, hws, hwl, sb, b⟩ hp2 hT
        rw [List.getElem?_map] at hv
        obtain ⟨s, hs, rfl⟩ := Option.map_eq_some_iff.mp hv
        have hsm := List.mem_of_getElem? hs
        have hso := wf.stp s hsm
        have hsl := ti.stp s hsm
        have hi : i < x.steps.length := (List.getElem?_eq_some_iff.mp hs).1
        walk_at "rd"
        refine ⟨s, frS, q, _, rfl, b, by omega, by omega, hso.2, jqt, uqM.1, fun a H3 ha hal s3 b3 => hT _ H3 (s3 _ _ hpn hp2) ⟨ws ++ [a], by rw [List.map_append]; rfl, by rw [List.take_add_one, hs]; exact hws.snoc ha, ?_, (sb.trans s3).upd hHp, (b3.le (by omega)).upd hpn⟩⟩
        intro w hw
        rcases List.mem_append.mp hw with hw | hw
        · exact hwl w hw
        · rw [List.mem_singleton.mp hw]
          exact ⟨by omega, jqs uqM.2 ha⟩
      · rintro ys H2 ⟨ws, rfl, hws, hwl, sb, b⟩ hp2
        rw [List.length_map, List.take_of_length_le (Nat.le_refl _)] at hws
        rw [List.length_map] at b
        have hwn := hws.length
        have hj : (ws.map List.length).sum + ws.length ≤ (joinT 47 ws).length + 1 := kqw (sep := 47) ws
        have hjb := eqH (sep := 47) (m := 27) (ys := ws) fun s hs => (hwl s hs).1
        have hjm : ws.length * (27 + 1) ≤ 200 * 28 := Nat.mul_le_mul (by omega) (Nat.le_refl _)
        walk_at "rd"
        refine ⟨ws.map fun l => ⟨l.toArray⟩, by rw [List.map_map (f := fun l : List Nat => (⟨l.toArray⟩ : Str)) (g := V.str)]; exact .of hp2, ?_, ?_⟩
        · rw [mq2, List.length_map]
          omega
        rw [show (⟨#[47]⟩ : Str) = ⟨[47].toArray⟩ from rfl, kqz]
        walk_at "rd"
        exact ⟨aqn (by omega), ws, hws, hwl, sb, b, rfl⟩
    rintro σ H5 ⟨ws, hws, hwl, s5, b5, e5⟩
    rw [hSS] at e5
    subst e5
    have hwn := hws.length
    have hjb := eqH (sep := 47) (m := 27) (ys := ws) fun s hs => (hwl s hs).1
    have hjm : ws.length * (27 + 1) ≤ 200 * 28 := Nat.mul_le_mul (by omega) (Nat.le_refl _)
    obtain ⟨t5, et5⟩ : ∃ t5, t5 = t4 ++ joinT 47 ws := ⟨_, rfl⟩
    have t5l : t5.length ≤ 5700 := by rw [et5, List.length_append]; omega
    have t5c : ∀ c ∈ t5, c < 128 := by
      intro c hc
      rw [et5] at hc
      rcases List.mem_append.mp hc with hc | hc
      · exact t4c c hc
      · exact kqH (P := fun c => c < 128) (by decide) (fun s hs => (hwl s hs).2) c hc
    rw [← et5]
    walk_at "rd"
    refine ⟨fun σ H6 => SameBut q H H6 ∧ Bt H6 q (n + 13 + 9 * x.steps.length) ∧ σ = S (t5 ++ (if x.ends && !x.steps.isEmpty then [47] else [])), ?_, ?_⟩
    · rw [hSS]
      refine ⟨by decide, fun pl H6 hn6 s6 hpl => ⟨_, _, .inr (.of ((s5.trans s6.but) _ _ npw hpw)), rfl, _, rfl, ite2 (fun he => ?_) (fun he => ?_)⟩⟩
      · refine ⟨_, _, .inr (.of ((s5.trans s6.but) _ _ npw hpw)), rfl, Nat.zero_le _, fun pt H7 hn7 s7 hpt => ?_⟩
        have s67 := s6.trans s7
        refine ⟨.tuple (x.steps.map st), .tuple [], .tup ((s5.trans s67.but) _ _ nps hps) (kqI _), .tup hpt .nil, fqq wf.sg, by decide, ?_⟩
        rw [mqZ, show (x.steps.map st).isEmpty = x.steps.isEmpty by cases x.steps <;> rfl]
        walk_at "rd"
        cases hE : x.steps.isEmpty
        · refine ⟨_, .str ⟨[47].toArray⟩, .inl (.of (s7 _ _ hpl)), rfl, ?_⟩
          walk_at "rd"
          exact ⟨aqn (by simp; omega), s5.trans s67.but, b5.same s67, by simp [he]⟩
        · refine ⟨_, .str ⟨([] : List Nat).toArray⟩, .inl (.of (s7 _ _ hpl)), rfl, ?_⟩
          walk_at "rd"
          exact ⟨aqn (by simp; omega), s5.trans s67.but, b5.same s67, by simp⟩
      · refine ⟨_, .str ⟨([] : List Nat).toArray⟩, .inl (.of hpl), rfl, ?_⟩
        walk_at "rd"
        exact ⟨aqn (by simp; omega), s5.trans s6.but, b5.same s6, by simp [he]⟩
    rintro σ H6 ⟨s6, b6, e6⟩
    rw [hSS] at e6
    subst e6
    obtain ⟨t6, et6⟩ : ∃ t6, t6 = t5 ++ (if x.ends && !x.steps.isEmpty then [47] else []) := ⟨_, rfl⟩
    have t6l : t6.length ≤ 5701 := by
      rw [et6, List.length_append]
      have : (if x.ends && !x.steps.isEmpty then [47] else [] : List Nat).length ≤ 1 := by split <;> simp
      omega
    have t6c : ∀ c ∈ t6, c < 128 := by
      intro c hc
      rw [et6] at hc
      rcases List.mem_append.mp hc with hc | hc
      · exact t5c c hc
      · split at hc
        · rw [List.mem_singleton.mp hc]; decide
        · cases hc
    rw [← et6]
    walk_at "rd"
    refine ⟨fun σ H7 => ∃ qT, QueW x.quest qT ∧ (∀ c ∈ qT, c < 128) ∧ qT.length ≤ 200 ∧ SameBut q H H7 ∧ Bt H7 q (n + 13 + 9 * x.steps.length + 33) ∧ σ = S (t6 ++ qT), ?_, ?_⟩
    · rw [hSS]
      cases hq : x.quest with
      | none =>
        rw [hq] at hqx
        cases hqx
        exact ite2 (fun z => absurd rfl z) (fun _ => ⟨[], rfl, by simp, by simp, s6, b6.le (by omega), by simp⟩)
      | some pp =>
        rw [hq] at hqx
        have hne : vq ≠ .non := by
          obtain ⟨a1, a2, rfl, _⟩ := iqs hqx
          simp
        refine ite2 (fun _ => ?_) (fun z => absurd (Classical.not_not.mp z) hne)
        have hk := ti.que pp hq
        refine ⟨pp, vq, q, _, rfl, hqx.mono (hb.toT s6), b6, by omega, hk.1, fun p hp => ⟨wf.que pp hq p hp, hk.2 p hp⟩, fun qT H7 hQ qc ql s7 b7 => ?_⟩
        walk_at "rd"
        exact ⟨aqn (by omega), qT, hQ, qc, ql, s6.trans s7, b7, rfl⟩
    rintro σ H7 ⟨qT, hQ, qc, ql, s7, b7, e7⟩
    rw [hSS] at e7
    subst e7
    walk_at "rd"
    refine ⟨fun σ H8 => ∃ mT, MarW x.mark mT ∧ (∀ c ∈ mT, c < 128) ∧ mT.length ≤ 30 ∧ SameBut q H H8 ∧ Bt H8 q (n + 2000) ∧ σ = S (t6 ++ qT ++ mT), ?_, ?_⟩
    · rw [hSS]
      cases hm : x.mark with
      | none => exact ite2 (fun z => absurd rfl z) (fun _ => ⟨[], rfl, by simp, by simp, s7, b7.le (by omega), by simp⟩)
      | some l =>
        refine ite2 (fun _ => ?_) (fun z => absurd (Classical.not_not.mp z) (by simp [otV]))
        have hl := wf.mar l hm
        have hl2 := ti.mar l hm
        refine ⟨aqn (by rw [List.length_append]; omega), ?_⟩
        refine ⟨l, frM, q, _, rfl, b7, by omega, by omega, hl, sqS, uqK.1, fun a H8 ha hal s8 b8 => ?_⟩
        walk_at "rd"
        refine ⟨aqn (by simp only [List.length_append, List.length_cons, List.length_nil]; omega), 35 :: a, ⟨a, rfl, ha⟩, ?_, by simp only [List.length_cons]; omega, s7.trans s8, b8.le (by omega), by simp⟩
        intro c hc
        rcases List.mem_cons.mp hc with rfl | hc
        · decide
        · exact jqs uqK.2 ha c hc
    rintro σ H8 ⟨mT, hM, mc, ml, s8, b8, e8⟩
    rw [hSS] at e8
    subst e8
    walk_at "rd"
    have hR := xqC wf hH (qqM fun i e => (wf.doo i e).1) (vq8 (e := x.ends) hws fun s hs z => by have := (wf.stp s hs).1; rw [z] at this; cases this) hQ hM
    have eT : t6 ++ qT ++ mT = schT x.scheme ++ (h ++ (dooT x.door ++ ((if x.rooted then [47] else []) ++ ((joinT 47 ws ++ if x.ends && !x.steps.isEmpty then [47] else []) ++ (qT ++ mT))))) := by
      rw [et6, et5, et4, et3]
      simp only [List.append_assoc]
    rw [← eT] at hR
    refine k _ H8 hR ?_ (by simp only [List.length_append]; omega) s8 b8
    intro c hc
    rcases List.mem_append.mp hc with hc | hc
    · rcases List.mem_append.mp hc with hc | hc
      · exact t6c c hc
      · exact qc c hc
    · exact mc c hc
theorem lq7 (g : G K mg) : FnOk P w K mg base CX0 5 g.equ g.dqS ["base_way", "goal_way"] (lqX K) := by
  refine g.gqa.ok bqY (fun vs H Q E h => ?_) (fun cdv A outer s H vs Q E hr h => ?_)
  · obtain ⟨b, g, vb, vg, rfl, _⟩ := h; rfl
  · obtain ⟨b, g', vb, vg, rfl, hB, hG, eb, eg, hb, hg, k⟩ := h
    refine ⟨_, (aqd (aqj (i := 2) bqY.nd rfl (Or.inl rfl) (aqg (kqM g) (hr.mono (by decide)) rfl g.kqA g.iq7.kp g.kqG .nil pass0 (aqa (pv 0) aqb)))
      (aqd (aqj (i := 3) bqY.nd rfl (Or.inl rfl) (aqg (kqM g) (hr.mono (by decide)) rfl g.kqA g.iq7.kp g.kqG .nil pass0 (aqa (pv 1) aqb)))
      (aqd (aqj (i := 4) bqY.nd rfl (Or.inl rfl) (aqg (iqX g) (hr.mono (by decide)) rfl g.fqQ g.dqJ.kp g.fqR .nil pass0 (aqa (pv 2) (aqa (pv 3) aqb))))
      (aqx (aqj (i := 5) bqY.nd rfl (Or.inl rfl) (aq0 (aqB (aqs (aqf (K := K) rfl) (pv 1) (aqh (v := mqu) rfl g.lqJ ⟨_, rfl⟩) (fun _ _ => rfl))) (aqy aqb) (aqP (gqB (K := K) rfl) (aqs (aqf (K := K) rfl) (pv 1) (aqh (v := jqH) rfl g.iqk ⟨_, rfl⟩) (fun _ _ => rfl)) (aqO (oqc jqX aqe)) bql)))
      (aqd (aqj (i := 6) bqY.nd rfl (Or.inl rfl) (aqm (gqw (K := K) rfl) (aqm (gqw (K := K) rfl) (aqm uq5 (aqy (aqa (aqh (v := k_UP) rfl g.c_UP ⟨_, rfl⟩) aqb)) (aqm mqI (aqv (aqQ (K := K) rfl) rfl g.fqT PySem.boot_len (aqa (pv 2) aqb)) (pv 4))) (aqP (gqB (K := K) rfl) (pv 3) (aqO (pv 4)) bql)) (pv 5)))
      (aqc (aql (aqy (aqa dqe (aqa (aq0 (aqk kql (aqv (aqQ (K := K) rfl) rfl g.fqT PySem.boot_len (aqa (pv 6) aqb)) aqe (nomark _)) (pv 6) (aqy (aqa (aqh (v := oqP) rfl g.nq0 ⟨_, rfl⟩) aqb))) (aqa (aqs (aqf (K := K) rfl) (pv 1) (aqh (v := mqu) rfl g.lqJ ⟨_, rfl⟩) (fun _ _ => rfl)) aqb))))))))))), ?_⟩
    obtain ⟨pg, qg, rfl, hpg, hqg⟩ := jqJ (r := g'.1) (e := g'.2.2) (ss := g'.2.1) hG
    have hhb := dqA b
    have hhg := dqA g'
    have hc1 := mqY (holder b) (holder g')
    have hc2 := mqN (holder b) (holder g')
    have hl1 := nq5 g'
    walk_at "rd"
    refine ⟨b, vb, rfl, hB, by omega, fun ph H1 s1 hph => ⟨g', _, rfl, hG.mono s1, by omega, fun pt H2 s2 hpt => ⟨ph, pt, holder b, holder g', rfl, s2.tup hph, hpt, ?_⟩⟩⟩
    have s12 := s1.trans s2
    refine ⟨fun σ H3 => Same H2 H3 ∧ ∃ pl : Addr, σ = [some vb, some (.ref pg), some (.ref ph), some (.ref pt), some (.int (comm (holder b) (holder g'))), some (.ref pl), none] ∧ SqT K H3 pl ((lastW g').map sV), ?_, ?_⟩
    · walk_at "rd"
      refine ⟨_, _, .inr (s12.tup hpg), rfl, _, rfl, ?_⟩
      by_cases he : g'.2.2 = true
      · rw [if_pos he]
        refine ⟨by decide, fun pl H3 hn3 s3 hpl => ⟨s3, ?_⟩⟩
        rw [lastW, eg, if_pos he]
        exact .of hpl
      · rw [if_neg he]
        refine ⟨_, _, .inr (s12.tup hpg), rfl, ?_⟩
        walk_at "rd"
        refine ⟨_, s12.tup hqg, fun pl H3 s3 hpl => ⟨s3, ?_⟩⟩
        rw [kqD, qqP] at hpl
        rw [lastW, eg, if_neg he]
        exact hpl
    rintro σ H3 ⟨s3, pl, rfl, hpl⟩
    simp only [kup, kst]
    walk_at "rd"
    refine ⟨by decide, fun pu H4 hn4 s4 hpu => ⟨_, .inr ((s2.trans (s3.trans s4)).tup hph), ?_⟩⟩
    have em : ((((holder b).map sV).length : Int) - (comm (holder b) (holder g') : Int)).toNat = (holder b).length - comm (holder b) (holder g') := by rw [List.length_map]; omega
    rw [em]
    refine ⟨_, hpu, by rw [List.length_map]; omega, by rw [List.length_map]; omega, aqn (by simp; omega), fun pr H5 s5 hpr => ⟨_, ((s3.trans s4).trans s5).tup hpt, fun pd H6 s6 hpd => ?_⟩⟩
    rw [show (List.replicate ((holder b).length - comm (holder b) (holder g')) [sV sUp]).flatten = (List.replicate ((holder b).length - comm (holder b) (holder g')) sUp).map sV by simp] at hpr
    rw [kqD, sqo _ hc2] at hpd
    refine ⟨_, _, .of (s6 _ _ hpr), hpd, aqn (by simp; omega), fun pc H7 s7 hpc => ⟨_, _, hpc, (((s4.trans s5).trans s6).trans s7).tup hpl, aqn (by simp; omega), fun pe H8 s8 hpe => ?_⟩⟩
    rw [← List.map_append, ← List.map_append, show List.replicate ((holder b).length - comm (holder b) (holder g')) sUp ++ (holder g').drop (comm (holder b) (holder g')) ++ lastW g' = betw0 b g' from rfl] at hpe
    have t8 : Same H2 H8 := ((((s3.trans s4).trans s5).trans s6).trans s7).trans s8
    have t08 := s12.trans t8
    refine ⟨_, .inr hpe, ?_⟩
    rw [List.length_map]
    by_cases h0 : betw0 b g' = []
    · refine ite2 (fun z => absurd z (by rw [h0]; decide)) (fun _ => ?_)
      refine ⟨by decide, fun p9 H9 hn9 s9 hp9 => ⟨_, _, .inr ((t08.trans s9).tup hpg), rfl, by decide, fun p10 H10 hn10 s10 hp10 => k _ H10 ((t08.trans s9).trans s10) ?_⟩⟩
      rw [betw, if_pos h0]
      exact wayK (.of hp10) (.of (s10 _ _ hp9))
    · have := List.length_pos_iff.mpr h0
      refine ite2 (fun _ => ?_) (fun z => absurd (by omega) z)
      refine ⟨_, _, .inr (t08.tup hpg), rfl, by decide, fun p10 H10 hn10 s10 hp10 => k _ H10 (t08.trans s10) ?_⟩
      rw [betw, if_neg h0]
      exact wayK (.of hp10) (s10.tup hpe)
theorem oqY (g : G K mg) : FnOk P w K mg base CX0 5 g.gqe g.fqi ["cursor", "must_be_rooted"] (jqK K g.aqu) := by
  refine g.iqj.ok cqd (fun vs H Q E h => ?_) (fun cdv A outer s H vs Q E hr h => ?_)
  · obtain ⟨p, t, v, rest, i, must, r, ss, e, rfl, _⟩ := h; rfl
  · obtain ⟨p, t, v, rest, i, must, r, ss, e, rfl, hcur, hi, hl, h128, hd, hw, he, hmr, hst, h47, k⟩ := h
    refine ⟨_, (aqx (aqj (i := 2) cqd.nd rfl (Or.inl rfl) (dqo (pv 0) g.aqq g.aqG (aqM g) (hr.mono (by decide)) g.aqK .nil pass0 (aqa aqp aqb)))
      (aqx (aqE (PW.pt (fqJ (aqB (pv 1)) (dq9 (aq2 (aqB (pv 2))))))
        (aqc (aql (aqy (aqa dqe (aqa (aqy aqb) (aqa dqe aqb)))))) aqo)
      (aqd (aqj (i := 3) cqd.nd rfl (Or.inl rfl) (cqU aqb))
      (aqd (aqj (i := 4) cqd.nd rfl (Or.inl rfl) (pv 2))
      (aqx (aqj (i := 5) cqd.nd rfl (Or.inl rfl) (aqg (dvs := [.non]) (cqy g) (hr.mono (by decide)) rfl g.cqp g.bqI.kp g.cqw (.cons rfl .nil) pass0 (aqa (pv 0) (aqa (aqh (v := eqK) rfl g.eq9 ⟨_, rfl⟩) aqb))))
      (aqd (iqN PassesOwn.never (aqk hqX (pv 5) aqp (nomark _))
      (aqd (dqu (dqg (K := K) rfl PySem.F.plainAttrs_list PySem.F.slot_list_append PySem.F.type_list_append cqj (pv 3) (aqa (pv 5) aqb)))
      (aqd (aqj (i := 4) cqd.nd rfl (Or.inl rfl) (dqo (pv 0) g.aqq g.aqG (aqM g) (hr.mono (by decide)) g.aqK .nil pass0 (aqa aqp aqb)))
      (aqc (aqj (i := 5) cqd.nd rfl (Or.inl rfl) (aqg (dvs := [.non]) (cqy g) (hr.mono (by decide)) rfl g.cqp g.bqI.kp g.cqw (.cons rfl .nil) pass0 (aqa (pv 0) (aqa (aqh (v := eqK) rfl g.eq9 ⟨_, rfl⟩) aqb))))))))
      (aqc (aql (aqy (aqa (pv 2) (aqa (bqC (dqI (K := K) rfl) rfl g.eqb cq8 (aqa (pv 3) aqb)) (aqa (pv 4) aqb)))))))))))), ?_⟩
    have eF : eqK = .str ⟨frS.toArray⟩ := by
      show V.str (Str.ofString _) = _
      unfold frS; simp
    have e1 : Str.ofString "/" = ⟨[47].toArray⟩ := by decide +kernel
    rw [eF, e1]
    walk_at "rd"
    refine ⟨fun σ H1 => SameBut p H H1 ∧ ∃ j, σ = [some (.ref p), some (.bl must), some (.bl r), none, none, none] ∧ Cur H1 g.aqu p t j ∧ j ≤ t.length ∧ t.drop j = v ++ rest, ?_, ?_⟩
    · cases r with
      | true => exact aqw hcur (dqb (w := [47]) hcur hi hl hd fun H1 s1 c1 hi1 hd1 => ⟨s1, _, rfl, c1, hi1, hd1⟩)
      | false => exact aqw hcur (gqz hcur hi hl (show t.drop i = v ++ rest from hd) (qql hw h47) ⟨SameBut.refl _ _, i, rfl, hcur, hi, hd⟩)
    rintro σ H1 ⟨s1, j, rfl, c1, hj, hdj⟩
    walk_at "rd"
    refine ⟨fun σ H2 => H2 = H1 ∧ σ = [some (.ref p), some (.bl must), some (.bl r), none, none, none], ?_, ?_⟩
    · by_cases hm : must = true
      · rw [if_pos hm, if_neg (by rw [hmr hm]; decide)]
        exact ⟨rfl, rfl⟩
      · rw [if_neg hm]
        exact ⟨rfl, rfl⟩
    rintro σ H2 ⟨rfl, rfl⟩
    walk_at "rd"
    refine ⟨by decide, fun q H3 hq s3 hq3 => ?_⟩
    have hqp : q ≠ p := by obtain ⟨dx, hp⟩ := c1; exact (aqz hp hq).symm
    have c3 := c1.same s3
    have sb3 : SameBut p H H3 := s1.trans s3.but
    have hqH : H q = none := s1.free hq hqp
    have hssl : ss.length ≤ t.length := by
      have h1 := tqV hw
      have h2 := congrArg List.length hdj
      rw [List.length_drop, List.length_append] at h2
      omega
    obtain ⟨W, hW⟩ : ∃ W : Nat → St → Hp → Prop, W = fun m σ H' => (∃ (dn : List (List Nat)) (s : List Nat) (ss' : List (List Nat)) (v' : List Nat) (j' : Nat) (en : Bool), m = ss'.length + 1 ∧ σ = [some (.ref p), some (.bl must), some (.bl r), some (.ref q), some (.bl en), some (.str ⟨s.toArray⟩)] ∧ s ≠ [] ∧ ss = dn ++ s :: ss' ∧ TlW ss' e v' ∧ Cur H' g.aqu p t j' ∧ j' ≤ t.length ∧ t.drop j' = v' ++ rest ∧ H' q = some (.lst (dn.map sV)) ∧ SameBut p H H')
        ∨ (m = 0 ∧ σ = [some (.ref p), some (.bl must), some (.bl r), some (.ref q), some (.bl e), some (.str ⟨#[]⟩)] ∧ H' q = some (.lst (ss.map sV)) ∧ SameBut p H H' ∧ Cur H' g.aqu p t (t.length - rest.length)) := ⟨_, rfl⟩
    have rl : ∀ {j'' : Nat} {v'' : List Nat}, t.drop j'' = v'' ++ rest → j'' + v''.length = t.length - rest.length ∨ t.length < j'' := fun {j'' v''} h => by
      have := congrArg List.length h
      rw [List.length_drop, List.length_append] at this
      omega
    refine ⟨fun σ H4 => ∃ m, W m σ H4, ?_, ?_⟩
    · cases hw with
      | none =>
        refine ⟨p, t, frS, [], [], rest, j, none, rfl, c3, hj, hl, h128, jqt, hdj, .nil, .inl hst, (fun m z => by cases z), fun H4 s4 c4 => ⟨0, ?_⟩⟩
        rw [hW]
        refine .inr ⟨rfl, by rw [he rfl], s4 _ _ hqp hq3, sb3.trans s4, ?_⟩
        rcases rl (v'' := []) hdj with z | z
        · rw [← z]; exact c4
        · omega
      | some hws hs htl =>
        rename_i s w0 ss0 v0
        refine ⟨p, t, frS, s, w0, v0 ++ rest, j, none, rfl, c3, hj, hl, h128, jqt, by rw [hdj, List.append_assoc], hws, .inl (qqg htl hst), (fun m z => by cases z), fun H4 s4 c4 => ⟨ss0.length + 1, ?_⟩⟩
        rw [hW]
        refine .inl ⟨[], s, ss0, v0, j + w0.length, r, rfl, rfl, hs, rfl, htl, c4, ?_, ?_, s4 _ _ hqp hq3, sb3.trans s4⟩
        · have := congrArg List.length hdj
          rw [List.length_drop, List.length_append, List.length_append] at this
          omega
        · rw [← List.drop_drop, hdj, List.append_assoc, List.drop_left]
    rintro σ H4 ⟨m, hm⟩
    unfold L2.Later
    rw [L2.sqO]
    refine lqR W m hm ?_
    rintro m σ H5 hm
    rw [hW] at hm
    rcases hm with ⟨dn, s, ss', v', j', en, rfl, rfl, hs, ess, htl, c5, hj5, hd5, hq5, sb5⟩ | ⟨rfl, rfl, hq5, sb5, c5⟩
    · walk_at "rd"
      refine ite2 (fun _ => ⟨_, fun _ _ h => h, ⟨_, .of hq5⟩, _, hq5, ?_, ?_⟩) (fun z => absurd (mqx.mp (Classical.not_not.mp z)) hs)
      · have := congrArg List.length ess
        rw [List.length_append, List.length_cons] at this
        rw [List.length_map]
        exact Nat.lt_of_le_of_lt (show dn.length ≤ 100000 by omega) (by decide)
      have c6 : Cur (upd H5 q (.lst (dn.map sV ++ [sV s]))) g.aqu p t j' := by
        obtain ⟨dx, hp⟩ := c5
        exact ⟨dx, by rw [aqI hqp.symm]; exact hp⟩
      have sb6 : SameBut p H (upd H5 q (.lst (dn.map sV ++ [sV s]))) := sb5.upd hqH
      have hq6 : (upd H5 q (.lst (dn.map sV ++ [sV s]))) q = some (.lst ((dn ++ [s]).map sV)) := by rw [aqr, List.map_append]; rfl
      generalize upd H5 q (.lst (dn.map sV ++ [sV s])) = H6 at c6 sb6 hq6 ⊢
      cases htl with
      | stop =>
        refine aqw c6 (gqz c6 hj5 hl hd5 h47 ?_)
        refine ⟨p, t, frS, [], [], rest, j', none, rfl, c6, hj5, hl, h128, jqt, hd5, .nil, .inl hst, (fun m z => by cases z), fun H7 s7 c7 => ⟨0, by omega, ?_⟩⟩
        rw [hW]
        refine .inr ⟨rfl, rfl, by rw [ess]; exact s7 _ _ hqp hq6, sb6.trans s7, ?_⟩
        rcases rl (v'' := []) hd5 with z | z
        · rw [← z]; exact c7
        · omega
      | ends =>
        refine aqw c6 (dqb (w := [47]) (r := rest) c6 hj5 hl hd5 fun H7 s7 c7 hi7 hd7 => ?_)
        refine ⟨p, t, frS, [], [], rest, _, none, rfl, c7, hi7, hl, h128, jqt, hd7, .nil, .inl hst, (fun m z => by cases z), fun H8 s8 c8 => ⟨0, by omega, ?_⟩⟩
        rw [hW]
        refine .inr ⟨rfl, rfl, by rw [ess]; exact (s7.trans s8) _ _ hqp hq6, (sb6.trans s7).trans s8, ?_⟩
        rcases rl (v'' := []) hd7 with z | z
        · rw [← z]; exact c8
        · omega
      | more hws hs2 htl2 =>
        rename_i s2 w2 ss2 v2
        refine aqw c6 (dqb (w := [47]) (r := (w2 ++ v2) ++ rest) c6 hj5 hl hd5 fun H7 s7 c7 hi7 hd7 => ?_)
        refine ⟨p, t, frS, s2, w2, v2 ++ rest, _, none, rfl, c7, hi7, hl, h128, jqt, by rw [hd7, List.append_assoc], hws, .inl (qqg htl2 hst), (fun m z => by cases z), fun H8 s8 c8 => ⟨ss2.length + 1, by simp only [List.length_cons]; omega, ?_⟩⟩
        rw [hW]
        refine .inl ⟨dn ++ [s], s2, ss2, v2, _, true, rfl, rfl, hs2, by rw [ess, List.append_assoc]; rfl, htl2, c8, ?_, ?_, (s7.trans s8) _ _ hqp hq6, (sb6.trans s7).trans s8⟩
        · have := congrArg List.length hd7
          rw [List.length_drop, List.length_append, List.length_append] at this
          omega
        · rw [← List.drop_drop, hd7, List.append_assoc, List.drop_left]
    · walk_at "rd"
      exact ⟨_, .inl (.of hq5), fun pt Ha sa hpt => ⟨by decide, fun pw Hb nb sb' hpw => k _ Hb ((sb5.trans sa.but).trans sb'.but) ((c5.same sa).same sb') (wayT' hpw (sb' _ _ hpt))⟩⟩
theorem hq8 (g : G K mg) : FnOk P w K mg base CX0 5 g.eqp g.dqT ["cursor"] (mqa K g.aqu) := by
  refine g.eqA.ok lq1 (fun vs H Q E h => ?_) (fun cdv A outer s H vs Q E hr h => ?_)
  · obtain ⟨p, t, w, r, i, o, rfl, _⟩ := h; rfl
  · obtain ⟨p, t, w', r, i, o, rfl, hcur, hi, hl, h128, hd, hw, hst, hh, k⟩ := h
    refine ⟨_, (aqc (aql (aq0 (aqB (dqo (pv 0) g.aqq g.aqG (aqM g) (hr.mono (by decide)) g.aqK .nil pass0 (aqa aqp aqb))) (aqg (dvs := [.non]) (cqy g) (hr.mono (by decide)) rfl g.cqp g.bqI.kp g.cqw (.cons rfl .nil) pass0 (aqa (pv 0) (aqa (aqh (v := bqe) rfl g.bqN ⟨_, rfl⟩) aqb))) aqF))), ?_⟩
    have eF : bqe = .str ⟨frQ.toArray⟩ := by
      show V.str (Str.ofString _) = _
      unfold frQ; simp
    have e1 : Str.ofString "=" = ⟨[61].toArray⟩ := by decide +kernel
    rw [eF, e1]
    walk_at "rd"
    cases o with
    | none =>
      have hw : w' = [] := hw
      subst hw
      refine aqw hcur (gqz hcur hi hl hd (by simpa using hh) ⟨_, rfl, ?_⟩)
      rw [if_neg (by decide)]
      exact k H (SameBut.refl _ _) hcur
    | some s =>
      obtain ⟨v, rfl, hv⟩ := hw
      refine aqw hcur (dqb (w := [61]) (r := v ++ r) hcur hi hl hd fun H1 s1 c1 hi1 hd1 => ⟨_, rfl, ?_⟩)
      rw [if_pos rfl]
      refine ⟨p, t, frQ, s, v, r, _, none, rfl, c1, hi1, hl, h128, jqE, hd1, hv, .inl hst, (fun m z => by cases z), fun H2 s2 c2 => k H2 (s1.trans s2) ?_⟩
      rw [List.length_cons, show i + (v.length + 1) = i + [61].length + v.length by simp only [List.length_singleton]; omega]
      exact c2
theorem nqF (g : G K mg) : FnOk P w K mg base CX0 5 g.fqz g.eqt ["cursor"] (mqW K g.aqu) := by
  refine g.hqB.ok nqG (fun vs H Q E h => ?_) (fun cdv A outer s H vs Q E hr h => ?_)
  · obtain ⟨p, t, w, i, o, rfl, _⟩ := h; rfl
  · obtain ⟨p, t, w', i, o, rfl, hcur, hi, hl, h128, hd, hw, k⟩ := h
    refine ⟨_, (aqc (aql (aq0 (aqB (dqo (pv 0) g.aqq g.aqG (aqM g) (hr.mono (by decide)) g.aqK .nil pass0 (aqa aqp aqb))) (aqg (dvs := [.non]) (cqy g) (hr.mono (by decide)) rfl g.cqp g.bqI.kp g.cqw (.cons rfl .nil) pass0 (aqa (pv 0) (aqa (aqh (v := gqP) rfl g.gq6 ⟨_, rfl⟩) aqb))) aqF))), ?_⟩
    have eF : gqP = .str ⟨frM.toArray⟩ := by
      show V.str (Str.ofString _) = _
      unfold frM; simp
    have e1 : Str.ofString "#" = ⟨[35].toArray⟩ := by decide +kernel
    rw [eF, e1]
    walk_at "rd"
    cases o with
    | none =>
      have hw : w' = [] := hw
      refine aqw hcur (gqz hcur hi hl hd (by rw [hw]; simp) ⟨_, rfl, ?_⟩)
      rw [if_neg (by decide)]
      have e : i = t.length := by have := congrArg List.length hd; rw [List.length_drop, hw, List.length_nil] at this; omega
      exact k H (SameBut.refl _ _) (e ▸ hcur)
    | some s =>
      obtain ⟨v, rfl, hv⟩ := hw
      refine aqw hcur (dqb (r := v) hcur hi hl hd fun H1 s1 c1 hi1 hd1 => ⟨_, rfl, ?_⟩)
      rw [if_pos rfl]
      refine ⟨p, t, frM, s, v, [], _, none, rfl, c1, hi1, hl, h128, sqS, by rw [hd1, List.append_nil], hv, .inl kqR, (fun m z => by cases z), fun H2 s2 c2 => k H2 (s1.trans s2) ?_⟩
      have e : i + [35].length + v.length = t.length := by have := congrArg List.length hd1; rw [List.length_drop] at this; omega
      rw [e] at c2
      exact c2
theorem eqi (g : G K mg) : FnOk P w K mg base CX0 5 g.bqP g.aq6 ["cursor", "free", "most"] (hqY K g.aqu) := by
  refine g.bqM.ok eqk (fun vs H Q E h => ?_) (fun cdv A outer s H vs Q E hr h => ?_)
  · obtain ⟨p, t, fr, s, w, r, i, mo, rfl, _⟩ := h; rfl
  · obtain ⟨p, t, fr, s, w', r, i, mo, rfl, hcur, hi, hl, h128, hfl, hd, hw, hne, hst, hmo, k⟩ := h
    refine ⟨_, (aqd (aqj (i := 3) eqk.nd rfl (Or.inl rfl) (aqg (cqy g) (hr.mono (by decide)) rfl g.cqp g.bqI.kp g.jq0 .nil pass0 (aqa (pv 0) (aqa (pv 1) (aqa (pv 2) aqb)))))
      (aqd (aqE (aqk eqc (pv 3) aqp (nomark _))
        (aqc fqc) aqo)
      (aqc (aql (pv 3))))), ?_⟩
    walk_at "rd"
    refine ⟨p, t, fr, s, w', r, i, mo, rfl, hcur, hi, hl, h128, hfl, hd, hw, hst, hmo, fun H1 s1 c1 => ?_⟩
    walk_at "rd"
    rw [if_neg (fun z => hne (mqx.mp z))]
    exact k H1 s1 c1
theorem vqW (g : G K mg) : FnOk P w K mg base CX0 5 g.qqb g.nqq ["address"] (wqg K) := by
  refine g.sqg.ok sqL (fun vs H Q E h => ?_) (fun cdv A outer s H vs Q E hr h => ?_)
  · obtain ⟨x, v, rfl, _⟩ := h; rfl
  · obtain ⟨x, v, rfl, hI, wf, sz, k⟩ := h
    refine ⟨_, (aqx (aqj (i := 1) sqL.nd rfl (Or.inl rfl) (aq0 (aqB (aqg (eq3 g) (hr.mono (by decide)) rfl g.eqG g.dqF.kp g.eqD .nil pass0 (aqa (pv 0) aqb))) (aqm (aqD (K := K) rfl) (aqs (aqf (K := K) rfl) (pv 0) (aqh (v := hqD) rfl g.fqY ⟨_, rfl⟩) (fun _ _ => rfl)) aqp) aqp))
      (aqc (aql (aqm (aqD (K := K) rfl) (aqm (aqD (K := K) rfl) (aqm (aqD (K := K) rfl) (aqm (aqD (K := K) rfl) (pv 1) (aqg (lqY g) (hr.mono (by decide)) rfl g.iq0 g.fq6.kp g.iqS .nil pass0 (aqa (aqs (aqf (K := K) rfl) (pv 0) (aqh (v := gqv) rfl g.fqH ⟨_, rfl⟩) (fun _ _ => rfl)) (aqa (aqs (aqf (K := K) rfl) (pv 0) (aqh (v := qqN) rfl g.oqw ⟨_, rfl⟩) (fun _ _ => rfl)) aqb)))) (aqg (oqu g) (hr.mono (by decide)) rfl g.kqK g.iqp.kp g.lqD .nil pass0 (aqa (aqs (aqf (K := K) rfl) (pv 0) (aqh (v := lqI) rfl g.kqr ⟨_, rfl⟩) (fun _ _ => rfl)) aqb))) (aqg (jqD g) (hr.mono (by decide)) rfl g.gqM g.eqa.kp g.gqH .nil pass0 (aqa (aqs (aqf (K := K) rfl) (pv 0) (aqh (v := bqF) rfl g.bqp ⟨_, rfl⟩) (fun _ _ => rfl)) aqb))) (aqg (mq3 g) (hr.mono (by decide)) rfl g.jq1 g.gqT.kp g.jqO .nil pass0 (aqa (aqs (aqf (K := K) rfl) (pv 0) (aqh (v := qqC) rfl g.oqH ⟨_, rfl⟩) (fun _ _ => rfl)) aqb)))))), ?_⟩
    obtain ⟨p, w, q, rfl, hp, hwk, i4⟩ := dq4 hI
    obtain ⟨pw, ps, rfl, hw, hs⟩ := jqJ hwk
    have hlen := sz.all
    rw [Ad.shw] at hlen
    simp only [List.length_append] at hlen
    have c1 : Str.ofString ":" = ⟨[58].toArray⟩ := by decide +kernel
    rw [c1]
    walk_at "rd"
    refine ⟨fun σ H' => H' = H ∧ σ = [some (.ref p), some (.str ⟨(schT x.scheme).toArray⟩)], ?_, ?_⟩
    · refine ⟨p, x.scheme, _, rfl, hp, _, rfl, ?_⟩
      by_cases hh : x.scheme = []
      · refine ite2 (fun z => absurd hh (by simpa using z)) (fun _ => ⟨rfl, ?_⟩)
        rw [hh]; rfl
      · refine ite2 (fun _ => ?_) (fun z => absurd hh (by simpa using z))
        have e : schT x.scheme = x.scheme ++ [58] := by simp [schT, hh]
        refine ⟨_, _, .inr hp, rfl, ?_⟩
        rw [show (⟨#[58]⟩ : Str) = ⟨[58].toArray⟩ from rfl]
        walk_at "rd"
        rw [e, List.length_append] at hlen
        refine ⟨aqn (by simp at hlen ⊢; omega), ?_⟩
        rw [e]
    rintro σ H' ⟨rfl, rfl⟩
    walk_at "rd"
    refine ⟨_, _, .inr hp, rfl, _, _, .inr hp, rfl, x.house, x.door, rfl, fun l e => ⟨(wf.hou l e).1.2, (wf.hou l e).2⟩, wf.doo, fun H1 s1 => ?_⟩
    walk_at "rd"
    refine ⟨aqn (by simp; omega), _, _, .inr (s1.tup hp), rfl, x.rooted, x.ends, x.steps, pw, ps, rfl, s1.tup hw, s1.tup hs, fun s h => ⟨sz.stp s h, (wf.stp s h).2⟩, sz.num, by show x.wayT.length ≤ 90000; omega, fun H2 s2 => ?_⟩
    walk_at "rd"
    refine ⟨aqn (by show _ + x.wayT.length ≤ _; simp; omega), _, _, .inr ((s1.trans s2).tup hp), rfl, x.quest, q, rfl, i4.mono (s1.trans s2), fun ps e => ⟨(sz.que ps e).1, fun q hq => ⟨wf.que ps e q hq, (sz.que ps e).2 q hq⟩⟩, by omega, fun H3 s3 => ?_⟩
    walk_at "rd"
    refine ⟨aqn (by show _ + (queT x.quest).length ≤ _; simp [Ad.wayT] at hlen ⊢; omega), _, _, .inr (((s1.trans s2).trans s3).tup hp), rfl, x.mark, rfl, fun l e => ⟨sz.mar l e, wf.mar l e⟩, fun H4 s4 => ?_⟩
    walk_at "rd"
    refine ⟨aqn (by simp [Ad.wayT] at hlen ⊢; omega), ?_⟩
    have := k H4 (((s1.trans s2).trans s3).trans s4)
    rw [Ad.shw] at this
    simpa [Ad.wayT] using this
theorem nqy (g : G K mg) : FnOk P w K mg base CX0 5 g.nqk g.fd_plain ["address"] (uqA K) := by
  refine g.lqq.ok mqV (fun vs H Q E h => ?_) (fun cdv A outer s H vs Q E hr h => ?_)
  · obtain ⟨x, v, rfl, _⟩ := h; rfl
  · obtain ⟨x, v, rfl, hI, wf, hn, k⟩ := h
    refine ⟨_, (aqd (aqj (i := 1) mqV.nd rfl (Or.inl rfl) (aqs (aqf (K := K) rfl) (pv 0) (aqh (v := gqv) rfl g.fqH ⟨_, rfl⟩) (fun _ _ => rfl)))
      (aqx (aqj (i := 2) mqV.nd rfl (Or.inl rfl) (aq0 (aqk cq5 (pv 1) aqF (nomark _)) aqF (nqz (K := K) rfl PySem.F.plainAttrs_str PySem.F.slot_str_lower PySem.F.type_str_lower qqr (pv 1))))
      (aqc (aql (aqg (cqQ g) (hr.mono (by decide)) rfl g.cqb g.bqB.kp g.cqk .nil pass0 (aqa (aqm (gqw (K := K) rfl) (aqy (aqa (nqz (K := K) rfl PySem.F.plainAttrs_str PySem.F.slot_str_lower PySem.F.type_str_lower qqr (aqs (aqf (K := K) rfl) (pv 0) (aqh (v := hqD) rfl g.fqY ⟨_, rfl⟩) (fun _ _ => rfl))) (aqa (pv 2) aqb))) (aqP (gqB (K := K) rfl) (pv 0) (aqO (aqh (v := qqN) rfl g.oqw ⟨_, rfl⟩)) bql)) aqb)))))), ?_⟩
    obtain ⟨p, w, q, rfl, hp, hw, hq⟩ := dq4 hI
    have low : ∀ l : List Nat, (l.map PyProof.Rows.lo1) = lowT l := fun l => rfl
    have hsc : ∀ c ∈ x.scheme, c < 128 := fun c hc => hqV (kq4 (wf.sch.2.1 c hc))
    walk_at "rd"
    refine ⟨_, _, .inr hp, rfl, ?_⟩
    refine ⟨fun σ H1 => H1 = H ∧ σ = [some (.ref p), some (otV x.house), some (otV (x.house.map lowT))], ?_, ?_⟩
    · walk_at "rd"
      cases hh : x.house with
      | none => exact ite2 (fun _ => rfl) (fun z => absurd rfl z)
      | some l =>
        refine ite2 (fun z => absurd z (by simp [otV])) (fun _ => ?_)
        have hl := wf.hou l hh
        refine ⟨rfl, ?_⟩
        show rLower (.str ⟨l.toArray⟩) [] H _
        walk_at "rd"
        refine ⟨fun c hc => hqV (hl.2 c hc), by omega, ?_⟩
        rw [low]
        rfl
    rintro σ H1 ⟨rfl, rfl⟩
    walk_at "rd"
    refine ⟨_, _, .inr hp, rfl, ?_⟩
    walk_at "rd"
    rw [low]
    refine ⟨hsc, by have := wf.sch.1; omega, by decide, fun p2 H2 hn2 s2 hp2 => ⟨_, s2.tup hp, fun p3 H3 s3 hp3 => ⟨_, _, .of (s3 _ _ hp2), hp3, (show 6 ≤ sizeLine by decide), fun p4 H4 s4 hp4 => ?_⟩⟩⟩
    have sm := (s2.trans s3).trans s4
    refine ⟨{ x with scheme := lowT x.scheme, house := x.house.map lowT }, _, rfl, adK (x := { x with scheme := lowT x.scheme, house := x.house.map lowT }) hp4 (hw.mono sm) (hq.mono sm), hn, fun u H5 s5 hu => k u H5 (sm.trans s5) hu⟩
theorem pqY (g : G K mg) : FnOk P w K mg base CX0 5 g.hqW g.fqX ["base_way", "way"] (pqx K) := by
  refine g.jql.ok pqV (fun vs H Q E h => ?_) (fun cdv A outer s H vs Q E hr h => ?_)
  · obtain ⟨b, w, vb, vw, rfl, _⟩ := h; rfl
  · obtain ⟨b, w, vb, vw, rfl, hB, hW, hs, hb, hw, k⟩ := h
    refine ⟨_, (aqd (aqE (aqk (mqH (K := K) rfl hr.units) (pv 1) (aqh (v := .ref g.hqT) rfl g.kqB rfl) (nomark _))
        (aqc (aql (pv 0))) aqo)
      (aqd (aqE (aqB (aqs (aqf (K := K) rfl) (pv 1) (aqh (v := iqA) rfl g.hqI ⟨_, rfl⟩) (fun _ _ => rfl)))
        (aqc (aql (pv 1))) aqo)
      (aqc (aql (aqy (aqa dqe (aqa (aqm (gqw (K := K) rfl) (aqg (kqM g) (hr.mono (by decide)) rfl g.kqA g.iq7.kp g.kqG .nil pass0 (aqa (pv 0) aqb)) (aqs (aqf (K := K) rfl) (pv 1) (aqh (v := jqH) rfl g.iqk ⟨_, rfl⟩) (fun _ _ => rfl))) (aqa (aqs (aqf (K := K) rfl) (pv 1) (aqh (v := mqu) rfl g.lqJ ⟨_, rfl⟩) (fun _ _ => rfl)) aqb)))))))), ?_⟩
    walk_at "rd"
    refine ⟨wayOf w, wayOf noWay, hW, g.iqP H, eqE (r := w.1) (e := w.2.2) (ss := w.2.1) hs, by decide, _, rfl, ?_⟩
    rw [mq7]
    by_cases e : w = noWay
    · rw [if_pos (decide_eq_true e)]
      refine k _ H (Same.refl _) ?_
      rw [wayFrom, if_pos e]; exact hB
    · rw [if_neg (by simpa using e)]
      obtain ⟨pw, ps, rfl, hpw, hps⟩ := jqJ (r := w.1) (e := w.2.2) (ss := w.2.1) hW
      walk_at "rd"
      refine ⟨_, _, .inr hpw, rfl, _, rfl, ?_⟩
      by_cases h1 : w.1 = true
      · rw [if_pos h1]
        exact k _ H (Same.refl _) (by rw [wayFrom, if_neg e, if_pos h1]; exact hW)
      · rw [if_neg h1]
        have hhl := dqA b
        refine ⟨b, vb, rfl, hB, by omega, fun ph H1 s1 hph => ⟨_, _, .inr (s1.tup hpw), rfl, ph, ps, _, _, rfl, rfl, hph, s1.tup hps, aqn (by simp; omega), fun pc H2 s2 hpc => ⟨_, _, .inr ((s1.trans s2).tup hpw), rfl, by decide, fun pr H3 hn3 s3 hpr => k _ H3 ((s1.trans s2).trans s3) ?_⟩⟩⟩
        rw [wayFrom, if_neg e, if_neg h1]
        exact wayK (.of hpr) (by rw [List.map_append]; exact s3.tup hpc)
theorem nqJ (g : G K mg) : FnOk P w K mg base CX0 5 g.fq9 g.fqv ["_law_script"] (nqQ K) := by
  refine g.iqt.ok aqZ (fun vs H Q E h => ?_) (fun cdv A outer s H vs Q E hr h => ?_)
  · obtain ⟨a, ns, rfl, _⟩ := h; rfl
  · obtain ⟨a, ns, rfl, hS, hn, k⟩ := h
    refine ⟨_, (aqx (aqj (i := 1) aqZ.nd rfl (Or.inl rfl) (aqg (hqo g) (hr.mono (by decide)) rfl g.fqC g.dqU.kp g.fqE .nil pass0 (aqa (pv 0) (aqa aqe (aqa dqe (aqa (mqf (K := K) rfl (pv 0) (aqO aqe) (aqO aqe) (aqO aqe)) aqb))))))
      (aqx (aqj (i := 2) aqZ.nd rfl (Or.inl rfl) (aqg (hqo g) (hr.mono (by decide)) rfl g.fqC g.dqU.kp g.fqE .nil pass0 (aqa (pv 0) (aqa aqe (aqa dqe (aqa (mqf (K := K) rfl (pv 0) (aqO aqe) (aqO aqe) (aqO aqe)) aqb))))))
      (aqx (aqj (i := 3) aqZ.nd rfl (Or.inl rfl) (aqg (bqg g) (hr.mono (by decide)) rfl g.bqb g.aqX.kp g.bqa .nil pass0 (aqa (pv 0) (aqa aqe aqb))))
      (aqx (aqE (aqk pqi (aqm aqW (pv 3) aqe) aqe (nomark _))
        (aqc (aqj (i := 2) aqZ.nd rfl (Or.inl rfl) (aqm (aqN (K := K)) (aqP eq6 (pv 1) bql (aqO aqe)) (aqP eq6 (pv 2) (aqO aqe) bql)))) aqo)
      (aqx (aqE (aqk eqc (aqm aqW (aqm aqS (pv 3) aqe) aqe) aqe (nomark _))
        (aqd (aqj (i := 4) aqZ.nd rfl (Or.inl rfl) (aqm aqW (aqm aqS (pv 3) aqe) (aqm (aqN (K := K)) (aqv (aqQ (K := K) rfl) rfl g.fqT PySem.boot_len (aqa (aqs (aqf (K := K) rfl) (aqs (aqf (K := K) rfl) (pv 1) aqe (fun _ _ => rfl)) aqe (fun _ _ => rfl)) aqb)) aqe)))
      (aqd (aqj (i := 5) aqZ.nd rfl (Or.inl rfl) (aqm (aqN (K := K)) (aqP eq6 (aqs (aqf (K := K) rfl) (aqs (aqf (K := K) rfl) (pv 1) aqe (fun _ _ => rfl)) aqe (fun _ _ => rfl)) bql (aqO (pv 4))) (aqs (aqf (K := K) rfl) (aqs (aqf (K := K) rfl) (pv 2) aqe (fun _ _ => rfl)) aqe (fun _ _ => rfl))))
      (aqc (aqj (i := 2) aqZ.nd rfl (Or.inl rfl) (aqm (aqN (K := K)) (aqm (aqN (K := K)) (aqP eq6 (pv 2) bql (aqO aqe)) (aqy (aqa (aqy (aqa dqe (aqa (pv 5) (aqa (nq9 (aqs (aqf (K := K) rfl) (aqs (aqf (K := K) rfl) (pv 2) aqe (fun _ _ => rfl)) aqe (fun _ _ => rfl)) (fqb (aq4 (pqd hr.units) (pv 5) (aqy aqb) (nomark _)))) aqb)))) aqb))) (aqP eq6 (pv 2) (aqO aqe) bql)))))) aqo)
      (aqx (aqE (aqk eqc (aqm aqW (aqm aqS (pv 3) aqe) aqe) aqe (nomark _))
        (aqc (aqj (i := 2) aqZ.nd rfl (Or.inl rfl) (aqm (aqN (K := K)) (aqm (aqN (K := K)) (aqP eq6 (pv 2) bql (aqO aqe)) (aqy (aqa (aqs (aqf (K := K) rfl) (pv 1) aqe (fun _ _ => rfl)) aqb))) (aqP eq6 (pv 2) (aqO aqe) bql)))) aqo)
      (aqx (aqE (aqk eqc (aqm aqW (aqm aqS (pv 3) aqe) aqe) aqe (nomark _))
        (aqc (aqj (i := 2) aqZ.nd rfl (Or.inl rfl) (aqm (aqN (K := K)) (aqP eq6 (pv 2) bql (aqO aqe)) (aqy (aqa (aqs (aqf (K := K) rfl) (pv 1) aqe (fun _ _ => rfl)) (aqa (aqs (aqf (K := K) rfl) (pv 2) aqe (fun _ _ => rfl)) aqb)))))) aqo)
      (aqx (aqE (aqk eqc (aqm aqW (aqm aqS (pv 3) aqe) aqe) aqe (nomark _))
        (aqc (aqj (i := 2) aqZ.nd rfl (Or.inl rfl) (aqm (aqN (K := K)) (aqP eq6 (pv 2) bql (aqO aqe)) (aqy (aqa aqF (aqa (aqs (aqf (K := K) rfl) (pv 2) aqe (fun _ _ => rfl)) aqb)))))) aqo)
      (aqc (aql (aqy (aqa (pv 1) (aqa (pv 2) aqb))))))))))))), ?_⟩
    walk_at "rd"
    refine ⟨fun σ H1 => Same H H1 ∧ ∃ (b : Ad) (vb : V), σ = [some (.ref a), some vb, none, none, none, none] ∧ GoodAd 27 b ∧ IsT H1 b.data vb, ?_, ?_⟩
    · refine ⟨a, _, rfl, hS, by decide, ?_⟩
      rw [oqX]
      have hc := sq4 ns 9 hn (by decide)
      refine ⟨aqn (by rw [List.length_map]; omega), fun p1 hn1 => ?_⟩
      refine ⟨a, ns, 0, true, p1, _, rfl, (bqs hn1).seq hS, .of aqr, by omega, fun b vb H1 wb tb lb sb s1 hb => ?_⟩
      exact ⟨(bqs hn1).trans s1, b, vb, rfl, ⟨wb, tb, sb rfl, by omega⟩, hb⟩
    rintro σ H1 ⟨s1, b, vb, rfl, gb, hb⟩
    walk_at "rd"
    refine ⟨fun σ H2 => Same H H2 ∧ ∃ (g : Ad) (vg : V), σ = [some (.ref a), some vb, some vg, none, none, none] ∧ GoodAd 27 g ∧ IsT H2 b.data vb ∧ IsT H2 g.data vg, ?_, ?_⟩
    · refine ⟨a, _, rfl, s1.seq hS, by decide, ?_⟩
      rw [oqX]
      have hc2 := sq4 ns 10 hn (by decide)
      refine ⟨aqn (by rw [List.length_map]; omega), fun p2 hn2 => ?_⟩
      refine ⟨a, ns, 4, true, p2, _, rfl, (s1.trans (bqs hn2)).seq hS, .of aqr, by omega, fun x vx H2 wx tx lx sx s2 hx => ?_⟩
      exact ⟨s1.trans ((bqs hn2).trans s2), x, vx, rfl, ⟨wx, tx, sx rfl, by omega⟩, hb.mono ((bqs hn2).trans s2).toT, hx⟩
    rintro σ H2 ⟨s2, g0, vg0, rfl, gg0, hb, hg0⟩
    walk_at "rd"
    refine ⟨fun σ H3 => H3 = H2 ∧ ∃ hd : Int, σ = [some (.ref a), some vb, some vg0, some (.int hd), none, none], ?_, ?_⟩
    · exact ⟨a, ns, 8, rfl, s2.seq hS, rfl, _, rfl⟩
    rintro σ H3 ⟨rfl, hd, rfl⟩
    obtain ⟨pb, ub, qb, rfl, hpb, hwb, hqb⟩ := jqY hb
    walk_at "rd"
    refine ⟨fun σ H4 => Same H3 H4 ∧ ∃ (g : Ad) (vg : V), σ = [some (.ref a), some (.ref pb), some vg, some (.int hd), none, none] ∧ GoodAd 27 g ∧ IsT H4 g.data vg, ?_, ?_⟩
    · refine ⟨by decide, ite2 (fun _ => ?_) (fun _ => ⟨Same.refl _, g0, vg0, rfl, gg0, hg0⟩)⟩
      obtain ⟨pg, ug, qg, rfl, hpg, hwg, hqg⟩ := jqY hg0
      walk_at "rd"
      refine ⟨_, hpb, fun p1 Ha sa hp1 => ⟨_, sa _ _ hpg, fun p2 Hb sbb hp2 => .inr ⟨_, _, sbb _ _ hp1, hp2, (show 6 ≤ sizeLine by decide), fun p3 Hc sc hp3 => ?_⟩⟩⟩
      have sz := (sa.trans sbb).trans sc
      exact ⟨sz, _, gb.head gg0, adT (x := { g0 with scheme := b.scheme, house := b.house, door := b.door }) hp3 (hwg.mono sz.toT) (hqg.mono sz.toT)⟩
    clear hg0 gg0
    rintro σ H4 ⟨s4, g1, vg1, rfl, gg1, hg1⟩
    obtain ⟨pwb, psb, rfl, hpwb, hpsb⟩ := pqP (r := b.rooted) (e := b.ends) (ss := b.steps) hwb
    walk_at "rd"
    refine ⟨fun σ H5 => Same H3 H5 ∧ ∃ (g : Ad) (vg : V) (v4 v5 : Option V), σ = [some (.ref a), some (.ref pb), some vg, some (.int hd), v4, v5] ∧ GoodAd 54 g ∧ IsT H5 g.data vg, ?_, ?_⟩
    · refine ⟨⟨by decide, by decide⟩, by decide, ite2 (fun _ => ?_) (fun _ => ⟨s4, g1, vg1, none, none, rfl, gg1.le (by decide), hg1⟩)⟩
      obtain ⟨pg, ug, qg, rfl, hpg, hwg, hqg⟩ := jqY hg1
      obtain ⟨pwg, psg, rfl, hpwg, hpsg⟩ := pqP (r := g1.rooted) (e := g1.ends) (ss := g1.steps) hwg
      refine ⟨⟨by decide, by decide⟩, _, _, .inr (.of (s4 _ _ hpb)), rfl, ?_⟩
      walk_at "rd"
      refine ⟨_, _, .inr (.of (s4 _ _ hpwb)), rfl, ?_⟩
      walk_at "rd"
      refine ⟨_, .inr (.of (s4 _ _ hpsb)), by omega, _, _, .inr (.of (s4 _ _ hpb)), rfl, ?_⟩
      walk_at "rd"
      refine ⟨_, _, .inr (.of (s4 _ _ hpwb)), rfl, ?_⟩
      walk_at "rd"
      refine ⟨_, s4 _ _ hpsb, fun p1 Ha sa hp1 => ⟨_, _, .inr (.of (sa _ _ hpg)), rfl, ?_⟩⟩
      rw [kqD] at hp1
      walk_at "rd"
      refine ⟨_, _, .inr (.of (sa _ _ hpwg)), rfl, .inr ⟨_, _, hp1, sa _ _ hpsg, ?_, fun p2 Hb sbb hp2 => ?_⟩⟩
      · have := qqa b.steps none (some (hd / 24 % (((b.steps.map fun l => V.str ⟨l.toArray⟩).length : Int) + 1)))
        have h1 := gb.ln
        have h2 := gg1.ln
        exact aqn (by simp only [List.length_map] at this ⊢; omega)
      rw [← List.map_append] at hp2
      have tl : ∀ s ∈ (cutA b.steps none (some (hd / 24 % (((b.steps.map fun l => V.str ⟨l.toArray⟩).length : Int) + 1)))) ++ g1.steps, StepOk s ∧ s.length ≤ 9 := fun s hs => by
        rcases List.mem_append.mp hs with z | z
        · exact gb.okst s (tqr z)
        · exact gg1.okst s z
      have tn : ((cutA b.steps none (some (hd / 24 % (((b.steps.map fun l => V.str ⟨l.toArray⟩).length : Int) + 1)))) ++ g1.steps).length ≤ 54 := by
        have := qqa b.steps none (some (hd / 24 % (((b.steps.map fun l => V.str ⟨l.toArray⟩).length : Int) + 1)))
        have h1 := gb.ln
        have h2 := gg1.ln
        rw [List.length_append]; omega
      generalize (cutA b.steps none (some (hd / 24 % (((b.steps.map fun l => V.str ⟨l.toArray⟩).length : Int) + 1)))) ++ g1.steps = tt at hp2 tl tn
      have sab := sa.trans sbb
      refine ⟨_, sab _ _ hpg, fun p3 Hc sc hp3 => ⟨_, _, .inr (.of ((sab.trans sc) _ _ hpg)), rfl, ?_⟩⟩
      walk_at "rd"
      refine ⟨_, _, .inr (.of ((sab.trans sc) _ _ hpwg)), rfl, _, rfl, ?_⟩
      have fin : ∀ (e : Bool) (Hs : Hp), Same Hc Hs → (tt = [] → e = true) → (3 ≤ sizeLine ∧ ∀ (p : Addr) (H' : Hp), Hs p = none → Same Hs H' → H' p = some (.tup [.bl true, .ref p2, .bl e]) → 1 ≤ sizeLine ∧ ∀ (p_1 : Addr) (H'_1 : Hp), H' p_1 = none → Same H' H'_1 → H'_1 p_1 = some (.tup [.ref p]) → rAddS K (.ref p3) (.ref p_1) H'_1 fun x H1 => ∃ xs, H1 pg = some (.tup xs) ∧ ∀ (p : Addr) (H' : Hp), Same H1 H' → H' p = some (.tup (cutV xs (some 4) none)) → rAddS K x (.ref p) H' fun x H1 => Same H3 H1 ∧ ∃ (g : Ad) (vg : V) (v4 v5 : Option V), (x = vg ∧ some (V.int (hd / 24 % (((b.steps.map fun l => V.str ⟨l.toArray⟩).length : Int) + 1))) = v4 ∧ some (V.ref p2) = v5) ∧ GoodAd 54 g ∧ IsT H1 g.data vg) := fun e Hs ss he =>
        ⟨by decide, fun p4 Hd hnd sd hp4 => ⟨by decide, fun p5 He hne se hp5 => .inr ⟨_, _, ((ss.trans sd).trans se) _ _ hp3, hp5, (show 4 ≤ sizeLine by decide), fun p6 Hf sf hp6 => ⟨_, ((((sab.trans sc).trans ss).trans sd).trans (se.trans sf)) _ _ hpg, fun p7 Hg sg hp7 => .inr ⟨_, _, sg _ _ hp6, hp7, (show 6 ≤ sizeLine by decide), fun p8 Hh sh hp8 => by
          have t4 : Same H4 Hh := ((((sab.trans sc).trans ss).trans sd).trans (se.trans sf)).trans (sg.trans sh)
          exact ⟨s4.trans t4, _, _, _, _, ⟨rfl, rfl, rfl⟩, gg1.way (ss := tt) (e := e) tl tn he, adT (x := { g1 with rooted := true, steps := tt, ends := e }) hp8 (wayT' ((((se.trans sf).trans sg).trans sh) _ _ hp4) (((((sc.trans ss).trans sd).trans (se.trans sf)).trans (sg.trans sh)) _ _ hp2)) (hqg.mono t4.toT)⟩⟩⟩⟩⟩⟩
      by_cases he : g1.ends = true
      · rw [if_pos he]
        exact fin true Hc (Same.refl _) (fun _ => rfl)
      · rw [if_neg he]
        refine ⟨by decide, fun p4 Hd hnd sd hp4 => ?_⟩
        refine ⟨.tuple (tt.map st), .tuple [], .tup ((sc.trans sd) _ _ hp2) (kqI _), .tup hp4 .nil, fqq (fun s h => (tl s h).1.2), by decide, ?_⟩
        rw [mqZ]
        refine fin _ Hd sd (fun e => by rw [e]; rfl)
    clear hg1 gg1
    rintro σ H5 ⟨s5, g2, vg2, v4, v5, rfl, gg2, hg2⟩
    walk_at "rd"
    refine ⟨fun σ H6 => Same H3 H6 ∧ ∃ (g : Ad) (vg : V), σ = [some (.ref a), some (.ref pb), some vg, some (.int hd), v4, v5] ∧ GoodAd 54 g ∧ IsT H6 g.data vg, ?_, ?_⟩
    · refine ⟨⟨by decide, by decide⟩, by decide, ite2 (fun _ => ?_) (fun _ => ⟨s5, g2, vg2, rfl, gg2, hg2⟩)⟩
      obtain ⟨pg, ug, qg, rfl, hpg, hwg, hqg⟩ := jqY hg2
      walk_at "rd"
      refine ⟨_, hpg, fun p1 Ha sa hp1 => ⟨_, _, .inr (.of ((s5.trans sa) _ _ hpb)), rfl, by decide, fun p2 Hb hnb sbb hp2 => .inr ⟨_, _, sbb _ _ hp1, hp2, (show 4 ≤ sizeLine by decide), fun p3 Hc sc hp3 => ⟨_, ((sa.trans sbb).trans sc) _ _ hpg, fun p4 Hd sd hp4 => .inr ⟨_, _, sd _ _ hp3, hp4, (show 6 ≤ sizeLine by decide), fun p5 He se hp5 => ?_⟩⟩⟩⟩⟩
      have sz := (((sa.trans sbb).trans sc).trans sd).trans se
      have ebt : b.rooted = true := gb.rt
      have ew : ({ g2 with rooted := true, steps := b.steps, ends := b.ends } : Ad).way = b.way := by unfold Ad.way; rw [ebt]
      refine ⟨s5.trans sz, _, gg2.way (ss := b.steps) (e := b.ends) gb.okst (by have := gb.ln; omega) (fun e => (gb.wf.end_ e).trans ebt), adT (x := { g2 with rooted := true, steps := b.steps, ends := b.ends }) hp5 ?_ (hqg.mono sz.toT)⟩
      rw [ew]
      exact hwb.mono (s5.trans sz).toT
    clear hg2 gg2
    rintro σ H6 ⟨s6, g3, vg3, rfl, gg3, hg3⟩
    walk_at "rd"
    refine ⟨fun σ H7 => Same H3 H7 ∧ ∃ (g : Ad) (vg : V), σ = [some (.ref a), some (.ref pb), some vg, some (.int hd), v4, v5] ∧ GoodAd 54 g ∧ IsT H7 g.data vg, ?_, ?_⟩
    · refine ⟨⟨by decide, by decide⟩, by decide, ite2 (fun _ => ?_) (fun _ => ⟨s6, g3, vg3, rfl, gg3, hg3⟩)⟩
      obtain ⟨pg, ug, qg, rfl, hpg, hwg, hqg⟩ := jqY hg3
      walk_at "rd"
      refine ⟨_, hpg, fun p1 Ha sa hp1 => ⟨_, _, .inr (.of ((s6.trans sa) _ _ hpb)), rfl, _, _, .inr (.of (sa _ _ hpg)), rfl, by decide, fun p2 Hb hnb sbb hp2 => .inr ⟨_, _, sbb _ _ hp1, hp2, (show 6 ≤ sizeLine by decide), fun p3 Hc sc hp3 => ?_⟩⟩⟩
      have sz := (sa.trans sbb).trans sc
      exact ⟨s6.trans sz, _, gb.quest gg3, adT (x := { g3 with quest := b.quest }) hp3 (hwg.mono sz.toT) (hqb.mono (s6.trans sz).toT)⟩
    clear hg3 gg3
    rintro σ H7 ⟨s7, g4, vg4, rfl, gg4, hg4⟩
    walk_at "rd"
    refine ⟨fun σ H8 => Same H3 H8 ∧ ∃ (g : Ad) (vg : V), σ = [some (.ref a), some (.ref pb), some vg, some (.int hd), v4, v5] ∧ GoodAd 54 g ∧ IsT H8 g.data vg, ?_, ?_⟩
    · refine ⟨⟨by decide, by decide⟩, by decide, ite2 (fun _ => ?_) (fun _ => ⟨s7, g4, vg4, rfl, gg4, hg4⟩)⟩
      obtain ⟨pg, ug, qg, rfl, hpg, hwg, hqg⟩ := jqY hg4
      walk_at "rd"
      refine ⟨_, hpg, fun p1 Ha sa hp1 => ⟨_, _, .inr (.of (sa _ _ hpg)), rfl, by decide, fun p2 Hb hnb sbb hp2 => .inr ⟨_, _, sbb _ _ hp1, hp2, (show 6 ≤ sizeLine by decide), fun p3 Hc sc hp3 => ?_⟩⟩⟩
      have sz := (sa.trans sbb).trans sc
      exact ⟨s7.trans sz, _, gg4.noquest, adT (x := { g4 with quest := none }) hp3 (hwg.mono sz.toT) .non⟩
    clear hg4 gg4
    rintro σ H8 ⟨s8, g5, vg5, rfl, gg5, hg5⟩
    walk_at "rd"
    refine ⟨by decide, fun p9 H9 hn9 s9 hp9 => k b g5 _ _ p9 H9 ((s2.trans s8).trans s9) (gb.le (by decide)) gg5 (hb.mono (s8.trans s9).toT) (hg5.mono s9.toT) hp9⟩
theorem oq7 (g : G K mg) : FnOk P w K mg base CX0 6 g.gqc g.fqp ["base", "goal"] (oqR K) := by
  refine g.iqi.ok jqM (fun vs H Q E h => ?_) (fun cdv A outer s H vs Q E hr h => ?_)
  · obtain ⟨b, g, vb, vg, rfl, _⟩ := h; rfl
  · obtain ⟨b, g', vb, vg, rfl, hB, hG, wb, wg, eb, eg, hb, hg, k⟩ := h
    refine ⟨_, (aqx (aqE (PW.pt (fqD (aqk hqX (aqs (aqf (K := K) rfl) (pv 0) (aqh (v := hqD) rfl g.fqY ⟨_, rfl⟩) (fun _ _ => rfl)) (aqs (aqf (K := K) rfl) (pv 1) (aqh (v := hqD) rfl g.fqY ⟨_, rfl⟩) (fun _ _ => rfl)) (nomark _)) (eqg (PW.pt (fqJ (aqk cqq (aqs (aqf (K := K) rfl) (pv 0) (aqh (v := gqv) rfl g.fqH ⟨_, rfl⟩) (fun _ _ => rfl)) aqF (nomark _)) (dq9 (aqk cq5 (aqs (aqf (K := K) rfl) (pv 1) (aqh (v := gqv) rfl g.fqH ⟨_, rfl⟩) (fun _ _ => rfl)) aqF (nomark _))))))))
        (aqc (aql (pv 1))) aqo)
      (aqx (aqE (PW.pt (fqD (aqk hqX (aqs (aqf (K := K) rfl) (pv 0) (aqh (v := gqv) rfl g.fqH ⟨_, rfl⟩) (fun _ _ => rfl)) (aqs (aqf (K := K) rfl) (pv 1) (aqh (v := gqv) rfl g.fqH ⟨_, rfl⟩) (fun _ _ => rfl)) (nomark _)) (eqg (aqk hqX (aqs (aqf (K := K) rfl) (pv 0) (aqh (v := qqN) rfl g.oqw ⟨_, rfl⟩) (fun _ _ => rfl)) (aqs (aqf (K := K) rfl) (pv 1) (aqh (v := qqN) rfl g.oqw ⟨_, rfl⟩) (fun _ _ => rfl)) (nomark _)))))
        (aqc (aql (aqm (gqw (K := K) rfl) (aqy (aqa aqp aqb)) (aqP (gqB (K := K) rfl) (pv 1) (aqO (aqh (v := gqv) rfl g.fqH ⟨_, rfl⟩)) bql)))) aqo)
      (aqd (aqE (aqB (aqg (pqr g) (hr.mono (by decide)) rfl g.mqo g.jqo.kp g.mqg .nil pass0 (aqa (pv 0) (aqa (pv 1) aqb))))
        (aqd (aqj (i := 2) jqM.nd rfl (Or.inl rfl) (aq0 (aqk (mqH (K := K) rfl hr.units) (aqs (aqf (K := K) rfl) (pv 0) (aqh (v := bqF) rfl g.bqp ⟨_, rfl⟩) (fun _ _ => rfl)) (aqs (aqf (K := K) rfl) (pv 1) (aqh (v := bqF) rfl g.bqp ⟨_, rfl⟩) (fun _ _ => rfl)) (nomark _)) aqF (aqs (aqf (K := K) rfl) (pv 1) (aqh (v := bqF) rfl g.bqp ⟨_, rfl⟩) (fun _ _ => rfl))))
      (aqc (aql (aqy (aqa aqp (aqa aqF (aqa aqF (aqa (aqh (v := .ref g.hqT) rfl g.kqB rfl) (aqa (pv 2) (aqa (aqs (aqf (K := K) rfl) (pv 1) (aqh (v := qqC) rfl g.oqH ⟨_, rfl⟩) (fun _ _ => rfl)) aqb)))))))))) aqo)
      (aqc (aql (aqy (aqa aqp (aqa aqF (aqa aqF (aqa (aqg (lq7 g) (hr.mono (by decide)) rfl g.jqb g.gqa.kp g.iqI .nil pass0 (aqa (aqs (aqf (K := K) rfl) (pv 0) (aqh (v := lqI) rfl g.kqr ⟨_, rfl⟩) (fun _ _ => rfl)) (aqa (aqs (aqf (K := K) rfl) (pv 1) (aqh (v := lqI) rfl g.kqr ⟨_, rfl⟩) (fun _ _ => rfl)) aqb))) (aqa (aqs (aqf (K := K) rfl) (pv 1) (aqh (v := bqF) rfl g.bqp ⟨_, rfl⟩) (fun _ _ => rfl)) (aqa (aqs (aqf (K := K) rfl) (pv 1) (aqh (v := qqC) rfl g.oqH ⟨_, rfl⟩) (fun _ _ => rfl)) aqb)))))))))))), ?_⟩
    obtain ⟨pb, ub, qb, rfl, hpb, hwb, hqb⟩ := dq4 hB
    obtain ⟨pg, ug, qg, rfl, hpg, hwg, hqg⟩ := dq4 hG
    walk_at "rd"
    refine ⟨fun σ H1 => H1 = H ∧ σ = [some (.ref pb), some (.ref pg), none] ∧ ¬ (g'.scheme ≠ b.scheme ∨ (g'.house = none ∧ b.house ≠ none)), ?_, ?_⟩
    · refine ⟨_, _, .inr hpb, rfl, _, _, .inr hpg, rfl, ?_⟩
      walk_at "rd"
      simp only [eqf]
      have out : (g'.scheme ≠ b.scheme ∨ (g'.house = none ∧ b.house ≠ none)) → Q (.ref pg) H := fun z => k _ H (Same.refl _) (by rw [relM, if_pos z, eg]; exact hG)
      by_cases h1 : b.scheme = g'.scheme
      rotate_left
      · exact ite2 (fun _ => out (.inl (fun z => h1 z.symm))) (fun z => absurd (Classical.not_not.mp z) h1)
      refine ite2 (fun z => absurd h1 z) (fun _ => ⟨_, _, .inr hpb, rfl, ?_⟩)
      cases hbh : b.house with
      | none => exact ite2 (fun z => absurd rfl z) (fun _ z => z.elim (fun y => y h1.symm) (fun y => y.2 rfl))
      | some l =>
        refine ite2 (fun _ => ⟨_, _, .inr hpg, rfl, ?_⟩) (fun z => absurd (Classical.not_not.mp z) (by simp [otV]))
        cases hgh : g'.house with
        | none => exact ite2 (fun _ => out (.inr ⟨hgh, by simp [hbh]⟩)) (fun z => absurd rfl z)
        | some m => exact ite2 (fun z => absurd z (by simp [otV])) (fun _ z => z.elim (fun y => y h1.symm) (fun y => by cases y.1))
    rintro σ H1 ⟨rfl, rfl, c0⟩
    walk_at "rd"
    refine ⟨fun σ H2 => H2 = H1 ∧ σ = [some (.ref pb), some (.ref pg), none] ∧ ¬ (g'.house ≠ b.house ∨ g'.door ≠ b.door), ?_, ?_⟩
    · have out : (g'.house ≠ b.house ∨ g'.door ≠ b.door) → (1 ≤ sizeLine ∧ ∀ (p : Addr) (H' : Hp), H1 p = none → Same H1 H' → H' p = some (.tup [.str ⟨#[]⟩]) → ∃ xs, SqT K H' pg xs ∧ ∀ (p_1 : Addr) (H'_1 : Hp), Same H' H'_1 → SqT K H'_1 p_1 (cutV xs (some 1) none) → ∃ xs ys, SqT K H'_1 p xs ∧ SqT K H'_1 p_1 ys ∧ xs.length + ys.length ≤ sizeLine ∧ ∀ (p : Addr) (H'_2 : Hp), Same H'_1 H'_2 → SqT K H'_2 p (xs ++ ys) → Q (.ref p) H'_2) := fun z =>
        ⟨by decide, fun p2 H2 hn2 s2 hp2 => ⟨_, s2.tup hpg, fun p3 H3 s3 hp3 => ⟨_, _, .of (s3 _ _ hp2), hp3, (show 6 ≤ sizeLine by decide), fun p4 H4 s4 hp4 => k _ H4 ((s2.trans s3).trans s4) (by
          rw [relM, if_neg c0, if_pos z, eg]
          have sm := (s2.trans s3).trans s4
          exact adK (x := { g' with scheme := [] }) hp4 (hwg.mono sm) (hqg.mono sm))⟩⟩⟩
      refine ⟨_, _, .inr hpb, rfl, _, _, .inr hpg, rfl, yqP ⟨_, rfl, ?_⟩⟩
      by_cases h2 : b.house = g'.house
      rotate_left
      · exact ite2 (fun _ => out (.inl (fun z => h2 z.symm))) (fun z => absurd (by simpa using h2) z)
      refine ite2 (fun z => absurd h2 (by simpa using z)) (fun _ => ?_)
      refine ⟨_, _, .inr hpb, rfl, _, _, .inr hpg, rfl, yqy ⟨_, rfl, ?_⟩⟩
      by_cases h3 : b.door = g'.door
      rotate_left
      · exact ite2 (fun _ => out (.inr (fun z => h3 z.symm))) (fun z => absurd (by simpa using h3) z)
      exact ite2 (fun z => absurd h3 (by simpa using z)) (fun _ => ⟨rfl, rfl, fun z => z.elim (fun y => y h2.symm) (fun y => y h3.symm)⟩)
    rintro σ H2 ⟨rfl, rfl, c1⟩
    walk_at "rd"
    refine ⟨b, g', _, _, rfl, hB, hG, wb, wg, _, rfl, ?_⟩
    by_cases c2 : b.w = g'.w ∧ (g'.quest ≠ none ∨ b.quest = none)
    · rw [if_pos (decide_eq_true c2)]
      have er : ∀ q0, (if g'.quest = b.quest then none else g'.quest) = q0 → relM b g' = { scheme := [], house := none, door := none, rooted := false, steps := [], ends := false, quest := q0, mark := g'.mark } := fun q0 e => by
        rw [relM, if_neg c0, if_neg c1, if_pos (by rw [eb, eg]; exact c2), e]
      refine ⟨_, _, .inr hpb, rfl, _, _, .inr hpg, rfl, ?_⟩
      refine ⟨qD b.quest, qD g'.quest, hqb, hqg, oqo wb.que, oqo wg.que, _, rfl, ?_⟩
      rw [vqa]
      by_cases e : b.quest = g'.quest
      · rw [if_pos (decide_eq_true e)]
        refine ⟨_, _, .inr hpg, rfl, by decide, fun p3 H3 hn3 s3 hp3 => k _ H3 s3 ?_⟩
        rw [er none (if_pos e.symm)]
        exact adK (x := { scheme := [], house := none, door := none, rooted := false, steps := [], ends := false, quest := none, mark := g'.mark }) (.of hp3) (g.iqP H3) .non
      · rw [if_neg (by simpa using e)]
        refine ⟨_, _, .inr hpg, rfl, _, _, .inr hpg, rfl, by decide, fun p3 H3 hn3 s3 hp3 => k _ H3 s3 ?_⟩
        rw [er g'.quest (if_neg (fun z => e z.symm))]
        exact adK (x := { scheme := [], house := none, door := none, rooted := false, steps := [], ends := false, quest := g'.quest, mark := g'.mark }) (.of hp3) (g.iqP H3) (hqg.mono s3)
    · rw [if_neg (by simpa using c2)]
      refine ⟨_, _, .inr hpb, rfl, _, _, .inr hpg, rfl, ?_⟩
      have eb' : goneV b.w = b.w := congrArg Ad.w eb
      have eg' : goneV g'.w = g'.w := congrArg Ad.w eg
      refine ⟨b.w, g'.w, ub, ug, rfl, hwb, hwg, eb', eg', hb, hg, fun v H3 s3 hv => ⟨_, _, .inr (s3.tup hpg), rfl, _, _, .inr (s3.tup hpg), rfl, by decide, fun p4 H4 hn4 s4 hp4 => k _ H4 (s3.trans s4) ?_⟩⟩
      rw [relM, if_neg c0, if_neg c1, if_neg (by rw [eb, eg]; exact c2), eg']
      exact adK (x := { scheme := [], house := none, door := none, rooted := false, steps := betw b.w g'.w, ends := g'.w.2.2, quest := g'.quest, mark := g'.mark }) (.of hp4) (hv.mono s4) (hqg.mono (s3.trans s4))
theorem lqV (g : G K mg) : FnOk P w K mg base CX0 6 g.eqn g.dq3 ["cursor"] (mqd K g.aqu) := by
  refine g.gqr.ok lqS (fun vs H Q E h => ?_) (fun cdv A outer s H vs Q E hr h => ?_)
  · obtain ⟨p, t, w, r, i, o, rfl, _⟩ := h; rfl
  · obtain ⟨p, t, w', r, i, o, rfl, hcur, hi, hl, h128, hd, hw, hst, hh, k⟩ := h
    refine ⟨_, (aqd (aqE (aq2 (aqB (dqo (pv 0) g.aqq g.aqG (aqM g) (hr.mono (by decide)) g.aqK .nil pass0 (aqa aqp aqb))))
        (aqc (aql aqF)) aqo)
      (aqc (aql (aqg (eqi g) (hr.mono (by decide)) rfl g.cqW g.bqM.kp g.eqR .nil pass0 (aqa (pv 0) (aqa aqp (aqa (aqh (v := lqO) rfl g.hqn ⟨_, rfl⟩) aqb))))))), ?_⟩
    have e1 : Str.ofString "//" = ⟨[47, 47].toArray⟩ := by decide +kernel
    rw [e1]
    walk_at "rd"
    cases o with
    | none =>
      have hw : w' = [] := hw
      subst hw
      refine aqw hcur (pqo hcur hi hl (by rw [hd]; exact hh rfl) ⟨_, rfl, ?_⟩)
      rw [if_pos rfl]
      exact k H (SameBut.refl _ _) hcur
    | some s =>
      obtain ⟨v, rfl, hv, hne, hsl⟩ := hw
      refine aqw hcur (dqb (w := [47, 47]) (r := v ++ r) hcur hi hl hd fun H1 s1 c1 hi1 hd1 => ⟨_, rfl, ?_⟩)
      rw [if_neg (by decide)]
      refine ⟨p, t, [], s, v, r, _, some 60, rfl, c1, hi1, hl, h128, by decide, hd1, hv, hne, .inl (hst (by simp)), (fun m z => by cases z; exact hsl), fun H2 s2 c2 => k H2 (s1.trans s2) ?_⟩
      rw [List.length_cons, List.length_cons, show i + (v.length + 1 + 1) = i + [47, 47].length + v.length by simp only [List.length_cons, List.length_nil]; omega]
      exact c2
theorem jqn (g : G K mg) : FnOk P w K mg base CX0 6 g.cqI g.cqt ["cursor"] (jqq K g.aqu) := by
  refine g.eqd.ok cqv (fun vs H Q E h => ?_) (fun cdv A outer s H vs Q E hr h => ?_)
  · obtain ⟨p, t, w, rest, i, qs, rfl, _⟩ := h; rfl
  · obtain ⟨p, t, w', rest, i, qs, rfl, hcur, hi, hl, h128, hd, hw, hre, k⟩ := h
    refine ⟨_, (aqd (aqE (aq2 (aqB (dqo (pv 0) g.aqq g.aqG (aqM g) (hr.mono (by decide)) g.aqK .nil pass0 (aqa aqp aqb))))
        (aqc (aql aqF)) aqo)
      (aqd (aqj (i := 1) cqv.nd rfl (Or.inl rfl) (aqg (dvs := [.non]) (cqy g) (hr.mono (by decide)) rfl g.cqp g.bqI.kp g.cqw (.cons rfl .nil) pass0 (aqa (pv 0) (aqa (aqh (v := bqe) rfl g.bqN ⟨_, rfl⟩) aqb))))
      (aqx (aqE (aqk eqc (pv 1) aqp (nomark _))
        (aqc (aql (aqy aqb))) aqo)
      (aqx (aqj (i := 2) cqv.nd rfl (Or.inl rfl) (cqU (aqa (aqy (aqa (pv 1) (aqa (aqg (hq8 g) (hr.mono (by decide)) rfl g.gqC g.eqA.kp g.gqq .nil pass0 (aqa (pv 0) aqb)) aqb))) aqb)))
      (aqd (iqN PassesOwn.never (aqB (dqo (pv 0) g.aqq g.aqG (aqM g) (hr.mono (by decide)) g.aqK .nil pass0 (aqa aqp aqb)))
      (aqd (aqj (i := 1) cqv.nd rfl (Or.inl rfl) (aqg (dvs := [.non]) (eqi g) (hr.mono (by decide)) rfl g.cqW g.bqM.kp g.eqj (.cons rfl .nil) pass0 (aqa (pv 0) (aqa (aqh (v := bqe) rfl g.bqN ⟨_, rfl⟩) aqb))))
      (aqc (dqu (dqg (K := K) rfl PySem.F.plainAttrs_list PySem.F.slot_list_append PySem.F.type_list_append cqj (pv 2) (aqa (aqy (aqa (pv 1) (aqa (aqg (hq8 g) (hr.mono (by decide)) rfl g.gqC g.eqA.kp g.gqq .nil pass0 (aqa (pv 0) aqb)) aqb))) aqb))))))
      (aqc (aql (bqC (dqI (K := K) rfl) rfl g.eqb cq8 (aqa (pv 2) aqb))))))))), ?_⟩
    have eF : bqe = .str ⟨frQ.toArray⟩ := by
      show V.str (Str.ofString _) = _
      unfold frQ; simp
    have e1 : Str.ofString "?" = ⟨[63].toArray⟩ := by decide +kernel
    have e2 : Str.ofString "&" = ⟨[38].toArray⟩ := by decide +kernel
    rw [eF, e1, e2]
    have rl : ∀ {j'' : Nat} {v'' : List Nat}, t.drop j'' = v'' ++ rest → j'' ≤ t.length → j'' + v''.length = t.length - rest.length := fun {j'' v''} h hj => by
      have := congrArg List.length h
      rw [List.length_drop, List.length_append] at this
      omega
    have hr63 : rest.head? ≠ some 63 ∧ rest.head? ≠ some 38 := by
      rcases hre with rfl | ⟨x, rfl⟩
      · exact ⟨by simp, by simp⟩
      · exact ⟨by simp, by simp⟩
    walk_at "rd"
    cases qs with
    | none =>
      have hw : w' = [] := hw
      subst hw
      refine aqw hcur (gqz hcur hi hl hd hr63.1 ⟨_, rfl, ?_⟩)
      rw [if_pos rfl]
      have := rl hd hi
      exact k _ H (SameBut.refl _ _) (this ▸ hcur) .non
    | some ps =>
      cases ps with
      | nil =>
        have hw : w' = [63] := hw
        subst hw
        refine aqw hcur (dqb (w := [63]) (r := rest) hcur hi hl hd fun H1 s1 c1 hi1 hd1 => ⟨_, rfl, ?_⟩)
        rw [if_neg (by decide)]
        refine ⟨p, t, frQ, [], [], rest, _, none, rfl, c1, hi1, hl, h128, jqE, hd1, .nil, .inl (lqn .nil hre).1, (fun m z => by cases z), fun H2 s2 c2 => ?_⟩
        refine ⟨fun _ _ => False, ?_, fun _ _ z => z.elim⟩
        rw [L2.nqt, decide_eq_true rfl]
        refine ⟨_, rfl, ?_⟩
        rw [if_pos rfl]
        have := rl (v'' := []) hd1 hi1
        exact ⟨by decide, fun pt Ha n1 sa hp1 => k _ Ha ((s1.trans s2).trans sa.but) (this ▸ c2.same sa) (.tup hp1 .nil)⟩
      | cons pr ps =>
        obtain ⟨n, o⟩ := pr
        obtain ⟨a, v, r, rfl, ha, hn, hv, hps⟩ := hw
        have hst := lqn hps hre
        refine aqw hcur (dqb (w := [63]) (r := a ++ (v ++ (r ++ rest))) hcur hi hl (by rw [hd]; simp) fun H1 s1 c1 hi1 hd1 => ⟨_, rfl, ?_⟩)
        rw [if_neg (by decide)]
        refine ⟨p, t, frQ, n, a, v ++ (r ++ rest), _, none, rfl, c1, hi1, hl, h128, jqE, hd1, ha, .inl (nqR hv hst.1), (fun m z => by cases z), fun H2 s2 c2 => ?_⟩
        refine ⟨fun σ H' => H' = H2 ∧ σ = [some (.ref p), some (.str ⟨n.toArray⟩), none], ?_, ?_⟩
        · rw [L2.nqt]
          refine ⟨_, rfl, ?_⟩
          rw [if_neg (by rw [decide_eq_false (fun z => hn (mqx.mp z))]; decide)]
          exact ⟨rfl, rfl⟩
        rintro σ H' ⟨rfl, rfl⟩
        have hi2 : i + [63].length + a.length ≤ t.length := by
          have := congrArg List.length hd1
          rw [List.length_drop, List.length_append] at this
          omega
        have hd2 : t.drop (i + [63].length + a.length) = v ++ (r ++ rest) := by rw [← List.drop_drop, hd1, List.drop_left]
        have s12 := s1.trans s2
        walk_at "rd"
        obtain ⟨W, hW⟩ : ∃ W : Nat → St → Hp → Prop, W = fun m σ H4 => ∃ (dn ps' : List (List Nat × Option (List Nat))) (r' : List Nat) (j : Nat) (q : Addr) (v1 : Option V) (vs : List V), m = ps'.length ∧ σ = [some (.ref p), v1, some (.ref q)] ∧ (n, o) :: ps = dn ++ ps' ∧ PrsW ps' r' ∧ Cur H4 g.aqu p t j ∧ j ≤ t.length ∧ t.drop j = r' ++ rest ∧ H4 q = some (.lst vs) ∧ PrL H4 vs dn ∧ SameBut p H H4 ∧ H q = none ∧ q ≠ p := ⟨_, rfl⟩
        refine ⟨fun σ H4 => ∃ m, W m σ H4, ?_, ?_⟩
        · refine ⟨p, t, v, r ++ rest, _, o, rfl, c2, hi2, hl, h128, hd2, hv, hst.1, hst.2, fun H3 s3 c3 => ⟨by decide, fun p1 Ha n1 sa hp1 => ⟨by decide, fun q Hb nq sb hq => ⟨ps.length, ?_⟩⟩⟩⟩
          rw [hW]
          have hqp : q ≠ p := by obtain ⟨dx, hp⟩ := c3.same sa; exact (aqz hp nq).symm
          have sbA : SameBut p H Ha := (s12.trans s3).trans sa.but
          refine ⟨[(n, o)], ps, r, _, q, _, _, rfl, rfl, rfl, hps, (c3.same sa).same sb, ?_, ?_, hq, ⟨rfl, fun i' a' y z1 z2 => ?_⟩, sbA.trans sb.but, sbA.free nq hqp, hqp⟩
          · have := congrArg List.length hd2
            rw [List.length_drop, List.length_append] at this
            omega
          · rw [← List.drop_drop, hd2, List.drop_left]
          · cases i' with
            | zero =>
              cases z1
              cases z2
              exact .tup (sb _ _ hp1) (.cons (.str _) (.cons (oqv _) .nil))
            | succ j => cases z1
        rintro σ H4 ⟨m, hm⟩
        unfold L2.Later
        rw [L2.sqO]
        refine lqR W m hm ?_
        rintro m σ H5 hm
        rw [hW] at hm
        obtain ⟨dn, ps', r', j, q, v1, vs, rfl, rfl, eps, hps', c5, hj5, hd5, hq5, hpl, sb5, hqH, hqp⟩ := hm
        have hdl : dn.length ≤ 100000 := by
          have h1 := congrArg List.length eps
          rw [List.length_append, List.length_cons] at h1
          have h2 := vqU hps
          have h3 := congrArg List.length hd
          rw [List.length_drop] at h3
          simp only [List.length_cons, List.length_append] at h3
          omega
        walk_at "rd"
        cases hps' with
        | nil =>
          refine aqw c5 (gqz c5 hj5 hl hd5 hr63.2 ⟨_, rfl, ?_⟩)
          rw [if_neg (by decide)]
          rw [List.append_nil] at eps
          refine ⟨vs, .inl (.of hq5), fun l Ha sa hla => ?_⟩
          have := rl (v'' := []) hd5 hj5
          refine k _ Ha (sb5.trans sa.but) (this ▸ c5.same sa) ?_
          rw [eps]
          exact .tup hla (mqq (g := pD) hpl.1 fun i' a' y z1 z2 => (hpl.2 i' a' y z1 z2).mono sa.toT)
        | cons hwn hne hv2 hps2 =>
          rename_i n2 w2 v2 o2 ps2 r2
          have hst2 := lqn hps2 hre
          refine aqw c5 (dqb (w := [38]) (r := w2 ++ (v2 ++ (r2 ++ rest))) c5 hj5 hl (by rw [hd5]; simp) fun H6 s6 c6 hi6 hd6 => ⟨_, rfl, ?_⟩)
          rw [if_pos rfl]
          have hd7 : t.drop (j + [38].length + w2.length) = v2 ++ (r2 ++ rest) := by rw [← List.drop_drop, hd6, List.drop_left]
          have hl7 := congrArg List.length hd6
          rw [List.length_drop, List.length_append, List.length_append] at hl7
          refine ⟨_, fun _ _ h => h, p, t, frQ, n2, w2, v2 ++ (r2 ++ rest), _, none, rfl, c6, hi6, hl, h128, jqE, hd6, hwn, hne, .inl (nqR hv2 hst2.1), (fun m z => by cases z), fun H7 s7 c7 => ⟨⟨_, .of ((s6.trans s7) _ _ hqp hq5)⟩, p, t, v2, r2 ++ rest, _, o2, rfl, c7, by omega, hl, h128, hd7, hv2, hst2.1, hst2.2, fun H8 s8 c8 => ⟨by decide, fun p1 Ha n1 sa hp1 => ⟨vs, sa _ _ (((s6.trans s7).trans s8) _ _ hqp hq5), ?_, ps2.length, Nat.lt_succ_self _, ?_⟩⟩⟩⟩
          · rw [hpl.1]
            exact Nat.lt_of_le_of_lt hdl (by decide)
          rw [hW]
          have hqa : Ha q = some (.lst vs) := sa _ _ (((s6.trans s7).trans s8) _ _ hqp hq5)
          refine ⟨dn ++ [(n2, o2)], ps2, r2, j + [38].length + w2.length + v2.length, q, _, _, rfl, rfl, by rw [eps, List.append_assoc]; rfl, hps2, ?_, ?_, ?_, aqr, ?_, ?_, hqH, hqp⟩
          · obtain ⟨dx, hp⟩ := c8.same sa
            exact ⟨dx, by rw [aqI hqp.symm]; exact hp⟩
          · omega
          · rw [← List.drop_drop, hd7, List.drop_left]
          · refine PrL.mono (PrL.snoc ((((hpl.mono (c5.toT s6)).mono (c6.toT s7)).mono (c7.toT s8)).mono sa.toT) ?_) (kq8 hqa)
            exact .tup hp1 (.cons (.str _) (.cons (oqv _) .nil))
          · exact ((((sb5.trans s6).trans s7).trans s8).trans sa.but).upd hqH
theorem nql (g : G K mg) : FnOk P w K mg base CX0 6 g.fqw g.eqs ["base", "address"] (mqM K) := by
  refine g.gq3.ok jqa (fun vs H Q E h => ?_) (fun cdv A outer s H vs Q E hr h => ?_)
  · obtain ⟨b, x, vb, vx, rfl, _⟩ := h; rfl
  · obtain ⟨b, x, vb, vx, rfl, hB, hX, wf, hb, hx, k⟩ := h
    refine ⟨_, (aqd (aqE (aqk cqq (aqs (aqf (K := K) rfl) (pv 1) (aqh (v := gqv) rfl g.fqH ⟨_, rfl⟩) (fun _ _ => rfl)) aqF (nomark _))
        (aqc (aql (aqm (gqw (K := K) rfl) (aqy (aqa (aqs (aqf (K := K) rfl) (pv 0) (aqh (v := hqD) rfl g.fqY ⟨_, rfl⟩) (fun _ _ => rfl)) aqb)) (aqP (gqB (K := K) rfl) (pv 1) (aqO (aqh (v := gqv) rfl g.fqH ⟨_, rfl⟩)) bql)))) aqo)
      (aqd (aqj (i := 2) jqa.nd rfl (Or.inl rfl) (aqg (pqY g) (hr.mono (by decide)) rfl g.mqn g.jql.kp g.mqs .nil pass0 (aqa (aqs (aqf (K := K) rfl) (pv 0) (aqh (v := lqI) rfl g.kqr ⟨_, rfl⟩) (fun _ _ => rfl)) (aqa (aqs (aqf (K := K) rfl) (pv 1) (aqh (v := lqI) rfl g.kqr ⟨_, rfl⟩) (fun _ _ => rfl)) aqb))))
      (aqc (aql (aqm (gqw (K := K) rfl) (aqP (gqB (K := K) rfl) (pv 0) bql (aqO (aqh (v := lqI) rfl g.kqr ⟨_, rfl⟩))) (aqy (aqa (pv 2) (aqa (aqg (kqg g) (hr.mono (by decide)) rfl g.hqj g.eq5.kp g.hqA .nil pass0 (aqa (pv 0) (aqa (pv 1) aqb))) (aqa (aqs (aqf (K := K) rfl) (pv 1) (aqh (v := qqC) rfl g.oqH ⟨_, rfl⟩) (fun _ _ => rfl)) aqb))))))))), ?_⟩
    obtain ⟨pb, wb, qb, rfl, hpb, hwb, hqb⟩ := dq4 hB
    obtain ⟨px, wx, qx, rfl, hpx, hwx, hqx⟩ := dq4 hX
    walk_at "rd"
    refine ⟨_, _, .inr hpx, rfl, ?_⟩
    cases hh : x.house with
    | some l =>
      refine ite2 (fun _ => ?_) (fun z => absurd (Classical.not_not.mp z) (by simp [otV]))
      refine ⟨_, _, .inr hpb, rfl, by decide, fun p1 H1 hn1 s1 hp1 => ⟨_, s1.tup hpx, fun p2 H2 s2 hp2 => ⟨_, _, .of (s2 _ _ hp1), hp2, (show 6 ≤ sizeLine by decide), fun p3 H3 s3 hp3 => k _ H3 ((s1.trans s2).trans s3) ?_⟩⟩⟩
      rw [madeWhole, if_pos (by simp [hh])]
      have sm := (s1.trans s2).trans s3
      exact adK (x := { x with scheme := b.scheme }) hp3 (hwx.mono sm) (hqx.mono sm)
    | none =>
      refine ite2 (fun z => absurd rfl z) (fun _ => ?_)
      refine ⟨_, _, .inr hpb, rfl, _, _, .inr hpx, rfl, b.w, x.w, wb, wx, rfl, hwb, hwx, (fun s hs => (wf.stp s hs).2), hb, hx, fun v H1 s1 hv => ⟨_, s1.tup hpb, fun p2 H2 s2 hp2 => ?_⟩⟩
      have s12 := s1.trans s2
      refine ⟨b, x, _, _, rfl, hB.mono s12, hX.mono s12, wf, fun v2 hv2 => ⟨_, _, .inr (s12.tup hpx), rfl, by decide, fun p3 H3 hn3 s3 hp3 => ⟨_, _, s3.tup hp2, .of hp3, (show 6 ≤ sizeLine by decide), fun p4 H4 s4 hp4 => k _ H4 (s12.trans (s3.trans s4)) ?_⟩⟩⟩
      rw [madeWhole, if_neg (by simp [hh])]
      exact adK (x := { scheme := b.scheme, house := b.house, door := b.door, rooted := (wayFrom b.w x.w).1, steps := (wayFrom b.w x.w).2.1, ends := (wayFrom b.w x.w).2.2, quest := questFrom b x, mark := x.mark }) hp4 (hv.mono (s2.trans (s3.trans s4))) (hv2.mono (s3.trans s4))
theorem pqD (g : G K mg) : FnOk P w K mg base CX0 7 g.hqL g.gqf ["base", "goal"] (pqN K) := by
  refine g.jqI.ok pq1 (fun vs H Q E h => ?_) (fun cdv A outer s H vs Q E hr h => ?_)
  · obtain ⟨b, g, vb, vg, rfl, _⟩ := h; rfl
  · obtain ⟨b, g', vb, vg, rfl, hB, hG, wb, wg, sb, sg, hb, hg, k⟩ := h
    refine ⟨_, (aqd (aqE (PW.pt (fqD (aq2 (aqB (aqg (eq3 g) (hr.mono (by decide)) rfl g.eqG g.dqF.kp g.eqD .nil pass0 (aqa (pv 0) aqb)))) (eqg (aq2 (aqB (aqg (eq3 g) (hr.mono (by decide)) rfl g.eqG g.dqF.kp g.eqD .nil pass0 (aqa (pv 1) aqb)))))))
        (aqc fqc) aqo)
      (aqc (aql (aqg (oq7 g) (hr.mono (by decide)) rfl g.lqx g.iqi.kp g.kq2 .nil pass0 (aqa (aqg (cqQ g) (hr.mono (by decide)) rfl g.cqb g.bqB.kp g.cqk .nil pass0 (aqa (pv 0) aqb)) (aqa (aqg (cqQ g) (hr.mono (by decide)) rfl g.cqb g.bqB.kp g.cqk .nil pass0 (aqa (pv 1) aqb)) aqb)))))), ?_⟩
    obtain ⟨pb, ub, qb, rfl, hpb, hwb, hqb⟩ := dq4 hB
    obtain ⟨pg, ug, qg, rfl, hpg, hwg, hqg⟩ := dq4 hG
    walk_at "rd"
    refine ⟨pb, b.scheme, _, rfl, hpb, _, rfl, ?_⟩
    rw [if_neg (by simp [sb])]
    refine ⟨pg, g'.scheme, _, rfl, hpg, _, rfl, ?_⟩
    rw [if_neg (by simp [sg])]
    have lb := b.gone_len
    have lg := g'.gone_len
    refine ⟨b, _, rfl, hB, by omega, fun u H1 s1 hu => ⟨g', _, rfl, hG.mono s1, by omega, fun u2 H2 s2 hu2 => ⟨b.gone, g'.gone, u, u2, rfl, hu.mono s2, hu2, wb.gone, wg.gone, b.gone_again, g'.gone_again, by omega, by omega, fun v H3 s3 hv => k v H3 ((s1.trans s2).trans s3) ?_⟩⟩⟩
    rw [rqT] at hv
    exact hv
theorem pqm (g : G K mg) : FnOk P w K mg base CX0 7 g.qqv g.nqn ["text"] (uq1 K) := by
  refine g.oqO.ok hqz (fun vs H Q E h => ?_) (fun cdv A outer s H vs Q E hr h => ?_)
  · obtain ⟨x, t, rfl, _⟩ := h; rfl
  · obtain ⟨x, t, rfl, hl, h128, wf, hw, k⟩ := h
    refine ⟨_, (aqd (aqE (aq2 (aqB (aqv iqV rfl g.aqA aqt (aqa (pv 0) (aqa (cqo (v := .ty "str") rfl g.lqF hqZ rfl) aqb)))))
        (aqc fqc) aqo)
      (aqd (aqj (i := 1) hqz.nd rfl (Or.inl rfl) (wqa g.qqs (jqh g) (hr.mono (by decide)) rfl g.qqk g.fqN .nil pass0 (aqa (pv 0) aqb)))
      (aqd (aqj (i := 2) hqz.nd rfl (Or.inl rfl) (aqg (lqP g) (hr.mono (by decide)) rfl g.iqc g.fqF.kp g.iqe .nil pass0 (aqa (pv 1) aqb)))
      (aqd (aqj (i := 3) hqz.nd rfl (Or.inl rfl) (aqg (lqV g) (hr.mono (by decide)) rfl g.iqF g.gqr.kp g.iq3 .nil pass0 (aqa (pv 1) aqb)))
      (aqx (aqj (i := 4) hqz.nd rfl (Or.inl rfl) (aq0 (aqk cq5 (pv 3) aqF (nomark _)) aqF (aqg (nqb g) (hr.mono (by decide)) rfl g.jqU g.hql.kp g.jq6 .nil pass0 (aqa (pv 1) aqb))))
      (aqx (aqj (i := 5) hqz.nd rfl (Or.inl rfl) (aqg (oqY g) (hr.mono (by decide)) rfl g.lqv g.iqj.kp g.lqy .nil pass0 (aqa (pv 1) (aqa (nq9 (aq4 hqX (pv 2) aqp (nomark _)) (fqb (aq4 cqq (pv 3) aqF (nomark _)))) aqb))))
      (aqd (aqj (i := 6) hqz.nd rfl (Or.inl rfl) (aqg (jqn g) (hr.mono (by decide)) rfl g.gqG g.eqd.kp g.gqI .nil pass0 (aqa (pv 1) aqb)))
      (aqd (aqj (i := 7) hqz.nd rfl (Or.inl rfl) (aqg (nqF g) (hr.mono (by decide)) rfl g.jq5 g.hqB.kp g.jq7 .nil pass0 (aqa (pv 1) aqb)))
      (aqd (aqE (aq2 (aqB (gqp (pv 1) g.aqq g.eqe (gqN g) (hr.mono (by decide)) g.eqW .nil pass0)))
        (aqc fqc) aqo)
      (aqc (aql (aqy (aqa (pv 2) (aqa (pv 3) (aqa (pv 4) (aqa (pv 5) (aqa (pv 6) (aqa (pv 7) aqb)))))))))))))))))), ?_⟩
    obtain ⟨hT, dT, wT, qT, mT, et, es, hH, hD, hS, hQ, hM⟩ := hw
    walk_at "rd"
    intro p dx hp hdx hne
    have hmr : mT = [] ∨ ∃ y, mT = 35 :: y := by
      cases hm : x.mark with
      | none => rw [hm] at hM; exact .inl hM
      | some s => rw [hm] at hM; obtain ⟨v, e, _⟩ := hM; exact .inr ⟨v, e⟩
    have hrq : qT ++ mT = [] ∨ (∃ y, qT ++ mT = 35 :: y) ∨ ∃ y, qT ++ mT = 63 :: y := by
      cases hq : x.quest with
      | none =>
        rw [hq] at hQ
        have hQ : qT = [] := hQ
        rw [hQ]
        rcases hmr with e | ⟨y, e⟩
        · exact .inl e
        · exact .inr (.inl ⟨y, e⟩)
      | some ps =>
        rw [hq] at hQ
        cases ps with
        | nil =>
          have hQ : qT = [63] := hQ
          exact .inr (.inr ⟨mT, by rw [hQ]; rfl⟩)
        | cons a ps =>
          obtain ⟨n, o⟩ := a
          obtain ⟨a, v, r, e, _⟩ := hQ
          exact .inr (.inr ⟨_, by rw [e]; rfl⟩)
    have sb0 : SameBut p H (upd (upd H dx (.own p)) p (.ins g.aqu dx [])) := fun b o n e => by
      rw [aqI n, aqI (aqz e hdx)]
      exact e
    refine ⟨p, dx, t, rfl, aqr, fun H1 s1 c1 => ⟨rfl, ?_⟩⟩
    have sb1 := sb0.trans s1
    have tl : ∀ {a b : List Nat}, t = a ++ b → a.length ≤ t.length ∧ t.drop a.length = b := fun {a b} e => by
      rw [e, List.drop_left, List.length_append]
      exact ⟨by omega, rfl⟩
    refine ⟨p, t, rfl, c1, hl, fun H2 s2 c2 => ?_⟩
    rw [es]
    have eP : schP t = (schT x.scheme).length := by unfold schP; rw [es]
    rw [eP] at c2
    obtain ⟨i2, d2⟩ := tl et
    have hrt : x.house ≠ none → x.rooted = true := fun z => wf.roo (.inr z)
    refine ⟨p, t, hT, _, _, x.house, rfl, c2, i2, by omega, h128, d2, hH, ?_, ?_, fun H3 s3 c3 => ?_⟩
    · intro hn
      rw [hrt hn]
      refine fun c hc => ?_
      cases hdo : x.door with
      | none =>
        rw [hdo] at hD
        have hD : dT = [] := hD
        rw [hD] at hc
        cases hc
        decide
      | some n =>
        rw [hdo] at hD
        obtain ⟨ds, rfl, _⟩ := hD
        cases hc
        decide
    · intro hn
      cases hdo : x.door with
      | some n => exact absurd hn (wf.doo n hdo).2
      | none =>
        rw [hdo] at hD
        have hD : dT = [] := hD
        rw [hD, List.nil_append]
        have hr : (qT ++ mT).head? ≠ some 47 := fun z => by
          rcases hrq with e | ⟨y, e⟩ | ⟨y, e⟩ <;> rw [e] at z <;> cases z
        have h47 := qql hS hr
        cases hrt' : x.rooted with
        | false =>
          intro z
          simp only [Bool.false_eq_true, if_false, List.nil_append] at z
          cases hh : wT ++ (qT ++ mT) with
          | nil => rw [hh] at z; cases z
          | cons c r => rw [hh] at z h47; exact h47 (by injection z with z1 z2; rw [z1]; rfl)
        | true =>
          intro z
          simp only [if_true, List.cons_append, List.nil_append] at z
          cases hh : wT ++ (qT ++ mT) with
          | nil => rw [hh] at z; cases z
          | cons c r =>
            rw [hh] at z h47
            refine h47 ?_
            injection z with z1 z2
            injection z2 with z2 z3
            rw [z2]
            rfl
    have sb3 := (sb1.trans s2).trans s3
    obtain ⟨i3, d3⟩ := tl (a := schT x.scheme ++ hT) (b := dT ++ ((if x.rooted then [47] else []) ++ (wT ++ (qT ++ mT)))) (by rw [et]; simp)
    rw [List.length_append] at i3 d3
    refine ⟨fun σ H4 => SameBut p H H4 ∧ Cur H4 g.aqu p t ((schT x.scheme ++ (hT ++ dT)).length) ∧ σ = [some (.str ⟨t.toArray⟩), some (.ref p), some (.str ⟨x.scheme.toArray⟩), some (otV x.house), some (itV x.door), none, none, none], ?_, ?_⟩
    · cases hho : x.house with
      | none =>
        rw [if_pos (show otV none = V.non from rfl)]
        cases hdo : x.door with
        | some n => exact absurd hho (wf.doo n hdo).2
        | none =>
          rw [hdo] at hD
          have hD : dT = [] := hD
          refine ⟨sb3, ?_, rfl⟩
          rw [hD, List.append_nil, List.length_append]
          exact c3
      | some l =>
        rw [if_neg (by simp [otV])]
        refine ⟨p, t, dT, _, _, x.door, rfl, c3, i3, by omega, h128, d3, hD, ?_, ?_, fun H4 s4 c4 => ⟨sb3.trans s4, ?_, rfl⟩⟩
        · rw [hrt (by rw [hho]; simp)]
          intro c hc
          cases hc
          decide
        · intro _
          rw [hrt (by rw [hho]; simp)]
          simp
        · rw [List.length_append, List.length_append, ← Nat.add_assoc]
          exact c4
    rintro σ H4 ⟨sb4, c4, rfl⟩
    obtain ⟨i4, d4⟩ := tl (a := schT x.scheme ++ (hT ++ dT)) (b := (if x.rooted then [47] else []) ++ (wT ++ (qT ++ mT))) (by rw [et]; simp)
    walk_at "rd"
    have hway : ∀ must : Bool, (must = true → x.rooted = true) → ∀ (Q' : VK), (∀ u H5, SameBut p H H5 → Cur H5 g.aqu p t (t.length - (qT ++ mT).length) → IsT H5 x.way u → Q' u H5) → jqK K g.aqu [V.ref p, V.bl must] H4 Q' E0 := fun must hm Q' hk => by
      refine ⟨p, t, wT, qT ++ mT, _, must, x.rooted, x.steps, x.ends, rfl, c4, i4, by omega, h128, d4, hS, wf.end_, hm, ?_, ?_, fun u H5 s5 c5 hu => hk u H5 (sb4.trans s5) c5 hu⟩
      · rcases hrq with e | ⟨y, e⟩ | ⟨y, e⟩ <;> rw [e]
        · exact kqR
        · exact dqM ⟨by decide, by decide +kernel, by decide⟩
        · exact dqM ⟨by decide, by decide +kernel, by decide⟩
      · rcases hrq with e | ⟨y, e⟩ | ⟨y, e⟩ <;> rw [e] <;> simp
    refine ⟨fun σ H5 => ∃ u, SameBut p H H5 ∧ Cur H5 g.aqu p t (t.length - (qT ++ mT).length) ∧ IsT H5 x.way u ∧ σ = [some (.str ⟨t.toArray⟩), some (.ref p), some (.str ⟨x.scheme.toArray⟩), some (otV x.house), some (itV x.door), some u, none, none], ?_, ?_⟩
    · refine ite2 (fun z => ?_) (fun z => ?_)
      · exact hway true (fun _ => wf.roo (.inl fun e => z (by rw [e]))) _ (fun u H5 sb c hu => ⟨u, sb, c, hu, rfl⟩)
      · refine hway _ (fun e => hrt fun z' => ?_) _ (fun u H5 sb c hu => ⟨u, sb, c, hu, rfl⟩)
        rw [z'] at e
        exact absurd e (by simp [otV])
    rintro σ H5 ⟨u, sb5, c5, hu, rfl⟩
    have hqm : t.length - (qT ++ mT).length + (qT ++ mT).length = t.length := by
      have := congrArg List.length et
      simp only [List.length_append] at this ⊢
      omega
    obtain ⟨i5, d5⟩ := tl (a := schT x.scheme ++ (hT ++ (dT ++ ((if x.rooted then [47] else []) ++ wT)))) (b := qT ++ mT) (by rw [et]; simp)
    have e5 : (schT x.scheme ++ (hT ++ (dT ++ ((if x.rooted then [47] else []) ++ wT)))).length = t.length - (qT ++ mT).length := by
      have := congrArg List.length et
      simp only [List.length_append] at this ⊢
      omega
    rw [e5] at i5 d5
    walk_at "rd"
    refine ⟨p, t, qT, mT, _, x.quest, rfl, c5, i5, by omega, h128, d5, hQ, hmr, fun uq H6 s6 c6 hq => ?_⟩
    have e6 : t.length - mT.length ≤ t.length := by omega
    have d6 : t.drop (t.length - mT.length) = mT := by
      obtain ⟨_, z⟩ := tl (a := schT x.scheme ++ (hT ++ (dT ++ ((if x.rooted then [47] else []) ++ (wT ++ qT))))) (b := mT) (by rw [et]; simp)
      have e7 : (schT x.scheme ++ (hT ++ (dT ++ ((if x.rooted then [47] else []) ++ (wT ++ qT))))).length = t.length - mT.length := by
        have := congrArg List.length et
        simp only [List.length_append] at this ⊢
        omega
      rw [e7] at z
      exact z
    refine ⟨p, t, mT, _, x.mark, rfl, c6, e6, by omega, h128, d6, hM, fun H7 s7 c7 => ?_⟩
    refine aqw c7 ⟨p, t, _, rfl, c7, by omega, _, rfl, ?_⟩
    rw [decide_eq_true rfl, if_neg (by decide)]
    refine ⟨by decide, fun pr H8 _ s8 h8 => k _ H8 (((((sb5.trans s6).trans s7).same hp).trans s8)) ?_⟩
    exact adT h8 ((((hu.mono (c5.toT s6)).mono (c6.toT s7))).mono s8.toT) ((hq.mono (c6.toT s7)).mono s8.toT)
theorem pqC (g : G K mg) : FnOk P w K mg base CX0 7 g.hqF g.fq3 ["base", "address"] (pqW K) := by
  refine g.jqC.ok pqA (fun vs H Q E h => ?_) (fun cdv A outer s H vs Q E hr h => ?_)
  · obtain ⟨b, x, vb, vx, rfl, _⟩ := h; rfl
  · obtain ⟨b, x, vb, vx, rfl, hB, hX, hws, wf, hb, hx, k⟩ := h
    refine ⟨_, (aqd (aqE (aq2 (aqB (aqg (eq3 g) (hr.mono (by decide)) rfl g.eqG g.dqF.kp g.eqD .nil pass0 (aqa (pv 0) aqb))))
        (aqc fqc) aqo)
      (aqc (aql (aqg (cqQ g) (hr.mono (by decide)) rfl g.cqb g.bqB.kp g.cqk .nil pass0 (aqa (aq0 (aqB (aqg (eq3 g) (hr.mono (by decide)) rfl g.eqG g.dqF.kp g.eqD .nil pass0 (aqa (pv 1) aqb))) (pv 1) (aqg (nql g) (hr.mono (by decide)) rfl g.kqa g.gq3.kp g.jq8 .nil pass0 (aqa (pv 0) (aqa (pv 1) aqb)))) aqb))))), ?_⟩
    obtain ⟨pb, wb, qb, rfl, hpb, hwb, hqb⟩ := dq4 hB
    obtain ⟨px, wx, qx, rfl, hpx, hwx, hqx⟩ := dq4 hX
    walk_at "rd"
    refine ⟨pb, b.scheme, _, rfl, hpb, _, rfl, ?_⟩
    rw [if_neg (by simp [hws])]
    refine ⟨px, x.scheme, _, rfl, hpx, _, rfl, ?_⟩
    by_cases h : x.scheme = []
    · rw [if_neg (by simp [h])]
      refine ⟨b, x, _, _, rfl, hB, hX, wf, hb, hx, fun v H1 s1 hv => ⟨madeWhole b x, v, rfl, hv, by have := mqT b x; omega, fun u H2 s2 hu => k u H2 (s1.trans s2) ?_⟩⟩
      rw [rqM wf h]; exact hu
    · rw [if_pos (by simp [h])]
      refine ⟨x, _, rfl, hX, by omega, fun u H1 s1 hu => k u H1 s1 ?_⟩
      rw [mqp h]; exact hu
theorem jqT (g : G K mg) : FnOk P w K mg base CX0 8 g.fq1 g.fqu ["_law_base", "_law_goal"] (nqT K) := by
  refine g.gqD.ok jqW (fun vs H Q E h => ?_) (fun cdv A outer s H vs Q E hr h => ?_)
  · obtain ⟨b, g, vb, vg, rfl, _⟩ := h; rfl
  · obtain ⟨b, g', vb, vg, rfl, hb, hg, wb, wg, tb, tg, sb, sg, lb, lg, k⟩ := h
    refine ⟨_, (aqd (aqj (i := 2) jqW.nd rfl (Or.inl rfl) (aqg (vqW g) (hr.mono (by decide)) rfl g.uqB g.sqg.kp g.uqH .nil pass0 (aqa (aqg (pqD g) (hr.mono (by decide)) rfl g.mqt g.jqI.kp g.mqC .nil pass0 (aqa (pv 0) (aqa (pv 1) aqb))) aqb)))
      (aqd (aqE (PW.pt (fqD (aq2 (aqB (aqv iqV rfl g.aqA aqt (aqa (pv 2) (aqa (cqo (v := .ty "str") rfl g.lqF hqZ rfl) aqb))))) (eqg (aqk kql (aqv (aqQ (K := K) rfl) rfl g.fqT PySem.boot_len (aqa (pv 2) aqb)) aqe (nomark _)))))
        (aqc (aql aqF)) aqo)
      (aqc (aql (aqg (pqC g) (hr.mono (by decide)) rfl g.mqK g.jqC.kp g.mqz .nil pass0 (aqa (pv 0) (aqa (aqg (pqm g) (hr.mono (by decide)) rfl g.pq9 g.oqO.kp g.pq5 .nil pass0 (aqa (pv 2) aqb)) aqb))))))), ?_⟩
    have wr0 := sq7 (b := b) wg sg
    have tr0 := nqO (b := b) tg tb
    have lr0 := uqo b g'
    have szr : (relM b g').Sz := tr0.sz wr0 (by omega)
    have short := rq4 (b := b) wg sg tb tg lb lg
    walk_at "rd"
    refine ⟨b, g', vb, vg, rfl, hb, hg, wb, wg, sb, sg, by omega, by omega, fun v1 H1 s1 h1 => ?_⟩
    refine ⟨relM b g', v1, rfl, h1, wr0, szr, fun H2 s2 => ?_⟩
    walk_at "rd"
    refine ⟨aqn (by omega), ite2 (fun z => absurd z (by omega)) (fun _ => ?_)⟩
    refine ⟨relM b g', _, rfl, by omega, vq1 wr0, wr0, vq5 wr0, fun u H3 s3 hu => ?_⟩
    refine ⟨b, relM b g', vb, u, rfl, hb.mono (s1.trans (s2.trans s3)), hu.k, sb, wr0, by omega, by omega, fun v H4 s4 hv => ?_⟩
    rw [rqt wb wg sb sg] at hv
    exact k v H4 (s1.trans (s2.trans (s3.trans s4))) hv
theorem xqu (g : G K mg) : FnOk P w K mg base CX0 9 g.tqD g.nqW ["_law_script"] (qqe K) := by
  refine g.yqu.ok jqP (fun vs H Q E h => ?_) (fun cdv A outer s H vs Q E hr h => ?_)
  · obtain ⟨a, ns, rfl, _⟩ := h; rfl
  · obtain ⟨a, ns, rfl, hS, hn, k⟩ := h
    refine ⟨_, (aqx (aqj (i := 1) jqP.nd rfl (Or.inl rfl) (aqg (nqJ g) (hr.mono (by decide)) rfl g.lqA g.iqt.kp g.lqk .nil pass0 (aqa (pv 0) aqb)))
      (aqx (aqj (i := 2) jqP.nd rfl (Or.inl rfl) (cqU (aqa (aqm (aqN (K := K)) aqe (aqm aqW (aqg (bqg g) (hr.mono (by decide)) rfl g.bqb g.aqX.kp g.bqa .nil pass0 (aqa (pv 0) (aqa aqe aqb))) (aqm wq1 aqe aqe))) aqb)))
      (aqx (aqj (i := 3) jqP.nd rfl (Or.inl rfl) (aqg (pqm g) (hr.mono (by decide)) rfl g.pq9 g.oqO.kp g.pq5 .nil pass0 (aqa (aqg (iq5 g) (hr.mono (by decide)) rfl g.hqe g.fqx.kp g.gq0 .nil pass0 (aqa (aqs (aqf (K := K) rfl) (pv 1) aqe (fun _ _ => rfl)) (aqa (pv 2) aqb))) aqb)))
      (aqx (aqj (i := 4) jqP.nd rfl (Or.inl rfl) (aqg (pqm g) (hr.mono (by decide)) rfl g.pq9 g.oqO.kp g.pq5 .nil pass0 (aqa (aqg (iq5 g) (hr.mono (by decide)) rfl g.hqe g.fqx.kp g.gq0 .nil pass0 (aqa (aqs (aqf (K := K) rfl) (pv 1) aqe (fun _ _ => rfl)) (aqa (pv 2) aqb))) aqb)))
      (aqx (aqE (PW.pt (fqD (aq2 (aqB (aqg (hqs g) (hr.mono (by decide)) rfl g.fq5 g.eq0.kp g.fqZ .nil pass0 (aqa (pv 3) (aqa (aqs (aqf (K := K) rfl) (pv 1) aqe (fun _ _ => rfl)) aqb))))) (eqg (aq2 (aqB (aqg (hqs g) (hr.mono (by decide)) rfl g.fq5 g.eq0.kp g.fqZ .nil pass0 (aqa (pv 4) (aqa (aqs (aqf (K := K) rfl) (pv 1) aqe (fun _ _ => rfl)) aqb))))))))
        (aqc (aql dqe)) aqo)
      (aqd (iqb PassesOwn.never rfl (nqh (K := K) rfl (cqU (aqa (aqy (aqa (pv 3) (aqa (pv 4) aqb))) (aqa (aqy (aqa (pv 4) (aqa (pv 3) aqb))) aqb)))) (mqQ (n := 2) (K := K) rfl rfl (bqJ (aq9 (i := 5) jqP.nd rfl (Or.inl rfl)) (bqJ (aq9 (i := 6) jqP.nd rfl (Or.inl rfl)) lql)))
      (aqx (aqj (i := 7) jqP.nd rfl (Or.inl rfl) (aqm (aqN (K := K)) (aqm (aqN (K := K)) (aqP eq6 (pv 6) bql (aqO aqe)) (aqy (aqa (aqg (oqU g) (hr.mono (by decide)) rfl g.kq7 g.iqo.kp g.lqE .nil pass0 (aqa (aqs (aqf (K := K) rfl) (pv 6) aqe (fun _ _ => rfl)) aqb)) aqb))) (aqP eq6 (pv 6) (aqO aqe) bql)))
      (aqx (aqE (aq2 (aqB (aqg (hqs g) (hr.mono (by decide)) rfl g.fq5 g.eq0.kp g.fqZ .nil pass0 (aqa (aqg (jqT g) (hr.mono (by decide)) rfl g.iqr g.gqD.kp g.iqg .nil pass0 (aqa (pv 5) (aqa (pv 6) aqb))) (aqa (pv 7) aqb)))))
        (aqc (aql dqe)) aqo)
      (aqc (aqE (aqk (yqg (K := K) rfl hr.units) (aqg (jqT g) (hr.mono (by decide)) rfl g.iqr g.gqD.kp g.iqg .nil pass0 (aqa (aqg (nqy g) (hr.mono (by decide)) rfl g.mqO g.lqq.kp g.nqD .nil pass0 (aqa (pv 5) aqb)) (aqa (aqg (nqy g) (hr.mono (by decide)) rfl g.mqO g.lqq.kp g.nqD .nil pass0 (aqa (pv 6) aqb)) aqb))) (aqg (nqy g) (hr.mono (by decide)) rfl g.mqO g.lqq.kp g.nqD .nil pass0 (aqa (pv 6) aqb)) (nomark _))
        (aqc (aql dqe)) aqo)))))
      (aqc (aql dqe)))))))), ?_⟩
    walk_at "rd"
    refine ⟨fun σ H1 => Same H H1 ∧ ∃ (b g : Ad) (vb vg : V) (pp : Addr), σ = [some (.ref a), some (.ref pp), none, none, none, none, none, none] ∧ GoodAd 54 b ∧ GoodAd 54 g ∧ IsT H1 b.data vb ∧ IsT H1 g.data vg ∧ H1 pp = some (.tup [vb, vg]), ?_, ?_⟩
    · exact ⟨a, ns, rfl, hS, hn, fun b g vb vg p H1 s1 gb gg hb hg hp => ⟨s1, b, g, vb, vg, p, rfl, gb, gg, hb, hg, hp⟩⟩
    rintro σ H1 ⟨s1, b, g', vb, vg, pp, rfl, gb, gg, hb, hg, hp⟩
    walk_at "rd"
    refine ⟨fun σ H2 => Same H1 H2 ∧ ∃ pq : Addr, Bt H2 pq 1 ∧ H1 pq = none ∧ σ = [some (.ref a), some (.ref pp), some (.ref pq), none, none, none, none, none], ?_, ?_⟩
    · refine ⟨a, ns, 8, rfl, s1.seq hS, ⟨by decide, by decide, by decide⟩, ?_⟩
      walk_at "rd"
      have m1 := Int.emod_nonneg (ns.getD 8 0) (show ((10 : Int) ^ Int.toNat 9) ≠ 0 by decide)
      have m2 := Int.emod_lt_of_pos (ns.getD 8 0) (show 0 < ((10 : Int) ^ Int.toNat 9) by decide)
      have m3 : ((10 : Int) ^ Int.toNat 9) = 1000000000 := by decide
      exact ⟨by decide, by decide, fun p H2 n2 s2 e2 => ⟨s2, p, ⟨[1 + ns.getD 8 0 % 10 ^ Int.toNat 9], e2, by simp, fun b hb => by rw [List.mem_singleton.mp hb]; omega, by simp⟩, n2, rfl⟩⟩
    rintro σ H2 ⟨s2, pq, bt, nq, rfl⟩
    walk_at "rd"
    refine ⟨fun σ H3 => Same H1 H3 ∧ ∃ vb' : V, Bt H3 pq 2001 ∧ IsT H3 b.data vb' ∧ σ = [some (.ref a), some (.ref pp), some (.ref pq), some vb', none, none, none, none], ?_, ?_⟩
    · refine ⟨_, _, .inr (.of (s2 _ _ hp)), rfl, b, vb, pq, 1, rfl, hb.mono s2.toT, gb.wf, gb.ti, by have := gb.ln; omega, bt, by decide, fun t H3 hR h128 hl s3 b3 => ?_⟩
      have s13 : Same H1 H3 := (s2.but.trans s3).same nq
      refine ⟨b, t, rfl, hl, h128, gb.wf, hR, fun u H4 s4 hu => ⟨s13.trans s4, u, b3.same s4, hu, rfl⟩⟩
    clear bt
    rintro σ H3 ⟨s3, vb', bt, hb3, rfl⟩
    walk_at "rd"
    refine ⟨fun σ H4 => Same H1 H4 ∧ ∃ vg' : V, IsT H4 b.data vb' ∧ IsT H4 g'.data vg' ∧ σ = [some (.ref a), some (.ref pp), some (.ref pq), some vb', some vg', none, none, none], ?_, ?_⟩
    · refine ⟨_, _, .inr (.of (s3 _ _ hp)), rfl, g', vg, pq, 2001, rfl, hg.mono s3.toT, gg.wf, gg.ti, by have := gg.ln; omega, bt, by decide, fun t H4 hR h128 hl s4 b4 => ?_⟩
      have s14 : Same H1 H4 := (s3.but.trans s4).same nq
      refine ⟨g', t, rfl, hl, h128, gg.wf, hR, fun u H5 s5 hu => ⟨s14.trans s5, u, (hb3.mono (bt.toT s4)).mono s5.toT, hu, rfl⟩⟩
    clear bt hb3
    rintro σ H4 ⟨s4, vg', hb4, hg4, rfl⟩
    have lb := gb.ln
    have lg := gg.ln
    walk_at "rd"
    refine ⟨fun σ H5 => Same H4 H5 ∧ σ = [some (.ref a), some (.ref pp), some (.ref pq), some vb', some vg', none, none, none], ?_, ?_⟩
    · refine ⟨_, _, .inr (.of (s4 _ _ hp)), rfl, b, vb', vb, rfl, hb4.k, (hb.mono s4.toT).k, gb.wf, by omega, fun H5 s5 => ⟨true, rfl, ?_⟩⟩
      rw [if_neg (by decide)]
      refine ⟨_, _, .inr (.of ((s4.trans s5) _ _ hp)), rfl, g', vg', vg, rfl, (hg4.mono s5.toT).k, (hg.mono (s4.trans s5).toT).k, gg.wf, by omega, fun H6 s6 => ⟨true, rfl, ?_⟩⟩
      rw [if_neg (by decide)]
      exact ⟨s5.trans s6, rfl⟩
    rintro σ H5 ⟨s5, rfl⟩
    have hb5 := hb4.mono s5.toT
    have hg5 := hg4.mono s5.toT
    walk_at "rd"
    refine ⟨by decide, fun p6 H6 n6 s6 e6 => ⟨by decide, fun p7 H7 n7 s7 e7 => ⟨by decide, fun pl H8 n8 s8 e8 => ⟨⟨_, .of e8⟩, ?_⟩⟩⟩⟩
    have s58 := s6.trans (s7.trans s8)
    have all : ∀ v ∈ [V.ref p6, V.ref p7], ∃ (q : Addr) (x y : Ad) (vx vy : V), v = .ref q ∧ H8 q = some (.tup [vx, vy]) ∧ GoodAd 54 x ∧ GoodAd 54 y ∧ IsT H8 x.data vx ∧ IsT H8 y.data vy := fun v hv => by
      simp only [List.mem_cons, List.not_mem_nil, or_false] at hv
      rcases hv with rfl | rfl
      · exact ⟨p6, b, g', vb', vg', rfl, (s7.trans s8) _ _ e6, gb, gg, hb5.mono s58.toT, hg5.mono s58.toT⟩
      · exact ⟨p7, g', b, vg', vb', rfl, s8 _ _ e7, gg, gb, hg5.mono s58.toT, hb5.mono s58.toT⟩
    refine oqC (xs := [V.ref p6, V.ref p7]) (fun i σ H' => Same H8 H' ∧ ∃ v5 v6 v7, σ = [some (.ref a), some (.ref pp), some (.ref pq), some vb', some vg', v5, v6, v7]) ⟨Same.refl _, _, _, _, rfl⟩ (fun i σ H' _ h => .of (h.1 _ _ e8)) ?_ ?_
    rotate_left
    · rintro σ H9 ⟨s9, v5, v6, v7, rfl⟩
      walk_at "rd"
      exact k H9
    rintro i v σ H9 hv ⟨s9, v5, v6, v7, rfl⟩
    obtain ⟨q, x, y, vx, vy, rfl, eq, gx, gy, hx, hy⟩ := all v (List.mem_of_getElem? hv)
    have hx := hx.mono s9.toT
    have hy := hy.mono s9.toT
    have lx := gx.ln
    have ly := gy.ln
    obtain ⟨py, uy, qy, rfl, hpy, hwy, hqy⟩ := jqY hy
    walk_at "rd"
    refine ⟨q, _, rfl, .of (s9 _ _ eq), rfl, _, _, rfl, _, _, rfl, rfl, ?_⟩
    walk_at "rd"
    refine ⟨fun σ H10 => Same H9 H10 ∧ ∃ vd : V, IsT H10 y.gone.data vd ∧ σ = [some (.ref a), some (.ref pp), some (.ref pq), some vb', some vg', some vx, some (.ref py), some vd], ?_, ?_⟩
    · refine ⟨_, hpy, fun p1 Ha sa hp1 => ⟨_, _, .inr (.of (sa _ _ hpy)), rfl, y.w, uy, rfl, hwy.mono sa.toT, gy.wf.sg, by show y.steps.length ≤ 2000; omega, fun u Hb sb hu => ⟨by decide, fun p2 Hc hnc sc hp2 => .inr ⟨_, _, (sb.trans sc) _ _ hp1, hp2, (show 4 ≤ sizeLine by decide), fun p3 Hd sd hp3 => ?_⟩⟩⟩⟩
      have s9d := ((sa.trans sb).trans sc).trans sd
      refine ⟨_, s9d _ _ hpy, fun p4 He se hp4 => .inr ⟨_, _, se _ _ hp3, hp4, (show 6 ≤ sizeLine by decide), fun p5 Hf sf hp5 => ?_⟩⟩
      have s9f := (s9d.trans se).trans sf
      exact ⟨s9f, _, adT (x := y.gone) hp5 (hu.mono (((sc.trans sd).trans se).trans sf).toT) (hqy.mono s9f.toT), rfl⟩
    rintro σ H10 ⟨s10, vd, hd, rfl⟩
    walk_at "rd"
    refine ⟨fun σ H11 => Same H10 H11 ∧ σ = [some (.ref a), some (.ref pp), some (.ref pq), some vb', some vg', some vx, some (.ref py), some vd], ?_, ?_⟩
    · refine ⟨x, y, vx, .ref py, rfl, (hx.mono s10.toT).k, (hy.mono s10.toT).k, gx.wf, gy.wf, gx.ti, gy.ti, gx.sc, gy.sc, lx, ly, fun v1 Ha sa h1 => ?_⟩
      refine ⟨y.gone, v1, vd, rfl, h1, (hd.mono sa.toT).k, gy.wf.gone, by have := Ad.gone_len y; omega, fun Hb sb => ⟨true, rfl, ?_⟩⟩
      rw [if_neg (by decide)]
      exact ⟨sa.trans sb, rfl⟩
    rintro σ H11 ⟨s11, rfl⟩
    have s9b := s10.trans s11
    walk_at "rd"
    have wpx := oqV gx.wf
    have wpy := oqV gy.wf
    have lpx := mqi x
    have lpy := mqi y
    have spx : (plainM x).scheme ≠ [] := fun z => gx.sc (by
      have : lowT x.scheme = [] := z
      unfold lowT at this
      exact List.map_eq_nil_iff.mp this)
    have spy : (plainM y).scheme ≠ [] := fun z => gy.sc (by
      have : lowT y.scheme = [] := z
      unfold lowT at this
      exact List.map_eq_nil_iff.mp this)
    have egp : (plainM y).gone = plainM y := Ad.gone_again _
    refine ⟨x, vx, rfl, (hx.mono s9b.toT).k, gx.wf, by omega, fun u1 Ha sa h1 => ?_⟩
    refine ⟨y, .ref py, rfl, (hy.mono (s9b.trans sa).toT).k, gy.wf, by omega, fun u2 Hb sb h2 => ?_⟩
    refine ⟨plainM x, plainM y, u1, u2, rfl, h1.mono sb, h2, wpx, wpy, kqV gx.ti, kqV gy.ti, spx, spy, by omega, by omega, fun u3 Hc sc h3 => ?_⟩
    rw [egp] at h3
    refine ⟨y, .ref py, rfl, (hy.mono (s9b.trans (sa.trans (sb.trans sc))).toT).k, gy.wf, by omega, fun u4 Hd sd h4 => ?_⟩
    refine ⟨_, _, h3.mono sd, h4, wpy.shaped, wpy.shaped, _, rfl, ?_⟩
    rw [(Ad.eqv_iff _ _).mpr rfl]
    exact ite2 (fun z => absurd z (by decide)) (fun _ => ⟨s9.trans (s9b.trans (sa.trans (sb.trans (sc.trans sd)))), _, _, _, rfl, rfl, rfl⟩)
end
theorem xq9 {l : PySem.W.OpenLaw} {w : World} {K : PySem.W.Frag} {h : Heap} {mg : Str → Option Value} {fa : Addr} (X : K.In h) (Gl : h.Ns mainGlobals mg) (hfa : mg "law" = some (.ref fa))
    {kC_Cursor : Addr} (aC_Cursor : PySem.W.nsIn K mainGlobals "Cursor" = some (some (.ref kC_Cursor)))
    {f1 : Addr} {od1 an1 : Option Addr} {sl1 : Array (Option Value)} {oc1 kV1 dc1 pm1 cd1 ct1 : Value}
    (a1 : PySem.W.nsIn K mainGlobals "made_of" = some (some (.ref f1))) (l1 : K.lookup f1 = some ⟨oc1, od1, .func (PySem.W.fnOf "made_of" "made_of" (defArgs eqZ) (defBody eqZ) (defScope eqZ) .none kV1 dc1 pm1 an1 cd1 ct1), sl1⟩)
    {f2 : Addr} {od2 an2 : Option Addr} {sl2 : Array (Option Value)} {oc2 kV2 dc2 pm2 cd2 ct2 : Value}
    (a2 : PySem.W.nsIn K mainGlobals "pair_of" = some (some (.ref f2))) (l2 : K.lookup f2 = some ⟨oc2, od2, .func (PySem.W.fnOf "pair_of" "pair_of" (defArgs eqY) (defBody eqY) (defScope eqY) .none kV2 dc2 pm2 an2 cd2 ct2), sl2⟩)
    {f3 : Addr} {od3 an3 : Option Addr} {sl3 : Array (Option Value)} {oc3 kV3 dc3 pm3 cd3 ct3 : Value}
    (a3 : PySem.W.nsIn K mainGlobals "figure_number" = some (some (.ref f3))) (l3 : K.lookup f3 = some ⟨oc3, od3, .func (PySem.W.fnOf "figure_number" "figure_number" (defArgs bqh) (defBody bqh) (defScope bqh) .none kV3 dc3 pm3 an3 cd3 ct3), sl3⟩)
    {f4 : Addr} {od4 an4 : Option Addr} {sl4 : Array (Option Value)} {oc4 kV4 dc4 pm4 cd4 ct4 : Value}
    (a4 : PySem.W.nsIn K mainGlobals "sign_numbered" = some (some (.ref f4))) (l4 : K.lookup f4 = some ⟨oc4, od4, .func (PySem.W.fnOf "sign_numbered" "sign_numbered" (defArgs bqi) (defBody bqi) (defScope bqi) .none kV4 dc4 pm4 an4 cd4 ct4), sl4⟩)
    {f5 : Addr} {od5 an5 : Option Addr} {sl5 : Array (Option Value)} {oc5 kV5 dc5 pm5 cd5 ct5 : Value}
    (a5 : PySem.W.nsIn K mainGlobals "is_whole" = some (some (.ref f5))) (l5 : K.lookup f5 = some ⟨oc5, od5, .func (PySem.W.fnOf "is_whole" "is_whole" (defArgs dqO) (defBody dqO) (defScope dqO) .none kV5 dc5 pm5 an5 cd5 ct5), sl5⟩)
    {f6 : Addr} {od6 an6 : Option Addr} {sl6 : Array (Option Value)} {oc6 kV6 dc6 pm6 cd6 ct6 : Value}
    (a6 : PySem.W.nsIn K mainGlobals "is_dot" = some (some (.ref f6))) (l6 : K.lookup f6 = some ⟨oc6, od6, .func (PySem.W.fnOf "is_dot" "is_dot" (defArgs gqh) (defBody gqh) (defScope gqh) .none kV6 dc6 pm6 an6 cd6 ct6), sl6⟩)
    {f7 : Addr} {od7 an7 : Option Addr} {sl7 : Array (Option Value)} {oc7 kV7 dc7 pm7 cd7 ct7 : Value}
    (a7 : PySem.W.nsIn K mainGlobals "go_up" = some (some (.ref f7))) (l7 : K.lookup f7 = some ⟨oc7, od7, .func (PySem.W.fnOf "go_up" "go_up" (defArgs iqw) (defBody iqw) (defScope iqw) .none kV7 dc7 pm7 an7 cd7 ct7), sl7⟩)
    {f8 : Addr} {od8 an8 : Option Addr} {sl8 : Array (Option Value)} {oc8 kV8 dc8 pm8 cd8 ct8 : Value}
    (a8 : PySem.W.nsIn K mainGlobals "can_stay" = some (some (.ref f8))) (l8 : K.lookup f8 = some ⟨oc8, od8, .func (PySem.W.fnOf "can_stay" "can_stay" (defArgs dqz) (defBody dqz) (defScope dqz) .none kV8 dc8 pm8 an8 cd8 ct8), sl8⟩)
    {f9 : Addr} {od9 an9 : Option Addr} {sl9 : Array (Option Value)} {oc9 kV9 dc9 pm9 cd9 ct9 : Value}
    (a9 : PySem.W.nsIn K mainGlobals "count_in_common" = some (some (.ref f9))) (l9 : K.lookup f9 = some ⟨oc9, od9, .func (PySem.W.fnOf "count_in_common" "count_in_common" (defArgs aqR) (defBody aqR) (defScope aqR) .none kV9 dc9 pm9 an9 cd9 ct9), sl9⟩)
    {f10 : Addr} {od10 an10 : Option Addr} {sl10 : Array (Option Value)} {oc10 kV10 dc10 pm10 cd10 ct10 : Value}
    (a10 : PySem.W.findIn K (.ref kC_Cursor) "__init__" = some (some (.ref f10))) (i10 : PySem.W.isFn K (.ref f10) = true) (l10 : K.lookup f10 = some ⟨oc10, od10, .func (PySem.W.fnOf "__init__" "Cursor.__init__" (defArgs aqV) (defBody aqV) (defScope aqV) .none kV10 dc10 pm10 an10 cd10 ct10), sl10⟩)
    {f11 : Addr} {od11 an11 : Option Addr} {sl11 : Array (Option Value)} {oc11 kV11 dc11 pm11 cd11 ct11 : Value}
    (a11 : PySem.W.findIn K (.ref kC_Cursor) "at_end" = some (some (.ref f11))) (i11 : PySem.W.isFn K (.ref f11) = true) (l11 : K.lookup f11 = some ⟨oc11, od11, .func (PySem.W.fnOf "at_end" "Cursor.at_end" (defArgs bqf) (defBody bqf) (defScope bqf) .none kV11 dc11 pm11 an11 cd11 ct11), sl11⟩)
    {f12 : Addr} {od12 an12 : Option Addr} {sl12 : Array (Option Value)} {oc12 kV12 dc12 pm12 cd12 ct12 : Value}
    (a12 : PySem.W.findIn K (.ref kC_Cursor) "take" = some (some (.ref f12))) (i12 : PySem.W.isFn K (.ref f12) = true) (l12 : K.lookup f12 = some ⟨oc12, od12, .func (PySem.W.fnOf "take" "Cursor.take" (defArgs bqU) (defBody bqU) (defScope bqU) .none kV12 dc12 pm12 an12 cd12 ct12), sl12⟩)
    {f13 : Addr} {od13 an13 : Option Addr} {sl13 : Array (Option Value)} {oc13 kV13 dc13 pm13 cd13 ct13 : Value}
    (a13 : PySem.W.findIn K (.ref kC_Cursor) "passes" = some (some (.ref f13))) (i13 : PySem.W.isFn K (.ref f13) = true) (l13 : K.lookup f13 = some ⟨oc13, od13, .func (PySem.W.fnOf "passes" "Cursor.passes" (defArgs bqn) (defBody bqn) (defScope bqn) .none kV13 dc13 pm13 an13 cd13 ct13), sl13⟩)
    {f14 : Addr} {od14 an14 : Option Addr} {sl14 : Array (Option Value)} {oc14 kV14 dc14 pm14 cd14 ct14 : Value}
    (a14 : PySem.W.nsIn K mainGlobals "door_with" = some (some (.ref f14))) (l14 : K.lookup f14 = some ⟨oc14, od14, .func (PySem.W.fnOf "door_with" "door_with" (defArgs cqY) (defBody cqY) (defScope cqY) .none kV14 dc14 pm14 an14 cd14 ct14), sl14⟩)
    {f15 : Addr} {od15 an15 : Option Addr} {sl15 : Array (Option Value)} {oc15 kV15 dc15 pm15 cd15 ct15 : Value}
    (a15 : PySem.W.nsIn K mainGlobals "slashed" = some (some (.ref f15))) (l15 : K.lookup f15 = some ⟨oc15, od15, .func (PySem.W.fnOf "slashed" "slashed" (defArgs eqN) (defBody eqN) (defScope eqN) .none kV15 dc15 pm15 an15 cd15 ct15), sl15⟩)
    {f16 : Addr} {od16 an16 : Option Addr} {sl16 : Array (Option Value)} {oc16 kV16 dc16 pm16 cd16 ct16 : Value}
    (a16 : PySem.W.nsIn K mainGlobals "question_from" = some (some (.ref f16))) (l16 : K.lookup f16 = some ⟨oc16, od16, .func (PySem.W.fnOf "question_from" "question_from" (defArgs bqo) (defBody bqo) (defScope bqo) .none kV16 dc16 pm16 an16 cd16 ct16), sl16⟩)
    {f17 : Addr} {od17 an17 : Option Addr} {sl17 : Array (Option Value)} {oc17 kV17 dc17 pm17 cd17 ct17 : Value}
    (a17 : PySem.W.nsIn K mainGlobals "_law_cell_at" = some (some (.ref f17))) (l17 : K.lookup f17 = some ⟨oc17, od17, .func (PySem.W.fnOf "_law_cell_at" "_law_cell_at" (defArgs bqv) (defBody bqv) (defScope bqv) .none kV17 dc17 pm17 an17 cd17 ct17), sl17⟩)
    {f18 : Addr} {od18 an18 : Option Addr} {sl18 : Array (Option Value)} {oc18 kV18 dc18 pm18 cd18 ct18 : Value}
    (a18 : PySem.W.nsIn K mainGlobals "_law_text" = some (some (.ref f18))) (l18 : K.lookup f18 = some ⟨oc18, od18, .func (PySem.W.fnOf "_law_text" "_law_text" (defArgs cq4) (defBody cq4) (defScope cq4) .none kV18 dc18 pm18 an18 cd18 ct18), sl18⟩)
    {f19 : Addr} {od19 an19 : Option Addr} {sl19 : Array (Option Value)} {oc19 kV19 dc19 pm19 cd19 ct19 : Value}
    (a19 : PySem.W.nsIn K mainGlobals "_law_same_way" = some (some (.ref f19))) (l19 : K.lookup f19 = some ⟨oc19, od19, .func (PySem.W.fnOf "_law_same_way" "_law_same_way" (defArgs bqk) (defBody bqk) (defScope bqk) .none kV19 dc19 pm19 an19 cd19 ct19), sl19⟩)
    {f20 : Addr} {od20 an20 : Option Addr} {sl20 : Array (Option Value)} {oc20 kV20 dc20 pm20 cd20 ct20 : Value}
    (a20 : PySem.W.nsIn K mainGlobals "_law_same_pairs" = some (some (.ref f20))) (l20 : K.lookup f20 = some ⟨oc20, od20, .func (PySem.W.fnOf "_law_same_pairs" "_law_same_pairs" (defArgs aqU) (defBody aqU) (defScope aqU) .none kV20 dc20 pm20 an20 cd20 ct20), sl20⟩)
    {f21 : Addr} {od21 an21 : Option Addr} {sl21 : Array (Option Value)} {oc21 kV21 dc21 pm21 cd21 ct21 : Value}
    (a21 : PySem.W.nsIn K mainGlobals "_law_gone" = some (some (.ref f21))) (l21 : K.lookup f21 = some ⟨oc21, od21, .func (PySem.W.fnOf "_law_gone" "_law_gone" (defArgs cq0) (defBody cq0) (defScope cq0) .none kV21 dc21 pm21 an21 cd21 ct21), sl21⟩)
    {f22 : Addr} {od22 an22 : Option Addr} {sl22 : Array (Option Value)} {oc22 kV22 dc22 pm22 cd22 ct22 : Value}
    (a22 : PySem.W.nsIn K mainGlobals "_law_scheme" = some (some (.ref f22))) (l22 : K.lookup f22 = some ⟨oc22, od22, .func (PySem.W.fnOf "_law_scheme" "_law_scheme" (defArgs bqQ) (defBody bqQ) (defScope bqQ) .none kV22 dc22 pm22 an22 cd22 ct22), sl22⟩)
    {f23 : Addr} {od23 an23 : Option Addr} {sl23 : Array (Option Value)} {oc23 kV23 dc23 pm23 cd23 ct23 : Value}
    (a23 : PySem.W.nsIn K mainGlobals "_law_pair_of" = some (some (.ref f23))) (l23 : K.lookup f23 = some ⟨oc23, od23, .func (PySem.W.fnOf "_law_pair_of" "_law_pair_of" (defArgs bqu) (defBody bqu) (defScope bqu) .none kV23 dc23 pm23 an23 cd23 ct23), sl23⟩)
    {f24 : Addr} {od24 an24 : Option Addr} {sl24 : Array (Option Value)} {oc24 kV24 dc24 pm24 cd24 ct24 : Value}
    (a24 : PySem.W.nsIn K mainGlobals "is_text" = some (some (.ref f24))) (l24 : K.lookup f24 = some ⟨oc24, od24, .func (PySem.W.fnOf "is_text" "is_text" (defArgs eq2) (defBody eq2) (defScope eq2) .none kV24 dc24 pm24 an24 cd24 ct24), sl24⟩)
    {f25 : Addr} {od25 an25 : Option Addr} {sl25 : Array (Option Value)} {oc25 kV25 dc25 pm25 cd25 ct25 : Value}
    (a25 : PySem.W.nsIn K mainGlobals "sign_of" = some (some (.ref f25))) (l25 : K.lookup f25 = some ⟨oc25, od25, .func (PySem.W.fnOf "sign_of" "sign_of" (defArgs eqL) (defBody eqL) (defScope eqL) .none kV25 dc25 pm25 an25 cd25 ct25), sl25⟩)
    {f26 : Addr} {od26 an26 : Option Addr} {sl26 : Array (Option Value)} {oc26 kV26 dc26 pm26 cd26 ct26 : Value}
    (a26 : PySem.W.nsIn K mainGlobals "written" = some (some (.ref f26))) (l26 : K.lookup f26 = some ⟨oc26, od26, .func (PySem.W.fnOf "written" "written" (defArgs eq4) (defBody eq4) (defScope eq4) .none kV26 dc26 pm26 an26 cd26 ct26), sl26⟩)
    {f27 : Addr} {od27 an27 : Option Addr} {sl27 : Array (Option Value)} {oc27 kV27 dc27 pm27 cd27 ct27 : Value}
    (a27 : PySem.W.nsIn K mainGlobals "steps_left" = some (some (.ref f27))) (l27 : K.lookup f27 = some ⟨oc27, od27, .func (PySem.W.fnOf "steps_left" "steps_left" (defArgs cqg) (defBody cqg) (defScope cqg) .none kV27 dc27 pm27 an27 cd27 ct27), sl27⟩)
    {f28 : Addr} {od28 an28 : Option Addr} {sl28 : Array (Option Value)} {oc28 kV28 dc28 pm28 cd28 ct28 : Value}
    (a28 : PySem.W.findIn K (.ref kC_Cursor) "sees" = some (some (.ref f28))) (i28 : PySem.W.isFn K (.ref f28) = true) (l28 : K.lookup f28 = some ⟨oc28, od28, .func (PySem.W.fnOf "sees" "Cursor.sees" (defArgs bqK) (defBody bqK) (defScope bqK) .none kV28 dc28 pm28 an28 cd28 ct28), sl28⟩)
    {f29 : Addr} {od29 an29 : Option Addr} {sl29 : Array (Option Value)} {oc29 kV29 dc29 pm29 cd29 ct29 : Value}
    (a29 : PySem.W.nsIn K mainGlobals "_law_step" = some (some (.ref f29))) (l29 : K.lookup f29 = some ⟨oc29, od29, .func (PySem.W.fnOf "_law_step" "_law_step" (defArgs cqZ) (defBody cqZ) (defScope cqZ) .none kV29 dc29 pm29 an29 cd29 ct29), sl29⟩)
    {f30 : Addr} {od30 an30 : Option Addr} {sl30 : Array (Option Value)} {oc30 kV30 dc30 pm30 cd30 ct30 : Value}
    (a30 : PySem.W.nsIn K mainGlobals "_law_same" = some (some (.ref f30))) (l30 : K.lookup f30 = some ⟨oc30, od30, .func (PySem.W.fnOf "_law_same" "_law_same" (defArgs cqS) (defBody cqS) (defScope cqS) .none kV30 dc30 pm30 an30 cd30 ct30), sl30⟩)
    {f31 : Addr} {od31 an31 : Option Addr} {sl31 : Array (Option Value)} {oc31 kV31 dc31 pm31 cd31 ct31 : Value}
    (a31 : PySem.W.nsIn K mainGlobals "_law_question" = some (some (.ref f31))) (l31 : K.lookup f31 = some ⟨oc31, od31, .func (PySem.W.fnOf "_law_question" "_law_question" (defArgs bqm) (defBody bqm) (defScope bqm) .none kV31 dc31 pm31 an31 cd31 ct31), sl31⟩)
    {f32 : Addr} {od32 an32 : Option Addr} {sl32 : Array (Option Value)} {oc32 kV32 dc32 pm32 cd32 ct32 : Value}
    (a32 : PySem.W.nsIn K mainGlobals "_law_mark" = some (some (.ref f32))) (l32 : K.lookup f32 = some ⟨oc32, od32, .func (PySem.W.fnOf "_law_mark" "_law_mark" (defArgs cqT) (defBody cqT) (defScope cqT) .none kV32 dc32 pm32 an32 cd32 ct32), sl32⟩)
    {f33 : Addr} {od33 an33 : Option Addr} {sl33 : Array (Option Value)} {oc33 kV33 dc33 pm33 cd33 ct33 : Value}
    (a33 : PySem.W.nsIn K mainGlobals "_law_written" = some (some (.ref f33))) (l33 : K.lookup f33 = some ⟨oc33, od33, .func (PySem.W.fnOf "_law_written" "_law_written" (defArgs bqt) (defBody bqt) (defScope bqt) .none kV33 dc33 pm33 an33 cd33 ct33), sl33⟩)
    {f34 : Addr} {od34 an34 : Option Addr} {sl34 : Array (Option Value)} {oc34 kV34 dc34 pm34 cd34 ct34 : Value}
    (a34 : PySem.W.nsIn K mainGlobals "is_scheme" = some (some (.ref f34))) (l34 : K.lookup f34 = some ⟨oc34, od34, .func (PySem.W.fnOf "is_scheme" "is_scheme" (defArgs cq3) (defBody cq3) (defScope cq3) .none kV34 dc34 pm34 an34 cd34 ct34), sl34⟩)
    {f35 : Addr} {od35 an35 : Option Addr} {sl35 : Array (Option Value)} {oc35 kV35 dc35 pm35 cd35 ct35 : Value}
    (a35 : PySem.W.nsIn K mainGlobals "gone" = some (some (.ref f35))) (l35 : K.lookup f35 = some ⟨oc35, od35, .func (PySem.W.fnOf "gone" "gone" (defArgs lqG) (defBody lqG) (defScope lqG) .none kV35 dc35 pm35 an35 cd35 ct35), sl35⟩)
    {f36 : Addr} {od36 an36 : Option Addr} {sl36 : Array (Option Value)} {oc36 kV36 dc36 pm36 cd36 ct36 : Value}
    (a36 : PySem.W.nsIn K mainGlobals "taken_door" = some (some (.ref f36))) (l36 : K.lookup f36 = some ⟨oc36, od36, .func (PySem.W.fnOf "taken_door" "taken_door" (defArgs bq8) (defBody bq8) (defScope bq8) .none kV36 dc36 pm36 an36 cd36 ct36), sl36⟩)
    {f37 : Addr} {od37 an37 : Option Addr} {sl37 : Array (Option Value)} {oc37 kV37 dc37 pm37 cd37 ct37 : Value}
    (a37 : PySem.W.nsIn K mainGlobals "taken_pair" = some (some (.ref f37))) (l37 : K.lookup f37 = some ⟨oc37, od37, .func (PySem.W.fnOf "taken_pair" "taken_pair" (defArgs cqf) (defBody cqf) (defScope cqf) .none kV37 dc37 pm37 an37 cd37 ct37), sl37⟩)
    {f38 : Addr} {od38 an38 : Option Addr} {sl38 : Array (Option Value)} {oc38 kV38 dc38 pm38 cd38 ct38 : Value}
    (a38 : PySem.W.nsIn K mainGlobals "shown_house" = some (some (.ref f38))) (l38 : K.lookup f38 = some ⟨oc38, od38, .func (PySem.W.fnOf "shown_house" "shown_house" (defArgs bqO) (defBody bqO) (defScope bqO) .none kV38 dc38 pm38 an38 cd38 ct38), sl38⟩)
    {f39 : Addr} {od39 an39 : Option Addr} {sl39 : Array (Option Value)} {oc39 kV39 dc39 pm39 cd39 ct39 : Value}
    (a39 : PySem.W.nsIn K mainGlobals "shown_way" = some (some (.ref f39))) (l39 : K.lookup f39 = some ⟨oc39, od39, .func (PySem.W.fnOf "shown_way" "shown_way" (defArgs cq6) (defBody cq6) (defScope cq6) .none kV39 dc39 pm39 an39 cd39 ct39), sl39⟩)
    {f40 : Addr} {od40 an40 : Option Addr} {sl40 : Array (Option Value)} {oc40 kV40 dc40 pm40 cd40 ct40 : Value}
    (a40 : PySem.W.nsIn K mainGlobals "shown_asked" = some (some (.ref f40))) (l40 : K.lookup f40 = some ⟨oc40, od40, .func (PySem.W.fnOf "shown_asked" "shown_asked" (defArgs bqS) (defBody bqS) (defScope bqS) .none kV40 dc40 pm40 an40 cd40 ct40), sl40⟩)
    {f41 : Addr} {od41 an41 : Option Addr} {sl41 : Array (Option Value)} {oc41 kV41 dc41 pm41 cd41 ct41 : Value}
    (a41 : PySem.W.nsIn K mainGlobals "shown_mark" = some (some (.ref f41))) (l41 : K.lookup f41 = some ⟨oc41, od41, .func (PySem.W.fnOf "shown_mark" "shown_mark" (defArgs bq5) (defBody bq5) (defScope bq5) .none kV41 dc41 pm41 an41 cd41 ct41), sl41⟩)
    {f42 : Addr} {od42 an42 : Option Addr} {sl42 : Array (Option Value)} {oc42 kV42 dc42 pm42 cd42 ct42 : Value}
    (a42 : PySem.W.nsIn K mainGlobals "_law_way" = some (some (.ref f42))) (l42 : K.lookup f42 = some ⟨oc42, od42, .func (PySem.W.fnOf "_law_way" "_law_way" (defArgs dqB) (defBody dqB) (defScope dqB) .none kV42 dc42 pm42 an42 cd42 ct42), sl42⟩)
    {f43 : Addr} {od43 an43 : Option Addr} {sl43 : Array (Option Value)} {oc43 kV43 dc43 pm43 cd43 ct43 : Value}
    (a43 : PySem.W.nsIn K mainGlobals "_law_asked_text" = some (some (.ref f43))) (l43 : K.lookup f43 = some ⟨oc43, od43, .func (PySem.W.fnOf "_law_asked_text" "_law_asked_text" (defArgs aqT) (defBody aqT) (defScope aqT) .none kV43 dc43 pm43 an43 cd43 ct43), sl43⟩)
    {f44 : Addr} {od44 an44 : Option Addr} {sl44 : Array (Option Value)} {oc44 kV44 dc44 pm44 cd44 ct44 : Value}
    (a44 : PySem.W.nsIn K mainGlobals "with_way_gone" = some (some (.ref f44))) (l44 : K.lookup f44 = some ⟨oc44, od44, .func (PySem.W.fnOf "with_way_gone" "with_way_gone" (defArgs bqj) (defBody bqj) (defScope bqj) .none kV44 dc44 pm44 an44 cd44 ct44), sl44⟩)
    {f45 : Addr} {od45 an45 : Option Addr} {sl45 : Array (Option Value)} {oc45 kV45 dc45 pm45 cd45 ct45 : Value}
    (a45 : PySem.W.nsIn K mainGlobals "holder" = some (some (.ref f45))) (l45 : K.lookup f45 = some ⟨oc45, od45, .func (PySem.W.fnOf "holder" "holder" (defArgs gqu) (defBody gqu) (defScope gqu) .none kV45 dc45 pm45 an45 cd45 ct45), sl45⟩)
    {f46 : Addr} {od46 an46 : Option Addr} {sl46 : Array (Option Value)} {oc46 kV46 dc46 pm46 cd46 ct46 : Value}
    (a46 : PySem.W.nsIn K mainGlobals "taken_scheme" = some (some (.ref f46))) (l46 : K.lookup f46 = some ⟨oc46, od46, .func (PySem.W.fnOf "taken_scheme" "taken_scheme" (defArgs bqz) (defBody bqz) (defScope bqz) .none kV46 dc46 pm46 an46 cd46 ct46), sl46⟩)
    {f47 : Addr} {od47 an47 : Option Addr} {sl47 : Array (Option Value)} {oc47 kV47 dc47 pm47 cd47 ct47 : Value}
    {T47 : Addr} {ocT47 : Value} {odT47 : Option Addr} {nT47 : Nat} {slT47 : Array (Option Value)} {dt47_0 : Tok}
    (a47 : PySem.W.nsIn K mainGlobals "taken_text" = some (some (.ref f47))) (l47 : K.lookup f47 = some ⟨oc47, od47, .func (PySem.W.fnOf "taken_text" "taken_text" (defArgs bqG) (defBody bqG) (defScope bqG) (.ref T47) kV47 dc47 pm47 an47 cd47 ct47), sl47⟩)
    (d47 : K.lookup T47 = some ⟨ocT47, odT47, .seq #[.none] nT47, slT47⟩)
    {f48 : Addr} {od48 an48 : Option Addr} {sl48 : Array (Option Value)} {oc48 kV48 dc48 pm48 cd48 ct48 : Value}
    (a48 : PySem.W.nsIn K mainGlobals "shown_question" = some (some (.ref f48))) (l48 : K.lookup f48 = some ⟨oc48, od48, .func (PySem.W.fnOf "shown_question" "shown_question" (defArgs aq5) (defBody aq5) (defScope aq5) .none kV48 dc48 pm48 an48 cd48 ct48), sl48⟩)
    {f49 : Addr} {od49 an49 : Option Addr} {sl49 : Array (Option Value)} {oc49 kV49 dc49 pm49 cd49 ct49 : Value}
    (a49 : PySem.W.nsIn K mainGlobals "_law_address" = some (some (.ref f49))) (l49 : K.lookup f49 = some ⟨oc49, od49, .func (PySem.W.fnOf "_law_address" "_law_address" (defArgs bqy) (defBody bqy) (defScope bqy) .none kV49 dc49 pm49 an49 cd49 ct49), sl49⟩)
    {f50 : Addr} {od50 an50 : Option Addr} {sl50 : Array (Option Value)} {oc50 kV50 dc50 pm50 cd50 ct50 : Value}
    (a50 : PySem.W.nsIn K mainGlobals "_law_shown" = some (some (.ref f50))) (l50 : K.lookup f50 = some ⟨oc50, od50, .func (PySem.W.fnOf "_law_shown" "_law_shown" (defArgs cqm) (defBody cqm) (defScope cqm) .none kV50 dc50 pm50 an50 cd50 ct50), sl50⟩)
    {f51 : Addr} {od51 an51 : Option Addr} {sl51 : Array (Option Value)} {oc51 kV51 dc51 pm51 cd51 ct51 : Value}
    (a51 : PySem.W.nsIn K mainGlobals "way_between" = some (some (.ref f51))) (l51 : K.lookup f51 = some ⟨oc51, od51, .func (PySem.W.fnOf "way_between" "way_between" (defArgs bqT) (defBody bqT) (defScope bqT) .none kV51 dc51 pm51 an51 cd51 ct51), sl51⟩)
    {f52 : Addr} {od52 an52 : Option Addr} {sl52 : Array (Option Value)} {oc52 kV52 dc52 pm52 cd52 ct52 : Value}
    (a52 : PySem.W.nsIn K mainGlobals "taken_way" = some (some (.ref f52))) (l52 : K.lookup f52 = some ⟨oc52, od52, .func (PySem.W.fnOf "taken_way" "taken_way" (defArgs cqX) (defBody cqX) (defScope cqX) .none kV52 dc52 pm52 an52 cd52 ct52), sl52⟩)
    {f53 : Addr} {od53 an53 : Option Addr} {sl53 : Array (Option Value)} {oc53 kV53 dc53 pm53 cd53 ct53 : Value}
    (a53 : PySem.W.nsIn K mainGlobals "taken_value" = some (some (.ref f53))) (l53 : K.lookup f53 = some ⟨oc53, od53, .func (PySem.W.fnOf "taken_value" "taken_value" (defArgs bqL) (defBody bqL) (defScope bqL) .none kV53 dc53 pm53 an53 cd53 ct53), sl53⟩)
    {f54 : Addr} {od54 an54 : Option Addr} {sl54 : Array (Option Value)} {oc54 kV54 dc54 pm54 cd54 ct54 : Value}
    (a54 : PySem.W.nsIn K mainGlobals "taken_mark" = some (some (.ref f54))) (l54 : K.lookup f54 = some ⟨oc54, od54, .func (PySem.W.fnOf "taken_mark" "taken_mark" (defArgs bq7) (defBody bq7) (defScope bq7) .none kV54 dc54 pm54 an54 cd54 ct54), sl54⟩)
    {f55 : Addr} {od55 an55 : Option Addr} {sl55 : Array (Option Value)} {oc55 kV55 dc55 pm55 cd55 ct55 : Value}
    {T55 : Addr} {ocT55 : Value} {odT55 : Option Addr} {nT55 : Nat} {slT55 : Array (Option Value)} {dt55_0 : Tok}
    (a55 : PySem.W.nsIn K mainGlobals "taken_filled_text" = some (some (.ref f55))) (l55 : K.lookup f55 = some ⟨oc55, od55, .func (PySem.W.fnOf "taken_filled_text" "taken_filled_text" (defArgs aqJ) (defBody aqJ) (defScope aqJ) (.ref T55) kV55 dc55 pm55 an55 cd55 ct55), sl55⟩)
    (d55 : K.lookup T55 = some ⟨ocT55, odT55, .seq #[.none] nT55, slT55⟩)
    {f56 : Addr} {od56 an56 : Option Addr} {sl56 : Array (Option Value)} {oc56 kV56 dc56 pm56 cd56 ct56 : Value}
    (a56 : PySem.W.nsIn K mainGlobals "show" = some (some (.ref f56))) (l56 : K.lookup f56 = some ⟨oc56, od56, .func (PySem.W.fnOf "show" "show" (defArgs kqS) (defBody kqS) (defScope kqS) .none kV56 dc56 pm56 an56 cd56 ct56), sl56⟩)
    {f57 : Addr} {od57 an57 : Option Addr} {sl57 : Array (Option Value)} {oc57 kV57 dc57 pm57 cd57 ct57 : Value}
    (a57 : PySem.W.nsIn K mainGlobals "plain" = some (some (.ref f57))) (l57 : K.lookup f57 = some ⟨oc57, od57, .func (PySem.W.fnOf "plain" "plain" (defArgs iqq) (defBody iqq) (defScope iqq) .none kV57 dc57 pm57 an57 cd57 ct57), sl57⟩)
    {f58 : Addr} {od58 an58 : Option Addr} {sl58 : Array (Option Value)} {oc58 kV58 dc58 pm58 cd58 ct58 : Value}
    (a58 : PySem.W.nsIn K mainGlobals "way_from" = some (some (.ref f58))) (l58 : K.lookup f58 = some ⟨oc58, od58, .func (PySem.W.fnOf "way_from" "way_from" (defArgs dqE) (defBody dqE) (defScope dqE) .none kV58 dc58 pm58 an58 cd58 ct58), sl58⟩)
    {f59 : Addr} {od59 an59 : Option Addr} {sl59 : Array (Option Value)} {oc59 kV59 dc59 pm59 cd59 ct59 : Value}
    (a59 : PySem.W.nsIn K mainGlobals "_law_pair" = some (some (.ref f59))) (l59 : K.lookup f59 = some ⟨oc59, od59, .func (PySem.W.fnOf "_law_pair" "_law_pair" (defArgs cq1) (defBody cq1) (defScope cq1) .none kV59 dc59 pm59 an59 cd59 ct59), sl59⟩)
    {f60 : Addr} {od60 an60 : Option Addr} {sl60 : Array (Option Value)} {oc60 kV60 dc60 pm60 cd60 ct60 : Value}
    (a60 : PySem.W.nsIn K mainGlobals "told_from" = some (some (.ref f60))) (l60 : K.lookup f60 = some ⟨oc60, od60, .func (PySem.W.fnOf "told_from" "told_from" (defArgs cqR) (defBody cqR) (defScope cqR) .none kV60 dc60 pm60 an60 cd60 ct60), sl60⟩)
    {f61 : Addr} {od61 an61 : Option Addr} {sl61 : Array (Option Value)} {oc61 kV61 dc61 pm61 cd61 ct61 : Value}
    (a61 : PySem.W.nsIn K mainGlobals "taken_house" = some (some (.ref f61))) (l61 : K.lookup f61 = some ⟨oc61, od61, .func (PySem.W.fnOf "taken_house" "taken_house" (defArgs bqR) (defBody bqR) (defScope bqR) .none kV61 dc61 pm61 an61 cd61 ct61), sl61⟩)
    {f62 : Addr} {od62 an62 : Option Addr} {sl62 : Array (Option Value)} {oc62 kV62 dc62 pm62 cd62 ct62 : Value}
    (a62 : PySem.W.nsIn K mainGlobals "taken_question" = some (some (.ref f62))) (l62 : K.lookup f62 = some ⟨oc62, od62, .func (PySem.W.fnOf "taken_question" "taken_question" (defArgs aq3) (defBody aq3) (defScope aq3) .none kV62 dc62 pm62 an62 cd62 ct62), sl62⟩)
    {f63 : Addr} {od63 an63 : Option Addr} {sl63 : Array (Option Value)} {oc63 kV63 dc63 pm63 cd63 ct63 : Value}
    (a63 : PySem.W.nsIn K mainGlobals "made_whole" = some (some (.ref f63))) (l63 : K.lookup f63 = some ⟨oc63, od63, .func (PySem.W.fnOf "made_whole" "made_whole" (defArgs cqi) (defBody cqi) (defScope cqi) .none kV63 dc63 pm63 an63 cd63 ct63), sl63⟩)
    {f64 : Addr} {od64 an64 : Option Addr} {sl64 : Array (Option Value)} {oc64 kV64 dc64 pm64 cd64 ct64 : Value}
    (a64 : PySem.W.nsIn K mainGlobals "relative" = some (some (.ref f64))) (l64 : K.lookup f64 = some ⟨oc64, od64, .func (PySem.W.fnOf "relative" "relative" (defArgs dqC) (defBody dqC) (defScope dqC) .none kV64 dc64 pm64 an64 cd64 ct64), sl64⟩)
    {f65 : Addr} {od65 an65 : Option Addr} {sl65 : Array (Option Value)} {oc65 kV65 dc65 pm65 cd65 ct65 : Value}
    (a65 : PySem.W.nsIn K mainGlobals "read" = some (some (.ref f65))) (l65 : K.lookup f65 = some ⟨oc65, od65, .func (PySem.W.fnOf "read" "read" (defArgs lqa) (defBody lqa) (defScope lqa) .none kV65 dc65 pm65 an65 cd65 ct65), sl65⟩)
    {f66 : Addr} {od66 an66 : Option Addr} {sl66 : Array (Option Value)} {oc66 kV66 dc66 pm66 cd66 ct66 : Value}
    (a66 : PySem.W.nsIn K mainGlobals "resolved" = some (some (.ref f66))) (l66 : K.lookup f66 = some ⟨oc66, od66, .func (PySem.W.fnOf "resolved" "resolved" (defArgs dqN) (defBody dqN) (defScope dqN) .none kV66 dc66 pm66 an66 cd66 ct66), sl66⟩)
    {f67 : Addr} {od67 an67 : Option Addr} {sl67 : Array (Option Value)} {oc67 kV67 dc67 pm67 cd67 ct67 : Value}
    (a67 : PySem.W.nsIn K mainGlobals "_law_back" = some (some (.ref f67))) (l67 : K.lookup f67 = some ⟨oc67, od67, .func (PySem.W.fnOf "_law_back" "_law_back" (defArgs cqV) (defBody cqV) (defScope cqV) .none kV67 dc67 pm67 an67 cd67 ct67), sl67⟩)
    {f68 : Addr} {od68 an68 : Option Addr} {sl68 : Array (Option Value)} {oc68 kV68 dc68 pm68 cd68 ct68 : Value}
    (a68 : PySem.W.nsIn K mainGlobals "law" = some (some (.ref f68))) (l68 : K.lookup f68 = some ⟨oc68, od68, .func (PySem.W.fnOf "law" "law" (defArgs pqT) (defBody pqT) (defScope pqT) .none kV68 dc68 pm68 an68 cd68 ct68), sl68⟩)
    {qa1_NO_WAY : Addr} {qd1_NO_WAY : Option Addr} {qn1_NO_WAY : Nat} {qs1_NO_WAY : Array (Option Value)} {qa0_NO_WAY : Addr} {qd0_NO_WAY : Option Addr} {qn0_NO_WAY : Nat} {qs0_NO_WAY : Array (Option Value)}
    (e_NO_WAY : PySem.W.nsIn K mainGlobals "NO_WAY" = some (some (.ref qa0_NO_WAY)))
    (y0_NO_WAY : K.lookup qa0_NO_WAY = some ⟨.type "tuple", qd0_NO_WAY, .seq #[.bool false, .ref qa1_NO_WAY, .bool false] qn0_NO_WAY, qs0_NO_WAY⟩)
    (y1_NO_WAY : K.lookup qa1_NO_WAY = some ⟨.type "tuple", qd1_NO_WAY, .seq #[] qn1_NO_WAY, qs1_NO_WAY⟩)
    {kqP : Tok} (e_SIGNS : PySem.W.nsIn K mainGlobals "SIGNS" = some (some (.str (Str.ofString " !\"#$&'()*+,-./0123456789:;<=>?@ABCDEFGHIJKLMNOPQRSTUVWXYZ[\\]^_`abcdefghijklmnopqrstuvwxyz{|}~") kqP)))
    {gqW : Tok} (e_LETTERS : PySem.W.nsIn K mainGlobals "LETTERS" = some (some (.str (Str.ofString "abcdefghijklmnopqrstuvwxyzABCDEFGHIJKLMNOPQRSTUVWXYZ") gqW)))
    {aqY : Tok} (e_LETTERS_AND_FIGURES : PySem.W.nsIn K mainGlobals "LETTERS_AND_FIGURES" = some (some (.str (Str.ofString "abcdefghijklmnopqrstuvwxyzABCDEFGHIJKLMNOPQRSTUVWXYZ0123456789") aqY)))
    {gqZ : Tok} (e_FIGURES : PySem.W.nsIn K mainGlobals "FIGURES" = some (some (.str (Str.ofString "0123456789") gqZ)))
    {kq6 : Tok} (e_PLAIN : PySem.W.nsIn K mainGlobals "PLAIN" = some (some (.str (Str.ofString "abcdefghijklmnopqrstuvwxyzABCDEFGHIJKLMNOPQRSTUVWXYZ0123456789-_.") kq6)))
    {cql : Tok} (e_FREE_IN_STEPS : PySem.W.nsIn K mainGlobals "FREE_IN_STEPS" = some (some (.str (Str.ofString "!$'()*,;@&=+") cql)))
    {bqd : Tok} (e_FREE_IN_QUESTIONS : PySem.W.nsIn K mainGlobals "FREE_IN_QUESTIONS" = some (some (.str (Str.ofString "!$'()*,;@+/?:") bqd)))
    {cqe : Tok} (e_FREE_IN_MARKS : PySem.W.nsIn K mainGlobals "FREE_IN_MARKS" = some (some (.str (Str.ofString "!$'()*,;@&=+/?:") cqe)))
    {cqE : Tok} (e_FIRST_NUMBER : PySem.W.nsIn K mainGlobals "FIRST_NUMBER" = some (some (.int 32 cqE)))
    {dqa : Tok} (e_LAST_NUMBER : PySem.W.nsIn K mainGlobals "LAST_NUMBER" = some (some (.int 126 dqa)))
    {bqA : Tok} (e_NUMBER_LEFT_OUT : PySem.W.nsIn K mainGlobals "NUMBER_LEFT_OUT" = some (some (.int 37 bqA)))
    {bq6 : Tok} (e_SMALL_FIGURES : PySem.W.nsIn K mainGlobals "SMALL_FIGURES" = some (some (.str (Str.ofString "0123456789abcdef") bq6)))
    {cqn : Tok} (e_GREAT_FIGURES : PySem.W.nsIn K mainGlobals "GREAT_FIGURES" = some (some (.str (Str.ofString "0123456789ABCDEF") cqn)))
    {iqG : Tok} (e_SCHEME : PySem.W.nsIn K mainGlobals "SCHEME" = some (some (.int 0 iqG)))
    {lqp : Tok} (e_HOUSE : PySem.W.nsIn K mainGlobals "HOUSE" = some (some (.int 1 lqp)))
    {nqU : Tok} (e_DOOR : PySem.W.nsIn K mainGlobals "DOOR" = some (some (.int 2 nqU)))
    {sqW : Tok} (e_WAY : PySem.W.nsIn K mainGlobals "WAY" = some (some (.int 3 sqW)))
    {fqK : Tok} (e_QUESTION : PySem.W.nsIn K mainGlobals "QUESTION" = some (some (.int 4 fqK)))
    {nqZ : Tok} (e_MARK : PySem.W.nsIn K mainGlobals "MARK" = some (some (.int 5 nqZ)))
    {iqR : Tok} (e_ROOTED : PySem.W.nsIn K mainGlobals "ROOTED" = some (some (.int 0 iqR)))
    {lqm : Tok} (e_STEPS : PySem.W.nsIn K mainGlobals "STEPS" = some (some (.int 1 lqm)))
    {oqh : Tok} (e_ENDS : PySem.W.nsIn K mainGlobals "ENDS" = some (some (.int 2 oqh)))
    {bqW : Tok} (e_LONGEST_SCHEME : PySem.W.nsIn K mainGlobals "LONGEST_SCHEME" = some (some (.int 8 bqW)))
    {cqh : Tok} (e_LONGEST_HOUSE : PySem.W.nsIn K mainGlobals "LONGEST_HOUSE" = some (some (.int 60 cqh)))
    {eqT : Tok} (e_LAST_DOOR : PySem.W.nsIn K mainGlobals "LAST_DOOR" = some (some (.int 65535 eqT)))
    {oq2 : Tok} (e_STAY : PySem.W.nsIn K mainGlobals "STAY" = some (some (.str (Str.ofString ".") oq2)))
    {t_UP : Tok} (e_UP : PySem.W.nsIn K mainGlobals "UP" = some (some (.str (Str.ofString "..") t_UP)))
    {cqc : Tok} (e_FIRST_FIGURES : PySem.W.nsIn K mainGlobals "FIRST_FIGURES" = some (some (.str (Str.ofString "234567") cqc)))
    (z_all : PySem.W.nsIn K mainGlobals "all" = some none)
    (z_ord : PySem.W.nsIn K mainGlobals "ord" = some none)
    (z_len : PySem.W.nsIn K mainGlobals "len" = some none)
    (z_min : PySem.W.nsIn K mainGlobals "min" = some none)
    (z_int : PySem.W.nsIn K mainGlobals "int" = some none)
    (z_range : PySem.W.nsIn K mainGlobals "range" = some none)
    (z_isinstance : PySem.W.nsIn K mainGlobals "isinstance" = some none)
    (z_str : PySem.W.nsIn K mainGlobals "str" = some none)
    (z_bool : PySem.W.nsIn K mainGlobals "bool" = some none)
    (z_tuple : PySem.W.nsIn K mainGlobals "tuple" = some none)
    (z_reversed : PySem.W.nsIn K mainGlobals "reversed" = some none)
    (pg_Cursor : PySem.W.plainGet K kC_Cursor Str.empty = true)
    (hd_Cursor : PySem.W.hasDictIn K kC_Cursor = true)
    (po_Cursor : PySem.W.plainOver K kC_Cursor = true)
    (sa_Cursor : PySem.W.findIn K (.ref kC_Cursor) "__setattr__" = some (some (.builtin "object.__setattr__")))
    (mk_Cursor : PySem.W.makesIn K kC_Cursor = true)
    (kc_Cursor : PySem.W.keepIn K (.ref kC_Cursor) = true)
    (nf_Cursor_text : PySem.W.findIn K (.ref kC_Cursor) "text" = some none)
    (nf_Cursor_place : PySem.W.findIn K (.ref kC_Cursor) "place" = some none)
    (kk : (PySem.W.keepIn K (.ref f1) && (PySem.W.keepIn K (.ref f2) && (PySem.W.keepIn K (.ref f3) && (PySem.W.keepIn K (.ref f4) && (PySem.W.keepIn K (.ref f5) && (PySem.W.keepIn K (.ref f6) && (PySem.W.keepIn K (.ref f7) && (PySem.W.keepIn K (.ref f8) && (PySem.W.keepIn K (.ref f9) && (PySem.W.keepIn K (.ref f10) && (PySem.W.keepIn K (.ref f11) && (PySem.W.keepIn K (.ref f12) && (PySem.W.keepIn K (.ref f13) && (PySem.W.keepIn K (.ref f14) && (PySem.W.keepIn K (.ref f15) && (PySem.W.keepIn K (.ref f16) && (PySem.W.keepIn K (.ref f17) && (PySem.W.keepIn K (.ref f18) && (PySem.W.keepIn K (.ref f19) && (PySem.W.keepIn K (.ref f20) && (PySem.W.keepIn K (.ref f21) && (PySem.W.keepIn K (.ref f22) && (PySem.W.keepIn K (.ref f23) && (PySem.W.keepIn K (.ref f24) && (PySem.W.keepIn K (.ref f25) && (PySem.W.keepIn K (.ref f26) && (PySem.W.keepIn K (.ref f27) && (PySem.W.keepIn K (.ref f28) && (PySem.W.keepIn K (.ref f29) && (PySem.W.keepIn K (.ref f30) && (PySem.W.keepIn K (.ref f31) && (PySem.W.keepIn K (.ref f32) && (PySem.W.keepIn K (.ref f33) && (PySem.W.keepIn K (.ref f34) && (PySem.W.keepIn K (.ref f35) && (PySem.W.keepIn K (.ref f36) && (PySem.W.keepIn K (.ref f37) && (PySem.W.keepIn K (.ref f38) && (PySem.W.keepIn K (.ref f39) && (PySem.W.keepIn K (.ref f40) && (PySem.W.keepIn K (.ref f41) && (PySem.W.keepIn K (.ref f42) && (PySem.W.keepIn K (.ref f43) && (PySem.W.keepIn K (.ref f44) && (PySem.W.keepIn K (.ref f45) && (PySem.W.keepIn K (.ref f46) && (PySem.W.keepIn K (.ref f47) && (PySem.W.keepIn K (.ref f48) && (PySem.W.keepIn K (.ref f49) && (PySem.W.keepIn K (.ref f50) && (PySem.W.keepIn K (.ref f51) && (PySem.W.keepIn K (.ref f52) && (PySem.W.keepIn K (.ref f53) && (PySem.W.keepIn K (.ref f54) && (PySem.W.keepIn K (.ref f55) && (PySem.W.keepIn K (.ref f56) && (PySem.W.keepIn K (.ref f57) && (PySem.W.keepIn K (.ref f58) && (PySem.W.keepIn K (.ref f59) && (PySem.W.keepIn K (.ref f60) && (PySem.W.keepIn K (.ref f61) && (PySem.W.keepIn K (.ref f62) && (PySem.W.keepIn K (.ref f63) && (PySem.W.keepIn K (.ref f64) && (PySem.W.keepIn K (.ref f65) && (PySem.W.keepIn K (.ref f66) && (PySem.W.keepIn K (.ref f67) && (PySem.W.keepIn K (.ref f68))))))))))))))))))))))))))))))))))))))))))))))))))))))))))))))))))))) = true)
    (cc : (PySem.W.codeIn K cd1 "made_of" && (PySem.W.codeIn K cd2 "pair_of" && (PySem.W.codeIn K cd3 "figure_number" && (PySem.W.codeIn K cd4 "sign_numbered" && (PySem.W.codeIn K cd5 "is_whole" && (PySem.W.codeIn K cd6 "is_dot" && (PySem.W.codeIn K cd7 "go_up" && (PySem.W.codeIn K cd8 "can_stay" && (PySem.W.codeIn K cd9 "count_in_common" && (PySem.W.codeIn K cd10 "Cursor.__init__" && (PySem.W.codeIn K cd11 "Cursor.at_end" && (PySem.W.codeIn K cd12 "Cursor.take" && (PySem.W.codeIn K cd13 "Cursor.passes" && (PySem.W.codeIn K cd14 "door_with" && (PySem.W.codeIn K cd15 "slashed" && (PySem.W.codeIn K cd16 "question_from" && (PySem.W.codeIn K cd17 "_law_cell_at" && (PySem.W.codeIn K cd18 "_law_text" && (PySem.W.codeIn K cd19 "_law_same_way" && (PySem.W.codeIn K cd20 "_law_same_pairs" && (PySem.W.codeIn K cd21 "_law_gone" && (PySem.W.codeIn K cd22 "_law_scheme" && (PySem.W.codeIn K cd23 "_law_pair_of" && (PySem.W.codeIn K cd24 "is_text" && (PySem.W.codeIn K cd25 "sign_of" && (PySem.W.codeIn K cd26 "written" && (PySem.W.codeIn K cd27 "steps_left" && (PySem.W.codeIn K cd28 "Cursor.sees" && (PySem.W.codeIn K cd29 "_law_step" && (PySem.W.codeIn K cd30 "_law_same" && (PySem.W.codeIn K cd31 "_law_question" && (PySem.W.codeIn K cd32 "_law_mark" && (PySem.W.codeIn K cd33 "_law_written" && (PySem.W.codeIn K cd34 "is_scheme" && (PySem.W.codeIn K cd35 "gone" && (PySem.W.codeIn K cd36 "taken_door" && (PySem.W.codeIn K cd37 "taken_pair" && (PySem.W.codeIn K cd38 "shown_house" && (PySem.W.codeIn K cd39 "shown_way" && (PySem.W.codeIn K cd40 "shown_asked" && (PySem.W.codeIn K cd41 "shown_mark" && (PySem.W.codeIn K cd42 "_law_way" && (PySem.W.codeIn K cd43 "_law_asked_text" && (PySem.W.codeIn K cd44 "with_way_gone" && (PySem.W.codeIn K cd45 "holder" && (PySem.W.codeIn K cd46 "taken_scheme" && (PySem.W.codeIn K cd47 "taken_text" && (PySem.W.codeIn K cd48 "shown_question" && (PySem.W.codeIn K cd49 "_law_address" && (PySem.W.codeIn K cd50 "_law_shown" && (PySem.W.codeIn K cd51 "way_between" && (PySem.W.codeIn K cd52 "taken_way" && (PySem.W.codeIn K cd53 "taken_value" && (PySem.W.codeIn K cd54 "taken_mark" && (PySem.W.codeIn K cd55 "taken_filled_text" && (PySem.W.codeIn K cd56 "show" && (PySem.W.codeIn K cd57 "plain" && (PySem.W.codeIn K cd58 "way_from" && (PySem.W.codeIn K cd59 "_law_pair" && (PySem.W.codeIn K cd60 "told_from" && (PySem.W.codeIn K cd61 "taken_house" && (PySem.W.codeIn K cd62 "taken_question" && (PySem.W.codeIn K cd63 "made_whole" && (PySem.W.codeIn K cd64 "relative" && (PySem.W.codeIn K cd65 "read" && (PySem.W.codeIn K cd66 "resolved" && (PySem.W.codeIn K cd67 "_law_back" && (PySem.W.codeIn K cd68 "law")))))))))))))))))))))))))))))))))))))))))))))))))))))))))))))))))))) = true) :
    ∃ fd : FuncData, (∀ (s : Shared) (v : Value), BindsTo s fd ⟨[v], []⟩ [("_law_script", v)]) ∧ ∀ base : Heap, K.In base → base.Ns mainGlobals mg → FnOk l.prog w K mg base CX0 9 fa fd ["_law_script"] (qqe K) := by
  simp only [Bool.and_eq_true] at kk cc
  obtain ⟨k1, k2, k3, k4, k5, k6, k7, k8, k9, k10, k11, k12, k13, k14, k15, k16, k17, k18, k19, k20, k21, k22, k23, k24, k25, k26, k27, k28, k29, k30, k31, k32, k33, k34, k35, k36, k37, k38, k39, k40, k41, k42, k43, k44, k45, k46, k47, k48, k49, k50, k51, k52, k53, k54, k55, k56, k57, k58, k59, k60, k61, k62, k63, k64, k65, k66, k67, k68⟩ := kk
  obtain ⟨c1, c2, c3, c4, c5, c6, c7, c8, c9, c10, c11, c12, c13, c14, c15, c16, c17, c18, c19, c20, c21, c22, c23, c24, c25, c26, c27, c28, c29, c30, c31, c32, c33, c34, c35, c36, c37, c38, c39, c40, c41, c42, c43, c44, c45, c46, c47, c48, c49, c50, c51, c52, c53, c54, c55, c56, c57, c58, c59, c60, c61, c62, c63, c64, c65, c66, c67, c68⟩ := cc
  have e := hfa.symm.trans (PySem.W.mg_of X Gl a68)
  have e2 : f68 = fa := by cases e; rfl
  subst e2
  let g : G K mg := {
    iqT := f1, hqP := _, hqt := aqi (st := eqZ) l1 c1 k1, iqy := PySem.W.mg_of X Gl a1,
    iqO := (aqi (st := eqZ) l1 c1 k1).binds (ps := ["text", "signs"]) fun _ _ _ _ _ _ us hl => match us, hl with | [_, _], _ => rfl,
    iqU := f2, hqC := _, kq3 := aqi (st := eqY) l2 c2 k2, oq3 := PySem.W.mg_of X Gl a2,
    oq8 := (aqi (st := eqY) l2 c2 k2).binds (ps := ["sign"]) fun _ _ _ _ _ _ us hl => match us, hl with | [_], _ => rfl,
    dqk := f3, cqG := _, dqj := aqi (st := bqh) l3 c3 k3, eqS := PySem.W.mg_of X Gl a3,
    eqP := (aqi (st := bqh) l3 c3 k3).binds (ps := ["figure"]) fun _ _ _ _ _ _ us hl => match us, hl with | [_], _ => rfl,
    dqi := f4, cqF := _, fqa := aqi (st := bqi) l4 c4 k4, hqc := PySem.W.mg_of X Gl a4,
    hqw := (aqi (st := bqi) l4 c4 k4).binds (ps := ["number"]) fun _ _ _ _ _ _ us hl => match us, hl with | [_], _ => rfl,
    hqQ := f5, fq2 := _, dqF := aqi (st := dqO) l5 c5 k5, eqG := PySem.W.mg_of X Gl a5,
    eqD := (aqi (st := dqO) l5 c5 k5).binds (ps := ["address"]) fun _ _ _ _ _ _ us hl => match us, hl with | [_], _ => rfl,
    kqC := f6, iqJ := _, mqP := aqi (st := gqh) l6 c6 k6, pq7 := PySem.W.mg_of X Gl a6,
    qqh := (aqi (st := gqh) l6 c6 k6).binds (ps := ["step"]) fun _ _ _ _ _ _ us hl => match us, hl with | [_], _ => rfl,
    nqA := f7, kqF := _, pqB := aqi (st := iqw) l7 c7 k7, rqW := PySem.W.mg_of X Gl a7,
    rqY := (aqi (st := iqw) l7 c7 k7).binds (ps := ["left", "rooted"]) fun _ _ _ _ _ _ us hl => match us, hl with | [_, _], _ => rfl,
    hqN := f8, gqd := _, jqo := aqi (st := dqz) l8 c8 k8, mqo := PySem.W.mg_of X Gl a8,
    mqg := (aqi (st := dqz) l8 c8 k8).binds (ps := ["base", "goal"]) fun _ _ _ _ _ _ us hl => match us, hl with | [_, _], _ => rfl,
    cqu := f9, bq2 := _, dqJ := aqi (st := aqR) l9 c9 k9, fqQ := PySem.W.mg_of X Gl a9,
    fqR := (aqi (st := aqR) l9 c9 k9).binds (ps := ["one", "other"]) fun _ _ _ _ _ _ us hl => match us, hl with | [_, _], _ => rfl,
    cqA := f10, bq3 := _, fqP := aqi (st := aqV) l10 c10 k10,
    fqN := (aqi (st := aqV) l10 c10 k10).binds (ps := ["self", "text"]) fun _ _ _ _ _ _ us hl => match us, hl with | [_, _], _ => rfl,
    dqt := f11, cqN := _, gqV := aqi (st := bqf) l11 c11 k11, eqe := ⟨a11, i11, k11⟩,
    eqW := (aqi (st := bqf) l11 c11 k11).binds (ps := ["self"]) fun _ _ _ _ _ _ us hl => match us, hl with | [_], _ => rfl,
    eqw := f12, dqV := _, jqi := aqi (st := bqU) l12 c12 k12, bqX := ⟨a12, i12, k12⟩,
    cqx := (aqi (st := bqU) l12 c12 k12).binds (ps := ["self"]) fun _ _ _ _ _ _ us hl => match us, hl with | [_], _ => rfl,
    dqv := f13, cqK := _, gq5 := aqi (st := bqn) l13 c13 k13, aqG := ⟨a13, i13, k13⟩,
    aqK := (aqi (st := bqn) l13 c13 k13).binds (ps := ["self", "text"]) fun _ _ _ _ _ _ us hl => match us, hl with | [_, _], _ => rfl,
    gqy := f14, fqf := _, gqg := aqi (st := cqY) l14 c14 k14, iqm := PySem.W.mg_of X Gl a14,
    iqx := (aqi (st := cqY) l14 c14 k14).binds (ps := ["door", "cursor"]) fun _ _ _ _ _ _ us hl => match us, hl with | [_, _], _ => rfl,
    iqY := f15, hqG := _, lqB := aqi (st := eqN) l15 c15 k15, oqj := PySem.W.mg_of X Gl a15,
    nq6 := (aqi (st := eqN) l15 c15 k15).binds (ps := ["rooted", "texts", "ends"]) fun _ _ _ _ _ _ us hl => match us, hl with | [_, _, _], _ => rfl,
    dqw := f16, cqO := _, eq5 := aqi (st := bqo) l16 c16 k16, hqj := PySem.W.mg_of X Gl a16,
    hqA := (aqi (st := bqo) l16 c16 k16).binds (ps := ["base", "address"]) fun _ _ _ _ _ _ us hl => match us, hl with | [_, _], _ => rfl,
    dqQ := f17, dqn := _, aqX := aqi (st := bqv) l17 c17 k17, bqb := PySem.W.mg_of X Gl a17,
    bqa := (aqi (st := bqv) l17 c17 k17).binds (ps := ["_law_script", "_law_k"]) fun _ _ _ _ _ _ us hl => match us, hl with | [_, _], _ => rfl,
    fq7 := f18, fqe := _, cq7 := aqi (st := cq4) l18 c18 k18, dqH := PySem.W.mg_of X Gl a18,
    dqD := (aqi (st := cq4) l18 c18 k18).binds (ps := ["_law_cell", "_law_most"]) fun _ _ _ _ _ _ us hl => match us, hl with | [_, _], _ => rfl,
    dqr := f19, cqH := _, eqO := aqi (st := bqk) l19 c19 k19, hqh := PySem.W.mg_of X Gl a19,
    hqq := (aqi (st := bqk) l19 c19 k19).binds (ps := ["_law_found", "_law_due"]) fun _ _ _ _ _ _ us hl => match us, hl with | [_, _], _ => rfl,
    cqs := f20, bq1 := _, dqK := aqi (st := aqU) l20 c20 k20, fqU := PySem.W.mg_of X Gl a20,
    fqS := (aqi (st := aqU) l20 c20 k20).binds (ps := ["_law_found"]) fun _ _ _ _ _ _ us hl => match us, hl with | [_], _ => rfl,
    gqx := f21, fqd := _, iqo := aqi (st := cq0) l21 c21 k21, kq7 := PySem.W.mg_of X Gl a21,
    lqE := (aqi (st := cq0) l21 c21 k21).binds (ps := ["_law_way_here"]) fun _ _ _ _ _ _ us hl => match us, hl with | [_], _ => rfl,
    eqr := f22, dqP := _, gqt := aqi (st := bqQ) l22 c22 k22, iq2 := PySem.W.mg_of X Gl a22,
    iqz := (aqi (st := bqQ) l22 c22 k22).binds (ps := ["_law_cell"]) fun _ _ _ _ _ _ us hl => match us, hl with | [_], _ => rfl,
    dqY := f23, dqs := _, fqG := aqi (st := bqu) l23 c23 k23, hq9 := PySem.W.mg_of X Gl a23,
    iqd := (aqi (st := bqu) l23 c23 k23).binds (ps := ["_law_sign", "_law_great"]) fun _ _ _ _ _ _ us hl => match us, hl with | [_, _], _ => rfl,
    iq6 := f24, hqE := _, kq1 := aqi (st := eq2) l24 c24 k24, oqF := PySem.W.mg_of X Gl a24,
    oqE := (aqi (st := eq2) l24 c24 k24).binds (ps := ["thing"]) fun _ _ _ _ _ _ us hl => match us, hl with | [_], _ => rfl,
    iqH := f25, hqJ := _, lqo := aqi (st := eqL) l25 c25 k25, oqB := PySem.W.mg_of X Gl a25,
    pqa := (aqi (st := eqL) l25 c25 k25).binds (ps := ["figures"]) fun _ _ _ _ _ _ us hl => match us, hl with | [_], _ => rfl,
    jqd := f26, hqS := _, dq5 := aqi (st := eq4) l26 c26 k26, eqQ := PySem.W.mg_of X Gl a26,
    eqM := (aqi (st := eq4) l26 c26 k26).binds (ps := ["text"]) fun _ _ _ _ _ _ us hl => match us, hl with | [_], _ => rfl,
    fqy := f27, eqz := _, hqr := aqi (st := cqg) l27 c27 k27, jqV := PySem.W.mg_of X Gl a27,
    jqQ := (aqi (st := cqg) l27 c27 k27).binds (ps := ["steps", "rooted"]) fun _ _ _ _ _ _ us hl => match us, hl with | [_, _], _ => rfl,
    eqq := f28, dqW := _, iqM := aqi (st := bqK) l28 c28 k28, cqD := ⟨a28, i28, k28⟩,
    dqc := (aqi (st := bqK) l28 c28 k28).binds (ps := ["self", "signs"]) fun _ _ _ _ _ _ us hl => match us, hl with | [_, _], _ => rfl,
    gqm := f29, fqj := _, iqv := aqi (st := cqZ) l29 c29 k29, lqe := PySem.W.mg_of X Gl a29,
    lqC := (aqi (st := cqZ) l29 c29 k29).binds (ps := ["_law_cell"]) fun _ _ _ _ _ _ us hl => match us, hl with | [_], _ => rfl,
    gqk := f30, fqn := _, eq0 := aqi (st := cqS) l30 c30 k30, fq5 := PySem.W.mg_of X Gl a30,
    fqZ := (aqi (st := cqS) l30 c30 k30).binds (ps := ["_law_found", "_law_due"]) fun _ _ _ _ _ _ us hl => match us, hl with | [_, _], _ => rfl,
    dql := f31, cqL := _, eq8 := aqi (st := bqm) l31 c31 k31, gq2 := PySem.W.mg_of X Gl a31,
    hqk := (aqi (st := bqm) l31 c31 k31).binds (ps := ["_law_cell"]) fun _ _ _ _ _ _ us hl => match us, hl with | [_], _ => rfl,
    fq8 := f32, fqr := _, iql := aqi (st := cqT) l32 c32 k32, kqN := PySem.W.mg_of X Gl a32,
    lqg := (aqi (st := cqT) l32 c32 k32).binds (ps := ["_law_cell"]) fun _ _ _ _ _ _ us hl => match us, hl with | [_], _ => rfl,
    dq1 := f33, dqd := _, bqw := aqi (st := bqt) l33 c33 k33, bqZ := PySem.W.mg_of X Gl a33,
    bq0 := (aqi (st := bqt) l33 c33 k33).binds (ps := ["_law_text_here", "_law_free", "_law_bits"]) fun _ _ _ _ _ _ us hl => match us, hl with | [_, _, _], _ => rfl,
    gqj := f34, fql := _, iqn := aqi (st := cq3) l34 c34 k34, lqN := PySem.W.mg_of X Gl a34,
    lqj := (aqi (st := cq3) l34 c34 k34).binds (ps := ["thing"]) fun _ _ _ _ _ _ us hl => match us, hl with | [_], _ => rfl,
    qqp := f35, nqd := _, qqD := aqi (st := lqG) l35 c35 k35, rq1 := PySem.W.mg_of X Gl a35,
    rqH := (aqi (st := lqG) l35 c35 k35).binds (ps := ["way"]) fun _ _ _ _ _ _ us hl => match us, hl with | [_], _ => rfl,
    fqo := f36, eqx := _, hql := aqi (st := bq8) l36 c36 k36, jqU := PySem.W.mg_of X Gl a36,
    jq6 := (aqi (st := bq8) l36 c36 k36).binds (ps := ["cursor"]) fun _ _ _ _ _ _ us hl => match us, hl with | [_], _ => rfl,
    fqA := f37, eqo := _, gq8 := aqi (st := cqf) l37 c37 k37, jq3 := PySem.W.mg_of X Gl a37,
    jq9 := (aqi (st := cqf) l37 c37 k37).binds (ps := ["cursor"]) fun _ _ _ _ _ _ us hl => match us, hl with | [_], _ => rfl,
    eqy := f38, dqX := _, fq6 := aqi (st := bqO) l38 c38 k38, iq0 := PySem.W.mg_of X Gl a38,
    iqS := (aqi (st := bqO) l38 c38 k38).binds (ps := ["house", "door"]) fun _ _ _ _ _ _ us hl => match us, hl with | [_, _], _ => rfl,
    fq4 := f39, fqs := _, iqp := aqi (st := cq6) l39 c39 k39, kqK := PySem.W.mg_of X Gl a39,
    lqD := (aqi (st := cq6) l39 c39 k39).binds (ps := ["way"]) fun _ _ _ _ _ _ us hl => match us, hl with | [_], _ => rfl,
    eql := f40, dqZ := _, gqs := aqi (st := bqS) l40 c40 k40, iqZ := PySem.W.mg_of X Gl a40,
    iq4 := (aqi (st := bqS) l40 c40 k40).binds (ps := ["name", "value"]) fun _ _ _ _ _ _ us hl => match us, hl with | [_, _], _ => rfl,
    fqg := f41, eqB := _, gqT := aqi (st := bq5) l41 c41 k41, jq1 := PySem.W.mg_of X Gl a41,
    jqO := (aqi (st := bq5) l41 c41 k41).binds (ps := ["mark"]) fun _ _ _ _ _ _ us hl => match us, hl with | [_], _ => rfl,
    hqO := f42, gql := _, jqx := aqi (st := dqB) l42 c42 k42, mqm := PySem.W.mg_of X Gl a42,
    mqJ := (aqi (st := dqB) l42 c42 k42).binds (ps := ["_law_cells", "_law_rooted", "_law_ends"]) fun _ _ _ _ _ _ us hl => match us, hl with | [_, _, _], _ => rfl,
    cqr := f43, bq4 := _, dqG := aqi (st := aqT) l43 c43 k43, fqV := PySem.W.mg_of X Gl a43,
    fqI := (aqi (st := aqT) l43 c43 k43).binds (ps := ["_law_question_here", "_law_bits"]) fun _ _ _ _ _ _ us hl => match us, hl with | [_, _], _ => rfl,
    dqm := f44, cqM := _, bqB := aqi (st := bqj) l44 c44 k44, cqb := PySem.W.mg_of X Gl a44,
    cqk := (aqi (st := bqj) l44 c44 k44).binds (ps := ["address"]) fun _ _ _ _ _ _ us hl => match us, hl with | [_], _ => rfl,
    kqJ := f45, iqQ := _, iq7 := aqi (st := gqu) l45 c45 k45, kqA := PySem.W.mg_of X Gl a45,
    kqG := (aqi (st := gqu) l45 c45 k45).binds (ps := ["way"]) fun _ _ _ _ _ _ us hl => match us, hl with | [_], _ => rfl,
    dq2 := f46, dqq := _, fqF := aqi (st := bqz) l46 c46 k46, iqc := PySem.W.mg_of X Gl a46,
    iqe := (aqi (st := bqz) l46 c46 k46).binds (ps := ["cursor"]) fun _ _ _ _ _ _ us hl => match us, hl with | [_], _ => rfl,
    fqh := f47, dqx := _, jqN := T47, lq0 := dt47_0, bqI := jqA (st := bqG) l47 c47 k47, cqp := PySem.W.mg_of X Gl a47,
    jq0 := (jqA (st := bqG) l47 c47 k47).binds (ps := ["cursor", "free", "most"]) (ds := []) d47 fun _ _ _ _ _ _ us hl => match us, hl with | [_, _, _], _ => ⟨_, rfl, rfl⟩,
    cqw := (jqA (st := bqG) l47 c47 k47).binds (ps := ["cursor", "free", "most"]) (ds := [.none]) d47 fun _ _ _ _ _ _ us hl => by obtain ⟨x, y, rfl⟩ := rqD hl; exact ⟨_, rfl, rfl⟩,
    cqJ := f48, cqz := _, eqa := aqi (st := aq5) l48 c48 k48, gqM := PySem.W.mg_of X Gl a48,
    gqH := (aqi (st := aq5) l48 c48 k48).binds (ps := ["question"]) fun _ _ _ _ _ _ us hl => match us, hl with | [_], _ => rfl,
    dqR := f49, dqh := _, dqU := aqi (st := bqy) l49 c49 k49, fqC := PySem.W.mg_of X Gl a49,
    fqE := (aqi (st := bqy) l49 c49 k49).binds (ps := ["_law_script", "_law_first", "_law_whole", "_law_cells"]) fun _ _ _ _ _ _ us hl => match us, hl with | [_, _, _, _], _ => rfl,
    fqt := f50, eqm := _, fqx := aqi (st := cqm) l50 c50 k50, hqe := PySem.W.mg_of X Gl a50,
    gq0 := (aqi (st := cqm) l50 c50 k50).binds (ps := ["_law_address_here", "_law_bits"]) fun _ _ _ _ _ _ us hl => match us, hl with | [_, _], _ => rfl,
    equ := f51, dqS := _, gqa := aqi (st := bqT) l51 c51 k51, jqb := PySem.W.mg_of X Gl a51,
    iqI := (aqi (st := bqT) l51 c51 k51).binds (ps := ["base_way", "goal_way"]) fun _ _ _ _ _ _ us hl => match us, hl with | [_, _], _ => rfl,
    gqe := f52, fqi := _, iqj := aqi (st := cqX) l52 c52 k52, lqv := PySem.W.mg_of X Gl a52,
    lqy := (aqi (st := cqX) l52 c52 k52).binds (ps := ["cursor", "must_be_rooted"]) fun _ _ _ _ _ _ us hl => match us, hl with | [_, _], _ => rfl,
    eqp := f53, dqT := _, eqA := aqi (st := bqL) l53 c53 k53, gqC := PySem.W.mg_of X Gl a53,
    gqq := (aqi (st := bqL) l53 c53 k53).binds (ps := ["cursor"]) fun _ _ _ _ _ _ us hl => match us, hl with | [_], _ => rfl,
    fqz := f54, eqt := _, hqB := aqi (st := bq7) l54 c54 k54, jq5 := PySem.W.mg_of X Gl a54,
    jq7 := (aqi (st := bq7) l54 c54 k54).binds (ps := ["cursor"]) fun _ _ _ _ _ _ us hl => match us, hl with | [_], _ => rfl,
    bqP := f55, aq6 := _, eq1 := T55, gqY := dt55_0, bqM := jqA (st := aqJ) l55 c55 k55, cqW := PySem.W.mg_of X Gl a55,
    eqR := (jqA (st := aqJ) l55 c55 k55).binds (ps := ["cursor", "free", "most"]) (ds := []) d55 fun _ _ _ _ _ _ us hl => match us, hl with | [_, _, _], _ => ⟨_, rfl, rfl⟩,
    eqj := (jqA (st := aqJ) l55 c55 k55).binds (ps := ["cursor", "free", "most"]) (ds := [.none]) d55 fun _ _ _ _ _ _ us hl => by obtain ⟨x, y, rfl⟩ := rqD hl; exact ⟨_, rfl, rfl⟩,
    qqb := f56, nqq := _, sqg := aqi (st := kqS) l56 c56 k56, uqB := PySem.W.mg_of X Gl a56,
    uqH := (aqi (st := kqS) l56 c56 k56).binds (ps := ["address"]) fun _ _ _ _ _ _ us hl => match us, hl with | [_], _ => rfl,
    nqk := f57, fd_plain := _, lqq := aqi (st := iqq) l57 c57 k57, mqO := PySem.W.mg_of X Gl a57,
    nqD := (aqi (st := iqq) l57 c57 k57).binds (ps := ["address"]) fun _ _ _ _ _ _ us hl => match us, hl with | [_], _ => rfl,
    hqW := f58, fqX := _, jql := aqi (st := dqE) l58 c58 k58, mqn := PySem.W.mg_of X Gl a58,
    mqs := (aqi (st := dqE) l58 c58 k58).binds (ps := ["base_way", "way"]) fun _ _ _ _ _ _ us hl => match us, hl with | [_, _], _ => rfl,
    fq9 := f59, fqv := _, iqt := aqi (st := cq1) l59 c59 k59, lqA := PySem.W.mg_of X Gl a59,
    lqk := (aqi (st := cq1) l59 c59 k59).binds (ps := ["_law_script"]) fun _ _ _ _ _ _ us hl => match us, hl with | [_], _ => rfl,
    gqc := f60, fqp := _, iqi := aqi (st := cqR) l60 c60 k60, lqx := PySem.W.mg_of X Gl a60,
    kq2 := (aqi (st := cqR) l60 c60 k60).binds (ps := ["base", "goal"]) fun _ _ _ _ _ _ us hl => match us, hl with | [_, _], _ => rfl,
    eqn := f61, dq3 := _, gqr := aqi (st := bqR) l61 c61 k61, iqF := PySem.W.mg_of X Gl a61,
    iq3 := (aqi (st := bqR) l61 c61 k61).binds (ps := ["cursor"]) fun _ _ _ _ _ _ us hl => match us, hl with | [_], _ => rfl,
    cqI := f62, cqt := _, eqd := aqi (st := aq3) l62 c62 k62, gqG := PySem.W.mg_of X Gl a62,
    gqI := (aqi (st := aq3) l62 c62 k62).binds (ps := ["cursor"]) fun _ _ _ _ _ _ us hl => match us, hl with | [_], _ => rfl,
    fqw := f63, eqs := _, gq3 := aqi (st := cqi) l63 c63 k63, kqa := PySem.W.mg_of X Gl a63,
    jq8 := (aqi (st := cqi) l63 c63 k63).binds (ps := ["base", "address"]) fun _ _ _ _ _ _ us hl => match us, hl with | [_, _], _ => rfl,
    hqL := f64, gqf := _, jqI := aqi (st := dqC) l64 c64 k64, mqt := PySem.W.mg_of X Gl a64,
    mqC := (aqi (st := dqC) l64 c64 k64).binds (ps := ["base", "goal"]) fun _ _ _ _ _ _ us hl => match us, hl with | [_, _], _ => rfl,
    qqv := f65, nqn := _, oqO := aqi (st := lqa) l65 c65 k65, pq9 := PySem.W.mg_of X Gl a65,
    pq5 := (aqi (st := lqa) l65 c65 k65).binds (ps := ["text"]) fun _ _ _ _ _ _ us hl => match us, hl with | [_], _ => rfl,
    hqF := f66, fq3 := _, jqC := aqi (st := dqN) l66 c66 k66, mqK := PySem.W.mg_of X Gl a66,
    mqz := (aqi (st := dqN) l66 c66 k66).binds (ps := ["base", "address"]) fun _ _ _ _ _ _ us hl => match us, hl with | [_, _], _ => rfl,
    fq1 := f67, fqu := _, gqD := aqi (st := cqV) l67 c67 k67, iqr := PySem.W.mg_of X Gl a67,
    iqg := (aqi (st := cqV) l67 c67 k67).binds (ps := ["_law_base", "_law_goal"]) fun _ _ _ _ _ _ us hl => match us, hl with | [_, _], _ => rfl,
    tqD := f68, nqW := _, yqu := aqi (st := pqT) l68 c68 k68, yqE := PySem.W.mg_of X Gl a68,
    yqw := (aqi (st := pqT) l68 c68 k68).binds (ps := ["_law_script"]) fun _ _ _ _ _ _ us hl => match us, hl with | [_], _ => rfl,
    hqT := qa0_NO_WAY, kqB := PySem.W.mg_of X Gl e_NO_WAY, iqP := fun H => (.tup (xs := [.bl false, .ref qa1_NO_WAY, .bl false]) (.inr ⟨_, _, _, y0_NO_WAY, rfl, rfl, (by show 3 ≤ sizeLine; decide), (.cons rfl (.cons rfl (.cons rfl .nil)))⟩) (.cons (.bl _) (.cons (.tup (xs := []) (.inr ⟨_, _, _, y1_NO_WAY, rfl, rfl, (by show 0 ≤ sizeLine; decide), .nil⟩) .nil) (.cons (.bl _) .nil)))),
    kqP := kqP, pqj := PySem.W.mg_of X Gl e_SIGNS,
    gqW := gqW, oq5 := PySem.W.mg_of X Gl e_LETTERS,
    aqY := aqY, dq7 := PySem.W.mg_of X Gl e_LETTERS_AND_FIGURES,
    gqZ := gqZ, kqU := PySem.W.mg_of X Gl e_FIGURES,
    kq6 := kq6, pqO := PySem.W.mg_of X Gl e_PLAIN,
    cql := cql, eq9 := PySem.W.mg_of X Gl e_FREE_IN_STEPS,
    bqd := bqd, bqN := PySem.W.mg_of X Gl e_FREE_IN_QUESTIONS,
    cqe := cqe, gq6 := PySem.W.mg_of X Gl e_FREE_IN_MARKS,
    cqE := cqE, fqB := PySem.W.mg_of X Gl e_FIRST_NUMBER,
    dqa := dqa, iq1 := PySem.W.mg_of X Gl e_LAST_NUMBER,
    bqA := bqA, dqL := PySem.W.mg_of X Gl e_NUMBER_LEFT_OUT,
    bq6 := bq6, cqa := PySem.W.mg_of X Gl e_SMALL_FIGURES,
    cqn := cqn, eq7 := PySem.W.mg_of X Gl e_GREAT_FIGURES,
    iqG := iqG, fqY := PySem.W.mg_of X Gl e_SCHEME,
    lqp := lqp, fqH := PySem.W.mg_of X Gl e_HOUSE,
    nqU := nqU, oqw := PySem.W.mg_of X Gl e_DOOR,
    sqW := sqW, kqr := PySem.W.mg_of X Gl e_WAY,
    fqK := fqK, bqp := PySem.W.mg_of X Gl e_QUESTION,
    nqZ := nqZ, oqH := PySem.W.mg_of X Gl e_MARK,
    iqR := iqR, hqI := PySem.W.mg_of X Gl e_ROOTED,
    lqm := lqm, iqk := PySem.W.mg_of X Gl e_STEPS,
    oqh := oqh, lqJ := PySem.W.mg_of X Gl e_ENDS,
    bqW := bqW, gqL := PySem.W.mg_of X Gl e_LONGEST_SCHEME,
    cqh := cqh, hqn := PySem.W.mg_of X Gl e_LONGEST_HOUSE,
    eqT := eqT, lqi := PySem.W.mg_of X Gl e_LAST_DOOR,
    oq2 := oq2, nq0 := PySem.W.mg_of X Gl e_STAY,
    t_UP := t_UP, c_UP := PySem.W.mg_of X Gl e_UP,
    cqc := cqc, hqi := PySem.W.mg_of X Gl e_FIRST_FIGURES,
    yqt := PySem.W.mg_none_of X Gl z_all,
    tqM := PySem.W.mg_none_of X Gl z_ord,
    fqT := PySem.W.mg_none_of X Gl z_len,
    yqs := PySem.W.mg_none_of X Gl z_min,
    pqz := PySem.W.mg_none_of X Gl z_int,
    nqp := PySem.W.mg_none_of X Gl z_range,
    aqA := PySem.W.mg_none_of X Gl z_isinstance,
    lqF := PySem.W.mg_none_of X Gl z_str,
    qqG := PySem.W.mg_none_of X Gl z_bool,
    eqb := PySem.W.mg_none_of X Gl z_tuple,
    mqj := PySem.W.mg_none_of X Gl z_reversed,
    aqu := kC_Cursor, aqq := ⟨pg_Cursor, hd_Cursor, po_Cursor, sa_Cursor⟩, qqk := PySem.W.mg_of X Gl aC_Cursor,
    aq8 := nf_Cursor_text,
    aqH := nf_Cursor_place,
    qqs := ⟨mk_Cursor, a10, i10, kc_Cursor⟩ }
  exact ⟨g.nqW, fun s v => .of_eq rfl, fun base _ _ => xqu g⟩
theorem walk {l : PySem.W.OpenLaw} {q : Program} {loose : List Str} {XP : (Str → Option Value) → Heap → Prop} {YP : World → Heap → Prop} {d : DefRec} {K : Params → PySem.W.Frag} (hn : l.most = some 63) (hdf : d.params.defaults = [])
    (hY : ∀ (w : World) (h : Heap), YP w h → (K w.params).In h)
    (F : ∀ (w : World) (mg : Str → Option Value) (fa : Addr) (h : Heap), (K w.params).In h → h.Ns mainGlobals mg → mg d.name = some (.ref fa) →
      ∃ fd : FuncData, (∀ (s : Shared) (u : Value), BindsTo s fd ⟨[u], []⟩ [("_law_script", u)]) ∧ ∀ base : Heap, (K w.params).In base → base.Ns mainGlobals mg → FnOk l.prog w (K w.params) mg base CX0 9 fa fd ["_law_script"] (qqe (K w.params))) :
    PySem.W.WalkO q loose XP YP l.row.toRowW d [] (fun f vs => PySem.call f vs) :=
  L2.vqG (n := 63) (k := 9) (x := "_law_script") (CX := fun _ => CX0) (sp := fun w => qqe (K w.params)) hn (by decide) hdf ⟨rfl, by decide, by decide⟩ hY F (fun _ _ a ns hl _ hS => ⟨a, ns, rfl, hS, hl, fun _ => rfl⟩) fun _ _ _ _ _ z => z
end Wm
theorem PySem.W.Fast.tw8027852878571421157 : True := trivial
theorem PySem.W.Fast.tw9316766397958687318 : True := trivial
theorem PySem.W.Fast.tw1122376868040348305 : True := trivial
theorem PySem.W.Fast.tw18169591044181480488 : True := trivial
theorem PySem.W.Fast.tw15839902234419336957 : True := trivial
theorem PySem.W.Fast.tw16291953982707567430 : True := trivial
theorem PySem.W.Fast.tw7732589735508809823 : True := trivial
theorem PySem.W.Fast.tw439183952028878168 : True := trivial
theorem PySem.W.Fast.tw3464076845036567096 : True := trivial
theorem PySem.W.Fast.tw9707009611835678729 : True := trivial
theorem PySem.W.Fast.tw5886313950566821121 : True := trivial
theorem PySem.W.Fast.tw4592652110260200749 : True := trivial
theorem PySem.W.Fast.tw10217674019769329801 : True := trivial
theorem PySem.W.Fast.tw16134672775418512202 : True := trivial
theorem PySem.W.Fast.tw13906334432590341898 : True := trivial
theorem PySem.W.Fast.tw13521768518589843281 : True := trivial
theorem PySem.W.Fast.tw6116622949506791027 : True := trivial
theorem PySem.W.Fast.tw10438126917873709580 : True := trivial
theorem PySem.W.Fast.tw17421899026591167846 : True := trivial
theorem PySem.W.Fast.tw9297101361910218689 : True := trivial
theorem PySem.W.Fast.tw7635737458292315564 : True := trivial
theorem PySem.W.Fast.tw13109583561458552600 : True := trivial
theorem PySem.W.Fast.tw3147581288203963941 : True := trivial
theorem PySem.W.Fast.tw17047503323349498347 : True := trivial
theorem PySem.W.Fast.tw8358604355462241608 : True := trivial
theorem PySem.W.Fast.tw16886782776418389499 : True := trivial
theorem PySem.W.Fast.tw1006566482319602712 : True := trivial
theorem PySem.W.Fast.tw12486145318824911500 : True := trivial
theorem PySem.W.Fast.tw3243933307881111008 : True := trivial
theorem PySem.W.Fast.tw6703692093603764360 : True := trivial
theorem PySem.W.Fast.tw8925891716337499859 : True := trivial
theorem PySem.W.Fast.tw16449141798120823714 : True := trivial
theorem PySem.W.Fast.tw7529439932477338005 : True := trivial
theorem PySem.W.Fast.tw1206405554049320961 : True := trivial
theorem PySem.W.Fast.tw7387193910840635067 : True := trivial
theorem PySem.W.Fast.tw1011582909535909032 : True := trivial
theorem PySem.W.Fast.tw14743239124504681362 : True := trivial
theorem PySem.W.Fast.tw16974947752235682004 : True := trivial
theorem PySem.W.Fast.tw11205231080682275587 : True := trivial
theorem PySem.W.Fast.tw10308698231573906533 : True := trivial
theorem PySem.W.Fast.tw9369445944146473825 : True := trivial
theorem PySem.W.Fast.tw17569635801738828620 : True := trivial
theorem PySem.W.Fast.tw1250032006641635037 : True := trivial
theorem PySem.W.Fast.tw15787357363002388351 : True := trivial
theorem PySem.W.Fast.tw14398672276686885953 : True := trivial
theorem PySem.W.Fast.tw3521702035241869519 : True := trivial
theorem PySem.W.Fast.tw14146653815488923181 : True := trivial
theorem PySem.W.Fast.tw17791847651362800238 : True := trivial
theorem PySem.W.Fast.tw3613642010721214956 : True := trivial
theorem PySem.W.Fast.tw9183346285283405709 : True := trivial
theorem PySem.W.Fast.tw11106058694006265812 : True := trivial
theorem PySem.W.Fast.tw14678523716675020617 : True := trivial
theorem PySem.W.Fast.tw17843557974633846808 : True := trivial
theorem PySem.W.Fast.tw2455156460655860999 : True := trivial
theorem PySem.W.Fast.tw9564319978028982640 : True := trivial
theorem PySem.W.Fast.tw11431748731117644330 : True := trivial
theorem PySem.W.Fast.tw3606615353724787070 : True := trivial
theorem PySem.W.Fast.tw5873729915694321892 : True := trivial
theorem PySem.W.Fast.tw4609397646956395433 : True := trivial
theorem PySem.W.Fast.tw12551428849236829862 : True := trivial
theorem PySem.W.Fast.tw11975007262366918784 : True := trivial
theorem PySem.W.Fast.tw298856694818243234 : True := trivial
theorem PySem.W.Fast.tw6613141289798788145 : True := trivial
theorem PySem.W.Fast.tw12848433153506847007 : True := trivial
theorem PySem.W.Fast.tw14554254604935875105 : True := trivial
theorem PySem.W.Fast.tw9234049179037747608 : True := trivial
theorem PySem.W.Fast.tw12827168810937401329 : True := trivial
theorem PySem.W.Fast.tw9654764135383539535 : True := trivial
theorem PySem.W.Fast.tw11478011087188364211 : True := trivial
theorem PySem.W.Fast.tw902694776096341432 : True := trivial
theorem PySem.W.Fast.tw13964951166912883170 : True := trivial
theorem PySem.W.Fast.tw4540602999351652312 : True := trivial
theorem PySem.W.Fast.tw15738878992335099982 : True := trivial
theorem PySem.W.Fast.tw8075952792000489042 : True := trivial
theorem PySem.W.Fast.tw7184331459739433221 : True := trivial
theorem PySem.W.Fast.tw953552275432005557 : True := trivial
theorem PySem.W.Fast.tw17431907814582919222 : True := trivial
theorem PySem.W.Fast.tw2475335619632758648 : True := trivial
theorem PySem.W.Fast.tw4350334712347336711 : True := trivial
theorem PySem.W.Fast.tw12268350504069180540 : True := trivial
theorem PySem.W.Fast.tw17410402118380696919 : True := trivial
theorem PySem.W.Fast.tw15758001146960726172 : True := trivial
theorem PySem.W.Fast.tw7586642847987429214 : True := trivial
theorem PySem.W.Fast.tw6914851389134927559 : True := trivial
theorem PySem.W.Fast.tw3657669891995835805 : True := trivial
theorem PySem.W.Fast.tw9054173269137222444 : True := trivial
theorem PySem.W.Fast.tw13705528620271935038 : True := trivial
theorem PySem.W.Fast.tw6041321750038462866 : True := trivial
theorem PySem.W.Fast.tw8655980219717163031 : True := trivial
theorem PySem.W.Fast.tw894223552138767824 : True := trivial
theorem PySem.W.Fast.tw157307736896073892 : True := trivial
theorem PySem.W.Fast.tw9008325913121688134 : True := trivial
theorem PySem.W.Fast.tw15128867506906541164 : True := trivial
theorem PySem.W.Fast.tw16741142854523399430 : True := trivial
theorem PySem.W.Fast.tw11107711890948420589 : True := trivial
theorem PySem.W.Fast.tw2050359603381515047 : True := trivial
theorem PySem.W.Fast.tw3474923857765654372 : True := trivial
theorem PySem.W.Fast.tw8955765227454776181 : True := trivial
theorem PySem.W.Fast.tw2414671079570363407 : True := trivial
theorem PySem.W.Fast.tw2200191027118655728 : True := trivial
theorem PySem.W.Fast.tw8965340388494940423 : True := trivial
theorem PySem.W.Fast.tw10823316979828207370 : True := trivial
theorem PySem.W.Fast.tw1475377609764013064 : True := trivial
theorem PySem.W.Fast.tw14954641380097099291 : True := trivial
theorem PySem.W.Fast.tw3572949251797219543 : True := trivial
theorem PySem.W.Fast.tw12776839282946081147 : True := trivial
theorem PySem.W.Fast.tw8985689634049254856 : True := trivial
theorem PySem.W.Fast.tw430153379766934695 : True := trivial
theorem PySem.W.Fast.tw16092653161534778187 : True := trivial
theorem PySem.W.Fast.tw14112105686902062925 : True := trivial
theorem PySem.W.Fast.tw9602119773344327556 : True := trivial
theorem PySem.W.Fast.tw5281609043077370369 : True := trivial
theorem PySem.W.Fast.tw18408661654824163799 : True := trivial
theorem PySem.W.Fast.tw4418262590675631745 : True := trivial
theorem PySem.W.Fast.tw7749702195063867691 : True := trivial
theorem PySem.W.Fast.tw15148130289657136727 : True := trivial
theorem PySem.W.Fast.tw15220865742180031861 : True := trivial
theorem PySem.W.Fast.tw2355703994428695822 : True := trivial
theorem PySem.W.Fast.tw4901122323503074946 : True := trivial
theorem PySem.W.Fast.tw2494540218827320237 : True := trivial
theorem PySem.W.Fast.tw4237118709067885870 : True := trivial
theorem PySem.W.Fast.tw14539915429091272505 : True := trivial
theorem PySem.W.Fast.tw3718612245476629058 : True := trivial
theorem PySem.W.Fast.tw1739419737653870517 : True := trivial
theorem PySem.W.Fast.tw713681027147314931 : True := trivial
theorem PySem.W.Fast.tw4512584831953979398 : True := trivial
theorem PySem.W.Fast.tw6384282225044307038 : True := trivial
theorem PySem.W.Fast.tw5858412803470102381 : True := trivial
theorem PySem.W.Fast.tw15656437070566747720 : True := trivial
theorem PySem.W.Fast.tw3248304865479762406 : True := trivial
theorem PySem.W.Fast.tw2650188159822603522 : True := trivial
theorem PySem.W.Fast.tw12123860303041075919 : True := trivial
theorem PySem.W.Fast.tw2865952011729634402 : True := trivial
theorem PySem.W.Fast.tw14541919043625600714 : True := trivial
theorem PySem.W.Fast.tw17760111766380446074 : True := trivial
theorem PySem.W.Fast.tw10824132573219771959 : True := trivial
theorem PySem.W.Fast.tw12515198935171876526 : True := trivial
theorem PySem.W.Fast.tw16283922146770436404 : True := trivial
theorem PySem.W.Fast.tw18363071326143982718 : True := trivial
theorem PySem.W.Fast.tw2581134685711223168 : True := trivial
theorem PySem.W.Fast.tw3722572362774079562 : True := trivial
theorem PySem.W.Fast.tw5900453076285077334 : True := trivial
theorem PySem.W.Fast.tw14852197751558576231 : True := trivial
theorem PySem.W.Fast.tw9591144521867420092 : True := trivial
theorem PySem.W.Fast.tw11459950689519217644 : True := trivial
theorem PySem.W.Fast.tw15357273537812596748 : True := trivial
theorem PySem.W.Fast.tw284334434024650093 : True := trivial
theorem PySem.W.Fast.tw9608386791470473975 : True := trivial
theorem PySem.W.Fast.tw6213984514658356604 : True := trivial
theorem PySem.W.Fast.tw8397282203782287511 : True := trivial
theorem PySem.W.Fast.tw7089940881707053443 : True := trivial
theorem PySem.W.Fast.tw12786829408277950097 : True := trivial
theorem PySem.W.Fast.tw10108565515926055959 : True := trivial
theorem PySem.W.Fast.tw8760947849967239900 : True := trivial
theorem PySem.W.Fast.tw1056134632038921849 : True := trivial
theorem PySem.W.Fast.tw13902891849129896967 : True := trivial
theorem PySem.W.Fast.tw2148173089936277453 : True := trivial
theorem PySem.W.Fast.tw8404864423273605152 : True := trivial
theorem PySem.W.Fast.tw17820337430792551257 : True := trivial
theorem PySem.W.Fast.tw15309670679105174495 : True := trivial
theorem PySem.W.Fast.tw9161770966455551273 : True := trivial
open PySem PySem.W PyProof.Rows
set_option maxRecDepth 100000 in
set_option maxHeartbeats 0 in
theorem PySem.Challenge.cw_waymark_k92_whole_relative_comes_back_holds : PySem.Challenge.rw_waymark_k92_whole_relative_comes_back.Holds := by
  w_on; o_law; k_head; (case hw => w_witness2)
  k_fill
  refine Wm.walk (l := PySem.Challenge.rw_waymark_k92_whole_relative_comes_back) rfl rfl (fun w h Y => PySem.W.kIn_of Y) ?F
  case F =>
    intro w mg fa h KX G hmg
    refine' Wm.xq9 (dt47_0 := 0) (dt55_0 := 0) KX G hmg ?aC_Cursor ?a1 ?l1 ?a2 ?l2 ?a3 ?l3 ?a4 ?l4 ?a5 ?l5 ?a6 ?l6 ?a7 ?l7 ?a8 ?l8 ?a9 ?l9 ?a10 ?i10 ?l10 ?a11 ?i11 ?l11 ?a12 ?i12 ?l12 ?a13 ?i13 ?l13 ?a14 ?l14 ?a15 ?l15 ?a16 ?l16 ?a17 ?l17 ?a18 ?l18 ?a19 ?l19 ?a20 ?l20 ?a21 ?l21 ?a22 ?l22 ?a23 ?l23 ?a24 ?l24 ?a25 ?l25 ?a26 ?l26 ?a27 ?l27 ?a28 ?i28 ?l28 ?a29 ?l29 ?a30 ?l30 ?a31 ?l31 ?a32 ?l32 ?a33 ?l33 ?a34 ?l34 ?a35 ?l35 ?a36 ?l36 ?a37 ?l37 ?a38 ?l38 ?a39 ?l39 ?a40 ?l40 ?a41 ?l41 ?a42 ?l42 ?a43 ?l43 ?a44 ?l44 ?a45 ?l45 ?a46 ?l46 ?a47 ?l47 ?d47 ?a48 ?l48 ?a49 ?l49 ?a50 ?l50 ?a51 ?l51 ?a52 ?l52 ?a53 ?l53 ?a54 ?l54 ?a55 ?l55 ?d55 ?a56 ?l56 ?a57 ?l57 ?a58 ?l58 ?a59 ?l59 ?a60 ?l60 ?a61 ?l61 ?a62 ?l62 ?a63 ?l63 ?a64 ?l64 ?a65 ?l65 ?a66 ?l66 ?a67 ?l67 ?a68 ?l68 ?e_NO_WAY ?y0_NO_WAY ?y1_NO_WAY ?e_SIGNS ?e_LETTERS ?e_LETTERS_AND_FIGURES ?e_FIGURES ?e_PLAIN ?e_FREE_IN_STEPS ?e_FREE_IN_QUESTIONS ?e_FREE_IN_MARKS ?e_FIRST_NUMBER ?e_LAST_NUMBER ?e_NUMBER_LEFT_OUT ?e_SMALL_FIGURES ?e_GREAT_FIGURES ?e_SCHEME ?e_HOUSE ?e_DOOR ?e_WAY ?e_QUESTION ?e_MARK ?e_ROOTED ?e_STEPS ?e_ENDS ?e_LONGEST_SCHEME ?e_LONGEST_HOUSE ?e_LAST_DOOR ?e_STAY ?e_UP ?e_FIRST_FIGURES ?z_all ?z_ord ?z_len ?z_min ?z_int ?z_range ?z_isinstance ?z_str ?z_bool ?z_tuple ?z_reversed ?pg_Cursor ?hd_Cursor ?po_Cursor ?sa_Cursor ?mk_Cursor ?kc_Cursor ?nf_Cursor_text ?nf_Cursor_place ?kk ?cc
    (case aC_Cursor => k_is)
    (case a1 => k_is)
    (case l1 => k_is)
    (case a2 => k_is)
    (case l2 => k_is)
    (case a3 => k_is)
    (case l3 => k_is)
    (case a4 => k_is)
    (case l4 => k_is)
    (case a5 => k_is)
    (case l5 => k_is)
    (case a6 => k_is)
    (case l6 => k_is)
    (case a7 => k_is)
    (case l7 => k_is)
    (case a8 => k_is)
    (case l8 => k_is)
    (case a9 => k_is)
    (case l9 => k_is)
    (case a10 => k_is)
    (case i10 => k_is)
    (case l10 => k_is)
    (case a11 => k_is)
    (case i11 => k_is)
    (case l11 => k_is)
    (case a12 => k_is)
    (case i12 => k_is)
    (case l12 => k_is)
    (case a13 => k_is)
    (case i13 => k_is)
    (case l13 => k_is)
    (case a14 => k_is)
    (case l14 => k_is)
    (case a15 => k_is)
    (case l15 => k_is)
    (case a16 => k_is)
    (case l16 => k_is)
    (case a17 => k_is)
    (case l17 => k_is)
    (case a18 => k_is)
    (case l18 => k_is)
    (case a19 => k_is)
    (case l19 => k_is)
    (case a20 => k_is)
    (case l20 => k_is)
    (case a21 => k_is)
    (case l21 => k_is)
    (case a22 => k_is)
    (case l22 => k_is)
    (case a23 => k_is)
    (case l23 => k_is)
    (case a24 => k_is)
    (case l24 => k_is)
    (case a25 => k_is)
    (case l25 => k_is)
    (case a26 => k_is)
    (case l26 => k_is)
    (case a27 => k_is)
    (case l27 => k_is)
    (case a28 => k_is)
    (case i28 => k_is)
    (case l28 => k_is)
    (case a29 => k_is)
    (case l29 => k_is)
    (case a30 => k_is)
    (case l30 => k_is)
    (case a31 => k_is)
    (case l31 => k_is)
    (case a32 => k_is)
    (case l32 => k_is)
    (case a33 => k_is)
    (case l33 => k_is)
    (case a34 => k_is)
    (case l34 => k_is)
    (case a35 => k_is)
    (case l35 => k_is)
    (case a36 => k_is)
    (case l36 => k_is)
    (case a37 => k_is)
    (case l37 => k_is)
    (case a38 => k_is)
    (case l38 => k_is)
    (case a39 => k_is)
    (case l39 => k_is)
    (case a40 => k_is)
    (case l40 => k_is)
    (case a41 => k_is)
    (case l41 => k_is)
    (case a42 => k_is)
    (case l42 => k_is)
    (case a43 => k_is)
    (case l43 => k_is)
    (case a44 => k_is)
    (case l44 => k_is)
    (case a45 => k_is)
    (case l45 => k_is)
    (case a46 => k_is)
    (case l46 => k_is)
    (case a47 => k_is)
    (case l47 => k_is)
    (case d47 => k_is)
    (case a48 => k_is)
    (case l48 => k_is)
    (case a49 => k_is)
    (case l49 => k_is)
    (case a50 => k_is)
    (case l50 => k_is)
    (case a51 => k_is)
    (case l51 => k_is)
    (case a52 => k_is)
    (case l52 => k_is)
    (case a53 => k_is)
    (case l53 => k_is)
    (case a54 => k_is)
    (case l54 => k_is)
    (case a55 => k_is)
    (case l55 => k_is)
    (case d55 => k_is)
    (case a56 => k_is)
    (case l56 => k_is)
    (case a57 => k_is)
    (case l57 => k_is)
    (case a58 => k_is)
    (case l58 => k_is)
    (case a59 => k_is)
    (case l59 => k_is)
    (case a60 => k_is)
    (case l60 => k_is)
    (case a61 => k_is)
    (case l61 => k_is)
    (case a62 => k_is)
    (case l62 => k_is)
    (case a63 => k_is)
    (case l63 => k_is)
    (case a64 => k_is)
    (case l64 => k_is)
    (case a65 => k_is)
    (case l65 => k_is)
    (case a66 => k_is)
    (case l66 => k_is)
    (case a67 => k_is)
    (case l67 => k_is)
    (case a68 => k_is)
    (case l68 => k_is)
    (case e_NO_WAY => k_is)
    (case y0_NO_WAY => k_is)
    (case y1_NO_WAY => k_is)
    (case e_SIGNS => k_is)
    (case e_LETTERS => k_is)
    (case e_LETTERS_AND_FIGURES => k_is)
    (case e_FIGURES => k_is)
    (case e_PLAIN => k_is)
    (case e_FREE_IN_STEPS => k_is)
    (case e_FREE_IN_QUESTIONS => k_is)
    (case e_FREE_IN_MARKS => k_is)
    (case e_FIRST_NUMBER => k_is)
    (case e_LAST_NUMBER => k_is)
    (case e_NUMBER_LEFT_OUT => k_is)
    (case e_SMALL_FIGURES => k_is)
    (case e_GREAT_FIGURES => k_is)
    (case e_SCHEME => k_is)
    (case e_HOUSE => k_is)
    (case e_DOOR => k_is)
    (case e_WAY => k_is)
    (case e_QUESTION => k_is)
    (case e_MARK => k_is)
    (case e_ROOTED => k_is)
    (case e_STEPS => k_is)
    (case e_ENDS => k_is)
    (case e_LONGEST_SCHEME => k_is)
    (case e_LONGEST_HOUSE => k_is)
    (case e_LAST_DOOR => k_is)
    (case e_STAY => k_is)
    (case e_UP => k_is)
    (case e_FIRST_FIGURES => k_is)
    (case z_all => k_is)
    (case z_ord => k_is)
    (case z_len => k_is)
    (case z_min => k_is)
    (case z_int => k_is)
    (case z_range => k_is)
    (case z_isinstance => k_is)
    (case z_str => k_is)
    (case z_bool => k_is)
    (case z_tuple => k_is)
    (case z_reversed => k_is)
    (case pg_Cursor => k_is)
    (case hd_Cursor => k_is)
    (case po_Cursor => k_is)
    (case sa_Cursor => k_is)
    (case mk_Cursor => k_is)
    (case kc_Cursor => k_is)
    (case nf_Cursor_text => k_is)
    (case nf_Cursor_place => k_is)
    (case kk => first | k_is | with_unfolding_all kernel_rfl | with_unfolding_all rfl)
    (case cc => first | k_is | with_unfolding_all kernel_rfl | with_unfolding_all rfl)
