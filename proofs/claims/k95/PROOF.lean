import PyProof.Rows.All
import Wide.All
import OpenK.AllK
import Wide.FinOn
import Lean
import PyProof.EqAt
import PyProof.EqKinds
import PyProof.TupleCall
import PySem.Challenge.RW_waymark_k95_whole_tables_and_two_pattern
set_option Elab.async false
set_option linter.all false
set_option maxRecDepth 100000
namespace L2
open PySem PySem.Spec PyProof.Rows
abbrev Key := Sum Int Str
def keyIs : Key -> Value -> Bool
 | .inl k,v => Value.isInt k v
 | .inr x,v => Value.isStrOf x v
def keyH (w : World) : Key -> Int
 | .inl k => hashInt k
 | .inr x => hashStr w x
theorem aq7 : ∀ {k : Key} {v : Value},keyIs k v = true -> (∃ i t,k = Sum.inl i ∧ v = Value.int i t) ∨ (∃ x t,k = Sum.inr x ∧ v = Value.str x t)
 | .inl i,v,h => by
  obtain ⟨t,e⟩ := Value.isInt_shape (k := i) (v := v) h
  exact .inl ⟨i,t,rfl,e⟩
 | .inr x,v,h => by
  obtain ⟨t,e⟩ := Value.isStrOf_shape (x := x) (v := v) h
  exact .inr ⟨x,t,rfl,e⟩
theorem tqf (a b : Int) : decide ((Sum.inl a : Key) = Sum.inl b) = (a == b) := by
 by_cases e : a = b
 ·subst e; simp
 ·have h : ¬ (Sum.inl a : Key) = Sum.inl b := fun q => e (Sum.inl.inj q)
  rw [decide_eq_false h]
  exact (beq_eq_false_iff_ne.mpr e).symm
theorem tqX (a b : Str) : decide ((Sum.inr a : Key) = Sum.inr b) = decide (a = b) := by
 by_cases e : a = b
 ·subst e; simp
 ·have h : ¬ (Sum.inr a : Key) = Sum.inr b := fun q => e (Sum.inr.inj q)
  rw [decide_eq_false h,decide_eq_false e]
theorem uqa (a : Int) (b : Str) : decide ((Sum.inl a : Key) = Sum.inr b) = false := decide_eq_false (fun q => nomatch q)
theorem sqU (a : Str) (b : Int) : decide ((Sum.inr a : Key) = Sum.inl b) = false := decide_eq_false (fun q => nomatch q)
def mixKind (prog : Program) (w : World) : PySem.KeyKind prog w Key where
 is := keyIs
 hash := keyH w
 inj := fun v a b ha hb => by
  rcases aq7 ha with ⟨i,t,rfl,rfl⟩ | ⟨x,t,rfl,rfl⟩
  ·rcases aq7 hb with ⟨j,u,rfl,e⟩ | ⟨y,u,rfl,e⟩
   ·injection e with e1 _; rw [e1]
   ·exact nomatch e
  ·rcases aq7 hb with ⟨j,u,rfl,e⟩ | ⟨y,u,rfl,e⟩
   ·exact nomatch e
   ·injection e with e1 _; rw [e1]
 byValue := fun k v h => by
  rcases aq7 h with ⟨i,t,rfl,rfl⟩ | ⟨x,t,rfl,rfl⟩ <;> rfl
 pyHash := fun hv h => by
  rcases aq7 hv with ⟨i,t,rfl,rfl⟩ | ⟨x,t,rfl,rfl⟩
  ·exact wpAny_pyHash_int h
  ·exact wpAny_pyHash_str h
 eqBool := fun hu hv h => by
  rcases aq7 hu with ⟨i,t,rfl,rfl⟩ | ⟨x,t,rfl,rfl⟩
  ·rcases aq7 hv with ⟨j,u,rfl,rfl⟩ | ⟨y,u,rfl,rfl⟩
   ·rw [tqf] at h; exact wpAny_eqBool_int h
   ·rw [uqa] at h; exact SeqAt.EqAt.int_str i t y u _ _ _ _ h
  ·rcases aq7 hv with ⟨j,u,rfl,rfl⟩ | ⟨y,u,rfl,rfl⟩
   ·rw [sqU] at h; exact SeqAt.EqAt.str_int x t j u _ _ _ _ h
   ·rw [tqX] at h; exact wpAny_eqBool_str h
 «strs» := fun k x t v h => by
  rcases aq7 h with ⟨i,u,rfl,e⟩ | ⟨y,u,rfl,e⟩
  ·exact nomatch e
  ·injection e with e1 _
   subst e1
   cases v <;> rfl
inductive V where
 | non | bl (b : Bool) | int (i : Int) | str (x : Str) | byt (b : Array UInt8) | flt (b : UInt64) | ref (a : Addr) | ty (n : String)
 deriving DecidableEq
def RelV : V -> Value -> Prop
 | .non,u => u = Value.none
 | .bl b,u => u = Value.bool b
 | .int i,u => ∃ t,u = Value.int i t
 | .str x,u => ∃ t,u = Value.str x t
 | .byt b,u => ∃ t,u = Value.bytes b t
 | .flt b,u => ∃ t,u = Value.float b t
 | .ref a,u => u = Value.ref a
 | .ty n,u => u = Value.type n
abbrev Vals : List V -> List Value -> Prop := Paired RelV
theorem Vals.length {xs : List V} {us : List Value} (r : Vals xs us) : xs.length = us.length := Paired.length r
theorem Vals.get : ∀ {xs : List V} {us : List Value} {i : Nat} {x : V},Vals xs us -> xs[i]? = some x -> ∃ u,us[i]? = some u ∧ RelV x u
 | _,_,_,_,.nil,e => by simp at e
 | _,_,0,_,.cons r _,e => by simp at e; subst e; exact ⟨_,rfl,r⟩
 | _,_,i + 1,x,.cons _ t,e => by
  obtain ⟨u,h1,h2⟩ := Vals.get (i := i) (x := x) t (by simpa using e)
  exact ⟨u,by simpa using h1,h2⟩
theorem Vals.append : ∀ {xs ys : List V} {us ws : List Value},Vals xs us -> Vals ys ws -> Vals (xs ++ ys) (us ++ ws)
 | _,_,_,_,.nil,s => s
 | _,_,_,_,.cons r t,s => .cons r (Vals.append t s)
theorem Vals.take : ∀ {xs : List V} {us : List Value} (n : Nat),Vals xs us -> Vals (xs.take n) (us.take n)
 | _,_,0,_ => .nil
 | _,_,_ + 1,.nil => .nil
 | _,_,n + 1,.cons r t => .cons r (Vals.take n t)
theorem Vals.drop : ∀ {xs : List V} {us : List Value} (n : Nat),Vals xs us -> Vals (xs.drop n) (us.drop n)
 | _,_,0,r => r
 | _,_,_ + 1,.nil => .nil
 | _,_,n + 1,.cons _ t => Vals.drop n t
def RelO : Option V -> Option Value -> Prop
 | some v,some u => RelV v u
 | none,none => True
 | _,_ => False
def KV {κ : Type} : List (κ × V) -> List (κ × Value) -> Prop := Paired fun (p : κ × V) (q : κ × Value) => p.1 = q.1 ∧ RelV p.2 q.2
def kV : Key -> V
 | .inl i => .int i
 | .inr x => .str x
inductive HO where
 | lst (xs : List V)
 | tup (xs : List V)
 | dK (kvs : List (Key × V)) | dT (kvs : List (List Key × V))
 | set (S : Int -> Bool) (n : Nat)
 | ins (C dx : Addr) (fs : List (Str × V))
 | own (x : Addr)
 | xd (fs : List (Str × V))
 | met (f x : Addr)
 | rng (lo hi : Int)
 | frz (o : Obj) (u : HO)
 | tbl (ps : Array Value)
 | ext (φ : Heap -> Prop)
abbrev Hp := Addr -> Option HO
def upd (H : Hp) (a : Addr) (o : HO) : Hp := fun b => if b = a then some o else H b
theorem aqm {H : Hp} {a : Addr} {o : HO} : upd H a o a = some o := by unfold upd; rw [if_pos rfl]
theorem aqt {H : Hp} {a b : Addr} {o : HO} (h : b ≠ a) : upd H a o b = H b := by unfold upd; rw [if_neg h]
theorem uqs {H : Hp} {a b : Addr} {o u : HO} (h : H a = some o) (h' : H b = some u) (d : o ≠ u) : a ≠ b := by
 intro e; subst e; rw [h] at h'; exact d (Option.some.inj h')
theorem aqo {H : Hp} {a b : Addr} {o : HO} (h : H a = some o) (h' : H b = none) : a ≠ b := by
 intro e; subst e; rw [h] at h'; cases h'
section
variable (P : Program) (w : World)
def ObjOk (H : Hp) (h : Heap) (a : Addr) : HO -> Prop
 | .lst xs => xs.length ≤ sizeLine ∧ ∃ (its : List Value) (n : Nat),Vals xs its ∧ h.get? a = some { cls := .type "list",data := .seq its.toArray n }
 | .tup xs => xs.length ≤ sizeLine ∧ ∃ its : List Value,Vals xs its ∧ IsTup h a its.toArray
 | .dK kvs => kvs.length ≤ sizeLine ∧ (a == sysModules) = false ∧ ∃ vs,KV kvs vs ∧ h.DictOf (mixKind P w) a vs
 | .dT kvs => kvs.length ≤ sizeLine ∧ (a == sysModules) = false ∧ ∃ xs : List (List Key × Addr × Value),
   Paired (fun (p : List Key × V) (q : List Key × Addr × Value) => p.1 = q.1 ∧ H q.2.1 = some (.tup (p.1.map kV)) ∧ RelV p.2 q.2.2) kvs xs ∧
   ∃ o es ep,h.get? a = some o ∧ o.ExactDict ∧ o.data = .dict es ep ∧ es.toList = xs.map (entryOfKey (tupleKind (mixKind P w))) ∧ (xs.map (·.1)).Nodup
 | .set S n => h.SetOf (intKind P w) a S n
 | .ins C dx fs => H dx = some (.own a) ∧ fs.length ≤ 1000 ∧ dx ≠ a ∧ h.get? a = some (PySem.W.instObj C dx) ∧
   ∃ mA,h.Ns1 dx mA ∧ (∀ f,RelO (fs.lookup f) (mA f)) ∧ PySem.Within mA (fs.map (·.1))
 | .own _ => ∃ o,h.get? a = some o
 | .xd fs => ∃ mA,h.Ns1 a mA ∧ ∀ f,RelO (fs.lookup f) (mA f)
 | .rng lo hi => ∃ t u v,h.get? a = some { cls := .type "range",data := .fields #[.int lo t,.int hi u,.int 1 v] }
 | .frz o u => h.get? a = some o ∧ ObjOk H h a u
 | .tbl ps => h.get? a = some { cls := .none,data := .fields ps }
 | .met f x => h.get? a = some (PySem.W.methodObj (.ref f) (.ref x))
 | .ext φ => φ h ∧ (∃ o,h.get? a = some o) ∧ ∀ h1 h2 : Heap,φ h1 -> (∀ o,h1.get? a = some o -> h2.get? a = some o) -> φ h2
def HOk (H : Hp) (h : Heap) : Prop := ∀ a o,H a = some o -> ObjOk P w H h a o
end
section
variable {P : Program} {w : World} {H H' : Hp} {h h' : Heap} {a : Addr} {o : HO}
theorem ObjOk.lt (x : ObjOk P w H h a o) : a < h.objs.size := by
 cases o with
 | lst xs => obtain ⟨_,_,_,_,e⟩ := x; exact Heap.lt_size e
 | tup xs => obtain ⟨_,_,_,p⟩ := x; exact p.lt
 | dK kvs => obtain ⟨_,_,_,_,o,_,_,e,_⟩ := x; exact Heap.lt_size e
 | dT kvs => obtain ⟨_,_,_,_,o,_,_,e,_⟩ := x; exact Heap.lt_size e
 | set S n => obtain ⟨o,_,_,_,e,_⟩ := x; exact Heap.lt_size e
 | ins C dx fs => obtain ⟨_,_,_,e,_⟩ := x; exact Heap.lt_size e
 | own y => obtain ⟨_,e⟩ := x; exact Heap.lt_size e
 | xd fs => obtain ⟨_,⟨_,_,_,e,_⟩,_⟩ := x; exact Heap.lt_size e
 | rng lo hi => obtain ⟨_,_,_,e⟩ := x; exact Heap.lt_size e
 | frz ob u => obtain ⟨e,_⟩ := x; exact Heap.lt_size e
 | tbl ps => exact Heap.lt_size (show h.get? a = some _ from x)
 | met f y => exact Heap.lt_size (show h.get? a = some _ from x)
 | ext φ => obtain ⟨_,⟨_,e⟩,_⟩ := x; exact Heap.lt_size e
theorem Paired.mapP {α β : Type} {F G : α -> β -> Prop} : ∀ {l₁ : List α} {l₂ : List β},Paired F l₁ l₂ -> (∀ a b,F a b -> G a b) -> Paired G l₁ l₂
 | _,_,.nil,_ => .nil
 | _,_,.cons r t,f => .cons (f _ _ r) (Paired.mapP t f)
theorem ObjOk.stay (x : ObjOk P w H h a o) (k : ∀ b u,(b = a ∨ H b = some (.own a)) -> h.get? b = some u -> h'.get? b = some u)
  (ho : ∀ b,H b = some (.own a) -> H' b = some (.own a)) (ht : ∀ b xs,H b = some (.tup xs) -> H' b = some (.tup xs)) : ObjOk P w H' h' a o := by
 induction o with
 | lst xs => obtain ⟨z,its,n,r,e⟩ := x; exact ⟨z,its,n,r,k _ _ (.inl rfl) e⟩
 | tup xs => obtain ⟨z,its,r,ob,e,c⟩ := x; exact ⟨z,its,r,ob,k _ _ (.inl rfl) e,c⟩
 | dK kvs => obtain ⟨z,y,vs,r,ob,es,ep,e,c⟩ := x; exact ⟨z,y,vs,r,ob,es,ep,k _ _ (.inl rfl) e,c⟩
 | dT kvs =>
  obtain ⟨z,y,xs,r,ob,es,ep,e,c⟩ := x
  exact ⟨z,y,xs,Paired.mapP r fun p q z => ⟨z.1,ht _ _ z.2.1,z.2.2⟩,ob,es,ep,k _ _ (.inl rfl) e,c⟩
 | set S n => obtain ⟨ob,es,ep,t,e,c⟩ := x; exact ⟨ob,es,ep,t,k _ _ (.inl rfl) e,c⟩
 | ins C dx fs =>
  obtain ⟨d,z,ne,e,mA,⟨od,es,ep,e2,c⟩,r⟩ := x
  exact ⟨ho _ d,z,ne,k _ _ (.inl rfl) e,mA,⟨od,es,ep,k _ _ (.inr d) e2,c⟩,r⟩
 | own y => obtain ⟨ob,e⟩ := x; exact ⟨ob,k _ _ (.inl rfl) e⟩
 | xd fs => obtain ⟨mA,⟨od,es,ep,e,c⟩,r⟩ := x; exact ⟨mA,⟨od,es,ep,k _ _ (.inl rfl) e,c⟩,r⟩
 | rng lo hi => obtain ⟨t,u,v,e⟩ := x; exact ⟨t,u,v,k _ _ (.inl rfl) e⟩
 | frz ob u ih => obtain ⟨e,q⟩ := x; exact ⟨k _ _ (.inl rfl) e,ih q⟩
 | tbl ps =>
  have e : h.get? a = some { cls := .none,data := .fields ps } := x
  show h'.get? a = some { cls := .none,data := .fields ps }
  exact k a _ (.inl rfl) e
 | met f y =>
  have e : h.get? a = some (PySem.W.methodObj (.ref f) (.ref y)) := x
  show h'.get? a = some (PySem.W.methodObj (.ref f) (.ref y))
  exact k a _ (.inl rfl) e
 | ext φ => obtain ⟨p,⟨o,e⟩,st⟩ := x; exact ⟨st _ _ p fun o q => k _ _ (.inl rfl) q,⟨o,k _ _ (.inl rfl) e⟩,st⟩
theorem HOk.lt (x : HOk P w H h) (e : H a = some o) : a < h.objs.size := (x a o e).lt
theorem HOk.fresh (x : HOk P w H h) (e : h.objs.size ≤ a) : H a = none := by
 cases q : H a with
 | none => rfl
 | some u => exact absurd (Nat.lt_of_lt_of_le (x.lt q) e) (Nat.lt_irrefl _)
theorem HOk.kept (x : HOk P w H h) (k : ∀ b u,h.get? b = some u -> h'.get? b = some u) : HOk P w H h' := fun a o e =>
 (x a o e).stay (fun b u _ q => k b u q) (fun _ q => q) fun _ _ q => q
theorem HOk.laid (x : HOk P w H h) (k : ∀ b u,h.get? b = some u -> h'.get? b = some u) (hp : h.objs.size ≤ a) (new : ObjOk P w (upd H a o) h' a o) : HOk P w (upd H a o) h' := fun b u e => by
 have hn := x.fresh hp
 by_cases hb : b = a
 ·subst hb; rw [aqm] at e; cases e; exact new
 ·rw [aqt hb] at e
  exact (x b u e).stay (fun c v _ q => k c v q) (fun c q => by rw [aqt (aqo q hn)]; exact q) fun c xs q => by rw [aqt (aqo q hn)]; exact q
end
def Rd (H : Hp) (a : Addr) (u : HO) : Prop := H a = some u ∨ ∃ o,H a = some (.frz o u)
theorem Rd.ok {P : Program} {w : World} {H : Hp} {h : Heap} {a : Addr} {u : HO} (r : Rd H a u) (x : HOk P w H h) : ObjOk P w H h a u := by
 rcases r with r | ⟨o,r⟩
 ·exact x a u r
 ·obtain ⟨_,q⟩ := x a _ r
  exact q
def Mut : Option HO -> Prop
 | some (.lst _) => True
 | some (.dK _) => True
 | some (.dT _) => True
 | some (.set _ _) => True
 | some (.ins _ _ _) => True
 | some (.ext _) => True
 | _ => False
section
variable {P : Program} {w : World} {H : Hp} {h h' : Heap} {x e : Addr} {o' : HO}
theorem HOk.write (ok : HOk P w H h) (mu : Mut (H x)) (he : e = x ∨ H e = some (.own x)) (k : ∀ b u,b ≠ e -> h.get? b = some u -> h'.get? b = some u) (heo : ∃ u,h'.get? e = some u)
  (new : ObjOk P w (upd H x o') h' x o') : HOk P w (upd H x o') h' := fun b u q => by
 have nown : ∀ c y,H c = some (.own y) -> c ≠ x := fun c y r z => by subst z; rw [r] at mu; exact mu
 have ntup : ∀ c xs,H c = some (.tup xs) -> c ≠ x := fun c xs r z => by subst z; rw [r] at mu; exact mu
 by_cases hb : b = x
 ·subst hb; rw [aqm] at q; cases q; exact new
 ·rw [aqt hb] at q
  by_cases hbe : b = e
  ·have q' : H b = some (.own x) := by
    rcases he with z | z
    ·exact absurd (hbe.trans z) hb
    ·rw [hbe]; exact z
   rw [q] at q'; cases q'
   obtain ⟨v,hv⟩ := heo
   exact ⟨v,by rw [hbe]; exact hv⟩
  ·refine (ok b u q).stay (fun c v hc r => k c v ?_ r) (fun c r => by rw [aqt (nown c b r)]; exact r) fun c xs r => by rw [aqt (ntup c xs r)]; exact r
   rcases hc with rfl | hc
   ·exact hbe
   ·rintro rfl
    rcases he with z | z
    ·exact nown c b hc z
    ·rw [hc] at z; cases z; exact hb rfl
end
structure Un (fs ex : List Addr) (H H' : Hp) (h h' : Heap) : Prop where
 keep : ∀ b o,h.get? b = some o -> H b = none -> b ∉ fs -> b ∉ ex -> h'.get? b = some o
 slot : ∀ b o,h.get? b = some o -> H b = none -> b ∈ fs -> b ∉ ex -> ∃ sl,h'.get? b = some { o with slots := sl }
 free : ∀ b o,h.get? b = some o -> H b = none -> b ∉ ex -> H' b = none
 there : ∀ b o,h.get? b = some o -> b ∉ ex -> ∃ o',h'.get? b = some o'
 tups : ∀ b xs,H b = some (.tup xs) -> H' b = some (.tup xs)
 frzs : ∀ b o u,H b = some (.frz o u) -> H' b = some (.frz o u)
 tbls : ∀ b ps,H b = some (.tbl ps) -> ∃ more,H' b = some (.tbl (ps ++ more))
section
variable {fs fs' ex ex' : List Addr} {H H1 H2 : Hp} {h h1 h2 h' : Heap} {a x e : Addr} {o : HO}
theorem Un.any (u : Un fs ex H H1 h h1) {b : Addr} {ob : Obj} (q : h.get? b = some ob) (n : H b = none) (hx : b ∉ ex) : ∃ sl,h1.get? b = some { ob with slots := sl } := by
 by_cases hb : b ∈ fs
 ·exact u.slot b ob q n hb hx
 ·exact ⟨ob.slots,u.keep b ob q n hb hx⟩
theorem Un.kept (k : ∀ b u,h.get? b = some u -> h'.get? b = some u) : Un fs ex H H h h' :=
 ⟨fun b ob q _ _ _ => k b ob q,fun b ob q _ _ _ => ⟨ob.slots,k b ob q⟩,fun _ _ _ n _ => n,fun b ob q _ => ⟨ob,k b ob q⟩,fun _ _ q => q,fun _ _ _ q => q,fun _ ps q => ⟨#[],by rw [q]; simp⟩⟩
theorem Un.refl : Un fs ex H H h h := Un.kept fun _ _ q => q
theorem Un.laid (k : ∀ b u,h.get? b = some u -> h'.get? b = some u) (hp : h.objs.size ≤ a) (hn : H a = none) : Un fs ex H (upd H a o) h h' where
 keep := fun b u q _ _ _ => k b u q
 slot := fun b u q _ _ _ => ⟨u.slots,k b u q⟩
 free := fun b u q n _ => by rw [aqt (Nat.ne_of_lt (Nat.lt_of_lt_of_le (Heap.lt_size q) hp))]; exact n
 there := fun b u q _ => ⟨u,k b u q⟩
 tups := fun b xs q => by rw [aqt (aqo q hn)]; exact q
 frzs := fun b u xs q => by rw [aqt (aqo q hn)]; exact q
 tbls := fun b ps q => ⟨#[],by rw [aqt (aqo q hn),q]; simp⟩
theorem Un.write (mu : Mut (H x)) (he : e = x ∨ H e = some (.own x)) (k : ∀ b u,b ≠ e -> h.get? b = some u -> h'.get? b = some u) (heo : ∃ u,h'.get? e = some u) : Un fs ex H (upd H x o) h h' := by
 have hx : ∀ b,H b = none -> b ≠ x := fun b n z => by subst z; rw [n] at mu; exact mu
 have hb : ∀ b,H b = none -> b ≠ e := fun b n z => by
  subst z
  rcases he with r | r
  ·exact hx b n r
  ·rw [n] at r; cases r
 have hm : ∀ b u,H b = some u -> ¬ Mut (some u) -> b ≠ x := fun b u q nm z => by subst z; rw [q] at mu; exact nm mu
 refine ⟨fun b u q n _ _ => k b u (hb b n) q,fun b u q n _ _ => ⟨u.slots,k b u (hb b n) q⟩,fun b u q n _ => by rw [aqt (hx b n)]; exact n,fun b u q _ => ?_,
  fun b xs q => by rw [aqt (hm b _ q fun z => z)]; exact q,fun b u xs q => by rw [aqt (hm b _ q fun z => z)]; exact q,fun b ps q => ⟨#[],by rw [aqt (hm b _ q fun z => z),q]; simp⟩⟩
 by_cases hbe : b = e
 ·subst hbe; exact heo
 ·exact ⟨u,k b u hbe q⟩
end
def trk (h : Heap) (H : Hp) : List Addr := (List.range h.objs.size).filter fun a => (H a).isSome
def hidT (h : Heap) (H : Hp) : Heap := PySem.W.hideAll h (trk h H)
theorem pqx (h : Heap) (H : Hp) : (hidT h H).objs.size = h.objs.size := PySem.W.hideAll_size _ _
theorem pqW {h : Heap} {H : Hp} {b : Addr} {o : Obj} (e : h.get? b = some o) (n : H b = none) : (hidT h H).get? b = some o :=
 PySem.W.hideAll_get _ e fun hm => by
  have q : (H b).isSome = true := (List.mem_filter.mp hm).2
  rw [n] at q; simp at q
theorem sqP {h : Heap} {H : Hp} {b : Addr} {o : Obj} (e : (hidT h H).get? b = some o) : h.get? b = some o ∧ H b = none := by
 have e' : h.get? b = some o := PySem.W.of_hideAll (trk h H) e
 refine ⟨e',?_⟩
 cases q : H b with
 | none => rfl
 | some x =>
  have hm : b ∈ trk h H := List.mem_filter.mpr ⟨List.mem_range.mpr (Heap.lt_size e'),by simp [q]⟩
  have z : (hidT h H).get? b = none := PySem.W.hideAll_none (trk h H) hm
  rw [z] at e; cases e
def allNews (g h : Heap) (L : Addr) : List (Addr × Obj) := (List.range h.objs.size).filterMap fun a => if a = L ∨ (g.get? a).isSome = true then none else (h.get? a).map fun o => (a,o)
def rest (g h : Heap) (L d : Addr) : List (Addr × Obj) := (allNews g h L).filter fun p => decide (p.1 ≠ d)
structure Mod (K : PySem.W.Frag) (mg : Str -> Option Value) (base : Heap) : Prop where
 kin : K.In base
 glob : base.Ns mainGlobals mg
 blt : ∃ mb,base.Ns builtinsNs mb ∧ ∀ x : Str,x ≠ "__name__" -> mb x = bootBuiltins x
 nolimit : base.NoLimit
structure Cx where
 prog : Program
 w : World
 K : PySem.W.Frag
 mg : Str -> Option Value
 base : Heap
 A : Around
 N : List Str
 s₀ : Shared
 H₀ : Hp
 env : Env
 outer : List Env
 stack : List Env
 ex : List Addr
 fn : Str -> Bool
 calm : Bool
 pn : List (Addr × Obj)
 xe : Value -> Shared -> Prop
def frs (l : List Env) : List Addr := l.filterMap (·.frame)
abbrev Cx.fs (X : Cx) : List Addr := frs X.outer
def Vis (sc : Scope) (x : Str) : Prop := sc.names.lookup x = some .local ∨ sc.names.lookup x = some .cell ∨ sc.names.lookup x = some .free
def Loc (sc : Scope) (x : Str) : Prop := sc.names.lookup x = some .local ∨ sc.names.lookup x = some .cell
def Look (env : Env) (h : Heap) (m : Str -> Option Value) (x : Str) (u : Value) : Prop :=
 (env.kindOf x = some .local ∧ m x = some u) ∨ ((env.kindOf x = some .cell ∨ env.kindOf x = some .free) ∧ ∃ c,env.cells.lookup x = some c ∧ h.IsCell c (some u))
structure Cx.Ok (X : Cx) : Prop where
 mod : Mod X.K X.mg X.base
 kind : X.env.scope.kind = .function
 glob : X.env.globals = mainGlobals
 blt : X.env.builtins = builtinsNs
 above : X.s₀.heap.objs.size ≤ X.env.locals
 inj : ∀ x y c,X.env.cells.lookup x = some c -> X.env.cells.lookup y = some c -> x = y
 has : ∀ x,(X.env.kindOf x = some .cell ∨ X.env.kindOf x = some .free) -> ∃ c,X.env.cells.lookup x = some c
 cab : ∀ x c,X.fn x = true -> X.env.cells.lookup x = some c -> X.s₀.heap.objs.size ≤ c
 hd : X.calm = true -> X.A.handled = none
 frames : X.A.frames = some X.stack
 stk : X.stack = X.outer ∨ (X.stack = X.env :: X.outer ∧ X.env.frame = some X.env.locals)
 exf : ∀ b ∈ X.ex,b ≠ X.env.locals ∧ ∀ x c,X.env.cells.lookup x = some c -> c ≠ b
 bs : ∀ b o,X.base.get? b = some o -> X.s₀.heap.get? b = some o ∧ X.H₀ b = none
 bsz : X.base.objs.size ≤ X.s₀.heap.objs.size
 noex : ∀ b o,X.base.get? b = some o -> b ∉ X.ex
 exfs : ∀ b ∈ X.ex,b ∉ X.fs
 funs : X.s₀.heap.FunFrames X.base X.outer
 frf : ∀ b ∈ X.fs,X.H₀ b = none
structure Inv (X : Cx) (pins : List (Addr × Obj)) (σ : List (Option V)) (H : Hp) (s : Shared) : Prop where
 ok : X.Ok
 os : s.os = X.s₀.os
 bare : AllBare s.gens
 base : Un X.fs X.ex X.H₀ H X.s₀.heap s.heap
 loc : ∃ m,s.heap.Ns X.env.locals m ∧ ∀ (i : Nat) (x : Str) (v : V),X.N[i]? = some x -> σ[i]? = some (some v) -> Vis X.env.scope x -> ∃ u,RelV v u ∧ Look X.env s.heap m x u
 cell : ∀ x c,X.env.cells.lookup x = some c -> ∃ v,s.heap.IsCell c v
 free : H X.env.locals = none
 freeC : ∀ x c,X.env.cells.lookup x = some c -> H c = none
 pin : ∀ p ∈ X.pn ++ pins,s.heap.get? p.1 = some p.2 ∧ H p.1 = none ∧ p.1 ≠ X.env.locals ∧ p.1 ∉ X.fs ∧ ∀ v,p.2.data ≠ .cell v
 hok : HOk X.prog X.w H s.heap
 len : σ.length = X.N.length
section
variable {X : Cx} {pins : List (Addr × Obj)} {σ : List (Option V)} {H H' : Hp} {s : Shared} {h' : Heap}
theorem Cx.Ok.nofr (ok : X.Ok) {b : Addr} {o : Obj} (e : X.base.get? b = some o) : b ∉ X.fs := fun hb => by
 have := (ok.funs.mem hb).1
 rw [e] at this; cases this
theorem Inv.bs (I : Inv X pins σ H s) : ∀ b o,X.base.get? b = some o -> s.heap.get? b = some o ∧ H b = none := fun b o e =>
 ⟨I.base.keep b o (I.ok.bs b o e).1 (I.ok.bs b o e).2 (I.ok.nofr e) (I.ok.noex b o e),I.base.free b o (I.ok.bs b o e).1 (I.ok.bs b o e).2 (I.ok.noex b o e)⟩
theorem Inv.bk (I : Inv X pins σ H s) : ∀ b o,X.base.get? b = some o -> s.heap.get? b = some o := fun b o e => (I.bs b o e).1
theorem Inv.mod (I : Inv X pins σ H s) : Mod X.K X.mg X.base := I.ok.mod
theorem Inv.kIn (I : Inv X pins σ H s) : X.K.In s.heap := I.ok.mod.kin.keeps I.bk
theorem Inv.lt (I : Inv X pins σ H s) : X.env.locals < s.heap.objs.size := let ⟨_,hn,_⟩ := I.loc; hn.lt
theorem Inv.sz (I : Inv X pins σ H s) : X.s₀.heap.objs.size ≤ s.heap.objs.size := Nat.le_trans I.ok.above (Nat.le_of_lt I.lt)
theorem Inv.nofs (I : Inv X pins σ H s) {a : Addr} (h : s.heap.objs.size ≤ a) : a ∉ X.fs := fun hb => by
 obtain ⟨_,o,ho,_⟩ := I.ok.funs.mem hb
 exact absurd (Nat.lt_of_lt_of_le (Heap.lt_size ho) (Nat.le_trans I.sz h)) (Nat.lt_irrefl _)
theorem Inv.cne (I : Inv X pins σ H s) : ∀ x c,X.env.cells.lookup x = some c -> c ≠ X.env.locals := fun x c e z => by
 obtain ⟨v,o,ho,hd⟩ := I.cell x c e
 obtain ⟨m,⟨o',es,ep,ho',hd',_⟩,_⟩ := I.loc
 rw [z,ho'] at ho; cases ho; rw [hd'] at hd; cases hd
theorem Inv.funs (I : Inv X pins σ H s) : s.heap.FunFrames X.base X.outer := by
 have all : ∀ (l : List Env),(∀ b ∈ frs l,b ∈ X.fs) -> X.s₀.heap.FunFrames X.base l -> s.heap.FunFrames X.base l := by
  intro l
  induction l with
  | nil => intro _ _; trivial
  | cons env r ih =>
   intro hs hl
   obtain ⟨hk,⟨L,o,hf,hn,ho,hd⟩,hr⟩ := hl
   have hL : L ∈ X.fs := hs L (by unfold frs; rw [List.filterMap_cons,hf]; exact List.mem_cons_self)
   obtain ⟨sl,e⟩ := I.base.slot L o ho (I.ok.frf L hL) hL fun z => I.ok.exfs L z hL
   exact ⟨hk,⟨L,_,hf,hn,e,hd⟩,ih (fun b hb => hs b (by unfold frs; rw [List.filterMap_cons,hf]; exact List.mem_cons_of_mem _ hb)) hr⟩
 exact all X.outer (fun _ hb => hb) I.ok.funs
theorem Inv.stack (I : Inv X pins σ H s) : s.heap.FunFrames X.base X.stack := by
 rcases I.ok.stk with e | ⟨e,hf⟩
 ·rw [e]; exact I.funs
 ·rw [e]
  obtain ⟨m,hn,_⟩ := I.loc
  refine .cons (by rw [I.ok.kind]; decide) hf hn ?_ I.funs
  exact Heap.get?_none_of_le (Nat.le_trans I.ok.bsz I.ok.above)
theorem Inv.stkSub (I : Inv X pins σ H s) : ∀ b ∈ frs X.stack,b ∈ X.env.locals :: X.fs := fun b hb => by
 rcases I.ok.stk with e | ⟨e,hf⟩
 ·rw [e] at hb; exact List.mem_cons_of_mem _ hb
 ·rw [e] at hb
  unfold frs at hb
  rw [List.filterMap_cons,hf] at hb
  exact hb
theorem Inv.stkFree (I : Inv X pins σ H s) : ∀ b ∈ frs X.stack,H b = none := fun b hb => by
 rcases List.mem_cons.mp (I.stkSub b hb) with e | hb
 ·rw [e]; exact I.free
 ·obtain ⟨_,o,ho,_⟩ := I.ok.funs.mem hb
  exact I.base.free b o ho (I.ok.frf b hb) fun z => I.ok.exfs b z hb
theorem Inv.step {g' : Array GenState} {t' : Nat} {d' : Drawn} {ch : List Addr} (I : Inv X pins σ H s)
  (hch : ∀ b ∈ ch,(b ∈ X.ex ∨ X.s₀.heap.objs.size ≤ b) ∧ b ≠ X.env.locals ∧ (∀ x c,X.env.cells.lookup x = some c -> c ≠ b) ∧ ∀ p ∈ X.pn ++ pins,p.1 ≠ b)
  (keep : ∀ b o,b ≠ X.env.locals -> b ∉ X.fs -> b ∉ ch -> s.heap.get? b = some o -> H b = none -> h'.get? b = some o)
  (slot : ∀ b o,b ≠ X.env.locals -> b ∈ X.fs -> b ∉ ch -> s.heap.get? b = some o -> H b = none -> ∃ sl,h'.get? b = some { o with slots := sl }) (free : ∀ b o,b ∉ ch -> s.heap.get? b = some o -> H b = none -> H' b = none)
  (there : ∀ b o,b ∉ ch -> s.heap.get? b = some o -> ∃ o',h'.get? b = some o')
  (tups : ∀ b xs,H b = some (.tup xs) -> H' b = some (.tup xs)) (frzs : ∀ b o u,H b = some (.frz o u) -> H' b = some (.frz o u)) (tbls : ∀ b ps,H b = some (.tbl ps) -> ∃ more,H' b = some (.tbl (ps ++ more)))
  (ns : ∀ m,s.heap.Ns X.env.locals m -> h'.Ns X.env.locals m) (hok : HOk X.prog X.w H' h') (hg : AllBare g') :
  Inv X pins σ H' { s with heap := h',gens := g',drawn := d',toks := t' } := by
 have neL : ∀ b o,X.s₀.heap.get? b = some o -> b ≠ X.env.locals := fun b o e => Nat.ne_of_lt (Nat.lt_of_lt_of_le (Heap.lt_size e) I.ok.above)
 have neC : ∀ b o,X.s₀.heap.get? b = some o -> b ∉ X.ex -> b ∉ ch := fun b o e hx hb => by
  rcases (hch b hb).1 with z | z
  ·exact hx z
  ·exact absurd (Nat.lt_of_lt_of_le (Heap.lt_size e) z) (Nat.lt_irrefl _)
 have cellK : ∀ x c,X.env.cells.lookup x = some c -> ∀ v,s.heap.IsCell c v -> h'.IsCell c v := fun x c e v ⟨o,ho,hd⟩ => by
  have nch : c ∉ ch := fun z => (hch c z).2.2.1 x c e rfl
  by_cases hc : c ∈ X.fs
  ·obtain ⟨sl,q⟩ := slot c o (I.cne x c e) hc nch ho (I.freeC x c e)
   exact ⟨_,q,hd⟩
  ·exact ⟨o,keep c o (I.cne x c e) hc nch ho (I.freeC x c e),hd⟩
 refine ⟨I.ok,I.os,hg,⟨fun b o e n hb hx => ?_,fun b o e n hb hx => ?_,fun b o e n hx => ?_,fun b o e hx => ?_,fun b xs e => tups b xs (I.base.tups b xs e),fun b o xs e => frzs b o xs (I.base.frzs b o xs e),fun b ps e => ?_⟩,?_,fun x c e => ?_,?_,fun x c e => ?_,fun p hp => ?_,hok,I.len⟩
 ·exact keep b o (neL b o e) hb (neC b o e hx) (I.base.keep b o e n hb hx) (I.base.free b o e n hx)
 ·obtain ⟨sl,e1⟩ := I.base.slot b o e n hb hx
  obtain ⟨sl',e2⟩ := slot b _ (neL b o e) hb (neC b o e hx) e1 (I.base.free b o e n hx)
  exact ⟨sl',e2⟩
 ·obtain ⟨o',e1⟩ := I.base.there b o e hx
  exact free b o' (neC b o e hx) e1 (I.base.free b o e n hx)
 ·obtain ⟨o',e1⟩ := I.base.there b o e hx
  exact there b o' (neC b o e hx) e1
 ·obtain ⟨m1,e1⟩ := I.base.tbls b ps e
  obtain ⟨m2,e2⟩ := tbls b _ e1
  exact ⟨m1 ++ m2,by rw [e2,Array.append_assoc]⟩
 ·obtain ⟨m,hn,hl⟩ := I.loc
  refine ⟨m,ns m hn,fun i x v e1 e2 e3 => ?_⟩
  obtain ⟨u,r,l⟩ := hl i x v e1 e2 e3
  refine ⟨u,r,?_⟩
  rcases l with l | ⟨k,c,e,z⟩
  ·exact .inl l
  ·exact .inr ⟨k,c,e,cellK x c e _ z⟩
 ·obtain ⟨v,z⟩ := I.cell x c e
  exact ⟨v,cellK x c e v z⟩
 ·obtain ⟨m,⟨o,_,_,ho,_⟩,_⟩ := I.loc
  exact free _ o (fun z => (hch _ z).2.1 rfl) ho I.free
 ·obtain ⟨v,o,ho,hd⟩ := I.cell x c e
  exact free c o (fun z => (hch c z).2.2.1 x c e rfl) ho (I.freeC x c e)
 ·obtain ⟨e,n,ne,nf,d⟩ := I.pin p hp
  have nch : p.1 ∉ ch := fun z => (hch p.1 z).2.2.2 p hp rfl
  exact ⟨keep p.1 p.2 ne nf nch e n,free p.1 p.2 nch e n,ne,nf,d⟩
theorem Inv.un {t' : Nat} (I : Inv X pins σ H s) (u : Un X.fs [] H H' s.heap h') (hok : HOk X.prog X.w H' h') : Inv X pins σ H' { s with heap := h',toks := t' } := by
 obtain ⟨m,⟨o,es,ep,ho,r⟩,_⟩ := id I.loc
 obtain ⟨sl,hL⟩ := u.any ho I.free (by simp)
 exact I.step (g' := s.gens) (d' := s.drawn) (ch := []) (fun _ z => nomatch z) (fun b o _ hb _ e n => u.keep b o e n hb (by simp)) (fun b o _ hb _ e n => u.slot b o e n hb (by simp)) (fun b o _ e n => u.free b o e n (by simp)) (fun b o _ e => u.there b o e (by simp)) u.tups u.frzs u.tbls (fun m' hm => by
  obtain ⟨o',es',ep',ho',r'⟩ := hm
  rw [ho] at ho'; cases ho'
  exact ⟨_,es',ep',hL,r'⟩) hok I.bare
theorem Inv.call {g' : Array GenState} {t' : Nat} {d' : Drawn} {ch : List Addr} (I : Inv X pins σ H s) (u : Un (frs X.stack) ch H H' s.heap h') (hok : HOk X.prog X.w H' h') (hg : AllBare g')
  (hch : ∀ b ∈ ch,(b ∈ X.ex ∨ X.s₀.heap.objs.size ≤ b) ∧ b ≠ X.env.locals ∧ (∀ x c,X.env.cells.lookup x = some c -> c ≠ b) ∧ ∀ p ∈ X.pn ++ pins,p.1 ≠ b) :
  Inv X pins σ H' { s with heap := h',gens := g',drawn := d',toks := t' } := by
 obtain ⟨m,⟨o,es,ep,ho,r⟩,_⟩ := id I.loc
 obtain ⟨sl,hL⟩ := u.any ho I.free fun z => (hch _ z).2.1 rfl
 exact I.step (ch := ch) hch (fun b o hL hb hc e n => u.keep b o e n (fun z => (List.mem_cons.mp (I.stkSub b z)).elim hL hb) hc) (fun b o _ _ hc e n => u.any e n hc) (fun b o hc e n => u.free b o e n hc) (fun b o hc e => u.there b o e hc) u.tups u.frzs u.tbls (fun m' hm => by
  obtain ⟨o',es',ep',ho',r'⟩ := hm
  rw [ho] at ho'; cases ho'
  exact ⟨_,es',ep',hL,r'⟩) hok hg
theorem Inv.turned {t' : Nat} {it : Addr} (I : Inv X pins σ H s) (k : ∀ b o,b ≠ it -> s.heap.get? b = some o -> h'.get? b = some o) (hn : H it = none) (hL : it ≠ X.env.locals)
  (h1 : it ∈ X.ex ∨ X.s₀.heap.objs.size ≤ it) (h2 : ∀ x c,X.env.cells.lookup x = some c -> c ≠ it) (h3 : ∀ p ∈ X.pn ++ pins,p.1 ≠ it) : Inv X pins σ H { s with heap := h',toks := t' } := by
 have nit : ∀ b u,H b = some u -> b ≠ it := fun b u e z => by rw [z,hn] at e; cases e
 refine I.step (g' := s.gens) (d' := s.drawn) (ch := [it]) (fun b hb => ?_) (fun b o _ _ hc e _ => k b o (fun z => hc (by simp [z])) e) (fun b o _ _ hc e _ => ⟨o.slots,k b o (fun z => hc (by simp [z])) e⟩) (fun _ _ _ _ n => n)
  (fun b o hc e => ⟨o,k b o (fun z => hc (by simp [z])) e⟩) (fun _ _ e => e) (fun _ _ _ e => e) (fun b ps e => ⟨#[],by rw [e]; simp⟩) (fun m hm => ?_) (fun b u e => ?_) I.bare
 ·have e : b = it := by simpa using hb
  subst e
  exact ⟨h1,hL,h2,h3⟩
 ·obtain ⟨o,es,ep,ho,r⟩ := hm
  exact ⟨o,es,ep,k _ o (Ne.symm hL) ho,r⟩
 ·refine (I.hok b u e).stay (fun c v hc q => k c v ?_ q) (fun _ q => q) fun _ _ q => q
  rcases hc with z | z
  ·rw [z]; exact nit b u e
  ·exact nit c _ z
theorem Inv.tok (I : Inv X pins σ H s) (t : Nat) : Inv X pins σ H { s with toks := t } := I.un (h' := s.heap) (t' := t) Un.refl I.hok
theorem Inv.kept {t' : Nat} (I : Inv X pins σ H s) (k : ∀ b u,s.heap.get? b = some u -> h'.get? b = some u) : Inv X pins σ H { s with heap := h',toks := t' } := I.un (Un.kept k) (I.hok.kept k)
theorem Inv.laid {a : Addr} {o : HO} {t' : Nat} (I : Inv X pins σ H s) (k : ∀ b u,s.heap.get? b = some u -> h'.get? b = some u) (hp : s.heap.objs.size ≤ a) (new : ObjOk X.prog X.w (upd H a o) h' a o) :
  Inv X pins σ (upd H a o) { s with heap := h',toks := t' } := I.un (Un.laid k hp (I.hok.fresh hp)) (I.hok.laid k hp new)
theorem Inv.write {x e : Addr} {o : HO} {t' : Nat} (I : Inv X pins σ H s) (mu : Mut (H x)) (he : e = x ∨ H e = some (.own x)) (k : ∀ b u,b ≠ e -> s.heap.get? b = some u -> h'.get? b = some u) (heo : ∃ u,h'.get? e = some u)
  (new : ObjOk X.prog X.w (upd H x o) h' x o) : Inv X pins σ (upd H x o) { s with heap := h',toks := t' } := I.un (Un.write mu he k heo) (I.hok.write mu he k heo new)
theorem Inv.pins_of {pins' : List (Addr × Obj)} (I : Inv X pins σ H s) (h : ∀ p ∈ pins',s.heap.get? p.1 = some p.2 ∧ H p.1 = none ∧ p.1 ≠ X.env.locals ∧ p.1 ∉ X.fs ∧ ∀ v,p.2.data ≠ .cell v) : Inv X pins' σ H s :=
 ⟨I.ok,I.os,I.bare,I.base,I.loc,I.cell,I.free,I.freeC,fun p hp => (List.mem_append.mp hp).elim (fun z => I.pin p (List.mem_append_left _ z)) (h p),I.hok,I.len⟩
theorem nqr {N : List Str} (hN : N.Nodup) {i j : Nat} {x : Str} (a : N[i]? = some x) (b : N[j]? = some x) : i = j := by
 obtain ⟨h1,e1⟩ := List.getElem?_eq_some_iff.mp a
 obtain ⟨h2,e2⟩ := List.getElem?_eq_some_iff.mp b
 exact (List.getElem_inj hN).mp (e1.trans e2.symm)
theorem iq4 {M : Model} {A : Around} {E : Value -> Shared -> Prop} {i : Nat} {x : Str} {v : V} {u : Value} {Q : Unit -> Shared -> Prop} (I : Inv X pins σ H s) (hN : X.N.Nodup) (hi : X.N[i]? = some x) (hx : Loc X.env.scope x) (r : RelV v u)
  (h : ∀ s',Inv X pins (σ.set i (some v)) H s' -> (∃ a,Heap.SameBut a s.heap s'.heap ∧ (a = X.env.locals ∨ X.env.cells.lookup x = some a)) -> Q () s') (hf : X.fn x = true ∨ X.env.scope.names.lookup x = some .local := by first | exact .inl rfl | exact .inr rfl | assumption) : wpAny M A (storeName X.env x u) Q E s := by
 obtain ⟨m,hn,hl⟩ := id I.loc
 have hcls : (X.env.scope.kind == .class || (X.env.scope.kind == .module && X.env.locals != X.env.globals)) = false := by rw [I.ok.kind]; rfl
 have hiσ : i < σ.length := by rw [I.len]; exact (List.getElem?_eq_some_iff.mp hi).1
 have cne := I.cne
 have tracked : ∀ {a : Addr} {h' : Heap},(∃ o,s.heap.get? a = some o ∧ H a = none) -> Heap.SameBut a s.heap h' -> HOk X.prog X.w H h' := fun {a h'} ha hs b ob e => by
  obtain ⟨_,_,hfree⟩ := ha
  refine (I.hok b ob e).stay (fun c w' hc q => (hs.2 c ?_).trans q) (fun _ q => q) fun _ _ q => q
  rintro rfl
  rcases hc with rfl | hc
  ·rw [hfree] at e; cases e
  ·rw [hfree] at hc; cases hc
 rcases hx with hk | hk
 ·refine wpAny_storeName_local hk hn (fun h' hn' hs => ?_) hcls
  obtain ⟨oL,_,_,hoL,_⟩ := id hn
  refine h _ ⟨I.ok,I.os,I.bare,⟨fun b o e n hb hx => ?_,fun b o e n hb hx => ?_,I.base.free,fun b o e hx => ?_,I.base.tups,I.base.frzs,I.base.tbls⟩,⟨_,hn',fun j y v' e1 e2 e3 => ?_⟩,fun y c e => ?_,I.free,I.freeC,fun p hp => ?_,tracked ⟨oL,hoL,I.free⟩ hs,by simpa using I.len⟩ ⟨_,hs,.inl rfl⟩
  ·exact (hs.2 b (Nat.ne_of_lt (Nat.lt_of_lt_of_le (Heap.lt_size e) I.ok.above))).trans (I.base.keep b o e n hb hx)
  ·obtain ⟨sl,e1⟩ := I.base.slot b o e n hb hx
   exact ⟨sl,(hs.2 b (Nat.ne_of_lt (Nat.lt_of_lt_of_le (Heap.lt_size e) I.ok.above))).trans e1⟩
  ·obtain ⟨o',e1⟩ := I.base.there b o e hx
   exact ⟨o',(hs.2 b (Nat.ne_of_lt (Nat.lt_of_lt_of_le (Heap.lt_size e) I.ok.above))).trans e1⟩
  ·by_cases hj : j = i
   ·subst hj
    rw [hi] at e1; cases e1
    rw [List.getElem?_set_self hiσ] at e2
    cases e2
    exact ⟨u,r,.inl ⟨hk,by simp⟩⟩
   ·rw [List.getElem?_set_ne (Ne.symm hj)] at e2
    obtain ⟨u',r',q⟩ := hl j y v' e1 e2 e3
    refine ⟨u',r',?_⟩
    rcases q with ⟨k,e⟩ | ⟨k,c,e,z⟩
    ·refine .inl ⟨k,?_⟩
     have : y ≠ x := fun e => hj (nqr hN e1 (e ▸ hi))
     simp [this,e]
    ·exact .inr ⟨k,c,e,z.sameBut hs (cne y c e)⟩
  ·obtain ⟨w',z⟩ := I.cell y c e
   exact ⟨w',z.sameBut hs (cne y c e)⟩
  ·obtain ⟨e,n,ne,nf,d⟩ := I.pin p hp
   exact ⟨(hs.2 p.1 ne).trans e,n,ne,nf,d⟩
 ·have hfn : X.fn x = true := by
   rcases hf with z | z
   ·exact z
   ·rw [z] at hk; cases hk
  obtain ⟨c,hc⟩ := I.ok.has x (.inl hk)
  obtain ⟨w',z⟩ := I.cell x c hc
  refine wpAny_storeName_cell I.ok.kind hk hc z (fun h' hc' hs => ?_)
  obtain ⟨oc,hoc,hocd⟩ := id z
  refine h { s with heap := h' } ⟨I.ok,I.os,I.bare,⟨fun b o e n hb hx => ?_,fun b o e n hb hx => ?_,I.base.free,fun b o e hx => ?_,I.base.tups,I.base.frzs,I.base.tbls⟩,⟨m,hn.sameBut hs (Ne.symm (cne x c hc)),fun j y v' e1 e2 e3 => ?_⟩,fun y c' e => ?_,I.free,I.freeC,fun p hp => ?_,tracked ⟨oc,hoc,I.freeC x c hc⟩ hs,by simpa using I.len⟩ ⟨c,hs,.inr hc⟩
  ·exact (hs.2 b (Nat.ne_of_lt (Nat.lt_of_lt_of_le (Heap.lt_size e) (I.ok.cab x c hfn hc)))).trans (I.base.keep b o e n hb hx)
  ·obtain ⟨sl,e1⟩ := I.base.slot b o e n hb hx
   exact ⟨sl,(hs.2 b (Nat.ne_of_lt (Nat.lt_of_lt_of_le (Heap.lt_size e) (I.ok.cab x c hfn hc)))).trans e1⟩
  ·obtain ⟨o',e1⟩ := I.base.there b o e hx
   exact ⟨o',(hs.2 b (Nat.ne_of_lt (Nat.lt_of_lt_of_le (Heap.lt_size e) (I.ok.cab x c hfn hc)))).trans e1⟩
  ·by_cases hj : j = i
   ·subst hj
    rw [hi] at e1; cases e1
    rw [List.getElem?_set_self hiσ] at e2
    cases e2
    exact ⟨u,r,.inr ⟨.inl hk,c,hc,hc'⟩⟩
   ·rw [List.getElem?_set_ne (Ne.symm hj)] at e2
    obtain ⟨u',r',q⟩ := hl j y v' e1 e2 e3
    refine ⟨u',r',?_⟩
    rcases q with q | ⟨k,c',e,z'⟩
    ·exact .inl q
    ·refine .inr ⟨k,c',e,z'.sameBut hs ?_⟩
     rintro rfl
     exact hj (nqr hN e1 (I.ok.inj _ _ _ e hc ▸ hi))
  ·by_cases hcc : c' = c
   ·subst hcc; exact ⟨_,hc'⟩
   ·obtain ⟨w2,z2⟩ := I.cell y c' e
    exact ⟨w2,z2.sameBut hs hcc⟩
  ·obtain ⟨e,n,ne,nf,d⟩ := I.pin p hp
   refine ⟨(hs.2 p.1 ?_).trans e,n,ne,nf,d⟩
   intro q
   rw [q,hoc] at e
   have q' : oc = p.2 := Option.some.inj e
   exact d w' (by rw [<- q']; exact hocd)
theorem nqn {M : Model} {A : Around} {E : Value -> Shared -> Prop} {i : Nat} {x : Str} {v : V} {u : Value} {Q : Unit -> Shared -> Prop} (I : Inv X pins σ H s) (hN : X.N.Nodup) (hi : X.N[i]? = some x) (hx : Loc X.env.scope x) (r : RelV v u)
  (h : ∀ s',Inv X pins (σ.set i (some v)) H s' -> Q () s') (hf : X.fn x = true ∨ X.env.scope.names.lookup x = some .local := by first | exact .inl rfl | exact .inr rfl | assumption) : wpAny M A (storeName X.env x u) Q E s :=
 iq4 I hN hi hx r (fun s' I' _ => h s' I') hf
end
abbrev XK := Value -> Option Addr -> Hp -> Prop
abbrev St := List (Option V)
abbrev VK := V -> Hp -> Prop
abbrev TE := St -> Hp -> VK -> Prop
abbrev TT := St -> Hp -> (Bool -> Hp -> Prop) -> Prop
abbrev TA := St -> Hp -> (List V -> Hp -> Prop) -> Prop
structure Ends where
 nx : St -> Hp -> Prop
 rt : VK
 bk : St -> Hp -> Prop := fun _ _ => False
 ct : St -> Hp -> Prop := fun _ _ => False
abbrev TS := Ends -> St -> Hp -> Prop
def EP (X : Cx) (pins : List (Addr × Obj)) (σ : St) (Q : VK) (u : Value) (s' : Shared) : Prop := ∃ v H',Inv X pins σ H' s' ∧ RelV v u ∧ Q v H'
def TP (X : Cx) (pins : List (Addr × Obj)) (σ : St) (Q : Bool -> Hp -> Prop) (b : Bool) (s' : Shared) : Prop := ∃ H',Inv X pins σ H' s' ∧ Q b H'
def AP (X : Cx) (pins : List (Addr × Obj)) (σ : St) (Q : List V -> Hp -> Prop) (us : List Value) (s' : Shared) : Prop := ∃ vs H',Inv X pins σ H' s' ∧ Vals vs us ∧ Q vs H'
def SP (X : Cx) (pins : List (Addr × Obj)) (D : Ends) (f : Flow) (s' : Shared) : Prop :=
 match f with
 | .next => ∃ σ' H',Inv X pins σ' H' s' ∧ D.nx σ' H'
 | .brk => ∃ σ' H',Inv X pins σ' H' s' ∧ D.bk σ' H'
 | .cont => ∃ σ' H',Inv X pins σ' H' s' ∧ D.ct σ' H'
 | .ret u => ∃ v σ' H',Inv X pins σ' H' s' ∧ RelV v u ∧ D.rt v H'
def PE (X : Cx) (e : Expr) (t : TE) : Prop :=
 ∀ (pins : List (Addr × Obj)) (s : Shared) (σ : St) (H : Hp) (Q : VK),Inv X pins σ H s -> t σ H Q -> wpAny (model X.prog X.w) X.A (eval e X.env) (EP X pins σ Q) X.xe s
def PT (X : Cx) (e : Expr) (t : TT) : Prop :=
 ∀ (pins : List (Addr × Obj)) (s : Shared) (σ : St) (H : Hp) (Q : Bool -> Hp -> Prop),Inv X pins σ H s -> t σ H Q -> wpAny (model X.prog X.w) X.A (isTrue e X.env (eval e X.env)) (TP X pins σ Q) X.xe s
def PW (X : Cx) (e : Expr) (t : TT) : Prop :=
 ∀ (whole : Sem Value) (pins : List (Addr × Obj)) (s : Shared) (σ : St) (H : Hp) (Q : Bool -> Hp -> Prop),Inv X pins σ H s -> t σ H Q -> wpAny (model X.prog X.w) X.A (isTrue e X.env whole) (TP X pins σ Q) X.xe s
theorem PW.pt {X : Cx} {e : Expr} {t : TT} (h : PW X e t) : PT X e t := h _
def PA (X : Cx) (es : List Expr) (t : TA) : Prop :=
 ∀ (pos : Pos) (pins : List (Addr × Obj)) (s : Shared) (σ : St) (H : Hp) (Q : List V -> Hp -> Prop),Inv X pins σ H s -> t σ H Q -> wpAny (model X.prog X.w) X.A (spliced (backTo pos (starEach es X.env))) (AP X pins σ Q) X.xe s
def PS (X : Cx) (st : Stmt) (t : TS) : Prop :=
 ∀ (pins : List (Addr × Obj)) (s : Shared) (σ : St) (H : Hp) (D : Ends),Inv X pins σ H s -> t D σ H -> wpAny (model X.prog X.w) X.A (exec st X.env) (SP X pins D) X.xe s
def PSs (X : Cx) (st : List Stmt) (t : TS) : Prop :=
 ∀ (pins : List (Addr × Obj)) (s : Shared) (σ : St) (H : Hp) (D : Ends),Inv X pins σ H s -> t D σ H -> wpAny (model X.prog X.w) X.A (execs st X.env) (SP X pins D) X.xe s
theorem thn {α : Type} {t : Sem α} {Q Q' : α -> Shared -> Prop} {M : Model} {A : Around} {E : Value -> Shared -> Prop} {s : Shared} (h : wpAny M A t Q E s) (hQ : ∀ a s,Q a s -> Q' a s) : wpAny M A t Q' E s := wpAny_mono h hQ fun _ _ x => x
section
variable {X : Cx}
theorem bin {a b : Expr} {ta tb : TE} (ha : PE X a ta) (hb : PE X b tb) {pins : List (Addr × Obj)} {s : Shared} {σ : St} {H : Hp} {R : V -> V -> Hp -> Prop} (I : Inv X pins σ H s) (h : ta σ H fun x H1 => tb σ H1 fun y H2 => R x y H2)
  {α : Type} {Q : α -> Shared -> Prop} {f : Value -> Value -> Sem α}
  (hf : ∀ v u s2 x y H2,Inv X pins σ H2 s2 -> RelV x v -> RelV y u -> R x y H2 -> wpAny (model X.prog X.w) X.A (f v u) Q X.xe s2) :
  wpAny (model X.prog X.w) X.A (eval a X.env) (fun v s₁ => wpAny (model X.prog X.w) X.A (eval b X.env) (fun u s₂ => wpAny (model X.prog X.w) X.A (f v u) Q X.xe s₂) X.xe s₁) X.xe s := by
 refine thn (ha pins s σ H _ I h) fun v s1 W' => ?_
 obtain ⟨x,H1,I1,r1,q1⟩ := W'
 refine thn (hb pins s1 σ H1 _ I1 q1) fun u s2 W' => ?_
 obtain ⟨y,H2,I2,r2,q2⟩ := W'
 exact hf v u s2 x y H2 I2 r1 r2 q2
def tVar (i : Nat) : TE := fun σ H Q => ∃ v,σ[i]? = some (some v) ∧ Q v H
def tC (v : V) : TE := fun _ H Q => Q v H
theorem uqe {i : Nat} {x : Str} {pos : Pos} (hN : X.N[i]? = some x) (hv : Vis X.env.scope x) (hd : (x == ("__debug__" : Str)) = false := by decide) (hcd : (x == ("__classdict__" : Str)) = false := by decide) : PE X (.Name x pos) (tVar i) := by
 intro pins s σ H Q I h
 obtain ⟨v,e,h⟩ := h
 obtain ⟨m,hn,hl⟩ := I.loc
 obtain ⟨u,r,l⟩ := hl i x v hN e hv
 have fin : EP X pins σ Q u s := ⟨v,H,I,r,h⟩
 rcases l with ⟨hk,hm⟩ | ⟨hk,c,hc,hcell⟩
 ·exact wpAny_Name (wpAny_loadName_local I.ok.kind hk hn hm fin) hd
 ·rcases hk with hk | hk
  ·exact wpAny_Name (wpAny_loadName_cell I.ok.kind hk hc hcell fin) hd
  ·exact wpAny_Name (wpAny_loadName_free I.ok.kind hk hc hcell fin hcd) hd
theorem aqd {i j pos} : PE X (.Constant (.int i) j pos) (tC (.int i)) := fun _ _ _ H _ I h => wpAny_Constant_int ⟨.int i,H,I.tok _,⟨_,rfl⟩,h⟩
theorem dqD {b j pos} : PE X (.Constant (.bool b) j pos) (tC (.bl b)) := fun _ _ _ H _ I h => Constant_bool ⟨.bl b,H,I,rfl,h⟩
theorem bqY {j pos} : PE X (.Constant .none j pos) (tC .non) := fun _ _ _ H _ I h => Constant_none ⟨.non,H,I,rfl,h⟩
theorem aqx {x j pos} : PE X (.Constant (.str x) j pos) (tC (.str x)) := fun _ _ _ H _ I h => Calls.Constant_str ⟨.str x,H,I.tok _,⟨_,rfl⟩,h⟩
def Gl (X : Cx) (x : Str) : Prop := X.env.kindOf x = some .globalImplicit
theorem mqR {E : Value -> Shared -> Prop} {pins : List (Addr × Obj)} {s : Shared} {σ : St} {H : Hp} {x : Str} {u : Value} {pos : Pos} {Q : Value -> Shared -> Prop} (I : Inv X pins σ H s) (hg : Gl X x) (hm : X.mg x = some u) (h : Q u s)
  (hd : (x == ("__debug__" : Str)) = false := by decide) : wpAny (model X.prog X.w) X.A (eval (.Name x pos) X.env) Q E s :=
 Calls.Name_function_global I.ok.kind hg (Calls.loadGlobal_global (by rw [I.ok.glob]; exact I.mod.glob.keeps I.bk) hm h) hd
theorem gqN {E : Value -> Shared -> Prop} {pins : List (Addr × Obj)} {s : Shared} {σ : St} {H : Hp} {x : Str} {u : Value} {pos : Pos} {Q : Value -> Shared -> Prop} (I : Inv X pins σ H s) (hg : Gl X x) (hm : X.mg x = none) (hv : bootBuiltins x = some u) (h : Q u s)
  (hn : x ≠ "__name__" := by decide) (hd : (x == ("__debug__" : Str)) = false := by decide) : wpAny (model X.prog X.w) X.A (eval (.Name x pos) X.env) Q E s := by
 obtain ⟨mb,h1,h2⟩ := I.mod.blt
 exact Calls.Name_function_global I.ok.kind hg (Calls.loadGlobal_builtin (by rw [I.ok.glob]; exact I.mod.glob.keeps I.bk) hm (by rw [I.ok.blt]; exact h1.keeps I.bk) ((h2 x hn).trans hv) h) hd
theorem aqA {x : Str} {v : V} {u : Value} {pos : Pos} (hg : Gl X x) (hm : X.mg x = some u) (r : RelV v u) (hd : (x == ("__debug__" : Str)) = false := by decide) : PE X (.Name x pos) (tC v) :=
 fun _ _ _ H _ I h => mqR I hg hm ⟨v,H,I,r,h⟩ hd
theorem hqH {x : Str} {v : V} {u : Value} {pos : Pos} (hg : Gl X x) (hm : X.mg x = none) (hv : bootBuiltins x = some u) (r : RelV v u) (hn : x ≠ "__name__" := by decide) (hd : (x == ("__debug__" : Str)) = false := by decide) : PE X (.Name x pos) (tC v) :=
 fun _ _ _ H _ I h => gqN I hg hm hv ⟨v,H,I,r,h⟩ hn hd
variable {a b : Expr} {ta tb : TE} {pos : Pos}
def PC (X : Cx) (op : CmpOp) (a b : Expr) (t : TE) : Prop :=
 ∀ (pins : List (Addr × Obj)) (s : Shared) (σ : St) (H : Hp) (Q : VK),Inv X pins σ H s -> t σ H Q ->
  wpAny (model X.prog X.w) X.A (eval a X.env) (fun v s₁ => wpAny (model X.prog X.w) X.A (eval b X.env) (fun u s₂ => wpAny (model X.prog X.w) X.A (compareOp op v u) (EP X pins σ Q) X.xe s₂) X.xe s₁) X.xe s
def tB (t : TE) : TT := fun σ H Q => t σ H fun x H1 => ∃ c,x = .bl c ∧ Q c H1
theorem uqy {op : CmpOp} {t : TE} (h : PC X op a b t) (h1 : behindInMarks op b = false := by first | exact nobehind _ (by decide) (by decide) | rfl) : PT X (.Compare a [op] [b] pos) (tB t) := by
 intro pins s σ H Q I hw
 refine wpAny_isTrue_Compare1 (thn (h pins s σ H _ I hw) fun v s1 h1 => thn h1 fun u s2 h2 => thn h2 fun c s3 W' => ?_) h1
 obtain ⟨x,H1,I1,r1,q1⟩ := W'
 obtain ⟨d,rfl,q⟩ := q1
 cases r1
 exact wpAny_truthy_bool ⟨H1,I1,q⟩
theorem aqR {e : Expr} {t : TE} (h : PE X e t) (he : ∀ whole,isTrue e X.env whole = (do let v <- whole; standAt e.pos; holding [v] (truthy v)) := by intro _; rfl) : PT X e (tB t) := by
 intro pins s σ H Q I hw
 refine isTrue_plain (thn (h pins s σ H _ I hw) fun v s1 W' => ?_) (he _)
 obtain ⟨x,H1,I1,r1,q1⟩ := W'
 obtain ⟨d,rfl,q⟩ := q1
 cases r1
 exact wpAny_truthy_bool ⟨H1,I1,q⟩
variable {tA tB' : TT} {rest : List Expr}
def tAnd (t u : TT) : TT := fun σ H Q => t σ H fun c H1 => if c = true then u σ H1 Q else Q false H1
def tOr (t u : TT) : TT := fun σ H Q => t σ H fun c H1 => if c = true then Q true H1 else u σ H1 Q
def tNot (t : TT) : TT := fun σ H Q => t σ H fun c H1 => Q (!c) H1
theorem dq6 (ha : PT X a tA) : PW X (.BoolOp .And [a] pos) tA := by
 intro wh pins s σ H Q I h
 refine isTrue_and (thn (ha pins s σ H Q I h) fun c s1 e => ?_)
 cases c with
 | true => exact isTrue_and_nil e
 | false => exact e
theorem dqS (ha : PT X a tA) : PW X (.BoolOp .Or [a] pos) tA := by
 intro wh pins s σ H Q I h
 refine isTrue_or (thn (ha pins s σ H Q I h) fun c s1 e => ?_)
 cases c with
 | false => exact isTrue_or_nil e
 | true => exact e
theorem fqN (ha : PT X a tA) (hb : PW X (.BoolOp .And (b :: rest) pos) tB') : PW X (.BoolOp .And (a :: b :: rest) pos) (tAnd tA tB') := by
 intro wh pins s σ H Q I h
 refine isTrue_and (thn (ha pins s σ H _ I h) fun c s1 W' => ?_)
 obtain ⟨H1,I1,q1⟩ := W'
 cases c with
 | true => exact hb wh pins s1 σ H1 Q I1 q1
 | false => exact ⟨H1,I1,q1⟩
theorem fqz (ha : PT X a tA) (hb : PW X (.BoolOp .Or (b :: rest) pos) tB') : PW X (.BoolOp .Or (a :: b :: rest) pos) (tOr tA tB') := by
 intro wh pins s σ H Q I h
 refine isTrue_or (thn (ha pins s σ H _ I h) fun c s1 W' => ?_)
 obtain ⟨H1,I1,q1⟩ := W'
 cases c with
 | true => exact ⟨H1,I1,q1⟩
 | false => exact hb wh pins s1 σ H1 Q I1 q1
theorem cqU (ha : PT X a tA) : PT X (.UnaryOp .Not a pos) (tNot tA) := by
 intro pins s σ H Q I h
 exact isTrue_not (ha pins s σ H (fun c H1 => Q (!c) H1) I h)
def tAndV (ta tb : TE) : TE := fun σ H Q => ta σ H fun x H1 => ∃ c,x = .bl c ∧ if c = true then tb σ H1 Q else Q (.bl false) H1
def tOrV (ta tb : TE) : TE := fun σ H Q => ta σ H fun x H1 => ∃ c,x = .bl c ∧ if c = true then Q (.bl true) H1 else tb σ H1 Q
def tNotV (ta : TE) : TE := fun σ H Q => ta σ H fun x H1 => ∃ c,x = .bl c ∧ Q (.bl (!c)) H1
theorem cqu {op} {t : TE} (h : PE X a t) : PE X (.BoolOp op [a] pos) t := fun pins s σ H Q I hw => BoolOp_one (h pins s σ H Q I hw)
theorem dqA (ha : PE X a ta) (hb : PE X (.BoolOp .And (b :: rest) pos) tb) : PE X (.BoolOp .And (a :: b :: rest) pos) (tAndV ta tb) := by
 intro pins s σ H Q I h
 refine BoolOp_and (thn (ha pins s σ H _ I h) fun v s1 W' => ?_)
 obtain ⟨x,H1,I1,r1,q1⟩ := W'
 obtain ⟨c,rfl,q1⟩ := q1
 cases r1
 refine wpAny_truthy_bool ?_
 cases c with
 | true => exact hb pins s1 σ H1 Q I1 q1
 | false => exact ⟨.bl false,H1,I1,rfl,q1⟩
theorem oqz (ha : PE X a ta) (hb : PE X (.BoolOp .Or (b :: rest) pos) tb) : PE X (.BoolOp .Or (a :: b :: rest) pos) (tOrV ta tb) := by
 intro pins s σ H Q I h
 refine BoolOp_or (thn (ha pins s σ H _ I h) fun v s1 W' => ?_)
 obtain ⟨x,H1,I1,r1,q1⟩ := W'
 obtain ⟨c,rfl,q1⟩ := q1
 cases r1
 refine wpAny_truthy_bool ?_
 cases c with
 | false => exact hb pins s1 σ H1 Q I1 q1
 | true => exact ⟨.bl true,H1,I1,rfl,q1⟩
theorem pqN (ha : PE X a ta) : PE X (.UnaryOp .Not a pos) (tNotV ta) := by
 intro pins s σ H Q I h
 refine UnaryOp_ (thn (ha pins s σ H _ I h) fun v s1 W' => ?_)
 obtain ⟨x,H1,I1,r1,q1⟩ := W'
 obtain ⟨c,rfl,q1⟩ := q1
 cases r1
 exact not_of (wpAny_truthy_bool ⟨.bl (!c),H1,I1,rfl,q1⟩)
def tIf (t : TT) (ta tb : TE) : TE := fun σ H Q => t σ H fun c H1 => if c = true then ta σ H1 Q else tb σ H1 Q
theorem eqF {c : Expr} (hc : PT X c tA) (ha : PE X a ta) (hb : PE X b tb) : PE X (.IfExp c a b pos) (tIf tA ta tb) := by
 intro pins s σ H Q I h
 refine wpAny_IfExp (thn (hc pins s σ H _ I h) fun d s1 W' => ?_)
 obtain ⟨H1,I1,q1⟩ := W'
 cases d with
 | true => exact ha pins s1 σ H1 Q I1 q1
 | false => exact hb pins s1 σ H1 Q I1 q1
end
def SqL (K : PySem.W.Frag) (H : Hp) (a : Addr) (xs : List V) : Prop :=
 Rd H a (.lst xs) ∨
  ∃ (o : Obj) (its : Array Value) (n : Nat),K.lookup a = some o ∧ o.cls = .type "list" ∧ o.dict = none ∧ o.data = .seq its n ∧ its.size ≤ sizeLine ∧ Vals xs its.toList
def SqT (K : PySem.W.Frag) (H : Hp) (a : Addr) (xs : List V) : Prop :=
 Rd H a (.tup xs) ∨
  ∃ (o : Obj) (its : Array Value) (n : Nat),K.lookup a = some o ∧ o.cls = .type "tuple" ∧ o.data = .seq its n ∧ its.size ≤ sizeLine ∧ Vals xs its.toList
def absV : Value -> Option V
 | .none => some .non
 | .bool b => some (.bl b)
 | .int i _ => some (.int i)
 | .str x _ => some (.str x)
 | .bytes b _ => some (.byt b)
 | .float b _ => some (.flt b)
 | .ref a => some (.ref a)
 | .type n => some (.ty n)
 | _ => none
theorem RelV.abs {x : V} {u : Value} (r : RelV x u) : absV u = some x := by
 cases x with
 | non => cases r; rfl
 | bl _ => cases r; rfl
 | int _ => obtain ⟨t,rfl⟩ := r; rfl
 | str _ => obtain ⟨t,rfl⟩ := r; rfl
 | byt _ => obtain ⟨t,rfl⟩ := r; rfl
 | flt _ => obtain ⟨t,rfl⟩ := r; rfl
 | ref _ => cases r; rfl
 | ty _ => cases r; rfl
theorem RelV.inj {x y : V} {u : Value} (r : RelV x u) (q : RelV y u) : x = y := Option.some.inj (r.abs.symm.trans q.abs)
theorem Vals.inj : ∀ {xs ys : List V} {us : List Value},Vals xs us -> Vals ys us -> xs = ys
 | _,_,_,.nil,.nil => rfl
 | _,_,_,.cons r t,.cons r' t' => by rw [r.inj r',Vals.inj t t']
section
variable {X : Cx} {pins : List (Addr × Obj)} {σ : St} {H : Hp} {s : Shared} {a : Addr} {xs ys : List V}
theorem SqL.of {K : PySem.W.Frag} (h : H a = some (.lst xs)) : SqL K H a xs := .inl (.inl h)
theorem SqT.of {K : PySem.W.Frag} (h : H a = some (.tup xs)) : SqT K H a xs := .inl (.inl h)
theorem Inv.list (I : Inv X pins σ H s) (h : SqL X.K H a xs) : ∃ its : List Value,Vals xs its ∧ PlainL s.heap a its.toArray ∧ xs.length ≤ sizeLine := by
 rcases h with h | ⟨o,its,n,hk,hc,hd,hs,hz,r⟩
 ·obtain ⟨z,its,n,r,e⟩ := h.ok I.hok
  exact ⟨its,r,⟨_,n,e,rfl,rfl,rfl⟩,z⟩
 ·refine ⟨its.toList,r,⟨o,n,I.kIn a o hk,hc,hd,by simpa using hs⟩,?_⟩
  have e := r.length
  simp only [Array.length_toList] at e
  omega
theorem Inv.tuple (I : Inv X pins σ H s) (h : SqT X.K H a xs) : ∃ its : List Value,Vals xs its ∧ IsTup s.heap a its.toArray ∧ xs.length ≤ sizeLine := by
 rcases h with h | ⟨o,its,n,hk,hc,hs,hz,r⟩
 ·obtain ⟨z,its,r,p⟩ := h.ok I.hok
  exact ⟨its,r,p,z⟩
 ·refine ⟨its.toList,r,⟨o,I.kIn a o hk,hc,n,by simpa using hs⟩,?_⟩
  have e := r.length
  simp only [Array.length_toList] at e
  omega
theorem Inv.list_inj (I : Inv X pins σ H s) (h : SqL X.K H a xs) (h' : SqL X.K H a ys) : xs = ys := by
 obtain ⟨its,r,⟨o,n,e,_,_,d⟩,_⟩ := I.list h
 obtain ⟨its',r',⟨o',n',e',_,_,d'⟩,_⟩ := I.list h'
 rw [e] at e'; cases e'
 rw [d] at d'
 injection d' with d1 _
 have : its = its' := by simpa using congrArg Array.toList d1
 subst this
 exact r.inj r'
theorem Inv.tuple_inj (I : Inv X pins σ H s) (h : SqT X.K H a xs) (h' : SqT X.K H a ys) : xs = ys := by
 obtain ⟨its,r,⟨o,e,_,n,d⟩,_⟩ := I.tuple h
 obtain ⟨its',r',⟨o',e',_,n',d'⟩,_⟩ := I.tuple h'
 rw [e] at e'; cases e'
 rw [d] at d'
 injection d' with d1 _
 have : its = its' := by simpa using congrArg Array.toList d1
 subst this
 exact r.inj r'
end
abbrev Cx.wish (X : Cx) (E : Value -> Shared -> Prop) : Cx := { X with xe := E }
abbrev Cx.nox (X : Cx) : Cx := X.wish fun _ _ => False
theorem Cx.Ok.wish {X : Cx} (ok : X.Ok) (E : Value -> Shared -> Prop) : (X.wish E).Ok :=
 ⟨ok.mod,ok.kind,ok.glob,ok.blt,ok.above,ok.inj,ok.has,ok.cab,ok.hd,ok.frames,ok.stk,ok.exf,ok.bs,ok.bsz,ok.noex,ok.exfs,ok.funs,ok.frf⟩
theorem Cx.Ok.unwish {X : Cx} {E : Value -> Shared -> Prop} (ok : (X.wish E).Ok) : X.Ok :=
 ⟨ok.mod,ok.kind,ok.glob,ok.blt,ok.above,ok.inj,ok.has,ok.cab,ok.hd,ok.frames,ok.stk,ok.exf,ok.bs,ok.bsz,ok.noex,ok.exfs,ok.funs,ok.frf⟩
section
variable {X : Cx} {pins : List (Addr × Obj)} {σ : St} {H : Hp} {s : Shared} {E : Value -> Shared -> Prop}
theorem Inv.wish (I : Inv X pins σ H s) (E : Value -> Shared -> Prop) : Inv (X.wish E) pins σ H s := ⟨I.ok.wish E,I.os,I.bare,I.base,I.loc,I.cell,I.free,I.freeC,I.pin,I.hok,I.len⟩
theorem Inv.unwish (I : Inv (X.wish E) pins σ H s) : Inv X pins σ H s := ⟨I.ok.unwish,I.os,I.bare,I.base,I.loc,I.cell,I.free,I.freeC,I.pin,I.hok,I.len⟩
theorem SP.unwish {D : Ends} {f : Flow} {s' : Shared} (h : SP (X.wish E) pins D f s') : SP X pins D f s' := by
 cases f with
 | next => obtain ⟨σ',H',I,q⟩ := h; exact ⟨σ',H',I.unwish,q⟩
 | brk => obtain ⟨σ',H',I,q⟩ := h; exact ⟨σ',H',I.unwish,q⟩
 | cont => obtain ⟨σ',H',I,q⟩ := h; exact ⟨σ',H',I.unwish,q⟩
 | ret u => obtain ⟨v,σ',H',I,r,q⟩ := h; exact ⟨v,σ',H',I.unwish,r,q⟩
theorem PSs.nox {st : List Stmt} {t : TS} (h : PSs X.nox st t) : PSs X st t := fun pins s σ H D I hw =>
 wpAny_mono (h pins s σ H D (I.wish _) hw) (fun _ _ q => q.unwish) fun _ _ z => False.elim z
end
section
variable {X : Cx} {st : Stmt} {rest : List Stmt} {t u : TS} {e : Expr} {te : TE} {pos : Pos}
def tNext : TS := fun D σ H => D.nx σ H
def tSeq (t u : TS) : TS := fun D σ H => t { D with nx := u D } σ H
theorem aqs : PSs X [] tNext := fun _ _ σ H _ I h => wpAny_execs_nil ⟨σ,H,I,h⟩
theorem aqf (h1 : PS X st t) (h2 : PSs X rest u) : PSs X (st :: rest) (tSeq t u) := by
 intro pins s σ H D I h
 refine wpAny_execs_cons (thn (h1 pins s σ H { D with nx := u D } I h) fun f s1 q => ?_)
 cases f with
 | next =>
  obtain ⟨σ',H',I',q⟩ := q
  exact h2 pins s1 σ' H' D I' q
 | ret v => exact q
 | brk => exact q
 | cont => exact q
theorem aqg (h1 : PS X st t) : PSs X [st] t := by
 intro pins s σ H D I h
 refine wpAny_execs_cons (thn (h1 pins s σ H D I h) fun f s1 q => ?_)
 cases f with
 | next => exact wpAny_execs_nil q
 | ret v => exact q
 | brk => exact q
 | cont => exact q
def tBreak : TS := fun D σ H => D.bk σ H
theorem Inv.quiet {pins : List (Addr × Obj)} {σ : St} {H : Hp} {s : Shared} (I : Inv X pins σ H s) : interactive X.env = false := by simp [interactive,I.ok.kind]
def tDrop (te : TE) : TS := fun D σ H => te σ H fun _ H1 => D.nx σ H1
theorem eqM (he : PE X e te) (hs : swapsWith e none pos.line X.env = pure false := by rfl) : PS X (.Expr e pos) (tDrop te) := by
 intro pins s σ H D I h
 exact wpAny_Expr_any (thn (he pins s σ H _ I h) fun v s1 ⟨x,H1,I1,r1,q1⟩ => ⟨σ,H1,I1,q1⟩) I.quiet hs
def tRet (te : TE) : TS := fun D σ H => te σ H D.rt
theorem aqk (he : PE X e te) : PS X (.Return (some e) pos) (tRet te) := by
 intro pins s σ H D I h
 exact wpAny_Return_some (thn (he pins s σ H _ I h) fun v s1 ⟨x,H1,I1,r1,q1⟩ => ⟨x,σ,H1,I1,r1,q1⟩)
def tIfS (c : TT) (t u : TS) : TS := fun D σ H => c σ H fun b H1 => if b = true then t D σ H1 else u D σ H1
theorem aqB {c : Expr} {a b : List Stmt} {tc : TT} (hc : PT X c tc) (ha : PSs X a t) (hb : PSs X b u) : PS X (.If c a b pos) (tIfS tc t u) := by
 intro pins s σ H D I h
 refine wpAny_If (thn (hc pins s σ H _ I h) fun d s1 W' => ?_)
 obtain ⟨H1,I1,q1⟩ := W'
 cases d with
 | true => exact ha pins s1 σ H1 D I1 q1
 | false => exact hb pins s1 σ H1 D I1 q1
def tNever : TS := fun _ _ _ => False
end
abbrev TG := V -> St -> Hp -> (St -> Hp -> Prop) -> Prop
abbrev TGs := List V -> St -> Hp -> (St -> Hp -> Prop) -> Prop
def PG (X : Cx) (target : Expr) (t : TG) : Prop :=
 ∀ (pins : List (Addr × Obj)) (s : Shared) (σ : St) (H : Hp) (v : V) (u : Value) (Q : St -> Hp -> Prop),Inv X pins σ H s -> RelV v u -> t v σ H Q ->
  wpAny (model X.prog X.w) X.A (assign target X.env u) (fun _ s' => ∃ σ' H',Inv X pins σ' H' s' ∧ Q σ' H') X.xe s
def PGs (X : Cx) (ts : List Expr) (t : TGs) : Prop :=
 ∀ (pins : List (Addr × Obj)) (s : Shared) (σ : St) (H : Hp) (vs : List V) (us : List Value) (Q : St -> Hp -> Prop),Inv X pins σ H s -> Vals vs us -> t vs σ H Q ->
  wpAny (model X.prog X.w) X.A (assignInOrder ((assignEach ts X.env).map (·.2)) us) (fun _ s' => ∃ σ' H',Inv X pins σ' H' s' ∧ Q σ' H') X.xe s
abbrev TSet := V -> V -> V -> Hp -> (Hp -> Prop) -> Prop
section
variable {X : Cx} {pos : Pos}
def gName (i : Nat) : TG := fun v σ H Q => Q (σ.set i (some v)) H
theorem aqC {i : Nat} {x : Str} (hN : X.N.Nodup) (hi : X.N[i]? = some x) (hx : Loc X.env.scope x) (hf : X.fn x = true ∨ X.env.scope.names.lookup x = some .local := by first | exact .inl rfl | exact .inr rfl | assumption) : PG X (.Name x pos) (gName i) := by
 intro pins s σ H v u Q I r h
 exact wpAny_assign_Name (nqn I hN hi hx r (fun s' I' => ⟨_,H,I',h⟩) hf)
def gNil : TGs := fun vs σ H Q => vs = [] ∧ Q σ H
def gCons (t : TG) (u : TGs) : TGs := fun vs σ H Q => ∃ v r,vs = v :: r ∧ t v σ H fun σ' H' => u r σ' H' Q
theorem eqE : PGs X [] gNil := by
 intro pins s σ H vs us Q I r h
 obtain ⟨e,h⟩ := h
 subst e
 cases r
 exact assignInOrder_nil ⟨σ,H,I,h⟩
theorem aqK {e : Expr} {es : List Expr} {t : TG} {u : TGs} (h1 : PG X e t) (h2 : PGs X es u)
  (hs : (assignEach (e :: es) X.env).map (·.2) = assign e X.env :: (assignEach es X.env).map (·.2) := by rfl) : PGs X (e :: es) (gCons t u) := by
 intro pins s σ H vs us Q I r h
 obtain ⟨v,vr,e1,h⟩ := h
 subst e1
 cases r with
 | cons r rr =>
  rw [hs]
  refine assignInOrder_cons (thn (h1 pins s σ H _ _ _ I r h) fun _ s1 W' => ?_)
  obtain ⟨σ1,H1,I1,q1⟩ := W'
  exact h2 pins s1 σ1 H1 _ _ Q I1 rr q1
def gTup (K : PySem.W.Frag) (n : Nat) (t : TGs) : TG := fun v σ H Q => ∃ a xs,v = .ref a ∧ SqT K H a xs ∧ xs.length = n ∧ t xs σ H Q
theorem rqc {es : List Expr} {k : Nat} {t : TGs} {n : Nat} (hc : X.calm = true) (h : PGs X es t)
  (hn : (assignEach es X.env).length = n := by rfl) (hst : (assignEach es X.env).findIdx? (·.1) = none := by rfl) : PG X (.Tuple es k pos) (gTup X.K n t) := by
 intro pins s σ H v u Q I r hw
 obtain ⟨a,xs,e1,hq,hl,hw⟩ := hw
 subst e1
 cases r
 obtain ⟨its,rv,ht,hz⟩ := I.tuple hq
 refine assign_Tuple_tuple (I.ok.hd hc) ht (by simp [hn,<- hl,rv.length]) hst fun h' hx => ?_
 have I1 : Inv X pins σ H { s with heap := h' } := I.kept (t' := s.toks) fun b o e => hx b o (Nat.ne_of_lt (Heap.lt_size e)) e
 exact h pins _ σ H xs _ Q I1 (by simpa using rv) hw
def gSub (to ti : TE) (t : TSet) : TG := fun v σ H Q => to σ H fun o H1 => ti σ H1 fun i H2 => t o i v H2 fun H3 => Q σ H3
def tAsg (te : TE) (g : TG) : TS := fun D σ H => te σ H fun x H1 => g x σ H1 D.nx
theorem tqj {tg e : Expr} {te : TE} {g : TG} (he : PE X e te) (hg : PG X tg g) (hs : swapsWithSole [tg] e pos.line X.env = pure false := by rfl) (hw : swappedStores [tg] e X.env = pure none := by rfl)
  (h1 : (assignEach [tg] X.env).map (·.2) = [assign tg X.env] := by rfl) : PS X (.Assign [tg] e pos) (tAsg te g) := by
 intro pins s σ H D I h
 refine wpAny_Assign_stores (thn (he pins s σ H _ I h) fun v s1 W' => ?_) hs hw
 obtain ⟨x,H1,I1,r1,q1⟩ := W'
 rw [h1]
 exact thn (hg pins s1 σ H1 x v _ I1 r1 q1) fun _ s2 q => q
theorem aqw {i : Nat} {x : Str} {e : Expr} {te : TE} {pos' : Pos} (hN : X.N.Nodup) (hi : X.N[i]? = some x) (hx : Loc X.env.scope x) (he : PE X e te) (hs : swapsWith e (some (.Name x pos')) pos.line X.env = pure false := by rfl) (hf : X.fn x = true ∨ X.env.scope.names.lookup x = some .local := by first | exact .inl rfl | exact .inr rfl | assumption) :
  PS X (.Assign [.Name x pos'] e pos) (tAsg te (gName i)) := by
 intro pins s σ H D I h
 refine wpAny_Assign_Name (thn (he pins s σ H _ I h) fun v s1 W' => ?_) hs
 obtain ⟨y,H1,I1,r1,q1⟩ := W'
 exact nqn I1 hN hi hx r1 (fun s2 I2 => ⟨_,H1,I2,q1⟩) hf
def tPar (i j : Nat) (ta : TA) : TS := fun D σ H => ta σ H fun vs H1 => ∃ v w,vs = [v,w] ∧ D.nx ((σ.set i (some v)).set j (some w)) H1
end
section
variable {X : Cx} {pos : Pos}
def tWhile (c : TT) (tb : TS) : TS := fun D σ H => ∃ W : Nat -> St -> Hp -> Prop,(∃ m,W m σ H) ∧ ∀ m σ H,W m σ H ->
 c σ H fun b H1 => if b = true then ∃ N : St -> Hp -> Prop,(∀ σ' H',N σ' H' -> ∃ m',m' < m ∧ W m' σ' H') ∧ tb { D with nx := N,ct := N,bk := D.nx } σ H1 else D.nx σ H1
theorem pq8 {c : Expr} {body : List Stmt} {tc : TT} {tb : TS} (hp : PassesOwn (model X.prog X.w) X.A X.env X.xe) (hc : PT X c tc) (hb : PSs X body tb) : PS X (.While c body [] pos) (tWhile tc tb) := by
 intro pins s σ H D I h
 obtain ⟨W,⟨m0,w0⟩,turn⟩ := h
 refine wpAny_While (codeAny_whileLoop (fun n s' => ∃ σ' H',Inv X pins σ' H' s' ∧ W n σ' H') ?_ m0 ⟨σ,H,I,w0⟩)
 rintro n s1 ⟨σ1,H1,I1,w1⟩
 refine wpAny_passesOwn hp (thn (hc pins s1 σ1 H1 _ I1 (turn n σ1 H1 w1)) fun b s2 W' => ?_)
 obtain ⟨H2,I2,q2⟩ := W'
 cases b with
 | true =>
  obtain ⟨N,hN,q2⟩ := q2
  rw [if_pos rfl]
  refine wpAny_passesOwn hp (thn (hb pins s2 σ1 H2 _ I2 q2) fun f s3 q3 => ?_)
  cases f with
  | next =>
   obtain ⟨σ3,H3,I3,n3⟩ := q3
   obtain ⟨m',hm,w3⟩ := hN σ3 H3 n3
   exact ⟨m',hm,σ3,H3,I3,w3⟩
  | cont =>
   obtain ⟨σ3,H3,I3,n3⟩ := q3
   obtain ⟨m',hm,w3⟩ := hN σ3 H3 n3
   exact ⟨m',hm,σ3,H3,I3,w3⟩
  | brk => exact q3
  | ret v => exact q3
 | false =>
  rw [if_neg Bool.false_ne_true]
  exact wpAny_execs_nil ⟨σ1,H2,I2,q2⟩
end
structure It where
 go : Nat -> Hp -> Prop
 yld : Nat -> Hp -> V -> Hp -> Prop
 stop : Nat -> Hp -> Prop
def FpOk (X : Cx) (pins : List (Addr × Obj)) (H : Hp) (b : Addr) : Prop :=
 H b = none ∧ b ≠ X.env.locals ∧ b ∉ X.fs ∧ (b ∈ X.ex ∨ X.s₀.heap.objs.size ≤ b) ∧ (∀ x c,X.env.cells.lookup x = some c -> c ≠ b) ∧ ∀ p ∈ X.pn ++ pins,p.1 ≠ b
theorem Inv.fpOk {X : Cx} {pins : List (Addr × Obj)} {σ : St} {H H' : Hp} {s : Shared} {b : Addr} (I : Inv X pins σ H s) (hb : s.heap.objs.size ≤ b) (hn : H' b = none) : FpOk X pins H' b := by
 refine ⟨hn,Nat.ne_of_gt (Nat.lt_of_lt_of_le I.lt hb),I.nofs hb,.inr (Nat.le_trans I.sz hb),fun x c e z => ?_,fun p hp z => ?_⟩
 ·obtain ⟨v,q⟩ := I.cell x c e
  exact absurd (Nat.lt_of_lt_of_le q.lt (by rw [z]; exact hb)) (Nat.lt_irrefl _)
 ·exact absurd (Nat.lt_of_lt_of_le (Heap.lt_size (I.pin p hp).1) (by rw [z]; exact hb)) (Nat.lt_irrefl _)
structure Turn (P : Program) (w : World) (K : PySem.W.Frag) (tg : Expr) (J : It) (fp : List Addr) (it : Addr) (tn : Nat -> Heap -> Prop) : Prop where
 mem : it ∈ fp
 obj : ∀ i h,tn i h -> ∀ b ∈ fp,∃ o,h.get? b = some o ∧ ∀ v,o.data ≠ .cell v
 keep : ∀ i h h',tn i h -> (∀ b ∈ fp,∀ o,h.get? b = some o -> h'.get? b = some o) -> tn i h'
 item : ∀ (X : Cx),X.prog = P -> X.w = w -> X.K = K -> X.calm = true -> ∀ (i : Nat) (pins : List (Addr × Obj)) (s : Shared) (σ : St) (H : Hp) (E : Value -> Shared -> Prop),Inv X pins σ H s -> (∀ b ∈ fp,FpOk X pins H b) -> tn i s.heap -> J.go i H ->
  wpAny (model P w) X.A (pyNext (.ref it)) (fun r s1 => ∃ u,r = some u ∧
   wpAny (model P w) X.A (letOwnedTupleGo tg (.ref it) u) (fun _ s2 => ∃ x H',Inv X pins σ H' s2 ∧ RelV x u ∧ J.yld i H x H' ∧ tn (i + 1) s2.heap ∧ ∀ b ∈ fp,H' b = none) E s1) E s
 done : ∀ (X : Cx),X.prog = P -> X.w = w -> X.K = K -> X.calm = true -> ∀ (i : Nat) (pins : List (Addr × Obj)) (s : Shared) (σ : St) (H : Hp) (E : Value -> Shared -> Prop),Inv X pins σ H s -> (∀ b ∈ fp,FpOk X pins H b) -> tn i s.heap -> J.stop i H ->
  wpAny (model P w) X.A (pyNext (.ref it)) (fun r s1 => r = none ∧ Inv X pins σ H s1) E s
 self : ∀ (A : Around) (i : Nat) (s : Shared) (Q : Value -> Shared -> Prop) (E : Value -> Shared -> Prop),tn i s.heap -> Q (.ref it) s -> wpAny (model P w) A (pyIter (.ref it)) Q E s
abbrev TI := St -> Hp -> (It -> Hp -> Prop) -> Prop
def PIE (X : Cx) (pins : List (Addr × Obj)) (σ : St) (tg : Expr) (R : It -> Hp -> Prop) (itv : Value) (s2 : Shared) : Prop :=
 ∃ (it : Addr) (fp : List Addr) (tn : Nat -> Heap -> Prop) (J : It) (H' : Hp),itv = .ref it ∧ Inv X pins σ H' s2 ∧ Turn X.prog X.w X.K tg J fp it tn ∧ tn 0 s2.heap ∧ (∀ b ∈ fp,FpOk X pins H' b) ∧ R J H'
def PI (X : Cx) (tg iter : Expr) (wi : TI) : Prop :=
 ∀ (pins : List (Addr × Obj)) (s : Shared) (σ : St) (H : Hp) (R : It -> Hp -> Prop),Inv X pins σ H s -> wi σ H R ->
  wpAny (model X.prog X.w) X.A (eval iter X.env) (fun v s1 => wpAny (model X.prog X.w) X.A (pyIter v) (PIE X pins σ tg R) X.xe s1) X.xe s
theorem pqD {M : Model} {A : Around} {E : Value -> Shared -> Prop} {s : Shared} {tg : Expr} {it : Addr} {u : Value} {o : Obj} {n : String} {vs : Array Value} {Q : Unit -> Shared -> Prop} (ho : s.heap.get? it = some o) (hc : o.cls = .type n) (hd : o.data = .fields vs)
  (hn : ["enumerate","zip","dict_itemiterator","dict_reverseitemiterator","odict_iterator","itertools.zip_longest","itertools.pairwise"].contains n = false) (hQ : Q () s) : wpAny M A (letOwnedTupleGo tg (.ref it) u) Q E s := by
 unfold letOwnedTupleGo
 cases tg <;> first
  | exact wpAny_pure hQ
  | (cases u <;> first
    | exact wpAny_pure hQ
    | (refine wpAny_bind (wpAny_load ho ?_)
       rw [hc,hd]
       show wpAny M A (if (["enumerate","zip","dict_itemiterator","dict_reverseitemiterator","odict_iterator","itertools.zip_longest","itertools.pairwise"].contains n && vs[0]? == some (rawInt _)) = true then _ else _) Q E s
       rw [if_neg (by intro h; rw [hn,Bool.false_and] at h; cases h)]
       exact wpAny_pure hQ))
def Itl (K : PySem.W.Frag) (a : Addr) : It :=
 ⟨fun i H => ∃ xs x,SqL K H a xs ∧ xs[i]? = some x,fun i H x H' => H' = H ∧ ∀ xs,SqL K H a xs -> xs[i]? = some x,fun i H => ∃ xs,SqL K H a xs ∧ xs.length ≤ i⟩
def Itt (K : PySem.W.Frag) (a : Addr) : It :=
 ⟨fun i H => ∃ xs x,SqT K H a xs ∧ xs[i]? = some x,fun i H x H' => H' = H ∧ ∀ xs,SqT K H a xs -> xs[i]? = some x,fun i H => ∃ xs,SqT K H a xs ∧ xs.length ≤ i⟩
def Itr (lo : Int) (n : Nat) : It := ⟨fun i _ => i < n,fun i H x H' => H' = H ∧ x = .int (lo + i),fun i _ => n ≤ i⟩
theorem oqP {P : Program} {w : World} {K : PySem.W.Frag} {tg : Expr} (a it : Addr) : Turn P w K tg (Itl K a) [it] it (fun i h => h.IsListIter it a i) where
 mem := by simp
 obj := fun i h st b hb => by
  have e : b = it := by simpa using hb
  subst e
  obtain ⟨o,e,c,d⟩ := st
  exact ⟨o,e,fun v z => by rw [d] at z; cases z⟩
 keep := fun i h h' st k => st.at fun o e => k it (by simp) o e
 item := by
  intro X hP hw hK hc i pins s σ H E I hf st hg
  subst hP hw hK
  obtain ⟨xs,x,hq,hx⟩ := hg
  obtain ⟨its,rv,p,hz⟩ := I.list hq
  obtain ⟨u,hu,ru⟩ := rv.get hx
  obtain ⟨f0,f1,f2,f3,f4,f5⟩ := hf it (by simp)
  refine wpAny_pyNext_list_item st p.isList (x := u) (by simpa using hu) fun h' st' sb => ?_
  have I1 : Inv X pins σ H { s with heap := h' } := I.turned (t' := s.toks) (fun b o hb e => (sb.2 b hb).trans e) f0 f1 f3 f4 f5
  obtain ⟨o,e,c,d⟩ := id st'
  exact ⟨u,rfl,pqD (s := { s with heap := h' }) e c d (by decide) ⟨x,H,I1,ru,⟨rfl,fun ys hy => by rw [I.list_inj hy hq]; exact hx⟩,st',fun b hb => (hf b hb).1⟩⟩
 done := by
  intro X hP hw hK hc i pins s σ H E I hf st hg
  subst hP hw hK
  obtain ⟨xs,hq,hx⟩ := hg
  obtain ⟨its,rv,p,hz⟩ := I.list hq
  obtain ⟨f0,f1,f2,f3,f4,f5⟩ := hf it (by simp)
  have hl := rv.length
  exact wpAny_pyNext_list_end (I.ok.hd hc) st p.isList (by simp; omega) fun h' eb => ⟨rfl,I.turned (t' := s.toks) (fun b o hb e => eb b o hb e) f0 f1 f3 f4 f5⟩
 self := fun _ _ _ _ _ st h => wpAny_pyIter_listiter st h
theorem nqO {P : Program} {w : World} {K : PySem.W.Frag} {tg : Expr} (a it : Addr) : Turn P w K tg (Itt K a) [it] it (fun i h => h.IsTupleIter it a i) where
 mem := by simp
 obj := fun i h st b hb => by
  have e : b = it := by simpa using hb
  subst e
  obtain ⟨o,e,c,d⟩ := st
  exact ⟨o,e,fun v z => by rw [d] at z; cases z⟩
 keep := fun i h h' st k => st.at fun o e => k it (by simp) o e
 item := by
  intro X hP hw hK hc i pins s σ H E I hf st hg
  subst hP hw hK
  obtain ⟨xs,x,hq,hx⟩ := hg
  obtain ⟨its,rv,p,hz⟩ := I.tuple hq
  obtain ⟨u,hu,ru⟩ := rv.get hx
  obtain ⟨f0,f1,f2,f3,f4,f5⟩ := hf it (by simp)
  refine wpAny_pyNext_tuple_item st (show s.heap.IsTuple a its.toArray from p) (x := u) (by simpa using hu) fun h' st' sb => ?_
  have I1 : Inv X pins σ H { s with heap := h' } := I.turned (t' := s.toks) (fun b o hb e => (sb.2 b hb).trans e) f0 f1 f3 f4 f5
  obtain ⟨o,e,c,d⟩ := id st'
  exact ⟨u,rfl,pqD (s := { s with heap := h' }) e c d (by decide) ⟨x,H,I1,ru,⟨rfl,fun ys hy => by rw [I.tuple_inj hy hq]; exact hx⟩,st',fun b hb => (hf b hb).1⟩⟩
 done := by
  intro X hP hw hK hc i pins s σ H E I hf st hg
  subst hP hw hK
  obtain ⟨xs,hq,hx⟩ := hg
  obtain ⟨its,rv,p,hz⟩ := I.tuple hq
  obtain ⟨f0,f1,f2,f3,f4,f5⟩ := hf it (by simp)
  have hl := rv.length
  exact wpAny_pyNext_tuple_end (I.ok.hd hc) st (show s.heap.IsTuple a its.toArray from p) (by simp; omega) fun h' eb => ⟨rfl,I.turned (t' := s.toks) (fun b o hb e => eb b o hb e) f0 f1 f3 f4 f5⟩
 self := fun _ _ _ _ _ st h => wpAny_pyIter_tupleiter st h
theorem nqV {P : Program} {w : World} {K : PySem.W.Frag} {tg : Expr} (it : Addr) (lo : Int) (n : Nat) : Turn P w K tg (Itr lo n) [it] it (fun i h => IsRangeIter h it (lo + (i : Nat) * 1) ((n : Int) - (i : Nat)) 1) where
 mem := by simp
 obj := fun i h st b hb => by
  have e : b = it := by simpa using hb
  subst e
  exact ⟨_,st,fun v z => by
   have z' : Data.fields _ = Data.cell v := z
   cases z'⟩
 keep := fun i h h' st k => k it (by simp) _ st
 item := by
  intro X hP hw hK hc i pins s σ H E I hf st hg
  subst hP hw hK
  obtain ⟨f0,f1,f2,f3,f4,f5⟩ := hf it (by simp)
  have W := Walks.range (prog := X.prog) (w := X.w) (I.ok.hd hc) it lo 1 n
  refine W.item i s _ _ hg st fun v h' tk hv st' kk => ?_
  obtain ⟨t,rfl⟩ := hv
  have I1 : Inv X pins σ H { s with heap := h',toks := tk } := I.turned (fun b o hb e => kk b o (by simpa using hb) e) f0 f1 f3 f4 f5
  refine ⟨_,rfl,pqD (s := { s with heap := h',toks := tk }) (n := "range_iterator") st' rfl rfl (by decide) ⟨.int (lo + i),H,I1,⟨t,?_⟩,⟨rfl,rfl⟩,st',fun b hb => (hf b hb).1⟩⟩
  rw [Int.mul_one]
 done := by
  intro X hP hw hK hc i pins s σ H E I hf st hg
  subst hP hw hK
  obtain ⟨f0,f1,f2,f3,f4,f5⟩ := hf it (by simp)
  exact wpAny_pyNext_range_end (I.ok.hd hc) st (by have : n ≤ i := hg; omega) fun h' eb => ⟨rfl,I.turned (t' := s.toks) (fun b o hb e => eb b o hb e) f0 f1 f3 f4 f5⟩
 self := fun _ _ _ _ _ st h => wpAny_pyIter_rangeiter st h
section
variable {X : Cx} {tg : Expr}
def iList (K : PySem.W.Frag) (tl : TE) : TI := fun σ H R => tl σ H fun x H1 => ∃ a,x = .ref a ∧ (∃ xs,SqL K H1 a xs) ∧ R (Itl K a) H1
def iTup (K : PySem.W.Frag) (tl : TE) : TI := fun σ H R => tl σ H fun x H1 => ∃ a,x = .ref a ∧ (∃ xs,SqT K H1 a xs) ∧ R (Itt K a) H1
theorem rq6 {l : Expr} {tl : TE} (hl : PE X l tl) : PI X tg l (iList X.K tl) := by
 intro pins s σ H R I h
 refine thn (hl pins s σ H _ I h) fun v s1 W' => ?_
 obtain ⟨x,H1,I1,r1,q1⟩ := W'
 obtain ⟨a,e,⟨xs,hq⟩,q⟩ := q1
 subst e
 cases r1
 obtain ⟨its,rv,p,hz⟩ := I1.list hq
 refine wpAny_pyIter_list p.isList ?_
 refine ⟨s1.heap.objs.size,[s1.heap.objs.size],_,_,H1,rfl,I1.kept (t' := s1.toks) fun b o e => Heap.get?_push_of_some _ e,oqP a _,⟨_,Heap.get?_push_size _ rfl,rfl,rfl⟩,fun b hb => ?_,q⟩
 have e : b = s1.heap.objs.size := by simpa using hb
 subst e
 exact I1.fpOk (Nat.le_refl _) (I1.hok.fresh (Nat.le_refl _))
theorem tqM {l : Expr} {tl : TE} (hl : PE X l tl) : PI X tg l (iTup X.K tl) := by
 intro pins s σ H R I h
 refine thn (hl pins s σ H _ I h) fun v s1 W' => ?_
 obtain ⟨x,H1,I1,r1,q1⟩ := W'
 obtain ⟨a,e,⟨xs,hq⟩,q⟩ := q1
 subst e
 cases r1
 obtain ⟨its,rv,p,hz⟩ := I1.tuple hq
 refine wpAny_pyIter_tuple (show s1.heap.IsTuple a its.toArray from p) ?_
 refine ⟨s1.heap.objs.size,[s1.heap.objs.size],_,_,H1,rfl,I1.kept (t' := s1.toks) fun b o e => Heap.get?_push_of_some _ e,nqO a _,⟨_,Heap.get?_push_size _ rfl,rfl,rfl⟩,fun b hb => ?_,q⟩
 have e : b = s1.heap.objs.size := by simpa using hb
 subst e
 exact I1.fpOk (Nat.le_refl _) (I1.hok.fresh (Nat.le_refl _))
theorem pqU {pins : List (Addr × Obj)} {σ : St} {H : Hp} {s : Shared} {R : It -> Hp -> Prop} {E : Value -> Shared -> Prop} {lo hi : Int} {t u v : Tok} {tk : Nat} (I : Inv X pins σ H s) (h1 : -(2 ^ 62) ≤ lo) (h2 : lo < 2 ^ 62) (h3 : -(2 ^ 62) ≤ hi) (h4 : hi < 2 ^ 62)
  (q : R (Itr lo (hi - lo).toNat) H) : wpAny (model X.prog X.w) X.A (pyIter (.ref s.heap.objs.size)) (PIE X pins σ tg R) E { s with heap := s.heap.push { cls := .type "range",data := .fields #[.int lo t,.int hi u,.int 1 v] },toks := tk } := by
 refine wpAny_pyIter_range (IsRange.new ..) (small_one h1 h2 h3 h4) ?_
 have I1 : Inv X pins σ H { s with heap := s.heap.push { cls := .type "range",data := .fields #[.int lo t,.int hi u,.int 1 v] },toks := tk } := I.kept fun b o e => Heap.get?_push_of_some _ e
 refine ⟨(s.heap.push { cls := .type "range",data := .fields #[.int lo t,.int hi u,.int 1 v] }).objs.size,[(s.heap.push { cls := .type "range",data := .fields #[.int lo t,.int hi u,.int 1 v] }).objs.size],_,_,H,rfl,
  I1.kept (t' := tk) fun b o e => Heap.get?_push_of_some _ e,nqV _ lo (hi - lo).toNat,?_,fun b hb => ?_,q⟩
 ·have e1 : lo + ((0 : Nat) : Int) * 1 = lo := by simp
  have e2 : (((hi - lo).toNat : Nat) : Int) - ((0 : Nat) : Int) = Builtin.Range.rangeSize lo hi 1 := by rw [rangeSize_one]; split <;> omega
  show IsRangeIter _ _ (lo + ((0 : Nat) : Int) * 1) ((((hi - lo).toNat : Nat) : Int) - ((0 : Nat) : Int)) 1
  rw [e1,e2]
  exact Heap.get?_push_size _ rfl
 ·have e : b = (s.heap.push { cls := .type "range",data := .fields #[.int lo t,.int hi u,.int 1 v] }).objs.size := by simpa using hb
  subst e
  exact I1.fpOk (Nat.le_refl _) (I1.hok.fresh (Nat.le_refl _))
def iRng1 (ta : TA) : TI := fun σ H R => ta σ H fun vs H1 => ∃ j : Int,vs = [.int j] ∧ -(2 ^ 62) ≤ j ∧ j < 2 ^ 62 ∧ R (Itr 0 j.toNat) H1
theorem cqo {a : Expr} {ta : TA} {p pos : Pos} (hg : Gl X "range") (hm : X.mg "range" = none) (ha : PA X [a] ta) (hs : starEach [a] X.env = [(false,eval a X.env)] := by rfl) : PI X tg (.Call (.Name "range" p) [a] [] pos) (iRng1 ta) := by
 intro pins s σ H R I h
 refine Call_ (gqN I hg hm boot_range (PyProof.Rows.callWith_type1 (thn (ha pos pins s σ H _ I h) fun us s1 W' => ?_) hs rfl))
 obtain ⟨vs,H1,I1,r1,q1⟩ := W'
 obtain ⟨j,e,q1,q2,q⟩ := q1
 subst e
 cases r1 with
 | cons r rr =>
  cases rr
  obtain ⟨t,rfl⟩ := r
  exact call_range_1 (pqU I1 (by omega) (by omega) q1 q2 (by simpa using q))
def tFor (wi : TI) (g : TG) (tb : TS) : TS := fun D σ H => wi σ H fun J H1 => ∃ W : Nat -> Nat -> St -> Hp -> Prop,(∃ m,W 0 m σ H1) ∧ ∀ i m σ H,W i m σ H ->
 (J.stop i H ∧ D.nx σ H) ∨ (J.go i H ∧ ∃ N : St -> Hp -> Prop,(∀ σ' H',N σ' H' -> ∃ m',m' < m ∧ W (i + 1) m' σ' H') ∧ ∀ x H',J.yld i H x H' -> g x σ H' fun σ2 H2 => tb { D with nx := N,ct := N,bk := D.nx } σ2 H2)
def pinsAt (fp : List Addr) (h : Heap) : List (Addr × Obj) := fp.filterMap fun b => (h.get? b).map fun o => (b,o)
theorem dqs {fp : List Addr} {h : Heap} {b : Addr} {o : Obj} (hb : b ∈ fp) (e : h.get? b = some o) : (b,o) ∈ pinsAt fp h := List.mem_filterMap.mpr ⟨b,hb,by rw [e]; rfl⟩
theorem oqE {fp : List Addr} {h : Heap} {p : Addr × Obj} (hp : p ∈ pinsAt fp h) : p.1 ∈ fp ∧ h.get? p.1 = some p.2 := by
 obtain ⟨b,hb,e⟩ := List.mem_filterMap.mp hp
 cases q : h.get? b with
 | none => rw [q] at e; cases e
 | some o =>
  rw [q] at e
  have e' : (b,o) = p := Option.some.inj e
  subst e'
  exact ⟨hb,q⟩
theorem Inv.pinned {pins : List (Addr × Obj)} {σ : St} {H : Hp} {s : Shared} {fp : List Addr} (I : Inv X pins σ H s) (hf : ∀ b ∈ fp,FpOk X pins H b) (ho : ∀ b ∈ fp,∃ o,s.heap.get? b = some o ∧ ∀ v,o.data ≠ .cell v) : Inv X (pins ++ pinsAt fp s.heap) σ H s :=
 I.pins_of fun p hp => (List.mem_append.mp hp).elim (fun z => I.pin p (List.mem_append_right _ z)) fun z => by
  obtain ⟨hb,e⟩ := oqE z
  obtain ⟨f0,f1,f2,_⟩ := hf p.1 hb
  obtain ⟨o,e',d⟩ := ho p.1 hb
  rw [e] at e'; cases e'
  exact ⟨e,f0,f1,f2,d⟩
theorem Inv.unpinned {pins pl : List (Addr × Obj)} {σ : St} {H : Hp} {s : Shared} (I : Inv X (pins ++ pl) σ H s) : Inv X pins σ H s := I.pins_of fun p hp => I.pin p (List.mem_append_right _ (List.mem_append_left _ hp))
theorem cqs {iter : Expr} {body : List Stmt} {wi : TI} {g : TG} {tb : TS} {pos : Pos} (hp : PassesOwn (model X.prog X.w) X.A X.env X.xe) (hc : X.calm = true) (hi : PI X tg iter wi) (hg : PG X tg g) (hb : PSs X body tb)
  (hs : ∀ x,foldedSetIterable iter X.env x = pure x := by intro _; rfl) : PS X (.For tg iter body [] pos) (tFor wi g tb) := by
 intro pins s σ H D I h
 refine wpAny_For (thn (hi pins s σ H _ I h) fun v s1 h1 => thn h1 fun itv s2 h2 => ?_) hs
 obtain ⟨it,fp,tn,J,H2,e,I2,T,st2,f2,W,⟨m0,w0⟩,turn⟩ := h2
 subst e
 have stat : ∀ {H' : Hp},(∀ b ∈ fp,H' b = none) -> ∀ b ∈ fp,FpOk X pins H' b := fun hn b hb => ⟨hn b hb,(f2 b hb).2⟩
 refine codeAny_forLoop_any (fun n s' => ∃ i σ' H',Inv X pins σ' H' s' ∧ tn i s'.heap ∧ (∀ b ∈ fp,H' b = none) ∧ W i n σ' H') ?_ m0 ⟨0,σ,H2,I2,st2,fun b hb => (f2 b hb).1,w0⟩
 rintro n s3 ⟨i,σ3,H3,I3,st3,fr3,w3⟩
 rcases turn i n σ3 H3 w3 with ⟨stop,qn⟩ | ⟨go,N,hN,step⟩
 ·refine wpAny_passesOwn hp (thn (T.done X rfl rfl rfl hc i pins s3 σ3 H3 X.xe I3 (stat fr3) st3 stop) fun r s4 W' => ?_)
  obtain ⟨hr,I4⟩ := W'
  subst hr
  exact wpAny_execs_nil ⟨σ3,H3,I4,qn⟩
 ·refine wpAny_passesOwn hp (thn (T.item X rfl rfl rfl hc i pins s3 σ3 H3 X.xe I3 (stat fr3) st3 go) fun r s4 W' => ?_)
  obtain ⟨u,hr,h4⟩ := W'
  subst hr
  refine wpAny_passesOwn hp (thn h4 fun _ s5 W' => ?_)
  obtain ⟨x,H5,I5,r5,y5,st5,fr5⟩ := W'
  have I5' := I5.pinned (stat fr5) (T.obj _ _ st5)
  refine wpAny_passesOwn hp (thn (hg _ s5 σ3 H5 x u _ I5' r5 (step x H5 y5)) fun _ s6 W' => ?_)
  obtain ⟨σ6,H6,I6,q6⟩ := W'
  refine wpAny_passesOwn hp (thn (hb _ s6 σ6 H6 _ I6 q6) fun f s7 q7 => ?_)
  have again : ∀ {σ7 : St} {H7 : Hp},Inv X (pins ++ pinsAt fp s5.heap) σ7 H7 s7 -> N σ7 H7 -> ∃ m,m < n ∧ ∃ i σ' H',Inv X pins σ' H' s7 ∧ tn i s7.heap ∧ (∀ b ∈ fp,H' b = none) ∧ W i m σ' H' := fun {σ7 H7} I7 n7 => by
   obtain ⟨m',hm,w7⟩ := hN σ7 H7 n7
   refine ⟨m',hm,i + 1,σ7,H7,I7.unpinned,T.keep _ _ _ st5 fun b hb o e => (I7.pin (b,o) (List.mem_append_right _ (List.mem_append_right _ (dqs hb e)))).1,fun b hb => ?_,w7⟩
   obtain ⟨o,e,d⟩ := T.obj _ _ st5 b hb
   exact (I7.pin (b,o) (List.mem_append_right _ (List.mem_append_right _ (dqs hb e)))).2.1
  cases f with
  | next => obtain ⟨σ7,H7,I7,n7⟩ := q7; exact again I7 n7
  | cont => obtain ⟨σ7,H7,I7,n7⟩ := q7; exact again I7 n7
  | brk => obtain ⟨σ7,H7,I7,q7⟩ := q7; exact ⟨σ7,H7,I7.unpinned,q7⟩
  | ret v => obtain ⟨x7,σ7,H7,I7,r7,q7⟩ := q7; exact ⟨x7,σ7,H7,I7.unpinned,r7,q7⟩
end
theorem qq1 {K : PySem.W.Frag} {a : Addr} {xs : List V} {g : TG} {tb : TS} {D : Ends} {σ : St} {H : Hp} (Pv : Nat -> St -> Hp -> Prop) (h0 : Pv 0 σ H) (hl : ∀ i σ H,i ≤ xs.length -> Pv i σ H -> SqL K H a xs)
  (hs : ∀ i x σ H,xs[i]? = some x -> Pv i σ H -> g x σ H fun σ2 H2 => tb { D with nx := Pv (i + 1),ct := Pv (i + 1),bk := D.nx } σ2 H2) (hd : ∀ σ H,Pv xs.length σ H -> D.nx σ H) :
  ∃ W : Nat -> Nat -> St -> Hp -> Prop,(∃ m,W 0 m σ H) ∧ ∀ i m σ H,W i m σ H ->
   ((Itl K a).stop i H ∧ D.nx σ H) ∨ ((Itl K a).go i H ∧ ∃ N : St -> Hp -> Prop,(∀ σ' H',N σ' H' -> ∃ m',m' < m ∧ W (i + 1) m' σ' H') ∧ ∀ x H',(Itl K a).yld i H x H' -> g x σ H' fun σ2 H2 => tb { D with nx := N,ct := N,bk := D.nx } σ2 H2) := by
 refine ⟨fun i m σ H => m = xs.length - i ∧ i ≤ xs.length ∧ Pv i σ H,⟨xs.length,by simp,Nat.zero_le _,h0⟩,?_⟩
 rintro i m σ H ⟨rfl,hi,p⟩
 have q := hl i σ H hi p
 by_cases hlt : i < xs.length
 ·refine .inr ⟨⟨xs,xs[i],q,by simp [hlt]⟩,Pv (i + 1),fun σ' H' p' => ⟨xs.length - (i + 1),by omega,rfl,hlt,p'⟩,fun x H' y => ?_⟩
  obtain ⟨e,y⟩ := y
  subst e
  exact hs i x σ _ (y xs q) p
 ·have e : i = xs.length := by omega
  subst e
  exact .inl ⟨⟨xs,q,Nat.le_refl _⟩,hd σ H p⟩
theorem rqR {K : PySem.W.Frag} {a : Addr} {xs : List V} {g : TG} {tb : TS} {D : Ends} {σ : St} {H : Hp} (Pv : Nat -> St -> Hp -> Prop) (h0 : Pv 0 σ H) (hl : ∀ i σ H,i ≤ xs.length -> Pv i σ H -> SqT K H a xs)
  (hs : ∀ i x σ H,xs[i]? = some x -> Pv i σ H -> g x σ H fun σ2 H2 => tb { D with nx := Pv (i + 1),ct := Pv (i + 1),bk := D.nx } σ2 H2) (hd : ∀ σ H,Pv xs.length σ H -> D.nx σ H) :
  ∃ W : Nat -> Nat -> St -> Hp -> Prop,(∃ m,W 0 m σ H) ∧ ∀ i m σ H,W i m σ H ->
   ((Itt K a).stop i H ∧ D.nx σ H) ∨ ((Itt K a).go i H ∧ ∃ N : St -> Hp -> Prop,(∀ σ' H',N σ' H' -> ∃ m',m' < m ∧ W (i + 1) m' σ' H') ∧ ∀ x H',(Itt K a).yld i H x H' -> g x σ H' fun σ2 H2 => tb { D with nx := N,ct := N,bk := D.nx } σ2 H2) := by
 refine ⟨fun i m σ H => m = xs.length - i ∧ i ≤ xs.length ∧ Pv i σ H,⟨xs.length,by simp,Nat.zero_le _,h0⟩,?_⟩
 rintro i m σ H ⟨rfl,hi,p⟩
 have q := hl i σ H hi p
 by_cases hlt : i < xs.length
 ·refine .inr ⟨⟨xs,xs[i],q,by simp [hlt]⟩,Pv (i + 1),fun σ' H' p' => ⟨xs.length - (i + 1),by omega,rfl,hlt,p'⟩,fun x H' y => ?_⟩
  obtain ⟨e,y⟩ := y
  subst e
  exact hs i x σ _ (y xs q) p
 ·have e : i = xs.length := by omega
  subst e
  exact .inl ⟨⟨xs,q,Nat.le_refl _⟩,hd σ H p⟩
theorem pqf {lo : Int} {n : Nat} {g : TG} {tb : TS} {D : Ends} {σ : St} {H : Hp} (Pv : Nat -> St -> Hp -> Prop) (h0 : Pv 0 σ H)
  (hs : ∀ i σ H,i < n -> Pv i σ H -> g (.int (lo + i)) σ H fun σ2 H2 => tb { D with nx := Pv (i + 1),ct := Pv (i + 1),bk := D.nx } σ2 H2) (hd : ∀ σ H,Pv n σ H -> D.nx σ H) :
  ∃ W : Nat -> Nat -> St -> Hp -> Prop,(∃ m,W 0 m σ H) ∧ ∀ i m σ H,W i m σ H ->
   ((Itr lo n).stop i H ∧ D.nx σ H) ∨ ((Itr lo n).go i H ∧ ∃ N : St -> Hp -> Prop,(∀ σ' H',N σ' H' -> ∃ m',m' < m ∧ W (i + 1) m' σ' H') ∧ ∀ x H',(Itr lo n).yld i H x H' -> g x σ H' fun σ2 H2 => tb { D with nx := N,ct := N,bk := D.nx } σ2 H2) := by
 refine ⟨fun i m σ H => m = n - i ∧ i ≤ n ∧ Pv i σ H,⟨n,by simp,Nat.zero_le _,h0⟩,?_⟩
 rintro i m σ H ⟨rfl,hi,p⟩
 by_cases hlt : i < n
 ·refine .inr ⟨hlt,Pv (i + 1),fun σ' H' p' => ⟨n - (i + 1),by omega,rfl,hlt,p'⟩,fun x H' y => ?_⟩
  obtain ⟨e,y⟩ := y
  subst e y
  exact hs i σ _ hlt p
 ·have e : i = n := by omega
  subst e
  exact .inl ⟨Nat.le_refl _,hd σ H p⟩
abbrev R2 := V -> V -> Hp -> VK -> Prop
def OpR (X : Cx) (f : Value -> Value -> Sem Value) (r : R2) : Prop :=
 ∀ (pins : List (Addr × Obj)) (s : Shared) (σ : St) (H : Hp) (x y : V) (v u : Value) (Q : VK),Inv X pins σ H s -> RelV x v -> RelV y u -> r x y H Q ->
  wpAny (model X.prog X.w) X.A (f v u) (EP X pins σ Q) X.xe s
def UnR (X : Cx) (f : Value -> Sem Value) (r : V -> Hp -> VK -> Prop) : Prop :=
 ∀ (pins : List (Addr × Obj)) (s : Shared) (σ : St) (H : Hp) (x : V) (v : Value) (Q : VK),Inv X pins σ H s -> RelV x v -> r x H Q ->
  wpAny (model X.prog X.w) X.A (f v) (EP X pins σ Q) X.xe s
def CallR (X : Cx) (f : Value) (r : List V -> Hp -> VK -> Prop) : Prop :=
 ∀ (pins : List (Addr × Obj)) (s : Shared) (σ : St) (H : Hp) (xs : List V) (us : List Value) (Q : VK),Inv X pins σ H s -> Vals xs us -> r xs H Q ->
  wpAny (model X.prog X.w) X.A (call f us) (EP X pins σ Q) X.xe s
def tOp (r : R2) (ta tb : TE) : TE := fun σ H Q => ta σ H fun x H1 => tb σ H1 fun y H2 => r x y H2 Q
def tUn (r : V -> Hp -> VK -> Prop) (ta : TE) : TE := fun σ H Q => ta σ H fun x H1 => r x H1 Q
def rI (C : Int -> Int -> Prop) (g : Int -> Int -> V) : R2 := fun x y H Q => ∃ i j,x = .int i ∧ y = .int j ∧ C i j ∧ Q (g i j) H
def rI0 (g : Int -> Int -> V) : R2 := fun x y H Q => ∃ i j,x = .int i ∧ y = .int j ∧ Q (g i j) H
def rU (g : Int -> V) : V -> Hp -> VK -> Prop := fun x H Q => ∃ i,x = .int i ∧ Q (g i) H
section
variable {X : Cx} {a b c : Expr} {ta tb tc : TE} {pos : Pos}
theorem binT (ha : PE X a ta) (hb : PE X b tb) {pins : List (Addr × Obj)} {s : Shared} {σ : St} {H : Hp} {R : V -> V -> Hp -> Prop} (I : Inv X pins σ H s)
  (h : ta σ H fun x H1 => tb σ H1 fun y H2 => R x y H2) {Q : Value -> Shared -> Prop} {f : Value -> Value -> Sem Value}
  (hf : ∀ v u s2 x y H2,Inv X pins σ H2 s2 -> RelV x v -> RelV y u -> R x y H2 -> wpAny (model X.prog X.w) X.A (f v u) Q X.xe s2) :
  wpAny (model X.prog X.w) X.A (eval a X.env) (fun v s₁ => wpAny (model X.prog X.w) X.A (eval b X.env) (fun u s₂ => wpAny (model X.prog X.w) X.A (f v u) Q X.xe s₂) X.xe s₁) X.xe s := by
 refine thn (ha pins s σ H _ I h) fun v s1 W' => ?_
 obtain ⟨x,H1,I1,r1,q1⟩ := W'
 refine thn (hb pins s1 σ H1 _ I1 q1) fun u s2 W' => ?_
 obtain ⟨y,H2,I2,r2,q2⟩ := W'
 exact hf v u s2 x y H2 I2 r1 r2 q2
theorem aqu {op : Operator} {r : R2} (ho : OpR X (binaryOp op) r) (ha : PE X a ta) (hb : PE X b tb) : PE X (.BinOp a op b pos) (tOp r ta tb) := by
 intro pins s σ H Q I h
 exact wpAny_BinOp (binT ha hb I h fun v u s2 x y H2 I2 rx ry q => ho pins s2 σ H2 x y v u Q I2 rx ry q)
theorem nqX {op : UnaryOp} {r : V -> Hp -> VK -> Prop} (ho : UnR X (unaryOp op) r) (ha : PE X a ta) : PE X (.UnaryOp op a pos) (tUn r ta) := by
 intro pins s σ H Q I h
 exact UnaryOp_ (thn (ha pins s σ H _ I h) fun v s1 ⟨x,H1,I1,r1,q1⟩ => ho pins s1 σ H1 x v Q I1 r1 q1)
theorem opI {f : Value -> Value -> Sem Value} {C : Int -> Int -> Prop} {g : Int -> Int -> Int}
  (rule : ∀ (i j : Int) (t u : Tok) (s : Shared) (Q : Value -> Shared -> Prop) (E : Value -> Shared -> Prop),C i j -> Q (.int (g i j) s.toks) { s with toks := s.toks + 1 } -> wpAny (model X.prog X.w) X.A (f (.int i t) (.int j u)) Q E s) :
  OpR X f (rI C fun i j => .int (g i j)) := by
 intro pins s σ H x y v u Q I rx ry h
 obtain ⟨i,j,rfl,rfl,hc,q⟩ := h
 obtain ⟨t,rfl⟩ := rx
 obtain ⟨t',rfl⟩ := ry
 exact rule i j t t' s _ _ hc ⟨.int (g i j),H,I.tok _,⟨_,rfl⟩,q⟩
theorem opI0 {f : Value -> Value -> Sem Value} {g : Int -> Int -> Int}
  (rule : ∀ (i j : Int) (t u : Tok) (s : Shared) (Q : Value -> Shared -> Prop) (E : Value -> Shared -> Prop),Q (.int (g i j) s.toks) { s with toks := s.toks + 1 } -> wpAny (model X.prog X.w) X.A (f (.int i t) (.int j u)) Q E s) :
  OpR X f (rI0 fun i j => .int (g i j)) := by
 intro pins s σ H x y v u Q I rx ry h
 obtain ⟨i,j,rfl,rfl,q⟩ := h
 obtain ⟨t,rfl⟩ := rx
 obtain ⟨t',rfl⟩ := ry
 exact rule i j t t' s _ _ ⟨.int (g i j),H,I.tok _,⟨_,rfl⟩,q⟩
theorem opB0 {f : Value -> Value -> Sem Value} {g : Int -> Int -> Bool}
  (rule : ∀ (i j : Int) (t u : Tok) (s : Shared) (Q : Value -> Shared -> Prop) (E : Value -> Shared -> Prop),Q (.bool (g i j)) s -> wpAny (model X.prog X.w) X.A (f (.int i t) (.int j u)) Q E s) :
  OpR X f (rI0 fun i j => .bl (g i j)) := by
 intro pins s σ H x y v u Q I rx ry h
 obtain ⟨i,j,rfl,rfl,q⟩ := h
 obtain ⟨t,rfl⟩ := rx
 obtain ⟨t',rfl⟩ := ry
 exact rule i j t t' s _ _ ⟨.bl (g i j),H,I,rfl,q⟩
def CDiv (i j : Int) : Prop := 0 < j ∧ j < 1073741824
def CPow (i j : Int) : Prop := 0 ≤ j ∧ j ≤ 1000000 ∧ i.natAbs < 2 ^ 64
def CMul (i j : Int) : Prop := (-(2 ^ 64) < i ∧ i < 2 ^ 64) ∨ (-(2 ^ 64) < j ∧ j < 2 ^ 64)
theorem CMul.ok {i j : Int} (h : CMul i j) : IntMulOk i j := by
 rcases h with ⟨h1,h2⟩ | ⟨h1,h2⟩
 ·exact .of_left (intBits_le_64 h1 h2)
 ·exact .of_right (intBits_le_64 h1 h2)
theorem tqZ : OpR X (binaryOp .Add) (rI0 fun i j => .int (i + j)) := opI0 fun _ _ _ _ _ _ _ q => add_int q
theorem oqt : OpR X (binaryOp .Sub) (rI0 fun i j => .int (i - j)) := opI0 fun _ _ _ _ _ _ _ q => sub_int q
theorem tqg : OpR X (binaryOp .Mult) (rI CMul fun i j => .int (i * j)) := opI fun _ _ _ _ _ _ _ hc q => mul_int q hc.ok
theorem bqi : OpR X (binaryOp .FloorDiv) (rI CDiv fun i j => .int (i / j)) := opI fun i j _ _ _ _ _ hc q => by
 have h1 : (0 : Int) < j := hc.1
 have h2 : j < 1073741824 := hc.2
 exact floordiv_int (by omega) (by rw [Int.fdiv_eq_ediv_of_nonneg i (by omega)]; exact q) (.inl (PyProof.noPylong_small (by omega)))
theorem aqM : OpR X (binaryOp .Mod) (rI (fun _ j => 0 < j) fun i j => .int (i % j)) := opI fun i j _ _ _ _ _ hc q => by
 have h1 : (0 : Int) < j := hc
 exact mod_int' (by omega) (by rw [Int.fmod_eq_emod_of_nonneg i (by omega)]; exact q)
theorem rqh : OpR X (binaryOp .Pow) (rI CPow fun i j => .int (i ^ j.toNat)) := opI fun _ _ _ _ _ _ _ hc q => pow_int_small hc.1 hc.2.1 hc.2.2 q
theorem unI {f : Value -> Sem Value} {g : Int -> Int}
  (rule : ∀ (i : Int) (t : Tok) (s : Shared) (Q : Value -> Shared -> Prop) (E : Value -> Shared -> Prop),Q (.int (g i) s.toks) { s with toks := s.toks + 1 } -> wpAny (model X.prog X.w) X.A (f (.int i t)) Q E s) :
  UnR X f (rU fun i => .int (g i)) := by
 intro pins s σ H x v Q I rx h
 obtain ⟨i,rfl,q⟩ := h
 obtain ⟨t,rfl⟩ := rx
 exact rule i t s _ _ ⟨.int (g i),H,I.tok _,⟨_,rfl⟩,q⟩
theorem jq1 : UnR X (unaryOp .USub) (rU fun i => .int (-i)) := unI fun _ _ _ _ _ q => neg_int q
end
def scal : V -> V -> Bool
 | .non,.non => true | .non,.int _ => true | .int _,.non => true | .non,.bl _ => true | .bl _,.non => true | .non,.str _ => true | .str _,.non => true
 | .int _,.int _ => true | .bl _,.bl _ => true | .str _,.str _ => true | .byt _,.byt _ => true
 | .int _,.str _ => true | .str _,.int _ => true | .bl _,.str _ => true | .str _,.bl _ => true
 | _,_ => false
def rEq : R2 := fun x y H Q => scal x y = true ∧ Q (.bl (decide (x = y))) H
def rNe : R2 := fun x y H Q => scal x y = true ∧ Q (.bl (!decide (x = y))) H
theorem oqa {i j : Int} : decide (V.int i = V.int j) = (i == j) := by
 rw [Bool.eq_iff_iff]
 simp
theorem qq9 {i j : Bool} : decide (V.bl i = V.bl j) = (i == j) := by
 rw [Bool.eq_iff_iff]
 simp
theorem pqj {i j : Str} : decide (V.str i = V.str j) = (i == j) := by
 rw [Bool.eq_iff_iff]
 simp
theorem oqd {i j : Array UInt8} : decide (V.byt i = V.byt j) = (i.toList == j.toList) := by
 rw [Bool.eq_iff_iff]
 cases i
 cases j
 simp
section
variable {X : Cx} {a b c : Expr} {ta tb tc : TE} {pos : Pos}
theorem aqJ {pins : List (Addr × Obj)} {σ : St} {H : Hp} {s : Shared} {Q : VK} {k k' : Bool} (I : Inv X pins σ H s) (q : Q (.bl k) H) (e : k = k') : EP X pins σ Q (.bool k') s := by
 subst e
 exact ⟨.bl k,H,I,rfl,q⟩
theorem aqG : OpR X (compareOp .Eq) rEq := by
 intro pins s σ H x y v u Q I rx ry h
 obtain ⟨hs,q⟩ := h
 cases x with
 | non =>
  cases rx
  cases y with
  | non => cases ry; exact PySem.EqNone.eq_none_none (aqJ I q (by simp))
  | bl j => cases ry; exact PySem.EqNone.eq_none_bool (aqJ I q (by simp))
  | int j => obtain ⟨t',rfl⟩ := ry; exact PySem.EqNone.eq_none_int (aqJ I q (by simp))
  | str j => obtain ⟨t',rfl⟩ := ry; exact PySem.EqNone.eq_none_str (aqJ I q (by simp))
  | _ => exact absurd (show false = true from hs) Bool.false_ne_true
 | bl i =>
  cases rx
  cases y with
  | non => cases ry; exact PySem.EqNone.eq_bool_none (aqJ I q (by simp))
  | bl j => cases ry; exact eq_bool (aqJ I q qq9)
  | str j => obtain ⟨t',rfl⟩ := ry; exact PySem.EqMixed.eq_bool_str (aqJ I q (by simp))
  | _ => exact absurd (show false = true from hs) Bool.false_ne_true
 | int i =>
  obtain ⟨t,rfl⟩ := rx
  cases y with
  | non => cases ry; exact PySem.EqNone.eq_int_none (aqJ I q (by simp))
  | int j => obtain ⟨t',rfl⟩ := ry; exact eq_int (aqJ I q oqa)
  | str j => obtain ⟨t',rfl⟩ := ry; exact PySem.EqMixed.eq_int_str (aqJ I q (by simp))
  | _ => exact absurd (show false = true from hs) Bool.false_ne_true
 | str i =>
  obtain ⟨t,rfl⟩ := rx
  cases y with
  | non => cases ry; exact PySem.EqNone.eq_str_none (aqJ I q (by simp))
  | bl j => cases ry; exact PySem.EqMixed.eq_str_bool (aqJ I q (by simp))
  | int j => obtain ⟨t',rfl⟩ := ry; exact PySem.EqMixed.eq_str_int (aqJ I q (by simp))
  | str j => obtain ⟨t',rfl⟩ := ry; exact eq_str (aqJ I q pqj)
  | _ => exact absurd (show false = true from hs) Bool.false_ne_true
 | byt i =>
  obtain ⟨t,rfl⟩ := rx
  cases y with
  | byt j => obtain ⟨t',rfl⟩ := ry; exact PySem.W.eq_bytes (aqJ I q oqd)
  | _ => exact absurd (show false = true from hs) Bool.false_ne_true
 | _ => cases y <;> exact absurd (show false = true from hs) Bool.false_ne_true
theorem hqU : OpR X (compareOp .NotEq) rNe := by
 intro pins s σ H x y v u Q I rx ry h
 obtain ⟨hs,q⟩ := h
 cases x with
 | non =>
  cases rx
  cases y with
  | non => cases ry; exact PySem.EqNone.ne_none_none (aqJ I q (by simp))
  | bl j => cases ry; exact PySem.EqNone.ne_none_bool (aqJ I q (by simp))
  | int j => obtain ⟨t',rfl⟩ := ry; exact PySem.EqNone.ne_none_int (aqJ I q (by simp))
  | str j => obtain ⟨t',rfl⟩ := ry; exact PySem.EqNone.ne_none_str (aqJ I q (by simp))
  | _ => exact absurd (show false = true from hs) Bool.false_ne_true
 | bl i =>
  cases rx
  cases y with
  | non => cases ry; exact PySem.EqNone.ne_bool_none (aqJ I q (by simp))
  | bl j => cases ry; exact ne_bool (aqJ I q (congrArg not qq9))
  | str j => obtain ⟨t',rfl⟩ := ry; exact PySem.EqMixed.ne_bool_str (aqJ I q (by simp))
  | _ => exact absurd (show false = true from hs) Bool.false_ne_true
 | int i =>
  obtain ⟨t,rfl⟩ := rx
  cases y with
  | non => cases ry; exact PySem.EqNone.ne_int_none (aqJ I q (by simp))
  | int j => obtain ⟨t',rfl⟩ := ry; exact ne_int (aqJ I q (congrArg not oqa))
  | str j => obtain ⟨t',rfl⟩ := ry; exact PySem.EqMixed.ne_int_str (aqJ I q (by simp))
  | _ => exact absurd (show false = true from hs) Bool.false_ne_true
 | str i =>
  obtain ⟨t,rfl⟩ := rx
  cases y with
  | non => cases ry; exact PySem.EqNone.ne_str_none (aqJ I q (by simp))
  | bl j => cases ry; exact PySem.EqMixed.ne_str_bool (aqJ I q (by simp))
  | int j => obtain ⟨t',rfl⟩ := ry; exact PySem.EqMixed.ne_str_int (aqJ I q (by simp))
  | str j => obtain ⟨t',rfl⟩ := ry; exact ne_str (aqJ I q (congrArg not pqj))
  | _ => exact absurd (show false = true from hs) Bool.false_ne_true
 | byt i =>
  obtain ⟨t,rfl⟩ := rx
  cases y with
  | byt j => obtain ⟨t',rfl⟩ := ry; exact PySem.W.ne_bytes (aqJ I q (congrArg not oqd))
  | _ => exact absurd (show false = true from hs) Bool.false_ne_true
 | _ => cases y <;> exact absurd (show false = true from hs) Bool.false_ne_true
theorem oqO : OpR X (compareOp .Lt) (rI0 fun i j => .bl (decide (i < j))) := opB0 fun _ _ _ _ _ _ _ q => lt_int q
theorem mqq : OpR X (compareOp .LtE) (rI0 fun i j => .bl (decide (i ≤ j))) := opB0 fun _ _ _ _ _ _ _ q => le_int q
theorem lql : OpR X (compareOp .Gt) (rI0 fun i j => .bl (decide (j < i))) := opB0 fun _ _ _ _ _ _ _ q => gt_int q
theorem uqu : OpR X (compareOp .GtE) (rI0 fun i j => .bl (decide (j ≤ i))) := opB0 fun _ _ _ _ _ _ _ q => ge_int q
theorem pqr : OpR X (compareOp .In) (fun x y H Q => ∃ i j,x = .str i ∧ y = .str j ∧ Q (.bl (!(Builtin.Str.occurrences j i 0 j.length 1).isEmpty)) H) := by
 intro pins s σ H x y v u Q I rx ry h
 obtain ⟨i,j,rfl,rfl,q⟩ := h
 obtain ⟨t,rfl⟩ := rx
 obtain ⟨t',rfl⟩ := ry
 exact in_str (aqJ I q rfl)
theorem tqw : OpR X (compareOp .Is) (fun x y H Q => y = .non ∧ Q (.bl (decide (x = .non))) H) := by
 intro pins s σ H x y v u Q I rx ry h
 obtain ⟨rfl,q⟩ := h
 cases ry
 refine is_none_gen (aqJ I q ?_)
 cases x <;> first
  | (cases rx; rfl)
  | (obtain ⟨t,rfl⟩ := rx; rfl)
theorem sqE : OpR X (compareOp .IsNot) (fun x y H Q => y = .non ∧ Q (.bl (!decide (x = .non))) H) := by
 intro pins s σ H x y v u Q I rx ry h
 obtain ⟨rfl,q⟩ := h
 cases ry
 refine isnot_none_gen (aqJ I q ?_)
 cases x <;> first
  | (cases rx; rfl)
  | (obtain ⟨t,rfl⟩ := rx; rfl)
theorem lqZ : OpR X (compareOp .NotIn) (fun x y H Q => ∃ i j,x = .str i ∧ y = .str j ∧ Q (.bl (!(!(Builtin.Str.occurrences j i 0 j.length 1).isEmpty))) H) := by
 intro pins s σ H x y v u Q I rx ry h
 obtain ⟨i,j,rfl,rfl,q⟩ := h
 obtain ⟨t,rfl⟩ := rx
 obtain ⟨t',rfl⟩ := ry
 exact notIn_str (aqJ I q rfl)
theorem nomark (b : Expr) {op : CmpOp} (h : op ≠ .In := by decide) (h2 : op ≠ .NotIn := by decide) : behindInMarks op b = false := by
 have e1 : (op == CmpOp.In) = false := by cases op <;> first | rfl | exact absurd rfl h
 have e2 : (op == CmpOp.NotIn) = false := by cases op <;> first | rfl | exact absurd rfl h2
 cases b <;> simp [behindInMarks,e1,e2]
theorem aqE {op : CmpOp} {r : R2} (ho : OpR X (compareOp op) r) (ha : PE X a ta) (hb : PE X b tb) (hm : behindInMarks op b = false) : PE X (.Compare a [op] [b] pos) (tOp r ta tb) := by
 intro pins s σ H Q I h
 exact wpAny_Compare1 (binT ha hb I h fun v u s2 x y H2 I2 rx ry q => ho pins s2 σ H2 x y v u Q I2 rx ry q) hm
def tTest (t : TE) : TT := fun σ H Q => t σ H fun x H' => ∃ k,x = .bl k ∧ Q k H'
theorem aql {op : CmpOp} {r : R2} (ho : OpR X (compareOp op) r) (ha : PE X a ta) (hb : PE X b tb) (hm : behindInMarks op b = false) : PT X (.Compare a [op] [b] pos) (tTest (tOp r ta tb)) := by
 intro pins s σ H Q I h
 refine wpAny_isTrue_Compare1 (thn (ha pins s σ H _ I h) fun v s1 ⟨x,H1,I1,r1,q1⟩ => thn (hb pins s1 σ H1 _ I1 q1) fun u s2 ⟨y,H2,I2,r2,q2⟩ =>
  thn (ho pins s2 σ H2 x y v u _ I2 r1 r2 q2) fun c s3 ⟨z,H3,I3,r3,k,e,q3⟩ => ?_) hm
 subst e
 cases r3
 exact wpAny_truthy_bool ⟨H3,I3,q3⟩
def tChain (r r' : R2) (ta tb tc : TE) : TE := fun σ H Q => ta σ H fun x H1 => tb σ H1 fun y H2 => r x y H2 fun z H3 => ∃ k,z = .bl k ∧
 (if k = true then tc σ H3 fun w' H4 => r' y w' H4 Q else Q (.bl false) H3)
theorem mq3 {op op' : CmpOp} {r r' : R2} (ho : OpR X (compareOp op) r) (ho' : OpR X (compareOp op') r') (ha : PE X a ta) (hb : PE X b tb) (hc : PE X c tc)
  (hm : lastMarks [op,op'] [b,c] = false := by with_unfolding_all rfl) : PE X (.Compare a [op,op'] [b,c] pos) (tChain r r' ta tb tc) := by
 intro pins s σ H Q I h
 refine Compare_chain (thn (ha pins s σ H _ I h) fun v s1 ⟨x,H1,I1,r1,q1⟩ => chain_link (thn (hb pins s1 σ H1 _ I1 q1) fun u s2 ⟨y,H2,I2,r2,q2⟩ =>
  thn (ho pins s2 σ H2 x y v u _ I2 r1 r2 q2) fun d s3 ⟨z,H3,I3,r3,k,e,q3⟩ => ?_)) hm
 subst e
 cases r3
 refine wpAny_truthy_bool ?_
 cases k with
 | false => exact ite_ff ⟨.bl false,H3,I3,rfl,q3⟩
 | true => exact ite_tt (chain_last (thn (hc pins s3 σ H3 _ I3 q3) fun w' s4 ⟨z',H4,I4,r4,q4⟩ => ho' pins s4 σ H4 y z' u w' Q I4 r2 r4 q4))
theorem qqP {op op' : CmpOp} {r r' : R2} (ho : OpR X (compareOp op) r) (ho' : OpR X (compareOp op') r') (ha : PE X a ta) (hb : PE X b tb) (hc : PE X c tc)
  (hm : lastMarks [op,op'] [b,c] = false := by with_unfolding_all rfl) : PT X (.Compare a [op,op'] [b,c] pos) (tTest (tChain r r' ta tb tc)) := by
 intro pins s σ H Q I h
 refine isTrue_chain (thn (ha pins s σ H _ I h) fun v s1 ⟨x,H1,I1,r1,q1⟩ => test_link (thn (hb pins s1 σ H1 _ I1 q1) fun u s2 ⟨y,H2,I2,r2,q2⟩ =>
  thn (ho pins s2 σ H2 x y v u _ I2 r1 r2 q2) fun d s3 ⟨z,H3,I3,r3,k,e,q3⟩ => ?_)) hm
 subst e
 cases r3
 refine wpAny_truthy_bool ?_
 cases k with
 | false =>
  obtain ⟨k',e',q'⟩ := q3
  cases e'
  exact ite_ff ⟨H3,I3,q'⟩
 | true =>
  refine ite_tt (test_last (thn (hc pins s3 σ H3 _ I3 q3) fun w' s4 ⟨z',H4,I4,r4,q4⟩ => thn (ho' pins s4 σ H4 y z' u w' _ I4 r2 r4 q4) fun d' s5 W' => ?_))
  obtain ⟨z2,H5,I5,r5,k2,e2,q5⟩ := W'
  subst e2
  cases r5
  exact wpAny_truthy_bool ⟨H5,I5,q5⟩
theorem line63 : (sizeLine : Nat) < 2 ^ 63 := by rw [sizeLine_eq]; decide
theorem nq1 : OpR X (binaryOp .Add) (fun x y H Q => ∃ i j,x = .str i ∧ y = .str j ∧ i.length + j.length ≤ sizeLine ∧ Q (.str (i ++ j)) H) := by
 intro pins s σ H x y v u Q I rx ry h
 obtain ⟨i,j,rfl,rfl,hz,q⟩ := h
 obtain ⟨t,rfl⟩ := rx
 obtain ⟨t',rfl⟩ := ry
 exact add_str (fun t' tk => ⟨.str (i ++ j),H,I.tok _,⟨_,rfl⟩,q⟩) hz
theorem vals1 {x : V} {us : List Value} (r : Vals [x] us) : ∃ u,us = [u] ∧ RelV x u := by
 cases r with
 | cons r1 r2 => cases r2; exact ⟨_,rfl,r1⟩
theorem vals2 {x y : V} {us : List Value} (r : Vals [x,y] us) : ∃ u w',us = [u,w'] ∧ RelV x u ∧ RelV y w' := by
 cases r with
 | cons r1 r2 =>
  cases r2 with
  | cons r3 r4 => cases r4; exact ⟨_,_,rfl,r1,r3⟩
theorem lqq (hc : X.calm = true) : CallR X (.builtin "max") (fun xs H Q => ∃ i j,xs = [.int i,.int j] ∧ Q (.int (if j > i then j else i)) H) := by
 intro pins s σ H xs us Q I r h
 obtain ⟨i,j,rfl,q⟩ := h
 obtain ⟨u,w',rfl,⟨t,rfl⟩,⟨t',rfl⟩⟩ := vals2 r
 refine max_two_ints (I.ok.hd hc) fun h' tk k => ⟨_,H,I.kept k,?_,q⟩
 by_cases hj : j > i
 ·rw [if_pos hj,if_pos hj]; exact ⟨_,rfl⟩
 ·rw [if_neg hj,if_neg hj]; exact ⟨_,rfl⟩
theorem lq6 : CallR X (.type "int") (fun xs H Q => (∃ i,xs = [.int i] ∧ Q (.int i) H) ∨ ∃ k,xs = [.bl k] ∧ Q (.int (if k then 1 else 0)) H) := by
 intro pins s σ H xs us Q I r h
 rcases h with ⟨i,rfl,q⟩ | ⟨k,rfl,q⟩
 ·obtain ⟨u,rfl,t,rfl⟩ := vals1 r
  exact call_int_int ⟨.int i,H,I,⟨_,rfl⟩,q⟩
 ·obtain ⟨u,rfl,r1⟩ := vals1 r
  cases r1
  exact call_int_bool ⟨.int (if k then 1 else 0),H,I.tok _,⟨_,rfl⟩,q⟩
theorem hq9 : CallR X (.type "str") (fun xs H Q => ∃ i,xs = [.int i] ∧ i.natAbs.log2 < 1920 ∧ Q (.str (toString i)) H) := by
 intro pins s σ H xs us Q I r h
 obtain ⟨i,rfl,hz,q⟩ := h
 obtain ⟨u,rfl,t,rfl⟩ := vals1 r
 exact PySem.P.str_of_int hz ⟨.str _,H,I.tok _,⟨_,rfl⟩,q⟩
end
structure ObjM (h : Heap) (x dx C : Addr) (mA : Str -> Option Value) : Prop where
 obj : h.get? x = some (PySem.W.instObj C dx)
 ns : h.Ns1 dx mA
 ne : dx ≠ x
theorem oq9 {h : Heap} {dx : Addr} {mA : Str -> Option Value} (n : h.Ns1 dx mA) : ∃ od,h.get? dx = some od ∧ ∀ name,PySem.W.lookIn name od = some (mA name) := by
 obtain ⟨o,es,ep,ho,hd,hk,_,hm⟩ := n
 refine ⟨o,ho,fun name => ?_⟩
 have e := hm name
 unfold nsFind findBy at e
 rw [<- Array.find?_toList] at e
 unfold PySem.W.lookIn
 rw [hd]
 dsimp only
 split
 ·rename_i y q
  rw [q] at e
  exact congrArg some e
 ·rename_i q
  rw [q] at e
  have a : es.toList.any (·.refKey) = false := by
   rw [List.any_eq_false]
   intro y hy
   obtain ⟨z,t,hkey⟩ := hk y (Array.mem_toList_iff.mp hy)
   simp [DictEntry.refKey,hkey]
  have a' : ¬ es.toList.any (·.refKey) = true := by rw [a]; exact Bool.false_ne_true
  rw [if_neg a']
  exact congrArg some e
theorem ObjM.look {h : Heap} {x dx C : Addr} {mA : Str -> Option Value} (I : ObjM h x dx C mA) : ∃ od,PySem.W.InstAt h x (PySem.W.instObj C dx) C (some od) ∧ ∀ name,PySem.W.lookIn name od = some (mA name) :=
 let ⟨od,ho,hl⟩ := oq9 I.ns
 ⟨od,⟨I.obj,rfl,rfl,ho⟩,hl⟩
section
variable {prog : Program} {w : World} {A : Around} {E : Value -> Shared -> Prop} {s : Shared} {K : PySem.W.Frag} {x dx C f : Addr} {mA : Str -> Option Value} {name : Str} {v : Value}
end
def putF (f : Str) (v : V) : List (Str × V) -> List (Str × V)
 | [] => [(f,v)]
 | (g,x) :: r => if g = f then (g,v) :: r else (g,x) :: putF f v r
section
variable {P : Program} {w : World} {H H' : Hp} {h h' : Heap} {a C dx : Addr} {fs fs' : List (Str × V)}
theorem rqn (hok : HOk P w H h) (e : H a = some (.ins C dx fs)) : ∃ mA,ObjM h a dx C mA ∧ (∀ f,RelO (fs.lookup f) (mA f)) ∧ PySem.Within mA (fs.map (·.1)) ∧ fs.length ≤ 1000 ∧ H dx = some (.own a) := by
 obtain ⟨d,z,ne,ob,mA,n,r,q⟩ := (show ObjOk P w H h a (.ins C dx fs) from hok a _ e)
 exact ⟨mA,⟨ob,n,ne⟩,r,q,z,d⟩
end
structure Cls (K : PySem.W.Frag) (C : Addr) : Prop where
 pg : PySem.W.plainGet K C Str.empty = true
 hd : PySem.W.hasDictIn K C = true
 po : PySem.W.plainOver K C = true
 sa : PySem.W.findIn K (.ref C) "__setattr__" = some (some (.builtin "object.__setattr__"))
theorem Cls.get {K : PySem.W.Frag} {C : Addr} (c : Cls K C) (f : Str) : PySem.W.plainGet K C f = true := c.pg
def NoAttr (K : PySem.W.Frag) (C : Addr) (f : Str) : Prop := PySem.W.findIn K (.ref C) f = some none
theorem NoAttr.taker {K : PySem.W.Frag} {C : Addr} {f : Str} (n : NoAttr K C f) : PySem.W.takerIn K C f = some none := by
 unfold PySem.W.takerIn
 rw [show PySem.W.findIn K (.ref C) f = some none from n]
 rfl
structure Con (K : PySem.W.Frag) (C : Addr) (f : Str) (v : V) (u : Value) : Prop where
 at_ : PySem.W.findIn K (.ref C) f = some (some u)
 rel : RelV v u
 get : PySem.W.specialIn K u "__get__" = some none
 cp : PySem.W.copiedNames.contains f = false
structure Meth (K : PySem.W.Frag) (C : Addr) (m : Str) (f : Addr) : Prop where
 at_ : PySem.W.findIn K (.ref C) m = some (some (.ref f))
 fn : PySem.W.isFn K (.ref f) = true
 kp : PySem.W.keepIn K (.ref f) = true
section
variable {X : Cx} {pins : List (Addr × Obj)} {σ : St} {H : Hp} {s : Shared} {a C dx : Addr} {fs : List (Str × V)} {f : Str} {v : V} {A : Around} {E : Value -> Shared -> Prop}
end
def tFld (K : PySem.W.Frag) (ta : TE) (f : Str) : TE := fun σ H Q => ta σ H fun x H1 => ∃ a C dx fs v,x = .ref a ∧ H1 a = some (.ins C dx fs) ∧ Cls K C ∧ NoAttr K C f ∧ fs.lookup f = some v ∧ Q v H1
def sFld (K : PySem.W.Frag) (ta tv : TE) (f : Str) : TS := fun D σ H => tv σ H fun y H1 => ta σ H1 fun x H2 => ∃ a C dx fs,x = .ref a ∧ H2 a = some (.ins C dx fs) ∧ Cls K C ∧ NoAttr K C f ∧ fs.length < 1000 ∧
 D.nx σ (upd H2 a (.ins C dx (putF f y fs)))
section
variable {X : Cx} {o e value : Expr} {f : Str} {pos pos' tpos : Pos} {ta tv : TE}
end
section
variable {X : Cx} {pins : List (Addr × Obj)} {σ : St} {H : Hp} {s : Shared} {A : Around} {E : Value -> Shared -> Prop} {Q : Value -> Shared -> Prop} {c : Value} {b : Bool}
inductive TyOf (K : PySem.W.Frag) (H : Hp) : V -> Value -> Prop where
 | non : TyOf K H .non (.type "NoneType")
 | bl (x : Bool) : TyOf K H (.bl x) (.type "bool")
 | int (i : Int) : TyOf K H (.int i) (.type "int")
 | str (x : Str) : TyOf K H (.str x) (.type "str")
 | flt (x : UInt64) : TyOf K H (.flt x) (.type "float")
 | lst {a : Addr} {xs : List V} (e : H a = some (.lst xs)) : TyOf K H (.ref a) (.type "list")
 | frz {a : Addr} {o : Obj} {xs : List V} (e : H a = some (.frz o (.lst xs))) : TyOf K H (.ref a) (.type "list")
 | tup {a : Addr} {xs : List V} (e : H a = some (.tup xs)) : TyOf K H (.ref a) (.type "tuple")
 | dK {a : Addr} {kvs : List (Key × V)} (e : H a = some (.dK kvs)) : TyOf K H (.ref a) (.type "dict")
 | dT {a : Addr} {kvs : List (List Key × V)} (e : H a = some (.dT kvs)) : TyOf K H (.ref a) (.type "dict")
 | ins {a C dx : Addr} {fs : List (Str × V)} (e : H a = some (.ins C dx fs)) (cl : Cls K C) (ha : PySem.W.findIn K (.ref C) "__class__" = some (some (.builtin "object.__class__")))
   (hn : PySem.W.specialIn K (.builtin "object.__class__") "__get__" = some (some (.builtin "getset_descriptor.__get__"))) (htk : PySem.W.takesIn K (.builtin "object.__class__") = some true)
   (hm : PySem.W.mroIn K C (.type "object") = some true) : TyOf K H (.ref a) (.ref C)
theorem oqe {x : V} {u t : Value} (I : Inv X pins σ H s) (rx : RelV x u) (ty : TyOf X.K H x t) (e : PySem.W.kitOne X.K t c = some b) (h : ∀ tk,Q (.bool b) { s with toks := tk }) :
  wpAny (model X.prog X.w) A (call (.builtin "isinstance") [u,c]) Q E s := by
 cases ty with
 | non => cases (show u = Value.none from rx); exact PySem.W.kia_one PySem.W.kitx_none I.kIn True.intro e (fun z => nomatch z) h
 | bl y => cases (show u = Value.bool y from rx); exact PySem.W.kia_one PySem.W.kitx_bool I.kIn True.intro e (fun z => nomatch z) h
 | int i => obtain ⟨t,q⟩ := (show ∃ t,u = Value.int i t from rx); cases q; exact PySem.W.kia_one PySem.W.kitx_int I.kIn True.intro e (fun z => nomatch z) h
 | str y => obtain ⟨t,q⟩ := (show ∃ t,u = Value.str y t from rx); cases q; exact PySem.W.kia_one PySem.W.kitx_str I.kIn True.intro e (fun z => nomatch z) h
 | flt y => obtain ⟨t,q⟩ := (show ∃ t,u = Value.float y t from rx); cases q; exact PySem.W.kia_one PySem.W.kitx_float I.kIn True.intro e (fun z => nomatch z) h
 | @lst a xs ea =>
  cases (show u = Value.ref a from rx)
  obtain ⟨_,_,n,_,h1⟩ := (show ObjOk X.prog X.w H s.heap a (.lst xs) from I.hok a _ ea)
  exact PySem.W.kia_one PySem.W.kitx_list I.kIn ⟨_,h1,rfl⟩ e (fun z => nomatch z) h
 | @frz a ob xs ea =>
  cases (show u = Value.ref a from rx)
  obtain ⟨_,_,_,n,_,h1⟩ := (show ObjOk X.prog X.w H s.heap a (.frz ob (.lst xs)) from I.hok a _ ea)
  exact PySem.W.kia_one PySem.W.kitx_list I.kIn ⟨_,h1,rfl⟩ e (fun z => nomatch z) h
 | @tup a xs ea =>
  cases (show u = Value.ref a from rx)
  obtain ⟨_,_,_,p⟩ := (show ObjOk X.prog X.w H s.heap a (.tup xs) from I.hok a _ ea)
  obtain ⟨o,h1,h2,_⟩ := p
  exact PySem.W.kia_one PySem.W.kitx_tuple I.kIn ⟨o,h1,h2⟩ e (fun z => nomatch z) h
 | @dK a kvs ea =>
  cases (show u = Value.ref a from rx)
  obtain ⟨_,_,vs,_,p⟩ := (show ObjOk X.prog X.w H s.heap a (.dK kvs) from I.hok a _ ea)
  obtain ⟨o,es,ep,h1,h2,_⟩ := p
  exact PySem.W.kia_one PySem.W.kitx_dict I.kIn ⟨o,h1,h2.1⟩ e (fun z => nomatch z) h
 | @dT a kvs ea =>
  cases (show u = Value.ref a from rx)
  obtain ⟨_,_,xs,_,o,es,ep,h1,h2,_⟩ := (show ObjOk X.prog X.w H s.heap a (.dT kvs) from I.hok a _ ea)
  exact PySem.W.kia_one PySem.W.kitx_dict I.kIn ⟨o,h1,h2.1⟩ e (fun z => nomatch z) h
 | @ins a C dx fs ea cl ha hn htk hm =>
  cases (show u = Value.ref a from rx)
  obtain ⟨mA,O,_⟩ := rqn I.hok ea
  obtain ⟨od,J,_⟩ := O.look
  exact PySem.W.kia_one (PySem.W.kitx_own (cl.get _) cl.hd ha hn htk hm) I.kIn J e (fun z => nomatch z) h
end
structure Room (k : Nat) (A : Around) : Prop where
 hd : A.handled = none
 dp : A.depth + 3 * k + 5 < recursionLimit
 un : A.units + 16 * k + 200 < cLine
theorem Room.mono {j k : Nat} {A : Around} (r : Room k A) (h : j ≤ k) : Room j A := ⟨r.hd,by have := r.dp; omega,by have := r.un; omega⟩
theorem Room.deeper {k : Nat} {A : Around} (r : Room (k + 1) A) (env : Env) : Room k (A.deeper env) :=
 ⟨r.hd,by have := r.dp; show A.depth + 1 + 3 * k + 5 < _; omega,by have := r.un; show A.units + 3 + 16 * k + 200 < _; omega⟩
theorem nqP {A : Around} {C : Addr} {us : List Value} {kw : List (Str × Value)} : (A.under (.builtin "type.__call__" ⟨.ref C :: us,kw⟩)).depth = A.depth + 1 := by
 first | rfl | simp [Around.under,Code.weight,Code.isCreation,Code.isGuard,Code.isCaller,Code.frames,Code.isFrame,guardIds]
theorem nqu {A : Around} {C : Addr} {us : List Value} {kw : List (Str × Value)} : (A.under (.builtin "type.__call__" ⟨.ref C :: us,kw⟩)).units = A.units + 1 := by
 first | rfl | simp [Around.under,Code.cUnits,Code.frames,Code.isFrame]
theorem Room.make {k : Nat} {A : Around} (r : Room (k + 1) A) (C : Addr) (us : List Value) (kw : List (Str × Value)) : Room k (A.under (.builtin "type.__call__" ⟨.ref C :: us,kw⟩)) :=
 ⟨r.hd,by have := r.dp; rw [nqP]; omega,by have := r.un; rw [nqu]; omega⟩
theorem Room.depth {k : Nat} {A : Around} (r : Room k A) : A.depth < recursionLimit := by have := r.dp; omega
theorem Room.units {k : Nat} {A : Around} (r : Room k A) : A.units + 64 < cLine := by have := r.un; omega
def tNil : TA := fun _ H Q => Q [] H
def tCons (ta : TE) (tr : TA) : TA := fun σ H Q => ta σ H fun x H1 => tr σ H1 fun xs H2 => Q (x :: xs) H2
section
variable {X : Cx} {e : Expr} {es : List Expr} {te : TE} {t : TA} {pos : Pos}
theorem aqb : PA X [] tNil := fun _ _ _ _ H Q I h => Calls.spliced_nil ⟨[],H,I,.nil,h⟩
theorem aqa (ha : PE X e te) (hr : PA X es t) (hs : starEach (e :: es) X.env = (false,eval e X.env) :: starEach es X.env := by rfl) : PA X (e :: es) (tCons te t) := by
 intro pos pins s σ H Q I h
 rw [hs]
 show wpAny _ _ (spliced ((false,eval e X.env) :: backTo pos (starEach es X.env))) _ _ s
 refine Calls.spliced_cons (thn (ha pins s σ H _ I h) fun u s1 W' => ?_)
 obtain ⟨x,H1,I1,r1,q1⟩ := W'
 exact thn (hr pos pins s1 σ H1 _ I1 q1) fun us s2 ⟨xs,H2,I2,r2,q2⟩ => ⟨x :: xs,H2,I2,.cons r1 r2,q2⟩
def tTup (t : TA) : TE := fun σ H Q => t σ H fun xs H1 => xs.length ≤ sizeLine ∧ ∀ p,H1 p = none -> Q (.ref p) (upd H1 p (.tup xs))
def tLst (t : TA) : TE := fun σ H Q => t σ H fun xs H1 => xs.length ≤ sizeLine ∧ ∀ p,H1 p = none -> Q (.ref p) (upd H1 p (.lst xs))
end
abbrev Sp := List V -> Hp -> VK -> XK -> Prop
abbrev CXT := List Env -> Hp -> Shared -> XK -> Value -> Shared -> Prop
structure Env0 (P : Program) (w : World) (K : PySem.W.Frag) (mg : Str -> Option Value) (base : Heap) (A : Around) (outer : List Env) (s : Shared) (H : Hp) : Prop where
 frames : A.frames = some outer
 mod : Mod K mg base
 bs : ∀ b o,base.get? b = some o -> s.heap.get? b = some o ∧ H b = none
 bsz : base.objs.size ≤ s.heap.objs.size
 funs : s.heap.FunFrames base outer
 frf : ∀ b ∈ frs outer,H b = none
 hok : HOk P w H s.heap
 bare : AllBare s.gens
def CE (outer : List Env) (P : Program) (w : World) (H : Hp) (s : Shared) (Q : VK) (u : Value) (s' : Shared) : Prop :=
 ∃ v H',s'.os = s.os ∧ AllBare s'.gens ∧ Un (frs outer) [] H H' s.heap s'.heap ∧ HOk P w H' s'.heap ∧ RelV v u ∧ Q v H'
def CR (CX : CXT) (outer : List Env) (P : Program) (w : World) (H : Hp) (s : Shared) (Q : VK) (E : XK) (r : Result) (s' : Shared) : Prop :=
 match r with
 | .ok (.ret u) => CE outer P w H s Q u s'
 | .ok _ => False
 | .error e => CX outer H s E e s'
structure FnOk (P : Program) (w : World) (K : PySem.W.Frag) (mg : Str -> Option Value) (base : Heap) (CX : CXT) (k : Nat) (f : Addr) (fd : FuncData) (ps : List Str) (sp : Sp) : Prop where
 len : ∀ vs H Q E,sp vs H Q E -> vs.length = ps.length
 run : ∀ (A : Around) (outer : List Env) (s : Shared) (H : Hp) (args : Args) (us : List Value) (vs : List V) (Q : VK) (E : XK),Room k A -> Env0 P w K mg base A outer s H -> BindsTo s fd args (ps.zip us) -> Vals vs us -> sp vs H Q E ->
  codeAny (model P w) A (.call (.ref f) args) (CR CX outer P w H s Q E) s
theorem Env0.make {P : Program} {w : World} {K : PySem.W.Frag} {mg : Str -> Option Value} {base : Heap} {A : Around} {outer : List Env} {s : Shared} {H : Hp} (e : Env0 P w K mg base A outer s H) (C : Addr) (us : List Value) (kw : List (Str × Value)) :
  Env0 P w K mg base (A.under (.builtin "type.__call__" ⟨.ref C :: us,kw⟩)) outer s H := ⟨by first | exact e.frames | (simpa [Around.under,Code.envs,Code.isFrame,pushEnvs] using e.frames),e.mod,e.bs,e.bsz,e.funs,e.frf,e.hok,e.bare⟩
section
variable {X : Cx} {pins : List (Addr × Obj)} {σ : St} {H : Hp} {s s' : Shared}
theorem Inv.env0 (I : Inv X pins σ H s) : Env0 X.prog X.w X.K X.mg X.base X.A X.stack s H :=
 ⟨I.ok.frames,I.ok.mod,I.bs,Nat.le_trans I.ok.bsz I.sz,I.stack,I.stkFree,I.hok,I.bare⟩
theorem Inv.after {Q : VK} {u : Value} (I : Inv X pins σ H s) (h : CE X.stack X.prog X.w H s Q u s') : EP X pins σ Q u s' := by
 obtain ⟨v,H',os,bare,un,hok,r,q⟩ := h
 obtain ⟨hh,g,d,t,os'⟩ := s'
 obtain rfl : os' = s.os := os
 exact ⟨v,H',I.call (h' := hh) (g' := g) (d' := d) (t' := t) (ch := []) un hok bare (fun b z => absurd z (by simp)),r,q⟩
end
def tCall (sp : Sp) (dvs : List V) (E : XK) (t : TA) : TE := fun σ H Q => t σ H fun vs H1 => sp (vs ++ dvs) H1 Q E
def tMeth (C : Addr) (m : Str) (sp : Sp) (dvs : List V) (E : XK) (ta : TE) (t : TA) : TE := fun σ H Q => ta σ H fun x H1 => ∃ a dx fs,x = .ref a ∧ H1 a = some (.ins C dx fs) ∧ fs.lookup m = none ∧
 t σ H1 fun vs H2 => sp (x :: (vs ++ dvs)) H2 Q E
def tMake (C : Addr) (sp : Sp) (dvs : List V) (E : XK) (t : TA) : TE := fun σ H Q => t σ H fun vs H1 => ∀ x dx,H1 x = none -> H1 dx = none -> dx ≠ x ->
 sp (.ref x :: (vs ++ dvs)) (upd (upd H1 dx (.own x)) x (.ins C dx [])) (fun v H2 => v = .non ∧ Q (.ref x) H2) E
def Binds (K : PySem.W.Frag) (fd : FuncData) (ps : List Str) (ds : List Value) : Prop :=
 ∀ (s : Shared) (us : List Value),K.In s.heap -> (us ++ ds).length = ps.length -> BindsTo s fd ⟨us,[]⟩ (ps.zip (us ++ ds))
theorem Binds.all {K : PySem.W.Frag} {fd : FuncData} {ps : List Str} (h : ∀ us : List Value,us.length = ps.length -> bindArgs fd ⟨us,[]⟩ = pure (ps.zip us)) : Binds K fd ps [] := fun s us _ hl => by
 rw [List.append_nil] at hl ⊢
 exact .of_eq (h us hl)
def Passes (CX : CXT) (X : Cx) (E : XK) : Prop := ∀ (pins : List (Addr × Obj)) (σ : St) (H : Hp) (s : Shared) (e : Value) (s' : Shared),Inv X pins σ H s -> CX X.stack H s E e s' -> X.xe e s'
section
variable {X : Cx} {CX : CXT} {k : Nat} {f C : Addr} {fd : FuncData} {ps : List Str} {sp : Sp} {dvs : List V} {ds : List Value} {E : XK} {x m : Str} {p pos apos : Pos} {e o : Expr} {es : List Expr} {ta : TE} {t : TA}
theorem sq4 {pins : List (Addr × Obj)} {σ : St} {H : Hp} {s : Shared} {Q : VK} {us : List Value} {vs : List V} (F : FnOk X.prog X.w X.K X.mg X.base CX k f fd ps sp) (hr : Room k X.A) (hb : Binds X.K fd ps ds) (hd : Vals dvs ds) (hx : Passes CX X E)
  (I : Inv X pins σ H s) (r : Vals vs us) (h : sp (vs ++ dvs) H Q E) : wpAny (model X.prog X.w) X.A (call (.ref f) us) (EP X pins σ Q) X.xe s := by
 have r2 : Vals (vs ++ dvs) (us ++ ds) := r.append hd
 have hl : (us ++ ds).length = ps.length := by rw [<- r2.length]; exact F.len _ _ _ _ h
 refine wpAny_call (codeAny_mono (F.run X.A X.stack s H ⟨us,[]⟩ (us ++ ds) (vs ++ dvs) Q E hr I.env0 (hb s us I.kIn hl) r2 h) fun r s' hq => ?_)
 cases r with
 | error e => exact hx pins σ H s e s' I hq
 | ok fl =>
  cases fl with
  | ret u => exact I.after hq
  | next => exact False.elim hq
  | brk => exact False.elim hq
  | cont => exact False.elim hq
theorem aqi (F : FnOk X.prog X.w X.K X.mg X.base CX k f fd ps sp) (hr : Room k X.A) (hg : Gl X x) (hm : X.mg x = some (.ref f)) (hk : PySem.W.keepIn X.K (.ref f) = true) (hb : Binds X.K fd ps ds) (hd : Vals dvs ds) (hx : Passes CX X E)
  (ha : PA X (e :: es) t) (hdb : (x == ("__debug__" : Str)) = false := by decide) (he : starEach (e :: es) X.env = (false,eval e X.env) :: starEach es X.env := by rfl) (hpl : (backTo pos (starEach es X.env)).any (·.1) = false := by rfl) :
  PE X (.Call (.Name x p) (e :: es) [] pos) (tCall sp dvs E t) := by
 intro pins s σ H Q I h
 refine wpAny_Call_Name_kw (mqR I hg hm ?_ hdb)
 refine PySem.W.callWith_K (h₀ := X.base) I.ok.mod.kin hk (thn (ha pos pins s σ H _ I h) fun us s1 ⟨vs,H1,I1,r,q⟩ => ⟨I1.kIn,?_⟩) he hpl
 exact sq4 F hr hb hd hx I1 r q
structure Mk (K : PySem.W.Frag) (C f : Addr) : Prop where
 makes : PySem.W.makesIn K C = true
 init : PySem.W.findIn K (.ref C) "__init__" = some (some (.ref f))
 fn : PySem.W.isFn K (.ref f) = true
 kp : PySem.W.keepIn K (.ref C) = true
end
section
variable {X : Cx} {CX : CXT} {k : Nat} {f C : Addr} {fd : FuncData} {ps ks : List Str} {sp : Sp} {E : XK} {x m : Str} {p pos apos kpos : Pos} {e o : Expr} {es : List Expr} {kws : List Keyword} {te ta : TE} {t tk : TA} {nm : Option Str}
structure KBinds (K : PySem.W.Frag) (fd : FuncData) (ps ks : List Str) (g : List Value -> List Value -> List Value) (gV : List V -> List V -> List V) : Prop where
 to : ∀ (s : Shared) (us ws : List Value),K.In s.heap -> (g us ws).length = ps.length -> BindsTo s fd ⟨us,ks.zip ws⟩ (ps.zip (g us ws))
 rel : ∀ {vs : List V} {us : List Value} {zs : List V} {ws : List Value},Vals vs us -> Vals zs ws -> Vals (gV vs zs) (g us ws)
variable {g : List Value -> List Value -> List Value} {gV : List V -> List V -> List V}
end
structure FnScope (N P : List Str) (sc : Scope) : Prop where
 kind : sc.kind = .function
 co : sc.isCoroutine = false
 gen : sc.isGenerator = false
 nd : N.Nodup
 pre : N.take P.length = P
 par : ∀ x ∈ P,sc.names.lookup x = some .local ∨ sc.names.lookup x = some .cell
 nofree : ∀ y ∈ sc.names,y.2 ≠ .free
theorem lqA {kindOf : Str -> Option NameKind} {x : Str} : ∀ {binds : List (Str × Value)} {m : Str -> Option Value},(∀ v,(x,v) ∉ binds) -> bindL kindOf binds m x = m x
 | [],_,_ => rfl
 | (n,v) :: r,m,h => by
  unfold bindL
  rw [lqA fun w hw => h w (List.mem_cons_of_mem _ hw)]
  split
  ·have : x ≠ n := by rintro rfl; exact h v List.mem_cons_self
   simp [this]
  ·rfl
theorem lqy {kindOf : Str -> Option NameKind} {x : Str} : ∀ {binds : List (Str × Value)} {m : Str -> Option Value},(∀ v,(x,v) ∉ binds) -> bindC kindOf binds m x = m x
 | [],_,_ => rfl
 | (n,v) :: r,m,h => by
  unfold bindC
  rw [lqy fun w hw => h w (List.mem_cons_of_mem _ hw)]
  split
  ·rfl
  ·have : x ≠ n := by rintro rfl; exact h v List.mem_cons_self
   simp [this]
theorem lqc {kindOf : Str -> Option NameKind} {x : Str} {v : Value} : ∀ {P : List Str} {vs : List Value} {i : Nat} {m : Str -> Option Value},P.Nodup -> P[i]? = some x -> vs[i]? = some v -> kindOf x = some .local ->
  bindL kindOf (P.zip vs) m x = some v
 | [],_,_,_,_,h,_,_ => by simp at h
 | _ :: _,[],_,_,_,_,h,_ => by simp at h
 | p :: P,w :: vs,0,m,nd,h1,h2,hk => by
  simp at h1 h2; subst h1; subst h2
  show bindL kindOf ((p,w) :: P.zip vs) m p = _
  unfold bindL
  rw [lqA fun v hv => (List.nodup_cons.mp nd).1 (List.of_mem_zip hv).1,if_pos hk]
  simp
 | p :: P,w :: vs,i + 1,m,nd,h1,h2,hk => by
  show bindL kindOf ((p,w) :: P.zip vs) m x = _
  unfold bindL
  exact lqc (i := i) (List.nodup_cons.mp nd).2 (by simpa using h1) (by simpa using h2) hk
theorem lqb {kindOf : Str -> Option NameKind} {x : Str} {v : Value} : ∀ {P : List Str} {vs : List Value} {i : Nat} {m : Str -> Option Value},P.Nodup -> P[i]? = some x -> vs[i]? = some v -> kindOf x ≠ some .local ->
  bindC kindOf (P.zip vs) m x = some v
 | [],_,_,_,_,h,_,_ => by simp at h
 | _ :: _,[],_,_,_,_,h,_ => by simp at h
 | p :: P,w :: vs,0,m,nd,h1,h2,hk => by
  simp at h1 h2; subst h1; subst h2
  show bindC kindOf ((p,w) :: P.zip vs) m p = _
  unfold bindC
  rw [lqy fun v hv => (List.nodup_cons.mp nd).1 (List.of_mem_zip hv).1,if_neg hk]
  simp
 | p :: P,w :: vs,i + 1,m,nd,h1,h2,hk => by
  show bindC kindOf ((p,w) :: P.zip vs) m x = _
  unfold bindC
  exact lqb (i := i) (List.nodup_cons.mp nd).2 (by simpa using h1) (by simpa using h2) hk
def start (N : List Str) (vs : List V) : St := vs.map some ++ List.replicate (N.length - vs.length) none
def cxOf (CX : CXT) (P : Program) (w : World) (K : PySem.W.Frag) (mg : Str -> Option Value) (base : Heap) (N : List Str) (qual : Str) (scope : Scope) (f : Addr) (cd : Value) (A : Around) (outer : List Env) (s : Shared) (H : Hp) (E : XK) : Cx where
 prog := P
 w := w
 K := K
 mg := mg
 base := base
 A := A.deeper (envOfC qual scope s.heap.objs.size f cd)
 N := N
 s₀ := s
 H₀ := H
 env := envOfC qual scope s.heap.objs.size f cd
 outer := outer
 stack := envOfC qual scope s.heap.objs.size f cd :: outer
 ex := []
 calm := true
 fn := fun _ => true
 pn := []
 xe := fun e s' => wpAny (model P w) (A.deeper (envOfC qual scope s.heap.objs.size f cd)) (leaving (envOfC qual scope s.heap.objs.size f cd) e) (fun _ s'' => CX outer H s E e s'') (fun e' s'' => CX outer H s E e' s'') s'
theorem mqX {sc : Scope} {n : Nat} {x : Str} (h : sc.names.lookup x = some .cell) : ∃ c,(cellsFrom n sc.names []).lookup x = some c := by
 have q := PySem.W.cellsFrom_some sc.names n [] (.inl h)
 exact Option.isSome_iff_exists.mp q
theorem oqK {CX : CXT} {P : Program} {w : World} {K : PySem.W.Frag} {mg : Str -> Option Value} {base : Heap} {N ps : List Str} {qual : Str} {scope : Scope} {f : Addr} {cd : Value} {A : Around} {outer : List Env} {s s1 : Shared} {H : Hp} {E : XK} {us : List Value} {vs : List V}
  (S : FnScope N ps scope) (hd : A.handled = none) (e0 : Env0 P w K mg base A outer s H) (hl : vs.length = ps.length) (r : Vals vs us)
  (x : InCallC s s.heap.objs.size (bindL (envOfC qual scope s.heap.objs.size f cd).kindOf (ps.zip us) fun _ => none) (cellsFrom (s.heap.objs.size + 1) scope.names []) (bindC (envOfC qual scope s.heap.objs.size f cd).kindOf (ps.zip us) fun _ => none) s1) :
  Inv (cxOf CX P w K mg base N qual scope f cd A outer s H E) [] (start N vs) H s1 := by
 have hpl : ps.length ≤ N.length := by have := congrArg List.length S.pre; rw [List.length_take] at this; omega
 obtain ⟨h1,tk,rfl,hk⟩ := x.done
 have noA : ∀ b : Addr,b ∉ (cxOf CX P w K mg base N qual scope f cd A outer s H E).ex := fun b z => absurd (show b ∈ ([] : List Addr) from z) (by simp)
 refine ⟨⟨e0.mod,S.kind,rfl,rfl,Nat.le_refl _,fun y z c h1 h2 => ?_,fun y hy => ?_,fun y c _ h => ?_,fun _ => hd,Around.frames_deeper e0.frames,.inr ⟨rfl,rfl⟩,fun b z => absurd z (noA b),e0.bs,e0.bsz,fun b _ _ => noA b,fun b z => absurd z (noA b),e0.funs,e0.frf⟩,
  rfl,e0.bare,Un.kept hk,⟨_,x.toInCall.ns,fun i y v h1 h2 h3 => ?_⟩,fun y c h => ⟨_,x.cell y c h⟩,e0.hok.fresh (Nat.le_refl _),fun y c h => ?_,fun p hp => absurd (show p ∈ ([] : List (Addr × Obj)) from hp) (by simp),e0.hok.kept hk,?_⟩
 ·exact name_of_addr x.apart (PySem.mem_of_lookup h1) (PySem.mem_of_lookup h2)
 ·have hy : scope.names.lookup y = some .cell ∨ scope.names.lookup y = some .free := hy
  rcases hy with hy | hy
  ·exact mqX hy
  ·exact absurd rfl (S.nofree _ (PySem.mem_of_lookup hy))
 ·exact Nat.le_of_lt (x.above y c (PySem.mem_of_lookup h))
 ·have hi : i < vs.length := by
   unfold start at h2
   by_cases hi : i < vs.length
   ·exact hi
   ·rw [List.getElem?_append_right (by simpa using hi)] at h2
    rw [List.getElem?_replicate] at h2
    split at h2 <;> cases h2
  have ha : vs[i]? = some v := by
   unfold start at h2
   rw [List.getElem?_append_left (by simpa using hi),List.getElem?_map] at h2
   cases e : vs[i]? with
   | none => rw [e] at h2; cases h2
   | some a => rw [e] at h2; cases h2; rfl
  obtain ⟨u,hu,rv⟩ := r.get ha
  have hp : ps[i]? = some y := by
   rw [<- S.pre,List.getElem?_take_of_lt (by omega)]; exact h1
  have ndP : ps.Nodup := by rw [<- S.pre]; exact S.nd.sublist (List.take_sublist _ _)
  refine ⟨u,rv,?_⟩
  rcases S.par y (List.mem_of_getElem? hp) with k | k
  ·exact .inl ⟨k,lqc ndP hp hu k⟩
  ·obtain ⟨c,e⟩ := mqX (n := s.heap.objs.size + 1) k
   refine .inr ⟨.inl k,c,e,?_⟩
   have q := x.cell y c e
   rw [lqb ndP hp hu (by show scope.names.lookup y ≠ _; rw [k]; decide)] at q
   exact q
 ·exact e0.hok.fresh (Nat.le_of_lt (x.above y c (PySem.mem_of_lookup h)))
 ·unfold start
  show _ = N.length
  rw [List.length_append,List.length_map,List.length_replicate]
  omega
theorem tqL {CX : CXT} {P : Program} {w : World} {K : PySem.W.Frag} {mg : Str -> Option Value} {base : Heap} {k : Nat} {f : Addr} {name qual : Str} {params : Arguments} {body : List Stmt} {scope : Scope} {dV kV doc pm cdv ct oc : Value} {an od : Option Addr}
  {osl : Array (Option Value)} {N ps : List Str} {sp : Sp} (lk : K.lookup f = some ⟨oc,od,.func (PySem.W.fnOf name qual params body scope dV kV doc pm an cdv ct),osl⟩) (hcd : PySem.W.codeIn K cdv qual = true) (S : FnScope N ps scope)
  (len : ∀ vs H Q E,sp vs H Q E -> vs.length = ps.length)
  (hbody : ∀ (A : Around) (outer : List Env) (s : Shared) (H : Hp) (vs : List V) (Q : VK) (E : XK),Room k (A.deeper (envOfC qual scope s.heap.objs.size f cdv)) -> sp vs H Q E ->
   ∃ t,PSs (cxOf CX P w K mg base N qual scope f cdv A outer s H E) body t ∧ t { nx := fun _ H' => Q .non H',rt := Q } (start N vs) H) :
  FnOk P w K mg base CX (k + 1) f (PySem.W.fnOf name qual params body scope dV kV doc pm an cdv ct) ps sp := by
 refine ⟨len,fun A outer s H args us vs Q E hr e0 hb r hsp => ?_⟩
 have hl := len _ _ _ _ hsp
 have KX : K.In s.heap := e0.mod.kin.keeps fun b o e => (e0.bs b o e).1
 have lim : s.heap.NoLimit := e0.mod.nolimit.keeps fun b o e => (e0.bs b o e).1
 have hkind : ∀ y ∈ ps.zip us,scope.names.lookup y.1 = some .local ∨ (scope.names.lookup y.1 = some .cell ∧ ((cellsFrom (s.heap.objs.size + 1) scope.names []).lookup y.1).isSome = true) := fun ⟨n,v⟩ hy => by
  rcases S.par n (List.of_mem_zip hy).1 with q | q
  ·exact .inl q
  ·exact .inr ⟨q,PySem.W.cellsFrom_some _ _ _ (.inl q)⟩
 refine codeAny_call_function hr.depth (KX _ _ lk) rfl S.co S.gen rfl (PySem.W.codeRec_of KX hcd) (hb _ _ _ _ ?_)
 refine wpAny_newFunctionEnv_cells S.kind hkind fun env he s1 x => ?_
 subst he
 refine ⟨lim.keeps x.toInCall.keep,codeAny_func ?_⟩
 obtain ⟨t,ht,hq⟩ := hbody A outer s H vs Q E (hr.deeper _) hsp
 have I : Inv (cxOf CX P w K mg base N qual scope f cdv A outer s H E) [] (start N vs) H s1 := oqK S hr.hd e0 hl r x
 refine wpAny_mono (ht [] s1 (start N vs) H _ I hq) (fun fl s' hs => ?_) fun e s' hs => hs
 have fin : ∀ {σ' : St} {H' : Hp} {v : V} {u : Value},Inv (cxOf CX P w K mg base N qual scope f cdv A outer s H E) [] σ' H' s' -> RelV v u -> Q v H' -> CE outer P w H s Q u s' :=
  fun {σ' H' v u} J rv q => ⟨v,H',J.os,J.bare,J.base,J.hok,rv,q⟩
 cases fl with
 | ret u =>
  obtain ⟨v,σ',H',J,rv,q⟩ := hs
  exact fin J rv q
 | next =>
  obtain ⟨σ',H',J,q⟩ := hs
  exact fin (v := V.non) (u := Value.none) J rfl q
 | brk =>
  obtain ⟨_,_,_,q⟩ := hs
  exact False.elim q
 | cont =>
  obtain ⟨_,_,_,q⟩ := hs
  exact False.elim q
section
variable {X : Cx} {x : Str} {p pos : Pos} {e : Expr} {es : List Expr} {t : TA} {id T : String} {r : List V -> Hp -> VK -> Prop}
def tCB (r : List V -> Hp -> VK -> Prop) (t : TA) : TE := fun σ H Q => t σ H fun vs H1 => r vs H1 Q
theorem aqq (hc : CallR X (.builtin id) r) (hg : Gl X x) (hm : X.mg x = none) (hv : bootBuiltins x = some (.builtin id)) (ha : PA X (e :: es) t) (hn : x ≠ "__name__" := by decide) (hdb : (x == ("__debug__" : Str)) = false := by decide)
  (he : starEach (e :: es) X.env = (false,eval e X.env) :: starEach es X.env := by rfl) (hpl : (backTo pos (starEach es X.env)).any (·.1) = false := by rfl) : PE X (.Call (.Name x p) (e :: es) [] pos) (tCB r t) := by
 intro pins s σ H Q I h
 refine wpAny_Call_Name_kw (gqN I hg hm hv ?_ hn hdb)
 exact PyProof.Rows.callWith_builtin1 (thn (ha pos pins s σ H _ I h) fun us s1 ⟨vs,H1,I1,r1,q1⟩ => hc pins s1 σ H1 vs us Q I1 r1 q1) he hpl
theorem aqN (hc : CallR X (.type T) r) (hg : Gl X x) (hm : X.mg x = none) (hv : bootBuiltins x = some (.type T)) (ha : PA X (e :: es) t) (hn : x ≠ "__name__" := by decide) (hdb : (x == ("__debug__" : Str)) = false := by decide)
  (he : starEach (e :: es) X.env = (false,eval e X.env) :: starEach es X.env := by rfl) (hpl : (backTo pos (starEach es X.env)).any (·.1) = false := by rfl) : PE X (.Call (.Name x p) (e :: es) [] pos) (tCB r t) := by
 intro pins s σ H Q I h
 refine wpAny_Call_Name_kw (gqN I hg hm hv ?_ hn hdb)
 exact PyProof.Rows.callWith_type1 (thn (ha pos pins s σ H _ I h) fun us s1 ⟨vs,H1,I1,r1,q1⟩ => hc pins s1 σ H1 vs us Q I1 r1 q1) he hpl
end
end L2
namespace HT
open PySem PyProof.Rows
def lexLt : List Int -> List Int -> Bool
 | [],[] => false
 | [],_ :: _ => true
 | _ :: _,[] => false
 | x :: xs,y :: ys => if x = y then lexLt xs ys else decide (x < y)
theorem nqw (x y : Int) (xs ys : List Int) : lexLt (x :: xs) (y :: ys) = if x = y then lexLt xs ys else decide (x < y) := rfl
theorem kqL : lexLt [] [] = false := rfl
theorem jqv (y : Int) (ys : List Int) : lexLt [] (y :: ys) = true := rfl
theorem jqr (x : Int) (xs : List Int) : lexLt (x :: xs) [] = false := rfl
theorem pq2 (A : Around) (s : Shared) (a : Int) (t : Tok) (c : Int) (u : Tok) : ∃ e,SeqAt.EqAt A s (.int a t) (.int c u) e ∧ (e = true ↔ a = c) :=
 ⟨(a == c),SeqAt.EqAt.int_int a t c u,by simp⟩
section
open PySem.SeqAt
open PySem.AutoSeq1 (wpAny_loadPart')
open PySem.MeetsSeq PySem.MeetsSeq2 PySem.MeetsSeq3
end
section
variable {prog : Program} {w : World} {A : Around} {E : Value -> Shared -> Prop} {s : Shared}
theorem cat_tup {t b : Addr} {vs ws : List Value} {Q : Value -> Shared -> Prop} (ht : IsTup s.heap t vs.toArray) (hb : IsTup s.heap b ws.toArray) (hv : vs ≠ [])
  (h1 : ws = [] -> Q (.ref t) s) (h2 : ws ≠ [] -> Q (.ref s.heap.objs.size) { s with heap := s.heap.push { cls := .type "tuple",data := .seq (vs ++ ws).toArray } })
  (hsz : vs.length + ws.length ≤ sizeLine) : wpAny (model prog w) A (binaryOp .Add (.ref t) (.ref b)) Q E s := by
 obtain ⟨⟨cls,dd,data,sl⟩,ho,hc,n,hd⟩ := id ht
 obtain ⟨⟨cls2,dd2,data2,sl2⟩,ho2,hc2,n2,hd2⟩ := id hb
 simp only at hc hd hc2 hd2
 subst hc hd hc2 hd2
 have e : vs.toArray ++ ws.toArray = (vs ++ ws).toArray := by simp
 by_cases hw : ws = []
 ·exact concat_meets ⟨_,ho,rfl⟩ ⟨_,ho2,rfl⟩ noFill_tuple_add seq_tuple_add PySem.F.slot_tuple_add PySem.F.entry_tuple_add (PySem.F.args_tuple_add_2 _ _)
   (tuple_addW1 t b vs.toArray ws.toArray n n2 dd dd2 sl sl2 (by simpa using hv) (by simp [hw])) ⟨ho,ho2,h1 hw⟩
 ·refine concat_meets ⟨_,ho,rfl⟩ ⟨_,ho2,rfl⟩ noFill_tuple_add seq_tuple_add PySem.F.slot_tuple_add PySem.F.entry_tuple_add (PySem.F.args_tuple_add_2 _ _)
   (tuple_addW2 t b vs.toArray ws.toArray n n2 dd dd2 sl sl2 (by simpa using hv) (by simpa using hw) (by rw [List.size_toArray,List.size_toArray]; exact hsz)) ⟨ho,ho2,?_⟩
  rw [e]
  exact h2 hw
def sIx (n d : Nat) : Option Int -> Nat
 | none => d
 | some v => if v < 0 then (v + (n : Int)).toNat else min v.toNat n
theorem sIx_none (n d : Nat) : sIx n d none = d := rfl
theorem sIx_nat (n d k : Nat) : sIx n d (some (k : Int)) = min k n := by
 show (if (k : Int) < 0 then ((k : Int) + (n : Int)).toNat else min (k : Int).toNat n) = min k n
 rw [if_neg (by omega),Int.toNat_natCast]
theorem tqz (n d : Nat) (hd : d ≤ n) (o : Option Int) : sIx n d o ≤ n := by
 cases o with
 | none => exact hd
 | some v =>
  show (if v < 0 then (v + (n : Int)).toNat else min v.toNat n) ≤ n
  by_cases hv : v < 0
  ·rw [if_pos hv]; omega
  ·rw [if_neg hv]; exact Nat.min_le_right _ _
theorem oqB (v : Int) (n d : Nat) : (if v < 0 then max (v + (n : Int)) 0 else min v (n : Int)) = ((sIx n d (some v) : Nat) : Int) := by
 show (if v < 0 then max (v + (n : Int)) 0 else min v (n : Int)) = (((if v < 0 then (v + (n : Int)).toNat else min v.toNat n) : Nat) : Int)
 by_cases hv : v < 0
 ·simp only [if_pos hv]; omega
 ·simp only [if_neg hv]; omega
theorem nqC (lo hi : Option Int) (n : Nat) : Builtin.Slice.sliceAdjust lo hi 1 (n : Int) = (((sIx n 0 lo : Nat) : Int),((sIx n n hi : Nat) : Int)) := by
 have h1 : ¬ ((1 : Int) < 0) := by omega
 unfold Builtin.Slice.sliceAdjust
 simp only [h1,if_false]
 refine Prod.ext ?_ ?_
 ·cases lo with
  | none => rfl
  | some v => exact oqB v n 0
 ·cases hi with
  | none => rfl
  | some v => exact oqB v n n
theorem nqD (i j : Nat) : Builtin.Slice.slicePlaces (i : Int) (j : Int) 1 = j - i := by
 unfold Builtin.Slice.slicePlaces
 have h1 : (1 : Int) > 0 := by omega
 simp only [h1,if_true,Int.ediv_one]
 split <;> omega
theorem jqQ {v : Value} {o : Option Int} {Q : Option Int -> Shared -> Prop} (p : IsPart v o) (h : Q o s) : wpAny (model prog w) A (Builtin.Slice.slicePartIndex v) Q E s := by
 cases p with
 | none => exact slicePart_none h
 | int i t => exact slicePart_int h
theorem fqe {sl : Addr} {vl vu : Value} {lo hi : Option Int} {n : Nat} {Q : Int × Int × Nat -> Shared -> Prop} (hs : s.heap.IsSliceOf sl vl vu .none) (pl : IsPart vl lo) (pu : IsPart vu hi)
  (h : Q (((sIx n 0 lo : Nat) : Int),1,sIx n n hi - sIx n 0 lo) s) : wpAny (model prog w) A (Builtin.Slice.sliceApplied (.ref sl) (pure (n : Int))) Q E s := by
 obtain ⟨os,hos,hcs,hds⟩ := id hs
 unfold Builtin.Slice.sliceApplied Builtin.Slice.sliceFields
 refine wpAny_bind (wpAny_bind (wpAny_field hos hds (x := vl) rfl (wpAny_bind (wpAny_field hos hds (x := vu) rfl (wpAny_bind (wpAny_field hos hds (x := .none) rfl (wpAny_pure ?_)))))))
 refine wpAny_bind (slicePart_none ?_)
 show wpAny _ _ (if ((1 : Int) == 0) = true then _ else _) _ _ s
 rw [if_neg (by decide)]
 refine wpAny_bind (jqQ pl (wpAny_bind (jqQ pu (wpAny_bind (wpAny_pure ?_)))))
 show wpAny _ _ (match Builtin.Slice.sliceAdjust lo hi 1 (n : Int) with | (lo,hi) => pure (lo,(1 : Int),Builtin.Slice.slicePlaces lo hi 1)) _ _ s
 rw [nqC lo hi n]
 show wpAny _ _ (pure (((sIx n 0 lo : Nat) : Int),(1 : Int),Builtin.Slice.slicePlaces ((sIx n 0 lo : Nat) : Int) ((sIx n n hi : Nat) : Int) 1)) _ _ s
 rw [nqD]
 exact wpAny_pure h
theorem pqY (xs : Array Value) (i k : Nat) : ((List.range k).filterMap fun (m : Nat) => xs[((i : Int) + (m : Int) * 1).toNat]?).toArray = ((xs.toList.drop i).take k).toArray := by
 have e : (fun (m : Nat) => xs[((i : Int) + (m : Int) * 1).toNat]?) = fun m => xs[i + m]? := by
  funext m
  have : ((i : Int) + (m : Int) * 1).toNat = i + m := by omega
  rw [this]
 rw [e]
 have := pick_run xs i k
 rw [List.filterMap_map] at this
 have e2 : ((fun x => xs[x]?) ∘ fun x => i + x) = fun m => xs[i + m]? := rfl
 rw [e2] at this
 rw [this]
theorem getItem_tuple_cut {t sl : Addr} {items : Array Value} {vl vu : Value} {lo hi : Option Int} {Q : Value -> Shared -> Prop} (ht : IsTup s.heap t items) (hs : s.heap.IsSliceOf sl vl vu .none) (pl : IsPart vl lo) (pu : IsPart vu hi)
  (hw : ¬ (sIx items.size 0 lo = 0 ∧ sIx items.size items.size hi = items.size))
  (h : Q (.ref s.heap.objs.size) { s with heap := s.heap.push { cls := .type "tuple",data := .seq ((items.toList.drop (sIx items.size 0 lo)).take (sIx items.size items.size hi - sIx items.size 0 lo)).toArray } })
  (hsz : items.size ≤ sizeLine) : wpAny (model prog w) A (getItem (.ref t) (.ref sl)) Q E s := by
 have htake : sizeOk (.seq ((items.toList.drop (sIx items.size 0 lo)).take (sIx items.size items.size hi - sIx items.size 0 lo)).toArray) := by
  show ((items.toList.drop (sIx items.size 0 lo)).take (sIx items.size items.size hi - sIx items.size 0 lo)).toArray.size ≤ sizeLine
  rw [List.size_toArray,List.length_take,List.length_drop,Array.length_toList]
  omega
 have hj : sIx items.size items.size hi ≤ items.size := tqz _ _ (Nat.le_refl _) hi
 obtain ⟨os,hos,hcs,hds⟩ := id hs
 have hTs : s.TypeIs (.ref sl) "slice" := ⟨os,hos,hcs⟩
 unfold getItem
 try with_reducible refine wpAny_holding ?_
 first | refine wpAny_bind (wpAny_pure ?_) | skip
 refine wpAny_bind (wpAny_sequenceKey ht.typeIs (by decide) ?_)
 refine wpAny_bind (wpAny_callSpecial?_slot (name := Str.ofString "__getitem__") ht.typeIs PyProof.Rows.slot_tuple_getitem
  (wpAny_call_entry PyProof.Rows.slot_tuple_getitem ht.typeIs entry_tuple_getitem ?_ (args_tuple_getitem _ _)))
 show wpAny _ _ (Builtin.Tuple.tupleItemsOf (.ref t) >>= _) _ _ s
 refine wpAny_bind (tupleItemsOf_ ht ?_)
 refine wpAny_bind (wpAny_typeOf hTs ?_)
 rw [if_pos (by decide)]
 refine wpAny_bind (fqe hs pl pu ?_)
 have hno : ¬ ((((sIx items.size 0 lo : Nat) : Int) == 0 && (1 : Int) == 1 && (sIx items.size items.size hi - sIx items.size 0 lo) == items.size) = true) := by
  intro q
  rw [Bool.and_eq_true,Bool.and_eq_true] at q
  have q1 : ((sIx items.size 0 lo : Nat) : Int) = 0 := eq_of_beq q.1.1
  have q2 : sIx items.size items.size hi - sIx items.size 0 lo = items.size := eq_of_beq q.2
  exact hw ⟨by omega,by omega⟩
 show wpAny _ _ (if (((sIx items.size 0 lo : Nat) : Int) == 0 && (1 : Int) == 1 && (sIx items.size items.size hi - sIx items.size 0 lo) == items.size) = true then _ else _) _ _ s
 rw [if_neg hno,pqY]
 first
  | exact wpAny_bind (m := Builtin.Tuple.tupleExact _) (wpAny_newObj_type (wpAny_pure ⟨_,rfl,wpAny_pure h⟩) htake)
  | exact wpAny_bind (m := Builtin.Tuple.tupleExact _) (wpAny_newObj_type (wpAny_bind (wpAny_pure (wpAny_pure ⟨_,rfl,wpAny_pure h⟩))) htake)
  | exact wpAny_bind (wpAny_bind (m := Builtin.Tuple.tupleExact _) (wpAny_newObj_type (wpAny_pure (wpAny_pure ⟨_,rfl,wpAny_pure h⟩)) htake))
  | exact wpAny_bind (wpAny_bind (m := Builtin.Tuple.tupleExact _) (wpAny_newObj_type (wpAny_pure ⟨_,rfl,wpAny_pure h⟩) htake))
end
end HT
namespace L2
open PySem PySem.Spec PyProof.Rows
abbrev TO := St -> Hp -> (Option Int -> Hp -> Prop) -> Prop
def PO (X : Cx) (e : Option Expr) (t : TO) : Prop :=
 ∀ (pins : List (Addr × Obj)) (s : Shared) (σ : St) (H : Hp) (Q : Option Int -> Hp -> Prop),Inv X pins σ H s -> t σ H Q ->
  wpAny (model X.prog X.w) X.A (evalPart e X.env) (fun u s' => ∃ o H',Inv X pins σ H' s' ∧ IsPart u o ∧ Q o H') X.xe s
def tNoPart : TO := fun _ H Q => Q none H
def tPart (t : TE) : TO := fun σ H Q => t σ H fun x H1 => ∃ i,x = .int i ∧ Q (some i) H1
theorem jqX {ns : List Int} : ∀ {us : List Value},Vals (ns.map V.int) us -> IntsAre us ns := by
 induction ns with
 | nil => intro us r; rw [List.map_nil] at r; cases r; exact .nil
 | cons n ns ih =>
  intro us r
  rw [List.map_cons] at r
  cases r with
  | cons r1 r2 =>
   obtain ⟨t,e⟩ := r1
   subst e
   exact .cons n t (ih r2)
section
variable {X : Cx} {e : Expr} {te : TE} {lo hi : Option Expr} {tl th : TO} {pos p2 : Pos}
theorem dq9 : PO X none tNoPart := by
 intro pins s σ H Q I h
 rw [evalPart_none]
 exact wpAny_pure ⟨none,H,I,.none,h⟩
theorem cqX (h : PE X e te) : PO X (some e) (tPart te) := by
 intro pins s σ H Q I hw
 rw [evalPart_some]
 refine thn (h pins s σ H _ I hw) fun u s1 W' => ?_
 obtain ⟨x,H1,I1,r1,q1⟩ := W'
 obtain ⟨i,rfl,q⟩ := q1
 obtain ⟨t,rfl⟩ := r1
 exact ⟨some i,H1,I1,.int i t,q⟩
def SlR (X : Cx) (r : V -> Option Int -> Option Int -> Hp -> VK -> Prop) : Prop :=
 ∀ (pins : List (Addr × Obj)) (s : Shared) (σ : St) (H : Hp) (x : V) (v vl vu : Value) (lo hi : Option Int) (sl : Addr) (Q : VK),Inv X pins σ H s -> RelV x v -> s.heap.IsSliceOf sl vl vu .none -> IsPart vl lo -> IsPart vu hi -> r x lo hi H Q ->
  ∃ T id,typeLookup (.type T) "__getitem__" = pure (some (.builtin id)) ∧ s.TypeIs v T ∧ wpAny (model X.prog X.w) X.A (getItem v (.ref sl)) (EP X pins σ Q) X.xe s
theorem SlR.or {r r' : V -> Option Int -> Option Int -> Hp -> VK -> Prop} (h : SlR X r) (h' : SlR X r') : SlR X (fun x lo hi H Q => r x lo hi H Q ∨ r' x lo hi H Q) := by
 intro pins s σ H x v vl vu lo hi sl Q I rx hs pl pu q
 rcases q with q | q
 ·exact h pins s σ H x v vl vu lo hi sl Q I rx hs pl pu q
 ·exact h' pins s σ H x v vl vu lo hi sl Q I rx hs pl pu q
def tSl (r : V -> Option Int -> Option Int -> Hp -> VK -> Prop) (te : TE) (tl th : TO) : TE := fun σ H Q => te σ H fun x H1 => tl σ H1 fun l H2 => th σ H2 fun u H3 => r x l u H3 Q
theorem cqg {r : V -> Option Int -> Option Int -> Hp -> VK -> Prop} (hr : SlR X r) (he : PE X e te) (hl : PO X lo tl) (hu : PO X hi th) : PE X (.Subscript e (.Slice lo hi none p2) pos) (tSl r te tl th) := by
 intro pins s σ H Q I h
 refine Subscript_ (thn (he pins s σ H _ I h) fun v s1 W' => ?_)
 obtain ⟨x,H1,I1,r1,q1⟩ := W'
 refine wpAny_Slice (thn (hl pins s1 σ H1 _ I1 q1) fun vl s2 ⟨l,H2,I2,pl,q2⟩ => thn (hu pins s2 σ H2 _ I2 q2) fun vu s3 W' => ?_)
 obtain ⟨u,H3,I3,pu,q3⟩ := W'
 rw [evalPart_none]
 refine wpAny_pure ?_
 have I4 : Inv X pins σ H3 { s3 with heap := s3.heap.push { cls := .type "slice",data := .fields #[vl,vu,.none] } } := I3.kept (t' := s3.toks) fun b ob q => Heap.get?_push_of_some _ q
 obtain ⟨T,id,hT,ht,hg⟩ := hr pins { s3 with heap := s3.heap.push { cls := .type "slice",data := .fields #[vl,vu,.none] } } σ H3 x v vl vu l u s3.heap.objs.size Q I4 r1 (Heap.IsSliceOf.new ..) pl pu q3
 show wpAny (model X.prog X.w) X.A (subscriptTail e (.Slice lo hi none p2) v (.ref s3.heap.objs.size)) (EP X pins σ Q) X.xe { s3 with heap := s3.heap.push { cls := .type "slice",data := .fields #[vl,vu,.none] } }
 exact tail_any (ops := [.ref s3.heap.objs.size,v]) ht hT hg (by with_unfolding_all rfl)
def cutV (xs : List V) (lo hi : Option Int) : List V := (xs.drop (HT.sIx xs.length 0 lo)).take (HT.sIx xs.length xs.length hi - HT.sIx xs.length 0 lo)
theorem iq0 (xs : List V) (lo hi : Option Int) : (cutV xs lo hi).length ≤ xs.length := by
 unfold cutV
 rw [List.length_take,List.length_drop]
 omega
def rSlT (K : PySem.W.Frag) : V -> Option Int -> Option Int -> Hp -> VK -> Prop := fun x lo hi H Q => ∃ a xs,x = .ref a ∧ SqT K H a xs ∧
 ¬ (HT.sIx xs.length 0 lo = 0 ∧ HT.sIx xs.length xs.length hi = xs.length) ∧ ∀ p,H p = none -> Q (.ref p) (upd H p (.tup (cutV xs lo hi)))
theorem tqm : SlR X (rSlT X.K) := by
 intro pins s σ H x v vl vu lo hi sl Q I rx hs pl pu h
 obtain ⟨a,xs,rfl,hx,hw,q⟩ := h
 cases rx
 obtain ⟨its,r,ht,hz⟩ := I.tuple hx
 have hlen : its.toArray.size = xs.length := by rw [List.size_toArray]; exact r.length.symm
 refine ⟨"tuple",_,PyProof.Rows.slot_tuple_getitem.lookup,ht.typeIs,?_⟩
 refine HT.getItem_tuple_cut ht hs pl pu (by rw [hlen]; exact hw) ?_ (by rw [hlen]; exact hz)
 rw [hlen]
 refine ⟨.ref s.heap.objs.size,_,I.laid (t' := s.toks) (o := .tup (cutV xs lo hi)) (fun b ob q => Heap.get?_push_of_some _ q) (Nat.le_refl _) ?_,rfl,q _ (I.hok.fresh (Nat.le_refl _))⟩
 exact ⟨Nat.le_trans (iq0 xs lo hi) hz,_,(r.drop (HT.sIx xs.length 0 lo)).take (HT.sIx xs.length xs.length hi - HT.sIx xs.length 0 lo),IsTup.new _ _⟩
def rCatT (K : PySem.W.Frag) : R2 := fun x y H Q => ∃ a b xs ys,x = .ref a ∧ y = .ref b ∧ SqT K H a xs ∧ SqT K H b ys ∧ xs ≠ [] ∧ xs.length + ys.length ≤ sizeLine ∧
 (ys = [] -> Q (.ref a) H) ∧ (ys ≠ [] -> ∀ p,H p = none -> Q (.ref p) (upd H p (.tup (xs ++ ys))))
theorem Vals.nil_iff {xs : List V} {us : List Value} (r : Vals xs us) : us = [] ↔ xs = [] := by
 cases r with
 | nil => simp
 | cons _ _ => simp
theorem sqh : OpR X (binaryOp .Add) (rCatT X.K) := by
 intro pins s σ H x y v u Q I rx ry h
 obtain ⟨a,b,xs,ys,rfl,rfl,ha,hb,hx,hz,q1,q2⟩ := h
 cases rx
 cases ry
 obtain ⟨its,r1,p1,_⟩ := I.tuple ha
 obtain ⟨its2,r2,p2,_⟩ := I.tuple hb
 refine HT.cat_tup p1 p2 (fun z => hx (r1.nil_iff.mp z)) (fun z => ⟨.ref a,H,I,rfl,q1 (r2.nil_iff.mp z)⟩) (fun z => ?_) (by rw [<- r1.length,<- r2.length]; exact hz)
 refine ⟨.ref s.heap.objs.size,_,I.laid (t' := s.toks) (o := .tup (xs ++ ys)) (fun b ob q => Heap.get?_push_of_some _ q) (Nat.le_refl _) ?_,rfl,q2 (fun w => z (r2.nil_iff.mpr w)) _ (I.hok.fresh (Nat.le_refl _))⟩
 exact ⟨by rw [List.length_append]; exact hz,_,r1.append r2,IsTup.new _ _⟩
end
def ixN (n : Nat) (i : Int) : Option Nat := if 0 ≤ i then (if i < n then some i.toNat else none) else if -(n : Int) ≤ i then some (i + n).toNat else none
def atI {α : Type} (xs : List α) (i : Int) : Option α := (ixN xs.length i).bind fun j => xs[j]?
theorem rqA {n : Nat} {i : Int} {j : Nat} (h : ixN n i = some j) : seqIndex? i n = some j ∧ j < n ∧ -(n : Int) ≤ i ∧ i < n := by
 unfold ixN at h
 by_cases h0 : 0 ≤ i
 ·rw [if_pos h0] at h
  by_cases h1 : i < n
  ·rw [if_pos h1] at h
   have e : i.toNat = j := Option.some.inj h
   exact ⟨by rw [seqIndex_of h0 h1,e],by omega,by omega,h1⟩
  ·rw [if_neg h1] at h; cases h
 ·rw [if_neg h0] at h
  by_cases h1 : -(n : Int) ≤ i
  ·rw [if_pos h1] at h
   have e : (i + n).toNat = j := Option.some.inj h
   exact ⟨by rw [seqIndex_neg (by omega) h1,e],by omega,h1,by omega⟩
  ·rw [if_neg h1] at h; cases h
theorem mqi {α : Type} {xs : List α} {i : Int} {v : α} (h : atI xs i = some v) : ∃ j,seqIndex? i xs.length = some j ∧ xs[j]? = some v ∧ j < xs.length ∧ -(xs.length : Int) ≤ i ∧ i < xs.length := by
 unfold atI at h
 cases e : ixN xs.length i with
 | none => rw [e] at h; cases h
 | some j =>
  rw [e] at h
  obtain ⟨h1,h2,h3,h4⟩ := rqA e
  exact ⟨j,h1,h,h2,h3,h4⟩
theorem aqj {α : Type} {xs : List α} {j : Nat} {v : α} (h : xs[j]? = some v) : atI xs (j : Int) = some v := by
 have hj : j < xs.length := (List.getElem?_eq_some_iff.mp h).1
 have e : ixN xs.length (j : Int) = some j := by
  unfold ixN
  rw [if_pos (by omega),if_pos (by omega)]; simp
 unfold atI; rw [e]; exact h
def PlainIx (b : Expr) : Prop := ∀ o i,subscripted b false o i = operate [o,i] (getItem o i)
def IxR (X : Cx) (r : R2) : Prop :=
 ∀ (value slice : Expr) (pins : List (Addr × Obj)) (s : Shared) (σ : St) (H : Hp) (x y : V) (v u : Value) (Q : VK),Inv X pins σ H s -> RelV x v -> RelV y u -> r x y H Q ->
  subscripted slice false v u = operate [v,u] (getItem v u) -> wpAny (model X.prog X.w) X.A (subscriptTail value slice v u) (EP X pins σ Q) X.xe s
def MtR (X : Cx) (id : String) (r : V -> List V -> Hp -> VK -> Prop) : Prop :=
 ∀ (pins : List (Addr × Obj)) (s : Shared) (σ : St) (H : Hp) (x : V) (xs : List V) (v : Value) (us : List Value) (Q : VK),Inv X pins σ H s -> RelV x v -> Vals xs us -> r x xs H Q ->
  wpAny (model X.prog X.w) X.A (call (.builtin id) (v :: us)) (EP X pins σ Q) X.xe s
section
variable {X : Cx} {a b : Expr} {ta tb : TE} {pos : Pos}
theorem IxR.or {r r' : R2} (h : IxR X r) (h' : IxR X r') : IxR X (fun x y H Q => r x y H Q ∨ r' x y H Q) := by
 intro value slice pins s σ H x y v u Q I rx ry q hs
 rcases q with q | q
 ·exact h value slice pins s σ H x y v u Q I rx ry q hs
 ·exact h' value slice pins s σ H x y v u Q I rx ry q hs
theorem aqp {r : R2} (hr : IxR X r) (ha : PE X a ta) (hb : PE X b tb) (hs : PlainIx b) : PE X (.Subscript a b pos) (tOp r ta tb) := by
 intro pins s σ H Q I h
 exact Subscript_ (binT ha hb I h fun v u s2 x y H2 I2 rx ry q => hr a b pins s2 σ H2 x y v u Q I2 rx ry q (hs _ _))
def rIxL (K : PySem.W.Frag) : R2 := fun x y H Q => ∃ p xs i v,x = .ref p ∧ y = .int i ∧ SqL K H p xs ∧ atI xs i = some v ∧ Q v H
def rIxT (K : PySem.W.Frag) : R2 := fun x y H Q => ∃ p xs i v,x = .ref p ∧ y = .int i ∧ SqT K H p xs ∧ atI xs i = some v ∧ Q v H
def rIxS : R2 := fun x y H Q => ∃ z i c,x = .str z ∧ y = .int i ∧ z.length ≤ sizeLine ∧ atI z.cps.toList i = some c ∧ Q (.str ⟨#[c]⟩) H
theorem sqy : IxR X (rIxL X.K) := by
 intro value slice pins s σ H x y v u Q I rx ry h hs
 obtain ⟨p,xs,i,z,rfl,rfl,hq,he,q⟩ := h
 cases rx
 obtain ⟨t,rfl⟩ := ry
 obtain ⟨its,r,pl,hz⟩ := I.list hq
 obtain ⟨j,h1,h2,h3,h4,h5⟩ := mqi he
 obtain ⟨w,ew,rw'⟩ := r.get h2
 have hl := r.length
 have hn := line63
 have fin : EP X pins σ Q w s := ⟨z,H,I,rw',q⟩
 by_cases h0 : 0 ≤ i
 ·have hj : i.toNat = j := by
   rw [seqIndex_of h0 h5] at h1
   exact Option.some.inj h1
  exact item_listR pl.isList h0 (by omega) (by rw [hj]; simpa using ew) fin hs
 ·have hj : (i + (its.toArray.size : Int)).toNat = j := by
   rw [seqIndex_neg (by omega) h4] at h1
   rw [List.size_toArray,<- hl]
   exact Option.some.inj h1
  exact subscriptTail_builtinR (x := w) pl.isList.typeIs slot_list_getitem.lookup
   (wpAny_getItem_list_neg (Q := fun r s' => r = w ∧ EP X pins σ Q r s') pl.isList (by omega) (by rw [List.size_toArray] <;> omega) (by omega) (by rw [hj]; simpa using ew) ⟨rfl,fin⟩) hs
theorem uqd : IxR X (rIxT X.K) := by
 intro value slice pins s σ H x y v u Q I rx ry h hs
 obtain ⟨p,xs,i,z,rfl,rfl,hq,he,q⟩ := h
 cases rx
 obtain ⟨t,rfl⟩ := ry
 obtain ⟨its,r,pl,hz⟩ := I.tuple hq
 obtain ⟨j,h1,h2,h3,h4,h5⟩ := mqi he
 obtain ⟨w,ew,rw'⟩ := r.get h2
 have hl := r.length
 have hn := line63
 have fin : EP X pins σ Q w s := ⟨z,H,I,rw',q⟩
 exact subscriptTail_builtinR (x := w) pl.typeIs slot_tuple_getitem.lookup
  (getItem_tuple (j := j) (Q := fun r s' => r = w ∧ EP X pins σ Q r s') pl (by omega) (by omega) (by rw [List.size_toArray,<- hl]; exact h1) (by simpa using ew) ⟨rfl,fin⟩) hs
theorem tqJ : IxR X rIxS := by
 intro value slice pins s σ H x y v u Q I rx ry h hs
 obtain ⟨z,i,c,rfl,rfl,hz,he,q⟩ := h
 obtain ⟨t,rfl⟩ := rx
 obtain ⟨t',rfl⟩ := ry
 obtain ⟨j,h1,h2,h3,h4,h5⟩ := mqi he
 have hl : z.cps.toList.length = z.length := by simp [Str.length]
 rw [hl] at h1 h4 h5
 have hn := line63
 exact tail_any (typeIs_str s z t) slot_str_getitem.lookup (getItem_str (c := c) (by
  have e1 : decide (i < -(2 ^ 63 : Int)) = false := decide_eq_false (by omega)
  have e2 : decide (i ≥ 2 ^ 63) = false := decide_eq_false (by omega)
  rw [e1,e2,Bool.or_false]) (by rw [h1]; simpa using h2) ⟨.str ⟨#[c]⟩,H,I.tok _,⟨_,rfl⟩,q⟩) hs
def rIx (K : PySem.W.Frag) : R2 := fun x y H Q => rIxL K x y H Q ∨ rIxT K x y H Q ∨ rIxS x y H Q
theorem sqY : IxR X (rIx X.K) := sqy.or (uqd.or tqJ)
def rSetL : V -> V -> V -> Hp -> (Hp -> Prop) -> Prop := fun o i v H Q => ∃ p xs k j,o = .ref p ∧ i = .int k ∧ H p = some (.lst xs) ∧ ixN xs.length k = some j ∧ Q (upd H p (.lst (xs.set j v)))
theorem lqH (lo hi : Option Int) (n : Nat) : (sliceBounds lo hi none n).1 = ((HT.sIx n 0 lo : Nat) : Int) ∧ (sliceBounds lo hi none n).2.1 = ((HT.sIx n n hi : Nat) : Int) ∧ (sliceBounds lo hi none n).2.2 = 1 := by
 refine ⟨?_,?_,rfl⟩
 ·cases lo with
  | none => simp [sliceBounds,HT.sIx]
  | some i =>
   simp only [sliceBounds,HT.sIx,Option.getD_none,show (1 : Int) > 0 by decide,if_true]
   by_cases h : i < 0
   ·simp only [h,if_true] <;> omega
   ·simp only [h,if_false] <;> omega
 ·cases hi with
  | none => simp [sliceBounds,HT.sIx]
  | some i =>
   simp only [sliceBounds,HT.sIx,Option.getD_none,show (1 : Int) > 0 by decide,if_true]
   by_cases h : i < 0
   ·simp only [h,if_true] <;> omega
   ·simp only [h,if_false] <;> omega
theorem kq2 (its : List Value) (lo hi : Option Int) : slicePick its.toArray lo hi none = ((its.drop (HT.sIx its.length 0 lo)).take (HT.sIx its.length its.length hi - HT.sIx its.length 0 lo)).toArray := by
 obtain ⟨h1,h2,h3⟩ := lqH lo hi its.toArray.size
 unfold slicePick
 rw [h1,h2,h3]
 simp only [sliceRange_one,pick_run,List.size_toArray] <;> rfl
def rSlL (K : PySem.W.Frag) : V -> Option Int -> Option Int -> Hp -> VK -> Prop := fun x lo hi H Q => ∃ a xs,x = .ref a ∧ SqL K H a xs ∧ ∀ p,H p = none -> Q (.ref p) (upd H p (.lst (cutV xs lo hi)))
theorem oqY : SlR X (rSlL X.K) := by
 intro pins s σ H x v vl vu lo hi sl Q I rx hs pl pu h
 obtain ⟨a,xs,rfl,hx,q⟩ := h
 cases rx
 obtain ⟨its,r,ht,hz⟩ := I.list hx
 have hlen := r.length
 refine ⟨"list",_,slot_list_getitem.lookup,ht.isList.typeIs,?_⟩
 refine wpAny_getItem_list_slice ht.isList hs pl pu .none (by simp) ?_ (by rw [List.size_toArray] <;> omega)
 rw [kq2,<- hlen]
 refine ⟨.ref s.heap.objs.size,_,I.laid (t' := s.toks) (o := .lst (cutV xs lo hi)) (fun b ob q => Heap.get?_push_of_some _ q) (Nat.le_refl _) ?_,rfl,q _ (I.hok.fresh (Nat.le_refl _))⟩
 exact ⟨Nat.le_trans (iq0 xs lo hi) hz,_,0,(r.drop (HT.sIx xs.length 0 lo)).take (HT.sIx xs.length xs.length hi - HT.sIx xs.length 0 lo),Heap.get?_push_size _ rfl⟩
def flatV : V -> Bool
 | .non => true
 | .bl _ => true
 | .int _ => true
 | .str _ => true
 | _ => false
def eqV : V -> V -> Bool
 | .non,.non => true
 | .bl a,.bl b => a == b
 | .bl a,.int b => (if a then 1 else 0) == b
 | .int a,.bl b => a == (if b then 1 else 0)
 | .int a,.int b => a == b
 | .str a,.str b => a == b
 | _,_ => false
theorem tqp {A : Around} {s : Shared} {y x : V} {u v : Value} (ry : RelV y u) (rx : RelV x v) (fy : flatV y = true) (fx : flatV x = true) : SeqAt.EqAt A s u v (eqV y x) := by
 cases y with
 | non =>
  cases ry
  cases x with
  | non => cases rx; exact SeqAt.EqAt.same _
  | bl b => cases rx; exact SeqAt.EqAt.none_bool b
  | int b => obtain ⟨t,rfl⟩ := rx; exact SeqAt.EqAt.none_int b t
  | str b => obtain ⟨t,rfl⟩ := rx; exact SeqAt.EqAt.none_str b t
  | _ => exact absurd (show false = true from fx) Bool.false_ne_true
 | bl a =>
  cases ry
  cases x with
  | non => cases rx; exact SeqAt.EqAt.bool_none a
  | bl b => cases rx; exact SeqAt.EqAt.bool_bool a b
  | int b => obtain ⟨t,rfl⟩ := rx; exact SeqAt.EqAt.bool_int a b t
  | str b => obtain ⟨t,rfl⟩ := rx; exact SeqAt.EqAt.bool_str a b t
  | _ => exact absurd (show false = true from fx) Bool.false_ne_true
 | int a =>
  obtain ⟨t',rfl⟩ := ry
  cases x with
  | non => cases rx; exact SeqAt.EqAt.int_none a t'
  | bl b => cases rx; exact SeqAt.EqAt.int_bool a t' b
  | int b => obtain ⟨t,rfl⟩ := rx; exact SeqAt.EqAt.int_int a t' b t
  | str b => obtain ⟨t,rfl⟩ := rx; exact SeqAt.EqAt.int_str a t' b t
  | _ => exact absurd (show false = true from fx) Bool.false_ne_true
 | str a =>
  obtain ⟨t',rfl⟩ := ry
  cases x with
  | non => cases rx; exact SeqAt.EqAt.str_none a t'
  | bl b => cases rx; exact SeqAt.EqAt.str_bool a t' b
  | int b => obtain ⟨t,rfl⟩ := rx; exact SeqAt.EqAt.str_int a t' b t
  | str b => obtain ⟨t,rfl⟩ := rx; exact SeqAt.EqAt.str_str a t' b t
  | _ => exact absurd (show false = true from fx) Bool.false_ne_true
 | _ => exact absurd (show false = true from fy) Bool.false_ne_true
def eqU (x : V) (u : Value) : Bool := match u with
 | .none => eqV .non x
 | .bool b => eqV (.bl b) x
 | .int i _ => eqV (.int i) x
 | .str z _ => eqV (.str z) x
 | _ => false
theorem rqe {x y : V} {u : Value} (r : RelV y u) (f : flatV y = true) : eqU x u = eqV y x := by
 cases y with
 | non => cases r; rfl
 | bl b => cases r; rfl
 | int i => obtain ⟨t,rfl⟩ := r; rfl
 | str z => obtain ⟨t,rfl⟩ := r; rfl
 | _ => exact absurd (show false = true from f) Bool.false_ne_true
theorem iq9 {x : V} : ∀ {xs : List V} {us : List Value},Vals xs us -> xs.all flatV = true -> us.any (eqU x) = xs.any fun y => eqV y x
 | _,_,.nil,_ => rfl
 | y :: xs,u :: us,.cons r t,f => by
  rw [List.all_cons,Bool.and_eq_true] at f
  rw [List.any_cons,List.any_cons,rqe r f.1,iq9 t f.2]
theorem gq8 {A : Around} {s : Shared} {x : V} {v : Value} (rx : RelV x v) (fx : flatV x = true) : ∀ {xs : List V} {us : List Value},Vals xs us -> xs.all flatV = true -> ∀ u ∈ us,SeqAt.EqAt A s u v (eqU x u)
 | _,_,.nil,_ => fun u hu => by cases hu
 | y :: xs,u :: us,.cons r t,f => fun u' hu => by
  rw [List.all_cons,Bool.and_eq_true] at f
  rcases List.mem_cons.mp hu with rfl | hu
  ·rw [rqe r f.1]; exact tqp r rx f.1 fx
  ·exact gq8 rx fx t f.2 u' hu
def inV (x : V) (xs : List V) : Bool := xs.any fun y => eqV y x
def rIn (K : PySem.W.Frag) (neg : Bool) : R2 := fun x y H Q => ∃ p xs,y = .ref p ∧ (SqL K H p xs ∨ SqT K H p xs) ∧ flatV x = true ∧ xs.all flatV = true ∧ Q (.bl (if neg then !inV x xs else inV x xs)) H
theorem oqQ : OpR X (compareOp .In) (rIn X.K false) := by
 intro pins s σ H x y v u Q I rx ry h
 obtain ⟨p,xs,rfl,hq,fx,fs,q⟩ := h
 cases ry
 rcases hq with hq | hq
 ·obtain ⟨its,r,pl,hz⟩ := I.list hq
  refine SeqAt.in_listAt (eqU x) pl.isList (fun w hw => gq8 rx fx r fs w (by simpa using hw)) ⟨.bl _,H,I,rfl,?_⟩
  rw [show its.toArray.any (eqU x) = its.any (eqU x) by simp,iq9 r fs]
  exact q
 ·obtain ⟨its,r,pl,hz⟩ := I.tuple hq
  refine SeqAt.in_tupleAt (eqU x) pl (fun w hw => gq8 rx fx r fs w (by simpa using hw)) ⟨.bl _,H,I,rfl,?_⟩
  rw [show its.toArray.any (eqU x) = its.any (eqU x) by simp,iq9 r fs]
  exact q
theorem lq3 : OpR X (compareOp .NotIn) (rIn X.K true) := by
 intro pins s σ H x y v u Q I rx ry h
 obtain ⟨p,xs,rfl,hq,fx,fs,q⟩ := h
 cases ry
 rcases hq with hq | hq
 ·obtain ⟨its,r,pl,hz⟩ := I.list hq
  refine SeqAt.notIn_listAt (eqU x) pl.isList (fun w hw => gq8 rx fx r fs w (by simpa using hw)) ⟨.bl _,H,I,rfl,?_⟩
  rw [show its.toArray.any (eqU x) = its.any (eqU x) by simp,iq9 r fs]
  exact q
 ·obtain ⟨its,r,pl,hz⟩ := I.tuple hq
  refine SeqAt.notIn_tupleAt (eqU x) pl (fun w hw => gq8 rx fx r fs w (by simpa using hw)) ⟨.bl _,H,I,rfl,?_⟩
  rw [show its.toArray.any (eqU x) = its.any (eqU x) by simp,iq9 r fs]
  exact q
theorem lq1 : CallR X (.builtin "len") (fun xs H Q => ∃ p ys,xs = [.ref p] ∧ (SqL X.K H p ys ∨ SqT X.K H p ys) ∧ Q (.int ys.length) H) := by
 intro pins s σ H xs us Q I r h
 obtain ⟨p,ys,rfl,hq,q⟩ := h
 obtain ⟨u,rfl,rx⟩ := vals1 r
 cases rx
 have hn := line63
 rcases hq with hq | hq
 ·obtain ⟨its,r',pl,hz⟩ := I.list hq
  have hlen := r'.length
  exact Calls.call_len_list pl.isList (by simp only [List.size_toArray] <;> omega) ⟨.int ys.length,H,I.tok _,⟨s.toks + 1,by rw [List.size_toArray,hlen]⟩,q⟩
 ·obtain ⟨its,r',pl,hz⟩ := I.tuple hq
  have hlen := r'.length
  exact len_tuple pl (by simp only [List.size_toArray] <;> omega) ⟨.int ys.length,H,I.tok _,⟨s.toks + 1,by rw [List.size_toArray,hlen]⟩,q⟩
theorem lqP : CallR X (.builtin "len") (fun xs H Q => ∃ z,xs = [.str z] ∧ z.length ≤ sizeLine ∧ Q (.int z.length) H) := by
 intro pins s σ H xs us Q I r h
 obtain ⟨z,rfl,hz,q⟩ := h
 obtain ⟨u,rfl,t,rfl⟩ := vals1 r
 have hn := line63
 exact len_str (by omega) ⟨.int z.length,H,I.tok _,⟨_,rfl⟩,q⟩
theorem lqW : CallR X (.type "list") (fun xs H Q => ∃ p ys,xs = [.ref p] ∧ (SqL X.K H p ys ∨ SqT X.K H p ys) ∧ ∀ l,H l = none -> Q (.ref l) (upd H l (.lst ys))) := by
 intro pins s σ H xs us Q I r h
 obtain ⟨p,ys,rfl,hq,q⟩ := h
 obtain ⟨u,rfl,rx⟩ := vals1 r
 cases rx
 have fin : ∀ (its : List Value),Vals ys its -> ys.length ≤ sizeLine -> ∀ (h' : Heap) (c' : Nat),(∀ b o',s.heap.get? b = some o' -> h'.get? b = some o') ->
   h'.get? s.heap.objs.size = some { cls := .type "list",dict := none,data := .seq its.toArray c',slots := #[] } -> EP X pins σ Q (.ref s.heap.objs.size) { s with heap := h' } := fun its r' hz h' c' kp e =>
  ⟨.ref s.heap.objs.size,_,I.laid (t' := s.toks) kp (Nat.le_refl _) (show ObjOk X.prog X.w _ h' _ (.lst ys) from ⟨hz,its,c',r',e⟩),rfl,q _ (I.hok.fresh (Nat.le_refl _))⟩
 rcases hq with hq | hq
 ·obtain ⟨its,r',pl,hz⟩ := I.list hq
  have hlen := r'.length
  obtain ⟨o,ho,hc,n,hd⟩ := pl.isList
  exact call_list_seq p (.inl rfl) ho hc hd (fun h' c' kp e => fin its r' hz h' c' kp e) (by simp only [List.size_toArray] <;> omega)
 ·obtain ⟨its,r',pl,hz⟩ := I.tuple hq
  have hlen := r'.length
  obtain ⟨o,ho,hc,n,hd⟩ := pl
  exact call_list_seq p (.inr rfl) ho hc hd (fun h' c' kp e => fin its r' hz h' c' kp e) (by simp only [List.size_toArray] <;> omega)
theorem gqW : CallR X (.type "tuple") (fun xs H Q => ∃ p ys,xs = [.ref p] ∧ ((SqL X.K H p ys ∧ ∀ l,H l = none -> Q (.ref l) (upd H l (.tup ys))) ∨ (SqT X.K H p ys ∧ Q (.ref p) H))) := by
 intro pins s σ H xs us Q I r h
 obtain ⟨p,ys,rfl,h⟩ := h
 obtain ⟨u,rfl,rx⟩ := vals1 r
 cases rx
 rcases h with ⟨hq,q⟩ | ⟨hq,q⟩
 ·obtain ⟨its,r',pl,hz⟩ := I.list hq
  have hlen := r'.length
  refine call_tuple_list pl.isList (fun h' kp => ?_) (by simp only [List.size_toArray] <;> omega)
  have I1 : Inv X pins σ H { s with heap := h' } := I.kept (t' := s.toks) kp
  have I2 : Inv X pins σ (upd H h'.objs.size (.tup ys)) { s with heap := h'.push { cls := .type "tuple",data := .seq its.toArray } } :=
   I1.laid (t' := s.toks) (fun b o e => Heap.get?_push_of_some _ e) (Nat.le_refl _) (show ObjOk X.prog X.w _ _ _ (.tup ys) from ⟨hz,its,r',IsTup.new _ _⟩)
  exact ⟨.ref h'.objs.size,_,I2,rfl,q _ (I1.hok.fresh (Nat.le_refl _))⟩
 ·obtain ⟨its,r',pl,hz⟩ := I.tuple hq
  exact call_tuple_same pl ⟨.ref p,H,I,rfl,q⟩
def tyV (K : PySem.W.Frag) (T : String) (x : V) (H : Hp) : Prop := match x with
 | .str _ => T = "str"
 | .int _ => T = "int"
 | .ref p => (T = "list" ∧ ∃ xs,SqL K H p xs) ∨ (T = "tuple" ∧ ∃ o,K.lookup p = some o ∧ o.cls = .type "tuple" ∧ o.dict = none) ∨
   (T = "dict" ∧ ((∃ kvs,H p = some (.dK kvs)) ∨ ∃ kvs,H p = some (.dT kvs))) ∨ (T = "set" ∧ ∃ S n,H p = some (.set S n))
 | _ => False
theorem tqQ {pins : List (Addr × Obj)} {σ : St} {H : Hp} {s : Shared} {T : String} {x : V} {v : Value} (I : Inv X pins σ H s) (r : RelV x v) (ty : tyV X.K T x H) :
  s.TypeIs v T ∧ ∀ a,v = .ref a -> ∃ ob,s.heap.get? a = some ob ∧ ob.dict = none := by
 cases x with
 | str z =>
  obtain ⟨t,rfl⟩ := r
  cases (show T = "str" from ty)
  exact ⟨typeIs_str s z t,fun _ e => nomatch e⟩
 | int i =>
  obtain ⟨t,rfl⟩ := r
  cases (show T = "int" from ty)
  exact ⟨typeIs_int s i t,fun _ e => nomatch e⟩
 | ref p =>
  cases r
  rcases ty with ⟨rfl,xs,hq⟩ | ⟨rfl,o,hk,hc,hd⟩ | ⟨rfl,hk⟩ | ⟨rfl,S,n,hk⟩
  ·obtain ⟨its,_,pl,_⟩ := I.list hq
   refine ⟨pl.isList.typeIs,fun a e => ?_⟩
   cases e
   obtain ⟨o,n,e,c,hd,_⟩ := pl
   exact ⟨o,e,hd⟩
  ·refine ⟨⟨o,I.kIn p o hk,hc⟩,fun a e => ?_⟩
   cases e
   exact ⟨o,I.kIn _ o hk,hd⟩
  ·have z : ∃ o,s.heap.get? p = some o ∧ o.ExactDict := by
    rcases hk with ⟨kvs,hk⟩ | ⟨kvs,hk⟩
    ·obtain ⟨_,_,_,_,o,_,_,e,ex,_⟩ := I.hok p _ hk
     exact ⟨o,e,ex⟩
    ·obtain ⟨_,_,_,_,o,_,_,e,ex,_⟩ := I.hok p _ hk
     exact ⟨o,e,ex⟩
   obtain ⟨o,e,ex⟩ := z
   refine ⟨⟨o,e,ex.1⟩,fun a e2 => ?_⟩
   cases e2
   exact ⟨o,e,ex.2.1⟩
  ·obtain ⟨o,_,_,_,e,ex,_⟩ := I.hok p _ hk
   refine ⟨⟨o,e,ex.1⟩,fun a e2 => ?_⟩
   cases e2
   exact ⟨o,e,ex.2.1⟩
 | _ => exact False.elim ty
def tBM0 (K : PySem.W.Frag) (T : String) (r : V -> List V -> Hp -> VK -> Prop) (to : TE) : TE := fun σ H Q => to σ H fun x H1 => tyV K T x H1 ∧ r x [] H1 Q
def tBM (K : PySem.W.Frag) (T : String) (r : V -> List V -> Hp -> VK -> Prop) (to : TE) (t : TA) : TE := fun σ H Q => to σ H fun x H1 => tyV K T x H1 ∧ t σ H1 fun xs H2 => r x xs H2 Q
variable {o e : Expr} {es : List Expr} {to : TE} {t : TA} {name : Str} {apos cpos : Pos} {T id : String} {r : V -> List V -> Hp -> VK -> Prop}
theorem uqo (pa : PlainAttrs T) (slot : Slot T name id) (hty : typeOf (.builtin id) = pure (.type "method_descriptor")) (hm : MtR X id r) (ho : PE X o to) (ha : PA X (e :: es) t)
  (hbase : attributeBase o name X.env (eval o X.env) = eval o X.env := by rfl)
  (hfew : ((backTo cpos (starEach (e :: es) X.env)).all (fun x => !x.1) && (backToKw cpos (keywordEach [] X.env)).all (fun x => x.1.isSome)
   && decide ((e :: es).length + ([] : List Keyword).length + (if ([] : List Keyword).isEmpty then 0 else 1) < 30)) = true := by rfl)
  (hline : (apos.endLine == cpos.line) = true := by rfl) (hs : starEach (e :: es) X.env = (false,eval e X.env) :: starEach es X.env := by rfl) (hplain : (backTo cpos (starEach es X.env)).any (·.1) = false := by rfl) :
  PE X (.Call (.Attribute o name apos) (e :: es) [] cpos) (tBM X.K T r to t) := by
 intro pins s σ H Q I h
 refine wpAny_Call_method_late hbase hfew hline rfl (thn (ho pins s σ H _ I h) fun v s1 W' => ?_)
 obtain ⟨x,H1,I1,r1,ty,q1⟩ := W'
 obtain ⟨h1,h2⟩ := tqQ I1 r1 ty
 refine ⟨T,id,pa,slot,hty,h1,h2,?_⟩
 have hA := ha cpos pins s1 σ H1 _ I1 q1
 rw [hs] at hA ⊢
 refine Calls.callWith_builtin (by show (false || (backTo cpos (starEach es X.env)).any (·.1)) = false; rw [hplain] <;> rfl) (Calls.evalArgs_plain ?_)
 exact thn hA fun us s2 ⟨vs,H2,I2,r2,q2⟩ => hm pins s2 σ H2 x vs v us Q I2 r1 r2 q2
end
def MtM (X : Cx) (id : String) (r : V -> List V -> Hp -> VK -> Prop) : Prop :=
 ∀ (pins : List (Addr × Obj)) (s : Shared) (σ : St) (H : Hp) (x : V) (xs : List V) (v : Value) (us : List Value) (Q : VK),Inv X pins σ H s -> RelV x v -> Vals xs us -> r x xs H Q ->
  wpAny (model X.prog X.w) X.A (call (.builtin id) (v :: us)) (EP X pins σ Q) X.xe s
theorem Vals.one : ∀ {x : V} {us : List Value},Vals [x] us -> ∃ u,us = [u] ∧ RelV x u
 | _,_,.cons r .nil => ⟨_,rfl,r⟩
theorem Vals.rep {xs : List V} {us : List Value} (h : Vals xs us) : ∀ k : Nat,Vals (List.replicate k xs).flatten (List.replicate k us).flatten
 | 0 => .nil
 | k + 1 => by
  rw [List.replicate_succ,List.replicate_succ,List.flatten_cons,List.flatten_cons]
  exact Vals.append h (Vals.rep h k)
theorem gq5 (its : List Value) : ∀ (k : Nat) (acc : List Value),
  List.foldl (fun x1 x2 => x1 ++ x2) acc.toArray (List.replicate k its.toArray) = (acc ++ (List.replicate k its).flatten).toArray
 | 0,acc => by simp
 | k + 1,acc => by
  have e : acc.toArray ++ its.toArray = (acc ++ its).toArray := by simp
  have e2 : (acc ++ its) ++ (List.replicate k its).flatten = acc ++ (List.replicate (k + 1) its).flatten := by
   rw [List.replicate_succ,List.flatten_cons,List.append_assoc]
  rw [<- e2,<- gq5 its k (acc ++ its),<- e,List.replicate_succ,List.foldl_cons]
section
variable {X : Cx} {pins : List (Addr × Obj)} {σ : St} {H : Hp} {s : Shared} {l b : Addr} {xs ys zs : List V}
theorem Inv.lset {its its' : List Value} {n : Nat} {f : Array Value -> Array Value} {t' : Nat} (I : Inv X pins σ H s) (hH : H l = some (.lst xs))
  (e : s.heap.get? l = some { cls := .type "list",data := .seq its.toArray n }) (hf : f its.toArray = its'.toArray) (hv : Vals ys its') (hz : ys.length ≤ sizeLine) :
  Inv X pins σ (upd H l (.lst ys)) { s with heap := s.heap.update l (Obj.mapSeq f),toks := t' } := by
 have q := PySem.IsL.update e f
 rw [hf] at q
 refine I.write (x := l) (e := l) (by rw [hH]; exact trivial) (.inl rfl) (fun b' u hb hu => (Heap.get?_update_other s.heap (Obj.mapSeq f) (Ne.symm hb)).trans hu) ⟨_,q⟩ ?_
 exact ⟨hz,its',_,hv,q⟩
theorem Inv.lnew {its : List Value} {t' : Nat} (I : Inv X pins σ H s) (hv : Vals ys its) (hz : ys.length ≤ sizeLine) :
  Inv X pins σ (upd H s.heap.objs.size (.lst ys)) { s with heap := s.heap.push { cls := .type "list",data := .seq its.toArray },toks := t' } :=
 I.laid (fun _ _ q => Heap.get?_push_of_some _ q) (Nat.le_refl _) ⟨hz,its,0,hv,Heap.get?_push_size _ rfl⟩
theorem Inv.fresh (I : Inv X pins σ H s) : H s.heap.objs.size = none := I.hok.fresh (Nat.le_refl _)
theorem Inv.lstM (I : Inv X pins σ H s) (hH : H l = some (.lst xs)) : xs.length ≤ sizeLine ∧ ∃ (its : List Value) (n : Nat),Vals xs its ∧ xs.length = its.length ∧ s.heap.get? l = some { cls := .type "list",data := .seq its.toArray n } := by
 obtain ⟨z,its,n,r,e⟩ := I.hok l _ hH
 exact ⟨z,its,n,r,r.length,e⟩
theorem notLongL {n : Nat} (h : n ≤ sizeLine) : Builtin.List.listTooLong n = false := by
 unfold Builtin.List.listTooLong
 exact decide_eq_false (by omega)
end
section
variable {X : Cx}
def rAppend : V -> List V -> Hp -> VK -> Prop := fun x vs H Q => ∃ l xs y,x = .ref l ∧ vs = [y] ∧ H l = some (.lst xs) ∧ xs.length < sizeLine ∧ Q .non (upd H l (.lst (xs ++ [y])))
theorem cqp : MtM X "list.append" rAppend := by
 intro pins s σ H x vs v us Q I rx rv h
 obtain ⟨l,xs,y,rfl,rfl,hH,hz,q⟩ := h
 cases rx
 obtain ⟨u,rfl,ru⟩ := rv.one
 obtain ⟨z,its,n,r,hl,e⟩ := I.lstM hH
 refine call_meets F.slot_list_append ⟨_,e,rfl⟩ F.entry_list_append (F.args_list_append_2 _ _) (PySem.list_append l its.toArray n u (by rw [List.size_toArray]; omega)) ⟨e,?_⟩
 refine ⟨.non,_,I.lset (its' := its ++ [u]) hH e (by simp) (r.append (.cons ru .nil)) ?_,rfl,q⟩
 rw [List.length_append,List.length_singleton]
 omega
def rExtend : V -> List V -> Hp -> VK -> Prop := fun x vs H Q => ∃ l b xs zs,x = .ref l ∧ vs = [.ref b] ∧ H l = some (.lst xs) ∧ H b = some (.lst zs) ∧ xs.length + zs.length ≤ sizeLine ∧ Q .non (upd H l (.lst (xs ++ zs)))
theorem pqq : MtM X "list.extend" rExtend := by
 intro pins s σ H x vs v us Q I rx rv h
 obtain ⟨l,b,xs,zs,rfl,rfl,hH,hB,hz,q⟩ := h
 cases rx
 obtain ⟨u,rfl,ru⟩ := rv.one
 cases ru
 obtain ⟨z,its,n,r,hl,e⟩ := I.lstM hH
 obtain ⟨z2,its2,n2,r2,hl2,e2⟩ := I.lstM hB
 have hsz : its.toArray.size + its2.toArray.size ≤ sizeLine := by rw [List.size_toArray,List.size_toArray]; omega
 have hlong : ¬ (!its.toArray.isEmpty && Builtin.List.listTooLong (its.toArray.size + its2.toArray.size)) = true := by
  rw [notLongL hsz,Bool.and_false]
  exact Bool.false_ne_true
 refine call_meets F.slot_list_extend ⟨_,e,rfl⟩ F.entry_list_extend (F.args_list_extend_2 _ _)
  (AutoSeq1.list_extend_list_list_0 l its.toArray n b its2.toArray n2 hlong (by rw [List.size_toArray]; omega) (by omega)) ⟨e,e2,?_⟩
 refine ⟨.non,_,I.lset (its' := its ++ its2) hH e (by simp) (r.append r2) ?_,rfl,q⟩
 rw [List.length_append]
 omega
def rPop : V -> List V -> Hp -> VK -> Prop := fun x vs H Q => ∃ l xs y,x = .ref l ∧ vs = [] ∧ H l = some (.lst xs) ∧ xs[xs.length - 1]? = some y ∧ Q y (upd H l (.lst xs.dropLast))
def rPopAt : V -> List V -> Hp -> VK -> Prop := fun x vs H Q => ∃ l xs i k y,x = .ref l ∧ vs = [.int i] ∧ H l = some (.lst xs) ∧ -(2 ^ 63) ≤ i ∧ i < 2 ^ 63 ∧ seqIndex? i xs.length = some k ∧ xs[k]? = some y ∧ Q y (upd H l (.lst (xs.eraseIdx k)))
def rReverse : V -> List V -> Hp -> VK -> Prop := fun x vs H Q => ∃ l xs,x = .ref l ∧ vs = [] ∧ H l = some (.lst xs) ∧ Q .non (upd H l (.lst xs.reverse))
def rCat : R2 := fun x y H Q => ∃ l b xs zs,x = .ref l ∧ y = .ref b ∧ H l = some (.lst xs) ∧ H b = some (.lst zs) ∧ xs.length + zs.length ≤ sizeLine ∧ ∀ p,H p = none -> Q (.ref p) (upd H p (.lst (xs ++ zs)))
theorem sqR : OpR X (binaryOp .Add) rCat := by
 intro pins s σ H x y v u Q I rx ry h
 obtain ⟨l,b,xs,zs,rfl,rfl,hH,hB,hz,q⟩ := h
 cases rx
 cases ry
 obtain ⟨z,its,n,r,hl,e⟩ := I.lstM hH
 obtain ⟨z2,its2,n2,r2,hl2,e2⟩ := I.lstM hB
 refine PySem.P.add_list e e2 ?_ (by rw [List.size_toArray,List.size_toArray]; omega)
 have ea : its.toArray ++ its2.toArray = (its ++ its2).toArray := by simp
 rw [ea]
 exact ⟨.ref _,_,I.lnew (t' := s.toks) (r.append r2) (by rw [List.length_append]; omega),rfl,q _ I.fresh⟩
def rRep : R2 := fun x y H Q => ∃ l k xs,x = .ref l ∧ y = .int k ∧ H l = some (.lst xs) ∧ -(2 ^ 63) ≤ k ∧ k < 2 ^ 63 ∧ xs.length * k.toNat ≤ sizeLine ∧
 ∀ p,H p = none -> Q (.ref p) (upd H p (.lst (List.replicate k.toNat xs).flatten))
theorem mqh {α : Type} (xs : List α) (k : Nat) : (List.replicate k xs).flatten.length = k * xs.length := by
 induction k with
 | zero => simp
 | succ k ih => rw [List.replicate_succ,List.flatten_cons,List.length_append,ih,Nat.succ_mul,Nat.add_comm]
theorem sq5 : OpR X (binaryOp .Mult) rRep := by
 intro pins s σ H x y v u Q I rx ry h
 obtain ⟨l,k,xs,rfl,rfl,hH,h1,h2,hz,q⟩ := h
 cases rx
 obtain ⟨t,rfl⟩ := ry
 obtain ⟨z,its,n,r,hl,e⟩ := I.lstM hH
 have hlen : its.toArray.size * k.toNat ≤ sizeLine := by rw [List.size_toArray,<- hl]; exact hz
 have hcap : ¬ its.toArray.size * k.toNat > (2 ^ 63 - 1) / 8 := by
  have : (sizeLine : Nat) ≤ (2 ^ 63 - 1) / 8 := by decide
  omega
 have hfit : ¬ (!Builtin.List.listFitsIndex k) = true := by
  rw [fitsIndex_both h1 h2]
  exact Bool.false_ne_true
 have hlong : ¬ Builtin.List.listTooLong (its.toArray.size * k.toNat) = true := by
  rw [notLongL hlen]
  exact Bool.false_ne_true
 have hnew : List.foldl (fun x1 x2 => x1 ++ x2) #[] (List.replicate (if its.toArray.isEmpty = true then 0 else k.toNat) its.toArray) = (List.replicate k.toNat its).flatten.toArray := by
  have f0 : ∀ m : Nat,List.foldl (fun x1 x2 => x1 ++ x2) #[] (List.replicate m its.toArray) = (List.replicate m its).flatten.toArray := fun m => by
   have := gq5 its m []
   rw [List.nil_append] at this
   exact this
  rw [f0]
  cases its with
  | nil => simp
  | cons a r' => rw [if_neg (by simp)]
 refine wpAny_binaryOp_repeat_ref (T := "list") (U := "int") (by decide) ⟨_,e,rfl⟩ (fun s' => typeIs_int s' k t) noFill_list_mul F.fills_int_mul F.slot_int_rmul repeat_list F.slot_int_index.lookup
  (call_meets F.slot_int_rmul (typeIs_int s k t) F.entry_int_rmul (F.args_int_rmul_2 _ _) (int___rmul___int_list k t l its.toArray n)
   ⟨e,rfl,⟨_,e,rfl⟩,call_meets F.slot_list_mul ⟨_,e,rfl⟩ F.entry_list_mul (F.args_list_mul_2 _ _) (AutoListH.list___mul___list_int_3 l its.toArray n k t hfit hcap hlong) ⟨e,?_⟩⟩)
 rw [hnew]
 exact ⟨.ref _,_,I.lnew (t' := s.toks) (r.rep k.toNat) (by rw [mqh,Nat.mul_comm]; exact hz),rfl,q _ I.fresh⟩
end
section
variable {prog : Program} {w : World} {A : Around} {E : Value -> Shared -> Prop} {s : Shared}
set_option maxRecDepth 100000 in
end
section
variable {X : Cx}
end
end L2
namespace Att
open PySem PySem.W PySem.Calls PyProof.Rows
theorem iqL {P : Params} {h : Heap} : ∀ (ns : List Int) (vs : List Value),WellAll P h vs (ns.map WData.int) -> IntsAre vs ns := by
 intro ns
 induction ns with
 | nil =>
  intro vs w
  rw [List.map_nil] at w
  cases w
  exact .nil
 | cons n ns ih =>
  intro vs w
  rw [List.map_cons] at w
  cases w with
  | cons a b =>
   cases a
   exact .cons _ _ (ih _ b)
theorem oqr {l : OpenLaw} {n : Nat} (hn : l.most = some n) {P : Params} {h : Heap} {args : List WData} {vals : List Value}
  (hpre : l.row.toRowW.claim.pre args = true) (hwl : WellAll P h vals args) :
  ∃ a vs ns,vals = [Value.ref a] ∧ args = [WData.list (ns.map WData.int)] ∧ h.get? a = some { cls := .type "list",data := .seq vs.toArray } ∧ IntsAre vs ns ∧ ns.length ≤ n := by
 have hsh : WShape.hasAll [] args [.list .int] = true := (pre_splitW hpre).1
 have hc : l.pre.holds [] { args := args } = true := (pre_splitW hpre).2
 obtain ⟨d,r,rfl,h1,h2⟩ := hasAllW_cons hsh
 obtain rfl := hasAllW_nil h2
 obtain ⟨xs,rfl,h3⟩ := hasW_list h1
 obtain ⟨ns,rfl⟩ := items_int h3
 have hlen : ns.length ≤ n := by
  unfold OpenLaw.pre at hc
  have h4 : (WTm.not (.lt (.lit (.int (n : Int))) (.len (.arg 0)))).holds [] { args := [.list (ns.map .int)] } = true := by
   have h4 := (holds_andW hc).1
   rw [hn] at h4
   exact h4
  have h5 := condW_of h4 (w_not (w_lt w_lit (w_len_list (w_arg rfl))))
  rw [List.length_map] at h5
  refine Nat.le_of_not_lt fun q => ?_
  have q' : (n : Int) < ((ns.length : Nat) : Int) := by omega
  first
   | (rw [decide_eq_true q'] at h5; exact absurd h5 (by decide))
   | (simp at h5; omega)
 cases hwl with
 | cons w1 w2 =>
  cases w2
  cases w1 with
  | list ho hall => exact ⟨_,_,ns,rfl,rfl,ho,iqL ns _ hall,hlen⟩
theorem oqU (l : OpenLaw) (args : List WData) : l.row.toRowW.claim.post args (.bool true) args = true :=
 postW_of (r := l.row.toRowW) (X := (true == true))
  (show WShape.has [] (.bool true) .bool = true by first | rfl | decide | simp [WShape.has,WShape.arms,WShape.armsAll])
  (show (WTm.eq .res (.lit (.bool true))).value [] { args := args,res := some (.bool true),after := args } = some (.bool (true == true)) from w_eq_bool (w_res rfl) w_lit) rfl
theorem attach_call {l : OpenLaw} {n : Nat} {q : Program} {loose : List Str} {XP : (Str -> Option Value) -> Heap -> Prop} {YP : World -> Heap -> Prop} {d : DefRec}
  (hn : l.most = some n) (hdf : d.params.defaults = [])
  (call : ∀ (w : World) (s₀ s₁ : Shared) (mg mb : Str -> Option Value) (fa : Addr) (o : Obj) (pm cd doc : Value) (a : Addr) (vs : List Value) (ns : List Int),
   Ground q loose [] XP w s₀ mg mb s₁.heap -> YP w s₁.heap ->
   s₁.heap.get? fa = some o -> o.data = .func (docDef d.name d.params d.body d.scope pm cd doc) -> s₁.heap.CodeRec cd d.name -> mg d.name = some (.ref fa) ->
   s₁.heap.get? a = some { cls := .type "list",data := .seq vs.toArray } -> IntsAre vs ns -> ns.length ≤ n -> s₁.gens = #[] ->
   codeAny (model l.prog w) callerA (.call (.ref fa) ⟨[.ref a],[]⟩) (fun r s' => r = .ok (.ret (.bool true)) ∧ OldK s₁.heap s'.heap ∧ s'.os = s₁.os ∧ AllBare s'.gens) s₁) :
  WalkO q loose XP YP l.row.toRowW d [] (fun f vs => PySem.call f vs) := by
 intro w s₀ s₁ mg mb G Y fa o pm cd doc dV kV ho hd hcd hD hmg hg args vals as hpre hlay hrd hwl hlo
 obtain rfl : dV = .none := Dflts.none hD hdf
 obtain rfl : kV = .none := Dflts.noKw hD
 obtain ⟨a,vs,ns,rfl,rfl,hobj,hints,hlen⟩ := oqr hn hpre hwl
 refine enter_call (codeAny_mono (call w s₀ s₁ mg mb fa o pm cd doc a vs ns G Y ho (fd_plain hd) hcd hmg hobj hints hlen hg) fun r s' hq => ?_)
 obtain ⟨rfl,h2,h3,h4⟩ := hq
 exact ⟨.inl ⟨.bool true,.bool true,[],rfl,fun _ => rfl,.bool true,oqU l _,fun _ => ⟨List.Pairwise.nil,fun _ hm => (nomatch hm)⟩⟩,h2,h3,h4⟩
section
variable {prog : Program} {w : World} {A : Around} {E : Value -> Shared -> Prop} {s : Shared} {K : Frag}
def ledger (h : Heap) (L d : Addr) : List (Addr × Obj) := (List.range h.objs.size).filterMap fun a => if a = L ∨ a = d then none else (h.get? a).map fun o => (a,o)
end
end Att
namespace L2
open PySem PySem.Spec PyProof.Rows
theorem lqu : ∀ {vs : List Value} {ns : List Int},IntsAre vs ns -> Vals (ns.map V.int) vs
 | _,_,.nil => .nil
 | _,_,.cons n t h => .cons ⟨t,rfl⟩ (lqu h)
def Only (H : Hp) : Prop := ∀ b,H b = none ∨ ∃ o xs,H b = some (.frz o (.lst xs))
theorem qqZ {P : Program} {w : World} {K : PySem.W.Frag} {mg mb : Str -> Option Value} {CX : CXT} {k : Nat} {fa a : Addr} {fd : FuncData} {x : Str} {sp : Sp} {s₁ : Shared} {vs : List Value} {ns : List Int}
  (KX : K.In s₁.heap) (hns : s₁.heap.Ns mainGlobals mg) (hb : s₁.heap.Ns builtinsNs mb) (hbb : ∀ x : Str,x ≠ "__name__" -> mb x = bootBuiltins x) (hlim : s₁.heap.NoLimit) (hg : s₁.gens = #[])
  (ha : s₁.heap.get? a = some { cls := .type "list",data := .seq vs.toArray }) (hi : IntsAre vs ns) (hl : ns.length ≤ sizeLine) (hr : Room k callerA)
  (F : ∀ base : Heap,K.In base -> base.Ns mainGlobals mg -> FnOk P w K mg base CX k fa fd [x] sp) (hbind : ∀ (s : Shared) (u : Value),BindsTo s fd ⟨[u],[]⟩ [(x,u)])
  (hsp : ∀ H : Hp,Only H -> SqL K H a (ns.map V.int) -> sp [.ref a] H (fun v _ => v = .bl true) fun _ _ _ => False)
  (hCX : ∀ H e s',CX [] H s₁ (fun _ _ _ => False) e s' -> False) :
  codeAny (model P w) callerA (.call (.ref fa) ⟨[.ref a],[]⟩) (fun r s' => r = .ok (.ret (.bool true)) ∧ OldK s₁.heap s'.heap ∧ s'.os = s₁.os ∧ AllBare s'.gens) s₁ := by
 have rv := lqu hi
 have lenV := hi.length
 have core : ∀ H : Hp,Only H -> SqL K H a (ns.map V.int) -> HOk P w H s₁.heap -> (∀ b,H b ≠ none -> b = a) -> (H a ≠ none -> K.lookup a = none) ->
   codeAny (model P w) callerA (.call (.ref fa) ⟨[.ref a],[]⟩) (fun r s' => r = .ok (.ret (.bool true)) ∧ OldK s₁.heap s'.heap ∧ s'.os = s₁.os ∧ AllBare s'.gens) s₁ := by
  intro H hO hS hok hA hK
  have base_of : ∀ {b : Addr} {o : Obj},s₁.heap.get? b = some o -> H b = none -> (hidT s₁.heap H).get? b = some o := fun e n => pqW e n
  have noA : ∀ {b : Addr} {o : Obj} {es : Array DictEntry} {ep : Nat},s₁.heap.get? b = some o -> o.data = .dict es ep -> H b = none := fun {b o es ep} e d => by
   cases q : H b with
   | none => rfl
   | some u =>
    have e' : b = a := hA b (by rw [q]; simp)
    subst e'
    rw [ha] at e; cases e
    have d' : Data.seq vs.toArray _ = Data.dict es ep := d
    cases d'
  have nsK : ∀ {b : Addr} {m : Str -> Option Value},s₁.heap.Ns b m -> (hidT s₁.heap H).Ns b m := fun {b m} ⟨o,es,ep,e,d,r⟩ => ⟨o,es,ep,base_of e (noA e d),d,r⟩
  have hKb : K.In (hidT s₁.heap H) := fun b o e => base_of (KX b o e) (by
   cases q : H b with
   | none => rfl
   | some u =>
    have e' : b = a := hA b (by rw [q]; simp)
    subst e'
    rw [hK (by rw [q]; simp)] at e; cases e)
  have hM : Mod K mg (hidT s₁.heap H) := ⟨hKb,nsK hns,⟨mb,nsK hb,hbb⟩,let ⟨mc,h1,h2⟩ := hlim; ⟨mc,nsK h1,h2⟩⟩
  have e0 : Env0 P w K mg (hidT s₁.heap H) callerA [] s₁ H := ⟨rfl,hM,fun b o e => sqP e,Nat.le_of_eq (pqx _ _),trivial,fun b hb => absurd (show b ∈ ([] : List Addr) from hb) (by simp),hok,.of_eq hg⟩
  refine codeAny_mono ((F _ hKb (nsK hns)).run callerA [] s₁ H ⟨[.ref a],[]⟩ [.ref a] [.ref a] _ _ hr e0 (hbind s₁ (.ref a)) (.cons rfl .nil) (hsp H hO hS)) fun r s' h => ?_
  cases r with
  | error e => exact (hCX H e s' h).elim
  | ok fl =>
   cases fl with
   | next => exact False.elim h
   | brk => exact False.elim h
   | cont => exact False.elim h
   | ret u =>
    obtain ⟨v,H',os,bare,un,hok',r',q⟩ := h
    have q' : v = .bl true := q
    subst q'
    obtain rfl : u = Value.bool true := r'
    refine ⟨rfl,OldK.of_keep fun b o e => ?_,os,bare⟩
    cases q : H b with
    | none => exact un.keep b o e q (by intro z; exact absurd (show b ∈ ([] : List Addr) from z) (by simp)) (by simp)
    | some u =>
     rcases hO b with z | ⟨ob,xs,z⟩
     ·rw [q] at z; cases z
     ·have z2 := un.frzs b ob _ z
      obtain ⟨e1,_⟩ := hok b _ z
      obtain ⟨e2,_⟩ := hok' b _ z2
      rw [e] at e1; cases e1
      exact e2
 cases hk : K.lookup a with
 | some o =>
  have e := KX a o hk
  rw [ha] at e
  cases e
  refine core (fun _ => none) (fun _ => .inl rfl) (.inr ⟨_,vs.toArray,_,hk,rfl,rfl,rfl,by rw [List.size_toArray,lenV]; exact hl,by simpa using rv⟩) (fun b u z => by have z' : (none : Option HO) = some u := z; cases z') (fun b z => absurd rfl z) fun z => absurd rfl z
 | none =>
  refine core (fun b => if b = a then some (.frz { cls := .type "list",data := .seq vs.toArray } (.lst (ns.map V.int))) else none) (fun b => ?_) (.inl (.inr ⟨{ cls := .type "list",data := .seq vs.toArray },if_pos rfl⟩)) (fun b u z => ?_) (fun b z => ?_) fun _ => hk
  ·by_cases hb : b = a
   ·exact .inr ⟨_,_,if_pos hb⟩
   ·exact .inl (if_neg hb)
  ·by_cases hb : b = a
   ·have z' := (if_pos hb).symm.trans z
    cases z'
    subst hb
    exact ⟨ha,by rw [List.length_map]; exact hl,vs,_,rv,ha⟩
   ·have z' := (if_neg hb).symm.trans z
    cases z'
  ·by_cases hb : b = a
   ·exact hb
   ·exact absurd (if_neg hb) z
abbrev KOf {K : PySem.W.Frag} {h : Heap} (_ : K.In h) : PySem.W.Frag := K
theorem rqk {l : PySem.W.OpenLaw} {n k : Nat} {q : Program} {loose : List Str} {XP : (Str -> Option Value) -> Heap -> Prop} {YP : World -> Heap -> Prop} {d : DefRec} {K : Params -> PySem.W.Frag} {CX : World -> CXT} {sp : World -> Sp} {x : Str}
  (hn : l.most = some n) (hn2 : n ≤ sizeLine) (hdf : d.params.defaults = []) (hr : Room k callerA)
  (hY : ∀ (w : World) (h : Heap),YP w h -> (K w.params).In h)
  (F : ∀ (w : World) (mg : Str -> Option Value) (fa : Addr) (h : Heap),(K w.params).In h -> h.Ns mainGlobals mg -> mg d.name = some (.ref fa) ->
   ∃ fd : FuncData,(∀ (s : Shared) (u : Value),BindsTo s fd ⟨[u],[]⟩ [(x,u)]) ∧
    ∀ base : Heap,(K w.params).In base -> base.Ns mainGlobals mg -> FnOk l.prog w (K w.params) mg base (CX w) k fa fd [x] (sp w))
  (hsp : ∀ (w : World) (H : Hp) (a : Addr) (ns : List Int),ns.length ≤ n -> Only H -> SqL (K w.params) H a (ns.map V.int) -> sp w [.ref a] H (fun v _ => v = .bl true) fun _ _ _ => False)
  (hCX : ∀ (w : World) (H : Hp) (s : Shared) (e : Value) (s' : Shared),CX w [] H s (fun _ _ _ => False) e s' -> False) :
  PySem.W.WalkO q loose XP YP l.row.toRowW d [] (fun f vs => PySem.call f vs) := by
 refine Att.attach_call hn hdf fun w s₀ s₁ mg mb fa o pm cd doc a vs ns G Y ho hd hcd hmg hobj hints hlen hg => ?_
 have KX := hY w _ Y
 obtain ⟨fd,hb,hF⟩ := F w mg fa _ KX G.T.g hmg
 exact qqZ KX G.T.g G.T.b G.T.builtins G.T.nolimit hg hobj hints (Nat.le_trans hlen hn2) hr hF hb (fun H hO hS => hsp w H a ns hlen hO hS) fun H e s' => hCX w H s₁ e s'
def inClass (s : Stmt) (j : Nat) : Stmt := match s with
 | .ClassDef _ _ _ body _ _ _ _ _ _ _ => body.getD j (.Pass ⟨0,0,0,0⟩)
 | _ => .Pass ⟨0,0,0,0⟩
def defArgs (s : Stmt) : Arguments := match s with
 | .FunctionDef _ a _ _ _ _ _ _ _ _ => a
 | _ => { posonlyargs := [],args := [],vararg := none,kwonlyargs := [],kw_defaults := [],kwarg := none,defaults := [] }
def defBody (s : Stmt) : List Stmt := match s with
 | .FunctionDef _ _ b _ _ _ _ _ _ _ => b
 | _ => []
def defScope (s : Stmt) : Scope := match s with
 | .FunctionDef _ _ _ _ _ _ sc _ _ _ => sc
 | _ => { kind := .function,names := [],isGenerator := false,isCoroutine := false }
abbrev CX0 : CXT := fun _ _ _ _ _ _ => False
abbrev E0 : XK := fun _ _ _ => False
theorem pass0 {X : Cx} : Passes CX0 X E0 := fun _ _ _ _ _ _ _ h => h.elim
structure Fun (K : PySem.W.Frag) (x qual : Str) (st : Stmt) (f : Addr) (fd : FuncData) : Prop where
 ex : ∃ (oc : Value) (od : Option Addr) (kV doc pm : Value) (an : Option Addr) (cdv ct : Value) (osl : Array (Option Value)),
  fd = PySem.W.fnOf x qual (defArgs st) (defBody st) (defScope st) .none kV doc pm an cdv ct ∧ K.lookup f = some ⟨oc,od,.func fd,osl⟩ ∧ PySem.W.codeIn K cdv qual = true
 kp : PySem.W.keepIn K (.ref f) = true
section
variable {P : Program} {w : World} {K : PySem.W.Frag} {mg : Str -> Option Value} {base : Heap}
theorem Fun.ok {x qual : Str} {st : Stmt} {f : Addr} {fd : FuncData} {N ps : List Str} {k : Nat} {sp : Sp} (F : Fun K x qual st f fd) (S : FnScope N ps (defScope st)) (len : ∀ vs H Q E,sp vs H Q E -> vs.length = ps.length)
  (hbody : ∀ (cdv : Value) (A : Around) (outer : List Env) (s : Shared) (H : Hp) (vs : List V) (Q : VK) (E : XK),Room k (A.deeper (envOfC qual (defScope st) s.heap.objs.size f cdv)) -> sp vs H Q E ->
   ∃ t,PSs (cxOf CX0 P w K mg base N qual (defScope st) f cdv A outer s H E).nox (defBody st) t ∧ t { nx := fun _ H' => Q .non H',rt := Q } (start N vs) H) : FnOk P w K mg base CX0 (k + 1) f fd ps sp := by
 obtain ⟨oc,od,kV,doc,pm,an,cdv,ct,osl,rfl,lk,hcd⟩ := F.ex
 refine tqL lk hcd S len fun A outer s H vs Q E hr hsp => ?_
 obtain ⟨t,h,q⟩ := hbody cdv A outer s H vs Q E hr hsp
 exact ⟨t,h.nox,q⟩
theorem Fun.binds {x qual : Str} {st : Stmt} {f : Addr} {fd : FuncData} {ps : List Str} (F : Fun K x qual st f fd)
  (h : ∀ (kV doc pm : Value) (an : Option Addr) (cdv ct : Value) (us : List Value),us.length = ps.length -> bindArgs (PySem.W.fnOf x qual (defArgs st) (defBody st) (defScope st) .none kV doc pm an cdv ct) ⟨us,[]⟩ = pure (ps.zip us)) : Binds K fd ps [] := by
 obtain ⟨oc,od,kV,doc,pm,an,cdv,ct,osl,rfl,lk,hcd⟩ := F.ex
 exact .all (h kV doc pm an cdv ct)
theorem aqy {x qual : Str} {st : Stmt} {f : Addr} {oc : Value} {od an : Option Addr} {osl : Array (Option Value)} {kV doc pm cdv ct : Value} (l : K.lookup f = some ⟨oc,od,.func (PySem.W.fnOf x qual (defArgs st) (defBody st) (defScope st) .none kV doc pm an cdv ct),osl⟩)
  (c : PySem.W.codeIn K cdv qual = true) (k : PySem.W.keepIn K (.ref f) = true) : Fun K x qual st f (PySem.W.fnOf x qual (defArgs st) (defBody st) (defScope st) .none kV doc pm an cdv ct) := ⟨⟨oc,od,kV,doc,pm,an,cdv,ct,osl,rfl,l,c⟩,k⟩
end
section
variable {X : Cx}
theorem pv (i : Nat) {x : Str} {pos : Pos} (hN : X.N[i]? = some x := by rfl) (hv : Vis X.env.scope x := by first | exact Or.inl rfl | exact Or.inr (Or.inl rfl) | exact Or.inr (Or.inr rfl)) (hd : (x == ("__debug__" : Str)) = false := by decide)
  (hcd : (x == ("__classdict__" : Str)) = false := by decide) : PE X (.Name x pos) (tVar i) := uqe hN hv hd hcd
end
theorem ite2 {c A B : Prop} [Decidable c] (h1 : c -> A) (h2 : ¬ c -> B) : if c then A else B := by
 by_cases h : c
 ·rw [if_pos h]
  exact h1 h
 ·rw [if_neg h]
  exact h2 h
def Same (H H' : Hp) : Prop := ∀ b o,H b = some o -> H' b = some o
theorem Same.refl (H : Hp) : Same H H := fun _ _ h => h
theorem Same.trans {H H1 H2 : Hp} (a : Same H H1) (b : Same H1 H2) : Same H H2 := fun c o h => b c o (a c o h)
theorem Same.seq {K : PySem.W.Frag} {H H' : Hp} {a : Addr} {xs : List V} (e : Same H H') (h : SqL K H a xs) : SqL K H' a xs := by
 rcases h with (h | ⟨o,h⟩) | h
 ·exact .inl (.inl (e _ _ h))
 ·exact .inl (.inr ⟨o,e _ _ h⟩)
 ·exact .inr h
end L2
set_option maxHeartbeats 4000000
namespace L2
open PySem PySem.Spec PyProof.Rows
def Its (z : Str) : It := ⟨fun i _ => i < z.length,fun i H x H' => H' = H ∧ ∃ c,z.cps.toList[i]? = some c ∧ x = .str ⟨#[c]⟩,fun i _ => z.length ≤ i⟩
theorem pqy {z : Str} {i : Nat} (h : i < z.length) : ∃ c,z.cps[i]? = some c ∧ z.cps.toList[i]? = some c := by
 have h' : i < z.cps.size := h
 exact ⟨z.cps[i],by simp [h'],by simp [h']⟩
theorem nqd {z : Str} {i : Nat} (h : z.length ≤ i) : z.cps[i]? = none := by
 have h' : z.cps.size ≤ i := h
 simp [h']
theorem oqh {P : Program} {w : World} {K : PySem.W.Frag} {tg : Expr} (it : Addr) (z : Str) (t : Tok) : Turn P w K tg (Its z) [it] it (fun i h => h.IsStrIter it "str_ascii_iterator" z t i) where
 mem := by simp
 obj := fun i h st b hb => by
  have e : b = it := by simpa using hb
  subst e
  obtain ⟨o,e,c,d⟩ := st
  exact ⟨o,e,fun v z => by rw [d] at z; cases z⟩
 keep := fun i h h' st k => by
  obtain ⟨o,e,r⟩ := st
  exact ⟨o,k it (by simp) o e,r⟩
 item := by
  intro X hP hw hK hc i pins s σ H E I hf st hg
  subst hP hw hK
  obtain ⟨c,h1,h2⟩ := pqy (z := z) (i := i) hg
  obtain ⟨f0,f1,f2,f3,f4,f5⟩ := hf it (by simp)
  refine wpAny_pyNext_ascii_item st h1 fun h' st' sb => ?_
  have I1 : Inv X pins σ H { s with heap := h',toks := s.toks + 1 } := I.turned (t' := s.toks + 1) (fun b o hb e => (sb.2 b hb).trans e) f0 f1 f3 f4 f5
  obtain ⟨o,e,cl,d⟩ := id st'
  exact ⟨_,rfl,pqD (s := { s with heap := h',toks := s.toks + 1 }) e cl d (by decide) ⟨.str ⟨#[c]⟩,H,I1,⟨_,rfl⟩,⟨rfl,c,h2,rfl⟩,st',fun b hb => (hf b hb).1⟩⟩
 done := by
  intro X hP hw hK hc i pins s σ H E I hf st hg
  subst hP hw hK
  obtain ⟨f0,f1,f2,f3,f4,f5⟩ := hf it (by simp)
  exact wpAny_pyNext_ascii_end (I.ok.hd hc) st (nqd hg) fun h' eb => ⟨rfl,I.turned (t' := s.toks) (fun b o hb e => eb b o hb e) f0 f1 f3 f4 f5⟩
 self := fun _ _ _ _ _ st h => wpAny_pyIter_striter_ascii st h
theorem oqZ {P : Program} {w : World} {K : PySem.W.Frag} {tg : Expr} (it : Addr) (z : Str) (t : Tok) : Turn P w K tg (Its z) [it] it (fun i h => h.IsStrIter it "str_iterator" z t i) where
 mem := by simp
 obj := fun i h st b hb => by
  have e : b = it := by simpa using hb
  subst e
  obtain ⟨o,e,c,d⟩ := st
  exact ⟨o,e,fun v z => by rw [d] at z; cases z⟩
 keep := fun i h h' st k => by
  obtain ⟨o,e,r⟩ := st
  exact ⟨o,k it (by simp) o e,r⟩
 item := by
  intro X hP hw hK hc i pins s σ H E I hf st hg
  subst hP hw hK
  obtain ⟨c,h1,h2⟩ := pqy (z := z) (i := i) hg
  obtain ⟨f0,f1,f2,f3,f4,f5⟩ := hf it (by simp)
  refine wpAny_pyNext_wide_item st h1 fun h' st' sb => ?_
  have I1 : Inv X pins σ H { s with heap := h',toks := s.toks + 1 } := I.turned (t' := s.toks + 1) (fun b o hb e => (sb.2 b hb).trans e) f0 f1 f3 f4 f5
  obtain ⟨o,e,cl,d⟩ := id st'
  exact ⟨_,rfl,pqD (s := { s with heap := h',toks := s.toks + 1 }) e cl d (by decide) ⟨.str ⟨#[c]⟩,H,I1,⟨_,rfl⟩,⟨rfl,c,h2,rfl⟩,st',fun b hb => (hf b hb).1⟩⟩
 done := by
  intro X hP hw hK hc i pins s σ H E I hf st hg
  subst hP hw hK
  obtain ⟨f0,f1,f2,f3,f4,f5⟩ := hf it (by simp)
  exact wpAny_pyNext_wide_end (I.ok.hd hc) st (nqd hg) fun h' eb => ⟨rfl,I.turned (t' := s.toks) (fun b o hb e => eb b o hb e) f0 f1 f3 f4 f5⟩
 self := fun _ _ _ _ _ st h => wpAny_pyIter_striter_wide st h
section
variable {X : Cx} {tg : Expr}
def iStr (tl : TE) : TI := fun σ H R => tl σ H fun x H1 => ∃ z,x = .str z ∧ R (Its z) H1
theorem nqk {l : Expr} {tl : TE} (hl : PE X l tl) : PI X tg l (iStr tl) := by
 intro pins s σ H R I h
 refine thn (hl pins s σ H _ I h) fun v s1 W' => ?_
 obtain ⟨x,H1,I1,r1,q1⟩ := W'
 obtain ⟨z,rfl,q⟩ := q1
 obtain ⟨t,rfl⟩ := r1
 have fp : ∀ b ∈ [s1.heap.objs.size],FpOk X pins H1 b := fun b hb => by
  have e : b = s1.heap.objs.size := by simpa using hb
  subst e
  exact I1.fpOk (Nat.le_refl _) (I1.hok.fresh (Nat.le_refl _))
 cases ha : z.cps.all (· < 128)
 ·refine wpAny_pyIter_wide ha ?_
  exact ⟨s1.heap.objs.size,[s1.heap.objs.size],_,_,H1,rfl,I1.kept (t' := s1.toks) fun b o e => Heap.get?_push_of_some _ e,oqZ _ z t,⟨_,Heap.get?_push_size _ rfl,rfl,rfl⟩,fp,q⟩
 ·refine wpAny_pyIter_ascii ha ?_
  exact ⟨s1.heap.objs.size,[s1.heap.objs.size],_,_,H1,rfl,I1.kept (t' := s1.toks) fun b o e => Heap.get?_push_of_some _ e,oqh _ z t,⟨_,Heap.get?_push_size _ rfl,rfl,rfl⟩,fp,q⟩
end
section
variable {X : Cx}
def rSlS : V -> Option Int -> Option Int -> Hp -> VK -> Prop := fun x lo hi H Q => ∃ z,x = .str z ∧ z.length ≤ sizeLine ∧ Q (.str (Txt.slice z lo hi)) H
theorem tqo : SlR X rSlS := by
 intro pins s σ H x v vl vu lo hi sl Q I rx hs pl pu h
 obtain ⟨z,rfl,hz,q⟩ := h
 obtain ⟨t,rfl⟩ := rx
 refine ⟨"str",_,F.slot_str_getitem.lookup,typeIs_str _ _ _,?_⟩
 obtain ⟨o,ho,hc,hd⟩ := hs
 cases pl with
 | none =>
  cases pu with
  | none => exact wpAny_getItem_str_slice (l := none) (u := none) (st := none) ⟨o,ho,hc,hd⟩ rfl (post_val_or_str ⟨Nat.le_trans (Txt.slice_le z none none) hz,fun t' k => ⟨.str (Txt.slice z none none),H,I.tok k,⟨t',rfl⟩,q⟩⟩)
  | int j uj => exact wpAny_getItem_str_slice (l := none) (u := some (j,uj)) (st := none) ⟨o,ho,hc,hd⟩ rfl (post_val_or_str ⟨Nat.le_trans (Txt.slice_le z none (some j)) hz,fun t' k => ⟨.str (Txt.slice z none (some j)),H,I.tok k,⟨t',rfl⟩,q⟩⟩)
 | int i ui =>
  cases pu with
  | none => exact wpAny_getItem_str_slice (l := some (i,ui)) (u := none) (st := none) ⟨o,ho,hc,hd⟩ rfl (post_val_or_str ⟨Nat.le_trans (Txt.slice_le z (some i) none) hz,fun t' k => ⟨.str (Txt.slice z (some i) none),H,I.tok k,⟨t',rfl⟩,q⟩⟩)
  | int j uj => exact wpAny_getItem_str_slice (l := some (i,ui)) (u := some (j,uj)) (st := none) ⟨o,ho,hc,hd⟩ rfl (post_val_or_str ⟨Nat.le_trans (Txt.slice_le z (some i) (some j)) hz,fun t' k => ⟨.str (Txt.slice z (some i) (some j)),H,I.tok k,⟨t',rfl⟩,q⟩⟩)
def rSl (K : PySem.W.Frag) : V -> Option Int -> Option Int -> Hp -> VK -> Prop := fun x lo hi H Q => rSlL K x lo hi H Q ∨ rSlS x lo hi H Q
theorem sqX : SlR X (rSl X.K) := oqY.or tqo
def rIndex : V -> List V -> Hp -> VK -> Prop := fun x vs H Q => match x,vs with
 | .str z,[.str y] => ∃ i r,Builtin.Str.occurrences z y 0 z.length 1 = i :: r ∧ Q (.int (i : Nat)) H
 | _,_ => False
theorem qqe {z y : Str} {H : Hp} {Q : VK} : (rIndex (.str z) [.str y] H Q) = (∃ i r,Builtin.Str.occurrences z y 0 z.length 1 = i :: r ∧ Q (.int (i : Nat)) H) := rfl
def rUpper : V -> List V -> Hp -> VK -> Prop := fun x vs H Q => match x,vs with
 | .str z,[] => (∀ c ∈ z.cps.toList,c < 128) ∧ z.length ≤ 1000000 ∧ Q (.str ⟨z.cps.map up1⟩) H
 | _,_ => False
theorem tqS {z : Str} {H : Hp} {Q : VK} : (rUpper (.str z) [] H Q) = ((∀ c ∈ z.cps.toList,c < 128) ∧ z.length ≤ 1000000 ∧ Q (.str ⟨z.cps.map up1⟩) H) := rfl
def rLower : V -> List V -> Hp -> VK -> Prop := fun x vs H Q => match x,vs with
 | .str z,[] => (∀ c ∈ z.cps.toList,c < 128) ∧ z.length ≤ 1000000 ∧ Q (.str ⟨z.cps.map lo1⟩) H
 | _,_ => False
theorem tqW {z : Str} {H : Hp} {Q : VK} : (rLower (.str z) [] H Q) = ((∀ c ∈ z.cps.toList,c < 128) ∧ z.length ≤ 1000000 ∧ Q (.str ⟨z.cps.map lo1⟩) H) := rfl
def rAlnum : V -> List V -> Hp -> VK -> Prop := fun x vs H Q => match x,vs with
 | .str z,[] => Q (.bl (Txt.isalnum z)) H
 | _,_ => False
theorem tq0 {z : Str} {H : Hp} {Q : VK} : (rAlnum (.str z) [] H Q) = (Q (.bl (Txt.isalnum z)) H) := rfl
def rJoin (K : PySem.W.Frag) : V -> List V -> Hp -> VK -> Prop := fun x vs H Q => ∃ z p ys,x = .str z ∧ vs = [.ref p] ∧ SqL K H p (ys.map V.str) ∧ (ys.map (·.length)).sum + ys.length * z.length ≤ 16777216 ∧ Q (.str (Txt.join z ys)) H
def rIsi (K : PySem.W.Frag) : List V -> Hp -> VK -> Prop := fun vs H Q => ∃ x T t b,vs = [x,.ty T] ∧ TyOf K H x t ∧ PySem.W.kitOne K t (.type T) = some b ∧ Q (.bl b) H
theorem qqQ : CallR X (.builtin "isinstance") (rIsi X.K) := by
 intro pins s σ H xs us Q I r h
 obtain ⟨x,T,t,b,rfl,ty,e,q⟩ := h
 obtain ⟨u,v,rfl,ru,rv⟩ := vals2 r
 cases (show v = Value.type T from rv)
 exact oqe I ru ty e fun tk => ⟨.bl b,H,I.tok tk,rfl,q⟩
def rCatD : R2 := fun x y H Q => ∃ a b xs ys,x = .ref a ∧ y = .ref b ∧ H a = some (.tup xs) ∧ H b = some (.tup ys) ∧ xs.length + ys.length ≤ sizeLine ∧ ∀ p H',Same H H' -> H' p = some (.tup (xs ++ ys)) -> Q (.ref p) H'
theorem sqd : OpR X (binaryOp .Add) rCatD := by
 intro pins s σ H x y v u Q I rx ry h
 obtain ⟨a,b,xs,ys,rfl,rfl,ha,hb,hz,q⟩ := h
 by_cases hx : xs = []
 ·subst hx
  cases rx
  cases ry
  obtain ⟨its,r1,p1,_⟩ := I.tuple (SqT.of ha)
  obtain ⟨its2,r2,p2,_⟩ := I.tuple (SqT.of hb)
  cases r1
  obtain ⟨⟨cls,dd,data,sl⟩,ho,hc,n,hd⟩ := id p1
  obtain ⟨⟨cls2,dd2,data2,sl2⟩,ho2,hc2,n2,hd2⟩ := id p2
  simp only at hc hd hc2 hd2
  subst hc hd hc2 hd2
  exact concat_meets ⟨_,ho,rfl⟩ ⟨_,ho2,rfl⟩ noFill_tuple_add seq_tuple_add PySem.F.slot_tuple_add PySem.F.entry_tuple_add (PySem.F.args_tuple_add_2 _ _)
   (tuple_addW0 a b ([] : List Value).toArray its2.toArray n n2 dd dd2 sl sl2 rfl) ⟨ho,ho2,⟨.ref b,H,I,rfl,q b H (Same.refl _) hb⟩⟩
 ·refine sqh pins s σ H _ _ v u Q I rx ry ⟨a,b,xs,ys,rfl,rfl,SqT.of ha,SqT.of hb,hx,hz,fun e => q a H (Same.refl _) (by rw [e,List.append_nil]; exact ha),fun _ p hp => q p _ (fun b o e => by rw [aqt (aqo e hp)]; exact e) aqm⟩
def rAddU (K : PySem.W.Frag) : R2 := fun x y H Q => match x,y with
 | .int i,.int j => Q (.int (i + j)) H
 | .str i,.str j => i.length + j.length ≤ sizeLine ∧ Q (.str (i ++ j)) H
 | .ref a,.ref b => (∃ xs zs,H a = some (.lst xs) ∧ H b = some (.lst zs) ∧ xs.length + zs.length ≤ sizeLine ∧ ∀ p,H p = none -> Q (.ref p) (upd H p (.lst (xs ++ zs)))) ∨
   (∃ xs ys,H a = some (.tup xs) ∧ H b = some (.tup ys) ∧ xs.length + ys.length ≤ sizeLine ∧ ∀ p H',Same H H' -> H' p = some (.tup (xs ++ ys)) -> Q (.ref p) H')
 | _,_ => False
theorem pqw : OpR X (binaryOp .Add) (rAddU X.K) := by
 intro pins s σ H x y v u Q I rx ry h
 cases x with
 | int i =>
  cases y with
  | int j => exact tqZ pins s σ H _ _ v u Q I rx ry ⟨i,j,rfl,rfl,h⟩
  | _ => exact h.elim
 | str i =>
  cases y with
  | str j => exact nq1 pins s σ H _ _ v u Q I rx ry ⟨i,j,rfl,rfl,h.1,h.2⟩
  | _ => exact h.elim
 | ref a =>
  cases y with
  | ref b =>
   rcases h with ⟨xs,zs,h1,h2,h3,h4⟩ | ⟨xs,ys,h1,h2,h3,h4⟩
   ·exact sqR pins s σ H _ _ v u Q I rx ry ⟨a,b,xs,zs,rfl,rfl,h1,h2,h3,h4⟩
   ·exact sqd pins s σ H _ _ v u Q I rx ry ⟨a,b,xs,ys,rfl,rfl,h1,h2,h3,h4⟩
  | _ => exact h.elim
 | _ => exact h.elim
theorem rqb {K : PySem.W.Frag} {i j : Int} {H : Hp} {Q : VK} : (rAddU K (.int i) (.int j) H Q) = (Q (.int (i + j)) H) := rfl
theorem pqM {K : PySem.W.Frag} {i j : Str} {H : Hp} {Q : VK} : (rAddU K (.str i) (.str j) H Q) = (i.length + j.length ≤ sizeLine ∧ Q (.str (i ++ j)) H) := rfl
end
section
variable {X : Cx}
def rMulU : R2 := fun x y H Q => match x,y with
 | .int i,.int j => CMul i j ∧ Q (.int (i * j)) H
 | .str z,.int k => MulOk z k ∧ Q (.str (Txt.mul z k)) H
 | _,_ => False
theorem cqE : OpR X (binaryOp .Mult) rMulU := by
 intro pins s σ H x y v u Q I rx ry h
 cases x with
 | int i =>
  cases y with
  | int j => exact tqg pins s σ H _ _ v u Q I rx ry ⟨i,j,rfl,rfl,h.1,h.2⟩
  | _ => exact h.elim
 | str z =>
  cases y with
  | int k =>
   obtain ⟨t,rfl⟩ := rx
   obtain ⟨t',rfl⟩ := ry
   exact SB.mul h.1 fun t' k' => ⟨.str (Txt.mul z k),H,I.tok k',⟨t',rfl⟩,h.2⟩
  | _ => exact h.elim
 | _ => exact h.elim
theorem tqF {i j : Int} {H : Hp} {Q : VK} : (rMulU (.int i) (.int j) H Q) = (CMul i j ∧ Q (.int (i * j)) H) := rfl
theorem tqx {z : Str} {k : Int} {H : Hp} {Q : VK} : (rMulU (.str z) (.int k) H Q) = (MulOk z k ∧ Q (.str (Txt.mul z k)) H) := rfl
def rLenU (K : PySem.W.Frag) : List V -> Hp -> VK -> Prop := fun xs H Q => match xs with
 | [.str z] => z.length ≤ sizeLine ∧ Q (.int z.length) H
 | [.ref p] => ∃ ys,(SqL K H p ys ∨ SqT K H p ys) ∧ Q (.int ys.length) H
 | _ => False
theorem pqs : CallR X (.builtin "len") (rLenU X.K) := by
 intro pins s σ H xs us Q I r h
 unfold rLenU at h
 split at h
 ·exact lqP pins s σ H _ us Q I r ⟨_,rfl,h.1,h.2⟩
 ·obtain ⟨ys,h1,h2⟩ := h
  exact lq1 pins s σ H _ us Q I r ⟨_,ys,rfl,h1,h2⟩
 ·exact h.elim
theorem tq1 {K : PySem.W.Frag} {z : Str} {H : Hp} {Q : VK} : (rLenU K [.str z] H Q) = (z.length ≤ sizeLine ∧ Q (.int z.length) H) := rfl
theorem lqC {K : PySem.W.Frag} {p : Addr} {H : Hp} {Q : VK} : (rLenU K [.ref p] H Q) = (∃ ys,(SqL K H p ys ∨ SqT K H p ys) ∧ Q (.int ys.length) H) := rfl
def rOrdU : List V -> Hp -> VK -> Prop := fun xs H Q => match xs with
 | [.str z] => z.length = 1 ∧ Q (.int (z.cps.getD 0 0 : Nat)) H
 | _ => False
theorem tqY {c : Nat} {H : Hp} {Q : VK} : rOrdU [.str ⟨#[c]⟩] H Q ↔ Q (.int (c : Nat)) H := ⟨fun h => h.2,fun h => ⟨rfl,h⟩⟩
theorem mqU : bootBuiltins "int" = some (.type "int") := by decide +kernel
theorem nqo : bootBuiltins "str" = some (.type "str") := by decide +kernel
theorem rq5 : bootBuiltins "bool" = some (.type "bool") := by decide +kernel
theorem dqX : bootBuiltins "tuple" = some (.type "tuple") := by decide +kernel
theorem kqZ : bootBuiltins "list" = some (.type "list") := by decide +kernel
theorem aq3 : bootBuiltins "isinstance" = some (.builtin "isinstance") := by decide +kernel
def rIntU : List V -> Hp -> VK -> Prop := fun xs H Q => match xs with
 | [.int i] => Q (.int i) H
 | [.bl k] => Q (.int (if k then 1 else 0)) H
 | _ => False
theorem lqT : CallR X (.type "int") rIntU := by
 intro pins s σ H xs us Q I r h
 unfold rIntU at h
 split at h
 ·exact lq6 pins s σ H _ us Q I r (.inl ⟨_,rfl,h⟩)
 ·exact lq6 pins s σ H _ us Q I r (.inr ⟨_,rfl,h⟩)
 ·exact h.elim
theorem tqD {k : Bool} {H : Hp} {Q : VK} : (rIntU [.bl k] H Q) = (Q (.int (if k then 1 else 0)) H) := rfl
def rInU : R2 := fun x y H Q => match x,y with
 | .str i,.str j => Q (.bl (!(Builtin.Str.occurrences j i 0 j.length 1).isEmpty)) H
 | _,_ => False
theorem tqu : OpR X (compareOp .In) rInU := by
 intro pins s σ H x y v u Q I rx ry h
 cases x with
 | str i =>
  cases y with
  | str j => exact pqr pins s σ H _ _ v u Q I rx ry ⟨i,j,rfl,rfl,h⟩
  | _ => exact h.elim
 | _ => exact h.elim
def rNotInU : R2 := fun x y H Q => match x,y with
 | .str i,.str j => Q (.bl (!(!(Builtin.Str.occurrences j i 0 j.length 1).isEmpty))) H
 | _,_ => False
theorem lq4 : OpR X (compareOp .NotIn) rNotInU := by
 intro pins s σ H x y v u Q I rx ry h
 cases x with
 | str i =>
  cases y with
  | str j => exact lqZ pins s σ H _ _ v u Q I rx ry ⟨i,j,rfl,rfl,h⟩
  | _ => exact h.elim
 | _ => exact h.elim
theorem tq9 {c : Nat} {j : Str} {H : Hp} {Q : VK} : rInU (.str ⟨#[c]⟩) (.str j) H Q ↔ Q (.bl (decide (c ∈ j.cps.toList))) H := by
 show Q (.bl (!(Builtin.Str.occurrences j ⟨#[c]⟩ 0 j.length 1).isEmpty)) H ↔ _
 rw [StrLaws.found_one]
theorem pqm {c : Nat} {j : Str} {H : Hp} {Q : VK} : rNotInU (.str ⟨#[c]⟩) (.str j) H Q ↔ Q (.bl (!decide (c ∈ j.cps.toList))) H := by
 show Q (.bl (!(!(Builtin.Str.occurrences j ⟨#[c]⟩ 0 j.length 1).isEmpty))) H ↔ _
 rw [StrLaws.found_one]
def rIsN (neg : Bool) : R2 := fun x y H Q => y = .non ∧ Q (.bl (if neg then !decide (x = .non) else decide (x = .non))) H
theorem gqy : OpR X (compareOp .Is) (rIsN false) := fun pins s σ H x y v u Q I rx ry h => tqw pins s σ H x y v u Q I rx ry h
theorem pq1 : OpR X (compareOp .IsNot) (rIsN true) := fun pins s σ H x y v u Q I rx ry h => sqE pins s σ H x y v u Q I rx ry h
theorem uqg {x : V} {H : Hp} {Q : VK} : rIsN false x .non H Q ↔ Q (.bl (decide (x = .non))) H := ⟨fun h => h.2,fun h => ⟨rfl,h⟩⟩
theorem uqi {x : V} {H : Hp} {Q : VK} : rIsN true x .non H Q ↔ Q (.bl (!decide (x = .non))) H := ⟨fun h => h.2,fun h => ⟨rfl,h⟩⟩
def kindV (x : V) (H : Hp) : Option String := match x with
 | .non => some "NoneType"
 | .bl _ => some "bool"
 | .int _ => some "int"
 | .str _ => some "str"
 | .ref a => match H a with
  | some (.lst _) => some "list"
  | some (.tup _) => some "tuple"
  | _ => none
 | _ => none
def subT (a b : String) : Bool := a == b || (a == "bool" && b == "int")
theorem sqN (K : PySem.W.Frag) : ∀ a ∈ ["NoneType","bool","int","str","list","tuple"],∀ b ∈ ["bool","int","str","list","tuple"],PySem.W.kitOne K (.type a) (.type b) = some (subT a b) := by
 intro a ha b hb
 simp only [List.mem_cons,List.not_mem_nil,or_false] at ha hb
 rcases ha with rfl | rfl | rfl | rfl | rfl | rfl <;> rcases hb with rfl | rfl | rfl | rfl | rfl <;> with_unfolding_all kernel_rfl
def rIsiU : List V -> Hp -> VK -> Prop := fun vs H Q => match vs with
 | [x,.ty T] => ∃ k,kindV x H = some k ∧ T ∈ ["bool","int","str","list","tuple"] ∧ Q (.bl (subT k T)) H
 | _ => False
theorem equ : CallR X (.builtin "isinstance") rIsiU := by
 intro pins s σ H xs us Q I r h
 unfold rIsiU at h
 split at h
 ·rename_i x T
  obtain ⟨k,hk,hT,q⟩ := h
  have key : TyOf X.K H x (.type k) ∧ k ∈ ["NoneType","bool","int","str","list","tuple"] := by
   unfold kindV at hk
   split at hk
   ·cases hk; exact ⟨.non,by decide⟩
   ·cases hk; exact ⟨.bl _,by decide⟩
   ·cases hk; exact ⟨.int _,by decide⟩
   ·cases hk; exact ⟨.str _,by decide⟩
   ·split at hk
    ·rename_i e; cases hk; exact ⟨.lst e,by decide⟩
    ·rename_i e; cases hk; exact ⟨.tup e,by decide⟩
    ·cases hk
   ·cases hk
  exact qqQ pins s σ H _ us Q I r ⟨x,T,.type k,subT k T,rfl,key.1,sqN X.K k key.2 T hT,q⟩
 ·exact h.elim
end
section
variable {σ : St} {H : Hp} {Q : VK} {D : Ends} {K : PySem.W.Frag} {ta tb te : TE} {tt tu : TT} {t u : TS} {aa ab : TA} {v x y : V} {r r' : R2}
theorem tqk {i : Nat} : (tVar i σ H Q) = (∃ v,σ[i]? = some (some v) ∧ Q v H) := rfl
theorem rd_C : (tC v σ H Q) = (Q v H) := rfl
theorem tqA : (tSeq t u D σ H) = (t { D with nx := u D } σ H) := rfl
theorem tqI {g : TG} : (tAsg te g D σ H) = (te σ H fun x H1 => g x σ H1 D.nx) := rfl
theorem sqC {i : Nat} {R : St -> Hp -> Prop} : (gName i v σ H R) = (R (σ.set i (some v)) H) := rfl
theorem uqb : (tIfS tt t u D σ H) = (tt σ H fun b H1 => if b = true then t D σ H1 else u D σ H1) := rfl
theorem rq1 : (tNext D σ H) = (D.nx σ H) := rfl
theorem sqV : (tBreak D σ H) = (D.bk σ H) := rfl
theorem sq3 : (tRet te D σ H) = (te σ H D.rt) := rfl
theorem rqy : (tDrop te D σ H) = (te σ H fun _ H1 => D.nx σ H1) := rfl
theorem uqv : (tOp r ta tb σ H Q) = (ta σ H fun x H1 => tb σ H1 fun y H2 => r x y H2 Q) := rfl
theorem rqB {R : Bool -> Hp -> Prop} : (tTest te σ H R) = (te σ H fun x H' => ∃ k,x = .bl k ∧ R k H') := rfl
theorem rd_B {R : Bool -> Hp -> Prop} : (tB te σ H R) = (te σ H fun x H' => ∃ k,x = .bl k ∧ R k H') := rfl
theorem tqn {R : Bool -> Hp -> Prop} : (tAnd tt tu σ H R) = (tt σ H fun c H1 => if c = true then tu σ H1 R else R false H1) := rfl
theorem uqw {R : Bool -> Hp -> Prop} : (tOr tt tu σ H R) = (tt σ H fun c H1 => if c = true then R true H1 else tu σ H1 R) := rfl
theorem sqZ {R : Bool -> Hp -> Prop} : (tNot tt σ H R) = (tt σ H fun c H1 => R (!c) H1) := rfl
theorem rqH : (tAndV ta tb σ H Q) = (ta σ H fun x H1 => ∃ c,x = .bl c ∧ if c = true then tb σ H1 Q else Q (.bl false) H1) := rfl
theorem tqT : (tOrV ta tb σ H Q) = (ta σ H fun x H1 => ∃ c,x = .bl c ∧ if c = true then Q (.bl true) H1 else tb σ H1 Q) := rfl
theorem sqa : (tNotV ta σ H Q) = (ta σ H fun x H1 => ∃ c,x = .bl c ∧ Q (.bl (!c)) H1) := rfl
theorem uqx : (tIf tt ta tb σ H Q) = (tt σ H fun c H1 => if c = true then ta σ H1 Q else tb σ H1 Q) := rfl
theorem qq2 {tc : TE} : (tChain r r' ta tb tc σ H Q) = (ta σ H fun x H1 => tb σ H1 fun y H2 => r x y H2 fun z H3 => ∃ k,z = .bl k ∧ (if k = true then tc σ H3 fun w' H4 => r' y w' H4 Q else Q (.bl false) H3)) := rfl
theorem tq5 {R : List V -> Hp -> Prop} : (tNil σ H R) = (R [] H) := rfl
theorem rqw {R : List V -> Hp -> Prop} : (tCons te aa σ H R) = (te σ H fun x H1 => aa σ H1 fun xs H2 => R (x :: xs) H2) := rfl
theorem tq4 : (tLst aa σ H Q) = (aa σ H fun xs H1 => xs.length ≤ sizeLine ∧ ∀ p,H1 p = none -> Q (.ref p) (upd H1 p (.lst xs))) := rfl
theorem sq7 : (tTup aa σ H Q) = (aa σ H fun xs H1 => xs.length ≤ sizeLine ∧ ∀ p,H1 p = none -> Q (.ref p) (upd H1 p (.tup xs))) := rfl
theorem sqB {sp : Sp} {dvs : List V} {E : XK} : (tCall sp dvs E aa σ H Q) = (aa σ H fun vs H1 => sp (vs ++ dvs) H1 Q E) := rfl
theorem uqj {c : List V -> Hp -> VK -> Prop} : (tCB c aa σ H Q) = (aa σ H fun vs H1 => c vs H1 Q) := rfl
theorem uqr {T : String} {m : V -> List V -> Hp -> VK -> Prop} : (tBM K T m te aa σ H Q) = (te σ H fun x H1 => tyV K T x H1 ∧ aa σ H1 fun xs H2 => m x xs H2 Q) := rfl
theorem tq3 {T : String} {m : V -> List V -> Hp -> VK -> Prop} : (tBM0 K T m te σ H Q) = (te σ H fun x H1 => tyV K T x H1 ∧ m x [] H1 Q) := rfl
theorem uqm {m : V -> Option Int -> Option Int -> Hp -> VK -> Prop} {tl th : TO} : (tSl m te tl th σ H Q) = (te σ H fun x H1 => tl σ H1 fun l H2 => th σ H2 fun u H3 => m x l u H3 Q) := rfl
theorem pqB {R : Option Int -> Hp -> Prop} : (tNoPart σ H R) = (R none H) := rfl
theorem sqc {R : Option Int -> Hp -> Prop} : (tPart te σ H R) = (te σ H fun x H1 => ∃ i,x = .int i ∧ R (some i) H1) := rfl
theorem qqU {z : Str} : tyV K "str" (.str z) H ↔ True := ⟨fun _ => trivial,fun _ => rfl⟩
theorem rd_I {C : Int -> Int -> Prop} {g : Int -> Int -> V} {i j : Int} : rI C g (.int i) (.int j) H Q ↔ C i j ∧ Q (g i j) H :=
 ⟨fun ⟨_,_,h1,h2,h3⟩ => by cases h1; cases h2; exact h3,fun h => ⟨i,j,rfl,rfl,h⟩⟩
theorem qqt {g : Int -> Int -> V} {i j : Int} : rI0 g (.int i) (.int j) H Q ↔ Q (g i j) H :=
 ⟨fun ⟨_,_,h1,h2,h3⟩ => by cases h1; cases h2; exact h3,fun h => ⟨i,j,rfl,rfl,h⟩⟩
theorem rqX {i j : Int} : rEq (.int i) (.int j) H Q ↔ Q (.bl (decide (i = j))) H := by
 unfold rEq scal; simp only [true_and,V.int.injEq]
theorem aqv {i j : Str} : rEq (.str i) (.str j) H Q ↔ Q (.bl (decide (i = j))) H := by
 unfold rEq scal; simp only [true_and,V.str.injEq]
theorem sqm {i j : Bool} : rEq (.bl i) (.bl j) H Q ↔ Q (.bl (decide (i = j))) H := by
 unfold rEq scal; simp only [true_and,V.bl.injEq]
theorem oqH {i j : Int} : rNe (.int i) (.int j) H Q ↔ Q (.bl (!decide (i = j))) H := by
 unfold rNe scal; simp only [true_and,V.int.injEq]
theorem mqn {i j : Str} : rNe (.str i) (.str j) H Q ↔ Q (.bl (!decide (i = j))) H := by
 unfold rNe scal; simp only [true_and,V.str.injEq]
theorem kqA {i j : Bool} : rNe (.bl i) (.bl j) H Q ↔ Q (.bl (!decide (i = j))) H := by
 unfold rNe scal; simp only [true_and,V.bl.injEq]
theorem sqt : rNe .non .non H Q ↔ Q (.bl false) H := ⟨fun h => h.2,fun h => ⟨rfl,h⟩⟩
theorem rq8 {i : Str} : rNe (.str i) .non H Q ↔ Q (.bl true) H := ⟨fun h => h.2,fun h => ⟨rfl,h⟩⟩
theorem pqT {i : Str} : rNe .non (.str i) H Q ↔ Q (.bl true) H := ⟨fun h => h.2,fun h => ⟨rfl,h⟩⟩
theorem sqj : rEq .non .non H Q ↔ Q (.bl true) H := ⟨fun h => h.2,fun h => ⟨rfl,h⟩⟩
theorem rq3 {i : Str} : rEq (.str i) .non H Q ↔ Q (.bl false) H := ⟨fun h => h.2,fun h => ⟨rfl,h⟩⟩
theorem pq5 {i : Str} : rEq .non (.str i) H Q ↔ Q (.bl false) H := ⟨fun h => h.2,fun h => ⟨rfl,h⟩⟩
theorem tqV {z : Str} {i : Int} : rIx K (.str z) (.int i) H Q ↔ ∃ c,z.length ≤ sizeLine ∧ atI z.cps.toList i = some c ∧ Q (.str ⟨#[c]⟩) H := by
 constructor
 ·rintro (⟨p,xs,j,v,h,_⟩ | ⟨p,xs,j,v,h,_⟩ | ⟨z',j,c,h1,h2,h3,h4,h5⟩)
  ·cases h
  ·cases h
  ·cases h1; cases h2; exact ⟨c,h3,h4,h5⟩
 ·rintro ⟨c,h3,h4,h5⟩
  exact .inr (.inr ⟨z,i,c,rfl,rfl,h3,h4,h5⟩)
theorem nqj {z : Str} {lo hi : Option Int} : rSl K (.str z) lo hi H Q ↔ z.length ≤ sizeLine ∧ Q (.str (Txt.slice z lo hi)) H := by
 constructor
 ·rintro (⟨a,xs,h,_⟩ | ⟨z',h1,h2,h3⟩)
  ·cases h
  ·cases h1; exact ⟨h2,h3⟩
 ·rintro ⟨h2,h3⟩
  exact .inr ⟨z,rfl,h2,h3⟩
end
section
variable {σ : St} {H : Hp} {Q : VK} {K : PySem.W.Frag}
theorem tqy {a : Addr} {lo hi : Option Int} : rSl K (.ref a) lo hi H Q ↔ ∃ xs,SqL K H a xs ∧ ∀ p,H p = none -> Q (.ref p) (upd H p (.lst (cutV xs lo hi))) := by
 constructor
 ·rintro (⟨a',xs,h,h2⟩ | ⟨z',h1,_⟩)
  ·cases h; exact ⟨xs,h2⟩
  ·cases h1
 ·rintro ⟨xs,h2⟩
  exact .inl ⟨a,xs,rfl,h2⟩
theorem pqb {p : Addr} {i : Int} : rIx K (.ref p) (.int i) H Q ↔ ∃ xs v,(SqL K H p xs ∨ SqT K H p xs) ∧ atI xs i = some v ∧ Q v H := by
 constructor
 ·rintro (⟨p',xs,j,v,h,h2,h3,h4⟩ | ⟨p',xs,j,v,h,h2,h3,h4⟩ | ⟨z',j,c,h1,_⟩)
  ·cases h; cases h2; exact ⟨xs,v,.inl h3,h4⟩
  ·cases h; cases h2; exact ⟨xs,v,.inr h3,h4⟩
  ·cases h1
 ·rintro ⟨xs,v,h | h,h2⟩
  ·exact .inl ⟨p,xs,i,v,rfl,rfl,h,h2⟩
  ·exact .inr (.inl ⟨p,xs,i,v,rfl,rfl,h,h2⟩)
theorem tq7 {a b : Addr} : rAddU K (.ref a) (.ref b) H Q ↔ (∃ xs zs,H a = some (.lst xs) ∧ H b = some (.lst zs) ∧ xs.length + zs.length ≤ sizeLine ∧ ∀ p,H p = none -> Q (.ref p) (upd H p (.lst (xs ++ zs)))) ∨
   (∃ xs ys,H a = some (.tup xs) ∧ H b = some (.tup ys) ∧ xs.length + ys.length ≤ sizeLine ∧ ∀ p H',Same H H' -> H' p = some (.tup (xs ++ ys)) -> Q (.ref p) H') := Iff.rfl
theorem cx_K {CX : CXT} {P : Program} {w : World} {mg : Str -> Option Value} {base : Heap} {N : List Str} {qual : Str} {scope : Scope} {f : Addr} {cd : Value} {A : Around} {outer : List Env} {s : Shared} {E : XK} :
  (cxOf CX P w K mg base N qual scope f cd A outer s H E).K = K := rfl
end
def LoopI (J : It) (g : TG) (tb : TS) (D : Ends) (σ : St) (H : Hp) : Prop := ∃ W : Nat -> Nat -> St -> Hp -> Prop,(∃ m,W 0 m σ H) ∧ ∀ i m σ H,W i m σ H ->
 (J.stop i H ∧ D.nx σ H) ∨ (J.go i H ∧ ∃ N : St -> Hp -> Prop,(∀ σ' H',N σ' H' -> ∃ m',m' < m ∧ W (i + 1) m' σ' H') ∧ ∀ x H',J.yld i H x H' -> g x σ H' fun σ2 H2 => tb { D with nx := N,ct := N,bk := D.nx } σ2 H2)
section
variable {σ : St} {H : Hp} {D : Ends} {K : PySem.W.Frag} {te : TE} {g : TG} {tb : TS} {aa : TA}
theorem rql : (tFor (iStr te) g tb D σ H) = (te σ H fun x H1 => ∃ z,x = .str z ∧ LoopI (Its z) g tb D σ H1) := rfl
theorem sqQ : (tFor (iList K te) g tb D σ H) = (te σ H fun x H1 => ∃ a,x = .ref a ∧ (∃ xs,SqL K H1 a xs) ∧ LoopI (Itl K a) g tb D σ H1) := rfl
theorem rq9 : (tFor (iRng1 aa) g tb D σ H) = (aa σ H fun vs H1 => ∃ j : Int,vs = [.int j] ∧ -(2 ^ 62) ≤ j ∧ j < 2 ^ 62 ∧ LoopI (Itr 0 j.toNat) g tb D σ H1) := rfl
theorem eqj {a : Addr} {xs : List V} (Pv : Nat -> St -> Hp -> Prop) (h0 : Pv 0 σ H) (hl : ∀ i σ H,i ≤ xs.length -> Pv i σ H -> SqL K H a xs)
  (hs : ∀ i x σ H,xs[i]? = some x -> Pv i σ H -> g x σ H fun σ2 H2 => tb { D with nx := Pv (i + 1),ct := Pv (i + 1),bk := D.nx } σ2 H2) (hd : ∀ σ H,Pv xs.length σ H -> D.nx σ H) : LoopI (Itl K a) g tb D σ H := qq1 Pv h0 hl hs hd
theorem cqv {lo : Int} {n : Nat} (Pv : Nat -> St -> Hp -> Prop) (h0 : Pv 0 σ H)
  (hs : ∀ i σ H,i < n -> Pv i σ H -> g (.int (lo + i)) σ H fun σ2 H2 => tb { D with nx := Pv (i + 1),ct := Pv (i + 1),bk := D.nx } σ2 H2) (hd : ∀ σ H,Pv n σ H -> D.nx σ H) : LoopI (Itr lo n) g tb D σ H := pqf Pv h0 hs hd
end
section
variable {prog : Program} {w : World} {A : Around} {R : Result -> Shared -> Prop} {s : Shared}
theorem iqb {elt target iter : Expr} {ifs : List Expr} {scope : Scope} {pos : Pos} {it acc : Value} {env : Env} (I : Nat -> Shared -> Prop)
  (turn : ∀ n s,I n s -> wpAny (model prog w) A (pyNext it) (fun r s₁ => match r with
   | none => R (.ok .next) s₁
   | some v => wpAny (model prog w) A (letOwnedTupleGo target it v) (fun _ s₁' => wpAny (model prog w) A (assign target env v) (fun _ s₂ =>
     wpAny (model prog w) A (forIn ifs true fun c r => if r = true then do let ok <- isTrue c env (eval c env); pure (ForInStep.yield ok) else pure (ForInStep.yield r)) (fun ok s₃ =>
      if ok = true then wpAny (model prog w) A (eval elt env) (fun x s₄ =>
       wpAny (model prog w) A (call (.builtin "list.append") [acc,x]) (fun _ s₅ => ∃ m,m < n ∧ I m s₅) (fun _ _ => False) s₄) (fun _ _ => False) s₃
      else ∃ m,m < n ∧ I m s₃) (fun _ _ => False) s₂) (fun _ _ => False) s₁') (fun _ _ => False) s₁) (fun _ _ => False) s)
  (n : Nat) (h : I n s) : codeAny (model prog w) A (.compLoop (.ListComp elt [⟨target,iter,ifs,0⟩] scope pos) 0 it acc env) R s := by
 refine codeAny_loop rfl I (fun n s hI => ?_) n h
 show wpAny _ A ((compTurn (.ListComp elt [⟨target,iter,ifs,0⟩] scope pos) 0 it acc env).onRaise (fun x => do noteFrame x env; theTreesLotGoes x)) _ _ s
 refine wpAny_noted ?_
 rw [compTurn_list]
 refine wpAny_bind (wpAny_standAt (wpAny_bind (wpAny_mono (turn n s hI) (fun r s₁ h₁ => ?_) fun _ _ h' => h'.elim)))
 cases r with
 | none => exact wpAny_pure h₁
 | some v =>
  refine wpAny_bind (wpAny_mono h₁ (fun _ s₁' h₁' => wpAny_bind (wpAny_mono h₁' (fun _ s₂ h₂ => wpAny_bind (wpAny_mono h₂ (fun ok s₃ h₃ => ?_) fun _ _ h' => h'.elim)) fun _ _ h' => h'.elim)) fun _ _ h' => h'.elim)
  cases ok with
  | false => exact wpAny_pure ⟨rfl,h₃⟩
  | true =>
   exact wpAny_bind (wpAny_bind (wpAny_mono h₃ (fun x s₄ h₄ => wpAny_bind (wpAny_mono h₄ (fun _ s₅ h₅ => wpAny_pure (wpAny_pure ⟨rfl,h₅⟩)) fun _ _ h' => h'.elim)) fun _ _ h' => h'.elim))
end
def compCx (X : Cx) (N' : List Str) (scope : Scope) (cl : List (Str × Addr)) (s : Shared) (H : Hp) (fp : List Addr) : Cx :=
 { X with N := N',s₀ := s,H₀ := H,env := compEnvC scope cl s.heap.objs.size X.env,outer := X.stack,stack := X.stack,ex := fp,fn := fun _ => false,pn := [],xe := fun _ _ => False }
inductive Frees (X : Cx) (rs : Scope) (cl : List (Str × Addr)) : List Str -> List Nat -> Prop where
 | nil : Frees X rs cl [] []
 | cons {y : Str} {i : Nat} {fx : List Str} {fr : List Nat} (h1 : X.N[i]? = some y) (h2 : X.env.kindOf y = some .cell) (h3 : rs.names.lookup y = some .cell) (h4 : cl.lookup y = X.env.cells.lookup y) (r : Frees X rs cl fx fr) : Frees X rs cl (y :: fx) (i :: fr)
def frV (σ : St) (fr : List Nat) : St := fr.map fun i => (σ[i]?).getD none
theorem Frees.len {X : Cx} {rs : Scope} {cl : List (Str × Addr)} {fx : List Str} {fr : List Nat} (F : Frees X rs cl fx fr) : fr.length = fx.length := by
 induction F with
 | nil => rfl
 | cons _ _ _ _ _ ih => simp [ih]
theorem Frees.at {X : Cx} {rs : Scope} {cl : List (Str × Addr)} {σ : St} : ∀ {fx : List Str} {fr : List Nat},Frees X rs cl fx fr -> ∀ (j : Nat) (y : Str) (v : V),fx[j]? = some y -> (frV σ fr)[j]? = some (some v) ->
  ∃ i : Nat,X.N[i]? = some y ∧ σ[i]? = some (some v) ∧ X.env.kindOf y = some .cell ∧ rs.names.lookup y = some .cell ∧ cl.lookup y = X.env.cells.lookup y
 | _,_,.nil,j,y,v,h,_ => by simp at h
 | _,_,.cons (y := z) (i := i) h1 h2 h3 h4 r,0,y,v,h,hv => by
  simp only [List.getElem?_cons_zero,Option.some.injEq] at h
  subst h
  simp only [frV,List.map_cons,List.getElem?_cons_zero,Option.some.injEq] at hv
  refine ⟨i,h1,?_,h2,h3,h4⟩
  cases e : σ[i]? with
  | none => rw [e] at hv; cases hv
  | some o => rw [e] at hv; exact congrArg some hv
 | _,_,.cons h1 h2 h3 h4 r,j + 1,y,v,h,hv => by
  simp only [List.getElem?_cons_succ] at h
  simp only [frV,List.map_cons,List.getElem?_cons_succ] at hv
  exact r.at j y v h hv
theorem Frees.mem {X : Cx} {rs : Scope} {cl : List (Str × Addr)} : ∀ {fx : List Str} {fr : List Nat},Frees X rs cl fx fr -> ∀ y ∈ fx,X.env.kindOf y = some .cell ∧ cl.lookup y = X.env.cells.lookup y
 | _,_,.nil,y,h => by simp at h
 | _,_,.cons h1 h2 h3 h4 r,y,h => by
  rcases List.mem_cons.mp h with rfl | h
  ·exact ⟨h2,h4⟩
  ·exact r.mem y h
section
variable {X : Cx} {pins : List (Addr × Obj)} {σ : St} {H1 : Hp} {s3 : Shared} {x : Str} {fx : List Str} {fr : List Nat} {scope : Scope} {cl : List (Str × Addr)} {fp : List Addr}
theorem rqm (I : Inv X pins σ H1 s3) (hkind : scope.kind = .function) (hcl : ∀ y c,cl.lookup y = some c -> X.env.cells.lookup y = some c)
  (F : Frees X (relabel scope X.env) cl fx fr) (hfx : ((relabel scope X.env).names.all fun p => if (p.2 == .cell || p.2 == .free) then fx.contains p.1 else true) = true)
  (ffp : ∀ b ∈ fp,FpOk X pins H1 b) (flt : ∀ b ∈ fp,b < s3.heap.objs.size) : (compCx X (x :: fx) scope cl s3 H1 fp).Ok where
 mod := I.ok.mod
 kind := hkind
 glob := I.ok.glob
 blt := I.ok.blt
 above := Nat.le_refl _
 inj := fun y z c h1 h2 => I.ok.inj y z c (hcl y c h1) (hcl z c h2)
 has := fun y h => by
  have h : (relabel scope X.env).names.lookup y = some .cell ∨ (relabel scope X.env).names.lookup y = some .free := h
  have key : y ∈ fx := by
   rcases h with h | h
   ·have q := List.all_eq_true.mp hfx _ (PySem.mem_of_lookup h)
    simpa using q
   ·have q := List.all_eq_true.mp hfx _ (PySem.mem_of_lookup h)
    simpa using q
  obtain ⟨k1,k2⟩ := F.mem y key
  obtain ⟨c,e⟩ := I.ok.has y (.inl k1)
  exact ⟨c,k2.trans e⟩
 cab := fun y c h => by cases (show false = true from h)
 hd := I.ok.hd
 frames := I.ok.frames
 stk := .inl rfl
 exf := fun b hb => ⟨Nat.ne_of_lt (flt b hb),fun y c e => (ffp b hb).2.2.2.2.1 y c (hcl y c e)⟩
 bs := I.bs
 bsz := Nat.le_trans I.ok.bsz I.sz
 noex := fun b o e hb => by
  rcases (ffp b hb).2.2.2.1 with z | z
  ·exact I.ok.noex b o e z
  ·exact absurd (Nat.lt_of_lt_of_le (Heap.lt_size (I.ok.bs b o e).1) z) (Nat.lt_irrefl _)
 exfs := fun b hb z => by
  rcases List.mem_cons.mp (I.stkSub b z) with q | q
  ·exact (ffp b hb).2.1 q
  ·exact (ffp b hb).2.2.1 q
 funs := I.stack
 frf := I.stkFree
theorem nq5 (I : Inv X pins σ H1 s3) (hkind : scope.kind = .function) (hcl : ∀ y c,cl.lookup y = some c -> X.env.cells.lookup y = some c)
  (F : Frees X (relabel scope X.env) cl fx fr) (hfx : ((relabel scope X.env).names.all fun p => if (p.2 == .cell || p.2 == .free) then fx.contains p.1 else true) = true)
  (ffp : ∀ b ∈ fp,FpOk X pins H1 b) (flt : ∀ b ∈ fp,b < s3.heap.objs.size) {h1 : Heap} {t : Nat} {m : Str -> Option Value} (hn : h1.Ns s3.heap.objs.size m)
  (keep : ∀ b u,s3.heap.get? b = some u -> h1.get? b = some u) : Inv (compCx X (x :: fx) scope cl s3 H1 fp) [] (none :: frV σ fr) H1 { s3 with heap := h1,toks := t } := by
 refine ⟨rqm I hkind hcl F hfx ffp flt,rfl,I.bare,Un.kept keep,⟨m,hn,fun i y v e1 e2 e3 => ?_⟩,fun y c e => ?_,I.hok.fresh (Nat.le_refl _),fun y c e => I.freeC y c (hcl y c e),fun p hp => absurd (show p ∈ ([] : List (Addr × Obj)) from hp) (by simp),I.hok.kept keep,?_⟩
 ·cases i with
  | zero => simp at e2
  | succ j =>
   obtain ⟨i0,k1,k2,k3,k4,k5⟩ := F.at (σ := σ) j y v (by simpa [compCx] using e1) (by simpa using e2)
   obtain ⟨m0,hn0,hl0⟩ := I.loc
   obtain ⟨u,r,l⟩ := hl0 i0 y v k1 k2 (.inr (.inl k3))
   refine ⟨u,r,?_⟩
   rcases l with ⟨z,_⟩ | ⟨_,c,e,o,ho,hd⟩
   ·rw [k3] at z; cases z
   ·exact .inr ⟨.inl k4,c,k5.trans e,o,keep c o ho,hd⟩
 ·obtain ⟨v,o,ho,hd⟩ := I.cell y c (hcl y c e)
  exact ⟨v,o,keep c o ho,hd⟩
 ·show (none :: frV σ fr).length = (x :: fx).length
  simp [frV,F.len]
theorem gq2 {N' : List Str} {pins' : List (Addr × Obj)} {σ' : St} {H2 : Hp} {s' : Shared} {h' : Heap} (I : Inv X pins σ H1 s3) (J : Inv (compCx X N' scope cl s3 H1 fp) pins' σ' H2 s') (ffp : ∀ b ∈ fp,FpOk X pins H1 b)
  (sb : Heap.SameBut s3.heap.objs.size s'.heap h') : Inv X pins σ H2 { s' with heap := h' } := by
 have k : ∀ b u,b ≠ s3.heap.objs.size -> s'.heap.get? b = some u -> h'.get? b = some u := fun b u hb e => sb.extBut b u hb e
 have lt : ∀ b u,s3.heap.get? b = some u -> b ≠ s3.heap.objs.size := fun b u e => Nat.ne_of_lt (Heap.lt_size e)
 have u : Un (frs X.stack) fp H1 H2 s3.heap s'.heap := J.base
 have u' : Un (frs X.stack) fp H1 H2 s3.heap h' :=
  ⟨fun b o q n hb hx => k b o (lt b o q) (u.keep b o q n hb hx),fun b o q n hb hx => by
    obtain ⟨sl,e⟩ := u.slot b o q n hb hx
    exact ⟨sl,k b _ (lt b o q) e⟩,u.free,fun b o q hx => by
    obtain ⟨o',e⟩ := u.there b o q hx
    exact ⟨o',k b _ (lt b o q) e⟩,u.tups,u.frzs,u.tbls⟩
 have nC : H2 s3.heap.objs.size = none := J.free
 have hok : HOk X.prog X.w H2 h' := fun b uo e => by
  refine (J.hok b uo e).stay (fun c v hc q => k c v ?_ q) (fun _ q => q) fun _ _ q => q
  rintro rfl
  rcases hc with z | z
  ·rw [<- z,nC] at e; cases e
  ·rw [nC] at z; cases z
 have os : s'.os = s3.os := J.os
 have bare := J.bare
 obtain ⟨hh,g,d,t,os'⟩ := s'
 obtain rfl : os' = s3.os := os
 have fin := I.call (h' := h') (g' := g) (d' := d) (t' := t) (ch := fp) u' hok bare fun b hb => by
  obtain ⟨f0,f1,f2,f3,f4,f5⟩ := ffp b hb
  exact ⟨f3,f1,f4,f5⟩
 exact fin
end
def PF (X : Cx) (ifs : List Expr) (t : TT) : Prop :=
 ∀ (pins : List (Addr × Obj)) (s : Shared) (σ : St) (H : Hp) (Q : Bool -> Hp -> Prop),Inv X pins σ H s -> t σ H Q ->
  wpAny (model X.prog X.w) X.A (forIn ifs true fun c r => if r = true then do let ok <- isTrue c X.env (eval c X.env); pure (ForInStep.yield ok) else pure (ForInStep.yield r)) (TP X pins σ Q) X.xe s
def tYes : TT := fun _ H Q => Q true H
theorem hqt {X : Cx} : PF X [] tYes := fun _ _ _ H _ I h => wpAny_tests_nil ⟨H,I,h⟩
theorem hqs {X : Cx} {c : Expr} {t : TT} (h : PT X c t) : PF X [c] t := fun pins s σ H Q I q => wpAny_tests_one (h pins s σ H Q I q)
def CompI (J : It) (p : Addr) (fv : St) (tt : TT) (te : TE) (Q : VK) (H1 : Hp) : Prop :=
 ∃ W : Nat -> Nat -> List V -> Hp -> Prop,(∃ m,W 0 m [] (upd H1 p (.lst []))) ∧ ∀ i m ys H2,W i m ys H2 -> H2 p = some (.lst ys) ∧
  ((J.stop i H2 ∧ Q (.ref p) H2) ∨ (J.go i H2 ∧ ys.length < sizeLine ∧ ∀ x H3,J.yld i H2 x H3 -> tt (some x :: fv) H3 fun b H4 =>
   if b = true then te (some x :: fv) H4 fun y H5 => H5 p = some (.lst ys) ∧ ∃ m',m' < m ∧ W (i + 1) m' (ys ++ [y]) (upd H5 p (.lst (ys ++ [y])))
   else ∃ m',m' < m ∧ W (i + 1) m' ys H4))
def tComp (wi : TI) (fr : List Nat) (tt : TT) (te : TE) : TE := fun σ H Q => wi σ H fun J H1 => ∀ p,H1 p = none -> CompI J p (frV σ fr) tt te Q H1
section
variable {X : Cx} {elt iter : Expr} {x : Str} {px pos : Pos} {ifs : List Expr} {scope : Scope} {cl : List (Str × Addr)} {fx : List Str} {fr : List Nat} {wi : TI} {tt : TT} {te : TE}
theorem jq7 {pins : List (Addr × Obj)} {σ : St} {H3 : Hp} {s3 : Shared} {it p : Addr} {fp : List Addr} {tn : Nat -> Heap -> Prop} {J : It} {Q : VK} {W : Nat -> Nat -> List V -> Hp -> Prop} {m0 t : Nat} {h₁ : Heap} {m : Str -> Option Value} {RR : Result -> Shared -> Prop}
  (hc : X.calm = true) (hkind : scope.kind = .function) (hx : scope.names.lookup x = some .local) (hnd : (x :: fx).Nodup)
  (hcl : ∀ y c,cl.lookup y = some c -> X.env.cells.lookup y = some c) (F : Frees X (relabel scope X.env) cl fx fr)
  (hfx : ((relabel scope X.env).names.all fun p => if (p.2 == .cell || p.2 == .free) then fx.contains p.1 else true) = true)
  (ht : ∀ s H fp,PF (compCx X (x :: fx) scope cl s H fp) ifs tt) (he : ∀ s H fp,PE (compCx X (x :: fx) scope cl s H fp) elt te)
  (I3 : Inv X pins σ H3 s3) (T : Turn X.prog X.w X.K (.Name x px) J fp it tn) (st3 : tn 0 s3.heap) (ffp : ∀ b ∈ fp,FpOk X pins H3 b) (flt3 : ∀ b ∈ fp,b < s3.heap.objs.size)
  (w0 : W 0 m0 [] H3) (turn : ∀ i m ys H2,W i m ys H2 -> H2 p = some (.lst ys) ∧
   ((J.stop i H2 ∧ Q (.ref p) H2) ∨ (J.go i H2 ∧ ys.length < sizeLine ∧ ∀ x H3,J.yld i H2 x H3 -> tt (some x :: frV σ fr) H3 fun b H4 =>
    if b = true then te (some x :: frV σ fr) H4 fun y H5 => H5 p = some (.lst ys) ∧ ∃ m',m' < m ∧ W (i + 1) m' (ys ++ [y]) (upd H5 p (.lst (ys ++ [y])))
    else ∃ m',m' < m ∧ W (i + 1) m' ys H4)))
  (hns : h₁.Ns s3.heap.objs.size m) (keep1 : ∀ b u,s3.heap.get? b = some u -> h₁.get? b = some u)
  (fin : ∀ s6 H5 o,Inv (compCx X (x :: fx) scope cl s3 H3 fp) [] (o :: frV σ fr) H5 s6 -> Q (.ref p) H5 -> RR (.ok .next) s6) :
  codeAny (model X.prog X.w) X.A (.compStart (.ListComp elt [⟨.Name x px,iter,ifs,0⟩] scope pos) 0 (.ref it) (.ref p) (compEnvC scope cl s3.heap.objs.size X.env))
   RR { s3 with heap := h₁,toks := t } := by
 have I4 := nq5 (x := x) (t := t) I3 hkind hcl F hfx ffp flt3 hns keep1
 have st4 : tn 0 h₁ := T.keep _ _ _ st3 fun b hb o e => keep1 b o e
 have fp0 : ∀ b ∈ fp,H3 b = none := fun b hb => (ffp b hb).1
 have hcal : (compCx X (x :: fx) scope cl s3 H3 fp).calm = true := hc
 have stat : ∀ {H' : Hp},(∀ b ∈ fp,H' b = none) -> ∀ b ∈ fp,FpOk (compCx X (x :: fx) scope cl s3 H3 fp) [] H' b := fun {H'} hn b hb => by
  obtain ⟨f0,f1,f2,f3,f4,f5⟩ := ffp b hb
  exact ⟨hn b hb,Nat.ne_of_lt (flt3 b hb),I4.ok.exfs b hb,.inl hb,fun y c e => f4 y c (hcl y c e),fun q hq => absurd (show q ∈ ([] : List (Addr × Obj)) from hq) (by simp)⟩
 have hxl : (relabel scope X.env).names.lookup x = some .local := lookup_relabel_local hx
 have pg : PG (compCx X (x :: fx) scope cl s3 H3 fp) (.Name x px) (gName 0) := aqC (i := 0) hnd rfl (.inl hxl) (.inr hxl)
 have loop : codeAny (model X.prog X.w) X.A (.compLoop (.ListComp elt [⟨.Name x px,iter,ifs,0⟩] scope pos) 0 (.ref it) (.ref p) (compEnvC scope cl s3.heap.objs.size X.env))
    RR { s3 with heap := h₁,toks := t } := by
  refine iqb (fun n s' => ∃ i ys H' o,Inv (compCx X (x :: fx) scope cl s3 H3 fp) [] (o :: frV σ fr) H' s' ∧ tn i s'.heap ∧ (∀ b ∈ fp,H' b = none) ∧ W i n ys H') ?_ m0 ⟨0,[],_,none,I4,st4,fp0,w0⟩
  rintro n s5 ⟨i,ys,H5,o,I5,st5,fr5,w5⟩
  obtain ⟨hp5,alt⟩ := turn i n ys H5 w5
  rcases alt with ⟨stop,qn⟩ | ⟨go,hlen,step⟩
  ·refine thn (T.done (compCx X (x :: fx) scope cl s3 H3 fp) rfl rfl rfl hcal i [] s5 (o :: frV σ fr) H5 _ I5 (stat fr5) st5 stop) fun r s6 W' => ?_
   obtain ⟨hr,I6⟩ := W'
   subst hr
   exact fin s6 H5 o I6 qn
  ·refine thn (T.item (compCx X (x :: fx) scope cl s3 H3 fp) rfl rfl rfl hcal i [] s5 (o :: frV σ fr) H5 _ I5 (stat fr5) st5 go) fun r s6 W' => ?_
   obtain ⟨u,hr,h6⟩ := W'
   subst hr
   refine thn h6 fun _ s7 W' => ?_
   obtain ⟨y7,H7,I7,r7,yl7,st7,fr7⟩ := W'
   have I7' := I7.pinned (stat fr7) (T.obj _ _ st7)
   have back : ∀ {σ' : St} {H' : Hp} {s' : Shared},Inv (compCx X (x :: fx) scope cl s3 H3 fp) ([] ++ pinsAt fp s7.heap) σ' H' s' -> tn (i + 1) s'.heap ∧ ∀ b ∈ fp,H' b = none := fun {σ' H' s'} I' => by
    refine ⟨T.keep _ _ _ st7 fun b hb o e => (I'.pin (b,o) (List.mem_append_right _ (List.mem_append_right _ (dqs hb e)))).1,fun b hb => ?_⟩
    obtain ⟨o,e,d⟩ := T.obj _ _ st7 b hb
    exact (I'.pin (b,o) (List.mem_append_right _ (List.mem_append_right _ (dqs hb e)))).2.1
   refine thn (pg _ s7 _ H7 y7 u (fun σ' H' => σ' = some y7 :: frV σ fr ∧ H' = H7) I7' r7 ⟨rfl,rfl⟩) fun _ s8 W' => ?_
   obtain ⟨σ8,H8,I8,e8,e8'⟩ := W'
   subst e8 e8'
   refine thn (ht s3 H3 fp _ s8 _ _ _ I8 (step y7 _ yl7)) fun b s9 W' => ?_
   obtain ⟨H9,I9,q9⟩ := W'
   cases b with
   | false =>
    rw [if_neg Bool.false_ne_true] at q9 ⊢
    obtain ⟨m',hm,w9⟩ := q9
    exact ⟨m',hm,i + 1,ys,H9,some y7,I9.unpinned,(back I9).1,(back I9).2,w9⟩
   | true =>
    rw [if_pos rfl] at q9 ⊢
    refine thn (he s3 H3 fp _ s9 _ H9 _ I9 q9) fun u10 s10 W' => ?_
    obtain ⟨y10,H10,I10,r10,hp10,m',hm,w10⟩ := W'
    refine thn (cqp _ s10 _ H10 (.ref p) [y10] (.ref p) [u10] (fun _ H' => H' = upd H10 p (.lst (ys ++ [y10]))) I10 rfl (.cons r10 .nil) ⟨p,ys,y10,rfl,rfl,hp10,hlen,rfl⟩) fun _ s11 W' => ?_
    obtain ⟨_,H11,I11,_,e11⟩ := W'
    subst e11
    exact ⟨m',hm,i + 1,ys ++ [y10],_,some y7,I11.unpinned,(back I11).1,(back I11).2,w10⟩
 exact codeAny_compStart_list loop (T.self _ 0 _ _ _ st4 loop)
theorem fqa (hc : X.calm = true) (hclos : closureFor scope X.env = pure cl) (hcell : ∀ y ∈ scope.names,y.2 ≠ .cell) (hkind : scope.kind = .function)
  (hnames : ∀ y ∈ scope.names,y.2 = .local -> scope.names.lookup y.1 = some .local) (hx : scope.names.lookup x = some .local) (hnd : (x :: fx).Nodup)
  (hk : (cl.all fun q => fx.contains q.1) = true) (F : Frees X (relabel scope X.env) cl fx fr)
  (hfx : ((relabel scope X.env).names.all fun p => if (p.2 == .cell || p.2 == .free) then fx.contains p.1 else true) = true)
  (hi : PI X (.Name x px) iter wi) (ht : ∀ s H fp,PF (compCx X (x :: fx) scope cl s H fp) ifs tt) (he : ∀ s H fp,PE (compCx X (x :: fx) scope cl s H fp) elt te)
  (hs : ∀ x,foldedSetIterable iter X.env x = pure x := by intro _; rfl) :
  PE X (.ListComp elt [⟨.Name x px,iter,ifs,0⟩] scope pos) (tComp wi fr tt te) := by
 intro pins s σ H Q I h
 have hcl : ∀ y c,cl.lookup y = some c -> X.env.cells.lookup y = some c := fun y c e => by
  have q := List.all_eq_true.mp hk _ (PySem.mem_of_lookup e)
  rw [<- (F.mem y (by simpa using q)).2]
  exact e
 rw [eval_ListComp]
 refine wpAny_comprehension_free (use := none) rfl hs hclos hkind hnames ?_
 refine thn (hi pins s σ H _ I h) fun v s1 h1 => thn h1 fun itv s2 h2 => ?_
 obtain ⟨it,fp,tn,J,H2,e,I2,T,st2,f2,q2⟩ := h2
 subst e
 have hp0 : H2 s2.heap.objs.size = none := I2.hok.fresh (Nat.le_refl _)
 obtain ⟨W,⟨m0,w0⟩,turn⟩ := q2 _ hp0
 have flt : ∀ b ∈ fp,b < s2.heap.objs.size := fun b hb => by
  obtain ⟨o,e,_⟩ := T.obj _ _ st2 b hb
  exact Heap.lt_size e
 refine wpAny_newObj_type (wpAny_newFunctionEnv hcell (by intro y hy; simp at hy) (fun h₁ hns₁ hsb₁ => ?_) hkind)
 dsimp only at hns₁ hsb₁ ⊢
 have hlay : ∀ b u,s2.heap.get? b = some u -> (s2.heap.push { cls := .type "list",dict := none,data := .seq ([] : List Value).toArray }).get? b = some u := fun b u e => Heap.get?_push_of_some _ e
 have hnew : (s2.heap.push { cls := .type "list",dict := none,data := .seq ([] : List Value).toArray }).get? s2.heap.objs.size = some { cls := .type "list",dict := none,data := .seq ([] : List Value).toArray } := Heap.get?_push_size _ rfl
 have hsz : (s2.heap.push { cls := .type "list",dict := none,data := .seq ([] : List Value).toArray }).objs.size = s2.heap.objs.size + 1 := Heap.size_push _ _
 generalize hHH : s2.heap.push { cls := .type "list",dict := none,data := .seq ([] : List Value).toArray } = HH at hns₁ hsb₁ hlay hnew hsz ⊢
 have I3 : Inv X pins σ (upd H2 s2.heap.objs.size (.lst [])) { s2 with heap := HH,toks := s2.toks } :=
  I2.laid (t' := s2.toks) (o := .lst []) hlay (Nat.le_refl _) ⟨Nat.zero_le _,[],0,.nil,hnew⟩
 have ffp : ∀ b ∈ fp,FpOk X pins (upd H2 s2.heap.objs.size (.lst [])) b := fun b hb => by
  obtain ⟨f0,fr'⟩ := f2 b hb
  exact ⟨by rw [aqt (Nat.ne_of_lt (flt b hb))]; exact f0,fr'⟩
 have keep1 : ∀ b u,HH.get? b = some u -> h₁.get? b = some u := fun b u e => hsb₁.extBut b u (Nat.ne_of_lt (Heap.lt_size e)) (Heap.get?_push_of_some _ e)
 exact jq7 (s3 := { s2 with heap := HH,toks := s2.toks }) hc hkind hx hnd hcl F hfx ht he I3 T (T.keep _ _ _ st2 fun b hb o e => hlay b o e) ffp (fun b hb => by show b < HH.objs.size; rw [hsz]; exact Nat.lt_succ_of_lt (flt b hb)) w0 turn hns₁ keep1 fun s6 H5 o I6 qn => by
  obtain ⟨m,hn6,_⟩ := id I6.loc
  exact ⟨m,hn6,fun h' sb => ⟨.ref _,H5,gq2 I3 I6 ffp sb,rfl,qn⟩⟩
theorem mql {i : Nat} {y : Str} {py spos : Pos} (hN : X.N.Nodup) (hiN : X.N[i]? = some y) (hy : X.env.scope.names.lookup y = some .local)
  (hc : X.calm = true) (hclos : closureFor scope X.env = pure cl) (hcell : ∀ y ∈ scope.names,y.2 ≠ .cell) (hkind : scope.kind = .function)
  (hnames : ∀ y ∈ scope.names,y.2 = .local -> scope.names.lookup y.1 = some .local) (hx : scope.names.lookup x = some .local) (hnd : (x :: fx).Nodup)
  (hk : (cl.all fun q => fx.contains q.1) = true) (F : Frees X (relabel scope X.env) cl fx fr)
  (hfx : ((relabel scope X.env).names.all fun p => if (p.2 == .cell || p.2 == .free) then fx.contains p.1 else true) = true)
  (hi : PI X (.Name x px) iter wi) (ht : ∀ s H fp,PF (compCx X (x :: fx) scope cl s H fp) ifs tt) (he : ∀ s H fp,PE (compCx X (x :: fx) scope cl s H fp) elt te)
  (hs : ∀ x,foldedSetIterable iter X.env x = pure x := by intro _; rfl) (hsw : swapsWith (.ListComp elt [⟨.Name x px,iter,ifs,0⟩] scope pos) (some (.Name y py)) spos.line X.env = pure true := by rfl) :
  PS X (.Assign [.Name y py] (.ListComp elt [⟨.Name x px,iter,ifs,0⟩] scope pos) spos) (tAsg (tComp wi fr tt te) (gName i)) := by
 intro pins s σ H D I h
 have hcl : ∀ y c,cl.lookup y = some c -> X.env.cells.lookup y = some c := fun y c e => by
  have q := List.all_eq_true.mp hk _ (PySem.mem_of_lookup e)
  rw [<- (F.mem y (by simpa using q)).2]
  exact e
 rw [exec_Assign_Name_used _ _ _ _ hsw]
 refine wpAny_bind (wpAny_standAt (wpAny_bind ?_))
 show wpAny _ X.A (do let _ <- comprehension (.ListComp elt [⟨.Name x px,iter,ifs,0⟩] scope pos) scope X.env _ (newList []) false (eval iter X.env) (some (assign (.Name y py) X.env))) _ _ s
 refine wpAny_bind (wpAny_mono (wpAny_comprehension_free (use := some (assign (.Name y py) X.env)) (Q := fun _ s' => SP X pins D .next s') rfl hs hclos hkind hnames ?_) (fun _ s' hq => wpAny_pure (wpAny_pure hq)) fun _ _ e => e)
 refine thn (hi pins s σ H _ I h) fun v s1 h1 => thn h1 fun itv s2 h2 => ?_
 obtain ⟨it,fp,tn,J,H2,e,I2,T,st2,f2,q2⟩ := h2
 subst e
 have hp0 : H2 s2.heap.objs.size = none := I2.hok.fresh (Nat.le_refl _)
 obtain ⟨W,⟨m0,w0⟩,turn⟩ := q2 _ hp0
 have flt : ∀ b ∈ fp,b < s2.heap.objs.size := fun b hb => by
  obtain ⟨o,e,_⟩ := T.obj _ _ st2 b hb
  exact Heap.lt_size e
 refine wpAny_newObj_type (wpAny_newFunctionEnv hcell (by intro y hy; simp at hy) (fun h₁ hns₁ hsb₁ => ?_) hkind)
 dsimp only at hns₁ hsb₁ ⊢
 have hlay : ∀ b u,s2.heap.get? b = some u -> (s2.heap.push { cls := .type "list",dict := none,data := .seq ([] : List Value).toArray }).get? b = some u := fun b u e => Heap.get?_push_of_some _ e
 have hnew : (s2.heap.push { cls := .type "list",dict := none,data := .seq ([] : List Value).toArray }).get? s2.heap.objs.size = some { cls := .type "list",dict := none,data := .seq ([] : List Value).toArray } := Heap.get?_push_size _ rfl
 have hsz : (s2.heap.push { cls := .type "list",dict := none,data := .seq ([] : List Value).toArray }).objs.size = s2.heap.objs.size + 1 := Heap.size_push _ _
 generalize hHH : s2.heap.push { cls := .type "list",dict := none,data := .seq ([] : List Value).toArray } = HH at hns₁ hsb₁ hlay hnew hsz ⊢
 have I3 : Inv X pins σ (upd H2 s2.heap.objs.size (.lst [])) { s2 with heap := HH,toks := s2.toks } :=
  I2.laid (t' := s2.toks) (o := .lst []) hlay (Nat.le_refl _) ⟨Nat.zero_le _,[],0,.nil,hnew⟩
 have ffp : ∀ b ∈ fp,FpOk X pins (upd H2 s2.heap.objs.size (.lst [])) b := fun b hb => by
  obtain ⟨f0,fr'⟩ := f2 b hb
  exact ⟨by rw [aqt (Nat.ne_of_lt (flt b hb))]; exact f0,fr'⟩
 have keep1 : ∀ b u,HH.get? b = some u -> h₁.get? b = some u := fun b u e => hsb₁.extBut b u (Nat.ne_of_lt (Heap.lt_size e)) (Heap.get?_push_of_some _ e)
 exact jq7 (Q := fun x H1 => gName i x σ H1 D.nx) (s3 := { s2 with heap := HH,toks := s2.toks }) hc hkind hx hnd hcl F hfx ht he I3 T (T.keep _ _ _ st2 fun b hb o e => hlay b o e) ffp (fun b hb => by show b < HH.objs.size; rw [hsz]; exact Nat.lt_succ_of_lt (flt b hb)) w0 turn hns₁ keep1 fun s6 H5 o I6 qn => by
  have nC : H5 HH.objs.size = none := I6.free
  have I7 : Inv X pins σ H5 s6 := gq2 (h' := s6.heap) I3 I6 ffp ⟨rfl,fun _ _ => rfl⟩
  obtain ⟨f0,f1,f2,f3,f4,f5⟩ := I3.fpOk (H' := H5) (b := HH.objs.size) (Nat.le_refl _) nC
  obtain ⟨m,hn6,_⟩ := id I6.loc
  show wpAny _ X.A (assign (.Name y py) X.env (.ref _)) _ _ s6
  refine wpAny_assign_Name (iq4 I7 hN hiN (.inl hy) (v := .ref _) rfl (fun s8 I8 sbx => ?_) (.inr hy))
  obtain ⟨a,sb,ha⟩ := sbx
  have hne : HH.objs.size ≠ a := by
   rcases ha with rfl | ha
   ·exact f1
   ·exact fun z => f4 y a ha z.symm
  refine ⟨m,hn6.sameBut sb hne,fun h' sb' => ?_⟩
  exact ⟨_,H5,I8.turned (t' := s8.toks) (it := HH.objs.size) (fun b o hb e => sb'.extBut b o hb e) f0 f1 f3 f4 f5,qn⟩
end
section
variable {p : Addr} {fv : St} {te : TE} {Q : VK} {H1 : Hp}
theorem nqm {z : Str} (hz : z.length ≤ sizeLine) (hp : H1 p = none) (f : Nat -> V)
  (he : ∀ c,c ∈ z.cps.toList -> ∀ (H' : Hp) (R : VK),(∀ H'',Same H' H'' -> R (f c) H'') -> te (some (.str ⟨#[c]⟩) :: fv) H' R)
  (hQ : ∀ H',Same H1 H' -> H' p = some (.lst (z.cps.toList.map f)) -> Q (.ref p) H') : CompI (Its z) p fv tYes te Q H1 := by
 have hl : z.cps.toList.length = z.length := by simp [Str.length]
 refine ⟨fun i m ys H2 => m = z.length - i ∧ i ≤ z.length ∧ ys = (z.cps.toList.take i).map f ∧ H2 p = some (.lst ys) ∧ Same H1 H2,⟨z.length,by simp,Nat.zero_le _,by simp,aqm,fun b o e => by rw [aqt (aqo e hp)]; exact e⟩,?_⟩
 rintro i m ys H2 ⟨rfl,hi,rfl,hp2,sm⟩
 refine ⟨hp2,?_⟩
 by_cases hlt : i < z.length
 ·refine .inr ⟨hlt,?_,fun x H3 y => ?_⟩
  ·rw [List.length_map,List.length_take]; omega
  ·obtain ⟨rfl,c,hc,rfl⟩ := y
   unfold tYes
   dsimp only
   rw [if_pos rfl]
   refine he c (List.mem_of_getElem? hc) _ _ fun H5 s5 => ⟨s5 _ _ hp2,z.length - (i + 1),by omega,rfl,hlt,?_,aqm,fun b o e => ?_⟩
   ·rw [List.take_add_one,hc,List.map_append]; rfl
   ·rw [aqt (aqo e hp)]; exact s5 _ _ (sm _ _ e)
 ·have e : i = z.length := by omega
  subst e
  refine .inl ⟨Nat.le_refl _,hQ H2 sm ?_⟩
  rw [hp2,<- hl,List.take_length]
theorem jqN {z : Str} {tt : TT} (hz : z.length ≤ sizeLine) (hp : H1 p = none) (g : Nat -> Bool) (f : Nat -> V)
  (ht : ∀ c,c ∈ z.cps.toList -> ∀ (H' : Hp) (R : Bool -> Hp -> Prop),(∀ H'',Same H' H'' -> R (g c) H'') -> tt (some (.str ⟨#[c]⟩) :: fv) H' R)
  (he : ∀ c,c ∈ z.cps.toList -> ∀ (H' : Hp) (R : VK),(∀ H'',Same H' H'' -> R (f c) H'') -> te (some (.str ⟨#[c]⟩) :: fv) H' R)
  (hQ : ∀ H',Same H1 H' -> H' p = some (.lst ((z.cps.toList.filter g).map f)) -> Q (.ref p) H') : CompI (Its z) p fv tt te Q H1 := by
 have hl : z.cps.toList.length = z.length := by simp [Str.length]
 refine ⟨fun i m ys H2 => m = z.length - i ∧ i ≤ z.length ∧ ys = ((z.cps.toList.take i).filter g).map f ∧ H2 p = some (.lst ys) ∧ Same H1 H2,⟨z.length,by simp,Nat.zero_le _,by simp,aqm,fun b o e => by rw [aqt (aqo e hp)]; exact e⟩,?_⟩
 rintro i m ys H2 ⟨rfl,hi,rfl,hp2,sm⟩
 refine ⟨hp2,?_⟩
 by_cases hlt : i < z.length
 ·refine .inr ⟨hlt,?_,fun x H3 y => ?_⟩
  ·rw [List.length_map]
   have := List.length_filter_le g (z.cps.toList.take i)
   rw [List.length_take] at this
   omega
  ·obtain ⟨rfl,c,hc,rfl⟩ := y
   have et : z.cps.toList.take (i + 1) = z.cps.toList.take i ++ [c] := by rw [List.take_add_one,hc]; rfl
   refine ht c (List.mem_of_getElem? hc) _ _ fun H4 s4 => ?_
   cases hg : g c with
   | false =>
    rw [if_neg Bool.false_ne_true]
    refine ⟨z.length - (i + 1),by omega,rfl,hlt,?_,s4 _ _ hp2,sm.trans s4⟩
    rw [et,List.filter_append,List.filter_cons,hg]
    simp
   | true =>
    rw [if_pos rfl]
    refine he c (List.mem_of_getElem? hc) _ _ fun H5 s5 => ⟨s5 _ _ (s4 _ _ hp2),z.length - (i + 1),by omega,rfl,hlt,?_,aqm,fun b o e => ?_⟩
    ·rw [et,List.filter_append,List.filter_cons,hg]
     simp
    ·rw [aqt (aqo e hp)]; exact s5 _ _ (s4 _ _ (sm _ _ e))
 ·have e : i = z.length := by omega
  subst e
  refine .inl ⟨Nat.le_refl _,hQ H2 sm ?_⟩
  rw [hp2,<- hl,List.take_length]
end
section
variable {σ : St} {H : Hp} {Q : VK} {K : PySem.W.Frag} {tl te : TE} {tt : TT} {fr : List Nat}
theorem rqJ : frV σ [] = [] := rfl
theorem qqB {i : Nat} {r : List Nat} : frV σ (i :: r) = (σ[i]?).getD none :: frV σ r := rfl
theorem tq8 {z : Str} {p : Addr} : rJoin K (.str z) [.ref p] H Q ↔ ∃ ys : List Str,SqL K H p (ys.map V.str) ∧ (ys.map (·.length)).sum + ys.length * z.length ≤ 16777216 ∧ Q (.str (Txt.join z ys)) H := by
 constructor
 ·rintro ⟨z',p',ys,h1,h2,h3⟩
  cases h1; cases h2
  exact ⟨ys,h3⟩
 ·rintro ⟨ys,h⟩
  exact ⟨z,p,ys,rfl,rfl,h⟩
theorem qqT : (tComp (iStr tl) fr tt te σ H Q) = (tl σ H fun x H1 => ∃ z,x = .str z ∧ ∀ p,H1 p = none -> CompI (Its z) p (frV σ fr) tt te Q H1) := rfl
theorem pqZ : (tComp (iList K tl) fr tt te σ H Q) = (tl σ H fun x H1 => ∃ a,x = .ref a ∧ (∃ xs,SqL K H1 a xs) ∧ ∀ p,H1 p = none -> CompI (Itl K a) p (frV σ fr) tt te Q H1) := rfl
end
section
variable {X : Cx} {K : PySem.W.Frag}
theorem hqu (h : X.K = K) : OpR X (binaryOp .Add) (rAddU K) := by subst h; exact pqw
theorem aqh (h : X.K = K) : IxR X (rIx K) := by subst h; exact sqY
theorem mqg (h : X.K = K) : SlR X (rSl K) := by subst h; exact sqX
theorem aqr (h : X.K = K) : CallR X (.builtin "len") (rLenU K) := by subst h; exact pqs
theorem cqa {tg l : Expr} {tl : TE} (h : X.K = K) (hl : PE X l tl) : PI X tg l (iList K tl) := by subst h; exact rq6 hl
variable {o e : Expr} {es : List Expr} {to : TE} {t : TA} {name : Str} {apos cpos : Pos} {T id : String} {r : V -> List V -> Hp -> VK -> Prop}
theorem fqg (h : X.K = K) (pa : PlainAttrs T) (slot : Slot T name id) (hty : typeOf (.builtin id) = pure (.type "method_descriptor")) (hm : MtR X id r) (ho : PE X o to) (ha : PA X (e :: es) t)
  (hbase : attributeBase o name X.env (eval o X.env) = eval o X.env := by rfl)
  (hfew : ((backTo cpos (starEach (e :: es) X.env)).all (fun x => !x.1) && (backToKw cpos (keywordEach [] X.env)).all (fun x => x.1.isSome)
   && decide ((e :: es).length + ([] : List Keyword).length + (if ([] : List Keyword).isEmpty then 0 else 1) < 30)) = true := by rfl)
  (hline : (apos.endLine == cpos.line) = true := by rfl) (hs : starEach (e :: es) X.env = (false,eval e X.env) :: starEach es X.env := by rfl) (hplain : (backTo cpos (starEach es X.env)).any (·.1) = false := by rfl) :
  PE X (.Call (.Attribute o name apos) (e :: es) [] cpos) (tBM K T r to t) := by
 subst h; exact uqo pa slot hty hm ho ha hbase hfew hline hs hplain
end
structure FunD (K : PySem.W.Frag) (x qual : Str) (st : Stmt) (f : Addr) (fd : FuncData) (T : Addr) : Prop where
 ex : ∃ (oc : Value) (od : Option Addr) (kV doc pm : Value) (an : Option Addr) (cdv ct : Value) (osl : Array (Option Value)),
  fd = PySem.W.fnOf x qual (defArgs st) (defBody st) (defScope st) (.ref T) kV doc pm an cdv ct ∧ K.lookup f = some ⟨oc,od,.func fd,osl⟩ ∧ PySem.W.codeIn K cdv qual = true
 kp : PySem.W.keepIn K (.ref f) = true
section
variable {P : Program} {w : World} {K : PySem.W.Frag} {mg : Str -> Option Value} {base : Heap}
end
theorem rqq {c : TT} {tb : TS} {D : Ends} {σ : St} {H : Hp} (W : Nat -> St -> Hp -> Prop) (m0 : Nat) (h0 : W m0 σ H)
  (hs : ∀ m σ H,W m σ H -> c σ H fun b H1 => if b = true then ∃ N : St -> Hp -> Prop,(∀ σ' H',N σ' H' -> ∃ m',m' < m ∧ W m' σ' H') ∧ tb { D with nx := N,ct := N,bk := D.nx } σ H1 else D.nx σ H1) : tWhile c tb D σ H := ⟨W,⟨m0,h0⟩,hs⟩
section
variable {σ : St} {H : Hp} {Q : VK}
theorem uqp {r : V -> Hp -> VK -> Prop} {ta : TE} : (tUn r ta σ H Q) = (ta σ H fun x H1 => r x H1 Q) := rfl
theorem rd_U {g : Int -> V} {i : Int} : rU g (.int i) H Q ↔ Q (g i) H := ⟨fun ⟨_,h1,h2⟩ => by cases h1; exact h2,fun h => ⟨i,rfl,h⟩⟩
theorem sqW {l : Addr} {y : V} : rAppend (.ref l) [y] H Q ↔ ∃ xs,H l = some (.lst xs) ∧ xs.length < sizeLine ∧ Q .non (upd H l (.lst (xs ++ [y]))) := by
 constructor
 ·rintro ⟨l',xs,y',h1,h2,h3⟩
  cases h1; cases h2
  exact ⟨xs,h3⟩
 ·rintro ⟨xs,h⟩
  exact ⟨l,xs,y,rfl,rfl,h⟩
theorem sqe {K : PySem.W.Frag} {p : Addr} : tyV K "list" (.ref p) H ↔ ∃ xs,SqL K H p xs := by
 constructor
 ·rintro (⟨_,h⟩ | ⟨h,_⟩ | ⟨h,_⟩ | ⟨h,_⟩)
  ·exact h
  ·exact absurd h (by decide)
  ·exact absurd h (by decide)
  ·exact absurd h (by decide)
 ·intro h; exact .inl ⟨rfl,h⟩
end
mutual
inductive Is (H : Hp) : PyData -> V -> Prop
 | non : Is H .none .non
 | bl (b : Bool) : Is H (.bool b) (.bl b)
 | int (i : Int) : Is H (.int i) (.int i)
 | str (x : Str) : Is H (.str x) (.str x)
 | lst {p : Addr} {xs : List V} {ds : List PyData} : H p = some (.lst xs) -> IsAll H ds xs -> Is H (.list ds) (.ref p)
 | tup {p : Addr} {xs : List V} {ds : List PyData} : H p = some (.tup xs) -> IsAll H ds xs -> Is H (.tuple ds) (.ref p)
inductive IsAll (H : Hp) : List PyData -> List V -> Prop
 | nil : IsAll H [] []
 | cons {d : PyData} {x : V} {ds : List PyData} {xs : List V} : Is H d x -> IsAll H ds xs -> IsAll H (d :: ds) (x :: xs)
end
mutual
theorem Is.mono {H H' : Hp} (sm : Same H H') : ∀ {d : PyData} {x : V},Is H d x -> Is H' d x
 | _,_,.non => .non
 | _,_,.bl b => .bl b
 | _,_,.int i => .int i
 | _,_,.str x => .str x
 | _,_,.lst h r => .lst (sm _ _ h) (IsAll.mono sm r)
 | _,_,.tup h r => .tup (sm _ _ h) (IsAll.mono sm r)
theorem IsAll.mono {H H' : Hp} (sm : Same H H') : ∀ {ds : List PyData} {xs : List V},IsAll H ds xs -> IsAll H' ds xs
 | _,_,.nil => .nil
 | _,_,.cons h r => .cons (Is.mono sm h) (IsAll.mono sm r)
end
theorem IsAll.length {H : Hp} : ∀ {ds : List PyData} {xs : List V},IsAll H ds xs -> ds.length = xs.length
 | _,_,.nil => rfl
 | _,_,.cons _ r => by rw [List.length_cons,List.length_cons,IsAll.length r]
theorem IsAll.at {H : Hp} : ∀ {ds : List PyData} {xs : List V},IsAll H ds xs -> ∀ (i : Nat) (x : V),xs[i]? = some x -> ∃ d,ds[i]? = some d ∧ Is H d x
 | _,_,.nil,i,x,h => by simp at h
 | _,_,.cons q r,0,x,h => by simp at h; subst h; exact ⟨_,rfl,q⟩
 | _,_,.cons q r,i + 1,x,h => by
  obtain ⟨d,h1,h2⟩ := r.at i x (by simpa using h)
  exact ⟨d,by simpa using h1,h2⟩
section
variable {X : Cx} {pins : List (Addr × Obj)} {σ : St} {H : Hp} {s : Shared}
mutual
theorem Is.reads (I : Inv X pins σ H s) : ∀ {d : PyData} {x : V} {v : Value},Is H d x -> RelV x v -> ∃ as,Reads s.heap v d as
 | _,_,_,.non,r => by cases r; exact ⟨_,.none⟩
 | _,_,_,.bl b,r => by cases r; exact ⟨_,.bool b⟩
 | _,_,_,.int i,r => by obtain ⟨t,rfl⟩ := r; exact ⟨_,.int i t⟩
 | _,_,_,.str x,r => by obtain ⟨t,rfl⟩ := r; exact ⟨_,.str x t⟩
 | _,_,_,.lst h q,r => by
  cases r
  obtain ⟨its,vs,⟨o,n,e,c,_,dt⟩,_⟩ := I.list (SqL.of h)
  obtain ⟨as,ra⟩ := IsAll.reads I q vs
  exact ⟨_,.list e c dt (by simpa using ra)⟩
 | _,_,_,.tup h q,r => by
  cases r
  obtain ⟨its,vs,⟨o,e,c,n,dt⟩,_⟩ := I.tuple (SqT.of h)
  obtain ⟨as,ra⟩ := IsAll.reads I q vs
  exact ⟨_,.tuple e c dt (by simpa using ra)⟩
theorem IsAll.reads (I : Inv X pins σ H s) : ∀ {ds : List PyData} {xs : List V} {vs : List Value},IsAll H ds xs -> Vals xs vs -> ∃ as,ReadsAll s.heap vs ds as
 | _,_,_,.nil,r => by cases r; exact ⟨_,.nil⟩
 | _,_,_,.cons q t,r => by
  cases r with
  | cons r1 r2 =>
   obtain ⟨as,h1⟩ := Is.reads I q r1
   obtain ⟨bs,h2⟩ := IsAll.reads I t r2
   exact ⟨_,.cons h1 h2⟩
end
def rEqD : R2 := fun x y H Q => ∃ d e,Is H d x ∧ Is H e y ∧ SeqAt.shaped d = true ∧ SeqAt.shaped e = true ∧ Q (.bl (PyData.eqv d e)) H
def rNeD : R2 := fun x y H Q => ∃ d e,Is H d x ∧ Is H e y ∧ SeqAt.shaped d = true ∧ SeqAt.shaped e = true ∧ Q (.bl (!PyData.eqv d e)) H
theorem mqV (hu : X.A.units + 64 < cLine) : OpR X (compareOp .Eq) rEqD := by
 intro pins s σ H x y v u Q I rx ry h
 obtain ⟨d,e,hx,hy,sx,sy,q⟩ := h
 obtain ⟨as,ra⟩ := hx.reads I rx
 obtain ⟨bs,rb⟩ := hy.reads I ry
 exact eq_dataH ra rb sx sy hu ⟨.bl _,H,I,rfl,q⟩
theorem jqR (hu : X.A.units + 64 < cLine) : OpR X (compareOp .NotEq) rNeD := by
 intro pins s σ H x y v u Q I rx ry h
 obtain ⟨d,e,hx,hy,sx,sy,q⟩ := h
 obtain ⟨as,ra⟩ := hx.reads I rx
 obtain ⟨bs,rb⟩ := hy.reads I ry
 exact ne_dataH ra rb sx sy hu ⟨.bl _,H,I,rfl,q⟩
end
mutual
inductive IsT (H : Hp) : PyData -> V -> Prop
 | non : IsT H .none .non
 | bl (b : Bool) : IsT H (.bool b) (.bl b)
 | int (i : Int) : IsT H (.int i) (.int i)
 | str (x : Str) : IsT H (.str x) (.str x)
 | tup {p : Addr} {xs : List V} {ds : List PyData} : H p = some (.tup xs) -> IsTAll H ds xs -> IsT H (.tuple ds) (.ref p)
inductive IsTAll (H : Hp) : List PyData -> List V -> Prop
 | nil : IsTAll H [] []
 | cons {d : PyData} {x : V} {ds : List PyData} {xs : List V} : IsT H d x -> IsTAll H ds xs -> IsTAll H (d :: ds) (x :: xs)
end
def SameT (H H' : Hp) : Prop := ∀ b xs,H b = some (.tup xs) -> H' b = some (.tup xs)
theorem Same.toT {H H' : Hp} (h : Same H H') : SameT H H' := fun b xs e => h b _ e
mutual
theorem IsT.mono {H H' : Hp} (sm : SameT H H') : ∀ {d : PyData} {x : V},IsT H d x -> IsT H' d x
 | _,_,.non => .non
 | _,_,.bl b => .bl b
 | _,_,.int i => .int i
 | _,_,.str x => .str x
 | _,_,.tup h r => .tup (sm _ _ h) (IsTAll.mono sm r)
theorem IsTAll.mono {H H' : Hp} (sm : SameT H H') : ∀ {ds : List PyData} {xs : List V},IsTAll H ds xs -> IsTAll H' ds xs
 | _,_,.nil => .nil
 | _,_,.cons h r => .cons (IsT.mono sm h) (IsTAll.mono sm r)
end
mutual
theorem IsT.is {H : Hp} : ∀ {d : PyData} {x : V},IsT H d x -> Is H d x
 | _,_,.non => .non
 | _,_,.bl b => .bl b
 | _,_,.int i => .int i
 | _,_,.str x => .str x
 | _,_,.tup h r => .tup h (IsTAll.is r)
theorem IsTAll.is {H : Hp} : ∀ {ds : List PyData} {xs : List V},IsTAll H ds xs -> IsAll H ds xs
 | _,_,.nil => .nil
 | _,_,.cons h r => .cons (IsT.is h) (IsTAll.is r)
end
section
variable {p : Addr} {fv : St} {te : TE} {Q : VK} {H1 : Hp}
inductive All2 (R : V -> V -> Hp -> Prop) (H : Hp) : List V -> List V -> Prop
 | nil : All2 R H [] []
 | cons {x y : V} {xs ys : List V} : R x y H -> All2 R H xs ys -> All2 R H (x :: xs) (y :: ys)
end
section
variable {X : Cx}
def rAllB (K : PySem.W.Frag) : List V -> Hp -> VK -> Prop := fun vs H Q => ∃ (p : Addr) (bs : List Bool),vs = [.ref p] ∧ SqL K H p (bs.map V.bl) ∧ Q (.bl (bs.all id)) H
def rAnyB (K : PySem.W.Frag) : List V -> Hp -> VK -> Prop := fun vs H Q => ∃ (p : Addr) (bs : List Bool),vs = [.ref p] ∧ SqL K H p (bs.map V.bl) ∧ Q (.bl (bs.any id)) H
theorem qqR {bs : List Bool} : ∀ {us : List Value},Vals (bs.map V.bl) us -> ∀ (i : Nat) (v : Value),us[i]? = some v -> ∃ b,bs[i]? = some b ∧ v = .bool b := by
 induction bs with
 | nil => intro us r i v h; rw [List.map_nil] at r; cases r; simp at h
 | cons b bs ih =>
  intro us r i v h
  rw [List.map_cons] at r
  cases r with
  | cons r1 r2 =>
   cases i with
   | zero => simp at h; subst h; exact ⟨b,rfl,r1⟩
   | succ i =>
    obtain ⟨c,h1,h2⟩ := ih r2 i v (by simpa using h)
    exact ⟨c,by simpa using h1,h2⟩
theorem oq6 (hc : X.calm = true) : CallR X (.builtin "all") (rAllB X.K) := by
 intro pins s σ H xs us Q I r h
 obtain ⟨p,bs,rfl,hq,q⟩ := h
 obtain ⟨u,rfl,ru⟩ := vals1 r
 cases ru
 obtain ⟨its,vs,pl,hl⟩ := I.list hq
 have hI := pl.isList
 have hlt : p < s.heap.objs.size := by obtain ⟨_,e,_⟩ := hI; exact Heap.lt_size e
 refine call_all_walk (wpAny_pyIter_list hI ?_)
 refine ⟨s.heap.objs.size,[s.heap.objs.size,p],[s.heap.objs.size],its.toArray.size,_,_,fun i => (bs[i]?).getD true,rfl,Walks.list (A := X.A.in1) (I.ok.hd hc) _ p (Nat.ne_of_lt hlt) its.toArray,
  ⟨⟨_,Heap.get?_push_size _ rfl,rfl,rfl⟩,hI.push _⟩,fun i v s' Q' E' hP hQ => ?_,fun h' tk hk => ?_⟩
 ·obtain ⟨b,e,rfl⟩ := qqR vs i v (by simpa using hP)
  simp only [e,Option.getD_some] at hQ
  exact wpAny_truthy_bool hQ
 ·have hbl := vs.length
  rw [List.length_map] at hbl
  have e : ((List.range its.toArray.size).all fun i => (bs[i]?).getD true) = bs.all id := by
   rw [List.size_toArray,<- hbl]; exact PyProof.Rows.LSm.range_all bs
  exact ⟨.bl _,H,I.kept (t' := tk) (PyProof.Rows.LSm.kept_iter hk),rfl,by rw [e]; exact q⟩
variable {K : PySem.W.Frag}
theorem jql (h : X.K = K) (hc : X.calm = true) : CallR X (.builtin "all") (rAllB K) := by subst h; exact oq6 hc
def rListU (K : PySem.W.Frag) : List V -> Hp -> VK -> Prop := fun xs H Q => ∃ p ys,xs = [.ref p] ∧ (SqL K H p ys ∨ SqT K H p ys) ∧ ∀ l,H l = none -> Q (.ref l) (upd H l (.lst ys))
def rTupleU (K : PySem.W.Frag) : List V -> Hp -> VK -> Prop := fun xs H Q => ∃ p ys,xs = [.ref p] ∧ ((SqL K H p ys ∧ ∀ l,H l = none -> Q (.ref l) (upd H l (.tup ys))) ∨ (SqT K H p ys ∧ Q (.ref p) H))
theorem kqr {tg l : Expr} {tl : TE} (h : X.K = K) (hl : PE X l tl) : PI X tg l (iTup K tl) := by subst h; exact tqM hl
end
section
variable {H : Hp} {Q : VK} {K : PySem.W.Frag}
theorem rq0 {x : V} {T : String} : (rIsiU [x,.ty T] H Q) = (∃ k,kindV x H = some k ∧ T ∈ ["bool","int","str","list","tuple"] ∧ Q (.bl (subT k T)) H) := rfl
theorem qqO : kindV .non H = some "NoneType" := rfl
theorem sqf {b : Bool} : kindV (.bl b) H = some "bool" := rfl
theorem qqp {i : Int} : kindV (.int i) H = some "int" := rfl
theorem qqd {x : Str} : kindV (.str x) H = some "str" := rfl
theorem iqq {p : Addr} {xs : List V} (h : H p = some (.lst xs)) : kindV (.ref p) H = some "list" := by simp only [kindV,h]
theorem iqy {p : Addr} {xs : List V} (h : H p = some (.tup xs)) : kindV (.ref p) H = some "tuple" := by simp only [kindV,h]
theorem pqp : ("bool" ∈ ["bool","int","str","list","tuple"]) = True := by simp
theorem qqm : ("int" ∈ ["bool","int","str","list","tuple"]) = True := by simp
theorem qq3 : ("str" ∈ ["bool","int","str","list","tuple"]) = True := by simp
theorem pqI : ("list" ∈ ["bool","int","str","list","tuple"]) = True := by simp
theorem nqW : ("tuple" ∈ ["bool","int","str","list","tuple"]) = True := by simp
theorem hqN : subT "NoneType" "bool" = false := by decide
theorem iqm : subT "NoneType" "int" = false := by decide
theorem iqg : subT "NoneType" "str" = false := by decide
theorem hqC : subT "NoneType" "list" = false := by decide
theorem gqZ : subT "NoneType" "tuple" = false := by decide
theorem kqm : subT "bool" "bool" = true := by decide
theorem kq6 : subT "bool" "int" = true := by decide
theorem lqt : subT "bool" "str" = false := by decide
theorem kqy : subT "bool" "list" = false := by decide
theorem jqx : subT "bool" "tuple" = false := by decide
theorem lqI : subT "int" "bool" = false := by decide
theorem mqs : subT "int" "int" = true := by decide
theorem mqu : subT "int" "str" = false := by decide
theorem lqo : subT "int" "list" = false := by decide
theorem kqI : subT "int" "tuple" = false := by decide
theorem lqJ : subT "str" "bool" = false := by decide
theorem mqx : subT "str" "int" = false := by decide
theorem lq8 : subT "str" "str" = true := by decide
theorem kq3 : subT "str" "list" = false := by decide
theorem kqD : subT "str" "tuple" = false := by decide
theorem kqT : subT "list" "bool" = false := by decide
theorem lqY : subT "list" "int" = false := by decide
theorem kq4 : subT "list" "str" = false := by decide
theorem kqX : subT "list" "list" = true := by decide
theorem jqD : subT "list" "tuple" = false := by decide
theorem jqu : subT "tuple" "bool" = false := by decide
theorem kqK : subT "tuple" "int" = false := by decide
theorem kqW : subT "tuple" "str" = false := by decide
theorem jqy : subT "tuple" "list" = false := by decide
theorem sub_tuple_tuple : subT "tuple" "tuple" = true := by decide
theorem rqE {n : Nat} {t : TGs} {v : V} {σ : St} {R : St -> Hp -> Prop} : (gTup K n t v σ H R) = (∃ a xs,v = .ref a ∧ SqT K H a xs ∧ xs.length = n ∧ t xs σ H R) := rfl
theorem pq4 {t : TG} {u : TGs} {vs : List V} {σ : St} {R : St -> Hp -> Prop} : (gCons t u vs σ H R) = (∃ v r,vs = v :: r ∧ t v σ H fun σ' H' => u r σ' H' R) := rfl
theorem sqs {vs : List V} {σ : St} {R : St -> Hp -> Prop} : (gNil vs σ H R) = (vs = [] ∧ R σ H) := rfl
theorem sqG {to ti : TE} {t : TSet} {v : V} {σ : St} {R : St -> Hp -> Prop} : (gSub to ti t v σ H R) = (to σ H fun o H1 => ti σ H1 fun i H2 => t o i v H2 fun H3 => R σ H3) := rfl
theorem rqI {p : Addr} {k : Int} {v : V} {R : Hp -> Prop} : rSetL (.ref p) (.int k) v H R ↔ ∃ xs j,H p = some (.lst xs) ∧ ixN xs.length k = some j ∧ R (upd H p (.lst (xs.set j v))) := by
 constructor
 ·rintro ⟨p',xs,k',j,h1,h2,h3⟩; cases h1; cases h2; exact ⟨xs,j,h3⟩
 ·rintro ⟨xs,j,h⟩; exact ⟨p,xs,k,j,rfl,rfl,h⟩
end
section
variable {X : Cx} {K : PySem.W.Frag}
theorem fqL {es : List Expr} {k : Nat} {t : TGs} {n : Nat} {pos : Pos} (h : X.K = K) (hc : X.calm = true) (hg : PGs X es t)
  (hn : (assignEach es X.env).length = n := by rfl) (hst : (assignEach es X.env).findIdx? (·.1) = none := by rfl) : PG X (.Tuple es k pos) (gTup K n t) := by
 subst h; exact rqc hc hg hn hst
end
def SameBut (p : Addr) (H H' : Hp) : Prop := ∀ b o,b ≠ p -> H b = some o -> H' b = some o
theorem SameBut.trans {p : Addr} {H H' H'' : Hp} (h : SameBut p H H') (h' : SameBut p H' H'') : SameBut p H H'' := fun b o n e => h' b o n (h b o n e)
theorem Same.but {p : Addr} {H H' : Hp} (h : Same H H') : SameBut p H H' := fun b o _ e => h b o e
theorem dqB {p : Addr} {H : Hp} {o : HO} : SameBut p H (upd H p o) := fun b u n e => by rw [aqt n]; exact e
theorem SameBut.same {p : Addr} {H H' : Hp} (h : SameBut p H H') (hp : H p = none) : Same H H' := fun b o e => h b o (aqo e hp) e
section
variable {p : Addr} {fv : St} {te : TE} {Q : VK} {H1 : Hp} {K : PySem.W.Frag}
theorem Same.tup {H H' : Hp} {a : Addr} {xs : List V} (e : Same H H') (h : SqT K H a xs) : SqT K H' a xs := by
 rcases h with (h | ⟨o,h⟩) | h
 ·exact .inl (.inl (e _ _ h))
 ·exact .inl (.inr ⟨o,e _ _ h⟩)
 ·exact .inr h
theorem oqq {a : Addr} {xs zs : List V} (hxs : SqT K H1 a xs) (hlen : xs.length ≤ sizeLine) (hp : H1 p = none) (hz : zs.length = xs.length)
  (he : ∀ (i : Nat) (x z : V),xs[i]? = some x -> zs[i]? = some z -> ∀ (H' : Hp) (T : VK),Same H1 H' -> (∀ H'',Same H' H'' -> T z H'') -> te (some x :: fv) H' T)
  (hQ : ∀ H',Same H1 H' -> H' p = some (.lst zs) -> Q (.ref p) H') : CompI (Itt K a) p fv tYes te Q H1 := by
 refine ⟨fun i m ys H2 => m = xs.length - i ∧ i ≤ xs.length ∧ ys = zs.take i ∧ H2 p = some (.lst ys) ∧ Same H1 H2,⟨xs.length,by simp,Nat.zero_le _,by simp,aqm,fun b o e => by rw [aqt (aqo e hp)]; exact e⟩,?_⟩
 rintro i m ys H2 ⟨rfl,hi,rfl,hp2,sm⟩
 refine ⟨hp2,?_⟩
 have q := sm.tup hxs
 by_cases hlt : i < xs.length
 ·refine .inr ⟨⟨xs,xs[i],q,by simp [hlt]⟩,?_,fun x H3 y => ?_⟩
  ·rw [List.length_take]; omega
  ·obtain ⟨rfl,y⟩ := y
   have hc := y xs q
   have hzi : zs[i]? = some zs[i] := List.getElem?_eq_getElem (by omega)
   unfold tYes
   dsimp only
   rw [if_pos rfl]
   refine he i x _ hc hzi _ _ sm fun H5 s5 => ⟨s5 _ _ hp2,xs.length - (i + 1),by omega,rfl,hlt,?_,aqm,fun b o e => ?_⟩
   ·rw [List.take_add_one,hzi]; rfl
   ·rw [aqt (aqo e hp)]; exact s5 _ _ (sm _ _ e)
 ·have e : i = xs.length := by omega
  subst e
  refine .inl ⟨⟨xs,q,Nat.le_refl _⟩,hQ H2 sm ?_⟩
  rw [hp2,<- hz,List.take_length]
theorem nqT {a : Addr} {xs zs : List V} (hxs : SqL K H1 a xs) (hlen : xs.length ≤ sizeLine) (hp : H1 p = none) (hz : zs.length = xs.length)
  (he : ∀ (i : Nat) (x z : V),xs[i]? = some x -> zs[i]? = some z -> ∀ (H' : Hp) (T : VK),Same H1 H' -> (∀ H'',Same H' H'' -> T z H'') -> te (some x :: fv) H' T)
  (hQ : ∀ H',Same H1 H' -> H' p = some (.lst zs) -> Q (.ref p) H') : CompI (Itl K a) p fv tYes te Q H1 := by
 refine ⟨fun i m ys H2 => m = xs.length - i ∧ i ≤ xs.length ∧ ys = zs.take i ∧ H2 p = some (.lst ys) ∧ Same H1 H2,⟨xs.length,by simp,Nat.zero_le _,by simp,aqm,fun b o e => by rw [aqt (aqo e hp)]; exact e⟩,?_⟩
 rintro i m ys H2 ⟨rfl,hi,rfl,hp2,sm⟩
 refine ⟨hp2,?_⟩
 have q := sm.seq hxs
 by_cases hlt : i < xs.length
 ·refine .inr ⟨⟨xs,xs[i],q,by simp [hlt]⟩,?_,fun x H3 y => ?_⟩
  ·rw [List.length_take]; omega
  ·obtain ⟨rfl,y⟩ := y
   have hc := y xs q
   have hzi : zs[i]? = some zs[i] := List.getElem?_eq_getElem (by omega)
   unfold tYes
   dsimp only
   rw [if_pos rfl]
   refine he i x _ hc hzi _ _ sm fun H5 s5 => ⟨s5 _ _ hp2,xs.length - (i + 1),by omega,rfl,hlt,?_,aqm,fun b o e => ?_⟩
   ·rw [List.take_add_one,hzi]; rfl
   ·rw [aqt (aqo e hp)]; exact s5 _ _ (sm _ _ e)
 ·have e : i = xs.length := by omega
  subst e
  refine .inl ⟨⟨xs,q,Nat.le_refl _⟩,hQ H2 sm ?_⟩
  rw [hp2,<- hz,List.take_length]
variable {σ : St} {H : Hp} {tl : TE} {tt : TT} {fr : List Nat} {g : TG} {tb : TS} {D : Ends}
theorem qqC : (tComp (iTup K tl) fr tt te σ H Q) = (tl σ H fun x H1 => ∃ a,x = .ref a ∧ (∃ xs,SqT K H1 a xs) ∧ ∀ p,H1 p = none -> CompI (Itt K a) p (frV σ fr) tt te Q H1) := rfl
theorem rqL : (tFor (iTup K te) g tb D σ H) = (te σ H fun x H1 => ∃ a,x = .ref a ∧ (∃ xs,SqT K H1 a xs) ∧ LoopI (Itt K a) g tb D σ H1) := rfl
theorem qqE {a : Addr} {xs : List V} (Pv : Nat -> St -> Hp -> Prop) (h0 : Pv 0 σ H) (hl : ∀ i σ H,i ≤ xs.length -> Pv i σ H -> SqT K H a xs)
  (hs : ∀ i x σ H,xs[i]? = some x -> Pv i σ H -> g x σ H fun σ2 H2 => tb { D with nx := Pv (i + 1),ct := Pv (i + 1),bk := D.nx } σ2 H2) (hd : ∀ σ H,Pv xs.length σ H -> D.nx σ H) : LoopI (Itt K a) g tb D σ H := rqR Pv h0 hl hs hd
theorem lq9 {a : Addr} : rAllB K [.ref a] H Q ↔ ∃ bs : List Bool,SqL K H a (bs.map V.bl) ∧ Q (.bl (bs.all id)) H := by
 constructor
 ·rintro ⟨p,bs,h1,h2⟩; cases h1; exact ⟨bs,h2⟩
 ·rintro ⟨bs,h⟩; exact ⟨a,bs,rfl,h⟩
theorem sqz {a : Addr} : rAnyB K [.ref a] H Q ↔ ∃ bs : List Bool,SqL K H a (bs.map V.bl) ∧ Q (.bl (bs.any id)) H := by
 constructor
 ·rintro ⟨p,bs,h1,h2⟩; cases h1; exact ⟨bs,h2⟩
 ·rintro ⟨bs,h⟩; exact ⟨a,bs,rfl,h⟩
theorem tqP {a : Addr} : rListU K [.ref a] H Q ↔ ∃ ys,(SqL K H a ys ∨ SqT K H a ys) ∧ ∀ l,H l = none -> Q (.ref l) (upd H l (.lst ys)) := by
 constructor
 ·rintro ⟨p,bs,h1,h2⟩; cases h1; exact ⟨bs,h2⟩
 ·rintro ⟨bs,h⟩; exact ⟨a,bs,rfl,h⟩
theorem tqC {a : Addr} : rTupleU K [.ref a] H Q ↔ ∃ ys,(SqL K H a ys ∧ ∀ l,H l = none -> Q (.ref l) (upd H l (.tup ys))) ∨ (SqT K H a ys ∧ Q (.ref a) H) := by
 constructor
 ·rintro ⟨p,bs,h1,h2⟩; cases h1; exact ⟨bs,h2⟩
 ·rintro ⟨bs,h⟩; exact ⟨a,bs,rfl,h⟩
theorem rqN {a : Addr} {lo hi : Option Int} : rSlT K (.ref a) lo hi H Q ↔ ∃ xs,SqT K H a xs ∧ ¬ (HT.sIx xs.length 0 lo = 0 ∧ HT.sIx xs.length xs.length hi = xs.length) ∧ ∀ p,H p = none -> Q (.ref p) (upd H p (.tup (cutV xs lo hi))) := by
 constructor
 ·rintro ⟨p,bs,h1,h2⟩; cases h1; exact ⟨bs,h2⟩
 ·rintro ⟨bs,h⟩; exact ⟨a,bs,rfl,h⟩
end
def tCut (t u : TS) : TS := fun D σ H => ∃ P : St -> Hp -> Prop,t { D with nx := P } σ H ∧ ∀ σ' H',P σ' H' -> u D σ' H'
section
variable {X : Cx} {st : Stmt} {rest : List Stmt} {t u : TS}
theorem bqh (h1 : PS X st t) (h2 : PSs X rest u) : PSs X (st :: rest) (tCut t u) := by
 intro pins s σ H D I h
 obtain ⟨P,h,hu⟩ := h
 refine wpAny_execs_cons (thn (h1 pins s σ H { D with nx := P } I h) fun f s1 q => ?_)
 cases f with
 | next =>
  obtain ⟨σ',H',I',q⟩ := q
  exact h2 pins s1 σ' H' D I' (hu _ _ q)
 | ret v => exact q
 | brk => exact q
 | cont => exact q
def Later (u : TS) (D : Ends) (σ : St) (H : Hp) : Prop := u D σ H
theorem qqX {D : Ends} {x : Option V} {σ : St} {H : Hp} : (Later u D (x :: σ) H) = (u D (x :: σ) H) := rfl
theorem tqK {D : Ends} {σ : St} {H : Hp} : (tCut t u D σ H) = (∃ P : St -> Hp -> Prop,t { D with nx := P } σ H ∧ ∀ σ' H',P σ' H' -> Later u D σ' H') := rfl
end
theorem aq0 {H : Hp} {p : Addr} {o : HO} (hp : H p = none) : Same H (upd H p o) := fun b u e => by rw [aqt (aqo e hp)]; exact e
def tTupS (t : TA) : TE := fun σ H Q => t σ H fun xs H1 => xs.length ≤ sizeLine ∧ ∀ p H',H1 p = none -> Same H1 H' -> H' p = some (.tup xs) -> Q (.ref p) H'
def tLstS (t : TA) : TE := fun σ H Q => t σ H fun xs H1 => xs.length ≤ sizeLine ∧ ∀ p H',H1 p = none -> Same H1 H' -> H' p = some (.lst xs) -> Q (.ref p) H'
section
variable {X : Cx} {es : List Expr} {t : TA} {pos : Pos} {K : PySem.W.Frag}
theorem aqY {x1} (h : PA X es t) : PE X (.Tuple es x1 pos) (tTupS t) := by
 intro pins s σ H Q I hq
 refine wpAny_Tuple_spliced (thn (h pos pins s σ H _ I hq) fun us s1 ⟨xs,H1,I1,r,z,q⟩ => ⟨by rw [<- r.length]; exact z,?_⟩)
 have hf : H1 s1.heap.objs.size = none := I1.hok.fresh (Nat.le_refl _)
 refine ⟨.ref s1.heap.objs.size,upd H1 s1.heap.objs.size (.tup xs),I1.laid (t' := s1.toks) (fun b u e => Heap.get?_push_of_some _ e) (Nat.le_refl _) ?_,rfl,q _ _ hf (aq0 hf) aqm⟩
 exact ⟨z,us,r,⟨_,Heap.get?_push_size _ rfl,rfl,_,rfl⟩⟩
theorem aqS (h : PA X es t) : PE X (.List es pos) (tLstS t) := by
 intro pins s σ H Q I hq
 refine wpAny_List_spliced (thn (h pos pins s σ H _ I hq) fun us s1 ⟨xs,H1,I1,r,z,q⟩ => ⟨by rw [<- r.length]; exact z,?_⟩)
 have hf : H1 s1.heap.objs.size = none := I1.hok.fresh (Nat.le_refl _)
 refine ⟨.ref s1.heap.objs.size,upd H1 s1.heap.objs.size (.lst xs),I1.laid (t' := s1.toks) (fun b u e => Heap.get?_push_of_some _ e) (Nat.le_refl _) ?_,rfl,q _ _ hf (aq0 hf) aqm⟩
 exact ⟨z,us,0,r,Heap.get?_push_size _ rfl⟩
def rAddS (K : PySem.W.Frag) : R2 := fun x y H Q => match x,y with
 | .int i,.int j => Q (.int (i + j)) H
 | .str i,.str j => i.length + j.length ≤ sizeLine ∧ Q (.str (i ++ j)) H
 | .ref a,.ref b => (∃ xs zs,H a = some (.lst xs) ∧ H b = some (.lst zs) ∧ xs.length + zs.length ≤ sizeLine ∧ ∀ p H',H p = none -> Same H H' -> H' p = some (.lst (xs ++ zs)) -> Q (.ref p) H') ∨
   (∃ xs ys,H a = some (.tup xs) ∧ H b = some (.tup ys) ∧ xs.length + ys.length ≤ sizeLine ∧ ∀ p H',Same H H' -> H' p = some (.tup (xs ++ ys)) -> Q (.ref p) H')
 | _,_ => False
theorem aqz : OpR X (binaryOp .Add) (rAddS K) := by
 intro pins s σ H x y v u Q I rx ry h
 refine pqw pins s σ H x y v u Q I rx ry ?_
 cases x with
 | int i =>
  cases y with
  | int j => exact h
  | _ => exact h.elim
 | str i =>
  cases y with
  | str j => exact h
  | _ => exact h.elim
 | ref a =>
  cases y with
  | ref b =>
   rcases h with ⟨xs,zs,h1,h2,h3,h4⟩ | h
   ·exact .inl ⟨xs,zs,h1,h2,h3,fun p hp => h4 p _ hp (aq0 hp) aqm⟩
   ·exact .inr h
  | _ => exact h.elim
 | _ => exact h.elim
def rListS (K : PySem.W.Frag) : List V -> Hp -> VK -> Prop := fun xs H Q => ∃ p ys,xs = [.ref p] ∧ (SqL K H p ys ∨ SqT K H p ys) ∧ ∀ l H',H l = none -> Same H H' -> H' l = some (.lst ys) -> Q (.ref l) H'
def rTupleS (K : PySem.W.Frag) : List V -> Hp -> VK -> Prop := fun xs H Q => ∃ p ys,xs = [.ref p] ∧ (SqL K H p ys ∨ H p = some (.tup ys)) ∧ ∀ l H',Same H H' -> H' l = some (.tup ys) -> Q (.ref l) H'
theorem hqT (h : X.K = K) : CallR X (.type "list") (rListS K) := by
 subst h
 intro pins s σ H xs us Q I r h
 obtain ⟨p,ys,h1,h2,h3⟩ := h
 exact lqW pins s σ H xs us Q I r ⟨p,ys,h1,h2,fun l hl => h3 l _ hl (aq0 hl) aqm⟩
theorem bqQ (h : X.K = K) : CallR X (.type "tuple") (rTupleS K) := by
 subst h
 intro pins s σ H xs us Q I r h
 obtain ⟨p,ys,h1,h2,h3⟩ := h
 rcases h2 with h2 | h2
 ·exact gqW pins s σ H xs us Q I r ⟨p,ys,h1,.inl ⟨h2,fun l hl => h3 l _ (aq0 hl) aqm⟩⟩
 ·exact gqW pins s σ H xs us Q I r ⟨p,ys,h1,.inr ⟨SqT.of h2,h3 p H (Same.refl _) h2⟩⟩
def rSlS2 (K : PySem.W.Frag) : V -> Option Int -> Option Int -> Hp -> VK -> Prop := fun x lo hi H Q => ∃ a xs,x = .ref a ∧ SqT K H a xs ∧
 ¬ (HT.sIx xs.length 0 lo = 0 ∧ HT.sIx xs.length xs.length hi = xs.length) ∧ ∀ p H',H p = none -> Same H H' -> H' p = some (.tup (cutV xs lo hi)) -> Q (.ref p) H'
end
section
variable {σ : St} {H : Hp} {Q : VK} {K : PySem.W.Frag} {aa : TA}
theorem rqO : (tTupS aa σ H Q) = (aa σ H fun xs H1 => xs.length ≤ sizeLine ∧ ∀ p H',H1 p = none -> Same H1 H' -> H' p = some (.tup xs) -> Q (.ref p) H') := rfl
theorem sqF : (tLstS aa σ H Q) = (aa σ H fun xs H1 => xs.length ≤ sizeLine ∧ ∀ p H',H1 p = none -> Same H1 H' -> H' p = some (.lst xs) -> Q (.ref p) H') := rfl
theorem pqS {i j : Int} : (rAddS K (.int i) (.int j) H Q) = (Q (.int (i + j)) H) := rfl
theorem gqG {i j : Str} : (rAddS K (.str i) (.str j) H Q) = (i.length + j.length ≤ sizeLine ∧ Q (.str (i ++ j)) H) := rfl
theorem rqY {a : Addr} : rListS K [.ref a] H Q ↔ ∃ ys,(SqL K H a ys ∨ SqT K H a ys) ∧ ∀ l H',H l = none -> Same H H' -> H' l = some (.lst ys) -> Q (.ref l) H' := by
 constructor
 ·rintro ⟨p,bs,h1,h2⟩; cases h1; exact ⟨bs,h2⟩
 ·rintro ⟨bs,h⟩; exact ⟨a,bs,rfl,h⟩
theorem sqA {a : Addr} : rTupleS K [.ref a] H Q ↔ ∃ ys,(SqL K H a ys ∨ H a = some (.tup ys)) ∧ ∀ l H',Same H H' -> H' l = some (.tup ys) -> Q (.ref l) H' := by
 constructor
 ·rintro ⟨p,bs,h1,h2⟩; cases h1; exact ⟨bs,h2⟩
 ·rintro ⟨bs,h⟩; exact ⟨a,bs,rfl,h⟩
theorem rqD {a : Addr} {lo hi : Option Int} : rSlS2 K (.ref a) lo hi H Q ↔ ∃ xs,SqT K H a xs ∧ ¬ (HT.sIx xs.length 0 lo = 0 ∧ HT.sIx xs.length xs.length hi = xs.length) ∧ ∀ p H',H p = none -> Same H H' -> H' p = some (.tup (cutV xs lo hi)) -> Q (.ref p) H' := by
 constructor
 ·rintro ⟨p,bs,h1,h2⟩; cases h1; exact ⟨bs,h2⟩
 ·rintro ⟨bs,h⟩; exact ⟨a,bs,rfl,h⟩
end
def rSlLS (K : PySem.W.Frag) : V -> Option Int -> Option Int -> Hp -> VK -> Prop := fun x lo hi H Q => ∃ a xs,x = .ref a ∧ SqL K H a xs ∧ ∀ p H',H p = none -> Same H H' -> H' p = some (.lst (cutV xs lo hi)) -> Q (.ref p) H'
theorem gqd {X : Cx} {K : PySem.W.Frag} (h : X.K = K) : SlR X (rSlLS K) := by
 subst h
 intro pins s σ H x v vl vu lo hi sl Q I rx hs pl pu h
 obtain ⟨a,xs,h1,h2,h3⟩ := h
 exact oqY pins s σ H x v vl vu lo hi sl Q I rx hs pl pu ⟨a,xs,h1,h2,fun p hp => h3 p _ hp (aq0 hp) aqm⟩
theorem qqI {K : PySem.W.Frag} {H : Hp} {Q : VK} {a : Addr} {lo hi : Option Int} : rSlLS K (.ref a) lo hi H Q ↔ ∃ xs,SqL K H a xs ∧ ∀ p H',H p = none -> Same H H' -> H' p = some (.lst (cutV xs lo hi)) -> Q (.ref p) H' := by
 constructor
 ·rintro ⟨p,bs,h1,h2⟩; cases h1; exact ⟨bs,h2⟩
 ·rintro ⟨bs,h⟩; exact ⟨a,bs,rfl,h⟩
def rIsB (neg : Bool) : R2 := fun x y H Q => match x,y with
 | .bl b,.bl c => Q (.bl (if neg then !decide (b = c) else decide (b = c))) H
 | _,_ => False
theorem uqn {b c : Bool} {H : Hp} {Q : VK} : (rIsB false (.bl b) (.bl c) H Q) = (Q (.bl (decide (b = c))) H) := rfl
end L2
namespace Wm
open PySem L2
def isSg (c : Nat) : Bool := decide (32 ≤ c) && decide (c ≤ 126) && !decide (c = 37)
def SG : List Nat := (List.range 127).filter isSg
def hexd (n : Nat) : Nat := if n < 10 then 48 + n else 87 + n
def fig (a : Nat) : Option Nat := if 48 ≤ a ∧ a ≤ 57 then some (a - 48) else if 97 ≤ a ∧ a ≤ 102 then some (a - 87) else if 65 ≤ a ∧ a ≤ 70 then some (a - 55) else none
abbrev one (c : Nat) : V := .str ⟨#[c]⟩
theorem rqa {c : Nat} : c ∈ SG ↔ isSg c = true := by
 unfold SG
 rw [List.mem_filter,List.mem_range]
 constructor
 ·exact fun h => h.2
 ·intro h
  refine ⟨?_,h⟩
  simp only [isSg,Bool.and_eq_true,decide_eq_true_eq] at h
  omega
theorem rq7 {c : Nat} (h : isSg c = true) : 32 ≤ c ∧ c ≤ 126 ∧ c ≠ 37 := by
 simp only [isSg,Bool.and_eq_true,decide_eq_true_eq,Bool.not_eq_true',decide_eq_false_iff_not] at h
 omega
theorem lqU (l : List Nat) (a : Nat) : ∀ k,((List.range k).map fun j => a + j).filterMap (fun i => l[i]?) = (l.drop a).take k
 | 0 => by simp
 | k + 1 => by
  rw [List.range_succ,List.map_append,List.filterMap_append,lqU l a k,List.take_add_one,List.getElem?_drop]
  simp only [List.map_cons,List.map_nil]
  cases e : l[a + k]? with
  | none => simp [e]
  | some c => simp [e]
def clipI (n : Nat) (v : Int) : Nat := (max 0 (min (if v < 0 then v + n else v) n)).toNat
theorem qqf (a b : Nat) : sliceRange (a : Int) (b : Int) 1 = (List.range (b - a)).map fun j => a + j := by
 unfold sliceRange
 have h1 : (1 : Int) > 0 := by decide
 simp only [h1,if_true,Int.one_mul,Int.ediv_one]
 have e : (if (a : Int) < (b : Int) then (b : Int) - (a : Int) + 1 - 1 else 0).toNat = b - a := by split <;> omega
 rw [e]
 apply List.map_congr_left
 intro j _
 omega
theorem mqG (lo hi : Option Int) (n : Nat) : Builtin.Str.strSliceIndices lo hi 1 n = (List.range ((hi.elim n (clipI n)) - (lo.elim 0 (clipI n)))).map fun j => (lo.elim 0 (clipI n)) + j := by
 unfold Builtin.Str.strSliceIndices
 have h1 : (1 : Int) > 0 := by decide
 simp only [h1,if_true]
 rw [<- qqf]
 congr 1
 ·cases lo with
  | none => rfl
  | some v => simp only [Option.elim_some,clipI]; omega
 ·cases hi with
  | none => rfl
  | some v => simp only [Option.elim_some,clipI]; omega
theorem iqT (l : List Nat) (lo hi : Option Int) : Txt.slice (⟨l.toArray⟩ : Str) lo hi = ⟨((l.drop (lo.elim 0 (clipI l.length))).take ((hi.elim l.length (clipI l.length)) - (lo.elim 0 (clipI l.length)))).toArray⟩ := by
 have hl : (⟨l.toArray⟩ : Str).length = l.length := by simp [Str.length]
 have hb : hi.elim l.length (clipI l.length) ≤ l.length := by
  cases hi with
  | none => exact Nat.le_refl _
  | some v => simp only [Option.elim_some,clipI]; omega
 have hb' : lo.elim 0 (clipI l.length) ≤ l.length := by
  cases lo with
  | none => exact Nat.zero_le _
  | some v => simp only [Option.elim_some,clipI]; omega
 have ef : (fun i : Nat => (⟨l.toArray⟩ : Str).cps[i]?) = fun i => l[i]? := by funext i; simp
 unfold Txt.slice
 rw [hl,mqG,ef]
 split
 ·rename_i h
  simp only [List.length_map,List.length_range,beq_self_eq_true,Bool.true_and,beq_iff_eq] at h
  have e1 : lo.elim 0 (clipI l.length) = 0 := by omega
  have e2 : hi.elim l.length (clipI l.length) = l.length := by omega
  rw [e1,e2]
  simp
 ·rw [lqU l (lo.elim 0 (clipI l.length)) ((hi.elim l.length (clipI l.length)) - (lo.elim 0 (clipI l.length)))]
theorem kqv (n k : Nat) : clipI n (k : Int) = min k n := by unfold clipI; split <;> omega
theorem jq0 (l : List Nat) (k : Nat) : Txt.slice (⟨l.toArray⟩ : Str) (some (k : Int)) none = ⟨(l.drop k).toArray⟩ := by
 rw [iqT]
 simp only [Option.elim_some,Option.elim_none,kqv]
 by_cases h : k ≤ l.length
 ·rw [Nat.min_eq_left h,List.take_of_length_le (by simp)]
 ·rw [Nat.min_eq_right (by omega),List.drop_eq_nil_of_le (Nat.le_refl _),List.drop_eq_nil_of_le (by omega)]
  simp
theorem qqc (l : List Nat) (k : Nat) : Txt.slice (⟨l.toArray⟩ : Str) none (some (k : Int)) = ⟨(l.take k).toArray⟩ := by
 rw [iqT]
 simp only [Option.elim_some,Option.elim_none,kqv,List.drop_zero,Nat.sub_zero]
 by_cases h : k ≤ l.length
 ·rw [Nat.min_eq_left h]
 ·rw [Nat.min_eq_right (by omega),List.take_length,List.take_of_length_le (by omega)]
theorem oqF (l : List Nat) (i j : Nat) : Txt.slice (⟨l.toArray⟩ : Str) (some (i : Int)) (some (j : Int)) = ⟨((l.drop i).take (j - i)).toArray⟩ := by
 rw [iqT]
 simp only [Option.elim_some,kqv]
 by_cases h : i ≤ l.length
 ·rw [Nat.min_eq_left h]
  by_cases h2 : j ≤ l.length
  ·rw [Nat.min_eq_left h2]
  ·rw [Nat.min_eq_right (by omega : l.length ≤ j),List.take_of_length_le (by simp),List.take_of_length_le (by simp; omega)]
 ·rw [Nat.min_eq_right (by omega : l.length ≤ i),List.drop_eq_nil_of_le (Nat.le_refl _),List.drop_eq_nil_of_le (by omega)]
  simp
theorem tqB : Str.ofString "" = ⟨([] : List Nat).toArray⟩ := by decide +kernel
theorem fqh (l m : List Nat) : ((⟨l.toArray⟩ : Str) ++ (⟨m.toArray⟩ : Str)) = ⟨(l ++ m).toArray⟩ := by
 show Str.mk (l.toArray ++ m.toArray) = _
 simp
theorem cqt {l m : List Nat} : ((⟨l.toArray⟩ : Str) = ⟨m.toArray⟩) ↔ l = m := by
 constructor
 ·intro h; injection h with h; injection h
 ·rintro rfl; rfl
theorem bqn (l : List Nat) : (⟨l.toArray⟩ : Str).length = l.length := by simp [Str.length]
theorem qqq : Str.ofString "~" = ⟨[126].toArray⟩ := by decide +kernel
theorem rq4 (l : List Nat) : Txt.slice (⟨l.toArray⟩ : Str) (some 1) none = ⟨(l.drop 1).toArray⟩ := jq0 l 1
theorem pqE (l : List Nat) (m k : Int) (h0 : 0 < k) (h : k ≤ l.length) : ∃ a,a ∈ l ∧ atI l (m % k) = some a := by
 have h1 := Int.emod_nonneg m (show k ≠ 0 by omega)
 have h2 := Int.emod_lt_of_pos m h0
 have h3 : (m % k).toNat < l.length := by omega
 refine ⟨l[(m % k).toNat],List.getElem_mem _,?_⟩
 have := aqj (xs := l) (j := (m % k).toNat) (v := l[(m % k).toNat]) (by simp [h3])
 rw [Int.toNat_of_nonneg h1] at this
 exact this
def isPl (c : Nat) : Bool := decide (48 ≤ c ∧ c ≤ 57) || decide (65 ≤ c ∧ c ≤ 90) || decide (97 ≤ c ∧ c ≤ 122) || decide (c = 45) || decide (c = 46) || decide (c = 95)
def wr1 (c : Nat) : List Nat := if isPl c then [c] else [126,hexd (c / 16),hexd (c % 16)]
def wr (l : List Nat) : List Nat := l.flatMap wr1
def sgO (a b : Nat) : Option Nat := match fig a,fig b with
 | some h,some l => if isSg (h * 16 + l) then some (h * 16 + l) else none
 | _,_ => none
theorem sqJ {ns : List Int} {k : Nat} (h : k < ns.length) : atI (ns.map V.int) (k : Int) = some (.int (ns.getD k 0)) := by
 refine aqj ?_
 rw [List.getElem?_map,List.getElem?_eq_getElem h,List.getD_eq_getElem?_getD,List.getElem?_eq_getElem h]
 rfl
theorem aqn {n : Nat} (h : n ≤ 100000) : n ≤ sizeLine := Nat.le_trans h (by decide)
theorem rqx (f : Nat -> Nat) (l : List Nat) : (l.toArray).map f = (l.map f).toArray := by simp
theorem rqU (l : List Nat) : (⟨l.toArray⟩ : Str).cps.toList = l := rfl
theorem sqv (xs : List V) (m k : Int) (h0 : 0 < k) (h : k ≤ xs.length) : ∃ a,a ∈ xs ∧ atI xs (m % k) = some a := by
 have h1 := Int.emod_nonneg m (show k ≠ 0 by omega)
 have h2 := Int.emod_lt_of_pos m h0
 have h3 : (m % k).toNat < xs.length := by omega
 refine ⟨xs[(m % k).toNat],List.getElem_mem _,?_⟩
 have := aqj (xs := xs) (j := (m % k).toNat) (v := xs[(m % k).toNat]) (by simp [h3])
 rw [Int.toNat_of_nonneg h1] at this
 exact this
def hit (a b c : Nat) : Bool := decide ([hexd (c / 16),hexd (c % 16)] = [PyProof.Rows.lo1 a,PyProof.Rows.lo1 b])
mutual
def smallD : PyData -> Bool
 | .str x => decide (x.length ≤ 100000)
 | .list xs => decide (xs.length ≤ 100000) && smallAll xs
 | .tuple xs => decide (xs.length ≤ 100000) && smallAll xs
 | .dict _ => false
 | .none => true
 | .bool _ => true
 | .int _ => true
def smallAll : List PyData -> Bool
 | [] => true
 | d :: ds => smallD d && smallAll ds
end
theorem hq6 : ∀ {ds : List PyData} {d : PyData},smallAll ds = true -> d ∈ ds -> smallD d = true
 | e :: ds,d,h,hm => by
  simp only [smallAll,Bool.and_eq_true] at h
  rcases List.mem_cons.mp hm with rfl | hm
  ·exact h.1
  ·exact hq6 h.2 hm
theorem jqn : ∀ {ds : List PyData},(∀ d ∈ ds,smallD d = true) -> smallAll ds = true
 | [],_ => rfl
 | d :: ds,h => by
  simp only [smallAll,Bool.and_eq_true]
  exact ⟨h d List.mem_cons_self,jqn fun e he => h e (List.mem_cons_of_mem _ he)⟩
theorem fqJ {x : Str} (h : smallD (.str x) = true) : x.length ≤ 100000 := by simpa [smallD] using h
theorem kq7 {ds : List PyData} (h : ds.length ≤ 100000) (h2 : smallAll ds = true) : smallD (.list ds) = true := by simp [smallD,h,h2]
def isLet (c : Nat) : Bool := decide (65 ≤ c ∧ c ≤ 90) || decide (97 ≤ c ∧ c ≤ 122)
def isAln (c : Nat) : Bool := isLet c || decide (48 ≤ c ∧ c ≤ 57)
theorem tqH : (Str.ofString " !\"#$&'()*+,-./0123456789:;<=>?@ABCDEFGHIJKLMNOPQRSTUVWXYZ[\\]^_`abcdefghijklmnopqrstuvwxyz{|}~").cps.toList = SG := by decide +kernel
theorem tqE (c : Nat) : (decide (c ∈ (Str.ofString " !\"#$&'()*+,-./0123456789:;<=>?@ABCDEFGHIJKLMNOPQRSTUVWXYZ[\\]^_`abcdefghijklmnopqrstuvwxyz{|}~").cps.toList)) = isSg c := by
 rw [tqH,Bool.eq_iff_iff,decide_eq_true_eq,rqa]
def tx : PyData -> Bool
 | .str x => x.cps.toList.all isSg
 | _ => false
def ftx : PyData -> Bool
 | .str x => x.cps.toList.all isSg && decide (0 < x.length)
 | _ => false
abbrev st (l : List Nat) : PyData := .str ⟨l.toArray⟩
def oD : Option (List Nat) -> PyData
 | none => .none
 | some l => st l
def otV : Option (List Nat) -> V
 | none => .non
 | some l => .str ⟨l.toArray⟩
def iD : Option Int -> PyData
 | none => .none
 | some i => .int i
def qD : Option (List (List Nat × Option (List Nat))) -> PyData
 | none => .none
 | some ps => .tuple (ps.map fun p => .tuple [st p.1,oD p.2])
structure Ad where
 scheme : List Nat
 house : Option (List Nat)
 door : Option Int
 rooted : Bool
 steps : List (List Nat)
 ends : Bool
 quest : Option (List (List Nat × Option (List Nat)))
 mark : Option (List Nat)
def Ad.way (x : Ad) : PyData := .tuple [.bool x.rooted,.tuple (x.steps.map st),.bool x.ends]
def Ad.data (x : Ad) : PyData := .tuple [st x.scheme,oD x.house,iD x.door,x.way,qD x.quest,oD x.mark]
def Tx (n : Nat) (l : List Nat) : Prop := l.length ≤ n ∧ ∀ c ∈ l,isSg c = true
structure Ad.Ok (x : Ad) : Prop where
 sch : x.scheme.length ≤ 8 ∧ (∀ c ∈ x.scheme,isAln c = true) ∧ ∀ c ∈ x.scheme.take 1,isLet c = true
 hou : ∀ l,x.house = some l -> 0 < l.length ∧ Tx 60 l
 doo : ∀ i,x.door = some i -> (0 ≤ i ∧ i ≤ 65535) ∧ x.house ≠ none
 stp : x.steps.length ≤ 50 ∧ ∀ l ∈ x.steps,0 < l.length ∧ Tx 60 l
 roo : x.scheme ≠ [] ∨ x.house ≠ none -> x.rooted = true
 end_ : x.steps = [] -> x.ends = x.rooted
 que : ∀ ps,x.quest = some ps -> ps.length ≤ 20 ∧ ∀ p ∈ ps,(0 < p.1.length ∧ Tx 6 p.1) ∧ ∀ v,p.2 = some v -> Tx 6 v
 mar : ∀ l,x.mark = some l -> Tx 60 l
theorem pqC (l : List Nat) : (⟨l.toArray⟩ : Str).length = l.length := bqn l
theorem tqc {l : List Nat} : ((⟨l.toArray⟩ : Str) = ⟨#[]⟩) ↔ l = [] := cqt (m := [])
def Bad (f : PyData -> Bool) (H : Hp) (v : V) : Prop := ∃ d,Is H d v ∧ smallD d = true ∧ f d = false
def Bads (f : PyData -> Bool) (H : Hp) (vs : List V) : Prop := ∀ v ∈ vs,Bad f H v
theorem Bads.cons {f : PyData -> Bool} {H : Hp} {v : V} {vs : List V} (h : Bad f H v) (r : Bads f H vs) : Bads f H (v :: vs) := fun w hw => by
 rcases List.mem_cons.mp hw with rfl | hw
 ·exact h
 ·exact r w hw
theorem lqD {q : Addr} {H H' : Hp} {o : HO} (hq : H q = none) (sm : Same H H') : Same H (upd H' q o) := fun b u e => by
 rw [aqt (aqo e hq)]; exact sm _ _ e
def dg (i : Int) : List Nat := (Str.ofString (toString i)).cps.toList
theorem tqG {i : Int} (hi : 0 ≤ i) : ∀ c ∈ dg i,48 ≤ c ∧ c ≤ 57 := by
 intro c hc
 obtain ⟨n,rfl⟩ := Int.eq_ofNat_of_zero_le hi
 unfold dg at hc
 rw [PySem.W.KIN.signs_num,List.mem_map] at hc
 obtain ⟨d,hd,rfl⟩ := hc
 have := Nat.isDigit_of_mem_toDigits (by decide) (by decide) hd
 simp only [Char.isDigit,Bool.and_eq_true,decide_eq_true_eq] at this
 exact ⟨this.1,this.2⟩
def Hd (p : Nat -> Bool) (r : List Nat) : Prop := ∀ c r',r = c :: r' -> p c = true
theorem Hd.cons {p : Nat -> Bool} {c : Nat} {r : List Nat} (h : p c = true) : Hd p (c :: r) := fun d r' e => by injection e with e; exact e ▸ h
def tlT (sep : Nat) : List (List Nat) -> List Nat
 | [] => []
 | s :: r => sep :: (s ++ tlT sep r)
def joinT (sep : Nat) : List (List Nat) -> List Nat
 | [] => []
 | s :: r => s ++ tlT sep r
def oT (sep : Nat) : Option (List Nat) -> List Nat
 | none => []
 | some l => sep :: wr l
def pairT (p : List Nat × Option (List Nat)) : List Nat := wr p.1 ++ oT 61 p.2
def queT : Option (List (List Nat × Option (List Nat))) -> List Nat
 | none => []
 | some ps => 63 :: joinT 38 (ps.map pairT)
def wayT (r : Bool) (ss : List (List Nat)) (e : Bool) : List Nat := (if r then [47] else []) ++ (joinT 47 (ss.map wr) ++ (if e && !ss.isEmpty then [47] else []))
def dooT : Option Int -> List Nat
 | none => []
 | some i => 58 :: dg i
def houT : Option (List Nat) -> List Nat
 | none => []
 | some l => 47 :: 47 :: wr l
def schT (s : List Nat) : List Nat := if s = [] then [] else s ++ [58]
def Ad.wayT (x : Ad) : List Nat := Wm.wayT x.rooted x.steps x.ends
def Ad.shw (x : Ad) : List Nat := schT x.scheme ++ (houT x.house ++ (dooT x.door ++ (x.wayT ++ (queT x.quest ++ oT 35 x.mark))))
def PairOk (p : List Nat × Option (List Nat)) : Prop := (0 < p.1.length ∧ ∀ c ∈ p.1,isSg c = true) ∧ ∀ v,p.2 = some v -> ∀ c ∈ v,isSg c = true
def StepOk (s : List Nat) : Prop := 0 < s.length ∧ ∀ c ∈ s,isSg c = true
structure Ad.Wf (x : Ad) : Prop where
 sch : x.scheme.length ≤ 8 ∧ (∀ c ∈ x.scheme,isAln c = true) ∧ ∀ c ∈ x.scheme.take 1,isLet c = true
 hou : ∀ l,x.house = some l -> (0 < l.length ∧ l.length ≤ 60) ∧ ∀ c ∈ l,isSg c = true
 doo : ∀ i,x.door = some i -> (0 ≤ i ∧ i ≤ 65535) ∧ x.house ≠ none
 stp : ∀ s ∈ x.steps,StepOk s
 roo : x.scheme ≠ [] ∨ x.house ≠ none -> x.rooted = true
 end_ : x.steps = [] -> x.ends = x.rooted
 que : ∀ ps,x.quest = some ps -> ∀ p ∈ ps,PairOk p
 mar : ∀ l,x.mark = some l -> ∀ c ∈ l,isSg c = true
def Ad.mid (x : Ad) : List Nat := houT x.house ++ (dooT x.door ++ x.wayT)
def Ad.pre (x : Ad) : List Nat := schT x.scheme ++ x.mid
theorem kqb {α : Type} {f : α -> PyData} (hf : ∀ a b,PyData.eqv (f a) (f b) = true ↔ a = b) : ∀ (l m : List α),PyData.eqvAll (l.map f) (m.map f) = true ↔ l = m
 | [],[] => by simp [PyData.eqvAll]
 | [],b :: m => by simp [PyData.eqvAll]
 | a :: l,[] => by simp [PyData.eqvAll]
 | a :: l,b :: m => by
  simp only [List.map_cons,PyData.eqvAll,Bool.and_eq_true,List.cons.injEq]
  rw [hf a b,kqb hf l m]
def LayAt (n : Nat) (d : PyData) : Prop := d.canLay0 = true ∧ d.depth ≤ n
theorem LayAt.shaped {n : Nat} {d : PyData} (h : LayAt n d) (hn : n ≤ 64) : SeqAt.shaped d = true := by
 unfold SeqAt.shaped; rw [h.1,decide_eq_true (Nat.le_trans h.2 hn)]; rfl
theorem LayAt.le {n m : Nat} {d : PyData} (h : LayAt n d) (hn : n ≤ m) : LayAt m d := ⟨h.1,Nat.le_trans h.2 hn⟩
theorem layAll {n : Nat} : ∀ {ds : List PyData},(∀ d ∈ ds,LayAt n d) -> PyData.canLayAll0 ds = true ∧ PyData.depthAll ds ≤ n
 | [],_ => ⟨rfl,Nat.zero_le _⟩
 | d :: ds,h => by
  obtain ⟨h1,h2⟩ := layAll (ds := ds) fun e he => h e (List.mem_cons_of_mem _ he)
  have := h d (List.mem_cons_self ..)
  simp only [PyData.canLayAll0,PyData.depthAll,this.1,h1,Bool.and_self,true_and]
  exact Nat.max_le.mpr ⟨this.2,h2⟩
theorem LayAt.tup {n : Nat} {ds : List PyData} (h : ∀ d ∈ ds,LayAt n d) : LayAt (n + 1) (.tuple ds) := by
 obtain ⟨h1,h2⟩ := layAll h
 exact ⟨by simp only [PyData.canLay0,h1],by simp only [PyData.depth]; omega⟩
theorem LayAt.st {l : List Nat} (h : ∀ c ∈ l,isSg c = true) : LayAt 0 (st l) := by
 refine ⟨?_,Nat.le_refl _⟩
 simp only [PyData.canLay0,PyData.strOk,List.all_toArray,List.all_eq_true,decide_eq_true_eq]
 intro c hc
 have := rq7 (h c hc)
 omega
theorem LayAt.bool {b : Bool} : LayAt 0 (.bool b) := ⟨rfl,Nat.le_refl _⟩
end Wm
namespace Wm
structure Ad.Sz (x : Ad) : Prop where
 stp : ∀ s ∈ x.steps,s.length ≤ 2000
 que : ∀ ps,x.quest = some ps -> ps.length ≤ 2000 ∧ ∀ p ∈ ps,p.1.length ≤ 2000 ∧ ∀ v,p.2 = some v -> v.length ≤ 2000
 mar : ∀ l,x.mark = some l -> l.length ≤ 2000
 num : x.steps.length ≤ 2000
 all : x.shw.length ≤ 90000
end Wm
namespace Wm
open PySem L2
end Wm
namespace L2
open PySem
end L2
namespace Wm
open PySem L2
abbrev Stp := List Nat
def sUp : Stp := [46,46]
def sStay : Stp := [46]
def isDot (s : Stp) : Bool := decide (s = sUp) || decide (s = sStay)
theorem bqR {s : Stp} : isDot s = false ↔ s ≠ sUp ∧ s ≠ sStay := by simp [isDot]
def fwd (r : Bool) (q : Nat × List Stp) (s : Stp) : Nat × List Stp :=
 if s = sUp then (match q.2 with | [] => (if r then q.1 else q.1 + 1,[]) | _ :: t => (q.1,t))
 else if s = sStay then q else (q.1,s :: q.2)
def goneS (r : Bool) (ss : List Stp) : List Stp := List.replicate (ss.foldl (fwd r) (0,[])).1 sUp ++ (ss.foldl (fwd r) (0,[])).2.reverse
def lastDot (ss : List Stp) : Bool := match ss.getLast? with | some s => isDot s | none => false
def goneW (r : Bool) (ss : List Stp) (e : Bool) : Bool × List Stp × Bool :=
 if ss = [] then (r,[],e) else if goneS r ss = [] then (r,if r then [] else [sStay],true) else (r,goneS r ss,e || lastDot ss)
def stk (q : Nat × List Stp) : List Stp := List.replicate q.1 sUp ++ q.2.reverse
end Wm
namespace L2
open PySem PySem.Spec PyProof.Rows HT
section
variable {prog : Program} {w : World} {A : Around} {E : Value -> Shared -> Prop} {s : Shared}
theorem hqi {t sl : Addr} {items : Array Value} {vl vu : Value} {lo hi : Option Int} {Q : Value -> Shared -> Prop} (ht : IsTup s.heap t items) (hs : s.heap.IsSliceOf sl vl vu .none) (pl : IsPart vl lo) (pu : IsPart vu hi)
  (hw : sIx items.size 0 lo = 0 ∧ sIx items.size items.size hi = items.size) (h : Q (.ref t) s) : wpAny (model prog w) A (getItem (.ref t) (.ref sl)) Q E s := by
 obtain ⟨os,hos,hcs,hds⟩ := id hs
 have hTs : s.TypeIs (.ref sl) "slice" := ⟨os,hos,hcs⟩
 unfold getItem
 try with_reducible refine wpAny_holding ?_
 first | refine wpAny_bind (wpAny_pure ?_) | skip
 refine wpAny_bind (wpAny_sequenceKey ht.typeIs (by decide) ?_)
 refine wpAny_bind (wpAny_callSpecial?_slot (name := Str.ofString "__getitem__") ht.typeIs PyProof.Rows.slot_tuple_getitem
  (wpAny_call_entry PyProof.Rows.slot_tuple_getitem ht.typeIs entry_tuple_getitem ?_ (args_tuple_getitem _ _)))
 show wpAny _ _ (Builtin.Tuple.tupleItemsOf (.ref t) >>= _) _ _ s
 refine wpAny_bind (tupleItemsOf_ ht ?_)
 refine wpAny_bind (wpAny_typeOf hTs ?_)
 rw [if_pos (by decide)]
 refine wpAny_bind (fqe hs pl pu ?_)
 show wpAny _ _ (if (((sIx items.size 0 lo : Nat) : Int) == 0 && (1 : Int) == 1 && (sIx items.size items.size hi - sIx items.size 0 lo) == items.size) = true then _ else _) _ _ s
 rw [if_pos (by rw [hw.1,hw.2]; simp)]
 refine wpAny_bind ?_
 show wpAny _ _ (typeOf (.ref t) >>= _) _ _ s
 refine wpAny_bind (wpAny_typeOf ht.typeIs (wpAny_pure ?_))
 rw [if_pos (by decide)]
 exact wpAny_bind (wpAny_rule (wpAny_pure ⟨_,rfl,wpAny_pure h⟩))
end
section
variable {X : Cx} {K : PySem.W.Frag}
def rSlTA : V -> Option Int -> Option Int -> Hp -> VK -> Prop := fun x lo hi H Q => ∃ a xs,x = .ref a ∧ H a = some (.tup xs) ∧ ∀ p H',Same H H' -> H' p = some (.tup (cutV xs lo hi)) -> Q (.ref p) H'
theorem nqS {xs : List V} {lo hi : Option Int} (h : sIx xs.length 0 lo = 0 ∧ sIx xs.length xs.length hi = xs.length) : cutV xs lo hi = xs := by
 unfold cutV
 rw [h.1,h.2,List.drop_zero,Nat.sub_zero,List.take_length]
theorem pqt : SlR X rSlTA := by
 intro pins s σ H x v vl vu lo hi sl Q I rx hs pl pu h
 obtain ⟨a,xs,rfl,hx,q⟩ := h
 by_cases hw : sIx xs.length 0 lo = 0 ∧ sIx xs.length xs.length hi = xs.length
 ·cases rx
  obtain ⟨its,r,ht,hz⟩ := I.tuple (SqT.of hx)
  have hlen : its.toArray.size = xs.length := by rw [List.size_toArray]; exact r.length.symm
  refine ⟨"tuple",_,PyProof.Rows.slot_tuple_getitem.lookup,ht.typeIs,?_⟩
  exact hqi ht hs pl pu (by rw [hlen]; exact hw) ⟨.ref a,H,I,rfl,q a H (Same.refl _) (by rw [nqS hw]; exact hx)⟩
 ·exact tqm pins s σ H _ v vl vu lo hi sl Q I rx hs pl pu ⟨a,xs,rfl,SqT.of hx,hw,fun p hp => q p _ (aq0 hp) aqm⟩
theorem qq4 {a : Addr} {lo hi : Option Int} {H : Hp} {Q : VK} : rSlTA (.ref a) lo hi H Q ↔ ∃ xs,H a = some (.tup xs) ∧ ∀ p H',Same H H' -> H' p = some (.tup (cutV xs lo hi)) -> Q (.ref p) H' := by
 constructor
 ·rintro ⟨p,bs,h1,h2⟩; cases h1; exact ⟨bs,h2⟩
 ·rintro ⟨bs,h⟩; exact ⟨a,bs,rfl,h⟩
end
mutual
inductive IsK (K : PySem.W.Frag) (H : Hp) : PyData -> V -> Prop
 | non : IsK K H .none .non
 | bl (b : Bool) : IsK K H (.bool b) (.bl b)
 | int (i : Int) : IsK K H (.int i) (.int i)
 | str (x : Str) : IsK K H (.str x) (.str x)
 | tup {p : Addr} {xs : List V} {ds : List PyData} : SqT K H p xs -> IsKAll K H ds xs -> IsK K H (.tuple ds) (.ref p)
inductive IsKAll (K : PySem.W.Frag) (H : Hp) : List PyData -> List V -> Prop
 | nil : IsKAll K H [] []
 | cons {d : PyData} {x : V} {ds : List PyData} {xs : List V} : IsK K H d x -> IsKAll K H ds xs -> IsKAll K H (d :: ds) (x :: xs)
end
section
variable {K : PySem.W.Frag} {H H' : Hp}
mutual
theorem IsK.mono (sm : Same H H') : ∀ {d : PyData} {x : V},IsK K H d x -> IsK K H' d x
 | _,_,.non => .non
 | _,_,.bl b => .bl b
 | _,_,.int i => .int i
 | _,_,.str x => .str x
 | _,_,.tup h r => .tup (sm.tup h) (IsKAll.mono sm r)
theorem IsKAll.mono (sm : Same H H') : ∀ {ds : List PyData} {xs : List V},IsKAll K H ds xs -> IsKAll K H' ds xs
 | _,_,.nil => .nil
 | _,_,.cons h r => .cons (IsK.mono sm h) (IsKAll.mono sm r)
end
mutual
theorem IsT.k : ∀ {d : PyData} {x : V},IsT H d x -> IsK K H d x
 | _,_,.non => .non
 | _,_,.bl b => .bl b
 | _,_,.int i => .int i
 | _,_,.str x => .str x
 | _,_,.tup h r => .tup (SqT.of h) (IsTAll.k r)
theorem IsTAll.k : ∀ {ds : List PyData} {xs : List V},IsTAll H ds xs -> IsKAll K H ds xs
 | _,_,.nil => .nil
 | _,_,.cons h r => .cons (IsT.k h) (IsTAll.k r)
end
end
section
variable {X : Cx} {pins : List (Addr × Obj)} {σ : St} {H : Hp} {s : Shared}
mutual
theorem IsK.reads (I : Inv X pins σ H s) : ∀ {d : PyData} {x : V} {v : Value},IsK X.K H d x -> RelV x v -> ∃ as,Reads s.heap v d as
 | _,_,_,.non,r => by cases r; exact ⟨_,.none⟩
 | _,_,_,.bl b,r => by cases r; exact ⟨_,.bool b⟩
 | _,_,_,.int i,r => by obtain ⟨t,rfl⟩ := r; exact ⟨_,.int i t⟩
 | _,_,_,.str x,r => by obtain ⟨t,rfl⟩ := r; exact ⟨_,.str x t⟩
 | _,_,_,.tup h q,r => by
  cases r
  obtain ⟨its,vs,⟨o,e,c,n,dt⟩,_⟩ := I.tuple h
  obtain ⟨as,ra⟩ := IsKAll.reads I q vs
  exact ⟨_,.tuple e c dt (by simpa using ra)⟩
theorem IsKAll.reads (I : Inv X pins σ H s) : ∀ {ds : List PyData} {xs : List V} {vs : List Value},IsKAll X.K H ds xs -> Vals xs vs -> ∃ as,ReadsAll s.heap vs ds as
 | _,_,_,.nil,r => by cases r; exact ⟨_,.nil⟩
 | _,_,_,.cons q t,r => by
  cases r with
  | cons r1 r2 =>
   obtain ⟨as,h1⟩ := IsK.reads I q r1
   obtain ⟨bs,h2⟩ := IsKAll.reads I t r2
   exact ⟨_,.cons h1 h2⟩
end
variable {K : PySem.W.Frag}
def rSlX (K : PySem.W.Frag) : V -> Option Int -> Option Int -> Hp -> VK -> Prop := fun x lo hi H Q => ∃ a xs,x = .ref a ∧ SqT K H a xs ∧ ∀ p H',Same H H' -> SqT K H' p (cutV xs lo hi) -> Q (.ref p) H'
theorem rqV {a : Addr} {lo hi : Option Int} {H : Hp} {Q : VK} : rSlX K (.ref a) lo hi H Q ↔ ∃ xs,SqT K H a xs ∧ ∀ p H',Same H H' -> SqT K H' p (cutV xs lo hi) -> Q (.ref p) H' := by
 constructor
 ·rintro ⟨p,bs,h1,h2⟩; cases h1; exact ⟨bs,h2⟩
 ·rintro ⟨bs,h⟩; exact ⟨a,bs,rfl,h⟩
def rCatX (K : PySem.W.Frag) : R2 := fun x y H Q => ∃ a b xs ys,x = .ref a ∧ y = .ref b ∧ SqT K H a xs ∧ SqT K H b ys ∧ xs.length + ys.length ≤ sizeLine ∧ ∀ p H',Same H H' -> SqT K H' p (xs ++ ys) -> Q (.ref p) H'
theorem qql {a b : Addr} {H : Hp} {Q : VK} : rCatX K (.ref a) (.ref b) H Q ↔ ∃ xs ys,SqT K H a xs ∧ SqT K H b ys ∧ xs.length + ys.length ≤ sizeLine ∧ ∀ p H',Same H H' -> SqT K H' p (xs ++ ys) -> Q (.ref p) H' := by
 constructor
 ·rintro ⟨p,p',xs,ys,h1,h2,h3⟩; cases h1; cases h2; exact ⟨xs,ys,h3⟩
 ·rintro ⟨xs,ys,h⟩; exact ⟨a,b,xs,ys,rfl,rfl,h⟩
def KindK (K : PySem.W.Frag) (H : Hp) (x : V) (k : String) : Prop := kindV x H = some k ∨ ∃ a xs,x = .ref a ∧ SqT K H a xs ∧ k = "tuple"
theorem KindK.tup {K : PySem.W.Frag} {H : Hp} {a : Addr} {xs : List V} (h : SqT K H a xs) : KindK K H (.ref a) "tuple" := .inr ⟨a,xs,rfl,h,rfl⟩
def rIsiX (K : PySem.W.Frag) : List V -> Hp -> VK -> Prop := fun vs H Q => match vs with
 | [x,.ty T] => ∃ k,KindK K H x k ∧ T ∈ ["bool","int","str","list","tuple"] ∧ Q (.bl (subT k T)) H
 | _ => False
theorem pq7 {x : V} {T : String} {H : Hp} {Q : VK} : (rIsiX K [x,.ty T] H Q) = (∃ k,KindK K H x k ∧ T ∈ ["bool","int","str","list","tuple"] ∧ Q (.bl (subT k T)) H) := rfl
end
end L2
namespace Wm
open PySem L2
section
variable {K : PySem.W.Frag} {H : Hp}
end
end Wm
namespace L2
open PySem PySem.Spec PyProof.Rows
def pickV {α : Type} (xs : List α) (lo hi st : Option Int) : List α :=
 (sliceRange (sliceBounds lo hi st xs.length).1 (sliceBounds lo hi st xs.length).2.1 (sliceBounds lo hi st xs.length).2.2).filterMap fun i => xs[i]?
section
variable {X : Cx}
def tSl3 (K : PySem.W.Frag) (te : TE) (tl th ts : TO) : TE := fun σ H Q => te σ H fun x H1 => tl σ H1 fun l H2 => th σ H2 fun u H3 => ts σ H3 fun k H4 =>
 ∃ a xs,x = .ref a ∧ SqL K H4 a xs ∧ k ≠ some 0 ∧ (pickV xs l u k).length ≤ sizeLine ∧ ∀ p,H4 p = none -> Q (.ref p) (upd H4 p (.lst (pickV xs l u k)))
end
theorem sqS {K : PySem.W.Frag} {te : TE} {tl th ts : TO} {σ : St} {H : Hp} {Q : VK} : tSl3 K te tl th ts σ H Q ↔ te σ H fun x H1 => tl σ H1 fun l H2 => th σ H2 fun u H3 => ts σ H3 fun k H4 =>
 ∃ a xs,x = .ref a ∧ SqL K H4 a xs ∧ k ≠ some 0 ∧ (pickV xs l u k).length ≤ sizeLine ∧ ∀ p,H4 p = none -> Q (.ref p) (upd H4 p (.lst (pickV xs l u k))) := Iff.rfl
end L2
namespace Wm
open PySem L2
abbrev Way := Bool × List Stp × Bool
def Ad.w (x : Ad) : Way := (x.rooted,x.steps,x.ends)
def Ad.withWay (x : Ad) (w : Way) : Ad := { x with rooted := w.1,steps := w.2.1,ends := w.2.2 }
def goneV (w : Way) : Way := goneW w.1 w.2.1 w.2.2
def Ad.gone (x : Ad) : Ad := x.withWay (goneV x.w)
theorem tqO {l : Addr} {H : Hp} {Q : VK} : rReverse (.ref l) [] H Q ↔ ∃ xs,H l = some (.lst xs) ∧ Q .non (upd H l (.lst xs.reverse)) :=
 ⟨fun ⟨_,xs,e,_,h,q⟩ => by cases e; exact ⟨xs,h,q⟩,fun ⟨xs,h,q⟩ => ⟨l,xs,rfl,rfl,h,q⟩⟩
abbrev sV (l : List Nat) : V := .str ⟨l.toArray⟩
theorem eqO (ds : List PyData) : PyData.eqv (.list ds) (.list []) = ds.isEmpty := by
 cases ds <;> simp [PyData.eqv,PyData.eqvAll]
theorem kqH {α : Type} {l : List α} {s : α} (g : α -> V) (h : l.getLast? = some s) : atI (l.map g) (-1) = some (g s) := by
 obtain ⟨pre,rfl⟩ := List.getLast?_eq_some_iff.mp h
 have e : ixN ((pre ++ [s]).map g).length (-1) = some pre.length := by
  unfold ixN
  simp
  try omega
 unfold atI
 rw [e]
 simp
end Wm
namespace L2
open PySem
theorem nq9 {X : Cx} {K : PySem.W.Frag} (h : X.K = K) : OpR X (compareOp .In) (rIn K false) := by subst h; exact oqQ
theorem tqd {l : Addr} {H : Hp} {Q : VK} : rPop (.ref l) [] H Q ↔ ∃ xs y,H l = some (.lst xs) ∧ xs[xs.length - 1]? = some y ∧ Q y (upd H l (.lst xs.dropLast)) :=
 ⟨fun ⟨_,xs,y,h1,_,h3,h4,h5⟩ => by cases h1; exact ⟨xs,y,h3,h4,h5⟩,fun ⟨xs,y,h3,h4,h5⟩ => ⟨_,xs,y,rfl,rfl,h3,h4,h5⟩⟩
theorem qqH {D : Ends} {σ : St} {H : Hp} : (tNever D σ H) = (False) := rfl
end L2
namespace Wm
open PySem L2
structure Ad.Tiny (x : Ad) : Prop where
 stp : ∀ s ∈ x.steps,s.length ≤ 9
 que : ∀ ps,x.quest = some ps -> ps.length ≤ 3 ∧ ∀ p ∈ ps,p.1.length ≤ 5 ∧ ∀ v,p.2 = some v -> v.length ≤ 6
 mar : ∀ l,x.mark = some l -> l.length ≤ 7
 hou : ∀ l,x.house = some l -> l.length ≤ 13
end Wm
namespace Wm
end Wm
namespace Wm
open PySem L2
end Wm
namespace L2
open PySem
end L2
namespace Wm
open PySem L2
section
variable {H : Hp}
end
theorem Ad.Wf.local {x : Ad} (h : x.Wf) : ({ x with scheme := [],house := none,door := none } : Ad).Wf :=
 ⟨⟨Nat.zero_le _,(fun c hc => by cases hc),(fun c hc => by cases hc)⟩,(fun l e => by cases e),(fun l e => by cases e),h.stp,(fun z => z.elim (fun y => absurd rfl y) (fun y => absurd rfl y)),h.end_,h.que,h.mar⟩
def Goods (n : Nat) (H : Hp) (vs : List V) : Prop := ∀ v ∈ vs,∃ x : Ad,x.Wf ∧ x.steps.length ≤ n ∧ IsT H x.data v
theorem Goods.cons {n : Nat} {H : Hp} {v : V} {vs : List V} {x : Ad} (h1 : x.Wf) (h2 : x.steps.length ≤ n) (h3 : IsT H x.data v) (h : Goods n H vs) : Goods n H (v :: vs) := fun u hu => by
 rcases List.mem_cons.mp hu with rfl | hu
 ·exact ⟨x,h1,h2,h3⟩
 ·exact h u hu
end Wm
namespace L2
open PySem PySem.Spec PyProof.Rows
theorem uqk {b c : Bool} {H : Hp} {Q : VK} : (rIsB true (.bl b) (.bl c) H Q) = (Q (.bl (!decide (b = c))) H) := rfl
end L2
namespace Wm
open PySem L2
structure GoodAd (n : Nat) (x : Ad) : Prop where
 wf : x.Wf
 ti : x.Tiny
 sc : x.scheme ≠ []
 ln : x.steps.length ≤ n
end Wm
namespace L2
open PySem PySem.Spec PyProof.Rows
section
variable {prog : Program} {w : World} {A : Around} {E : Value -> Shared -> Prop} {s : Shared}
end
def Itv (K : PySem.W.Frag) (a : Addr) (n : Nat) : It :=
 ⟨fun i H => ∃ xs x,SqT K H a xs ∧ xs.length = n ∧ i < n ∧ xs[n - 1 - i]? = some x,fun i H x H' => H' = H ∧ ∀ xs,SqT K H a xs -> xs.length = n -> xs[n - 1 - i]? = some x,fun i _ => n ≤ i⟩
section
variable {X : Cx} {tg : Expr} {K : PySem.W.Frag}
def iRev (K : PySem.W.Frag) (ta : TA) : TI := fun σ H R => ta σ H fun vs H1 => ∃ a xs,vs = [.ref a] ∧ SqT K H1 a xs ∧ R (Itv K a xs.length) H1
variable {σ : St} {H : Hp} {D : Ends} {g : TG} {tb : TS} {aa : TA}
theorem sqg : (tFor (iRev K aa) g tb D σ H) = (aa σ H fun vs H1 => ∃ a xs,vs = [.ref a] ∧ SqT K H1 a xs ∧ LoopI (Itv K a xs.length) g tb D σ H1) := rfl
end
theorem lq2 : fillsNumberSlot (.type "tuple") "mul" = pure false := PySem.fillsNumberSlot_seq (id := "tuple.__mul__") (r := some (.builtin "tuple.__rmul__")) F.slot_tuple_mul.lookup (by decide +kernel) F.slot_tuple_rmul.lookup (by decide +kernel)
theorem lqi : seqRepeat? (.type "tuple") = pure (some (.builtin "tuple.__mul__")) := by
 unfold seqRepeat?
 rw [PySem.seqSlot_of (T := "tuple") (name := "__mul__") (id := "tuple.__mul__") F.slot_tuple_mul.lookup (by decide +kernel),PySem.seqSlot_of (T := "tuple") (name := "__rmul__") (id := "tuple.__rmul__") F.slot_tuple_rmul.lookup (by decide +kernel)]
 rfl
theorem oqR (a : Int) (t : Tok) (l : Addr) (items : Array Value) (n : Nat) (dd : Option Addr) (sl : Array (Option Value)) :
  Meets (Builtin.«int.__rmul__» ⟨[.int a t,.ref l],[]⟩) (fun _ R s => s.heap.get? l = some { cls := .type "tuple",dict := dd,data := .seq items n,slots := sl } ∧ R (.ok (.ret Value.notImplemented)) s) :=
 .of_wp fun prog w A R s h => by
  obtain ⟨hp,g,d,tk,os⟩ := s; obtain ⟨hl,h⟩ := h
  wp_walk; exact ⟨_,rfl,h⟩
theorem sq2 (l : Addr) (items : Array Value) (n : Nat) (dd : Option Addr) (sl : Array (Option Value)) (x : Int) (u : Tok) (h0 : items.isEmpty = false) (h1 : ¬ (decide (x < -(2 ^ 63)) || decide (x ≥ 2 ^ 63)) = true) (h2 : 2 ≤ x) (h3 : ¬ ((items.size : Int) * x > (2 ^ 63 - 1) / 8)) (h4 : (items.size : Int) * x ≤ sizeLine) :
  Meets (Builtin.«tuple.__mul__» ⟨[.ref l,.int x u],[]⟩) (fun _ R s => s.heap.get? l = some { cls := .type "tuple",dict := dd,data := .seq items n,slots := sl } ∧
   R (.ok (.ret (Value.ref s.heap.objs.size))) { s with heap := s.heap.push { cls := Value.type "tuple",data := Data.seq (List.foldl (fun x1 x2 => x1 ++ x2) #[] (List.replicate x.toNat items)) },toks := s.toks }) :=
 .of_wp fun prog w A R s h => by
  obtain ⟨hp,g,d,tk,os⟩ := s; obtain ⟨hl,h⟩ := h
  unfold Builtin.«tuple.__mul__»
  wp_walk
  have hx1 : ¬ (items.isEmpty || x == 1) = true := by rw [h0,Bool.false_or]; intro z; have := eq_of_beq z; omega
  have hx2 : ¬ (decide (x ≤ 0) || items.isEmpty) = true := by rw [h0,Bool.or_false,decide_eq_true_eq]; omega
  have hx3 : ¬ Builtin.Tuple.tupleTooMany ((items.size : Int) * x) = true := by unfold Builtin.Tuple.tupleTooMany; rw [decide_eq_true_eq]; omega
  rw [if_neg h1]
  wp_walk
  rw [if_neg hx1]
  try dsimp only
  rw [if_neg hx2]
  try dsimp only
  rw [if_neg h3]
  try dsimp only
  rw [if_neg hx3]
  refine wpAny_bind (m := Builtin.Tuple.tupleExact _) (wpAny_newObj_type (wpAny_pure ⟨_,rfl,h⟩) ?_)
  show (List.foldl (fun x1 x2 => x1 ++ x2) #[] (List.replicate x.toNat items)).size ≤ sizeLine
  have e : List.foldl (fun x1 x2 => x1 ++ x2) #[] (List.replicate x.toNat items.toList.toArray) = (List.replicate x.toNat items.toList).flatten.toArray := by
   have := gq5 items.toList x.toNat []
   rw [List.nil_append] at this
   exact this
  rw [show items.toList.toArray = items by simp] at e
  rw [e,List.size_toArray,mqh,Array.length_toList]
  have : (items.size : Int) * x = ((x.toNat * items.size : Nat) : Int) := by rw [Int.natCast_mul,Int.toNat_of_nonneg (by omega),Int.mul_comm]
  omega
section
variable {X : Cx}
def rRepT : R2 := fun x y H Q => ∃ a k xs,x = .ref a ∧ y = .int k ∧ H a = some (.tup xs) ∧ 2 ≤ k ∧ k < 1000 ∧ xs.length * k.toNat ≤ sizeLine ∧ ∀ p H',Same H H' -> H' p = some (.tup (List.replicate k.toNat xs).flatten) -> Q (.ref p) H'
theorem oqb (l : Addr) (items : Array Value) (n : Nat) (dd : Option Addr) (sl : Array (Option Value)) (x : Int) (u : Tok) (h0 : items.isEmpty = true) (h1 : ¬ (decide (x < -(2 ^ 63)) || decide (x ≥ 2 ^ 63)) = true) :
  Meets (Builtin.«tuple.__mul__» ⟨[.ref l,.int x u],[]⟩) (fun _ R s => s.heap.get? l = some { cls := .type "tuple",dict := dd,data := .seq items n,slots := sl } ∧ R (.ok (.ret (Value.ref l))) s) :=
 .of_wp fun prog w A R s h => by
  obtain ⟨hp,g,d,tk,os⟩ := s; obtain ⟨hl,h⟩ := h
  unfold Builtin.«tuple.__mul__»
  have hx1 : (items.isEmpty || x == 1) = true := by rw [h0,Bool.true_or]
  wp_walk
  rw [if_neg h1]
  wp_walk
  exact ⟨_,rfl,h⟩
theorem rqQ : OpR X (binaryOp .Mult) rRepT := by
 intro pins s σ H x y v u Q I rx ry h
 obtain ⟨a,k,xs,rfl,rfl,hH,h1,h2,hz,q⟩ := h
 cases rx
 obtain ⟨t,rfl⟩ := ry
 obtain ⟨its,r,p,hl⟩ := I.tuple (SqT.of hH)
 obtain ⟨⟨cls,dd,data,sl⟩,ho,hc,n,hd⟩ := id p
 simp only at hc hd
 subst hc hd
 have hlen := r.length
 have hb : ¬ (decide (k < -(2 ^ 63)) || decide (k ≥ 2 ^ 63)) = true := by
  rw [Bool.or_eq_true,decide_eq_true_eq,decide_eq_true_eq]; omega
 have hprod : ((its.toArray.size : Nat) : Int) * k ≤ sizeLine := by
  rw [List.size_toArray,<- hlen]
  have : (xs.length : Int) * k = ((xs.length * k.toNat : Nat) : Int) := by rw [Int.natCast_mul,Int.toNat_of_nonneg (by omega)]
  omega
 refine wpAny_binaryOp_repeat_ref (T := "tuple") (U := "int") (by decide) p.typeIs (fun s' => typeIs_int s' k t) lq2 F.fills_int_mul F.slot_int_rmul lqi F.slot_int_index.lookup
  (call_meets F.slot_int_rmul (typeIs_int s k t) F.entry_int_rmul (F.args_int_rmul_2 _ _) (oqR k t a its.toArray n dd sl) ⟨ho,rfl,p.typeIs,?_⟩)
 by_cases he : its = []
 ·subst he
  have hx0 : xs = [] := r.nil_iff.mp rfl
  subst hx0
  exact call_meets F.slot_tuple_mul p.typeIs F.entry_tuple_mul (F.args_tuple_mul_2 _ _) (oqb a _ n dd sl k t rfl hb) ⟨ho,.ref a,H,I,rfl,q a H (Same.refl _) (by rw [hH]; congr 2; exact (List.flatten_eq_nil_iff.mpr fun l hl => (List.mem_replicate.mp hl).2).symm)⟩
 ·have h0 : its.toArray.isEmpty = false := by simpa using he
  have hcap : ¬ (((its.toArray.size : Nat) : Int) * k > (2 ^ 63 - 1) / 8) := by
   have : (sizeLine : Int) ≤ (2 ^ 63 - 1) / 8 := by decide
   omega
  refine call_meets F.slot_tuple_mul p.typeIs F.entry_tuple_mul (F.args_tuple_mul_2 _ _) (sq2 a _ n dd sl k t h0 hb h1 hcap hprod) ⟨ho,?_⟩
  have e : List.foldl (fun x1 x2 => x1 ++ x2) #[] (List.replicate k.toNat its.toArray) = (List.replicate k.toNat its).flatten.toArray := by
   have := gq5 its k.toNat []
   rw [List.nil_append] at this
   exact this
  rw [e]
  have hf : H s.heap.objs.size = none := I.hok.fresh (Nat.le_refl _)
  refine ⟨.ref s.heap.objs.size,_,I.laid (t' := s.toks) (o := .tup (List.replicate k.toNat xs).flatten) (fun b ob q => Heap.get?_push_of_some _ q) (Nat.le_refl _) ?_,rfl,q _ _ (aq0 hf) aqm⟩
  exact ⟨by rw [mqh,Nat.mul_comm]; exact hz,_,r.rep k.toNat,IsTup.new _ _⟩
theorem qqD {a : Addr} {k : Int} {H : Hp} {Q : VK} : rRepT (.ref a) (.int k) H Q ↔ ∃ xs,H a = some (.tup xs) ∧ 2 ≤ k ∧ k < 1000 ∧ xs.length * k.toNat ≤ sizeLine ∧ ∀ p H',Same H H' -> H' p = some (.tup (List.replicate k.toNat xs).flatten) -> Q (.ref p) H' := by
 constructor
 ·rintro ⟨a',k',xs,h1,h2,h⟩; cases h1; cases h2; exact ⟨xs,h⟩
 ·rintro ⟨xs,h⟩; exact ⟨a,k,xs,rfl,rfl,h⟩
def rRepS : R2 := fun x y H Q => ∃ l k xs,x = .ref l ∧ y = .int k ∧ H l = some (.lst xs) ∧ 0 ≤ k ∧ k < 1000000 ∧ xs.length * k.toNat ≤ sizeLine ∧ ∀ p H',H p = none -> Same H H' -> H' p = some (.lst (List.replicate k.toNat xs).flatten) -> Q (.ref p) H'
theorem sqi : OpR X (binaryOp .Mult) rRepS := by
 intro pins s σ H x y v u Q I rx ry h
 obtain ⟨l,k,xs,hx,hy,hH,h1,h2,hz,q⟩ := h
 exact sq5 pins s σ H x y v u Q I rx ry ⟨l,k,xs,hx,hy,hH,by omega,by omega,hz,fun p hp => q p _ hp (aq0 hp) aqm⟩
theorem qqh {a : Addr} {k : Int} {H : Hp} {Q : VK} : rRepS (.ref a) (.int k) H Q ↔ ∃ xs,H a = some (.lst xs) ∧ 0 ≤ k ∧ k < 1000000 ∧ xs.length * k.toNat ≤ sizeLine ∧ ∀ p H',H p = none -> Same H H' -> H' p = some (.lst (List.replicate k.toNat xs).flatten) -> Q (.ref p) H' := by
 constructor
 ·rintro ⟨a',k',xs,h1,h2,h⟩; cases h1; cases h2; exact ⟨xs,h⟩
 ·rintro ⟨xs,h⟩; exact ⟨a,k,xs,rfl,rfl,h⟩
end
theorem tqr (l : Addr) (items : Array Value) (n : Nat) (dd : Option Addr) (sl : Array (Option Value)) (u : Tok) :
  Meets (Builtin.«tuple.__mul__» ⟨[.ref l,.int 1 u],[]⟩) (fun _ R s => s.heap.get? l = some { cls := .type "tuple",dict := dd,data := .seq items n,slots := sl } ∧ R (.ok (.ret (Value.ref l))) s) :=
 .of_wp fun prog w A R s h => by
  obtain ⟨hp,g,d,tk,os⟩ := s; obtain ⟨hl,h⟩ := h
  unfold Builtin.«tuple.__mul__»
  have hx1 : (items.isEmpty || ((1 : Int) == 1)) = true := by simp
  have h1 : ¬ (decide ((1 : Int) < -(2 ^ 63)) || decide ((1 : Int) ≥ 2 ^ 63)) = true := by decide
  wp_walk
  first | rw [if_neg h1] | skip
  wp_walk
  first | rw [if_pos hx1] | skip
  wp_walk
  exact ⟨_,rfl,h⟩
theorem rqt (l : Addr) (items : Array Value) (n : Nat) (dd : Option Addr) (sl : Array (Option Value)) (u : Tok) (h0 : items.isEmpty = false) :
  Meets (Builtin.«tuple.__mul__» ⟨[.ref l,.int 0 u],[]⟩) (fun _ R s => s.heap.get? l = some { cls := .type "tuple",dict := dd,data := .seq items n,slots := sl } ∧
   R (.ok (.ret (Value.ref s.heap.objs.size))) { s with heap := s.heap.push { cls := Value.type "tuple",data := Data.seq #[] },toks := s.toks }) :=
 .of_wp fun prog w A R s h => by
  obtain ⟨hp,g,d,tk,os⟩ := s; obtain ⟨hl,h⟩ := h
  unfold Builtin.«tuple.__mul__»
  have h1 : ¬ (decide ((0 : Int) < -(2 ^ 63)) || decide ((0 : Int) ≥ 2 ^ 63)) = true := by decide
  have hx1 : ¬ (items.isEmpty || ((0 : Int) == 1)) = true := by rw [h0]; decide
  have hx2 : (decide ((0 : Int) ≤ 0) || items.isEmpty) = true := by simp
  wp_walk
  first | rw [if_neg h1] | skip
  wp_walk
  first | rw [if_neg hx1] | skip
  try dsimp only
  first | rw [if_pos hx2] | skip
  exact ⟨_,rfl,h⟩
section
variable {X : Cx}
def rRepN : R2 := fun x y H Q => ∃ a k xs,x = .ref a ∧ y = .int k ∧ H a = some (.tup xs) ∧ 0 ≤ k ∧ k < 1000 ∧ xs.length * k.toNat ≤ sizeLine ∧ ∀ p H',Same H H' -> H' p = some (.tup (List.replicate k.toNat xs).flatten) -> Q (.ref p) H'
theorem sqK : OpR X (binaryOp .Mult) rRepN := by
 intro pins s σ H x y v u Q I rx ry h
 obtain ⟨a,k,xs,rfl,rfl,hH,h1,h2,hz,q⟩ := h
 by_cases hk : 2 ≤ k
 ·exact rqQ pins s σ H _ _ v u Q I rx ry ⟨a,k,xs,rfl,rfl,hH,hk,h2,hz,q⟩
 cases rx
 obtain ⟨t,rfl⟩ := ry
 obtain ⟨its,r,p,hl⟩ := I.tuple (SqT.of hH)
 obtain ⟨⟨cls,dd,data,sl⟩,ho,hc,n,hd⟩ := id p
 simp only at hc hd
 subst hc hd
 refine wpAny_binaryOp_repeat_ref (T := "tuple") (U := "int") (by decide) p.typeIs (fun s' => typeIs_int s' k t) lq2 F.fills_int_mul F.slot_int_rmul lqi F.slot_int_index.lookup
  (call_meets F.slot_int_rmul (typeIs_int s k t) F.entry_int_rmul (F.args_int_rmul_2 _ _) (oqR k t a its.toArray n dd sl) ⟨ho,rfl,p.typeIs,?_⟩)
 have h01 : k = 0 ∨ k = 1 := by omega
 rcases h01 with rfl | rfl
 ·by_cases he : its = []
  ·subst he
   have hx0 : xs = [] := r.nil_iff.mp rfl
   subst hx0
   exact call_meets F.slot_tuple_mul p.typeIs F.entry_tuple_mul (F.args_tuple_mul_2 _ _) (oqb a _ n dd sl 0 t rfl (by decide)) ⟨ho,.ref a,H,I,rfl,q a H (Same.refl _) hH⟩
  ·have h0 : its.toArray.isEmpty = false := by simpa using he
   refine call_meets F.slot_tuple_mul p.typeIs F.entry_tuple_mul (F.args_tuple_mul_2 _ _) (rqt a _ n dd sl t h0) ⟨ho,?_⟩
   have hf : H s.heap.objs.size = none := I.hok.fresh (Nat.le_refl _)
   refine ⟨.ref s.heap.objs.size,_,I.laid (t' := s.toks) (o := .tup []) (fun b ob q => Heap.get?_push_of_some _ q) (Nat.le_refl _) ?_,rfl,q _ _ (aq0 hf) aqm⟩
   exact ⟨Nat.zero_le _,[],.nil,IsTup.new _ _⟩
 ·exact call_meets F.slot_tuple_mul p.typeIs F.entry_tuple_mul (F.args_tuple_mul_2 _ _) (tqr a _ n dd sl t) ⟨ho,.ref a,H,I,rfl,q a H (Same.refl _) (by rw [hH]; simp)⟩
theorem qqv {a : Addr} {k : Int} {H : Hp} {Q : VK} : rRepN (.ref a) (.int k) H Q ↔ ∃ xs,H a = some (.tup xs) ∧ 0 ≤ k ∧ k < 1000 ∧ xs.length * k.toNat ≤ sizeLine ∧ ∀ p H',Same H H' -> H' p = some (.tup (List.replicate k.toNat xs).flatten) -> Q (.ref p) H' := by
 constructor
 ·rintro ⟨a',k',xs,h1,h2,h⟩; cases h1; cases h2; exact ⟨xs,h⟩
 ·rintro ⟨xs,h⟩; exact ⟨a,k,xs,rfl,rfl,h⟩
end
section
variable {X : Cx}
def intsV (lo : Int) (n : Nat) : List V := (List.range n).map fun k => .int (lo + (k : Nat))
def tLR (ta : TA) : TE := fun σ H Q => ta σ H fun vs H1 => ∃ j : Int,vs = [.int j] ∧ 0 ≤ j ∧ j ≤ 1000000 ∧ ∀ p,H1 p = none -> Q (.ref p) (upd H1 p (.lst (intsV 0 j.toNat)))
end
theorem uqq {ta : TA} {σ : St} {H : Hp} {Q : VK} : (tLR ta σ H Q) = (ta σ H fun vs H1 => ∃ j : Int,vs = [.int j] ∧ 0 ≤ j ∧ j ≤ 1000000 ∧ ∀ p,H1 p = none -> Q (.ref p) (upd H1 p (.lst (intsV 0 j.toNat)))) := rfl
end L2
namespace L2
open PySem
section
variable {p : Addr} {fv : St} {tt : TT} {te : TE} {Q : VK} {H1 : Hp} {K : PySem.W.Frag}
end
end L2
namespace L2
open PySem PySem.Spec PyProof.Rows
section
variable {X : Cx} {pins : List (Addr × Obj)} {σ : St} {H1 : Hp} {s3 : Shared} {x x2 : Str} {fx : List Str} {fr : List Nat} {scope : Scope} {cl : List (Str × Addr)} {fp : List Addr}
theorem qqo (I : Inv X pins σ H1 s3) (hkind : scope.kind = .function) (hcl : ∀ y c,cl.lookup y = some c -> X.env.cells.lookup y = some c)
  (F : Frees X (relabel scope X.env) cl fx fr) (hfx : ((relabel scope X.env).names.all fun p => if (p.2 == .cell || p.2 == .free) then fx.contains p.1 else true) = true)
  (ffp : ∀ b ∈ fp,FpOk X pins H1 b) (flt : ∀ b ∈ fp,b < s3.heap.objs.size) : (compCx X (x :: x2 :: fx) scope cl s3 H1 fp).Ok where
 mod := I.ok.mod
 kind := hkind
 glob := I.ok.glob
 blt := I.ok.blt
 above := Nat.le_refl _
 inj := fun y z c h1 h2 => I.ok.inj y z c (hcl y c h1) (hcl z c h2)
 has := fun y h => by
  have h : (relabel scope X.env).names.lookup y = some .cell ∨ (relabel scope X.env).names.lookup y = some .free := h
  have key : y ∈ fx := by
   rcases h with h | h
   ·have q := List.all_eq_true.mp hfx _ (PySem.mem_of_lookup h)
    simpa using q
   ·have q := List.all_eq_true.mp hfx _ (PySem.mem_of_lookup h)
    simpa using q
  obtain ⟨k1,k2⟩ := F.mem y key
  obtain ⟨c,e⟩ := I.ok.has y (.inl k1)
  exact ⟨c,k2.trans e⟩
 cab := fun y c h => by cases (show false = true from h)
 hd := I.ok.hd
 frames := I.ok.frames
 stk := .inl rfl
 exf := fun b hb => ⟨Nat.ne_of_lt (flt b hb),fun y c e => (ffp b hb).2.2.2.2.1 y c (hcl y c e)⟩
 bs := I.bs
 bsz := Nat.le_trans I.ok.bsz I.sz
 noex := fun b o e hb => by
  rcases (ffp b hb).2.2.2.1 with z | z
  ·exact I.ok.noex b o e z
  ·exact absurd (Nat.lt_of_lt_of_le (Heap.lt_size (I.ok.bs b o e).1) z) (Nat.lt_irrefl _)
 exfs := fun b hb z => by
  rcases List.mem_cons.mp (I.stkSub b z) with q | q
  ·exact (ffp b hb).2.1 q
  ·exact (ffp b hb).2.2.1 q
 funs := I.stack
 frf := I.stkFree
theorem mqP (I : Inv X pins σ H1 s3) (hkind : scope.kind = .function) (hcl : ∀ y c,cl.lookup y = some c -> X.env.cells.lookup y = some c)
  (F : Frees X (relabel scope X.env) cl fx fr) (hfx : ((relabel scope X.env).names.all fun p => if (p.2 == .cell || p.2 == .free) then fx.contains p.1 else true) = true)
  (ffp : ∀ b ∈ fp,FpOk X pins H1 b) (flt : ∀ b ∈ fp,b < s3.heap.objs.size) {h1 : Heap} {t : Nat} {m : Str -> Option Value} (hn : h1.Ns s3.heap.objs.size m)
  (keep : ∀ b u,s3.heap.get? b = some u -> h1.get? b = some u) : Inv (compCx X (x :: x2 :: fx) scope cl s3 H1 fp) [] (none :: none :: frV σ fr) H1 { s3 with heap := h1,toks := t } := by
 refine ⟨qqo I hkind hcl F hfx ffp flt,rfl,I.bare,Un.kept keep,⟨m,hn,fun i y v e1 e2 e3 => ?_⟩,fun y c e => ?_,I.hok.fresh (Nat.le_refl _),fun y c e => I.freeC y c (hcl y c e),fun p hp => absurd (show p ∈ ([] : List (Addr × Obj)) from hp) (by simp),I.hok.kept keep,?_⟩
 ·cases i with
  | zero => simp at e2
  | succ j =>
   cases j with
   | zero => simp at e2
   | succ j =>
    obtain ⟨i0,k1,k2,k3,k4,k5⟩ := F.at (σ := σ) j y v (by simpa [compCx] using e1) (by simpa using e2)
    obtain ⟨m0,hn0,hl0⟩ := I.loc
    obtain ⟨u,r,l⟩ := hl0 i0 y v k1 k2 (.inr (.inl k3))
    refine ⟨u,r,?_⟩
    rcases l with ⟨z,_⟩ | ⟨_,c,e,o,ho,hd⟩
    ·rw [k3] at z; cases z
    ·exact .inr ⟨.inl k4,c,k5.trans e,o,keep c o ho,hd⟩
 ·obtain ⟨v,o,ho,hd⟩ := I.cell y c (hcl y c e)
  exact ⟨v,o,keep c o ho,hd⟩
 ·show (none :: none :: frV σ fr).length = (x :: x2 :: fx).length
  simp [frV,F.len]
end
def CompI2 (K : PySem.W.Frag) (J : It) (p : Addr) (fv : St) (tt : TT) (te : TE) (Q : VK) (H1 : Hp) : Prop :=
 ∃ W : Nat -> Nat -> List V -> Hp -> Prop,(∃ m,W 0 m [] (upd H1 p (.lst []))) ∧ ∀ i m ys H2,W i m ys H2 -> H2 p = some (.lst ys) ∧
  ((J.stop i H2 ∧ Q (.ref p) H2) ∨ (J.go i H2 ∧ ys.length < sizeLine ∧ ∀ z H3,J.yld i H2 z H3 -> ∃ a x y,z = .ref a ∧ SqT K H3 a [x,y] ∧ tt (some x :: some y :: fv) H3 fun b H4 =>
   if b = true then te (some x :: some y :: fv) H4 fun y H5 => H5 p = some (.lst ys) ∧ ∃ m',m' < m ∧ W (i + 1) m' (ys ++ [y]) (upd H5 p (.lst (ys ++ [y])))
   else ∃ m',m' < m ∧ W (i + 1) m' ys H4))
def tComp2 (K : PySem.W.Frag) (wi : TI) (fr : List Nat) (tt : TT) (te : TE) : TE := fun σ H Q => wi σ H fun J H1 => ∀ p,H1 p = none -> CompI2 K J p (frV σ fr) tt te Q H1
section
variable {X : Cx} {elt iter : Expr} {x x2 : Str} {px px2 ptx pos : Pos} {kx : Nat} {ifs : List Expr} {scope : Scope} {cl : List (Str × Addr)} {fx : List Str} {fr : List Nat} {wi : TI} {tt : TT} {te : TE}
theorem iq6 {pins : List (Addr × Obj)} {σ : St} {H3 : Hp} {s3 : Shared} {it p : Addr} {fp : List Addr} {tn : Nat -> Heap -> Prop} {J : It} {Q : VK} {W : Nat -> Nat -> List V -> Hp -> Prop} {m0 t : Nat} {h₁ : Heap} {m : Str -> Option Value} {RR : Result -> Shared -> Prop}
  (hc : X.calm = true) (hkind : scope.kind = .function) (hx : scope.names.lookup x = some .local) (hx2 : scope.names.lookup x2 = some .local) (hnd : (x :: x2 :: fx).Nodup)
  (hcl : ∀ y c,cl.lookup y = some c -> X.env.cells.lookup y = some c) (F : Frees X (relabel scope X.env) cl fx fr)
  (hfx : ((relabel scope X.env).names.all fun p => if (p.2 == .cell || p.2 == .free) then fx.contains p.1 else true) = true)
  (ht : ∀ s H fp,PF (compCx X (x :: x2 :: fx) scope cl s H fp) ifs tt) (he : ∀ s H fp,PE (compCx X (x :: x2 :: fx) scope cl s H fp) elt te)
  (I3 : Inv X pins σ H3 s3) (T : Turn X.prog X.w X.K (.Tuple [.Name x px,.Name x2 px2] kx ptx) J fp it tn) (st3 : tn 0 s3.heap) (ffp : ∀ b ∈ fp,FpOk X pins H3 b) (flt3 : ∀ b ∈ fp,b < s3.heap.objs.size)
  (w0 : W 0 m0 [] H3) (turn : ∀ i m ys H2,W i m ys H2 -> H2 p = some (.lst ys) ∧
   ((J.stop i H2 ∧ Q (.ref p) H2) ∨ (J.go i H2 ∧ ys.length < sizeLine ∧ ∀ z H3,J.yld i H2 z H3 -> ∃ a x y,z = .ref a ∧ SqT X.K H3 a [x,y] ∧ tt (some x :: some y :: frV σ fr) H3 fun b H4 =>
    if b = true then te (some x :: some y :: frV σ fr) H4 fun y H5 => H5 p = some (.lst ys) ∧ ∃ m',m' < m ∧ W (i + 1) m' (ys ++ [y]) (upd H5 p (.lst (ys ++ [y])))
    else ∃ m',m' < m ∧ W (i + 1) m' ys H4)))
  (hns : h₁.Ns s3.heap.objs.size m) (keep1 : ∀ b u,s3.heap.get? b = some u -> h₁.get? b = some u)
  (fin : ∀ s6 H5 o o2,Inv (compCx X (x :: x2 :: fx) scope cl s3 H3 fp) [] (o :: o2 :: frV σ fr) H5 s6 -> Q (.ref p) H5 -> RR (.ok .next) s6) :
  codeAny (model X.prog X.w) X.A (.compStart (.ListComp elt [⟨.Tuple [.Name x px,.Name x2 px2] kx ptx,iter,ifs,0⟩] scope pos) 0 (.ref it) (.ref p) (compEnvC scope cl s3.heap.objs.size X.env))
   RR { s3 with heap := h₁,toks := t } := by
 have I4 := mqP (x := x) (x2 := x2) (t := t) I3 hkind hcl F hfx ffp flt3 hns keep1
 have st4 : tn 0 h₁ := T.keep _ _ _ st3 fun b hb o e => keep1 b o e
 have fp0 : ∀ b ∈ fp,H3 b = none := fun b hb => (ffp b hb).1
 have hcal : (compCx X (x :: x2 :: fx) scope cl s3 H3 fp).calm = true := hc
 have stat : ∀ {H' : Hp},(∀ b ∈ fp,H' b = none) -> ∀ b ∈ fp,FpOk (compCx X (x :: x2 :: fx) scope cl s3 H3 fp) [] H' b := fun {H'} hn b hb => by
  obtain ⟨f0,f1,f2,f3,f4,f5⟩ := ffp b hb
  exact ⟨hn b hb,Nat.ne_of_lt (flt3 b hb),I4.ok.exfs b hb,.inl hb,fun y c e => f4 y c (hcl y c e),fun q hq => absurd (show q ∈ ([] : List (Addr × Obj)) from hq) (by simp)⟩
 have hxl : (relabel scope X.env).names.lookup x = some .local := lookup_relabel_local hx
 have hxl2 : (relabel scope X.env).names.lookup x2 = some .local := lookup_relabel_local hx2
 have pg : PG (compCx X (x :: x2 :: fx) scope cl s3 H3 fp) (.Tuple [.Name x px,.Name x2 px2] kx ptx) (gTup X.K 2 (gCons (gName 0) (gCons (gName 1) gNil))) := rqc hcal (aqK (aqC (i := 0) hnd rfl (.inl hxl) (.inr hxl)) (aqK (aqC (i := 1) hnd rfl (.inl hxl2) (.inr hxl2)) eqE))
 have loop : codeAny (model X.prog X.w) X.A (.compLoop (.ListComp elt [⟨.Tuple [.Name x px,.Name x2 px2] kx ptx,iter,ifs,0⟩] scope pos) 0 (.ref it) (.ref p) (compEnvC scope cl s3.heap.objs.size X.env))
    RR { s3 with heap := h₁,toks := t } := by
  refine iqb (fun n s' => ∃ i ys H' o o2,Inv (compCx X (x :: x2 :: fx) scope cl s3 H3 fp) [] (o :: o2 :: frV σ fr) H' s' ∧ tn i s'.heap ∧ (∀ b ∈ fp,H' b = none) ∧ W i n ys H') ?_ m0 ⟨0,[],_,none,none,I4,st4,fp0,w0⟩
  rintro n s5 ⟨i,ys,H5,o,o2,I5,st5,fr5,w5⟩
  obtain ⟨hp5,alt⟩ := turn i n ys H5 w5
  rcases alt with ⟨stop,qn⟩ | ⟨go,hlen,step⟩
  ·refine thn (T.done (compCx X (x :: x2 :: fx) scope cl s3 H3 fp) rfl rfl rfl hcal i [] s5 (o :: o2 :: frV σ fr) H5 _ I5 (stat fr5) st5 stop) fun r s6 W' => ?_
   obtain ⟨hr,I6⟩ := W'
   subst hr
   exact fin s6 H5 o o2 I6 qn
  ·refine thn (T.item (compCx X (x :: x2 :: fx) scope cl s3 H3 fp) rfl rfl rfl hcal i [] s5 (o :: o2 :: frV σ fr) H5 _ I5 (stat fr5) st5 go) fun r s6 W' => ?_
   obtain ⟨u,hr,h6⟩ := W'
   subst hr
   refine thn h6 fun _ s7 W' => ?_
   obtain ⟨y7,H7,I7,r7,yl7,st7,fr7⟩ := W'
   have I7' := I7.pinned (stat fr7) (T.obj _ _ st7)
   have back : ∀ {σ' : St} {H' : Hp} {s' : Shared},Inv (compCx X (x :: x2 :: fx) scope cl s3 H3 fp) ([] ++ pinsAt fp s7.heap) σ' H' s' -> tn (i + 1) s'.heap ∧ ∀ b ∈ fp,H' b = none := fun {σ' H' s'} I' => by
    refine ⟨T.keep _ _ _ st7 fun b hb o e => (I'.pin (b,o) (List.mem_append_right _ (List.mem_append_right _ (dqs hb e)))).1,fun b hb => ?_⟩
    obtain ⟨o,e,d⟩ := T.obj _ _ st7 b hb
    exact (I'.pin (b,o) (List.mem_append_right _ (List.mem_append_right _ (dqs hb e)))).2.1
   obtain ⟨a7,z1,z2,e7,q7,step7⟩ := step y7 _ yl7
   subst e7
   refine thn (pg _ s7 _ H7 (.ref a7) u (fun σ' H' => σ' = some z1 :: some z2 :: frV σ fr ∧ H' = H7) I7' r7 ⟨a7,[z1,z2],rfl,q7,rfl,z1,[z2],rfl,z2,[],rfl,rfl,rfl,rfl⟩) fun _ s8 W' => ?_
   obtain ⟨σ8,H8,I8,e8,e8'⟩ := W'
   subst e8 e8'
   refine thn (ht s3 H3 fp _ s8 _ _ _ I8 step7) fun b s9 W' => ?_
   obtain ⟨H9,I9,q9⟩ := W'
   cases b with
   | false =>
    rw [if_neg Bool.false_ne_true] at q9 ⊢
    obtain ⟨m',hm,w9⟩ := q9
    exact ⟨m',hm,i + 1,ys,H9,some z1,some z2,I9.unpinned,(back I9).1,(back I9).2,w9⟩
   | true =>
    rw [if_pos rfl] at q9 ⊢
    refine thn (he s3 H3 fp _ s9 _ H9 _ I9 q9) fun u10 s10 W' => ?_
    obtain ⟨y10,H10,I10,r10,hp10,m',hm,w10⟩ := W'
    refine thn (cqp _ s10 _ H10 (.ref p) [y10] (.ref p) [u10] (fun _ H' => H' = upd H10 p (.lst (ys ++ [y10]))) I10 rfl (.cons r10 .nil) ⟨p,ys,y10,rfl,rfl,hp10,hlen,rfl⟩) fun _ s11 W' => ?_
    obtain ⟨_,H11,I11,_,e11⟩ := W'
    subst e11
    exact ⟨m',hm,i + 1,ys ++ [y10],_,some z1,some z2,I11.unpinned,(back I11).1,(back I11).2,w10⟩
 exact codeAny_compStart_list loop (T.self _ 0 _ _ _ st4 loop)
theorem qqx (hc : X.calm = true) (hclos : closureFor scope X.env = pure cl) (hcell : ∀ y ∈ scope.names,y.2 ≠ .cell) (hkind : scope.kind = .function)
  (hnames : ∀ y ∈ scope.names,y.2 = .local -> scope.names.lookup y.1 = some .local) (hx : scope.names.lookup x = some .local) (hx2 : scope.names.lookup x2 = some .local) (hnd : (x :: x2 :: fx).Nodup)
  (hk : (cl.all fun q => fx.contains q.1) = true) (F : Frees X (relabel scope X.env) cl fx fr)
  (hfx : ((relabel scope X.env).names.all fun p => if (p.2 == .cell || p.2 == .free) then fx.contains p.1 else true) = true)
  (hi : PI X (.Tuple [.Name x px,.Name x2 px2] kx ptx) iter wi) (ht : ∀ s H fp,PF (compCx X (x :: x2 :: fx) scope cl s H fp) ifs tt) (he : ∀ s H fp,PE (compCx X (x :: x2 :: fx) scope cl s H fp) elt te)
  (hs : ∀ x,foldedSetIterable iter X.env x = pure x := by intro _; rfl) :
  PE X (.ListComp elt [⟨.Tuple [.Name x px,.Name x2 px2] kx ptx,iter,ifs,0⟩] scope pos) (tComp2 X.K wi fr tt te) := by
 intro pins s σ H Q I h
 have hcl : ∀ y c,cl.lookup y = some c -> X.env.cells.lookup y = some c := fun y c e => by
  have q := List.all_eq_true.mp hk _ (PySem.mem_of_lookup e)
  rw [<- (F.mem y (by simpa using q)).2]
  exact e
 rw [eval_ListComp]
 refine wpAny_comprehension_free (use := none) rfl hs hclos hkind hnames ?_
 refine thn (hi pins s σ H _ I h) fun v s1 h1 => thn h1 fun itv s2 h2 => ?_
 obtain ⟨it,fp,tn,J,H2,e,I2,T,st2,f2,q2⟩ := h2
 subst e
 have hp0 : H2 s2.heap.objs.size = none := I2.hok.fresh (Nat.le_refl _)
 obtain ⟨W,⟨m0,w0⟩,turn⟩ := q2 _ hp0
 have flt : ∀ b ∈ fp,b < s2.heap.objs.size := fun b hb => by
  obtain ⟨o,e,_⟩ := T.obj _ _ st2 b hb
  exact Heap.lt_size e
 refine wpAny_newObj_type (wpAny_newFunctionEnv hcell (by intro y hy; simp at hy) (fun h₁ hns₁ hsb₁ => ?_) hkind)
 dsimp only at hns₁ hsb₁ ⊢
 have hlay : ∀ b u,s2.heap.get? b = some u -> (s2.heap.push { cls := .type "list",dict := none,data := .seq ([] : List Value).toArray }).get? b = some u := fun b u e => Heap.get?_push_of_some _ e
 have hnew : (s2.heap.push { cls := .type "list",dict := none,data := .seq ([] : List Value).toArray }).get? s2.heap.objs.size = some { cls := .type "list",dict := none,data := .seq ([] : List Value).toArray } := Heap.get?_push_size _ rfl
 have hsz : (s2.heap.push { cls := .type "list",dict := none,data := .seq ([] : List Value).toArray }).objs.size = s2.heap.objs.size + 1 := Heap.size_push _ _
 generalize hHH : s2.heap.push { cls := .type "list",dict := none,data := .seq ([] : List Value).toArray } = HH at hns₁ hsb₁ hlay hnew hsz ⊢
 have I3 : Inv X pins σ (upd H2 s2.heap.objs.size (.lst [])) { s2 with heap := HH,toks := s2.toks } :=
  I2.laid (t' := s2.toks) (o := .lst []) hlay (Nat.le_refl _) ⟨Nat.zero_le _,[],0,.nil,hnew⟩
 have ffp : ∀ b ∈ fp,FpOk X pins (upd H2 s2.heap.objs.size (.lst [])) b := fun b hb => by
  obtain ⟨f0,fr'⟩ := f2 b hb
  exact ⟨by rw [aqt (Nat.ne_of_lt (flt b hb))]; exact f0,fr'⟩
 have keep1 : ∀ b u,HH.get? b = some u -> h₁.get? b = some u := fun b u e => hsb₁.extBut b u (Nat.ne_of_lt (Heap.lt_size e)) (Heap.get?_push_of_some _ e)
 exact iq6 (s3 := { s2 with heap := HH,toks := s2.toks }) hc hkind hx hx2 hnd hcl F hfx ht he I3 T (T.keep _ _ _ st2 fun b hb o e => hlay b o e) ffp (fun b hb => by show b < HH.objs.size; rw [hsz]; exact Nat.lt_succ_of_lt (flt b hb)) w0 turn hns₁ keep1 fun s6 H5 o o2 I6 qn => by
  obtain ⟨m,hn6,_⟩ := id I6.loc
  exact ⟨m,hn6,fun h' sb => ⟨.ref _,H5,gq2 I3 I6 ffp sb,rfl,qn⟩⟩
theorem oqM {K : PySem.W.Frag} (h : X.K = K) (hc : X.calm = true) (hclos : closureFor scope X.env = pure cl) (hcell : ∀ y ∈ scope.names,y.2 ≠ .cell) (hkind : scope.kind = .function)
  (hnames : ∀ y ∈ scope.names,y.2 = .local -> scope.names.lookup y.1 = some .local) (hx : scope.names.lookup x = some .local) (hx2 : scope.names.lookup x2 = some .local) (hnd : (x :: x2 :: fx).Nodup)
  (hk : (cl.all fun q => fx.contains q.1) = true) (F : Frees X (relabel scope X.env) cl fx fr)
  (hfx : ((relabel scope X.env).names.all fun p => if (p.2 == .cell || p.2 == .free) then fx.contains p.1 else true) = true)
  (hi : PI X (.Tuple [.Name x px,.Name x2 px2] kx ptx) iter wi) (ht : ∀ s H fp,PF (compCx X (x :: x2 :: fx) scope cl s H fp) ifs tt) (he : ∀ s H fp,PE (compCx X (x :: x2 :: fx) scope cl s H fp) elt te)
  (hs : ∀ x,foldedSetIterable iter X.env x = pure x := by intro _; rfl) :
  PE X (.ListComp elt [⟨.Tuple [.Name x px,.Name x2 px2] kx ptx,iter,ifs,0⟩] scope pos) (tComp2 K wi fr tt te) := by
 subst h; exact qqx hc hclos hcell hkind hnames hx hx2 hnd hk F hfx hi ht he hs
theorem gq3 {K : PySem.W.Frag} {i : Nat} {y : Str} {py spos : Pos} (hN : X.N.Nodup) (hiN : X.N[i]? = some y) (hy : X.env.scope.names.lookup y = some .local)
  (h : X.K = K) (hc : X.calm = true) (hclos : closureFor scope X.env = pure cl) (hcell : ∀ y ∈ scope.names,y.2 ≠ .cell) (hkind : scope.kind = .function)
  (hnames : ∀ y ∈ scope.names,y.2 = .local -> scope.names.lookup y.1 = some .local) (hx : scope.names.lookup x = some .local) (hx2 : scope.names.lookup x2 = some .local) (hnd : (x :: x2 :: fx).Nodup)
  (hk : (cl.all fun q => fx.contains q.1) = true) (F : Frees X (relabel scope X.env) cl fx fr)
  (hfx : ((relabel scope X.env).names.all fun p => if (p.2 == .cell || p.2 == .free) then fx.contains p.1 else true) = true)
  (hi : PI X (.Tuple [.Name x px,.Name x2 px2] kx ptx) iter wi) (ht : ∀ s H fp,PF (compCx X (x :: x2 :: fx) scope cl s H fp) ifs tt) (he : ∀ s H fp,PE (compCx X (x :: x2 :: fx) scope cl s H fp) elt te)
  (hs : ∀ x,foldedSetIterable iter X.env x = pure x := by intro _; rfl) (hsw : swapsWith (.ListComp elt [⟨.Tuple [.Name x px,.Name x2 px2] kx ptx,iter,ifs,0⟩] scope pos) (some (.Name y py)) spos.line X.env = pure true := by rfl) :
  PS X (.Assign [.Name y py] (.ListComp elt [⟨.Tuple [.Name x px,.Name x2 px2] kx ptx,iter,ifs,0⟩] scope pos) spos) (tAsg (tComp2 K wi fr tt te) (gName i)) := by
 subst h
 intro pins s σ H D I h
 have hcl : ∀ y c,cl.lookup y = some c -> X.env.cells.lookup y = some c := fun y c e => by
  have q := List.all_eq_true.mp hk _ (PySem.mem_of_lookup e)
  rw [<- (F.mem y (by simpa using q)).2]
  exact e
 rw [exec_Assign_Name_used _ _ _ _ hsw]
 refine wpAny_bind (wpAny_standAt (wpAny_bind ?_))
 show wpAny _ X.A (do let _ <- comprehension (.ListComp elt [⟨.Tuple [.Name x px,.Name x2 px2] kx ptx,iter,ifs,0⟩] scope pos) scope X.env _ (newList []) false (eval iter X.env) (some (assign (.Name y py) X.env))) _ _ s
 refine wpAny_bind (wpAny_mono (wpAny_comprehension_free (use := some (assign (.Name y py) X.env)) (Q := fun _ s' => SP X pins D .next s') rfl hs hclos hkind hnames ?_) (fun _ s' hq => wpAny_pure (wpAny_pure hq)) fun _ _ e => e)
 refine thn (hi pins s σ H _ I h) fun v s1 h1 => thn h1 fun itv s2 h2 => ?_
 obtain ⟨it,fp,tn,J,H2,e,I2,T,st2,f2,q2⟩ := h2
 subst e
 have hp0 : H2 s2.heap.objs.size = none := I2.hok.fresh (Nat.le_refl _)
 obtain ⟨W,⟨m0,w0⟩,turn⟩ := q2 _ hp0
 have flt : ∀ b ∈ fp,b < s2.heap.objs.size := fun b hb => by
  obtain ⟨o,e,_⟩ := T.obj _ _ st2 b hb
  exact Heap.lt_size e
 refine wpAny_newObj_type (wpAny_newFunctionEnv hcell (by intro y hy; simp at hy) (fun h₁ hns₁ hsb₁ => ?_) hkind)
 dsimp only at hns₁ hsb₁ ⊢
 have hlay : ∀ b u,s2.heap.get? b = some u -> (s2.heap.push { cls := .type "list",dict := none,data := .seq ([] : List Value).toArray }).get? b = some u := fun b u e => Heap.get?_push_of_some _ e
 have hnew : (s2.heap.push { cls := .type "list",dict := none,data := .seq ([] : List Value).toArray }).get? s2.heap.objs.size = some { cls := .type "list",dict := none,data := .seq ([] : List Value).toArray } := Heap.get?_push_size _ rfl
 have hsz : (s2.heap.push { cls := .type "list",dict := none,data := .seq ([] : List Value).toArray }).objs.size = s2.heap.objs.size + 1 := Heap.size_push _ _
 generalize hHH : s2.heap.push { cls := .type "list",dict := none,data := .seq ([] : List Value).toArray } = HH at hns₁ hsb₁ hlay hnew hsz ⊢
 have I3 : Inv X pins σ (upd H2 s2.heap.objs.size (.lst [])) { s2 with heap := HH,toks := s2.toks } :=
  I2.laid (t' := s2.toks) (o := .lst []) hlay (Nat.le_refl _) ⟨Nat.zero_le _,[],0,.nil,hnew⟩
 have ffp : ∀ b ∈ fp,FpOk X pins (upd H2 s2.heap.objs.size (.lst [])) b := fun b hb => by
  obtain ⟨f0,fr'⟩ := f2 b hb
  exact ⟨by rw [aqt (Nat.ne_of_lt (flt b hb))]; exact f0,fr'⟩
 have keep1 : ∀ b u,HH.get? b = some u -> h₁.get? b = some u := fun b u e => hsb₁.extBut b u (Nat.ne_of_lt (Heap.lt_size e)) (Heap.get?_push_of_some _ e)
 exact iq6 (Q := fun x H1 => gName i x σ H1 D.nx) (s3 := { s2 with heap := HH,toks := s2.toks }) hc hkind hx hx2 hnd hcl F hfx ht he I3 T (T.keep _ _ _ st2 fun b hb o e => hlay b o e) ffp (fun b hb => by show b < HH.objs.size; rw [hsz]; exact Nat.lt_succ_of_lt (flt b hb)) w0 turn hns₁ keep1 fun s6 H5 o o2 I6 qn => by
  have nC : H5 HH.objs.size = none := I6.free
  have I7 : Inv X pins σ H5 s6 := gq2 (h' := s6.heap) I3 I6 ffp ⟨rfl,fun _ _ => rfl⟩
  obtain ⟨f0,f1,f2,f3,f4,f5⟩ := I3.fpOk (H' := H5) (b := HH.objs.size) (Nat.le_refl _) nC
  obtain ⟨m,hn6,_⟩ := id I6.loc
  show wpAny _ X.A (assign (.Name y py) X.env (.ref _)) _ _ s6
  refine wpAny_assign_Name (iq4 I7 hN hiN (.inl hy) (v := .ref _) rfl (fun s8 I8 sbx => ?_) (.inr hy))
  obtain ⟨a,sb,ha⟩ := sbx
  have hne : HH.objs.size ≠ a := by
   rcases ha with rfl | ha
   ·exact f1
   ·exact fun z => f4 y a ha z.symm
  refine ⟨m,hn6.sameBut sb hne,fun h' sb' => ?_⟩
  exact ⟨_,H5,I8.turned (t' := s8.toks) (it := HH.objs.size) (fun b o hb e => sb'.extBut b o hb e) f0 f1 f3 f4 f5,qn⟩
end
section
variable {p : Addr} {fv : St} {te : TE} {Q : VK} {H1 : Hp} {K : PySem.W.Frag}
theorem oqW {tl : TE} {tt : TT} {fr : List Nat} {σ : St} {H : Hp} : (tComp2 K (iTup K tl) fr tt te σ H Q) = (tl σ H fun x H1 => ∃ a,x = .ref a ∧ (∃ xs,SqT K H1 a xs) ∧ ∀ p,H1 p = none -> CompI2 K (Itt K a) p (frV σ fr) tt te Q H1) := rfl
end
section
variable {X : Cx}
def rFind : V -> List V -> Hp -> VK -> Prop := fun x vs H Q => match x,vs with
 | .str z,[.str y] => Q (.int (Txt.find z y)) H
 | _,_ => False
theorem rqF {z y : Str} {H : Hp} {Q : VK} : (rFind (.str z) [.str y] H Q) = (Q (.int (Txt.find z y)) H) := rfl
end
end L2
namespace Wm
open PySem L2
theorem rqW (s : Stp) (L : List Stp) : inV (sV s) (L.map sV) = decide (s ∈ L) := by
 have e : ∀ a : Stp,eqV (sV a) (sV s) = decide (s = a) := fun a => by
  show ((⟨a.toArray⟩ : Str) == ⟨s.toArray⟩) = decide (s = a)
  rw [Bool.eq_iff_iff,beq_iff_eq,decide_eq_true_eq,cqt]
  exact ⟨Eq.symm,Eq.symm⟩
 unfold inV
 rw [Bool.eq_iff_iff,decide_eq_true_eq,List.any_eq_true]
 constructor
 ·rintro ⟨x,hx,h⟩
  obtain ⟨a,ha,rfl⟩ := List.mem_map.mp hx
  rw [e,decide_eq_true_eq] at h
  rw [h]; exact ha
 ·intro h
  exact ⟨sV s,List.mem_map.mpr ⟨s,h,rfl⟩,by rw [e]; simp⟩
end Wm
namespace Wm
end Wm
namespace L2
open PySem
theorem sq8 {l : Addr} {H : Hp} {Q : VK} {i : Int} : rPopAt (.ref l) [.int i] H Q ↔ ∃ xs k y,H l = some (.lst xs) ∧ -(2 ^ 63) ≤ i ∧ i < 2 ^ 63 ∧ seqIndex? i xs.length = some k ∧ xs[k]? = some y ∧ Q y (upd H l (.lst (xs.eraseIdx k))) :=
 ⟨fun ⟨_,xs,_,k,y,h1,h2,h⟩ => by cases h1; cases h2; exact ⟨xs,k,y,h⟩,fun ⟨xs,k,y,h⟩ => ⟨_,xs,_,k,y,rfl,rfl,h⟩⟩
end L2
namespace L2
open PySem PySem.Spec PySem.W PyProof.Rows
abbrev vErr : List Value := [.type "ValueError",.type "Exception",.type "BaseException",.type "object"]
abbrev vNew : String := "ValueError.__new__"
def tRaise (E : XK) (C : Addr) : TS := fun _ _ H => E (.ref C) none H
theorem mq7 {E : XK} {C : Addr} {D : Ends} {σ : St} {H : Hp} : (tRaise E C D σ H) = (E (.ref C) none H) := rfl
structure Flown (P : Program) (w : World) (base : Heap) (outer : List Env) (H : Hp) (s : Shared) (a t C : Addr) (B : Heap) (H' : Hp) (s' : Shared) : Prop where
 os : s'.os = s.os
 bare : AllBare s'.gens
 st : base.StaysIn B
 fly : Heap.FlyingW B outer a (.ref C) (.ref t) s'.heap
 hok : HOk P w H' B
 un : Un (frs outer) [] H H' s.heap s'.heap
 kb : ∀ b o,s.heap.get? b = some o -> H b = none -> b ∉ frs outer -> B.get? b = some o
 thB : ∀ b o,s.heap.get? b = some o -> b ∉ frs outer -> ∃ o',B.get? b = some o'
def CXE (P : Program) (w : World) (base : Heap) : CXT := fun outer H s E e s' => ∃ (a t C : Addr) (B : Heap) (H' : Hp),e = .ref a ∧ E (.ref C) none H' ∧ Flown P w base outer H s a t C B H' s'
theorem hqm {env : Env} {L : Addr} {outer : List Env} (hf : env.frame = some L) {b : Addr} : b ∈ frs (env :: outer) ↔ b = L ∨ b ∈ frs outer := by
 unfold frs
 rw [List.filterMap_cons,hf]
 exact List.mem_cons
section
variable {P : Program} {w : World} {K : Frag} {mg : Str -> Option Value} {base : Heap} {N : List Str} {qual : Str} {scope : Scope} {f : Addr} {cd : Value} {A : Around} {outer : List Env} {s : Shared} {H : Hp} {E : XK}
theorem oqo : Passes (CXE P w base) (cxOf (CXE P w base) P w K mg base N qual scope f cd A outer s H E) E := by
 intro pins σ H1 s1 e s2 I hq
 obtain ⟨a,t,C,B,H2,rfl,hE,W⟩ := hq
 have hf : (envOfC qual scope s.heap.objs.size f cd).frame = some s.heap.objs.size := rfl
 have ib : Un (frs outer) [] H H1 s.heap s1.heap := I.base
 have W : Flown P w base (envOfC qual scope s.heap.objs.size f cd :: outer) H1 s1 a t C B H2 s2 := W
 have ne : ∀ b o,s.heap.get? b = some o -> b ∉ frs outer -> b ∉ frs (envOfC qual scope s.heap.objs.size f cd :: outer) := fun b o q n z => by
  rcases (hqm hf).mp z with z | z
  ·exact absurd (Heap.lt_size q) (by rw [z]; exact Nat.lt_irrefl _)
  ·exact n z
 show wpAny (model P w) (A.deeper (envOfC qual scope s.heap.objs.size f cd)) (leaving (envOfC qual scope s.heap.objs.size f cd) (.ref a)) _ _ _
 refine wpAny_leaves_onW I.ok.frames hf W.fly fun h3 x1 x2 => ?_
 have keepB : ∀ b o,s.heap.get? b = some o -> H b = none -> b ∉ frs outer -> B.get? b = some o := fun b o q n nf =>
  W.kb b o (ib.keep b o q n nf (by simp)) (ib.free b o q n (by simp)) (ne b o q nf)
 have thB : ∀ b o,s.heap.get? b = some o -> b ∉ frs outer -> ∃ o',B.get? b = some o' := fun b o q nf => by
  obtain ⟨o',z⟩ := ib.there b o q (by simp)
  exact W.thB b o' z (ne b o q nf)
 have slotF : ∀ b,b ∈ frs outer -> ∀ o,s2.heap.get? b = some o -> ∃ sl,h3.get? b = some { o with slots := sl } := fun b hb o q => by
  obtain ⟨_,o2,q2,nd⟩ := W.fly.2.2.1.mem ((hqm hf).mpr (.inr hb))
  rw [q] at q2
  cases q2
  exact x2 b o q nd
 refine ⟨a,t,C,B,H2,rfl,hE,⟨W.os.trans I.os,W.bare,W.st,x1,W.hok,⟨fun b o q n nf _ => x1.1 b o (keepB b o q n nf),fun b o q n hb _ => ?_,fun b o q n _ => ?_,fun b o q _ => ?_,fun b xs q => W.un.tups b xs (ib.tups b xs q),fun b o u q => W.un.frzs b o u (ib.frzs b o u q),fun b ps q => ?_⟩,keepB,thB⟩⟩
 ·obtain ⟨sl,z⟩ := ib.slot b o q n hb (by simp)
  obtain ⟨sl1,z1⟩ := W.un.slot b _ z (ib.free b o q n (by simp)) ((hqm hf).mpr (.inr hb)) (by simp)
  obtain ⟨sl',z'⟩ := slotF b hb _ z1
  exact ⟨sl',z'⟩
 ·obtain ⟨o',z⟩ := ib.there b o q (by simp)
  exact W.un.free b o' z (ib.free b o q n (by simp)) (by simp)
 ·by_cases hb : b ∈ frs outer
  ·obtain ⟨o',z⟩ := ib.there b o q (by simp)
   obtain ⟨o'',z1⟩ := W.un.there b o' z (by simp)
   obtain ⟨sl',z'⟩ := slotF b hb _ z1
   exact ⟨_,z'⟩
  ·obtain ⟨o',z⟩ := thB b o q hb
   exact ⟨o',x1.1 b o' z⟩
 ·obtain ⟨m1,z⟩ := ib.tbls b ps q
  obtain ⟨m2,z2⟩ := W.un.tbls b _ z
  exact ⟨m1 ++ m2,by rw [z2,Array.append_assoc]⟩
end
def exO (a C : Addr) : HO := .ext fun h => ∃ o,h.get? a = some o ∧ o.cls = .ref C
section
variable {X : Cx} {pins : List (Addr × Obj)} {σ : St} {H H1 H2 : Hp} {s s1 s2 : Shared}
end
structure Catch (K : Frag) (W : Addr) : Prop where
 ty : typeIn K (.ref W) = some (.type "type")
 ex : subIn K (.ref W) (.type "BaseException") = some true
 cl : (clsIn K W).isSome = true
def tTry (K : Frag) (sp : Sp) (t : TA) (W : Addr) (i : Nat) (tb : TS) : TS := fun D σ H => t σ H fun vs H1 => sp vs H1 (fun _ H2 => D.nx σ H2) fun cls _ H2 =>
 ∃ C,cls = .ref C ∧ subIn K (.ref C) (.ref W) = some true ∧ ∀ a,H2 a = none -> tb { nx := fun σ' H' => D.nx (σ'.set i none) H',rt := D.rt } (σ.set i (some (.ref a))) (upd H2 a (exO a C))
end L2
namespace L2
open PySem PySem.Spec PySem.W PySem.Calls PyProof.Rows PySem.Builtin PySem.Builtin.ObjectAttr PySem.Builtin.Getset_descriptor
structure ExLook (K : Frag) (C : Addr) : Prop where
 ga : findIn K (.ref C) "__getattribute__" = some (some (.builtin "BaseException.__getattribute__"))
 cl : findIn K (.ref C) "__class__" = some (some (.builtin "object.__class__"))
 na : findIn K (.ref C) "__getattr__" = some none
 mo : mroIn K C (.type "object") = some true
 mb : mroIn K C (.type "BaseException") = some true
 is : (clsIn K C).isSome = true
section
variable {prog : Program} {w : World} {A : Around} {E : Value -> Shared -> Prop} {hh : Heap} {g : Array GenState} {dr : Drawn} {t : Nat} {os : OsState} {K : Frag} {a C : Addr} {o : Obj}
end
inductive KitAns (K : Frag) (H : Hp) (C : Addr) : V -> Bool -> Prop
 | cls {W : Addr} {b : Bool} : kitOne K (.ref C) (.ref W) = some b -> KitAns K H C (.ref W) b
 | ty {T : String} {b : Bool} : kitOne K (.ref C) (.type T) = some b -> KitAns K H C (.ty T) b
 | tup {p : Addr} {cs : List Addr} {b : Bool} : H p = some (.tup (cs.map V.ref)) -> kitAny K (.ref C) (cs.map Value.ref) = some b -> KitAns K H C (.ref p) b
def rIsE (K : Frag) : List V -> Hp -> VK -> Prop := fun vs H Q => ∃ a c C b,vs = [.ref a,c] ∧ H a = some (exO a C) ∧ ExLook K C ∧ KitAns K H C c b ∧ Q (.bl b) H
end L2
namespace L2
open PySem PySem.W
theorem sqT {K : Frag} {a : Addr} {c : V} {H : Hp} {Q : VK} : rIsE K [.ref a,c] H Q ↔ ∃ C b,H a = some (exO a C) ∧ ExLook K C ∧ KitAns K H C c b ∧ Q (.bl b) H :=
 ⟨fun ⟨_,_,C,b,e,h⟩ => by cases e; exact ⟨C,b,h⟩,fun ⟨C,b,h⟩ => ⟨a,c,C,b,rfl,h⟩⟩
theorem tqh {K : Frag} {sp : Sp} {t : TA} {W : Addr} {i : Nat} {tb : TS} {D : Ends} {σ : St} {H : Hp} : tTry K sp t W i tb D σ H ↔ t σ H fun vs H1 => sp vs H1 (fun _ H2 => D.nx σ H2) fun cls _ H2 =>
 ∃ C,cls = .ref C ∧ subIn K (.ref C) (.ref W) = some true ∧ ∀ a,H2 a = none -> tb { nx := fun σ' H' => D.nx (σ'.set i none) H',rt := D.rt } (σ.set i (some (.ref a))) (upd H2 a (exO a C)) := Iff.rfl
end L2
namespace L2
open PySem PySem.Spec PyProof.Rows
section
variable {X : Cx}
def rStarts : V -> List V -> Hp -> VK -> Prop := fun x vs H Q => ∃ z y,∃ i : Nat,x = .str z ∧ vs = [.str y,.int (i : Int)] ∧ Q (.bl (decide (i + y.length ≤ z.length) && Builtin.Str.subAt z y i)) H
end
section
variable {X : Cx}
def rPart : V -> List V -> Hp -> VK -> Prop := fun x vs H Q => ∃ z y,x = .str z ∧ vs = [.str y] ∧ (y.length == 0) = false ∧ z.length ≤ sizeLine ∧
 ∀ p,H p = none -> Q (.ref p) (upd H p (.tup [.str (Txt.partition z y).1,.str (Txt.partition z y).2.1,.str (Txt.partition z y).2.2]))
end
section
variable {X : Cx}
def rIntS : List V -> Hp -> VK -> Prop := fun xs H Q => ∃ z n,xs = [.str z] ∧ z.length ≤ 640 ∧ PySem.intText? z = some n ∧ Q (.int n) H
theorem pqP : CallR X (.type "int") rIntS := by
 intro pins s σ H xs us Q I r h
 obtain ⟨z,n,rfl,hz,hn,q⟩ := h
 obtain ⟨u,rfl,t,rfl⟩ := vals1 r
 exact PySem.W.KIN.call_text hn hz ⟨.int n,H,I.tok _,⟨_,rfl⟩,q⟩
theorem sqL {z : Str} {H : Hp} {Q : VK} : rIntS [.str z] H Q ↔ ∃ n,z.length ≤ 640 ∧ PySem.intText? z = some n ∧ Q (.int n) H :=
 ⟨fun ⟨_,n,e,h⟩ => by cases e; exact ⟨n,h⟩,fun ⟨n,h⟩ => ⟨z,n,rfl,h⟩⟩
theorem tq2 {z y : Str} {i : Nat} {H : Hp} {Q : VK} : rStarts (.str z) [.str y,.int (i : Int)] H Q ↔ Q (.bl (decide (i + y.length ≤ z.length) && Builtin.Str.subAt z y i)) H :=
 ⟨fun ⟨_,_,j,e1,e2,h⟩ => by
  cases e1
  injection e2 with e2 e3
  cases e2
  injection e3 with e3
  injection e3 with e3
  obtain rfl : i = j := by omega
  exact h,fun h => ⟨z,y,i,rfl,rfl,h⟩⟩
theorem tqN {z y : Str} {H : Hp} {Q : VK} : rPart (.str z) [.str y] H Q ↔ (y.length == 0) = false ∧ z.length ≤ sizeLine ∧ ∀ p,H p = none -> Q (.ref p) (upd H p (.tup [.str (Txt.partition z y).1,.str (Txt.partition z y).2.1,.str (Txt.partition z y).2.2])) :=
 ⟨fun ⟨_,_,e1,e2,h⟩ => by cases e1; cases e2; exact h,fun h => ⟨z,y,rfl,rfl,h⟩⟩
theorem tqb {K : PySem.W.Frag} {ta : TE} {f : Str} {σ : St} {H : Hp} {Q : VK} : (tFld K ta f σ H Q) = (ta σ H fun x H1 => ∃ a C dx fs v,x = .ref a ∧ H1 a = some (.ins C dx fs) ∧ Cls K C ∧ NoAttr K C f ∧ fs.lookup f = some v ∧ Q v H1) := rfl
theorem rqo {K : PySem.W.Frag} {ta tv : TE} {f : Str} {D : Ends} {σ : St} {H : Hp} : (sFld K ta tv f D σ H) = (tv σ H fun y H1 => ta σ H1 fun x H2 => ∃ a C dx fs,x = .ref a ∧ H2 a = some (.ins C dx fs) ∧ Cls K C ∧ NoAttr K C f ∧ fs.length < 1000 ∧ D.nx σ (upd H2 a (.ins C dx (putF f y fs)))) := rfl
theorem sqM {C : Addr} {m : Str} {sp : Sp} {dvs : List V} {E : XK} {ta : TE} {t : TA} {σ : St} {H : Hp} {Q : VK} : (tMeth C m sp dvs E ta t σ H Q) = (ta σ H fun x H1 => ∃ a dx fs,x = .ref a ∧ H1 a = some (.ins C dx fs) ∧ fs.lookup m = none ∧ t σ H1 fun vs H2 => sp (x :: (vs ++ dvs)) H2 Q E) := rfl
theorem sql {C : Addr} {sp : Sp} {dvs : List V} {E : XK} {t : TA} {σ : St} {H : Hp} {Q : VK} : (tMake C sp dvs E t σ H Q) = (t σ H fun vs H1 => ∀ x dx,H1 x = none -> H1 dx = none -> dx ≠ x -> sp (.ref x :: (vs ++ dvs)) (upd (upd H1 dx (.own x)) x (.ins C dx [])) (fun v H2 => v = .non ∧ Q (.ref x) H2) E) := rfl
end
end L2
namespace Wm
open PySem L2
def ahead (t : List Nat) : List Nat := t.takeWhile fun c => decide (c ≠ 58)
inductive WrT (fr : List Nat) : List Nat -> List Nat -> Prop
 | nil : WrT fr [] []
 | self {c : Nat} {s w : List Nat} : (isPl c = true ∨ c ∈ fr) -> c ≠ 126 -> WrT fr s w -> WrT fr (c :: s) (c :: w)
 | pair {c a b : Nat} {s w : List Nat} : sgO a b = some c -> WrT fr s w -> WrT fr (c :: s) (126 :: a :: b :: w)
section
variable {K : PySem.W.Frag} {H : Hp} {C p : Addr} {t : List Nat} {i : Nat}
end
def frS : List Nat := (Str.ofString "!$'()*,;@&=+").cps.toList
def frQ : List Nat := (Str.ofString "!$'()*,;@+/?:").cps.toList
def ValW (o : Option (List Nat)) (w : List Nat) : Prop := match o with
 | none => w = []
 | some s => ∃ v,w = 61 :: v ∧ WrT frQ s v
inductive TlW : List (List Nat) -> Bool -> List Nat -> Prop
 | stop : TlW [] false []
 | ends : TlW [] true [47]
 | more {s w : List Nat} {ss : List (List Nat)} {e : Bool} {v : List Nat} : WrT frS s w -> s ≠ [] -> TlW ss e v -> TlW (s :: ss) e (47 :: (w ++ v))
inductive StpW : List (List Nat) -> Bool -> List Nat -> Prop
 | none {e : Bool} : StpW [] e []
 | some {s w : List Nat} {ss : List (List Nat)} {e : Bool} {v : List Nat} : WrT frS s w -> s ≠ [] -> TlW ss e v -> StpW (s :: ss) e (w ++ v)
inductive PrsW : List (List Nat × Option (List Nat)) -> List Nat -> Prop
 | nil : PrsW [] []
 | cons {n w v : List Nat} {o : Option (List Nat)} {ps : List (List Nat × Option (List Nat))} {r : List Nat} : WrT frQ n w -> n ≠ [] -> ValW o v -> PrsW ps r -> PrsW ((n,o) :: ps) (38 :: (w ++ (v ++ r)))
def fgS : List Nat := (Str.ofString "0123456789").cps.toList
theorem tqe {c : Nat} : c ∈ fgS ↔ 48 ≤ c ∧ c ≤ 57 := by
 rw [show fgS = [48,49,50,51,52,53,54,55,56,57] by decide +kernel]
 simp only [List.mem_cons,List.not_mem_nil,or_false]
 omega
def valD (ds : List Nat) : Nat := ds.foldl (fun a c => a * 10 + (c - 48)) 0
theorem gq4 (ds : List Nat) (c : Nat) : valD (ds ++ [c]) = valD ds * 10 + (c - 48) := by unfold valD; rw [List.foldl_append]; rfl
theorem oq4 : ∀ (es ds : List Nat),valD ds ≤ valD (ds ++ es)
 | [],ds => by rw [List.append_nil]; exact Nat.le_refl _
 | c :: es,ds => by
  have h := oq4 es (ds ++ [c])
  rw [gq4,List.append_assoc] at h
  exact Nat.le_trans (by omega) h
theorem qqS {ds : List Nat} {c : Nat} {r : List Nat} (h : ds = c :: r) (hc : 49 ≤ c) : 0 < valD ds := by
 have := oq4 r [c]
 rw [h]
 have e : valD [c] = c - 48 := by unfold valD; simp
 show 0 < valD ([c] ++ r)
 omega
end Wm
namespace L2
open PySem
end L2
namespace Wm
open PySem L2
theorem jqT : ∀ n : Nat,valD ((Nat.toDigits 10 n).map Char.toNat) = n ∧ (Nat.toDigits 10 n).map Char.toNat ≠ [] ∧ (((Nat.toDigits 10 n).map Char.toNat).head? = some 48 -> n = 0)
 | n => by
  by_cases h : n < 10
  ·rw [Nat.toDigits_of_lt_base h]
   have key : ∀ n,n < 10 -> valD ([Nat.digitChar n].map Char.toNat) = n ∧ ([Nat.digitChar n].map Char.toNat).head? = some (48 + n) := by decide +kernel
   obtain ⟨k1,k2⟩ := key n h
   refine ⟨k1,by simp,fun z => ?_⟩
   rw [k2] at z
   injection z with z
   omega
  ·have h' : 10 ≤ n := by omega
   rw [Nat.toDigits_of_base_le (by decide) h',List.map_append]
   obtain ⟨i1,i2,i3⟩ := jqT (n / 10)
   have key : ∀ n,n < 10 -> ([Nat.digitChar n].map Char.toNat) = [48 + n] := by decide +kernel
   rw [key (n % 10) (by omega),gq4,i1]
   refine ⟨by omega,by simp,fun z => ?_⟩
   cases hh : (Nat.toDigits 10 (n / 10)).map Char.toNat with
   | nil => exact absurd hh i2
   | cons c r =>
    rw [hh] at z i3
    have := i3 z
    omega
def GoodsT (n : Nat) (H : Hp) (vs : List V) : Prop := ∀ v ∈ vs,∃ x : Ad,(x.Wf ∧ x.Tiny ∧ x.steps.length ≤ n) ∧ IsT H x.data v
theorem GoodsT.cons {n : Nat} {H : Hp} {v : V} {vs : List V} {x : Ad} (h1 : x.Wf ∧ x.Tiny ∧ x.steps.length ≤ n) (h3 : IsT H x.data v) (h : GoodsT n H vs) : GoodsT n H (v :: vs) := fun u hu => by
 rcases List.mem_cons.mp hu with rfl | hu
 ·exact ⟨x,h1,h3⟩
 ·exact h u hu
theorem Ad.Tiny.local {x : Ad} (h : x.Tiny) : ({ x with scheme := [],house := none,door := none } : Ad).Tiny := ⟨h.stp,h.que,h.mar,fun l e => by cases e⟩
end Wm
namespace L2
open PySem PySem.Spec PyProof.Rows
section
variable {X : Cx} {pins : List (Addr × Obj)} {σ : St} {H : Hp} {s : Shared} {h' : Heap}
theorem Inv.walked {t' : Nat} {wr : List Addr} {T : Addr} {o : HO} (I : Inv X pins σ H s) (hf : ∀ b ∈ wr,FpOk X pins H b) (k : ∀ b u,b ∉ wr -> s.heap.get? b = some u -> h'.get? b = some u) (hT : s.heap.objs.size ≤ T)
  (new : ObjOk X.prog X.w (upd H T o) h' T o) : Inv X pins σ (upd H T o) { s with heap := h',toks := t' } := by
 have hn : H T = none := I.hok.fresh hT
 have nw : ∀ b u,H b = some u -> b ∉ wr := fun b u e z => by rw [(hf b z).1] at e; cases e
 refine I.step (g' := s.gens) (d' := s.drawn) (ch := wr) (fun b hb => ?_) (fun b u _ _ hc e _ => k b u hc e) (fun b u _ _ hc e _ => ⟨u.slots,k b u hc e⟩) (fun b u _ q n => ?_)
  (fun b u hc e => ⟨u,k b u hc e⟩) (fun b xs q => ?_) (fun b u xs q => ?_) (fun b ps q => ?_) (fun m hm => ?_) (fun b u e => ?_) I.bare
 ·obtain ⟨f0,f1,f2,f3,f4,f5⟩ := hf b hb
  exact ⟨f3,f1,f4,f5⟩
 ·rw [aqt (Nat.ne_of_lt (Nat.lt_of_lt_of_le (Heap.lt_size q) hT))]; exact n
 ·rw [aqt (aqo q hn)]; exact q
 ·rw [aqt (aqo q hn)]; exact q
 ·exact ⟨#[],by rw [aqt (aqo q hn),q]; simp⟩
 ·obtain ⟨u,es,ep,ho,r⟩ := hm
  refine ⟨u,es,ep,k _ u (fun z => ?_) ho,r⟩
  exact (hf _ z).2.1 rfl
 ·by_cases hb : b = T
  ·subst hb; rw [aqm] at e; cases e; exact new
  ·rw [aqt hb] at e
   refine (I.hok b u e).stay (fun c v hc q => k c v ?_ q) (fun c q => by rw [aqt (aqo q hn)]; exact q) fun c xs q => by rw [aqt (aqo q hn)]; exact q
   rcases hc with z | z
   ·rw [z]; exact nw b u e
   ·exact nw c _ z
theorem Inv.turnedL {t' : Nat} {wr : List Addr} (I : Inv X pins σ H s) (hf : ∀ b ∈ wr,FpOk X pins H b) (k : ∀ b u,b ∉ wr -> s.heap.get? b = some u -> h'.get? b = some u) : Inv X pins σ H { s with heap := h',toks := t' } := by
 have nw : ∀ b u,H b = some u -> b ∉ wr := fun b u e z => by rw [(hf b z).1] at e; cases e
 refine I.step (g' := s.gens) (d' := s.drawn) (ch := wr) (fun b hb => ?_) (fun b u _ _ hc e _ => k b u hc e) (fun b u _ _ hc e _ => ⟨u.slots,k b u hc e⟩) (fun _ _ _ _ n => n)
  (fun b u hc e => ⟨u,k b u hc e⟩) (fun _ _ e => e) (fun _ _ _ e => e) (fun b ps e => ⟨#[],by rw [e]; simp⟩) (fun m hm => ?_) (fun b u e => ?_) I.bare
 ·obtain ⟨f0,f1,f2,f3,f4,f5⟩ := hf b hb
  exact ⟨f3,f1,f4,f5⟩
 ·obtain ⟨u,es,ep,ho,r⟩ := hm
  refine ⟨u,es,ep,k _ u (fun z => ?_) ho,r⟩
  exact (hf _ z).2.1 rfl
 ·refine (I.hok b u e).stay (fun c v hc q => k c v ?_ q) (fun _ q => q) fun _ _ q => q
  rcases hc with z | z
  ·rw [z]; exact nw b u e
  ·exact nw c _ z
end
def ItW (n : Nat) (ok : Hp -> Prop) (pt : Nat -> Hp -> List V -> Prop) : It :=
 ⟨fun i H => i < n ∧ ok H,fun i H x H' => ∃ T xs,x = .ref T ∧ H T = none ∧ H' = upd H T (.tup xs) ∧ pt i H xs,fun i H => i = n ∧ ok H⟩
theorem iq5 {P : Program} {w : World} {K : PySem.W.Frag} {elts : List Expr} {k : Nat} {pos : Pos} {I : Addr} {fp wr fq : List Addr} {n : Nat} {α : Type} {Pt : α -> Nat -> Array Value -> Prop} {Sn : α -> Nat -> Heap -> Prop} {Mid : α -> Nat -> Addr -> Heap -> Prop} {tn : Nat -> Heap -> Prop} {ok : Hp -> Prop} {pt : Nat -> Hp -> List V -> Prop}
  (hI : I ∈ fq) (hq : ∀ b ∈ wr,b ∈ fq) (hW : ∀ (A : Around) (a : α),A.handled = none -> WalksT P w A I fp wr n (Pt a) (Sn a) (Mid a))
  (hself : ∀ (A : Around) (i : Nat) (s : Shared) (Q : Value -> Shared -> Prop) (E : Value -> Shared -> Prop),tn i s.heap -> Q (.ref I) s -> wpAny (model P w) A (pyIter (.ref I)) Q E s)
  (hobj : ∀ i h,tn i h -> ∀ b ∈ fq,∃ o,h.get? b = some o ∧ ∀ v,o.data ≠ .cell v)
  (hkeep : ∀ i h h',tn i h -> (∀ b ∈ fq,∀ o,h.get? b = some o -> h'.get? b = some o) -> tn i h')
  (hin : ∀ (X : Cx),X.prog = P -> X.w = w -> X.K = K -> ∀ (i : Nat) (pins : List (Addr × Obj)) (s : Shared) (σ : St) (H : Hp),Inv X pins σ H s -> (∀ b ∈ fq,FpOk X pins H b) -> tn i s.heap -> ok H -> ∃ a,Sn a i s.heap ∧ ∀ vals,Pt a i vals -> ∃ xs,xs.length ≤ sizeLine ∧ Vals xs vals.toList ∧ pt i H xs)
  (hout : ∀ a i h,Sn a i h -> tn i h) :
  Turn P w K (.Tuple elts k pos) (ItW n ok pt) fq I tn where
 mem := hI
 obj := hobj
 keep := hkeep
 item := by
  intro X hP hw hK hc i pins s σ H E J hf st hg
  obtain ⟨hi,hok⟩ := hg
  have hfw : ∀ b ∈ wr,FpOk X pins H b := fun b hb => hf b (hq b hb)
  obtain ⟨a,hst,hv⟩ := hin X hP hw hK i pins s σ H J hf st hok
  obtain ⟨hW1,hW2,hW3,hW4,hW5,hW6,hW7⟩ := hW X.A a (J.ok.hd hc)
  refine hW3 i s _ E hi hst fun T vals h1 tk hPt hT hTup hmid hk => ?_
  refine ⟨.ref T,rfl,?_⟩
  refine hW4 elts k pos i T _ _ E hmid fun h2 st2 hk2 => ?_
  obtain ⟨xs,hxl,hvs,hpt⟩ := hv vals hPt
  have hTw : T ∉ wr := hW5 i T h1 hmid
  have hTn : H T = none := J.hok.fresh hT
  have hk3 : ∀ b u,b ∉ wr -> s.heap.get? b = some u -> h2.get? b = some u := fun b u hb e => hk2 b u hb (hk b u hb e)
  obtain ⟨o,ho,hcl,m,hd⟩ := hTup
  have hT2 : IsTup h2 T vals.toList.toArray := by
   refine ⟨o,hk2 T o hTw ho,hcl,m,?_⟩
   rw [hd]
  refine ⟨.ref T,upd H T (.tup xs),J.walked (t' := tk) hfw hk3 hT ⟨hxl,vals.toList,hvs,hT2⟩,rfl,⟨T,xs,rfl,hTn,rfl,hpt⟩,hout a _ _ st2,fun b hb => ?_⟩
  have : b ≠ T := fun z => by
   obtain ⟨o,e,_⟩ := hobj i _ st b hb
   exact absurd (Heap.lt_size e) (by rw [z]; exact Nat.not_lt.mpr hT)
  rw [aqt this]
  exact (hf b hb).1
 done := by
  intro X hP hw hK hc i pins s σ H E J hf st hg
  obtain ⟨hi,hok⟩ := hg
  subst hi
  have hfw : ∀ b ∈ wr,FpOk X pins H b := fun b hb => hf b (hq b hb)
  obtain ⟨a,hst,_⟩ := hin X hP hw hK i pins s σ H J hf st hok
  obtain ⟨hW1,hW2,hW3,hW4,hW5,hW6,hW7⟩ := hW X.A a (J.ok.hd hc)
  exact hW6 s _ E hst fun h1 tk hk => ⟨rfl,J.turnedL hfw hk⟩
 self := hself
section
variable {σ : St} {H : Hp} {D : Ends} {g : TG} {tb : TS}
theorem iqV {n : Nat} {ok : Hp -> Prop} {pt : Nat -> Hp -> List V -> Prop} (Pv : Nat -> St -> Hp -> Prop) (h0 : Pv 0 σ H) (hl : ∀ i σ H,i ≤ n -> Pv i σ H -> ok H)
  (hs : ∀ i σ H T xs,i < n -> Pv i σ H -> H T = none -> pt i H xs -> g (.ref T) σ (upd H T (.tup xs)) fun σ2 H2 => tb { D with nx := Pv (i + 1),ct := Pv (i + 1),bk := D.nx } σ2 H2) (hd : ∀ σ H,Pv n σ H -> D.nx σ H) : LoopI (ItW n ok pt) g tb D σ H := by
 refine ⟨fun i m σ H => m = n - i ∧ i ≤ n ∧ Pv i σ H,⟨n,by simp,Nat.zero_le _,h0⟩,?_⟩
 rintro i m σ H ⟨rfl,hi,p⟩
 have hq := hl i σ H hi p
 by_cases hlt : i < n
 ·refine .inr ⟨⟨hlt,hq⟩,Pv (i + 1),fun σ' H' p' => ⟨n - (i + 1),by omega,rfl,hlt,p'⟩,fun x H' y => ?_⟩
  obtain ⟨T,xs,rfl,hT,rfl,hp⟩ := y
  exact hs i σ _ T xs hlt p hT hp
 ·have e : i = n := by omega
  subst e
  exact .inl ⟨⟨rfl,hq⟩,hd σ H p⟩
end
section
variable {prog : Program} {w : World} {A : Around} {E : Value -> Shared -> Prop} {s : Shared}
theorem pql {it a : Addr} {i : Nat} {its : Array Value} {x : Value} {Q : Value -> Shared -> Prop} (hi : s.heap.IsTupleIter it a i) (ha : s.heap.IsTuple a its) (hx : its[i]? = some x)
  (q : ∀ h',h'.IsTupleIter it a (i + 1) -> Heap.SameBut it s.heap h' -> Q x { s with heap := h' }) : wpAny (model prog w) A (Builtin.SmallTypes.nextOf (.ref it)) Q E s := by
 obtain ⟨u,hu,hcu,hdu⟩ := id hi
 obtain ⟨v,hv,_,m,hdv⟩ := ha
 unfold Builtin.SmallTypes.nextOf
 refine wpAny_bind (wpAny_callSpecial?_slot (name := Str.ofString "__next__") hi.typeIs F.slot_tuple_iterator_next (wpAny_call_entry F.slot_tuple_iterator_next hi.typeIs F.entry_tuple_iterator_next ?_ (F.args_tuple_iterator_next_1 _)))
 show wpAny _ _ (field (.ref it) 0 >>= _) _ _ _
 refine wpAny_bind (wpAny_field hu hdu (x := .ref a) rfl ?_)
 show wpAny _ _ (if (Value.ref a == Value.none) = true then _ else _) _ _ _
 rw [if_neg (by exact Bool.false_ne_true)]
 show wpAny _ _ (field (.ref it) 1 >>= _) _ _ _
 refine wpAny_bind (wpAny_field hu hdu (x := .int i 0) rfl ?_)
 show wpAny _ _ (seqItems? (.ref a) >>= _) _ _ _
 refine wpAny_bind (wpAny_seqItems hv hdv ?_)
 simp only [Int.toNat_natCast,hx]
 refine wpAny_bind (wpAny_setField hu hdu (by simp) (wpAny_pure ⟨x,rfl,wpAny_pure (q _ ⟨_,Heap.get?_update_self _ hu (Obj.isFreed_of_fields (Obj.data_mapFields hdu _)),(Obj.cls_mapFields ..).trans hcu,?_⟩ (Heap.SameBut.update ..))⟩))
 rw [Obj.data_mapFields hdu]
 simp [rawInt]
theorem oqX {it a : Addr} {i : Nat} {its : Array Value} {Q : Value -> Shared -> Prop} (hh : A.handled = none) (hi : s.heap.IsTupleIter it a i) (ha : s.heap.IsTuple a its) (hx : its[i]? = none)
  (q : ∀ h' e,Heap.ExtBut it s.heap h' -> (∃ o,h'.get? e = some o ∧ o.cls = .type "StopIteration") -> E (.ref e) { s with heap := h' }) : wpAny (model prog w) A (Builtin.SmallTypes.nextOf (.ref it)) Q E s := by
 obtain ⟨u,hu,hcu,hdu⟩ := id hi
 obtain ⟨v,hv,_,m,hdv⟩ := ha
 unfold Builtin.SmallTypes.nextOf
 refine wpAny_bind (wpAny_callSpecial?_slot (name := Str.ofString "__next__") hi.typeIs F.slot_tuple_iterator_next (wpAny_call_entry F.slot_tuple_iterator_next hi.typeIs F.entry_tuple_iterator_next ?_ (F.args_tuple_iterator_next_1 _)))
 show wpAny _ _ (field (.ref it) 0 >>= _) _ _ _
 refine wpAny_bind (wpAny_field hu hdu (x := .ref a) rfl ?_)
 show wpAny _ _ (if (Value.ref a == Value.none) = true then _ else _) _ _ _
 rw [if_neg (by exact Bool.false_ne_true)]
 show wpAny _ _ (field (.ref it) 1 >>= _) _ _ _
 refine wpAny_bind (wpAny_field hu hdu (x := .int i 0) rfl ?_)
 show wpAny _ _ (seqItems? (.ref a) >>= _) _ _ _
 refine wpAny_bind (wpAny_seqItems hv hdv ?_)
 simp only [Int.toNat_natCast,hx]
 refine wpAny_bind (wpAny_rule (wpAny_bind (wpAny_setField hu hdu (by simp) ?_)))
 show wpAny _ A.in1 (newExc (.type "StopIteration") [] >>= _) _ _ _
 unfold newExc newTuple
 refine wpAny_bind (wpAny_bind (wpAny_newObj_type (wpAny_bind (m := firstArgMember _ _) (wpAny_of_eq (a := Value.none) (by first | rfl | (simp only [firstArgMember]; rfl)) (wpAny_newObj_type ?_ (by size_fits)))) (by size_fits)))
 unfold raiseNew
 refine wpAny_bind (wpAny_handled ?_)
 rw [show A.in1.handled = none from hh]
 exact wpAny_bind (wpAny_pure (wpAny_throw (q _ _ (((Heap.SameBut.update ..).extBut.push _).push _) ⟨_,Heap.get?_push_size _ rfl,rfl⟩)))
theorem iqF (hh : A.handled = none) (it a : Addr) (hne : a ≠ it) (its : Array Value) : Draws prog w A it [it,a] its.size (fun i v => its[i]? = some v) (fun i h => h.IsTupleIter it a i ∧ h.IsTuple a its) where
 live := fun _ _ st => let ⟨o,ho,_⟩ := st.1; ⟨o,ho⟩
 frame := fun _ _ _ st hk => ⟨let ⟨o,ho,r⟩ := st.1; ⟨o,hk it (by simp) o ho,r⟩,let ⟨o,ho,r⟩ := st.2; ⟨o,hk a (by simp) o ho,r⟩⟩
 item := fun i s Q E hi st hQ => pql st.1 st.2 (x := its[i]) (by simp [hi]) fun h' hit' hs' => hQ _ h' s.toks (by simp [hi]) ⟨hit',st.2.extBut hs'.extBut hne⟩ hs'
 done := fun s Q E st hE => oqX hh st.1 st.2 (by simp) hE
end
abbrev titO (t : Addr) : Obj := { cls := .type "tuple_iterator",data := .fields #[.ref t,.int 0 0] }
abbrev enuO (it : Addr) : Obj := { cls := .type "enumerate",data := .fields #[.none,.bool false,.ref it,rawInt 0,.none,.none] }
theorem qqb (t : Addr) (its : Array Value) : Meets (Builtin.«enumerate.__new__» ⟨[.type "enumerate",.ref t],[]⟩) (fun _ R s => s.heap.IsTuple t its ∧
  R (.ok (.ret (.ref (s.heap.push (titO t)).objs.size))) { s with heap := (s.heap.push (titO t)).push (enuO s.heap.objs.size) }) :=
 .of_wp fun prog w A R s h => by
  obtain ⟨hp,g,d,tk,os⟩ := s; obtain ⟨hl,h⟩ := h
  have hsub := sub_enumerate
  wp_walk using wpAny_pyIter_tuple hl
  refine wpAny_stack_any fun _ => wpAny_pure ?_
  split
  ·rename_i z _ _ _ _ _
   cases (z == Value.type "enumerate") <;> (wp_walk using wpAny_pyIter_tuple hl) <;> exact ⟨_,rfl,h⟩
  ·wp_walk using wpAny_pyIter_tuple hl
   exact ⟨_,rfl,h⟩
section
variable {prog : Program} {w : World} {A : Around} {E : Value -> Shared -> Prop} {s : Shared}
theorem oqC {t : Addr} {its : Array Value} {Q : Value -> Shared -> Prop} (ht : s.heap.IsTuple t its)
  (h : ∀ h',IsEnum h' (s.heap.objs.size + 1) s.heap.objs.size 0 .none -> h'.IsTupleIter s.heap.objs.size t 0 -> (∀ b o,s.heap.get? b = some o -> h'.get? b = some o) -> Q (.ref (s.heap.objs.size + 1)) { s with heap := h' }) :
  wpAny (model prog w) A (call (.type "enumerate") [.ref t]) Q E s := by
 refine callType_new F.called_enumerate (by decide) (F.typeCall_enumerate_1 _) (F.newCall_enumerate_1 _) (fun obj => F.args_object_init_2 obj _) F.entry_enumerate_new (qqb t its) ⟨ht,?_⟩
 have hz : (s.heap.push (titO t)).objs.size = s.heap.objs.size + 1 := Heap.size_push ..
 show _ ∧ _
 rw [hz]
 have he : IsEnum ((s.heap.push (titO t)).push (enuO s.heap.objs.size)) (s.heap.objs.size + 1) s.heap.objs.size 0 .none := by
  have := Heap.get?_push_size (s.heap.push (titO t)) (o := enuO s.heap.objs.size) rfl
  rw [hz] at this
  exact this
 exact ⟨⟨_,he,rfl⟩,h _ he ⟨_,Heap.get?_push_of_some _ (Heap.get?_push_size _ rfl),rfl,rfl⟩ fun b o x => Heap.get?_push_of_some _ (Heap.get?_push_of_some _ x)⟩
end
def ItE (K : PySem.W.Frag) (a : Addr) (xs : List V) : It := ItW xs.length (fun H => SqT K H a xs) fun i _ ys => ∃ v,xs[i]? = some v ∧ ys = [.int (i : Int),v]
theorem oqm {P : Program} {w : World} {K : PySem.W.Frag} {elts : List Expr} {k : Nat} {pos : Pos} (a it e : Addr) (xs : List V) (h1 : a ≠ it) (h2 : e ≠ it) (h3 : e ≠ a) :
  Turn P w K (.Tuple elts k pos) (ItE K a xs) [e,it] e (fun i h => (∃ old,IsEnum h e it i old) ∧ h.IsTupleIter it a i) := by
 refine iq5 (fp := e :: [it,a]) (α := { its : Array Value // its.size = xs.length }) (Pt := fun z i vals => ∃ t x,z.1[i]? = some x ∧ vals = #[.int i t,x])
  (Sn := fun z i h => (∃ old,IsEnum h e it i old) ∧ (h.IsTupleIter it a i ∧ h.IsTuple a z.1)) (Mid := fun z i T h => (∃ x,IsEnumOut h e it ((i : Int) + 1) x T) ∧ (h.IsTupleIter it a (i + 1) ∧ h.IsTuple a z.1) ∧ T ≠ e ∧ T ≠ it)
  (by simp) (fun _ z => z) (fun A z hh => ?_) (fun A i s Q E st q => ?_) (fun i h st b hb => ?_) (fun i h h' st kp => ?_) ?_ (fun z i h st => ⟨st.1,st.2.1⟩)
 ·have := WalksT.enumerateD (iqF (prog := P) (w := w) (A := A.in1) hh it a h1 z.1) e h2 (by simp [h2,h3]) (by simp)
  rw [z.2] at this
  exact this
 ·obtain ⟨⟨old,he⟩,_⟩ := st
  exact wpAny_pyIter_enum he q
 ·obtain ⟨⟨old,he⟩,o,ho,hc,hd⟩ := st
  rcases List.mem_cons.mp hb with rfl | hb
  ·exact ⟨_,he,fun v z => by cases z⟩
  ·rw [List.mem_singleton.mp hb]
   exact ⟨o,ho,fun v z => by rw [hd] at z; cases z⟩
 ·obtain ⟨⟨old,he⟩,o,ho,r⟩ := st
  exact ⟨⟨old,kp e (by simp) _ he⟩,o,kp it (by simp) o ho,r⟩
 ·intro X hP hw hK i pins s σ H J hf st hok
  subst hP hw hK
  obtain ⟨its,rv,p,hz⟩ := J.tuple hok
  refine ⟨⟨its.toArray,by have := rv.length; simp; omega⟩,⟨st.1,st.2,p⟩,?_⟩
  rintro vals ⟨t,x,hx,rfl⟩
  have hx' : its[i]? = some x := by simpa using hx
  have hi : i < xs.length := by have := rv.length; have := (List.getElem?_eq_some_iff.mp hx').1; omega
  obtain ⟨u,hu,ru⟩ := rv.get (List.getElem?_eq_getElem hi)
  rw [hx'] at hu
  cases hu
  exact ⟨[.int (i : Int),xs[i]],(show 2 ≤ sizeLine by decide),.cons ⟨t,rfl⟩ (.cons ru .nil),xs[i],List.getElem?_eq_getElem hi,rfl⟩
section
variable {X : Cx} {K : PySem.W.Frag} {elts : List Expr} {kk : Nat} {tpos : Pos}
def iEnum (K : PySem.W.Frag) (ta : TA) : TI := fun σ H R => ta σ H fun vs H1 => ∃ a xs,vs = [.ref a] ∧ SqT K H1 a xs ∧ R (ItE K a xs) H1
theorem oqV {a : Expr} {ta : TA} {p pos : Pos} (h : X.K = K) (hg : Gl X "enumerate") (hm : X.mg "enumerate" = none) (ha : PA X [a] ta) (hs : starEach [a] X.env = [(false,eval a X.env)] := by rfl) : PI X (.Tuple elts kk tpos) (.Call (.Name "enumerate" p) [a] [] pos) (iEnum K ta) := by
 subst h
 intro pins s σ H R I q
 refine Call_ (gqN I hg hm boot_enumerate (PyProof.Rows.callWith_type1 (thn (ha pos pins s σ H _ I q) fun us s1 W' => ?_) hs rfl))
 obtain ⟨vs,H1,I1,r1,q1⟩ := W'
 obtain ⟨a,xs,e,hq,q⟩ := q1
 subst e
 obtain ⟨u,rfl,ru⟩ := vals1 r1
 cases ru
 obtain ⟨its,rv,pt,hz⟩ := I1.tuple hq
 refine oqC (show s1.heap.IsTuple a its.toArray from pt) fun h' he hi hk => ?_
 refine wpAny_pyIter_enum (s := { s1 with heap := h' }) he ?_
 have hal : a < s1.heap.objs.size := by obtain ⟨o,ho,_⟩ := pt; exact Heap.lt_size ho
 have hkept : Inv X pins σ H1 { s1 with heap := h' } := I1.kept (t' := s1.toks) hk
 refine ⟨s1.heap.objs.size + 1,[s1.heap.objs.size + 1,s1.heap.objs.size],_,_,H1,rfl,hkept,oqm a s1.heap.objs.size (s1.heap.objs.size + 1) xs (Nat.ne_of_lt hal) (Nat.succ_ne_self _) (Nat.ne_of_gt (Nat.lt_succ_of_lt hal)),⟨⟨_,he⟩,hi⟩,fun b hb => ?_,q⟩
 simp only [List.mem_cons,List.not_mem_nil,or_false] at hb
 have hb' : s1.heap.objs.size ≤ b := by
  rcases hb with rfl | rfl
  ·exact Nat.le_succ _
  ·exact Nat.le_refl _
 exact I1.fpOk hb' (I1.hok.fresh hb')
variable {σ : St} {H : Hp} {D : Ends} {g : TG} {tb : TS} {aa : TA}
theorem sqr : (tFor (iEnum K aa) g tb D σ H) = (aa σ H fun vs H1 => ∃ a xs,vs = [.ref a] ∧ SqT K H1 a xs ∧ LoopI (ItE K a xs) g tb D σ H1) := rfl
theorem lq0 {a : Addr} {xs : List V} (Pv : Nat -> St -> Hp -> Prop) (h0 : Pv 0 σ H) (hl : ∀ i σ H,i ≤ xs.length -> Pv i σ H -> SqT K H a xs)
  (hs : ∀ i v σ H T,xs[i]? = some v -> Pv i σ H -> H T = none -> g (.ref T) σ (upd H T (.tup [.int (i : Int),v])) fun σ2 H2 => tb { D with nx := Pv (i + 1),ct := Pv (i + 1),bk := D.nx } σ2 H2) (hd : ∀ σ H,Pv xs.length σ H -> D.nx σ H) : LoopI (ItE K a xs) g tb D σ H :=
 iqV Pv h0 hl (fun i σ H T ys _ p hT hy => by obtain ⟨v,hv,rfl⟩ := hy; exact hs i v σ H T hv p hT) hd
end
structure Zap (z TI TO i1 i2 l1 l2 : Addr) : Prop where
 a1 : TI ≠ z ∧ TO ≠ z ∧ i1 ≠ z ∧ i2 ≠ z ∧ l1 ≠ z ∧ l2 ≠ z
 a2 : TI ≠ TO ∧ TI ≠ i1 ∧ TI ≠ i2 ∧ TO ≠ i1 ∧ TO ≠ i2 ∧ i1 ≠ i2
 a3 : l1 ≠ TO ∧ l2 ≠ TO ∧ l1 ≠ i2 ∧ l2 ≠ i1
section
variable {prog : Program} {w : World} {A : Around} {E : Value -> Shared -> Prop} {s : Shared}
variable {z TI TO i1 i2 l1 l2 : Addr} {n1 n2 k : Nat} {P1 P2 : Nat -> Value -> Prop} {S1 S2 : Nat -> Heap -> Prop}
theorem still {it l b : Addr} {n i : Nat} {P : Nat -> Value -> Prop} {S : Nat -> Heap -> Prop} {h h' : Heap} (D : Draws prog w A it [it,l] n P S) (st : S i h) (e : Heap.ExtBut b h h') (h1 : it ≠ b) (h2 : l ≠ b) : S i h' :=
 D.frame i h h' st fun c hc o q => e c o (by rcases List.mem_cons.mp hc with rfl | hc; exact h1; rw [List.mem_singleton.mp hc]; exact h2) q
theorem qqJ (hh : A.handled = none) (d1 : ∀ A : Around,A.handled = none -> Draws prog w A i1 [i1,l1] n1 P1 S1) (d2 : ∀ A : Around,A.handled = none -> Draws prog w A i2 [i2,l2] n2 P2 S2) (ap : Zap z TI TO i1 i2 l1 l2) {a b : Value} {Q : Value -> Shared -> Prop}
  (hz : IsZip s.heap z TI TO .none) (hTI : IsPair s.heap TI (.ref i1) (.ref i2)) (hTO : IsPair s.heap TO a b) (t1 : S1 k s.heap) (t2 : S2 k s.heap) (k1 : k < n1) (k2 : k < n2)
  (q : ∀ x y h' tk,P1 k x -> P2 k y -> IsZip h' z TI TO (rawInt s.heap.objs.size) -> IsPair h' TO x y -> S1 (k + 1) h' -> S2 (k + 1) h' -> IsPair h' s.heap.objs.size x y ->
   (∀ c o,c ≠ z -> c ≠ TO -> c ≠ i1 -> c ≠ i2 -> s.heap.get? c = some o -> h'.get? c = some o) -> Q (.ref s.heap.objs.size) { s with heap := h',toks := tk }) :
  wpAny (model prog w) A (Builtin.«zip.__next__» ⟨[.ref z],[]⟩) (fun fin s' => ∃ v,fin = .done (.ret v) ∧ Q v s') E s := by
 obtain ⟨⟨p1,p2,p3,p4,p5,p6⟩,⟨q1,q2,q3,q4,q5,q6⟩,r1,r2,r3,r4⟩ := ap
 show wpAny _ _ (field (.ref z) 2 >>= _) _ _ s
 refine wpAny_bind (wpAny_field (s := s) hz rfl (x := .bool false) rfl ?_)
 show wpAny _ _ (field (.ref z) 3 >>= _) _ _ s
 refine wpAny_bind (wpAny_field (s := s) hz rfl (x := .ref TI) rfl (wpAny_bind (wpAny_seqItems hTI rfl ?_)))
 show wpAny _ _ (Builtin.SmallTypes.ownedTupleIsFree (.ref z) >>= _) _ _ s
 unfold Builtin.SmallTypes.ownedTupleIsFree
 refine wpAny_bind (wpAny_bind (wpAny_field (s := s) hz rfl (x := .none) rfl (wpAny_pure ?_)))
 simp only [if_true]
 refine wpAny_bind (wpAny_rule (wpAny_bind (wpAny_field (s := s) hz rfl (x := .ref TO) rfl (wpAny_bind (wpAny_setField_rec hz (by simp) fun ha za sa => ?_)))))
 replace za : IsZip ha z TI TO .ellipsis := za
 simp only [List.zipIdx_cons,List.zipIdx_nil,List.forIn_cons,List.forIn_nil]
 refine wpAny_bind (wpAny_bind (wpAny_bind (wpAny_onRaise ?_)))
 show wpAny _ _ (Builtin.SmallTypes.nextOf (.ref i1) >>= _) _ _ _
 refine wpAny_bind ((d1 A hh).item k _ _ _ k1 (still (d1 A hh) t1 sa.extBut p3 p5) fun x hb tb px s1b sb => wpAny_pure ?_)
 have ob : IsPair hb TO a b := sb.extBut _ _ q4 (sa.extBut _ _ p2 hTO)
 refine wpAny_bind (wpAny_seqItems ob rfl (wpAny_bind (wpAny_updateSeq_pair ob fun hc oc sc => wpAny_bind (wpAny_letGo (wpAny_pure ?_)))))
 replace oc : IsPair hc TO x b := oc
 refine wpAny_bind (wpAny_bind (wpAny_onRaise ?_))
 show wpAny _ _ (Builtin.SmallTypes.nextOf (.ref i2) >>= _) _ _ _
 have t2c : S2 k hc := still (d2 A hh) (still (d2 A hh) (still (d2 A hh) t2 sa.extBut p4 p6) sb.extBut q6.symm r4) sc.extBut q5.symm r2
 refine wpAny_bind ((d2 A hh).item k _ _ _ k2 t2c fun y hd td py s2d sd => wpAny_pure ?_)
 have od : IsPair hd TO x b := sd.extBut _ _ q5 oc
 refine wpAny_bind (wpAny_seqItems od rfl (wpAny_bind (wpAny_updateSeq_pair od fun he oe se => wpAny_bind (wpAny_letGo (wpAny_pure (wpAny_pure ?_))))))
 replace oe : IsPair he TO x y := oe
 refine wpAny_bind (wpAny_seqItems oe rfl (wpAny_bind (wpAny_newTuple ?_)))
 have ze : IsZip he z TI TO .ellipsis := se.extBut _ _ p2.symm (sd.extBut _ _ p4.symm (sc.extBut _ _ p2.symm (sb.extBut _ _ p3.symm za)))
 have hsz : he.objs.size = s.heap.objs.size := by rw [se.1,sd.1,sc.1,sb.1,sa.1]
 have ke : ∀ c o,c ≠ z -> c ≠ TO -> c ≠ i1 -> c ≠ i2 -> s.heap.get? c = some o -> he.get? c = some o := fun c o c1 c2 c3 c4 e => se.extBut _ _ c2 (sd.extBut _ _ c4 (sc.extBut _ _ c2 (sb.extBut _ _ c3 (sa.extBut _ _ c1 e))))
 have s1e : S1 (k + 1) he := still (d1 A hh) (still (d1 A hh) (still (d1 A hh) s1b sc.extBut q4.symm r1) sd.extBut q6 r3) se.extBut q4.symm r1
 have s2e : S2 (k + 1) he := still (d2 A hh) s2d se.extBut q5.symm r2
 have zl : z < he.objs.size := Heap.lt_size ze
 show wpAny _ _ (Builtin.SmallTypes.ownedTupleHandOut (.ref z) (.ref he.objs.size) >>= _) _ _ _
 unfold Builtin.SmallTypes.ownedTupleHandOut
 have zf : IsZip (he.push { cls := .type "tuple",data := .seq #[x,y] }) z TI TO .ellipsis := Heap.get?_push_of_some _ ze
 refine wpAny_bind (wpAny_bind (wpAny_setField_rec zf (by simp) fun hf zg sf => ?_))
 replace zg : IsZip hf z TI TO (rawInt he.objs.size) := zg
 refine wpAny_setField_rec zg (by simp) fun hg zh sg => ?_
 replace zh : IsZip hg z TI TO (rawInt he.objs.size) := zh
 have up : ∀ c o,c ≠ z -> he.get? c = some o -> hg.get? c = some o := fun c o c1 e => sg.extBut _ _ c1 (sf.extBut _ _ c1 (Heap.get?_push_of_some _ e))
 have tg : IsPair hg he.objs.size x y := sg.extBut _ _ (Nat.ne_of_gt zl) (sf.extBut _ _ (Nat.ne_of_gt zl) (Heap.get?_push_size _ rfl))
 rw [hsz] at zh tg
 refine wpAny_pure ⟨_,rfl,?_⟩
 show Q (.ref he.objs.size) _
 rw [hsz]
 exact q x y hg td px py zh (up _ _ p2 oe) ((d1 A hh).frame _ _ _ s1e fun c hc o e => up c o (by rcases List.mem_cons.mp hc with rfl | hc; exact p3; rw [List.mem_singleton.mp hc]; exact p5) e) ((d2 A hh).frame _ _ _ s2e fun c hc o e => up c o (by rcases List.mem_cons.mp hc with rfl | hc; exact p4; rw [List.mem_singleton.mp hc]; exact p6) e) tg fun c o c1 c2 c3 c4 e => up c o c1 (ke c o c1 c2 c3 c4 e)
theorem qq0 (hh : A.handled = none) (d1 : ∀ A : Around,A.handled = none -> Draws prog w A i1 [i1,l1] n1 P1 S1) (d2 : ∀ A : Around,A.handled = none -> Draws prog w A i2 [i2,l2] n2 P2 S2) (ap : Zap z TI TO i1 i2 l1 l2) {a b : Value} {Q : Fin -> Shared -> Prop}
  (hz : IsZip s.heap z TI TO .none) (hTI : IsPair s.heap TI (.ref i1) (.ref i2)) (hTO : IsPair s.heap TO a b) (t1 : S1 k s.heap) (t2 : S2 k s.heap) (hk : k = n1 ∨ (k < n1 ∧ k = n2))
  (q : ∀ h' e tk,(∀ c o,c ≠ z -> c ≠ TO -> c ≠ i1 -> c ≠ i2 -> s.heap.get? c = some o -> h'.get? c = some o) -> (∃ o,h'.get? e = some o ∧ o.cls = .type "StopIteration") -> E (.ref e) { s with heap := h',toks := tk }) :
  wpAny (model prog w) A (Builtin.«zip.__next__» ⟨[.ref z],[]⟩) Q E s := by
 obtain ⟨⟨p1,p2,p3,p4,p5,p6⟩,⟨q1,q2,q3,q4,q5,q6⟩,r1,r2,r3,r4⟩ := ap
 show wpAny _ _ (field (.ref z) 2 >>= _) _ _ s
 refine wpAny_bind (wpAny_field (s := s) hz rfl (x := .bool false) rfl ?_)
 show wpAny _ _ (field (.ref z) 3 >>= _) _ _ s
 refine wpAny_bind (wpAny_field (s := s) hz rfl (x := .ref TI) rfl (wpAny_bind (wpAny_seqItems hTI rfl ?_)))
 show wpAny _ _ (Builtin.SmallTypes.ownedTupleIsFree (.ref z) >>= _) _ _ s
 unfold Builtin.SmallTypes.ownedTupleIsFree
 refine wpAny_bind (wpAny_bind (wpAny_field (s := s) hz rfl (x := .none) rfl (wpAny_pure ?_)))
 simp only [if_true]
 refine wpAny_bind (wpAny_rule (wpAny_bind (wpAny_field (s := s) hz rfl (x := .ref TO) rfl (wpAny_bind (wpAny_setField_rec hz (by simp) fun ha za sa => ?_)))))
 replace za : IsZip ha z TI TO .ellipsis := za
 simp only [List.zipIdx_cons,List.zipIdx_nil,List.forIn_cons,List.forIn_nil]
 refine wpAny_bind (wpAny_bind (wpAny_bind (wpAny_onRaise ?_)))
 show wpAny _ _ (Builtin.SmallTypes.nextOf (.ref i1) >>= _) _ _ _
 rcases hk with rfl | ⟨k1,rfl⟩
 ·refine wpAny_bind ((d1 A hh).done _ _ _ (still (d1 A hh) t1 sa.extBut p3 p5) fun hb e sb W' => ?_)
  obtain ⟨oe,ho,hc⟩ := W'
  have zb : IsZip hb z TI TO .ellipsis := sb _ _ p3.symm za
  have ez : e ≠ z := fun y => by subst y; rw [zb] at ho; cases ho; simp at hc
  exact wpAny_setField_rec zb (by simp) fun hd _ sd => q hd e _ (fun c o c1 _ c3 _ y => sd.extBut _ _ c1 (sb _ _ c3 (sa.extBut _ _ c1 y))) ⟨oe,sd.extBut _ _ ez ho,hc⟩
 refine wpAny_bind ((d1 A hh).item _ _ _ _ k1 (still (d1 A hh) t1 sa.extBut p3 p5) fun x hb tb px s1b sb => wpAny_pure ?_)
 have ob : IsPair hb TO a b := sb.extBut _ _ q4 (sa.extBut _ _ p2 hTO)
 refine wpAny_bind (wpAny_seqItems ob rfl (wpAny_bind (wpAny_updateSeq_pair ob fun hc oc sc => wpAny_bind (wpAny_letGo (wpAny_pure ?_)))))
 refine wpAny_bind (wpAny_bind (wpAny_onRaise ?_))
 show wpAny _ _ (Builtin.SmallTypes.nextOf (.ref i2) >>= _) _ _ _
 have t2c := still (d2 A hh) (still (d2 A hh) (still (d2 A hh) t2 sa.extBut p4 p6) sb.extBut q6.symm r4) sc.extBut q5.symm r2
 refine wpAny_bind ((d2 A hh).done _ _ _ t2c fun hd e sd W' => ?_)
 obtain ⟨oe,ho,hce⟩ := W'
 have zd : IsZip hd z TI TO .ellipsis := sd _ _ p4.symm (sc.extBut _ _ p2.symm (sb.extBut _ _ p3.symm za))
 have ez : e ≠ z := fun y => by subst y; rw [zd] at ho; cases ho; simp at hce
 exact wpAny_setField_rec zd (by simp) fun hf _ sf => q hf e _ (fun c o c1 c2 c3 c4 y => sf.extBut _ _ c1 (sd _ _ c4 (sc.extBut _ _ c2 (sb.extBut _ _ c3 (sa.extBut _ _ c1 y))))) ⟨oe,sf.extBut _ _ ez ho,hce⟩
theorem pqv (hh : A.handled = none) (d1 : ∀ A : Around,A.handled = none -> Draws prog w A i1 [i1,l1] n1 P1 S1) (d2 : ∀ A : Around,A.handled = none -> Draws prog w A i2 [i2,l2] n2 P2 S2) (ap : Zap z TI TO i1 i2 l1 l2) :
  WalksT prog w A z [z,TI,TO,i1,i2,l1,l2] [z,TO,i1,i2] (min n1 n2) (fun i vals => ∃ x y,P1 i x ∧ P2 i y ∧ vals = #[x,y])
   (fun i h => IsZip h z TI TO .none ∧ IsPair h TI (.ref i1) (.ref i2) ∧ (∃ a b,IsPair h TO a b) ∧ S1 i h ∧ S2 i h)
   (fun i T h => IsZip h z TI TO (rawInt T) ∧ IsPair h TI (.ref i1) (.ref i2) ∧ (∃ a b,IsPair h TO a b) ∧ S1 (i + 1) h ∧ S2 (i + 1) h ∧ T ≠ z ∧ T ≠ TO ∧ T ≠ i1 ∧ T ≠ i2) where
 sub := fun c hc => by simp at hc ⊢; rcases hc with rfl | rfl | rfl | rfl <;> simp
 frame := fun i h h' st hk => by
  obtain ⟨hz,hTI,⟨a,b,hTO⟩,t1,t2⟩ := st
  exact ⟨hk z (by simp) _ hz,hk TI (by simp) _ hTI,⟨a,b,hk TO (by simp) _ hTO⟩,(d1 A hh).frame _ _ _ t1 fun c hc o e => hk c (by simp at hc ⊢; rcases hc with rfl | rfl <;> simp) o e,(d2 A hh).frame _ _ _ t2 fun c hc o e => hk c (by simp at hc ⊢; rcases hc with rfl | rfl <;> simp) o e⟩
 item := fun i s Q E hi st hQ => by
  obtain ⟨hz,hTI,⟨a,b,hTO⟩,t1,t2⟩ := st
  have hT : s.TypeIs (.ref z) "zip" := ⟨_,hz,rfl⟩
  have lt : ∀ {c o},s.heap.get? c = some o -> s.heap.objs.size ≠ c := fun e => Nat.ne_of_gt (Heap.lt_size e)
  unfold pyNext
  refine wpAny_bind (wpAny_attempt (wpAny_callSpecial?_slot (name := Str.ofString "__next__") hT F.slot_zip_next (wpAny_call_entry F.slot_zip_next hT F.entry_zip_next ?_ (F.args_zip_next_1 _))))
  refine qqJ (A := A.in1) hh d1 d2 ap hz hTI hTO t1 t2 (Nat.lt_of_lt_of_le hi (Nat.min_le_left ..)) (Nat.lt_of_lt_of_le hi (Nat.min_le_right ..)) fun x y h' tk px py z' o' s1 s2 T' hk => wpAny_pure ?_
  obtain ⟨o1,e1⟩ := (d1 A hh).live _ _ t1
  obtain ⟨o2,e2⟩ := (d2 A hh).live _ _ t2
  exact hQ s.heap.objs.size #[x,y] h' tk ⟨x,y,px,py,rfl⟩ (Nat.le_refl _) ⟨_,T',rfl,_,rfl⟩
   ⟨z',hk _ _ ap.a1.1 ap.a2.1 ap.a2.2.1 ap.a2.2.2.1 hTI,⟨_,_,o'⟩,s1,s2,lt hz,lt hTO,lt e1,lt e2⟩
   fun c o hc e => hk c o (fun y => hc (by simp [y])) (fun y => hc (by simp [y])) (fun y => hc (by simp [y])) (fun y => hc (by simp [y])) e
 go := fun elts k pos i T s Q E hm hQ => by
  obtain ⟨hz,hTI,⟨a,b,hTO⟩,t1,t2,_⟩ := hm
  obtain ⟨⟨p1,p2,p3,p4,p5,p6⟩,_⟩ := ap
  exact wpAny_letOwnedTupleGo_zip hz fun h' z' s' => hQ h' ⟨z',s'.extBut _ _ p1 hTI,⟨a,b,s'.extBut _ _ p2 hTO⟩,still (d1 A hh) t1 s'.extBut p3 p5,still (d2 A hh) t2 s'.extBut p4 p6⟩ fun c o hc e => s'.extBut _ _ (fun y => hc (by simp [y])) e
 apart := fun i T h hm hT => by
  obtain ⟨_,_,_,_,_,t1,t2,t3,t4⟩ := hm
  simp only [List.mem_cons,List.not_mem_nil,or_false] at hT
  rcases hT with h | h | h | h
  ·exact t1 h
  ·exact t2 h
  ·exact t3 h
  ·exact t4 h
 done := fun s Q E st hQ => by
  obtain ⟨hz,hTI,⟨a,b,hTO⟩,t1,t2⟩ := st
  have hT : s.TypeIs (.ref z) "zip" := ⟨_,hz,rfl⟩
  unfold pyNext
  refine wpAny_bind (wpAny_attempt (wpAny_callSpecial?_slot (name := Str.ofString "__next__") hT F.slot_zip_next (wpAny_call_entry F.slot_zip_next hT F.entry_zip_next ?_ (F.args_zip_next_1 _))))
  refine qq0 (A := A.in1) hh d1 d2 ap hz hTI hTO t1 t2 (by omega) fun h' e tk hk W' => ?_
  obtain ⟨o,ho,hc⟩ := W'
  refine wpAny_bind (wpAny_isInstance (T := "StopIteration") (b := true) ⟨o,ho,hc⟩ isSubtype_stop (wpAny_pure (hQ h' tk fun c o hc e => ?_)))
  exact hk c o (fun y => hc (by simp [y])) (fun y => hc (by simp [y])) (fun y => hc (by simp [y])) (fun y => hc (by simp [y])) e
 self := fun i s Q E st hQ => wpAny_pyIter_zip st.1 hQ
end
abbrev zA (h : Heap) (a : Addr) : Heap := h.push (titO a)
abbrev zB (h : Heap) (a b : Addr) : Heap := (zA h a).push (titO b)
abbrev zC (h : Heap) (a b : Addr) : Heap := (zB h a b).push { cls := .type "tuple",data := .seq #[.ref h.objs.size,.ref (zA h a).objs.size] }
abbrev zD (h : Heap) (a b : Addr) : Heap := (zC h a b).push { cls := .type "tuple",data := .seq #[.none,.none] }
abbrev zE (h : Heap) (a b : Addr) : Heap := (zD h a b).push { cls := .type "zip",data := .fields #[.none,.bool false,.bool false,.ref (zB h a b).objs.size,.ref (zC h a b).objs.size] }
theorem rqu (a b : Addr) (xs ys : Array Value) : Meets (Builtin.«zip.__new__» ⟨[.type "zip",.ref a,.ref b],[]⟩) (fun _ R s => s.heap.IsTuple a xs ∧ s.heap.IsTuple b ys ∧ R (.ok (.ret (.ref (zD s.heap a b).objs.size))) { s with heap := zE s.heap a b }) :=
 .of_wp fun prog w A R s h => by
  obtain ⟨hp,g,d,tk,os⟩ := s; obtain ⟨ha,hb,h⟩ := h
  have hsub := sub_zip
  have h1 : Heap.IsTuple (Shared.heap ⟨hp,g,d,tk,os⟩) a xs := ha
  have h2 : Heap.IsTuple (Shared.heap ⟨hp.push (titO a),g,d,tk,os⟩) b ys := Heap.IsTuple.push hb _
  wp_walk using wpAny_pyIter_tuple h1,wpAny_pyIter_tuple h2
  exact ⟨_,rfl,h⟩
section
variable {prog : Program} {w : World} {A : Around} {E : Value -> Shared -> Prop} {s : Shared}
theorem qqy {a b : Addr} {xs ys : Array Value} {Q : Value -> Shared -> Prop} (ha : s.heap.IsTuple a xs) (hb : s.heap.IsTuple b ys)
  (h : ∀ h',IsZip h' (s.heap.objs.size + 4) (s.heap.objs.size + 2) (s.heap.objs.size + 3) .none -> IsPair h' (s.heap.objs.size + 2) (.ref s.heap.objs.size) (.ref (s.heap.objs.size + 1)) -> IsPair h' (s.heap.objs.size + 3) .none .none ->
   h'.IsTupleIter s.heap.objs.size a 0 -> h'.IsTupleIter (s.heap.objs.size + 1) b 0 -> (∀ c o,s.heap.get? c = some o -> h'.get? c = some o) -> Q (.ref (s.heap.objs.size + 4)) { s with heap := h' }) :
  wpAny (model prog w) A (call (.type "zip") [.ref a,.ref b]) Q E s := by
 refine callType_new F.called_zip (by decide) (F.typeCall_zip_2 _ _) (F.newCall_zip_2 _ _) (fun obj => F.args_object_init_3 obj _ _) F.entry_zip_new (rqu a b xs ys) ⟨ha,hb,?_⟩
 have y1 : (zA s.heap a).objs.size = s.heap.objs.size + 1 := Heap.size_push ..
 have y2 : (zB s.heap a b).objs.size = s.heap.objs.size + 2 := by rw [Heap.size_push,y1]
 have y3 : (zC s.heap a b).objs.size = s.heap.objs.size + 3 := by rw [Heap.size_push,y2]
 have y4 : (zD s.heap a b).objs.size = s.heap.objs.size + 4 := by rw [Heap.size_push,y3]
 have up : ∀ {h : Heap} {o : Obj} {c : Addr} {u : Obj},h.get? c = some u -> (h.push o).get? c = some u := fun e => Heap.get?_push_of_some _ e
 have e5 : (zE s.heap a b).get? (zD s.heap a b).objs.size = some _ := Heap.get?_push_size _ rfl
 have e4 : (zE s.heap a b).get? (zC s.heap a b).objs.size = some _ := up (Heap.get?_push_size _ rfl)
 have e3 : (zE s.heap a b).get? (zB s.heap a b).objs.size = some _ := up (up (Heap.get?_push_size _ rfl))
 have e2 : (zE s.heap a b).get? (zA s.heap a).objs.size = some _ := up (up (up (Heap.get?_push_size _ rfl)))
 have e1 : (zE s.heap a b).get? s.heap.objs.size = some _ := up (up (up (up (Heap.get?_push_size _ rfl))))
 show _ ∧ _
 rw [y2,y3,y4] at e5
 rw [y1,y2] at e3
 rw [y3] at e4
 rw [y1] at e2
 rw [y4]
 exact ⟨⟨_,e5,rfl⟩,h _ e5 e3 e4 ⟨_,e1,rfl,rfl⟩ ⟨_,e2,rfl,rfl⟩ fun c o x => up (up (up (up (up x))))⟩
end
def ItZ (K : PySem.W.Frag) (a b : Addr) (xs ys : List V) : It := ItW (min xs.length ys.length) (fun H => SqT K H a xs ∧ SqT K H b ys) fun i _ vs => ∃ x y,xs[i]? = some x ∧ ys[i]? = some y ∧ vs = [x,y]
theorem qqz {P : Program} {w : World} {K : PySem.W.Frag} {elts : List Expr} {k : Nat} {pos : Pos} {z TI TO i1 i2 a b : Addr} (xs ys : List V) (ap : Zap z TI TO i1 i2 a b) (h1 : a ≠ i1) (h2 : b ≠ i2) :
  Turn P w K (.Tuple elts k pos) (ItZ K a b xs ys) [z,TO,i1,i2,TI] z (fun i h => IsZip h z TI TO .none ∧ IsPair h TI (.ref i1) (.ref i2) ∧ (∃ u v,IsPair h TO u v) ∧ h.IsTupleIter i1 a i ∧ h.IsTupleIter i2 b i) := by
 refine iq5 (fp := [z,TI,TO,i1,i2,a,b]) (wr := [z,TO,i1,i2]) (α := { q : Array Value × Array Value // q.1.size = xs.length ∧ q.2.size = ys.length }) (Pt := fun q i vals => ∃ x y,q.1.1[i]? = some x ∧ q.1.2[i]? = some y ∧ vals = #[x,y])
  (Sn := fun q i h => IsZip h z TI TO .none ∧ IsPair h TI (.ref i1) (.ref i2) ∧ (∃ a b,IsPair h TO a b) ∧ (h.IsTupleIter i1 a i ∧ h.IsTuple a q.1.1) ∧ (h.IsTupleIter i2 b i ∧ h.IsTuple b q.1.2))
  (Mid := fun q i T h => IsZip h z TI TO (rawInt T) ∧ IsPair h TI (.ref i1) (.ref i2) ∧ (∃ a b,IsPair h TO a b) ∧ (h.IsTupleIter i1 a (i + 1) ∧ h.IsTuple a q.1.1) ∧ (h.IsTupleIter i2 b (i + 1) ∧ h.IsTuple b q.1.2) ∧ T ≠ z ∧ T ≠ TO ∧ T ≠ i1 ∧ T ≠ i2)
  (by simp) (fun b hb => by simp at hb ⊢; rcases hb with rfl | rfl | rfl | rfl <;> simp) (fun A q hh => ?_) (fun A i s Q E st q => wpAny_pyIter_zip st.1 q) (fun i h st b hb => ?_) (fun i h h' st kp => ?_) ?_ (fun q i h st => ⟨st.1,st.2.1,st.2.2.1,st.2.2.2.1.1,st.2.2.2.2.1⟩)
 ·have := pqv (prog := P) (w := w) (A := A) hh (fun B hB => iqF (prog := P) (w := w) (A := B) hB i1 a h1 q.1.1) (fun B hB => iqF (prog := P) (w := w) (A := B) hB i2 b h2 q.1.2) ap
  rw [q.2.1,q.2.2] at this
  exact this
 ·obtain ⟨hz,hI,⟨u,v,hO⟩,⟨o1,e1,c1,d1⟩,o2,e2,c2,d2⟩ := st
  simp only [List.mem_cons,List.not_mem_nil,or_false] at hb
  rcases hb with rfl | rfl | rfl | rfl | rfl
  ·exact ⟨_,hz,fun v z => by cases z⟩
  ·exact ⟨_,hO,fun v z => by cases z⟩
  ·exact ⟨o1,e1,fun v z => by rw [d1] at z; cases z⟩
  ·exact ⟨o2,e2,fun v z => by rw [d2] at z; cases z⟩
  ·exact ⟨_,hI,fun v z => by cases z⟩
 ·obtain ⟨hz,hI,⟨u,v,hO⟩,⟨o1,e1,r1⟩,o2,e2,r2⟩ := st
  exact ⟨kp z (by simp) _ hz,kp TI (by simp) _ hI,⟨u,v,kp TO (by simp) _ hO⟩,⟨o1,kp i1 (by simp) _ e1,r1⟩,o2,kp i2 (by simp) _ e2,r2⟩
 ·intro X hP hw hK i pins s σ H J hf st hok
  subst hP hw hK
  obtain ⟨l1,rv1,p1,hz1⟩ := J.tuple hok.1
  obtain ⟨l2,rv2,p2,hz2⟩ := J.tuple hok.2
  refine ⟨⟨(l1.toArray,l2.toArray),by have := rv1.length; simp; omega,by have := rv2.length; simp; omega⟩,⟨st.1,st.2.1,st.2.2.1,⟨st.2.2.2.1,p1⟩,st.2.2.2.2,p2⟩,?_⟩
  rintro vals ⟨x,y,hx,hy,rfl⟩
  have hx' : l1[i]? = some x := by simpa using hx
  have hy' : l2[i]? = some y := by simpa using hy
  have hi : i < xs.length := by have := rv1.length; have := (List.getElem?_eq_some_iff.mp hx').1; omega
  have hj : i < ys.length := by have := rv2.length; have := (List.getElem?_eq_some_iff.mp hy').1; omega
  obtain ⟨u,hu,ru⟩ := rv1.get (List.getElem?_eq_getElem hi)
  obtain ⟨v,hv,rv⟩ := rv2.get (List.getElem?_eq_getElem hj)
  rw [hx'] at hu
  rw [hy'] at hv
  cases hu
  cases hv
  exact ⟨[xs[i],ys[i]],(show 2 ≤ sizeLine by decide),.cons ru (.cons rv .nil),xs[i],ys[i],List.getElem?_eq_getElem hi,List.getElem?_eq_getElem hj,rfl⟩
section
variable {X : Cx} {K : PySem.W.Frag} {elts : List Expr} {kk : Nat} {tpos : Pos}
theorem rqp {n a b : Nat} (ha : a < n) (hb : b < n) : Zap (n + 4) (n + 2) (n + 3) n (n + 1) a b := by
 refine ⟨⟨?_,?_,?_,?_,?_,?_⟩,⟨?_,?_,?_,?_,?_,?_⟩,?_,?_,?_,?_⟩ <;> (show ¬ ((_ : Nat) = _)) <;> omega
def iZip (K : PySem.W.Frag) (ta : TA) : TI := fun σ H R => ta σ H fun vs H1 => ∃ a b xs ys,vs = [.ref a,.ref b] ∧ SqT K H1 a xs ∧ SqT K H1 b ys ∧ R (ItZ K a b xs ys) H1
theorem pqG {a b : Expr} {ta : TA} {p pos : Pos} (h : X.K = K) (hg : Gl X "zip") (hm : X.mg "zip" = none) (ha : PA X [a,b] ta) (hs : starEach [a,b] X.env = [(false,eval a X.env),(false,eval b X.env)] := by rfl) (hs2 : starEach [b] X.env = [(false,eval b X.env)] := by rfl) : PI X (.Tuple elts kk tpos) (.Call (.Name "zip" p) [a,b] [] pos) (iZip K ta) := by
 subst h
 intro pins s σ H R I q
 refine Call_ (gqN I hg hm boot_zip (PyProof.Rows.callWith_type1 (thn (ha pos pins s σ H _ I q) fun us s1 W' => ?_) (by rw [hs,hs2]) (by rw [hs2]; rfl)))
 obtain ⟨vs,H1,I1,r1,q1⟩ := W'
 obtain ⟨a,b,xs,ys,e,hq1,hq2,q⟩ := q1
 subst e
 obtain ⟨u,v,rfl,ru,rv⟩ := vals2 r1
 cases ru
 cases rv
 obtain ⟨l1,rv1,p1,hz1⟩ := I1.tuple hq1
 obtain ⟨l2,rv2,p2,hz2⟩ := I1.tuple hq2
 refine qqy (show s1.heap.IsTuple a l1.toArray from p1) (show s1.heap.IsTuple b l2.toArray from p2) fun h' he hI hO hi hj hk => ?_
 refine wpAny_pyIter_zip (s := { s1 with heap := h' }) he ?_
 have hal : a < s1.heap.objs.size := by obtain ⟨o,ho,_⟩ := p1; exact Heap.lt_size ho
 have hbl : b < s1.heap.objs.size := by obtain ⟨o,ho,_⟩ := p2; exact Heap.lt_size ho
 have hkept : Inv X pins σ H1 { s1 with heap := h' } := I1.kept (t' := s1.toks) hk
 refine ⟨s1.heap.objs.size + 4,[s1.heap.objs.size + 4,s1.heap.objs.size + 3,s1.heap.objs.size,s1.heap.objs.size + 1,s1.heap.objs.size + 2],_,_,H1,rfl,hkept,qqz xs ys (rqp hal hbl) (Nat.ne_of_lt hal) (Nat.ne_of_lt (Nat.lt_succ_of_lt hbl)),⟨he,hI,⟨_,_,hO⟩,hi,hj⟩,fun b hb => ?_,q⟩
 simp only [List.mem_cons,List.not_mem_nil,or_false] at hb
 have hb' : s1.heap.objs.size ≤ b := by
  rcases hb with rfl | rfl | rfl | rfl | rfl
  ·exact Nat.le_add_right _ _
  ·exact Nat.le_add_right _ _
  ·exact Nat.le_refl _
  ·exact Nat.le_add_right _ _
  ·exact Nat.le_add_right _ _
 exact I1.fpOk hb' (I1.hok.fresh hb')
variable {σ : St} {H : Hp} {D : Ends} {g : TG} {tb : TS} {aa : TA}
theorem rqM : (tFor (iZip K aa) g tb D σ H) = (aa σ H fun vs H1 => ∃ a b xs ys,vs = [.ref a,.ref b] ∧ SqT K H1 a xs ∧ SqT K H1 b ys ∧ LoopI (ItZ K a b xs ys) g tb D σ H1) := rfl
theorem qqW {a b : Addr} {xs ys : List V} (Pv : Nat -> St -> Hp -> Prop) (h0 : Pv 0 σ H) (hl : ∀ i σ H,i ≤ min xs.length ys.length -> Pv i σ H -> SqT K H a xs ∧ SqT K H b ys)
  (hs : ∀ i x y σ H T,xs[i]? = some x -> ys[i]? = some y -> Pv i σ H -> H T = none -> g (.ref T) σ (upd H T (.tup [x,y])) fun σ2 H2 => tb { D with nx := Pv (i + 1),ct := Pv (i + 1),bk := D.nx } σ2 H2) (hd : ∀ σ H,Pv (min xs.length ys.length) σ H -> D.nx σ H) : LoopI (ItZ K a b xs ys) g tb D σ H :=
 iqV Pv h0 hl (fun i σ H T zs _ p hT hy => by obtain ⟨x,y,hx,hy,rfl⟩ := hy; exact hs i x y σ H T hx hy p hT) hd
variable {p : Addr} {fv : St} {tt : TT} {te : TE} {Q : VK} {H1 : Hp} {fr : List Nat}
theorem oqw : (tComp2 K (iZip K aa) fr tt te σ H Q) = (aa σ H fun vs H1 => ∃ a b xs ys,vs = [.ref a,.ref b] ∧ SqT K H1 a xs ∧ SqT K H1 b ys ∧ ∀ p,H1 p = none -> CompI2 K (ItZ K a b xs ys) p (frV σ fr) tt te Q H1) := rfl
theorem nqg {a b : Addr} {xs ys zs : List V} (hxs : SqT K H1 a xs) (hys : SqT K H1 b ys) (hlen : zs.length ≤ sizeLine) (hp : H1 p = none) (hz : zs.length = min xs.length ys.length)
  (he : ∀ (i : Nat) (x y z : V),xs[i]? = some x -> ys[i]? = some y -> zs[i]? = some z -> ∀ (H' : Hp) (T : VK),Same H1 H' -> (∀ H'',Same H' H'' -> T z H'') -> te (some x :: some y :: fv) H' T)
  (hQ : ∀ H',Same H1 H' -> H' p = some (.lst zs) -> Q (.ref p) H') : CompI2 K (ItZ K a b xs ys) p fv tYes te Q H1 := by
 refine ⟨fun i m ws H2 => m = zs.length - i ∧ i ≤ zs.length ∧ ws = zs.take i ∧ H2 p = some (.lst ws) ∧ Same H1 H2,⟨zs.length,by simp,Nat.zero_le _,by simp,aqm,fun b o e => by rw [aqt (aqo e hp)]; exact e⟩,?_⟩
 rintro i m ws H2 ⟨rfl,hi,rfl,hp2,sm⟩
 refine ⟨hp2,?_⟩
 have qx := sm.tup hxs
 have qy := sm.tup hys
 by_cases hlt : i < zs.length
 ·refine .inr ⟨⟨by rw [<- hz]; exact hlt,qx,qy⟩,by rw [List.length_take]; omega,fun x H3 y => ?_⟩
  obtain ⟨T,vs,rfl,hT,rfl,x,y,hx,hy,rfl⟩ := y
  have s3 : Same H2 (upd H2 T (.tup [x,y])) := fun b o e => by rw [aqt (aqo e hT)]; exact e
  refine ⟨T,x,y,rfl,.inl (.inl aqm),?_⟩
  unfold tYes
  dsimp only
  rw [if_pos rfl]
  have hzi : zs[i]? = some zs[i] := by simp [hlt]
  refine he i x y _ hx hy hzi _ _ (sm.trans s3) fun H5 s5 => ⟨s5 _ _ (s3 _ _ hp2),zs.length - (i + 1),by omega,rfl,hlt,?_,aqm,fun b o e => ?_⟩
  ·rw [List.take_add_one,hzi]; rfl
  ·rw [aqt (aqo e hp)]; exact s5 _ _ (s3 _ _ (sm _ _ e))
 ·have e : i = zs.length := by omega
  subst e
  refine .inl ⟨⟨hz,qx,qy⟩,hQ H2 sm ?_⟩
  rw [hp2,List.take_length]
end
section
variable {p : Addr} {fv : St} {tt : TT} {te : TE} {Q : VK} {H1 H : Hp} {fr : List Nat} {aa : TA} {σ : St}
theorem pqi : (tComp (iRng1 aa) fr tt te σ H Q) = (aa σ H fun vs H1 => ∃ j : Int,vs = [.int j] ∧ -(2 ^ 62) ≤ j ∧ j < 2 ^ 62 ∧ ∀ p,H1 p = none -> CompI (Itr 0 j.toNat) p (frV σ fr) tt te Q H1) := rfl
theorem mqe {n : Nat} (J : Nat -> List V -> Hp -> Prop) (hlen : n ≤ sizeLine) (h0 : J 0 [] (upd H1 p (.lst [])))
  (he : ∀ (i : Nat) (ys : List V) (H2 : Hp) (T : VK),i < n -> J i ys H2 -> H2 p = some (.lst ys) -> (∀ y H3,H3 p = some (.lst ys) -> J (i + 1) (ys ++ [y]) (upd H3 p (.lst (ys ++ [y]))) -> T y H3) -> te (some (.int (0 + (i : Int))) :: fv) H2 T)
  (hQ : ∀ ys H2,J n ys H2 -> H2 p = some (.lst ys) -> Q (.ref p) H2) : CompI (Itr 0 n) p fv tYes te Q H1 := by
 refine ⟨fun i m ys H2 => m = n - i ∧ i ≤ n ∧ ys.length = i ∧ H2 p = some (.lst ys) ∧ J i ys H2,⟨n,by simp,Nat.zero_le _,rfl,aqm,h0⟩,?_⟩
 rintro i m ys H2 ⟨rfl,hi,hyl,hp2,hJ⟩
 refine ⟨hp2,?_⟩
 by_cases hlt : i < n
 ·refine .inr ⟨hlt,by omega,fun x H3 y => ?_⟩
  obtain ⟨rfl,rfl⟩ := y
  unfold tYes
  dsimp only
  rw [if_pos rfl]
  exact he i ys _ _ hlt hJ hp2 fun y H5 hp5 hJ5 => ⟨hp5,n - (i + 1),by omega,rfl,hlt,by rw [List.length_append,hyl]; rfl,aqm,hJ5⟩
 ·have e : i = n := by omega
  subst e
  exact .inl ⟨Nat.le_refl _,hQ ys H2 hJ hp2⟩
end
abbrev litO (t : Addr) : Obj := { cls := .type "list_iterator",data := .fields #[.ref t,.int 0 0] }
section
variable {prog : Program} {w : World} {A : Around} {E : Value -> Shared -> Prop} {s : Shared}
end
def ItZL (K : PySem.W.Frag) (a b : Addr) (xs ys : List V) : It := ItW (min xs.length ys.length) (fun H => SqL K H a xs ∧ SqL K H b ys) fun i _ vs => ∃ x y,xs[i]? = some x ∧ ys[i]? = some y ∧ vs = [x,y]
section
variable {X : Cx} {K : PySem.W.Frag} {elts : List Expr} {kk : Nat} {tpos : Pos}
def iZipL (K : PySem.W.Frag) (ta : TA) : TI := fun σ H R => ta σ H fun vs H1 => ∃ a b xs ys,vs = [.ref a,.ref b] ∧ SqL K H1 a xs ∧ SqL K H1 b ys ∧ R (ItZL K a b xs ys) H1
variable {σ : St} {H : Hp} {D : Ends} {g : TG} {tb : TS} {aa : TA}
theorem qqY : (tFor (iZipL K aa) g tb D σ H) = (aa σ H fun vs H1 => ∃ a b xs ys,vs = [.ref a,.ref b] ∧ SqL K H1 a xs ∧ SqL K H1 b ys ∧ LoopI (ItZL K a b xs ys) g tb D σ H1) := rfl
variable {p : Addr} {fv : St} {tt : TT} {te : TE} {Q : VK} {H1 : Hp} {fr : List Nat}
theorem nq8 : (tComp2 K (iZipL K aa) fr tt te σ H Q) = (aa σ H fun vs H1 => ∃ a b xs ys,vs = [.ref a,.ref b] ∧ SqL K H1 a xs ∧ SqL K H1 b ys ∧ ∀ p,H1 p = none -> CompI2 K (ItZL K a b xs ys) p (frV σ fr) tt te Q H1) := rfl
end
section
variable {K : PySem.W.Frag} {p : Addr} {fv : St} {te : TE} {Q : VK} {H1 : Hp}
end
theorem pqu (t : Addr) (its : Array Value) : Meets (Builtin.«enumerate.__new__» ⟨[.type "enumerate",.ref t],[]⟩) (fun _ R s => s.heap.IsList t its ∧
  R (.ok (.ret (.ref (s.heap.push (litO t)).objs.size))) { s with heap := (s.heap.push (litO t)).push (enuO s.heap.objs.size) }) :=
 .of_wp fun prog w A R s h => by
  obtain ⟨hp,g,d,tk,os⟩ := s; obtain ⟨hl,h⟩ := h
  have hsub := sub_enumerate
  wp_walk using wpAny_pyIter_list hl
  refine wpAny_stack_any fun _ => wpAny_pure ?_
  split
  ·rename_i z _ _ _ _ _
   cases (z == Value.type "enumerate") <;> (wp_walk using wpAny_pyIter_list hl) <;> exact ⟨_,rfl,h⟩
  ·wp_walk using wpAny_pyIter_list hl
   exact ⟨_,rfl,h⟩
section
variable {prog : Program} {w : World} {A : Around} {E : Value -> Shared -> Prop} {s : Shared}
theorem nq2 {t : Addr} {its : Array Value} {Q : Value -> Shared -> Prop} (ht : s.heap.IsList t its)
  (h : ∀ h',IsEnum h' (s.heap.objs.size + 1) s.heap.objs.size 0 .none -> h'.IsListIter s.heap.objs.size t 0 -> (∀ b o,s.heap.get? b = some o -> h'.get? b = some o) -> Q (.ref (s.heap.objs.size + 1)) { s with heap := h' }) :
  wpAny (model prog w) A (call (.type "enumerate") [.ref t]) Q E s := by
 refine callType_new F.called_enumerate (by decide) (F.typeCall_enumerate_1 _) (F.newCall_enumerate_1 _) (fun obj => F.args_object_init_2 obj _) F.entry_enumerate_new (pqu t its) ⟨ht,?_⟩
 have hz : (s.heap.push (litO t)).objs.size = s.heap.objs.size + 1 := Heap.size_push ..
 show _ ∧ _
 rw [hz]
 have he : IsEnum ((s.heap.push (litO t)).push (enuO s.heap.objs.size)) (s.heap.objs.size + 1) s.heap.objs.size 0 .none := by
  have := Heap.get?_push_size (s.heap.push (litO t)) (o := enuO s.heap.objs.size) rfl
  rw [hz] at this
  exact this
 exact ⟨⟨_,he,rfl⟩,h _ he ⟨_,Heap.get?_push_of_some _ (Heap.get?_push_size _ rfl),rfl,rfl⟩ fun b o x => Heap.get?_push_of_some _ (Heap.get?_push_of_some _ x)⟩
end
def ItEL (K : PySem.W.Frag) (a : Addr) (xs : List V) : It := ItW xs.length (fun H => SqL K H a xs) fun i _ ys => ∃ v,xs[i]? = some v ∧ ys = [.int (i : Int),v]
theorem nqF {P : Program} {w : World} {K : PySem.W.Frag} {elts : List Expr} {k : Nat} {pos : Pos} (a it e : Addr) (xs : List V) (h1 : a ≠ it) (h2 : e ≠ it) (h3 : e ≠ a) :
  Turn P w K (.Tuple elts k pos) (ItEL K a xs) [e,it] e (fun i h => (∃ old,IsEnum h e it i old) ∧ h.IsListIter it a i) := by
 refine iq5 (fp := e :: [it,a]) (α := { its : Array Value // its.size = xs.length }) (Pt := fun z i vals => ∃ t x,z.1[i]? = some x ∧ vals = #[.int i t,x])
  (Sn := fun z i h => (∃ old,IsEnum h e it i old) ∧ (h.IsListIter it a i ∧ h.IsList a z.1)) (Mid := fun z i T h => (∃ x,IsEnumOut h e it ((i : Int) + 1) x T) ∧ (h.IsListIter it a (i + 1) ∧ h.IsList a z.1) ∧ T ≠ e ∧ T ≠ it)
  (by simp) (fun _ z => z) (fun A z hh => ?_) (fun A i s Q E st q => ?_) (fun i h st b hb => ?_) (fun i h h' st kp => ?_) ?_ (fun z i h st => ⟨st.1,st.2.1⟩)
 ·have := WalksT.enumerateD (Draws.list (prog := P) (w := w) (A := A.in1) hh it a h1 z.1) e h2 (by simp [h2,h3]) (by simp)
  rw [z.2] at this
  exact this
 ·obtain ⟨⟨old,he⟩,_⟩ := st
  exact wpAny_pyIter_enum he q
 ·obtain ⟨⟨old,he⟩,o,ho,hc,hd⟩ := st
  rcases List.mem_cons.mp hb with rfl | hb
  ·exact ⟨_,he,fun v z => by cases z⟩
  ·rw [List.mem_singleton.mp hb]
   exact ⟨o,ho,fun v z => by rw [hd] at z; cases z⟩
 ·obtain ⟨⟨old,he⟩,o,ho,r⟩ := st
  exact ⟨⟨old,kp e (by simp) _ he⟩,o,kp it (by simp) o ho,r⟩
 ·intro X hP hw hK i pins s σ H J hf st hok
  subst hP hw hK
  obtain ⟨its,rv,p,hz⟩ := J.list hok
  refine ⟨⟨its.toArray,by have := rv.length; simp; omega⟩,⟨st.1,st.2,p.isList⟩,?_⟩
  rintro vals ⟨t,x,hx,rfl⟩
  have hx' : its[i]? = some x := by simpa using hx
  have hi : i < xs.length := by have := rv.length; have := (List.getElem?_eq_some_iff.mp hx').1; omega
  obtain ⟨u,hu,ru⟩ := rv.get (List.getElem?_eq_getElem hi)
  rw [hx'] at hu
  cases hu
  exact ⟨[.int (i : Int),xs[i]],(show 2 ≤ sizeLine by decide),.cons ⟨t,rfl⟩ (.cons ru .nil),xs[i],List.getElem?_eq_getElem hi,rfl⟩
section
variable {X : Cx} {K : PySem.W.Frag} {elts : List Expr} {kk : Nat} {tpos : Pos}
def iEnumL (K : PySem.W.Frag) (ta : TA) : TI := fun σ H R => ta σ H fun vs H1 => ∃ a xs,vs = [.ref a] ∧ SqL K H1 a xs ∧ R (ItEL K a xs) H1
theorem kqO {a : Expr} {ta : TA} {p pos : Pos} (h : X.K = K) (hg : Gl X "enumerate") (hm : X.mg "enumerate" = none) (ha : PA X [a] ta) (hs : starEach [a] X.env = [(false,eval a X.env)] := by rfl) : PI X (.Tuple elts kk tpos) (.Call (.Name "enumerate" p) [a] [] pos) (iEnumL K ta) := by
 subst h
 intro pins s σ H R I q
 refine Call_ (gqN I hg hm boot_enumerate (PyProof.Rows.callWith_type1 (thn (ha pos pins s σ H _ I q) fun us s1 W' => ?_) hs rfl))
 obtain ⟨vs,H1,I1,r1,q1⟩ := W'
 obtain ⟨a,xs,e,hq,q⟩ := q1
 subst e
 obtain ⟨u,rfl,ru⟩ := vals1 r1
 cases ru
 obtain ⟨its,rv,pt,hz⟩ := I1.list hq
 refine nq2 pt.isList fun h' he hi hk => ?_
 refine wpAny_pyIter_enum (s := { s1 with heap := h' }) he ?_
 have hal : a < s1.heap.objs.size := by obtain ⟨o,_,ho,_⟩ := pt; exact Heap.lt_size ho
 have hkept : Inv X pins σ H1 { s1 with heap := h' } := I1.kept (t' := s1.toks) hk
 refine ⟨s1.heap.objs.size + 1,[s1.heap.objs.size + 1,s1.heap.objs.size],_,_,H1,rfl,hkept,nqF a s1.heap.objs.size (s1.heap.objs.size + 1) xs (Nat.ne_of_lt hal) (Nat.succ_ne_self _) (Nat.ne_of_gt (Nat.lt_succ_of_lt hal)),⟨⟨_,he⟩,hi⟩,fun b hb => ?_,q⟩
 simp only [List.mem_cons,List.not_mem_nil,or_false] at hb
 have hb' : s1.heap.objs.size ≤ b := by
  rcases hb with rfl | rfl
  ·exact Nat.le_succ _
  ·exact Nat.le_refl _
 exact I1.fpOk hb' (I1.hok.fresh hb')
variable {σ : St} {H : Hp} {D : Ends} {g : TG} {tb : TS} {aa : TA}
theorem pq6 : (tFor (iEnumL K aa) g tb D σ H) = (aa σ H fun vs H1 => ∃ a xs,vs = [.ref a] ∧ SqL K H1 a xs ∧ LoopI (ItEL K a xs) g tb D σ H1) := rfl
theorem nqJ {a : Addr} {xs : List V} (Pv : Nat -> St -> Hp -> Prop) (h0 : Pv 0 σ H) (hl : ∀ i σ H,i ≤ xs.length -> Pv i σ H -> SqL K H a xs)
  (hs : ∀ i v σ H T,xs[i]? = some v -> Pv i σ H -> H T = none -> g (.ref T) σ (upd H T (.tup [.int (i : Int),v])) fun σ2 H2 => tb { D with nx := Pv (i + 1),ct := Pv (i + 1),bk := D.nx } σ2 H2) (hd : ∀ σ H,Pv xs.length σ H -> D.nx σ H) : LoopI (ItEL K a xs) g tb D σ H :=
 iqV Pv h0 hl (fun i σ H T ys _ p hT hy => by obtain ⟨v,hv,rfl⟩ := hy; exact hs i v σ H T hv p hT) hd
variable {p : Addr} {fv : St} {tt : TT} {te : TE} {Q : VK} {H1 : Hp} {fr : List Nat}
theorem nqN : (tComp2 K (iEnumL K aa) fr tt te σ H Q) = (aa σ H fun vs H1 => ∃ a xs,vs = [.ref a] ∧ SqL K H1 a xs ∧ ∀ p,H1 p = none -> CompI2 K (ItEL K a xs) p (frV σ fr) tt te Q H1) := rfl
theorem iqG {a : Addr} {xs : List V} (J : Nat -> List V -> Hp -> Prop) (hm : ∀ i ws H H',Same H H' -> J i ws H -> J i ws H') (hlen : xs.length ≤ sizeLine) (h0 : J 0 [] (upd H1 p (.lst []))) (hS : ∀ i ws H2,J i ws H2 -> SqL K H2 a xs)
  (he : ∀ (i : Nat) (x : V) (ws : List V) (H2 : Hp) (T : VK),xs[i]? = some x -> J i ws H2 -> H2 p = some (.lst ws) -> (∀ z H3,H3 p = some (.lst ws) -> J (i + 1) (ws ++ [z]) (upd H3 p (.lst (ws ++ [z]))) -> T z H3) -> te (some (.int (i : Int)) :: some x :: fv) H2 T)
  (hQ : ∀ ws H2,J xs.length ws H2 -> H2 p = some (.lst ws) -> Q (.ref p) H2) : CompI2 K (ItEL K a xs) p fv tYes te Q H1 := by
 refine ⟨fun i m ws H2 => m = xs.length - i ∧ i ≤ xs.length ∧ ws.length = i ∧ H2 p = some (.lst ws) ∧ J i ws H2,⟨xs.length,by simp,Nat.zero_le _,rfl,aqm,h0⟩,?_⟩
 rintro i m ws H2 ⟨rfl,hi,hwl,hp2,hJ⟩
 refine ⟨hp2,?_⟩
 have qx := hS _ _ _ hJ
 by_cases hlt : i < xs.length
 ·refine .inr ⟨⟨hlt,qx⟩,by omega,fun x H3 y => ?_⟩
  obtain ⟨T,vs,rfl,hT,rfl,x,hx,rfl⟩ := y
  have s3 : Same H2 (upd H2 T (.tup [.int (i : Int),x])) := fun b o e => by rw [aqt (aqo e hT)]; exact e
  refine ⟨T,_,x,rfl,.inl (.inl aqm),?_⟩
  unfold tYes
  dsimp only
  rw [if_pos rfl]
  exact he i x ws _ _ hx (hm _ _ _ _ s3 hJ) (s3 _ _ hp2) fun z H5 hp5 hJ5 => ⟨hp5,xs.length - (i + 1),by omega,rfl,hlt,by rw [List.length_append,hwl]; rfl,aqm,hJ5⟩
 ·have e : i = xs.length := by omega
  subst e
  exact .inl ⟨⟨rfl,qx⟩,hQ ws H2 hJ hp2⟩
theorem nqG : (tComp2 K (iEnum K aa) fr tt te σ H Q) = (aa σ H fun vs H1 => ∃ a xs,vs = [.ref a] ∧ SqT K H1 a xs ∧ ∀ p,H1 p = none -> CompI2 K (ItE K a xs) p (frV σ fr) tt te Q H1) := rfl
end
end L2
namespace L2
open PySem PySem.Spec PySem.W PyProof.Rows
def SameD (h h' : Heap) : Prop := ∀ (b : Nat) (o : Obj),h.objs[b]? = some o -> ∃ o',h'.objs[b]? = some o' ∧ o'.dict = o.dict
theorem SameD.refl (h : Heap) : SameD h h := fun _ o e => ⟨o,e,rfl⟩
theorem SameD.trans {a b c : Heap} (x : SameD a b) (y : SameD b c) : SameD a c := fun d o e => by
 obtain ⟨o1,e1,q1⟩ := x d o e
 obtain ⟨o2,e2,q2⟩ := y d o1 e1
 exact ⟨o2,e2,q2.trans q1⟩
theorem SameD.push (h : Heap) (o : Obj) : SameD h (h.push o) := fun b u e => by
 refine ⟨u,?_,rfl⟩
 have hb : b < h.objs.size := (Array.getElem?_eq_some_iff.mp e).1
 show (h.objs.push o)[b]? = some u
 rw [Array.getElem?_push,if_neg (Nat.ne_of_lt hb)]
 exact e
theorem SameD.upd (h : Heap) (a : Addr) {f : Obj -> Obj} (hf : ∀ o,(f o).dict = o.dict) : SameD h (h.update a f) := fun b u e => by
 show ∃ o',(h.objs.modify a f)[b]? = some o' ∧ _
 rw [Array.getElem?_modify]
 by_cases q : a = b
 ·rw [if_pos q,e]; exact ⟨f u,rfl,hf u⟩
 ·rw [if_neg q,e]; exact ⟨u,rfl,rfl⟩
theorem SameD.get {h h' : Heap} (x : SameD h h') {b : Addr} {o o' : Obj} (e : h.get? b = some o) (e' : h'.get? b = some o') : o'.dict = o.dict := by
 obtain ⟨o1,q,r⟩ := x b o (Heap.get?_some_iff.mp e).1
 have := (Heap.get?_some_iff.mp e').1
 rw [q] at this
 cases this
 exact r
def kd {α : Type} : Sem α -> Prop
 | .pure _ => True
 | .raise _ => False
 | .unsupported _ => True
 | .finish _ => True
 | .rule _ k => kd (k ())
 | .at _ k => kd (k ())
 | .load _ _ k => ∀ o,kd (k o)
 | .update _ _ f k => (∀ o,(f o).dict = o.dict) ∧ kd (k ())
 | .alloc _ k => ∀ a,kd (k a)
 | .loadIfAlive _ k => ∀ o,kd (k o)
 | .point _ k => kd (k ())
 | .register _ _ => True
 | .fresh k => ∀ t,kd (k t)
 | .ask k => ∀ t,kd (k t)
 | .choose _ _ k => ∀ t,kd (k t)
 | .os _ _ _ => False
 | .call _ _ _ _ _ => False
 | .handled _ k => ∀ t,kd (k t)
 | .newGen _ _ => False
 | .genState _ _ => False
 | .resume _ _ _ _ => False
 | .yield _ _ _ _ => True
 | .stack k => ∀ t,kd (k t)
 | .fork _ _ => True
 | .thread k => ∀ t,kd (k t)
 | .await _ _ _ _ _ => True
theorem aqP {α β : Type} {m : Sem α} {f : α -> Sem β} (a : kd m) (b : ∀ x,kd (f x)) : kd (m >>= f) := by
 show kd (Sem.bind m f)
 induction m with
 | pure x => exact b x
 | raise _ => exact a.elim
 | unsupported _ => exact True.intro
 | finish _ => exact True.intro
 | rule _ k ih => exact ih () a
 | «at» _ k ih => exact ih () a
 | load _ _ k ih => exact fun o => ih o (a o)
 | update _ _ g k ih => exact ⟨a.1,ih () a.2⟩
 | alloc _ k ih => exact fun o => ih o (a o)
 | loadIfAlive _ k ih => exact fun o => ih o (a o)
 | point _ k ih => exact ih () a
 | register _ k ih => exact True.intro
 | fresh k ih => exact fun o => ih o (a o)
 | ask k ih => exact fun o => ih o (a o)
 | choose _ _ k ih => exact fun o => ih o (a o)
 | os _ _ k ih => exact a.elim
 | call _ _ _ _ k ih => exact a.elim
 | handled _ k ih => exact fun o => ih o (a o)
 | newGen _ k ih => exact a.elim
 | genState _ k ih => exact a.elim
 | resume _ _ _ k ih => exact a.elim
 | yield _ _ _ k ih => exact True.intro
 | stack k ih => exact fun o => ih o (a o)
 | fork _ k ih => exact True.intro
 | thread k ih => exact fun o => ih o (a o)
 | await _ _ _ _ k ih => exact True.intro
theorem uqt {α : Type} {M : Model} {Γ : PySem.Ctx} (t : Sem α) : ∀ {Q : α -> Pos -> Shared -> Prop} {E : Value -> Pos -> Shared -> Prop} {p : Pos} {s : Shared},kd t -> Sem.wp M Γ t Q E p s ->
  Sem.wp M Γ t (fun a p' s' => Q a p' s' ∧ SameD s.heap s'.heap) (fun _ _ _ => False) p s := by
 induction t with
 | pure x => intro Q E p s _ h; exact ⟨h,.refl _⟩
 | raise _ => intro Q E p s a h; exact a.elim
 | unsupported _ => intro Q E p s _ h; exact h.elim
 | finish _ => intro Q E p s _ h; exact h.elim
 | rule _ k ih => intro Q E p s a h; exact ih () a h
 | «at» _ k ih => intro Q E p s a h; exact ih () a h
 | load _ _ k ih => intro Q E p s a h; obtain ⟨o,e,h⟩ := h; exact ⟨o,e,ih o (a o) h⟩
 | update x _ g k ih =>
  intro Q E p s a h
  obtain ⟨e,h⟩ := h
  exact ⟨e,Sem.wp_mono M Γ (k ()) (fun _ _ _ z => ⟨z.1,(SameD.upd _ _ a.1).trans z.2⟩) (fun _ _ _ z => z) _ _ (ih () a.2 h)⟩
 | alloc o k ih => intro Q E p s a h; exact Sem.wp_mono M Γ (k _) (fun _ _ _ z => ⟨z.1,(SameD.push _ _).trans z.2⟩) (fun _ _ _ z => z) _ _ (ih _ (a _) h)
 | loadIfAlive _ k ih => intro Q E p s a h; exact ih _ (a _) h
 | point _ k ih => intro Q E p s a h; exact ih () a h
 | register _ k ih => intro Q E p s _ h; exact h.elim
 | fresh k ih => intro Q E p s a h; exact ih _ (a _) h
 | ask k ih => intro Q E p s a h; exact ih _ (a _) h
 | choose _ _ k ih => intro Q E p s a h; exact ⟨h.1,ih _ (a _) h.2⟩
 | os _ _ k ih => intro Q E p s a h; exact a.elim
 | call _ _ _ _ k ih => intro Q E p s a h; exact a.elim
 | handled _ k ih => intro Q E p s a h; exact ih _ (a _) h
 | newGen _ k ih => intro Q E p s a h; exact a.elim
 | genState _ k ih => intro Q E p s a h; exact a.elim
 | resume _ _ _ k ih => intro Q E p s a h; exact a.elim
 | yield _ _ _ k ih => intro Q E p s a h; exact h.elim
 | stack k ih => intro Q E p s a h; exact ih _ (a _) h
 | fork _ k ih => intro Q E p s a h; exact h.elim
 | thread k ih => intro Q E p s a h; exact ih _ (a _) h
 | await _ _ _ _ k ih => intro Q E p s a h; exact h.elim
theorem mq2 {α : Type} {M : Model} {A : Around} {t : Sem α} {Q : α -> Shared -> Prop} {E : Value -> Shared -> Prop} {s : Shared} (k : kd t) (h : wpAny M A t Q E s) : wpAny M A t (fun a s' => Q a s' ∧ SameD s.heap s'.heap) (fun _ _ => False) s :=
 fun Γ p hΓ => uqt t k (h Γ p hΓ)
theorem mqJ (v : Value) : kd (fieldsOf v) := by
 cases v <;> first | exact True.intro | (refine aqP (fun _ => True.intro) fun o => ?_; split <;> exact True.intro)
theorem iqz (v : Value) (i : Nat) : kd (field v i) := by
 refine aqP (mqJ v) fun x => ?_
 split <;> exact True.intro
theorem gqJ (v : Value) (i : Nat) (x : Value) : kd (setField v i x) := by
 cases v <;> first | exact True.intro | skip
 refine aqP (fun _ => True.intro) fun o => ?_
 split
 ·split
  ·refine ⟨fun o => ?_,True.intro⟩
   unfold Obj.mapFields
   first | rfl | (split <;> rfl) | (cases o; rename_i d _; cases d <;> rfl)
  ·exact True.intro
 ·exact True.intro
theorem lqQ (e : Value) (f : Option Addr) : kd (setFlight e f) := by
 refine aqP (iqz e 1) fun tb => ?_
 try dsimp only
 split
 ·exact gqJ _ _ _
 ·exact True.intro
theorem gqs : ∀ l : List Env,kd (readyFrames l)
 | [] => True.intro
 | env :: outer => by
  unfold readyFrames
  split
  ·refine aqP (fun _ => True.intro) fun o => ?_
   try dsimp only
   split
   ·exact True.intro
   ·refine aqP ?_ fun im => ?_
    ·unfold behindIsImport
     try dsimp only
     split
     ·exact True.intro
     ·split
      ·exact True.intro
      ·exact aqP (iqz _ _) fun _ => True.intro
    ·refine aqP ?_ fun bk => ?_
     ·unfold keptBack
      split
      ·split
       ·exact True.intro
       ·exact aqP (aqP (fun _ => True.intro) fun _ => True.intro) fun _ => by split <;> exact True.intro
      ·exact True.intro
     ·exact aqP ⟨fun _ => rfl,True.intro⟩ fun _ => gqs outer
  ·exact True.intro
theorem nqv (env : Env) : kd (PySem.frameOf env) := by
 unfold PySem.frameOf
 refine aqP (aqP (fun _ => True.intro) fun _ => True.intro) fun l => aqP ?_ fun r => ?_
 ·unfold frameObject
  split
  ·exact True.intro
  ·exact aqP (gqs _) fun _ => True.intro
 ·split <;> exact True.intro
theorem lqR (ty : String) (vs : List Value) : kd (newFields ty vs) := by
 unfold newFields newObj newObjAsIs
 try dsimp only
 split
 ·exact True.intro
 ·exact fun _ => True.intro
theorem lqX (e : Value) (env : Env) : kd (noteFrame e env) := by
 unfold noteFrame
 split
 ·refine aqP (iqz e 1) fun hd => ?_
  try dsimp only
  have rest : ∀ (x : Unit) (f : Addr) (hd : Value),kd (do setField e 1 (<- EntryCells.newEntry hd (<- PySem.frameOf env) .none (rawInt f) .none (<- entryPlaceOf f (hd != .none))) : Sem Unit) := fun _ f hd => by
   refine aqP (nqv env) fun _ => aqP ?_ fun _ => aqP ?_ fun _ => gqJ _ _ _
   ·unfold entryPlaceOf
    refine aqP (fun _ => True.intro) fun acts => ?_
    split <;> exact True.intro
   ·unfold EntryCells.newEntry
    exact lqR _ _
  split
  ·refine aqP (iqz _ _) fun g => ?_
   try dsimp only
   split
   ·exact True.intro
   ·exact aqP (gqJ _ _ _) fun _ => rest () _ _
  ·exact rest () _ _
 ·exact True.intro
theorem kqe (env : Env) (e : Value) : kd (leaving env e) := aqP (lqX e env) fun _ => lqQ e none
end L2
namespace L2
open PySem PySem.Spec PySem.W PySem.Calls PyProof.Rows PySem.Builtin PySem.Builtin.ObjectAttr
def errTail : List Value -> Bool
 | .ref _ :: r => errTail r
 | l => l == vErr
theorem jq2 (self : Value) : ∀ {l : List Value},errTail l = true -> refuseLoop self "__setattr__" l = pure ()
 | [],e => by cases e
 | v :: r,e => by
  cases v <;> first | (rw [refuseLoop_ref]; exact jq2 self (by unfold errTail at e; exact e)) | (rw [show (_ :: r) = vErr from beq_iff_eq.mp e]; exact PySem.F.store_ValueError.passes self)
theorem oqc : ∀ {l : List Value},errTail l = true -> l.contains (.type "object") = true
 | [],e => by cases e
 | v :: r,e => by
  cases v <;> first | (rw [List.contains_cons,oqc (l := r) (by unfold errTail at e; exact e),Bool.or_true]) | (rw [show (_ :: r) = vErr from beq_iff_eq.mp e]; decide +kernel)
def overErr (K : Frag) (C : Addr) : Bool := (clsIn K C).any fun cd => errTail cd.mro
section
variable {prog : Program} {w : World} {A : Around} {E : Value -> Shared -> Prop} {s : Shared} {K : Frag} {x C : Addr} {name : Str} {v : Value} {ox : Obj} {od : Option Obj}
theorem rqr {tk : Tok} {R : Result -> Shared -> Prop} (X : K.In s.heap) (I : PySem.W.InstAt s.heap x ox C od) (hp : overErr K C = true) (ht : takerIn K C name = some none)
  (h : ∀ b,wpAny (model prog w) A.in1 (storeInOwnDict (.ref x) (.ref C) (.str name tk) name v b)
   (fun fin s' => match fin with | .done f => R (.ok f) s' | .again c' => c'.quiet = true ∧ codeAny (model prog w) A c' R s') (fun e s' => R (.error e) s') s) :
  codeAny (model prog w) A (.call (.builtin "object.__setattr__") ⟨[.ref x,.str name tk,v],[]⟩) R s := by
 have SF := PySem.F.store_object
 obtain ⟨cd,hc,ho⟩ := any_some hp
 have ne : cd.mro.isEmpty = false := by cases q : cd.mro with | nil => rw [q] at ho; cases ho | cons _ _ => rfl
 have sub : Looks (model prog w) s.heap (isInstance (.ref x) (.type "object")) true := I.type.andThen (looks_mroIn X (by unfold mroIn; rw [hc,Option.bind_some,if_neg (by rw [ne]; decide),oqc ho]))
 refine codeAny_call_builtin SF.slot.plain SF.entry (@check_slot (model prog w) _ _ s "object.__setattr__" "object" "__setattr__" (.ref x) [.str name tk,v] [] _ SF.kind SF.split sub (SF.args (.ref x) (.str name tk) v) ?_)
 obtain ⟨attr,ha,hr⟩ := Option.bind_eq_some_iff.mp ht
 have hm : Looks (model prog w) s.heap (mroOf (.ref C)) cd.mro := (looks_clsIn X hc).andThen .now
 have L3 : Looks (model prog w) s.heap (storeTaker? attr) none := by
  cases attr with
  | none => exact .now
  | some a =>
   obtain ⟨b,hb,hbn⟩ := Option.map_eq_some_iff.mp hr
   refine (looks_takesIn X hb).andThen ?_
   cases b with
   | true => cases hbn
   | false => exact .now
 rw [osa_eq,refuse_eq]
 refine wpAny_bind (wpAny_bind (I.type.here (wpAny_bind (hm.here ?_))))
 rw [jq2 _ ho]
 refine wpAny_pure (wpAny_bind (I.type.here (wpAny_bind ((looks_findIn X ha).here (wpAny_bind (L3.here ?_))))))
 exact h _
theorem sqb {Q : Unit -> Shared -> Prop} (X : K.In s.heap) (hx : s.heap.get? x = some ox) (hc : ox.cls = .ref C) (hd : ox.dict = none) (hn : notCls ox = true)
  (hs : findIn K (.ref C) "__setattr__" = some (some (.builtin "object.__setattr__"))) (hp : overErr K C = true) (ht : takerIn K C name = some none) (hh : hasDictIn K C = true)
  (h : ∀ h' tk,h'.get? x = some { ox with dict := some s.heap.objs.size } -> h'.Ns1 s.heap.objs.size (fun y => if y = name then some v else none) -> (∀ b o,b ≠ x -> s.heap.get? b = some o -> h'.get? b = some o) -> Q () { s with heap := h',toks := tk }) :
  wpAny (model prog w) A (setAttr (.ref x) name v) Q E s := by
 have J : PySem.W.InstAt s.heap x ox C none := ⟨hx,hc,hn,by rw [hd]; exact True.intro⟩
 refine PySem.W.set_plain X J hs (rqr (s := { s with toks := s.toks + 1 }) X J hp ht fun b => ?_)
 obtain ⟨cd,hcd,hd'⟩ := any_some hh
 obtain ⟨oc,odi,oda,osl⟩ := ox
 dsimp only at hc hd
 subst hc hd
 refine wpAny_bind (wpAny_pure (wpAny_bind (wpAny_bind (wpAny_loadPart hx (wpAny_bind (Looks.here (s := { s with toks := s.toks + 1 }) (looks_clsIn X hcd) ?_))))))
 rw [hd']
 have nc : ∀ c,oda ≠ .cls c := fun c q => by subst q; cases hn
 have hx₁ : (s.heap.push { cls := .type "dict",data := .dict #[] }).get? x = some ⟨.ref C,none,oda,osl⟩ := Heap.get?_push_of_some _ hx
 have hxs : x ≠ s.heap.objs.size := Nat.ne_of_lt (Heap.lt_size hx)
 have hgd : ((s.heap.push { cls := .type "dict",data := .dict #[] }).update x fun o => { o with dict := some s.heap.objs.size }).get? s.heap.objs.size = some { cls := .type "dict",data := .dict #[] } :=
  (Heap.get?_update_ne _ _ _ _ hxs.symm).trans (Heap.get?_push_at rfl rfl)
 have hnd : ((s.heap.push { cls := .type "dict",data := .dict #[] }).update x fun o => { o with dict := some s.heap.objs.size }).Ns s.heap.objs.size (fun _ => none) :=
  ⟨_,#[],_,hgd,rfl,fun e he => absurd he (by simp),fun _ => rfl⟩
 have fin : wpAny (model prog w) A.in1 (storeInDict s.heap.objs.size (.str name (s.toks)) name v)
   (fun fin s' => match fin with | .done f => (match (Except.ok f : Result) with | .ok (.ret _) => Q () s' | .ok _ => False | .error e => E e s') | .again c' => c'.quiet = true ∧ codeAny (model prog w) A c' (fun r s' => match r with | .ok (.ret _) => Q () s' | .ok _ => False | .error e => E e s') s') (fun e s' => E e s')
   { s with heap := ((s.heap.push { cls := .type "dict",data := .dict #[] }).update x fun o => { o with dict := some s.heap.objs.size }),toks := s.toks + 1 } := by
  unfold storeInDict newKeyGuard
  refine wpAny_bind (wpAny_pure (wpAny_bind (wpAny_nsSet1 (s := { s with heap := ((s.heap.push { cls := .type "dict",data := .dict #[] }).update x fun o => { o with dict := some s.heap.objs.size }),toks := s.toks + 1 }) (Heap.Ns1.of_empty hnd) fun h' hn' hs' => ?_)))
  obtain ⟨oD,esD,epD,hoD,hdD,hcD⟩ := hn'.count (Within.cons name v Within.nil)
  refine wpAny_bind (wpAny_lookBehind hoD (by rw [hdD]; exact pastItsLine_dict (Nat.le_trans hcD (by rw [List.length_cons,List.length_nil,sizeLine_eq]; omega))) ?_)
  refine wpAny_pure (h h' _ ?_ hn' fun b o hb e => ?_)
  ·refine (hs'.2 x hxs).trans (Heap.get?_update_self _ hx₁ ?_)
   have hfr := (Heap.get?_some_iff.mp hx).2
   cases oda <;> first | rfl | exact hfr
  ·exact (hs'.2 b (Nat.ne_of_lt (Heap.lt_size e))).trans ((Heap.get?_update_ne _ _ _ _ hb).trans (Heap.get?_push_of_some _ e))
 cases oda <;> first | exact absurd rfl (nc _) | exact wpAny_bind (wpAny_alloc' (wpAny_bind (wpAny_update' hx₁ (wpAny_pure fin))))
end
end L2
namespace L2
open PySem PySem.Spec PySem.W PySem.Calls PyProof.Rows
def excInI (K : Frag) (C : Addr) (bmB : List Value) (newId : String) (fI : Addr) : Bool := match K.lookup C with
 | some o => (match o.data with
  | .cls cd => o.cls == .type "type" && cd.mro.head? == some (.ref C) && o.slots.size == 6 && o.slots[4]? == some (some (.builtin newId)) && !cd.hasDel && tailIn K bmB cd.mro.tail && nsOkIn K cd.ns && nsIn K cd.ns "__init__" == some (some (.ref fI))
  | _ => false)
 | _ => false
theorem rqC {K : Frag} {h : Heap} {N : Addr} {m : Str -> Option Value} {n : Str} {v : Value} (X : K.In h) (G : h.Ns N m) (e : nsIn K N n = some (some v)) : m n = some v := by
 obtain ⟨o,es,ep,ho,hd,_,hf⟩ := G
 unfold nsIn at e
 split at e
 ·next q =>
  have := X _ _ q
  rw [ho] at this
  cases this
  cases hd
  split at e
  ·next he =>
   cases e
   rw [<- hf]
   unfold nsFind findBy
   rw [<- Array.find?_toList,he]
   rfl
  ·split at e <;> cases e
 ·cases e
theorem excObjI {K : Frag} {h : Heap} {C fI : Addr} {bb : List Value} {nid : String} (kin : K.In h) (q : excInI K C bb nid fI = true) :
  ∃ tl N nm qn bs hd sn sub ab col dd k0 k1 k2 k3 k5,h.get? C = some (excClassObj nm qn C N bs tl hd sn sub ab col dd k0 k1 k2 k3 k5 nid) ∧ (∃ mN,h.Ns N mN ∧ mN "__init__" = some (.ref fI)) ∧ OwnTail h bb tl := by
 unfold excInI at q
 generalize lk : K.lookup C = r at q
 obtain _ | ⟨cl,dd,dat,⟨sl⟩⟩ := r
 ·cases q
 cases dat <;> first | cases q | skip
 next cd =>
 simp only [beq_iff_eq,Bool.and_eq_true,Bool.not_eq_true'] at q
 obtain ⟨⟨⟨⟨⟨⟨⟨rfl,e0⟩,e1⟩,e2⟩,e3⟩,e4⟩,e5⟩,e6⟩ := q
 obtain ⟨nm,bs,mro,ns,qn,hd,sn,sub,ab,col,del⟩ := cd
 cases e3
 obtain _ | ⟨m0,tl⟩ := mro
 ·cases e0
 cases e0
 obtain _ | ⟨a0,_ | ⟨a1,_ | ⟨a2,_ | ⟨a3,_ | ⟨a4,_ | ⟨a5,_ | ⟨a6,l⟩⟩⟩⟩⟩⟩⟩ := sl <;> first | cases e1 | skip
 cases e2
 exact ⟨tl,ns,nm,qn,bs,hd,sn,sub,ab,col,dd,a0,a1,a2,a3,a5,kin _ _ lk,⟨_,.of_isNs (isNs_of_in kin e5),rqC kin (.of_isNs (isNs_of_in kin e5)) e6⟩,tail_of_in kin e4⟩
abbrev newExc (C t : Addr) : Obj := { cls := .ref C,data := .fields #[.ref t,.none,.none,.none,.bool false,.none] }
abbrev newTup (vs : List Value) : Obj := { cls := .type "tuple",data := .seq vs.toArray }
section
variable {prog : Program} {w : World} {A : Around} {E : Value -> Shared -> Prop} {h : Heap} {g : Array GenState} {d : Drawn} {t : Nat} {os : OsState}
variable {nm q : Str} {C N : Addr} {bs bm bmB : List Value} {hdct : Bool} {sn : List Str} {sub : List Value} {ab : Bool} {col : Option Bool} {dd : Option Addr} {k0 k1 k2 k3 k5 : Option Value} {B newId initId : String}
theorem jqB (F : ExcBaseFacts B newId initId bmB) (T : OwnTail h bmB bm) {mN : Str -> Option Value} {rest : List Value} {fI : Addr} {oI : Obj} {Q : Fin -> Shared -> Prop}
  (hC : h.get? C = some (excClassObj nm q C N bs bm hdct sn sub ab col dd k0 k1 k2 k3 k5 newId)) (hn : h.Ns N mN) (hi : mN "__init__" = some (.ref fI))
  (hfI : h.get? fI = some oI) (hfc : oI.cls = .type "function")
  (hq : wpAny (model prog w) A (call (.ref fI) (.ref (h.objs.size + 1) :: rest)) (fun r s' => r = .none ∧ Q (.done (.ret (.ref (h.objs.size + 1)))) s') E ⟨(h.push (newTup rest)).push (newExc C h.objs.size),g,d,t,os⟩) (hrest : rest.length ≤ sizeLine) :
  wpAny (model prog w) A (Builtin.«type.__call__» ⟨.ref C :: rest,[]⟩) Q E ⟨h,g,d,t,os⟩ := by
 repeat (first | with_reducible refine wpAny_loadPart_at hC ?_ | with_reducible refine wpAny_madeBy_exc hC ?_ | wp_step)
 refine codeAny_call_builtin_code (Code.quiet_builtin _ F.quiet) (wpAny_check_new_subU F F.hasB T hC ?_)
 refine codeAny_exc_new_subU F F.hasB F T hC ?_ hrest
 show wpAny _ _ _ _ _ _
 have kp : ∀ b o,h.get? b = some o -> ((h.push (newTup rest)).push (newExc C h.objs.size)).get? b = some o := fun b o e => Heap.get?_push_of_some _ (Heap.get?_push_of_some _ e)
 have hC₁ := kp _ _ hC
 have hfI₁ := kp _ _ hfI
 have hn₁ : ((h.push (newTup rest)).push (newExc C h.objs.size)).Ns N mN := hn.keeps kp
 have hget : ((h.push (newTup rest)).push (newExc C h.objs.size)).get? (h.objs.size + 1) = some (newExc C h.objs.size) := by heap_get
 have hcC : (Value.ref C :: bm).contains (.ref C) = true := by simp
 have T₁ := T.keeps kp
 unfold isInstance
 repeat (first | with_reducible refine wpAny_loadPart_at hget ?_ | (with_reducible refine wpAny_isSubtype_exc hC₁ ?_; rw [hcC]) | wp_step)
 show wpAny _ _ (typeLookup (.ref C) _) _ _ _
 refine wpAny_typeLookup_tail hC₁ hn₁ T₁ F.mroIs F.init.lookup ?_
 rw [hi]
 refine wpAny_holding (wpAny_bind ?_)
 unfold bindSpecial
 refine wpAny_bind (wpAny_typeOf (T := "function") ⟨_,hfI₁,hfc⟩ ?_)
 rw [if_pos (by decide)]
 refine wpAny_pure (wpAny_bind (wpAny_mono hq (fun r s' hr => ?_) fun _ _ x => x))
 obtain ⟨rfl,hQ⟩ := hr
 wp_walk
 exact hQ
theorem oqf (F : ExcBaseFacts B newId initId bmB) (T : OwnTail h bmB bm) {mN : Str -> Option Value} {rest : List Value} {fI : Addr} {oI : Obj} {Q : Value -> Shared -> Prop}
  (hC : h.get? C = some (excClassObj nm q C N bs bm hdct sn sub ab col dd k0 k1 k2 k3 k5 newId)) (hn : h.Ns N mN) (hi : mN "__init__" = some (.ref fI))
  (hfI : h.get? fI = some oI) (hfc : oI.cls = .type "function")
  (hq : wpAny (model prog w) (A.under (.builtin "type.__call__" ⟨.ref C :: rest,[]⟩)) (call (.ref fI) (.ref (h.objs.size + 1) :: rest)) (fun r s' => r = .none ∧ Q (.ref (h.objs.size + 1)) s') E ⟨(h.push (newTup rest)).push (newExc C h.objs.size),g,d,t,os⟩) (hrest : rest.length ≤ sizeLine) :
  wpAny (model prog w) A (call (.ref C) rest) Q E ⟨h,g,d,t,os⟩ := by
 have f1 := tc_lookup
 have f2 := tc_bind (.ref C)
 have hT : (⟨h,g,d,t,os⟩ : Shared).TypeIs (.ref C) "type" := ⟨_,hC,rfl⟩
 refine wpAny_call (codeAny_of_tree ?_)
 show wpAny _ _ (callAny (.ref C) _) _ _ _
 repeat (any_goals (first | assumption | with_reducible refine wpAny_loadPart_at hC ?_ | wp_step))
 refine ⟨rfl,?_⟩
 exact codeAny_call_builtin_at (Code.quiet_builtin _ (by decide +kernel)) entry_typeCall (wpAny_check_type_call_sub hC (jqB (hrest := hrest) F T hC hn hi hfI hfc hq))
theorem kqN {M : Model} {s : Shared} {env : Env} {x : Sem Value} {Q : Flow -> Shared -> Prop} (hbase : bm.contains (.type "BaseException") = true) (hh : A.handled = none)
  (h : wpAny M A x (fun v s₁ => ∃ e t dx sl,v = .ref e ∧ s₁.heap.get? C = some (excClassObj nm q C N bs bm hdct sn sub ab col dd k0 k1 k2 k3 k5 newId) ∧
   s₁.heap.get? e = some ⟨.ref C,dx,.fields #[.ref t,.none,.none,.none,.bool false,.none],sl⟩ ∧ E (.ref e) s₁) E s) :
  wpAny M A (raiseStmt env (some x) none) Q E s := by
 have hcB : (Value.ref C :: bm).contains (.type "BaseException") = true := by rw [List.contains_cons,hbase,Bool.or_true]
 unfold raiseStmt
 refine wpAny_bind (wpAny_mono h (fun v s₁ h₁ => ?_) fun _ _ x => x)
 obtain ⟨e,t,dx,sl,rfl,hC,he,hE⟩ := h₁
 obtain ⟨hp,g,d,tk,os⟩ := s₁
 repeat (first | with_reducible refine wpAny_loadPart_at he ?_ | with_reducible refine wpAny_loadPart_at hC ?_ | (with_reducible refine wpAny_isSubtype_exc hC ?_; rw [hcB]) | wp_step)
 exact wpAny_raiseNew_none hh hE
end
def exNew (e C : Addr) : HO := .ext fun h => ∃ t sl,h.get? e = some ⟨.ref C,none,.fields #[.ref t,.none,.none,.none,.bool false,.none],sl⟩
def exSet (e C d : Addr) : HO := .ext fun h => ∃ t sl,h.get? e = some ⟨.ref C,some d,.fields #[.ref t,.none,.none,.none,.bool false,.none],sl⟩
def exC (a C : Addr) (d : Option Addr) : HO := .ext fun h => ∃ o,h.get? a = some o ∧ o.cls = .ref C ∧ (∀ x,d = some x -> o.dict = some x) ∧ notCls o = true
structure ExSt (K : Frag) (C : Addr) (f : Str) : Prop where
 sa : findIn K (.ref C) "__setattr__" = some (some (.builtin "object.__setattr__"))
 po : overErr K C = true
 na : findIn K (.ref C) f = some none
 hd : hasDictIn K C = true
def sFldE (K : Frag) (ta tv : TE) (f : Str) : TS := fun D σ H => tv σ H fun y H1 => ta σ H1 fun x H2 => ∃ a C,x = .ref a ∧ H2 a = some (exNew a C) ∧ ExSt K C f ∧ ∀ d,H2 d = none -> D.nx σ (upd (upd H2 a (exSet a C d)) d (.xd [(f,y)]))
section
variable {X : Cx} {ta tv : TE} {o value : Expr} {f : Str} {pos pos' : Pos}
theorem rqG (ha : PE X o ta) (hv : PE X value tv) (hs : swapsWith value (some (.Attribute o f pos')) pos.line X.env = pure false) : PS X (.Assign [.Attribute o f pos'] value pos) (sFldE X.K ta tv f) := by
 intro pins s σ H D I h
 refine plainObj_wpAny_Assign_Attribute (thn (hv pins s σ H _ I h) fun u s1 ⟨y,H1,I1,ry,q⟩ => thn (ha pins s1 σ H1 _ I1 q) fun ov s2 W' => ?_) hs
 obtain ⟨x,H2,I2,rx,a,C,ex,ea,c,q2⟩ := W'
 subst ex
 obtain rfl : ov = Value.ref a := rx
 obtain ⟨⟨t,sl,hx⟩,_,_⟩ := I2.hok a _ ea
 refine sqb I2.kIn hx rfl rfl rfl c.sa c.po (NoAttr.taker (show NoAttr X.K C f from c.na)) c.hd fun h' tk e1 e2 e3 => ?_
 have hd : H2 s2.heap.objs.size = none := I2.hok.fresh (Nat.le_refl _)
 have na : ∀ b u,H2 b = some u -> u ≠ exNew a C -> b ≠ a := fun b u q n z => by subst z; rw [ea] at q; exact n (Option.some.inj q).symm
 have nd : ∀ b u,s2.heap.get? b = some u -> b ≠ s2.heap.objs.size := fun b u q => Nat.ne_of_lt (Heap.lt_size q)
 have nf : ∀ b,H2 b = none -> b ≠ a := fun b q z => by subst z; rw [ea] at q; cases q
 have ndh : ∀ b u,H2 b = some u -> b ≠ s2.heap.objs.size := fun b u q => aqo q hd
 refine ⟨σ,upd (upd H2 a (exSet a C s2.heap.objs.size)) s2.heap.objs.size (.xd [(f,y)]),I2.un (t' := tk) ⟨fun b ob q n _ _ => e3 b ob (nf b n) q,fun b ob q n _ _ => ⟨ob.slots,e3 b ob (nf b n) q⟩,fun b ob q n _ => ?_,fun b ob q _ => ?_,fun b xs q => ?_,fun b ob u q => ?_,fun b ps q => ?_⟩ (fun b u q => ?_),q2 _ hd⟩
 ·rw [aqt (nd b ob q),aqt (nf b n)]; exact n
 ·by_cases z : b = a
  ·subst z; exact ⟨_,e1⟩
  ·exact ⟨ob,e3 b ob z q⟩
 ·rw [aqt (ndh b _ q),aqt (na b _ q (by intro z; cases z))]; exact q
 ·rw [aqt (ndh b _ q),aqt (na b _ q (by intro z; cases z))]; exact q
 ·exact ⟨#[],by rw [aqt (ndh b _ q),aqt (na b _ q (by intro z; cases z)),Array.append_empty]; exact q⟩
 ·by_cases zd : b = s2.heap.objs.size
  ·subst zd
   rw [aqm] at q
   cases q
   refine ⟨_,e2,fun g => ?_⟩
   by_cases z : g = f
   ·subst z
    rw [if_pos rfl]
    simp only [List.lookup,beq_self_eq_true]
    exact ry
   ·rw [if_neg z]
    simp only [List.lookup,beq_eq_false_iff_ne.mpr z]
    exact True.intro
  ·rw [aqt zd] at q
   by_cases za : b = a
   ·subst za
    rw [aqm] at q
    cases q
    exact ⟨⟨t,sl,e1⟩,⟨_,e1⟩,fun h1 h2 ⟨t,sl,z⟩ k => ⟨t,sl,k _ z⟩⟩
   ·rw [aqt za] at q
    refine (I2.hok b u q).stay (fun c v hc z => e3 c v ?_ z) (fun c z => ?_) fun c xs z => ?_
    ·rcases hc with rfl | hc
     ·exact za
     ·exact na c _ hc (by intro z; cases z)
    ·rw [aqt (ndh c _ z),aqt (na c _ z (by intro z; cases z))]; exact z
    ·rw [aqt (ndh c _ z),aqt (na c _ z (by intro z; cases z))]; exact z
theorem rqP {K : Frag} {D : Ends} {σ : St} {H : Hp} : (sFldE K ta tv f D σ H) = (tv σ H fun y H1 => ta σ H1 fun x H2 => ∃ a C,x = .ref a ∧ H2 a = some (exNew a C) ∧ ExSt K C f ∧ ∀ d,H2 d = none -> D.nx σ (upd (upd H2 a (exSet a C d)) d (.xd [(f,y)]))) := rfl
end
def forget (H : Hp) (a : Addr) : Hp := fun b => if b = a then none else H b
theorem mqv {H : Hp} {a : Addr} : forget H a a = none := if_pos rfl
theorem cqb {H : Hp} {a b : Addr} (h : b ≠ a) : forget H a b = H b := if_neg h
structure FlownN (P : Program) (w : World) (base : Heap) (outer : List Env) (H : Hp) (s : Shared) (a t C : Addr) (d : Option Addr) (B : Heap) (H' : Hp) (s' : Shared) : Prop where
 f : Flown P w base outer H s a t C B H' s'
 dc : ∀ x,d = some x -> ∃ oe,s'.heap.get? a = some oe ∧ oe.dict = some x
def CXN (P : Program) (w : World) (base : Heap) : CXT := fun outer H s E e s' => ∃ (a t C : Addr) (d : Option Addr) (B : Heap) (H' : Hp),e = .ref a ∧ E (.ref C) d H' ∧ FlownN P w base outer H s a t C d B H' s'
theorem Inv.xe {X : Cx} {pins : List (Addr × Obj)} {σ : St} {H : Hp} {s : Shared} (y : Value -> Shared -> Prop) (I : Inv X pins σ H s) : Inv { X with xe := y } pins σ H s :=
 ⟨⟨I.ok.mod,I.ok.kind,I.ok.glob,I.ok.blt,I.ok.above,I.ok.inj,I.ok.has,I.ok.cab,I.ok.hd,I.ok.frames,I.ok.stk,I.ok.exf,I.ok.bs,I.ok.bsz,I.ok.noex,I.ok.exfs,I.ok.funs,I.ok.frf⟩,I.os,I.bare,I.base,I.loc,I.cell,I.free,I.freeC,I.pin,I.hok,I.len⟩
section
variable {P : Program} {w : World} {K : Frag} {mg : Str -> Option Value} {base : Heap} {N : List Str} {qual : Str} {scope : Scope} {f : Addr} {cd : Value} {A : Around} {outer : List Env} {s : Shared} {H : Hp} {E : XK}
theorem jq4 : Passes (CXN P w base) (cxOf (CXN P w base) P w K mg base N qual scope f cd A outer s H E) E := by
 intro pins σ H1 s1 e s2 I hq
 obtain ⟨a,t,C,d,B,H2,rfl,hE,W⟩ := hq
 have I' : Inv (cxOf (CXE P w base) P w K mg base N qual scope f cd A outer s H fun c _ H' => E c d H') pins σ H1 s1 := I.xe _
 have z := oqo (E := fun c _ H' => E c d H') pins σ H1 s1 (.ref a) s2 I' ⟨a,t,C,B,H2,rfl,hE,W.f⟩
 refine wpAny_mono (mq2 (kqe _ _) z) (fun _ s3 W' => ?_) fun _ _ z => z.elim
 obtain ⟨⟨a',t',C',B',H',ea,hE',W'⟩,sd⟩ := W'
 cases ea
 refine ⟨a,t',C',d,B',H',rfl,hE',W',fun x hx => ?_⟩
 obtain ⟨oe,ho,hd⟩ := W.dc x hx
 obtain ⟨ob,hob,_⟩ := W'.fly.there
 exact ⟨ob,hob,(sd.get ho hob).trans hd⟩
def Raises1 (X : Cx) (E : XK) : Prop := ∀ (pins : List (Addr × Obj)) (σ : St) (H : Hp) (s : Shared) (a C d : Addr),Inv X pins σ H s -> H a = some (exSet a C d) -> X.s₀.heap.objs.size ≤ a -> E (.ref C) (some d) (forget H a) -> X.xe (.ref a) s
theorem jqK : Raises1 (cxOf (CXN P w base) P w K mg base N qual scope f cd A outer s H E) E := by
 intro pins σ H1 s1 e C d I ha hsz hE
 have hf : (envOfC qual scope s.heap.objs.size f cd).frame = some s.heap.objs.size := rfl
 have stk : s1.heap.FunFrames base (envOfC qual scope s.heap.objs.size f cd :: outer) := I.stack
 have stf : ∀ b ∈ frs (envOfC qual scope s.heap.objs.size f cd :: outer),H1 b = none := I.stkFree
 have ib : Un (frs outer) [] H H1 s.heap s1.heap := I.base
 obtain ⟨⟨t,sl,he⟩,_,_⟩ := I.hok e _ ha
 have hsz' : s.heap.objs.size ≤ e := hsz
 have nde : ∀ b o,s.heap.get? b = some o -> b ≠ e := fun b o q => Nat.ne_of_lt (Nat.lt_of_lt_of_le (Heap.lt_size q) hsz')
 have ne : ∀ b o,s.heap.get? b = some o -> b ∉ frs outer -> b ∉ e :: frs (envOfC qual scope s.heap.objs.size f cd :: outer) := fun b o q n z => by
  rcases List.mem_cons.mp z with z | z
  ·exact nde b o q z
  ·rcases (hqm hf).mp z with z | z
   ·exact absurd (Heap.lt_size q) (by rw [z]; exact Nat.lt_irrefl _)
   ·exact n z
 have eN : e ∉ frs (envOfC qual scope s.heap.objs.size f cd :: outer) := fun z => by rw [stf e z] at ha; cases ha
 show wpAny (model P w) (A.deeper (envOfC qual scope s.heap.objs.size f cd)) (leaving (envOfC qual scope s.heap.objs.size f cd) (.ref e)) _ _ _
 have kB : Heap.StaysIn (hideAll s1.heap (e :: frs (envOfC qual scope s.heap.objs.size f cd :: outer))) s1.heap := fun b o q => of_hideAll _ q
 refine wpAny_mono (mq2 (kqe _ _) (wpAny_leaving_firstW (E := fun _ _ => False) (Q := fun _ s3 => ∃ h',s3 = { s1 with heap := h' } ∧ Heap.LeftW (hideAll s1.heap (e :: frs (envOfC qual scope s.heap.objs.size f cd :: outer))) (envOfC qual scope s.heap.objs.size f cd :: outer) e (.ref C) (.ref t) s1.heap h')
  (base := hideAll s1.heap (e :: frs (envOfC qual scope s.heap.objs.size f cd :: outer))) (oe := ⟨.ref C,some d,.fields #[.ref t,.none,.none,.none,.bool false,.none],sl⟩) (a0 := .ref t) I.ok.frames
  (funFrames_hide stk fun env he b hb => List.mem_cons_of_mem _ (List.mem_filterMap.mpr ⟨env,he,hb⟩)) hf he kB (hideAll_none _ (.head _)) rfl rfl rfl fun h' L => ⟨h',rfl,L⟩)) (fun _ s3 ⟨⟨h2,es3,L⟩,sd⟩ => ?_) fun _ _ z => z.elim
 subst es3
 obtain ⟨x1,⟨_,_,x2⟩,x3,x4⟩ := L
 have keepB : ∀ b o,s.heap.get? b = some o -> H b = none -> b ∉ frs outer -> (hideAll s1.heap (e :: frs (envOfC qual scope s.heap.objs.size f cd :: outer))).get? b = some o := fun b o q n nf =>
  hideAll_get _ (ib.keep b o q n nf (by simp)) (ne b o q nf)
 have thB : ∀ b o,s.heap.get? b = some o -> b ∉ frs outer -> ∃ o',(hideAll s1.heap (e :: frs (envOfC qual scope s.heap.objs.size f cd :: outer))).get? b = some o' := fun b o q nf => by
  obtain ⟨o',z⟩ := ib.there b o q (by simp)
  exact ⟨o',hideAll_get _ z (ne b o q nf)⟩
 have slotF : ∀ b,b ∈ frs outer -> ∀ o,s1.heap.get? b = some o -> ∃ sl,h2.get? b = some { o with slots := sl } := fun b hb o q => by
  obtain ⟨_,o2,q2,nd⟩ := stk.mem ((hqm hf).mpr (.inr hb))
  rw [q] at q2
  cases q2
  exact x4 b o q nd
 have fly : Heap.FlyingW (hideAll s1.heap (e :: frs (envOfC qual scope s.heap.objs.size f cd :: outer))) outer e (.ref C) (.ref t) h2 := ⟨x1,hideAll_none _ (.head _),x2,x3⟩
 have nee : ∀ b u,H1 b = some u -> u ≠ exSet e C d -> b ≠ e := fun b u q n z => by subst z; rw [ha] at q; exact n (Option.some.inj q).symm
 refine ⟨e,t,C,some d,_,forget H1 e,rfl,hE,⟨I.os,I.bare,fun b o q => ?_,fly,fun a u q => ?_,⟨fun b o q n nf _ => x1 b o (keepB b o q n nf),fun b o q n hb _ => ?_,fun b o q n hx => ?_,fun b o q _ => ?_,fun b xs q => ?_,fun b o u q => ?_,fun b ps q => ?_⟩,keepB,thB⟩,fun x hx => ?_⟩
 ·refine hideAll_get _ (I.bk b o q) fun z => ?_
  rcases List.mem_cons.mp z with z | z
  ·exact absurd (Nat.lt_of_lt_of_le (Heap.lt_size q) (Nat.le_trans I.ok.bsz hsz')) (by rw [z]; exact Nat.lt_irrefl _)
  ·rw [(stk.mem z).1] at q; cases q
 ·by_cases z : a = e
  ·subst z; rw [mqv] at q; cases q
  ·rw [cqb z] at q
   refine (I.hok a u q).stay (fun b v hb y => hideAll_get _ y fun m => ?_) (fun b y => ?_) fun b xs y => ?_
   ·rcases List.mem_cons.mp m with m | m
    ·rcases hb with rfl | hb
     ·exact z m
     ·exact nee b _ hb (by intro y; cases y) m
    ·have := stf b m
     rcases hb with rfl | hb
     ·rw [q] at this; cases this
     ·rw [hb] at this; cases this
   ·rw [cqb (nee b _ y (by intro y; cases y))]; exact y
   ·rw [cqb (nee b _ y (by intro y; cases y))]; exact y
 ·obtain ⟨sl,z⟩ := ib.slot b o q n hb (by simp)
  obtain ⟨sl',z'⟩ := slotF b hb _ z
  exact ⟨sl',z'⟩
 ·rw [cqb (nde b o q)]
  exact ib.free b o q n hx
 ·by_cases hb : b ∈ frs outer
  ·obtain ⟨o',z⟩ := ib.there b o q (by simp)
   obtain ⟨sl',z'⟩ := slotF b hb _ z
   exact ⟨_,z'⟩
  ·obtain ⟨o',z⟩ := thB b o q hb
   exact ⟨o',x1 b o' z⟩
 ·have z := ib.tups b xs q
  rw [cqb (nee b _ z (by intro y; cases y))]; exact z
 ·have z := ib.frzs b o u q
  rw [cqb (nee b _ z (by intro y; cases y))]; exact z
 ·obtain ⟨m,z⟩ := ib.tbls b ps q
  exact ⟨m,by rw [cqb (nee b _ z (by intro y; cases y))]; exact z⟩
 ·cases hx
  obtain ⟨ob,hob,_⟩ := fly.there
  exact ⟨ob,hob,sd.get he hob⟩
end
structure Mk1 (K : Frag) (C f : Addr) : Prop where
 ex : excInI K C vErr vNew f = true
 fn : isFn K (.ref f) = true
 kp : keepIn K (.ref C) = true
def tRaise1 (E : XK) (C : Addr) (sp : Sp) (t : TA) : TS := fun _ σ H => t σ H fun vs H1 => ∀ a,H1 a = none -> sp (.ref a :: vs) (upd H1 a (exNew a C)) (fun v H2 => v = .non ∧ ∃ d,H2 a = some (exSet a C d) ∧ E (.ref C) (some d) (forget H2 a)) E0
theorem oq1 {E : XK} {C : Addr} {sp : Sp} {t : TA} {D : Ends} {σ : St} {H : Hp} : (tRaise1 E C sp t D σ H) = (t σ H fun vs H1 => ∀ a,H1 a = none -> sp (.ref a :: vs) (upd H1 a (exNew a C)) (fun v H2 => v = .non ∧ ∃ d,H2 a = some (exSet a C d) ∧ E (.ref C) (some d) (forget H2 a)) E0) := rfl
theorem lqE {X : Cx} {x : Str} {C f : Addr} {E : XK} {CX : CXT} {k : Nat} {fd : FuncData} {ps : List Str} {sp : Sp} {np cpos pos : Pos} {e : Expr} {t : TA}
  (hx : Raises1 X E) (hg : Gl X x) (hm : X.mg x = some (.ref C)) (M : Mk1 X.K C f) (F : FnOk X.prog X.w X.K X.mg X.base CX k f fd ps sp) (hr : Room (k + 1) X.A) (hb : Binds X.K fd ps []) (hps : ps.length = 2) (h0 : Passes CX X E0) (hcalm : X.calm = true) (ha : PA X [e] t)
  (hdb : (x == ("__debug__" : Str)) = false := by decide) (he : starEach [e] X.env = (false,eval e X.env) :: starEach [] X.env := by rfl) (hpl : (backTo cpos (starEach [] X.env)).any (·.1) = false := by rfl) :
  PS X (.Raise (some (.Call (.Name x np) [e] [] cpos)) none pos) (tRaise1 E C sp t) := by
 intro pins s σ H D I h
 obtain ⟨tl,N,nm,qn,bs,hd',sn,sub,ab,col,dd,k0,k1,k2,k3,k5,hC,⟨mN,hN,hni⟩,T⟩ := excObjI I.ok.mod.kin M.ex
 obtain ⟨oI,hoI,hcI⟩ : ∃ oI,X.base.get? f = some oI ∧ oI.cls = .type "function" := by
  have z : typeIn X.K (.ref f) = some (.type "function") := beq_iff_eq.mp M.fn
  unfold typeIn at z
  obtain ⟨o,ho,hc⟩ := Option.map_eq_some_iff.mp z
  exact ⟨o,I.ok.mod.kin _ _ ho,hc⟩
 rw [arm_exec_Raise]
 have hbase := T.hasType PySem.F.excBase_ValueError.hasBase
 refine wpAny_bind (wpAny_standAt (kqN (C := C) (nm := nm) (q := qn) (N := N) (bs := bs) (bm := tl) (hdct := hd') (sn := sn) (sub := sub) (ab := ab) (col := col) (dd := dd) (k0 := k0) (k1 := k1) (k2 := k2) (k3 := k3) (k5 := k5) (newId := vNew) hbase (I.ok.hd hcalm) ?_))
 refine wpAny_bind (wpAny_mono (wpAny_Call_Name_kw (mqR I hg hm ?_ hdb)) (fun v s₃ h₃ => wpAny_bind (wpAny_standAt (wpAny_pure h₃))) fun _ _ x => x)
 refine callWith_K (h₀ := X.base) I.ok.mod.kin M.kp (thn (ha cpos pins s σ H _ I h) fun us s1 ⟨vs,H1,I1,r,q⟩ => ⟨I1.kIn,?_⟩) he hpl
 rw [List.nil_append]
 obtain ⟨hh,g,dw,tk,os⟩ := s1
 have hlu : us.length ≤ sizeLine := by
  have z := F.len _ _ _ _ (q (hh.objs.size + 1) (I1.hok.fresh (Nat.le_succ _)))
  rw [List.length_cons,hps] at z
  rw [<- r.length,sizeLine_eq]
  omega
 have kb : ∀ b o,X.base.get? b = some o -> hh.get? b = some o := fun b o e => I1.bk b o e
 refine oqf PySem.F.excBase_ValueError (T.keeps kb) (kb _ _ hC) (hN.keeps kb) hni (kb _ _ hoI) hcI ?_ hlu
 have I2 : Inv X pins σ (upd H1 (hh.objs.size + 1) (exNew (hh.objs.size + 1) C)) ⟨(hh.push (newTup us)).push (newExc C hh.objs.size),g,dw,tk,os⟩ := by
  refine I1.laid (t' := tk) (fun b u e => Heap.get?_push_of_some _ (Heap.get?_push_of_some _ e)) (Nat.le_succ _) ?_
  have hg2 : ((hh.push (newTup us)).push (newExc C hh.objs.size)).get? (hh.objs.size + 1) = some (newExc C hh.objs.size) := by heap_get
  exact ⟨⟨_,_,hg2⟩,⟨_,hg2⟩,fun h1 h2 ⟨t,sl,z⟩ k => ⟨t,sl,k _ z⟩⟩
 have q2 := q (hh.objs.size + 1) (I1.hok.fresh (Nat.le_succ _))
 have r2 : Vals (V.ref (hh.objs.size + 1) :: vs) (Value.ref (hh.objs.size + 1) :: us) := .cons rfl r
 have hl : (Value.ref (hh.objs.size + 1) :: us).length = ps.length := by rw [<- r2.length]; exact F.len _ _ _ _ q2
 have hbb := hb ⟨(hh.push (newTup us)).push (newExc C hh.objs.size),g,dw,tk,os⟩ (Value.ref (hh.objs.size + 1) :: us) I2.kIn (by rw [List.append_nil]; exact hl)
 rw [List.append_nil] at hbb
 refine wpAny_call (codeAny_mono (F.run _ X.stack _ _ ⟨Value.ref (hh.objs.size + 1) :: us,[]⟩ (Value.ref (hh.objs.size + 1) :: us) _ _ E0 (hr.make C us []) (I2.env0.make C us []) hbb r2 q2) fun r s' hq' => ?_)
 cases r with
 | error ev => exact h0 pins σ _ _ ev s' I2 hq'
 | ok fl =>
  cases fl with
  | ret u =>
   obtain ⟨v,H',I3,rv,ev,d,hd,hE⟩ := I2.after hq'
   subst ev
   obtain ⟨⟨t,sl,hx3⟩,_,_⟩ := I3.hok _ _ hd
   exact ⟨rv,_,t,some d,sl,rfl,I3.bk _ _ hC,hx3,hx pins σ H' s' _ C d I3 hd (Nat.le_trans I1.sz (Nat.le_succ _)) hE⟩
  | next => exact False.elim hq'
  | brk => exact False.elim hq'
  | cont => exact False.elim hq'
theorem Fun.okn {P : Program} {w : World} {K : Frag} {mg : Str -> Option Value} {base : Heap} {x qual : Str} {st : Stmt} {f : Addr} {fd : FuncData} {N ps : List Str} {k : Nat} {sp : Sp} (F : Fun K x qual st f fd) (S : FnScope N ps (defScope st)) (len : ∀ vs H Q E,sp vs H Q E -> vs.length = ps.length)
  (hbody : ∀ (cdv : Value) (A : Around) (outer : List Env) (s : Shared) (H : Hp) (vs : List V) (Q : VK) (E : XK),Room k (A.deeper (envOfC qual (defScope st) s.heap.objs.size f cdv)) -> sp vs H Q E ->
   ∃ t,PSs (cxOf (CXN P w base) P w K mg base N qual (defScope st) f cdv A outer s H E) (defBody st) t ∧ t { nx := fun _ H' => Q .non H',rt := Q } (start N vs) H) : FnOk P w K mg base (CXN P w base) (k + 1) f fd ps sp := by
 obtain ⟨oc,od,kV,doc,pm,an,cdv,ct,osl,rfl,lk,hcd⟩ := F.ex
 exact tqL lk hcd S len fun A outer s H vs Q E hr hsp => hbody cdv A outer s H vs Q E hr hsp
theorem passes0N {P : Program} {w : World} {base : Heap} {X : Cx} : Passes (CXN P w base) X E0 := fun _ _ _ _ _ _ _ ⟨_,_,_,_,_,_,_,z,_⟩ => z.elim
def tTryCall (sp : Sp) (t : TA) : XK -> TS := fun Eh D σ H => t σ H fun vs H1 => sp vs H1 (fun _ H2 => D.nx σ H2) Eh
def tTryN (K : Frag) (t : XK -> TS) (W : Addr) (i : Nat) (tb : TS) : TS := fun D σ H => t (fun cls d H2 =>
 ∃ C,cls = .ref C ∧ subIn K (.ref C) (.ref W) = some true ∧ ∀ a,H2 a = none -> tb { nx := fun σ' H' => D.nx (σ'.set i none) H',rt := D.rt } (σ.set i (some (.ref a))) (upd H2 a (exC a C d))) { nx := D.nx,rt := D.rt } σ H
theorem sqI {K : Frag} {t : XK -> TS} {W : Addr} {i : Nat} {tb : TS} {D : Ends} {σ : St} {H : Hp} : tTryN K t W i tb D σ H ↔ t (fun cls d H2 =>
 ∃ C,cls = .ref C ∧ subIn K (.ref C) (.ref W) = some true ∧ ∀ a,H2 a = none -> tb { nx := fun σ' H' => D.nx (σ'.set i none) H',rt := D.rt } (σ.set i (some (.ref a))) (upd H2 a (exC a C d))) { nx := D.nx,rt := D.rt } σ H := Iff.rfl
theorem nqB {sp : Sp} {t : TA} {Eh : XK} {D : Ends} {σ : St} {H : Hp} : (tTryCall sp t Eh D σ H) = (t σ H fun vs H1 => sp vs H1 (fun _ H2 => D.nx σ H2) Eh) := rfl
def rIsX (K : Frag) : List V -> Hp -> VK -> Prop := fun vs H Q => ∃ a c C d b,vs = [.ref a,c] ∧ H a = some (exC a C d) ∧ ExLook K C ∧ KitAns K H C c b ∧ Q (.bl b) H
theorem sq1 {K : Frag} {a : Addr} {c : V} {H : Hp} {Q : VK} : rIsX K [.ref a,c] H Q ↔ ∃ C d b,H a = some (exC a C d) ∧ ExLook K C ∧ KitAns K H C c b ∧ Q (.bl b) H :=
 ⟨fun ⟨_,_,C,d,b,e,h⟩ => by cases e; exact ⟨C,d,b,h⟩,fun ⟨C,d,b,h⟩ => ⟨a,c,C,d,b,rfl,h⟩⟩
end L2
namespace L2
open PySem PySem.Spec PySem.W PySem.Calls PyProof.Rows PySem.Builtin PySem.Builtin.ObjectAttr
section
variable {prog : Program} {w : World} {A : Around} {E : Value -> Shared -> Prop} {hh : Heap} {g : Array GenState} {dr : Drawn} {t : Nat} {os : OsState} {K : Frag} {a C : Addr} {o : Obj} {od : Option Obj} {name : Str} {v : Value}
end
structure ExFld (K : Frag) (C : Addr) (f : Str) : Prop where
 look : ExLook K C
 na : findIn K (.ref C) f = some none
 hd : hasDictIn K C = true
def tFldE (K : Frag) (te : TE) (f : Str) : TE := fun σ H Q => te σ H fun x H1 => ∃ a C d fs v,x = .ref a ∧ H1 a = some (exC a C (some d)) ∧ H1 d = some (.xd fs) ∧ ExFld K C f ∧ fs.lookup f = some v ∧ Q v H1
theorem sqo {K : Frag} {te : TE} {f : Str} {σ : St} {H : Hp} {Q : VK} : (tFldE K te f σ H Q) = (te σ H fun x H1 => ∃ a C d fs v,x = .ref a ∧ H1 a = some (exC a C (some d)) ∧ H1 d = some (.xd fs) ∧ ExFld K C f ∧ fs.lookup f = some v ∧ Q v H1) := rfl
end L2
namespace L2
open PySem PySem.Spec PyProof.Rows
section
variable {X : Cx}
def rStart1 : V -> List V -> Hp -> VK -> Prop := fun x vs H Q => ∃ z y : List Nat,x = .str ⟨z.toArray⟩ ∧ vs = [.str ⟨y.toArray⟩] ∧ Q (.bl (decide (z.take y.length = y))) H
def rEnd1 : V -> List V -> Hp -> VK -> Prop := fun x vs H Q => ∃ z y : List Nat,x = .str ⟨z.toArray⟩ ∧ vs = [.str ⟨y.toArray⟩] ∧ Q (.bl (decide (z.drop (z.length - y.length) = y))) H
theorem rqf (z y : List Nat) (i : Nat) : Builtin.Str.subAt ⟨z.toArray⟩ ⟨y.toArray⟩ i = decide ((z.drop i).take y.length = y) := by
 unfold Builtin.Str.subAt
 have hl : (⟨y.toArray⟩ : Str).length = y.length := rfl
 rw [hl,Bool.eq_iff_iff,beq_iff_eq,decide_eq_true_eq]
 show (z.toArray.extract i (i + y.length) = y.toArray) ↔ _
 rw [<- Array.toList_inj]
 simp
theorem qqi (z y : List Nat) : (decide (0 + (⟨y.toArray⟩ : Str).length ≤ (⟨z.toArray⟩ : Str).length) && Builtin.Str.subAt ⟨z.toArray⟩ ⟨y.toArray⟩ 0) = decide (z.take y.length = y) := by
 rw [rqf,List.drop_zero]
 show (decide (0 + y.length ≤ z.length) && _) = _
 by_cases h : z.take y.length = y
 ·have := congrArg List.length h
  rw [List.length_take] at this
  rw [decide_eq_true h,decide_eq_true (show 0 + y.length ≤ z.length by omega)]
  rfl
 ·rw [decide_eq_false h,Bool.and_false]
theorem tqv (z y : List Nat) : (decide (0 + (⟨y.toArray⟩ : Str).length ≤ (⟨z.toArray⟩ : Str).length) && Builtin.Str.subAt ⟨z.toArray⟩ ⟨y.toArray⟩ ((⟨z.toArray⟩ : Str).length - (⟨y.toArray⟩ : Str).length)) = decide (z.drop (z.length - y.length) = y) := by
 rw [rqf]
 show (decide (0 + y.length ≤ z.length) && decide ((z.drop (z.length - y.length)).take y.length = y)) = _
 have e : (z.drop (z.length - y.length)).length ≤ y.length -> (z.drop (z.length - y.length)).take y.length = z.drop (z.length - y.length) := fun h => List.take_of_length_le h
 rw [e (by rw [List.length_drop]; omega)]
 by_cases h : z.drop (z.length - y.length) = y
 ·have := congrArg List.length h
  rw [List.length_drop] at this
  rw [decide_eq_true h,decide_eq_true (show 0 + y.length ≤ z.length by omega)]
  rfl
 ·rw [decide_eq_false h,Bool.and_false]
theorem lqL : MtR X "str.startswith" rStart1 := by
 intro pins s σ H x vs v us Q I rx rv h
 obtain ⟨z,y,rfl,rfl,q⟩ := h
 obtain ⟨t,rfl⟩ := rx
 obtain ⟨u,rfl,t',rfl⟩ := vals1 rv
 refine call_meets F.slot_str_startswith (typeIs_str _ _ _) F.entry_str_startswith (F.args_str_startswith_2 _ _) (gives_str_startswith _ _ t t').meets ?_
 refine ⟨.bl _,H,I,rfl,?_⟩
 rw [<- qqi] at q
 exact q
theorem oqN : MtR X "str.endswith" rEnd1 := by
 intro pins s σ H x vs v us Q I rx rv h
 obtain ⟨z,y,rfl,rfl,q⟩ := h
 obtain ⟨t,rfl⟩ := rx
 obtain ⟨u,rfl,t',rfl⟩ := vals1 rv
 refine call_meets F.slot_str_endswith (typeIs_str _ _ _) F.entry_str_endswith (F.args_str_endswith_2 _ _) (gives_str_endswith _ _ t t').meets ?_
 refine ⟨.bl _,H,I,rfl,?_⟩
 rw [<- tqv] at q
 exact q
theorem tqq {i j : Nat} {ta : TA} {D : Ends} {σ : St} {H : Hp} : (tPar i j ta D σ H) = (ta σ H fun vs H1 => ∃ v w,vs = [v,w] ∧ D.nx ((σ.set i (some v)).set j (some w)) H1) := rfl
theorem mqM {z y : List Nat} {H : Hp} {Q : VK} : rStart1 (.str ⟨z.toArray⟩) [.str ⟨y.toArray⟩] H Q ↔ Q (.bl (decide (z.take y.length = y))) H :=
 ⟨fun ⟨z',y',e1,e2,h⟩ => by
  injection e1 with e1; injection e1 with e1
  injection e2 with e2; injection e2 with e2; injection e2 with e2
  have h1 : z = z' := by simpa using congrArg Array.toList e1
  have h2 : y = y' := by simpa using congrArg Array.toList e2
  subst h1 h2; exact h,fun h => ⟨z,y,rfl,rfl,h⟩⟩
theorem mqr {z y : List Nat} {H : Hp} {Q : VK} : rEnd1 (.str ⟨z.toArray⟩) [.str ⟨y.toArray⟩] H Q ↔ Q (.bl (decide (z.drop (z.length - y.length) = y))) H :=
 ⟨fun ⟨z',y',e1,e2,h⟩ => by
  injection e1 with e1; injection e1 with e1
  injection e2 with e2; injection e2 with e2; injection e2 with e2
  have h1 : z = z' := by simpa using congrArg Array.toList e1
  have h2 : y = y' := by simpa using congrArg Array.toList e2
  subst h1 h2; exact h,fun h => ⟨z,y,rfl,rfl,h⟩⟩
end
end L2
namespace L2
open PySem
section
variable {p : Addr} {fv : St} {tt : TT} {te : TE} {Q : VK} {H1 : Hp} {K : PySem.W.Frag}
theorem nqy {a : Addr} {xs : List V} (f : V -> Bool) (g : V -> V) (hxs : SqL K H1 a xs) (hlen : xs.length ≤ sizeLine) (hp : H1 p = none)
  (ht : ∀ (i : Nat) (x : V),xs[i]? = some x -> ∀ (H' : Hp) (R : Bool -> Hp -> Prop),Same H1 H' -> (∀ H'',Same H' H'' -> R (f x) H'') -> tt (some x :: fv) H' R)
  (he : ∀ (i : Nat) (x : V),xs[i]? = some x -> f x = true -> ∀ (H' : Hp) (T : VK),Same H1 H' -> (∀ H'',Same H' H'' -> T (g x) H'') -> te (some x :: fv) H' T)
  (hQ : ∀ H',Same H1 H' -> H' p = some (.lst ((xs.filter f).map g)) -> Q (.ref p) H') : CompI (Itl K a) p fv tt te Q H1 := by
 refine ⟨fun i m ys H2 => m = xs.length - i ∧ i ≤ xs.length ∧ ys = ((xs.take i).filter f).map g ∧ H2 p = some (.lst ys) ∧ Same H1 H2,⟨xs.length,by simp,Nat.zero_le _,by simp,aqm,fun b o e => by rw [aqt (aqo e hp)]; exact e⟩,?_⟩
 rintro i m ys H2 ⟨rfl,hi,rfl,hp2,sm⟩
 refine ⟨hp2,?_⟩
 have q := sm.seq hxs
 by_cases hlt : i < xs.length
 ·refine .inr ⟨⟨xs,xs[i],q,by simp [hlt]⟩,?_,fun x H3 y => ?_⟩
  ·rw [List.length_map]
   have := List.length_filter_le f (xs.take i)
   rw [List.length_take] at this
   omega
  ·obtain ⟨rfl,y⟩ := y
   have hc := y xs q
   refine ht i x hc _ _ sm fun H4 s4 => ?_
   by_cases hf : f x = true
   ·rw [if_pos hf]
    refine he i x hc hf _ _ (sm.trans s4) fun H5 s5 => ⟨(s4.trans s5) _ _ hp2,xs.length - (i + 1),by omega,rfl,hlt,?_,aqm,fun b o e => ?_⟩
    ·rw [List.take_add_one,hc]; simp [hf]
    ·rw [aqt (aqo e hp)]; exact (s4.trans s5) _ _ (sm _ _ e)
   ·rw [if_neg hf]
    refine ⟨xs.length - (i + 1),by omega,rfl,hlt,?_,s4 _ _ hp2,sm.trans s4⟩
    rw [List.take_add_one,hc]; simp [hf]
 ·have e : i = xs.length := by omega
  subst e
  refine .inl ⟨⟨xs,q,Nat.le_refl _⟩,hQ H2 sm ?_⟩
  rw [hp2,List.take_length]
end
end L2
namespace Wm
open PySem L2
inductive Pc
 | step (s : List Nat)
 | part (h n t : List Nat)
 | num (n : List Nat)
 | word (n : List Nat)
 | gap (n : List Nat)
 | rest (n : List Nat)
abbrev tV (l : List Nat) : V := .str ⟨l.toArray⟩
def Pc.kw : Pc -> Str
 | .step _ => Str.ofString "step"
 | .part .. => Str.ofString "part"
 | .num _ => Str.ofString "number"
 | .word _ => Str.ofString "word"
 | .gap _ => Str.ofString "gap"
 | .rest _ => Str.ofString "rest"
def Pc.tl : Pc -> List V
 | .step s => [tV s]
 | .part h n t => [tV h,tV n,tV t]
 | .num n => [tV n]
 | .word n => [tV n]
 | .gap n => [tV n]
 | .rest n => [tV n]
def Pc.vals (c : Pc) : List V := .str c.kw :: c.tl
def Pc.name : Pc -> List Nat
 | .step _ => []
 | .part _ n _ => n
 | .num n => n
 | .word n => n
 | .gap n => n
 | .rest n => n
def Pc.head : Pc -> List Nat | .part h _ _ => h | _ => []
def Pc.tail : Pc -> List Nat | .part _ _ t => t | _ => []
def Pc.isStep : Pc -> Bool | .step _ => true | _ => false
def Pc.isPart : Pc -> Bool | .part .. => true | _ => false
def Pc.isNum : Pc -> Bool | .num _ => true | _ => false
def Pc.isWord : Pc -> Bool | .word _ => true | _ => false
def Pc.isRest : Pc -> Bool | .rest _ => true | _ => false
theorem Pc.at0 (c : Pc) : atI c.vals 0 = some (.str c.kw) := aqj (j := 0) rfl
theorem hqR (c : Pc) : decide (c.kw = Str.ofString "step") = c.isStep := by cases c <;> first | exact decide_eq_true rfl | exact decide_eq_false (show ¬ (Str.ofString _ = Str.ofString _) by decide +kernel)
theorem cqj (c : Pc) : decide (c.kw = Str.ofString "part") = c.isPart := by cases c <;> first | exact decide_eq_true rfl | exact decide_eq_false (show ¬ (Str.ofString _ = Str.ofString _) by decide +kernel)
theorem eqd (c : Pc) : decide (c.kw = Str.ofString "number") = c.isNum := by cases c <;> first | exact decide_eq_true rfl | exact decide_eq_false (show ¬ (Str.ofString _ = Str.ofString _) by decide +kernel)
theorem gqB (c : Pc) : decide (c.kw = Str.ofString "word") = c.isWord := by cases c <;> first | exact decide_eq_true rfl | exact decide_eq_false (show ¬ (Str.ofString _ = Str.ofString _) by decide +kernel)
theorem gqA (c : Pc) : decide (c.kw = Str.ofString "rest") = c.isRest := by cases c <;> first | exact decide_eq_true rfl | exact decide_eq_false (show ¬ (Str.ofString _ = Str.ofString _) by decide +kernel)
def isFig (c : Nat) : Bool := decide (48 ≤ c ∧ c ≤ 57)
def isSma (c : Nat) : Bool := decide (97 ≤ c ∧ c ≤ 122)
def numB (l : List Nat) : Bool := decide (1 ≤ l.length) && decide (l.length ≤ 60) && l.all isFig && (decide (l = [48]) || !decide (l.head? = some 48))
def wordB (l : List Nat) : Bool := decide (1 ≤ l.length) && decide (l.length ≤ 60) && l.all isSma
def partB (h t s : List Nat) : Bool := decide (s.take h.length = h) && (decide (s.drop (s.length - t.length) = t) && decide (h.length + t.length < s.length))
def fitsM (c : Pc) (s : List Nat) : Bool := !isDot s && match c with
 | .step w => decide (s = w)
 | .part h _ t => partB h t s
 | .num _ => numB s
 | .word _ => wordB s
 | .gap _ => true
 | .rest _ => true
inductive Vl
 | txt (l : List Nat)
 | int (i : Int)
 | lst (ls : List (List Nat))
def intOf (l : List Nat) : Int := (PySem.intText? ⟨l.toArray⟩).getD 0
def amid (h t s : List Nat) : List Nat := (s.drop h.length).take (s.length - t.length - h.length)
def bvM (c : Pc) (ss : List (List Nat)) : Vl := match c with
 | .rest _ => .lst ss
 | .num _ => .int (intOf (ss.headD []))
 | _ => .txt (amid c.head c.tail (ss.headD []))
def VlV (H : Hp) : Vl -> V -> Prop
 | .txt l,v => v = tV l
 | .int i,v => v = .int i
 | .lst ls,v => ∃ p,v = .ref p ∧ H p = some (.lst (ls.map tV))
theorem VlV.mono {H H' : Hp} (s : Same H H') : ∀ {x : Vl} {v : V},VlV H x v -> VlV H' x v
 | .txt _,_,h => h
 | .int _,_,h => h
 | .lst _,_,⟨p,e,h⟩ => ⟨p,e,s _ _ h⟩
theorem sqk {l : List Nat} (h : l.all isFig = true) (h0 : 1 ≤ l.length) (h1 : l.length ≤ 60) : PySem.intText? ⟨l.toArray⟩ = some (intOf l) := by
 have e := intText_digits (x := ⟨l.toArray⟩) (fun c hc => by
  have := List.all_eq_true.mp h c (by simpa using hc)
  simpa [isFig] using this) (by intro z; simp at z; rw [z] at h0; simp at h0) (by show l.length ≤ 4300; omega)
 unfold intOf
 rw [e]
 rfl
inductive PcAll (K : PySem.W.Frag) (H : Hp) : List Pc -> List V -> Prop
 | nil : PcAll K H [] []
 | cons {c : Pc} {p : Addr} {cs : List Pc} {xs : List V} : SqT K H p c.vals -> PcAll K H cs xs -> PcAll K H (c :: cs) (.ref p :: xs)
theorem PcAll.mono {K : PySem.W.Frag} {H H' : Hp} (s : Same H H') : ∀ {cs : List Pc} {xs : List V},PcAll K H cs xs -> PcAll K H' cs xs
 | _,_,.nil => .nil
 | _,_,.cons h r => .cons (s.tup h) (PcAll.mono s r)
theorem PcAll.length {K : PySem.W.Frag} {H : Hp} : ∀ {cs : List Pc} {xs : List V},PcAll K H cs xs -> xs.length = cs.length
 | _,_,.nil => rfl
 | _,_,.cons _ r => by simp [PcAll.length r]
theorem PcAll.get {K : PySem.W.Frag} {H : Hp} : ∀ {cs : List Pc} {xs : List V},PcAll K H cs xs -> ∀ {i : Nat} {v : V},xs[i]? = some v -> ∃ c p,cs[i]? = some c ∧ v = .ref p ∧ SqT K H p c.vals
 | _,_,.nil,i,v,e => by simp at e
 | _,_,.cons h r,0,v,e => by cases e; exact ⟨_,_,rfl,rfl,h⟩
 | _,_,.cons h r,i + 1,v,e => by simp only [List.getElem?_cons_succ] at e ⊢; exact r.get e
theorem PcAll.append {K : PySem.W.Frag} {H : Hp} {ds : List Pc} {ys : List V} (h2 : PcAll K H ds ys) : ∀ {cs : List Pc} {xs : List V},PcAll K H cs xs -> PcAll K H (cs ++ ds) (xs ++ ys)
 | _,_,.nil => h2
 | _,_,.cons h r => .cons h (PcAll.append h2 r)
def hasRest (cs : List Pc) : Bool := match cs.getLast? with
 | some c => c.isRest
 | none => false
def smaL : List Nat := (Str.ofString "abcdefghijklmnopqrstuvwxyz").cps.toList
theorem pqc : ∀ c,c < 128 -> (c ∈ smaL ↔ isSma c = true) := by decide +kernel
theorem mq1 : ∀ c ∈ smaL,c < 128 := by decide +kernel
theorem oq7 (l : List Nat) : l.all isSma = l.all fun c => decide (c ∈ smaL) := by
 congr 1
 funext c
 by_cases h : c < 128
 ·rw [Bool.eq_iff_iff,decide_eq_true_eq]; exact (pqc c h).symm
 ·have h1 : ¬ c ∈ smaL := fun z => h (mq1 c z)
  rw [decide_eq_false h1]
  unfold isSma
  exact decide_eq_false (by omega)
theorem pqH (l : List Nat) : (l.all fun c => decide (c ∈ fgS)) = l.all isFig := by
 congr 1
 funext c
 unfold isFig
 exact decide_eq_decide.mpr tqe
theorem PcAll.last {K : PySem.W.Frag} {H : Hp} {cs : List Pc} {xs : List V} {c : Pc} (h : PcAll K H cs xs) (hc : cs.getLast? = some c) : ∃ v,atI xs (-1) = some v ∧ ∃ p,v = .ref p ∧ SqT K H p c.vals := by
 have hl := h.length
 have hn : cs ≠ [] := by rintro rfl; cases hc
 have hp := List.length_pos_iff.mpr hn
 obtain ⟨v,hx⟩ : ∃ v,xs[cs.length - 1]? = some v := ⟨_,List.getElem?_eq_getElem (by omega)⟩
 obtain ⟨d,p,e1,e2,e3⟩ := h.get hx
 rw [List.getLast?_eq_getElem?] at hc
 rw [hc] at e1
 cases e1
 refine ⟨v,?_,p,e2,e3⟩
 have hg : xs.getLast? = some v := by rw [List.getLast?_eq_getElem?,hl]; exact hx
 have := kqH (l := xs) (fun v => v) hg
 simpa using this
def spreadM (cs : List Pc) (n : Nat) : Option (List Pc) := if hasRest cs = true ∧ cs.length ≤ n then some (cs ++ (List.replicate (n - cs.length) (cs.drop (cs.length - 1))).flatten) else if n = cs.length then some cs else none
theorem mqW (s : List Nat) : amid [] [] s = s := by unfold amid; simp
def fitsP (cs : List Pc) (cl r : Bool) (ss : List (List Nat)) (e : Bool) : Bool := match spreadM cs ss.length with
 | none => false
 | some ds => r && decide (e = cl) && (List.zipWith fitsM ds ss).all id
def boundM : List Pc -> List (List Nat) -> List (List Nat × Vl)
 | [],_ => []
 | c :: cs,ss => (if c.isStep then [] else [(c.name,bvM c ss)]) ++ boundM cs (ss.drop 1)
inductive BndV (H : Hp) (l : Addr) : List (List Nat × Vl) -> List V -> Prop
 | nil : BndV H l [] []
 | cons {n : List Nat} {x : Vl} {p : Addr} {v : V} {bs : List (List Nat × Vl)} {ys : List V} : H p = some (.tup [tV n,v]) -> VlV H x v -> (∀ q,v = .ref q -> q ≠ l) -> BndV H l bs ys -> BndV H l ((n,x) :: bs) (.ref p :: ys)
theorem BndV.mono {H H' : Hp} {l : Addr} (s : Same H H') : ∀ {bs : List (List Nat × Vl)} {ys : List V},BndV H l bs ys -> BndV H' l bs ys
 | _,_,.nil => .nil
 | _,_,.cons h v n r => .cons (s _ _ h) (v.mono s) n (BndV.mono s r)
theorem VlV.upd {H : Hp} {l : Addr} {o : HO} : ∀ {x : Vl} {v : V},VlV H x v -> (∀ q,v = .ref q -> q ≠ l) -> VlV (L2.upd H l o) x v
 | .txt _,_,h,_ => h
 | .int _,_,h,_ => h
 | .lst _,_,⟨p,e,h⟩,hn => ⟨p,e,by rw [aqt (hn p e)]; exact h⟩
theorem BndV.upd {H : Hp} {l : Addr} {o : HO} {xs : List V} (hl : H l = some (.lst xs)) : ∀ {bs : List (List Nat × Vl)} {ys : List V},BndV H l bs ys -> BndV (L2.upd H l o) l bs ys
 | _,_,.nil => .nil
 | _,_,.cons h v n r => .cons (by rw [aqt (uqs h hl (by intro z; cases z))]; exact h) (v.upd n) n (BndV.upd hl r)
theorem BndV.snoc {H : Hp} {l : Addr} {n : List Nat} {x : Vl} {p : Addr} {v : V} (h : H p = some (.tup [tV n,v])) (hv : VlV H x v) (hn : ∀ q,v = .ref q -> q ≠ l) : ∀ {bs : List (List Nat × Vl)} {ys : List V},BndV H l bs ys -> BndV H l (bs ++ [(n,x)]) (ys ++ [.ref p])
 | _,_,.nil => .cons h hv hn .nil
 | _,_,.cons a b c r => .cons a b c (BndV.snoc h hv hn r)
theorem BndV.length {H : Hp} {l : Addr} : ∀ {bs : List (List Nat × Vl)} {ys : List V},BndV H l bs ys -> ys.length = bs.length
 | _,_,.nil => rfl
 | _,_,.cons _ _ _ r => by simp [BndV.length r]
theorem kqg : ∀ (cs : List Pc) (ss : List (List Nat)),(boundM cs ss).length ≤ cs.length
 | [],_ => Nat.le_refl _
 | c :: cs,ss => by
  have := kqg cs (ss.drop 1)
  unfold boundM
  rw [List.length_append]
  split <;> simp only [List.length_nil,List.length_cons] <;> omega
theorem iqX : ∀ (cs : List Pc) (ss : List (List Nat)) (i : Nat) (c : Pc),cs[i]? = some c -> boundM (cs.take (i + 1)) ss = boundM (cs.take i) ss ++ (if c.isStep then [] else [(c.name,bvM c (ss.drop i))])
 | [],ss,i,c,h => by simp at h
 | d :: cs,ss,0,c,h => by
  cases h
  show _ ++ boundM (cs.take 0) (ss.drop 1) = boundM [] ss ++ _
  simp [boundM]
 | d :: cs,ss,i + 1,c,h => by
  have := iqX cs (ss.drop 1) i c (by simpa using h)
  show _ ++ boundM (cs.take (i + 1)) (ss.drop 1) = (_ ++ boundM (cs.take i) (ss.drop 1)) ++ _
  rw [this,List.append_assoc,List.drop_drop,Nat.add_comm 1 i]
theorem jqY {cs ds : List Pc} {n : Nat} (h : spreadM cs n = some ds) : cs.length ≤ n ∧ ∃ es,ds = cs ++ es := by
 unfold spreadM at h
 split at h
 ·rename_i hh
  cases h
  exact ⟨hh.2,_,rfl⟩
 ·split at h
  ·rename_i hh
   cases h
   exact ⟨by omega,[],by simp⟩
  ·cases h
theorem nqb {cs : List Pc} {cl r e : Bool} {ss : List (List Nat)} (h : fitsP cs cl r ss e = true) {i : Nat} {c : Pc} (hc : cs[i]? = some c) : ∃ s,ss[i]? = some s ∧ fitsM c s = true := by
 unfold fitsP at h
 split at h
 ·cases h
 ·rename_i ds hd
  obtain ⟨hl,es,rfl⟩ := jqY hd
  have hi := (List.getElem?_eq_some_iff.mp hc).1
  have hs : ss[i]? = some ss[i] := List.getElem?_eq_getElem (by omega)
  refine ⟨_,hs,?_⟩
  have ha := (Bool.and_eq_true _ _ ▸ h).2
  have hz : (List.zipWith fitsM (cs ++ es) ss)[i]? = some (fitsM c ss[i]) := by
   rw [List.getElem?_zipWith,List.getElem?_append_left hi,hc,hs]
  exact List.all_eq_true.mp ha _ (List.mem_of_getElem? hz)
theorem qqs {n s : List Nat} (h : fitsM (.num n) s = true) : 1 ≤ s.length ∧ s.length ≤ 60 ∧ s.all isFig = true := by
 unfold fitsM numB at h
 simp only [Bool.and_eq_true,decide_eq_true_eq] at h
 exact ⟨h.2.1.1.1,h.2.1.1.2,h.2.1.2⟩
theorem kq0 {h n t s : List Nat} (hf : fitsM (.part h n t) s = true) : (Pc.part h n t).head.length + (Pc.part h n t).tail.length ≤ s.length := by
 unfold fitsM partB at hf
 simp only [Bool.and_eq_true,decide_eq_true_eq] at hf
 have := hf.2.2.2
 show h.length + t.length ≤ s.length
 omega
theorem kqP (xs : List V) : cutV xs (some (-1)) none = xs.drop (xs.length - 1) := by
 unfold cutV
 rw [HT.sIx_none]
 have e : HT.sIx xs.length 0 (some (-1)) = xs.length - 1 := by
  unfold HT.sIx
  simp only [if_pos (show (-1 : Int) < 0 by decide)]
  omega
 rw [e,List.take_of_length_le (by rw [List.length_drop]; omega)]
theorem PcAll.drop {K : PySem.W.Frag} {H : Hp} : ∀ {cs : List Pc} {xs : List V},PcAll K H cs xs -> ∀ i,PcAll K H (cs.drop i) (xs.drop i)
 | _,_,h,0 => h
 | _,_,.nil,i + 1 => .nil
 | _,_,.cons _ r,i + 1 => r.drop i
theorem PcAll.reps {K : PySem.W.Frag} {H : Hp} {cs : List Pc} {xs : List V} (h : PcAll K H cs xs) : ∀ m : Nat,PcAll K H (List.replicate m cs).flatten (List.replicate m xs).flatten
 | 0 => .nil
 | m + 1 => by
  rw [List.replicate_succ,List.replicate_succ,List.flatten_cons,List.flatten_cons]
  exact (h.reps m).append h
theorem qqn {α : Type} (xs : List α) (m : Nat) (h : xs.length ≤ 1) : (List.replicate m xs).flatten.length ≤ m := by
 induction m with
 | zero => simp
 | succ m ih =>
  rw [List.replicate_succ,List.flatten_cons,List.length_append]
  omega
def PcSz (cs : List Pc) : Prop := ∀ c ∈ cs,c.head.length ≤ 100000 ∧ c.tail.length ≤ 100000
theorem nqM {cs ds : List Pc} {n : Nat} (h : spreadM cs n = some ds) : ∀ c ∈ ds,c ∈ cs := by
 unfold spreadM at h
 split at h
 ·cases h
  intro c hc
  rcases List.mem_append.mp hc with hc | hc
  ·exact hc
  ·obtain ⟨l,hl,hc⟩ := List.mem_flatten.mp hc
   rw [List.eq_of_mem_replicate hl] at hc
   exact List.mem_of_mem_drop hc
 ·split at h
  ·cases h; exact fun c hc => hc
  ·cases h
theorem jqI {cs ds : List Pc} {n : Nat} (h : spreadM cs n = some ds) : ds.length = n := by
 unfold spreadM at h
 split at h
 ·rename_i hh
  cases h
  have hne : cs ≠ [] := by rintro rfl; exact absurd hh.1 (by decide)
  have hp := List.length_pos_iff.mpr hne
  have e : ∀ m,(List.replicate m (cs.drop (cs.length - 1))).flatten.length = m := fun m => by
   induction m with
   | zero => simp
   | succ m ih =>
    rw [List.replicate_succ,List.flatten_cons,List.length_append,ih,List.length_drop]
    omega
  rw [List.length_append,e]
  omega
 ·split at h
  ·rename_i hh
   cases h; omega
  ·cases h
theorem hqj (xs : List V) (i : Nat) : cutV xs (some (i : Int)) none = xs.drop i := by
 unfold cutV
 rw [HT.sIx_none,HT.sIx_nat]
 by_cases h : i ≤ xs.length
 ·rw [Nat.min_eq_left h,List.take_of_length_le (by rw [List.length_drop]; omega)]
 ·rw [Nat.min_eq_right (by omega),List.drop_of_length_le (Nat.le_refl _),List.drop_of_length_le (by omega)]
  simp
theorem sq0 (i : Int) : ∃ c,atI smaL (i % 26) = some c ∧ isSma c = true := by
 have h1 := Int.emod_nonneg i (show (26 : Int) ≠ 0 by decide)
 have h2 := Int.emod_lt_of_pos i (show (0 : Int) < 26 by decide)
 have hl : smaL.length = 26 := by decide +kernel
 have h3 : (i % 26).toNat < smaL.length := by omega
 refine ⟨smaL[(i % 26).toNat],?_,(pqc _ (mq1 _ (List.getElem_mem h3))).mp (List.getElem_mem h3)⟩
 have := aqj (List.getElem?_eq_getElem h3)
 rw [Int.toNat_of_nonneg h1] at this
 exact this
def PcOk : Pc -> Prop
 | .step s => 0 < s.length ∧ s.length ≤ 100 ∧ (∀ c ∈ s,isSg c = true) ∧ isDot s = false
 | .part h _ t => h.length ≤ 100 ∧ t.length ≤ 100 ∧ (∀ c ∈ h,isSg c = true) ∧ (∀ c ∈ t,isSg c = true) ∧ h ++ t ≠ []
 | _ => True
theorem qqK (l : List Nat) (d : Nat) (h : d ≠ 46) : isDot (l ++ [d]) = false := by
 refine bqR.mpr ⟨fun z => ?_,fun z => ?_⟩
 ·have : (l ++ [d]).getLast? = sUp.getLast? := by rw [z]
  rw [List.getLast?_append] at this
  exact h (by simpa [sUp] using this)
 ·have : (l ++ [d]).getLast? = sStay.getLast? := by rw [z]
  rw [List.getLast?_append] at this
  exact h (by simpa [sStay] using this)
theorem hqx {H : Hp} : ∀ (ss : List Nat),IsAll H (ss.map fun c => st [c]) (ss.map fun c => V.str ⟨#[c]⟩)
 | [] => .nil
 | c :: ss => .cons (.str _) (hqx ss)
theorem layL {n : Nat} {ds : List PyData} (h : ∀ d ∈ ds,LayAt n d) : LayAt (n + 1) (.list ds) := by
 obtain ⟨h1,h2⟩ := layAll h
 exact ⟨by simp only [PyData.canLay0,h1],by simp only [PyData.depth]; omega⟩
theorem kqc {ss : List Nat} (h : ∀ c ∈ ss,isSg c = true) : SeqAt.shaped (.list (ss.map fun c => st [c])) = true := by
 refine LayAt.shaped (n := 1) (layL (n := 0) fun d hd => ?_) (by decide)
 obtain ⟨c,hc,rfl⟩ := List.mem_map.mp hd
 exact .st fun e he => by rw [List.mem_singleton.mp he]; exact h c hc
theorem qqk (l : List Nat) : (l.filter fun c => !decide (c ∈ fgS)).isEmpty = l.all isFig := by
 rw [<- pqH]
 induction l with
 | nil => rfl
 | cons c l ih =>
  rw [List.filter_cons,List.all_cons]
  by_cases h : c ∈ fgS
  ·rw [decide_eq_true h]; simpa using ih
  ·rw [decide_eq_false h]; rfl
theorem pqV (l : List Nat) : (l.filter fun c => !decide (c ∈ smaL)).isEmpty = l.all isSma := by
 rw [oq7]
 induction l with
 | nil => rfl
 | cons c l ih =>
  rw [List.filter_cons,List.all_cons]
  by_cases h : c ∈ smaL
  ·rw [decide_eq_true h]; simpa using ih
  ·rw [decide_eq_false h]; rfl
def vlD : Vl -> PyData
 | .txt l => st l
 | .int i => .int i
 | .lst ls => .list (ls.map st)
theorem kqU {H : Hp} : ∀ (ls : List (List Nat)),IsAll H (ls.map st) (ls.map tV)
 | [] => .nil
 | l :: ls => .cons (.str _) (kqU ls)
theorem VlV.is {H : Hp} : ∀ {x : Vl} {v : V},VlV H x v -> Is H (vlD x) v
 | .txt l,_,h => by cases h; exact .str _
 | .int i,_,h => by cases h; exact .int _
 | .lst ls,_,⟨p,e,h⟩ => by cases e; exact .lst h (kqU ls)
theorem uqc {l : List Nat} (h : l.all isSma = true) : ∀ c ∈ l,isSg c = true := fun c hc => by
 have := List.all_eq_true.mp h c hc
 simp only [isSma,decide_eq_true_eq] at this
 simp only [isSg,Bool.and_eq_true,decide_eq_true_eq,Bool.not_eq_true',decide_eq_false_iff_not]
 omega
def PatOk (ps : List Pc) : Prop := (∀ c ∈ ps,PcOk c) ∧ ∀ i c,ps[i]? = some c -> c.isRest = true -> i + 1 = ps.length
def NmAt (X : Int) (a k : Nat) (n : List Nat) : Prop := ∃ d,n[a]? = some d ∧ atI smaL ((X + (k : Int)) % 26) = some d
theorem NmAt.app {X : Int} {a k : Nat} {n m : List Nat} (h : NmAt X a k n) : NmAt X a k (n ++ m) := by
 obtain ⟨d,h1,h2⟩ := h
 exact ⟨d,by rw [List.getElem?_append_left (List.getElem?_eq_some_iff.mp h1).1]; exact h1,h2⟩
theorem sqO : ∀ i,i < 26 -> ∀ j,j < 26 -> smaL[i]? = smaL[j]? -> i = j := by decide +kernel
theorem qqu {X : Int} {a : Nat} {ns : List (List Nat)} (h : ∀ (k : Nat) (n : List Nat),ns[k]? = some n -> NmAt X a k n) (hl : ns.length ≤ 26) : ns.Nodup := by
 rw [List.nodup_iff_pairwise_ne,List.pairwise_iff_getElem]
 intro i j hi hj hij e
 obtain ⟨d,h1,h2⟩ := h i _ (List.getElem?_eq_getElem hi)
 obtain ⟨d',h3,h4⟩ := h j _ (List.getElem?_eq_getElem hj)
 rw [e,h3] at h1
 cases h1
 have m1 := Int.emod_nonneg (X + (i : Int)) (show (26 : Int) ≠ 0 by decide)
 have m2 := Int.emod_lt_of_pos (X + (i : Int)) (show (0 : Int) < 26 by decide)
 have m3 := Int.emod_nonneg (X + (j : Int)) (show (26 : Int) ≠ 0 by decide)
 have m4 := Int.emod_lt_of_pos (X + (j : Int)) (show (0 : Int) < 26 by decide)
 have at_get : ∀ {z : Int},0 ≤ z -> z < 26 -> atI smaL z = smaL[z.toNat]? := fun {z} z0 z1 => by
  obtain ⟨n,rfl⟩ := Int.eq_ofNat_of_zero_le z0
  have hl : smaL.length = 26 := by decide +kernel
  have hn : n < smaL.length := by omega
  rw [aqj (List.getElem?_eq_getElem hn),<- List.getElem?_eq_getElem hn]
  rfl
 rw [at_get m1 m2] at h2
 rw [at_get m3 m4] at h4
 have := sqO _ (by omega) _ (by omega) (h2.trans h4.symm)
 omega
inductive PcT (H : Hp) : List Pc -> List V -> Prop
 | nil : PcT H [] []
 | cons {c : Pc} {p : Addr} {cs : List Pc} {xs : List V} : H p = some (.tup c.vals) -> PcT H cs xs -> PcT H (c :: cs) (.ref p :: xs)
theorem PcT.mono {H H' : Hp} (s : SameT H H') : ∀ {cs : List Pc} {xs : List V},PcT H cs xs -> PcT H' cs xs
 | _,_,.nil => .nil
 | _,_,.cons h r => .cons (s _ _ h) (PcT.mono s r)
theorem PcT.all {K : PySem.W.Frag} {H : Hp} : ∀ {cs : List Pc} {xs : List V},PcT H cs xs -> PcAll K H cs xs
 | _,_,.nil => .nil
 | _,_,.cons h r => .cons (.of h) (PcT.all r)
theorem PcT.length {H : Hp} : ∀ {cs : List Pc} {xs : List V},PcT H cs xs -> xs.length = cs.length
 | _,_,.nil => rfl
 | _,_,.cons _ r => by simp [PcT.length r]
theorem PcT.append {H : Hp} {ds : List Pc} {ys : List V} (h2 : PcT H ds ys) : ∀ {cs : List Pc} {xs : List V},PcT H cs xs -> PcT H (cs ++ ds) (xs ++ ys)
 | _,_,.nil => h2
 | _,_,.cons h r => .cons h (PcT.append h2 r)
theorem PcT.take {H : Hp} : ∀ {cs : List Pc} {xs : List V} (n : Nat),PcT H cs xs -> PcT H (cs.take n) (xs.take n)
 | _,_,0,_ => .nil
 | _,_,_ + 1,.nil => .nil
 | _,_,n + 1,.cons h r => .cons h (PcT.take n r)
theorem PcT.get {H : Hp} : ∀ {cs : List Pc} {xs : List V},PcT H cs xs -> ∀ {i : Nat} {v : V},xs[i]? = some v -> ∃ c p,cs[i]? = some c ∧ v = .ref p ∧ H p = some (.tup c.vals)
 | _,_,.cons h _,0,_,e => by cases e; exact ⟨_,_,rfl,rfl,h⟩
 | _,_,.cons _ r,i + 1,_,e => PcT.get r (i := i) (by simpa using e)
 | _,_,.nil,_,_,e => by cases e
def pcD (c : Pc) : PyData := .tuple (.str c.kw :: match c with
 | .step s => [st s]
 | .part h n t => [st h,st n,st t]
 | .num n => [st n]
 | .word n => [st n]
 | .gap n => [st n]
 | .rest n => [st n])
theorem PcT.isT {H : Hp} : ∀ {cs : List Pc} {xs : List V},PcT H cs xs -> IsTAll H (cs.map pcD) xs
 | _,_,.nil => .nil
 | c :: _,_,.cons h r => by
  refine .cons ?_ (PcT.isT r)
  cases c with
  | step s => exact .tup h (.cons (.str _) (.cons (.str _) .nil))
  | part a b d => exact .tup h (.cons (.str _) (.cons (.str _) (.cons (.str _) (.cons (.str _) .nil))))
  | num n => exact .tup h (.cons (.str _) (.cons (.str _) .nil))
  | word n => exact .tup h (.cons (.str _) (.cons (.str _) .nil))
  | gap n => exact .tup h (.cons (.str _) (.cons (.str _) .nil))
  | rest n => exact .tup h (.cons (.str _) (.cons (.str _) .nil))
def PcSg (c : Pc) : Prop := (∀ l,c = .step l -> ∀ x ∈ l,isSg x = true) ∧ (∀ h n t,c = .part h n t -> (∀ x ∈ h,isSg x = true) ∧ ∀ x ∈ t,isSg x = true) ∧ ∀ x ∈ c.name,isSg x = true
theorem rqz {c : Pc} (h : PcSg c) : LayAt 1 (pcD c) := by
 have kwl : ∀ s : Str,s ∈ [Str.ofString "step",Str.ofString "part",Str.ofString "number",Str.ofString "word",Str.ofString "gap",Str.ofString "rest"] -> LayAt 0 (PyData.str s) := fun s hs => by
  have all : ∀ s ∈ [Str.ofString "step",Str.ofString "part",Str.ofString "number",Str.ofString "word",Str.ofString "gap",Str.ofString "rest"],∀ x ∈ s.cps.toList,isSg x = true := by decide +kernel
  exact LayAt.st (l := s.cps.toList) (all s hs)
 have one : ∀ (k : Str) (l : List Nat),k ∈ [Str.ofString "step",Str.ofString "part",Str.ofString "number",Str.ofString "word",Str.ofString "gap",Str.ofString "rest"] -> (∀ x ∈ l,isSg x = true) -> LayAt 1 (.tuple [.str k,st l]) := fun k l hk hl => LayAt.tup (n := 0) fun d hd => by
  simp only [List.mem_cons,List.not_mem_nil,or_false] at hd
  rcases hd with rfl | rfl
  ·exact kwl k hk
  ·exact LayAt.st hl
 cases c with
 | step s => exact one _ s (by simp [Pc.kw]) (h.1 s rfl)
 | part a b d =>
  obtain ⟨h1,h2⟩ := h.2.1 a b d rfl
  refine LayAt.tup (n := 0) fun x hx => ?_
  simp only [List.mem_cons,List.not_mem_nil,or_false] at hx
  rcases hx with rfl | rfl | rfl | rfl
  ·exact kwl _ (by simp [Pc.kw])
  ·exact LayAt.st h1
  ·exact LayAt.st h.2.2
  ·exact LayAt.st h2
 | num n => exact one _ n (by simp [Pc.kw]) h.2.2
 | word n => exact one _ n (by simp [Pc.kw]) h.2.2
 | gap n => exact one _ n (by simp [Pc.kw]) h.2.2
 | rest n => exact one _ n (by simp [Pc.kw]) h.2.2
theorem hqn {cs : List Pc} (h : ∀ c ∈ cs,PcSg c) : LayAt 2 (.list (cs.map pcD)) := layL fun d hd => by
 obtain ⟨c,hc,rfl⟩ := List.mem_map.mp hd
 exact rqz (h c hc)
end Wm
namespace L2
open PySem PySem.Spec PyProof.Rows
section
variable {p : Addr} {fv : St} {tt : TT} {te : TE} {Q : VK} {H H1 : Hp} {K : PySem.W.Frag}
theorem qq7 {l b : Addr} : rExtend (.ref l) [.ref b] H Q ↔ ∃ xs zs,H l = some (.lst xs) ∧ H b = some (.lst zs) ∧ xs.length + zs.length ≤ sizeLine ∧ Q .non (upd H l (.lst (xs ++ zs))) := by
 constructor
 ·rintro ⟨l',b',xs,zs,h1,h2,h3⟩
  cases h1; cases h2
  exact ⟨xs,zs,h3⟩
 ·rintro ⟨xs,zs,h⟩
  exact ⟨l,b,xs,zs,rfl,rfl,h⟩
theorem pqg {tl : TE} {fr : List Nat} {σ : St} : (tComp2 K (iList K tl) fr tt te σ H Q) = (tl σ H fun x H1 => ∃ a,x = .ref a ∧ (∃ xs,SqL K H1 a xs) ∧ ∀ p,H1 p = none -> CompI2 K (Itl K a) p (frV σ fr) tt te Q H1) := rfl
theorem iqW {a : Addr} {xs : List V} (f : Nat -> V × V) (t : Nat -> Bool) (g : Nat -> V) (hxs : SqL K H1 a xs) (hlen : xs.length ≤ sizeLine) (hp : H1 p = none)
  (hit : ∀ (i : Nat) (x : V) (H' : Hp),xs[i]? = some x -> Same H1 H' -> ∃ b,x = .ref b ∧ SqT K H' b [(f i).1,(f i).2])
  (ht : ∀ (i : Nat),i < xs.length -> ∀ (H' : Hp) (R : Bool -> Hp -> Prop),Same H1 H' -> (∀ H'',Same H' H'' -> R (t i) H'') -> tt (some (f i).1 :: some (f i).2 :: fv) H' R)
  (he : ∀ (i : Nat),i < xs.length -> t i = true -> ∀ (H' : Hp) (T : VK),Same H1 H' -> (∀ H'',Same H' H'' -> T (g i) H'') -> te (some (f i).1 :: some (f i).2 :: fv) H' T)
  (hQ : ∀ H',Same H1 H' -> H' p = some (.lst (((List.range xs.length).filter t).map g)) -> Q (.ref p) H') : CompI2 K (Itl K a) p fv tt te Q H1 := by
 refine ⟨fun i m ys H2 => m = xs.length - i ∧ i ≤ xs.length ∧ ys = ((List.range i).filter t).map g ∧ H2 p = some (.lst ys) ∧ Same H1 H2,⟨xs.length,by simp,Nat.zero_le _,by simp,aqm,fun b o e => by rw [aqt (aqo e hp)]; exact e⟩,?_⟩
 rintro i m ys H2 ⟨rfl,hi,rfl,hp2,sm⟩
 refine ⟨hp2,?_⟩
 have q := sm.seq hxs
 by_cases hlt : i < xs.length
 ·refine .inr ⟨⟨xs,xs[i],q,by simp [hlt]⟩,?_,fun x H3 y => ?_⟩
  ·rw [List.length_map]
   have := List.length_filter_le t (List.range i)
   rw [List.length_range] at this
   omega
  ·obtain ⟨rfl,y⟩ := y
   have hc := y xs q
   obtain ⟨b,rfl,hb⟩ := hit i x H3 hc sm
   refine ⟨b,_,_,rfl,hb,?_⟩
   refine ht i hlt _ _ sm fun H4 s4 => ?_
   by_cases hf : t i = true
   ·rw [if_pos hf]
    refine he i hlt hf _ _ (sm.trans s4) fun H5 s5 => ⟨(s4.trans s5) _ _ hp2,xs.length - (i + 1),by omega,rfl,hlt,?_,aqm,fun b o e => ?_⟩
    ·rw [List.range_succ,List.filter_append,List.map_append]; simp [hf]
    ·rw [aqt (aqo e hp)]; exact (s4.trans s5) _ _ (sm _ _ e)
   ·rw [if_neg hf]
    refine ⟨xs.length - (i + 1),by omega,rfl,hlt,?_,s4 _ _ hp2,sm.trans s4⟩
    rw [List.range_succ,List.filter_append,List.map_append]; simp [hf]
 ·have e : i = xs.length := by omega
  subst e
  exact .inl ⟨⟨xs,q,Nat.le_refl _⟩,hQ H2 sm hp2⟩
theorem jqM {a : Addr} {xs : List V} (t : Nat -> Bool) (g : Nat -> V) (hxs : SqT K H1 a xs) (hlen : xs.length ≤ sizeLine) (hp : H1 p = none)
  (ht : ∀ (i : Nat) (x : V),xs[i]? = some x -> ∀ (H' : Hp) (R : Bool -> Hp -> Prop),Same H1 H' -> (∀ H'',Same H' H'' -> R (t i) H'') -> tt (some x :: fv) H' R)
  (he : ∀ (i : Nat) (x : V),xs[i]? = some x -> t i = true -> ∀ (H' : Hp) (T : VK),Same H1 H' -> (∀ H'',Same H' H'' -> T (g i) H'') -> te (some x :: fv) H' T)
  (hQ : ∀ H',Same H1 H' -> H' p = some (.lst (((List.range xs.length).filter t).map g)) -> Q (.ref p) H') : CompI (Itt K a) p fv tt te Q H1 := by
 refine ⟨fun i m ys H2 => m = xs.length - i ∧ i ≤ xs.length ∧ ys = ((List.range i).filter t).map g ∧ H2 p = some (.lst ys) ∧ Same H1 H2,⟨xs.length,by simp,Nat.zero_le _,by simp,aqm,fun b o e => by rw [aqt (aqo e hp)]; exact e⟩,?_⟩
 rintro i m ys H2 ⟨rfl,hi,rfl,hp2,sm⟩
 refine ⟨hp2,?_⟩
 have q := sm.tup hxs
 by_cases hlt : i < xs.length
 ·refine .inr ⟨⟨xs,xs[i],q,by simp [hlt]⟩,?_,fun x H3 y => ?_⟩
  ·rw [List.length_map]
   have := List.length_filter_le t (List.range i)
   rw [List.length_range] at this
   omega
  ·obtain ⟨rfl,y⟩ := y
   have hc := y xs q
   refine ht i x hc _ _ sm fun H4 s4 => ?_
   by_cases hf : t i = true
   ·rw [if_pos hf]
    refine he i x hc hf _ _ (sm.trans s4) fun H5 s5 => ⟨(s4.trans s5) _ _ hp2,xs.length - (i + 1),by omega,rfl,hlt,?_,aqm,fun b o e => ?_⟩
    ·rw [List.range_succ,List.filter_append,List.map_append]; simp [hf]
    ·rw [aqt (aqo e hp)]; exact (s4.trans s5) _ _ (sm _ _ e)
   ·rw [if_neg hf]
    refine ⟨xs.length - (i + 1),by omega,rfl,hlt,?_,s4 _ _ hp2,sm.trans s4⟩
    rw [List.range_succ,List.filter_append,List.map_append]; simp [hf]
 ·have e : i = xs.length := by omega
  subst e
  exact .inl ⟨⟨xs,q,Nat.le_refl _⟩,hQ H2 sm hp2⟩
end
end L2
namespace Wm
open PySem L2
theorem iqc {α β : Type} (f : α -> Bool) (g : α -> β) (d : β) : ∀ (l : List α),((List.range l.length).filter fun i => (l[i]?.map f).getD false).map (fun i => (l[i]?.map g).getD d) = (l.filter f).map g
 | [] => rfl
 | a :: l => by
  have ih := iqc f g d l
  have e2 : ((((List.range l.length).map Nat.succ).filter fun i => (((a :: l)[i]?).map f).getD false).map fun i => (((a :: l)[i]?).map g).getD d) = (l.filter f).map g := by
   rw [List.filter_map,List.map_map,<- ih]
   rfl
  rw [List.length_cons,List.range_succ_eq_map,List.filter_cons]
  by_cases hf : f a = true
  ·rw [if_pos (by simp [hf]),List.map_cons,e2,List.filter_cons,if_pos hf,List.map_cons]
   rfl
  ·rw [if_neg (by simp [hf]),e2,List.filter_cons,if_neg hf]
def canD : PyData -> Bool
 | .str s => s.cps.toList.all isSg && decide (0 < s.length) && !isDot s.cps.toList
 | _ => false
def txD : PyData -> List Nat
 | .str s => s.cps.toList
 | _ => []
def isValD (c : Pc) (d : PyData) : Bool := match c with
 | .rest _ => match d with
  | .list ds => decide (0 < ds.length) && ds.all canD
  | _ => false
 | .num _ => match d with
  | .int i => decide (0 ≤ i ∧ i < 10 ^ 60)
  | _ => false
 | .word _ => match d with
  | .str s => wordB s.cps.toList
  | _ => false
 | .step _ => false
 | .part h _ t => ftx d && !isDot (h ++ txD d ++ t)
 | .gap _ => ftx d && !isDot (txD d)
def stpsD (c : Pc) (d : PyData) : List (List Nat) := match c with
 | .rest _ => match d with
  | .list ds => ds.map txD
  | _ => []
 | .num _ => match d with
  | .int i => [dg i]
  | _ => []
 | .step s => [s]
 | c => [c.head ++ txD d ++ c.tail]
inductive VlsV (H : Hp) : List (List Nat × PyData) -> List V -> Prop
 | nil : VlsV H [] []
 | cons {n : List Nat} {d : PyData} {p : Addr} {v : V} {vs : List (List Nat × PyData)} {xs : List V} : H p = some (.tup [tV n,v]) -> Is H d v -> VlsV H vs xs -> VlsV H ((n,d) :: vs) (.ref p :: xs)
theorem VlsV.mono {H H' : Hp} (s : Same H H') : ∀ {vs : List (List Nat × PyData)} {xs : List V},VlsV H vs xs -> VlsV H' vs xs
 | _,_,.nil => .nil
 | _,_,.cons h a r => .cons (s _ _ h) (a.mono s) (VlsV.mono s r)
theorem VlsV.length {H : Hp} : ∀ {vs : List (List Nat × PyData)} {xs : List V},VlsV H vs xs -> xs.length = vs.length
 | _,_,.nil => rfl
 | _,_,.cons _ _ r => by simp [VlsV.length r]
theorem VlsV.get {H : Hp} : ∀ {vs : List (List Nat × PyData)} {xs : List V},VlsV H vs xs -> ∀ {i : Nat} {x : V},xs[i]? = some x -> ∃ n d p v,vs[i]? = some (n,d) ∧ x = .ref p ∧ H p = some (.tup [tV n,v]) ∧ Is H d v
 | _,_,.cons h a _,0,_,e => by cases e; exact ⟨_,_,_,_,rfl,rfl,h,a⟩
 | _,_,.cons _ _ r,i + 1,_,e => VlsV.get r (i := i) (by simpa using e)
 | _,_,.nil,_,_,e => by cases e
def gapsM (cs : List Pc) : List (List Nat) := (cs.filter fun c => !c.isStep).map Pc.name
def named (vs : List (List Nat × PyData)) (n : List Nat) : List PyData := (vs.filter fun p => decide (p.1 = n)).map (·.2)
def fillS (c : Pc) (vs : List (List Nat × PyData)) : Except (List Nat) (List (List Nat)) := match c with
 | .step s => .ok [s]
 | c => match named vs c.name with
  | [d] => if isValD c d = true then .ok (stpsD c d) else .error c.name
  | _ => .error c.name
def fillF : List Pc -> List (List Nat × PyData) -> Except (List Nat) (List (List Nat))
 | [],_ => .ok []
 | c :: cs,vs => match fillS c vs with
  | .error n => .error n
  | .ok a => match fillF cs vs with
   | .error n => .error n
   | .ok b => .ok (a ++ b)
def otherM (cs : List Pc) (vs : List (List Nat × PyData)) : Option (List Nat) := (vs.find? fun p => !decide (p.1 ∈ gapsM cs)).map (·.1)
def fillM (cs : List Pc) (vs : List (List Nat × PyData)) : Except (List Nat) (List (List Nat)) := match fillF cs vs with
 | .error n => .error n
 | .ok ss => match otherM cs vs with
  | some n => .error n
  | none => .ok ss
theorem mqf {H : Hp} {vs : List (List Nat × PyData)} {xs : List V} (h : VlsV H vs xs) (n : List Nat) (g : Nat -> V) (hg : ∀ i m d p v,vs[i]? = some (m,d) -> xs[i]? = some (.ref p) -> H p = some (.tup [tV m,v]) -> g i = v) :
  IsAll H (named vs n) (((List.range xs.length).filter fun i => decide ((vs[i]?.map (·.1)) = some n)).map g) := by
 induction h generalizing g with
 | nil => exact .nil
 | cons hp ha r ih =>
  rename_i m d p v vs xs
  have e : List.range (V.ref p :: xs).length = 0 :: (List.range xs.length).map Nat.succ := by rw [List.length_cons,List.range_succ_eq_map]
  have ih' := ih (fun i => g (i + 1)) (fun i m d p v h1 h2 h3 => hg (i + 1) m d p v (by simpa using h1) (by simpa using h2) h3)
  have e2 : ((((List.range xs.length).map Nat.succ).filter fun i => decide ((((m,d) :: vs)[i]?.map (·.1)) = some n)).map g) = (((List.range xs.length).filter fun i => decide ((vs[i]?.map (·.1)) = some n)).map fun i => g (i + 1)) := by
   rw [List.filter_map,List.map_map]
   rfl
  rw [e,List.filter_cons]
  have g0 : g 0 = v := hg 0 m d p v rfl rfl hp
  by_cases hm : m = n
  ·have e3 : named ((m,d) :: vs) n = d :: named vs n := by unfold named; rw [List.filter_cons,if_pos (by simp [hm])]; rfl
   rw [e3,if_pos (by simp [hm]),List.map_cons,e2,g0]
   exact .cons ha ih'
  ·have e3 : named ((m,d) :: vs) n = named vs n := by unfold named; rw [List.filter_cons,if_neg (by simp [hm])]
   rw [e3,if_neg (by simp [hm]),e2]
   exact ih'
theorem lqS {H : Hp} : ∀ {ds : List PyData} {xs : List V},IsAll H ds xs -> ds.all canD = true -> xs = (ds.map txD).map tV
 | _,_,.nil,_ => rfl
 | d :: ds,_,.cons h r,hc => by
  rw [List.all_cons,Bool.and_eq_true] at hc
  have := lqS r hc.2
  cases d with
  | str s => cases h; rw [this]; rfl
  | _ => cases hc.1
theorem oqg {c : Pc} {vs : List (List Nat × PyData)} {ss : List (List Nat)} (h : fillS c vs = .ok ss) (hs : ∀ p ∈ vs,smallD p.2 = true) : ss.length ≤ 100000 := by
 have gen : ∀ c : Pc,(match named vs c.name with | [d] => if isValD c d = true then (.ok (stpsD c d) : Except (List Nat) (List (List Nat))) else .error c.name | _ => .error c.name) = .ok ss -> (∀ d,d ∈ named vs c.name -> isValD c d = true -> (stpsD c d).length ≤ 100000) -> ss.length ≤ 100000 := fun c h hd => by
  cases hn : named vs c.name with
  | nil => rw [hn] at h; cases h
  | cons d r =>
   cases r with
   | nil =>
    rw [hn] at h hd
    by_cases hv : isValD c d = true
    ·have h : (if isValD c d = true then (.ok (stpsD c d) : Except (List Nat) (List (List Nat))) else .error c.name) = .ok ss := h
     rw [if_pos hv] at h
     cases h
     exact hd d (List.mem_singleton.mpr rfl) hv
    ·have h : (if isValD c d = true then (.ok (stpsD c d) : Except (List Nat) (List (List Nat))) else .error c.name) = .ok ss := h
     rw [if_neg hv] at h
     cases h
   | cons _ _ => rw [hn] at h; cases h
 have hsd : ∀ n d,d ∈ named vs n -> smallD d = true := fun n d hd => by
  obtain ⟨p,hp,rfl⟩ := List.mem_map.mp hd
  exact hs p (List.mem_filter.mp hp).1
 cases c with
 | step s => cases h; exact (show 1 ≤ 100000 by decide)
 | part a b e => exact gen _ h fun d _ _ => (by show 1 ≤ 100000; decide)
 | word n => exact gen _ h fun d _ _ => (by show 1 ≤ 100000; decide)
 | gap n => exact gen _ h fun d _ _ => (by show 1 ≤ 100000; decide)
 | num n =>
  refine gen _ h fun d _ hv => ?_
  cases d with
  | int i => exact (by show 1 ≤ 100000; decide)
  | _ => exact Nat.zero_le _
 | rest n =>
  refine gen _ h fun d hd _ => ?_
  cases d with
  | list ds =>
   have := hsd _ _ hd
   simp only [smallD,Bool.and_eq_true,decide_eq_true_eq] at this
   show (ds.map txD).length ≤ 100000
   rw [List.length_map]
   exact this.1
  | _ => exact Nat.zero_le _
theorem jqS {vs : List (List Nat × PyData)} : ∀ {cs : List Pc} {i : Nat} {c : Pc} {a b : List (List Nat)},cs[i]? = some c -> fillF (cs.take i) vs = .ok a -> fillS c vs = .ok b -> fillF (cs.take (i + 1)) vs = .ok (a ++ b)
 | [],_,_,_,_,h,_,_ => by cases h
 | d :: cs,0,c,a,b,h,h1,h2 => by
  cases h; cases h1
  show fillF [d] vs = _
  unfold fillF fillF
  rw [h2]
  simp
 | d :: cs,i + 1,c,a,b,h,h1,h2 => by
  have h : cs[i]? = some c := by simpa using h
  have h1 : fillF (d :: cs.take i) vs = .ok a := h1
  show fillF (d :: cs.take (i + 1)) vs = _
  unfold fillF at h1 ⊢
  cases hd : fillS d vs with
  | error n => rw [hd] at h1; cases h1
  | ok x =>
   rw [hd] at h1
   cases hf : fillF (cs.take i) vs with
   | error n => rw [hf] at h1; cases h1
   | ok y =>
    rw [hf] at h1
    cases h1
    have := jqS h hf h2
    rw [this]
    simp
theorem lq7 {vs : List (List Nat × PyData)} {n : List Nat} : ∀ {cs : List Pc} {i : Nat} {c : Pc} {a : List (List Nat)},cs[i]? = some c -> fillF (cs.take i) vs = .ok a -> fillS c vs = .error n -> fillF cs vs = .error n
 | [],_,_,_,h,_,_ => by cases h
 | d :: cs,0,c,a,h,h1,h2 => by
  cases h
  unfold fillF
  rw [h2]
 | d :: cs,i + 1,c,a,h,h1,h2 => by
  have h : cs[i]? = some c := by simpa using h
  have h1 : fillF (d :: cs.take i) vs = .ok a := h1
  unfold fillF at h1 ⊢
  cases hd : fillS d vs with
  | error n => rw [hd] at h1; cases h1
  | ok x =>
   rw [hd] at h1
   cases hf : fillF (cs.take i) vs with
   | error n => rw [hf] at h1; cases h1
   | ok y =>
    rw [hf] at h1
    cases h1
    have := lq7 h hf h2
    rw [this]
def prAt (H : Hp) (ys : List V) (i : Nat) : V × V := match ys[i]? with
 | some (.ref p) => match H p with
  | some (.tup [a,b]) => (a,b)
  | _ => (.non,.non)
 | _ => (.non,.non)
theorem mqc {H : Hp} {ys : List V} {i : Nat} {p : Addr} {a b : V} (h : ys[i]? = some (.ref p)) (hp : H p = some (.tup [a,b])) : prAt H ys i = (a,b) := by
 unfold prAt
 rw [h]
 dsimp only
 rw [hp]
theorem lqO {c : Pc} {vs : List (List Nat × PyData)} (h : c.isStep = false) : fillS c vs = (match named vs c.name with | [d] => if isValD c d = true then .ok (stpsD c d) else .error c.name | _ => .error c.name) := by
 cases c with
 | step s => cases h
 | _ => rfl
end Wm
namespace L2
open PySem
theorem oqx {X : Cx} {K : PySem.W.Frag} (h : X.K = K) : OpR X (compareOp .NotIn) (rIn K true) := by subst h; exact lq3
end L2
namespace Wm
open PySem L2
theorem nqh {cs : List Pc} {n : List Nat} {d : PyData} : ∀ {ws : List (List Nat × PyData)} {i : Nat},ws[i]? = some (n,d) -> (∀ w ∈ ws.take i,w.1 ∈ gapsM cs) -> n ∉ gapsM cs -> otherM cs ws = some n
 | [],_,h,_,_ => by cases h
 | w :: ws,0,h,_,hn => by
  cases h
  unfold otherM
  rw [List.find?_cons_of_pos (by simp [hn])]
  rfl
 | w :: ws,i + 1,h,hp,hn => by
  have hw := hp w (by simp)
  have ih := nqh (ws := ws) (i := i) (by simpa using h) (fun x hx => hp x (by simp [hx])) hn
  unfold otherM at ih ⊢
  rw [List.find?_cons_of_neg (by simp [hw])]
  exact ih
theorem kqf {cs : List Pc} {ws : List (List Nat × PyData)} (h : ∀ w ∈ ws,w.1 ∈ gapsM cs) : otherM cs ws = none := by
 unfold otherM
 rw [List.find?_eq_none.mpr (fun w hw => by simp [h w hw])]
 rfl
theorem qqG (cs : List Pc) : (gapsM cs).length ≤ cs.length := by
 unfold gapsM
 rw [List.length_map]
 exact List.length_filter_le _ _
theorem sqw : ∀ (k : Nat) (ds : List Nat),ds.length = k -> ds ≠ [] -> (∀ c ∈ ds,48 ≤ c ∧ c ≤ 57) -> (ds = [48] ∨ ds.head? ≠ some 48) -> (Nat.toDigits 10 (valD ds)).map Char.toNat = ds := by
 intro k
 induction k with
 | zero => intro ds hl hn; exact absurd (List.length_eq_zero_iff.mp hl) hn
 | succ k ih =>
  intro ds hl hn hd h0
  have key : ∀ n,n < 10 -> ([Nat.digitChar n].map Char.toNat) = [48 + n] := by decide +kernel
  obtain ⟨as,c,rfl⟩ : ∃ as c,ds = as ++ [c] := ⟨ds.dropLast,ds.getLast hn,(List.dropLast_concat_getLast hn).symm⟩
  have hc := hd c (List.mem_append_right _ (List.mem_singleton.mpr rfl))
  rw [gq4]
  cases has : as with
  | nil =>
   have ev : valD ([] : List Nat) = 0 := rfl
   rw [ev,Nat.zero_mul,Nat.zero_add,Nat.toDigits_of_lt_base (by omega),key _ (by omega)]
   show [48 + (c - 48)] = [c]
   congr 1; omega
  | cons a as' =>
   rw [<- has]
   have hne : as ≠ [] := by rw [has]; simp
   have ha48 : a ≠ 48 := fun z => by
    rcases h0 with h0 | h0
    ·have := congrArg List.length h0
     rw [List.length_append,has] at this
     simp at this
    ·refine h0 ?_
     rw [has,z]; rfl
   have ha := hd a (by rw [has]; simp)
   have hp := qqS has (by omega)
   have hi := ih as (by rw [List.length_append,List.length_singleton] at hl; omega) hne (fun x hx => hd x (List.mem_append_left _ hx)) (.inr (by rw [has]; intro z; exact ha48 (Option.some.inj z)))
   rw [Nat.toDigits_of_base_le (by decide) (by omega),List.map_append]
   rw [show (valD as * 10 + (c - 48)) / 10 = valD as by omega,show (valD as * 10 + (c - 48)) % 10 = c - 48 by omega,hi,key _ (by omega)]
   congr 1
   show [48 + (c - 48)] = [c]
   congr 1; omega
theorem nq0 : ∀ (k : Nat) (ds : List Nat),ds.length = k -> (∀ c ∈ ds,48 ≤ c ∧ c ≤ 57) -> valD ds < 10 ^ k := by
 intro k
 induction k with
 | zero => intro ds hl _; rw [List.length_eq_zero_iff.mp hl]; decide
 | succ k ih =>
  intro ds hl hd
  have hn : ds ≠ [] := fun z => by rw [z] at hl; cases hl
  obtain ⟨as,c,rfl⟩ : ∃ as c,ds = as ++ [c] := ⟨ds.dropLast,ds.getLast hn,(List.dropLast_concat_getLast hn).symm⟩
  have hc := hd c (List.mem_append_right _ (List.mem_singleton.mpr rfl))
  have := ih as (by rw [List.length_append,List.length_singleton] at hl; omega) (fun x hx => hd x (List.mem_append_left _ hx))
  rw [gq4,Nat.pow_succ]
  omega
theorem pqd {l : List Nat} (h : l.all isFig = true) (h0 : 1 ≤ l.length) (h1 : l.length ≤ 60) : intOf l = (valD l : Int) := by
 have e := intText_digits (x := ⟨l.toArray⟩) (fun c hc => by
  have := List.all_eq_true.mp h c (by simpa using hc)
  simpa [isFig] using this) (by intro z; simp at z; rw [z] at h0; simp at h0) (by show l.length ≤ 4300; omega)
 unfold intOf
 rw [e]
 rfl
theorem rqK {l : List Nat} (h : l.all isFig = true) : ∀ c ∈ l,48 ≤ c ∧ c ≤ 57 := fun c hc => by
 have := List.all_eq_true.mp h c hc
 simpa [isFig] using this
theorem qqV {s : List Nat} (h : numB s = true) : dg (intOf s) = s ∧ 0 ≤ intOf s ∧ intOf s < 10 ^ 60 := by
 unfold numB at h
 simp only [Bool.and_eq_true,decide_eq_true_eq,Bool.or_eq_true,Bool.not_eq_true',decide_eq_false_iff_not] at h
 obtain ⟨⟨⟨h1,h2⟩,h3⟩,h4⟩ := h
 have hf := rqK h3
 rw [pqd h3 h1 h2]
 have hn : s ≠ [] := List.length_pos_iff.mp h1
 refine ⟨?_,by omega,?_⟩
 ·unfold dg
  rw [PySem.W.KIN.signs_num]
  exact sqw _ s rfl hn hf h4
 ·have := nq0 _ s rfl hf
  have h10 : 10 ^ s.length ≤ 10 ^ 60 := Nat.pow_le_pow_right (by decide) h2
  have : valD s < 10 ^ 60 := Nat.lt_of_lt_of_le this h10
  exact_mod_cast this
theorem pqz {h t s : List Nat} (hp : partB h t s = true) : h ++ amid h t s ++ t = s ∧ amid h t s ≠ [] := by
 unfold partB at hp
 simp only [Bool.and_eq_true,decide_eq_true_eq] at hp
 obtain ⟨h1,h2,h3⟩ := hp
 unfold amid
 constructor
 ·have e1 : h ++ s.drop h.length = s := by
   conv => rhs; rw [<- List.take_append_drop h.length s]
   rw [h1]
  have e2 : (s.drop h.length).drop (s.length - t.length - h.length) = t := by
   rw [List.drop_drop,show h.length + (s.length - t.length - h.length) = s.length - t.length by omega]
   exact h2
  rw [List.append_assoc]
  have e3 : (s.drop h.length).take (s.length - t.length - h.length) ++ t = s.drop h.length := by
   conv => rhs; rw [<- List.take_append_drop (s.length - t.length - h.length) (s.drop h.length)]
   rw [e2]
  rw [e3,e1]
 ·intro z
  have := congrArg List.length z
  rw [List.length_take,List.length_drop] at this
  simp at this
  omega
def SgT (s : List Nat) : Prop := s ≠ [] ∧ ∀ c ∈ s,isSg c = true
theorem oqn {s : List Nat} (h : SgT s) : ftx (st s) = true := by
 simp only [ftx,pqC,Bool.and_eq_true,decide_eq_true_eq]
 exact ⟨List.all_eq_true.mpr h.2,List.length_pos_iff.mpr h.1⟩
theorem qqg {c : Pc} {s : List Nat} {r : List (List Nat)} (hs : c.isStep = false) (hr : c.isRest = false) (hf : fitsM c s = true) (hg : SgT s) : isValD c (vlD (bvM c (s :: r))) = true ∧ stpsD c (vlD (bvM c (s :: r))) = [s] := by
 unfold fitsM at hf
 rw [Bool.and_eq_true,Bool.not_eq_true'] at hf
 obtain ⟨hd,hf⟩ := hf
 cases c with
 | step w => cases hs
 | rest n => cases hr
 | part h n t =>
  obtain ⟨e,ne⟩ := pqz hf
  have ea : vlD (bvM (.part h n t) (s :: r)) = st (amid h t s) := rfl
  rw [ea]
  refine ⟨?_,?_⟩
  ·show (ftx (st (amid h t s)) && !isDot (h ++ amid h t s ++ t)) = true
   rw [e,hd,oqn ⟨ne,fun c hc => hg.2 c (by rw [<- e]; simp [hc])⟩]
   rfl
  ·show [h ++ amid h t s ++ t] = [s]
   rw [e]
 | num n =>
  obtain ⟨h1,h2,h3⟩ := qqV hf
  have ea : vlD (bvM (.num n) (s :: r)) = .int (intOf s) := rfl
  rw [ea]
  exact ⟨decide_eq_true ⟨h2,h3⟩,by show [dg (intOf s)] = [s]; rw [h1]⟩
 | word n =>
  have ea : vlD (bvM (.word n) (s :: r)) = st s := by show st (amid [] [] s) = st s; rw [mqW]
  rw [ea]
  exact ⟨hf,by show [[] ++ s ++ []] = [s]; simp⟩
 | gap n =>
  have ea : vlD (bvM (.gap n) (s :: r)) = st s := by show st (amid [] [] s) = st s; rw [mqW]
  rw [ea]
  refine ⟨?_,by show [[] ++ s ++ []] = [s]; simp⟩
  show (ftx (st s) && !isDot s) = true
  rw [oqn hg,hd]; rfl
theorem sqq {s : List Nat} (h : SgT s) (hd : isDot s = false) : canD (st s) = true := by
 show (s.all isSg && decide (0 < (⟨s.toArray⟩ : Str).length) && !isDot s) = true
 rw [List.all_eq_true.mpr h.2,decide_eq_true (show 0 < (⟨s.toArray⟩ : Str).length by rw [bqn]; exact List.length_pos_iff.mpr h.1),hd]
 rfl
theorem pqR {n : List Nat} {ss : List (List Nat)} (hn : ss ≠ []) (h : ∀ s ∈ ss,SgT s ∧ isDot s = false) : isValD (.rest n) (vlD (bvM (.rest n) ss)) = true ∧ stpsD (.rest n) (vlD (bvM (.rest n) ss)) = ss := by
 have ea : vlD (bvM (.rest n) ss) = .list (ss.map st) := rfl
 rw [ea]
 refine ⟨?_,?_⟩
 ·show (decide (0 < (ss.map st).length) && (ss.map st).all canD) = true
  rw [decide_eq_true (by rw [List.length_map]; exact List.length_pos_iff.mpr hn),Bool.true_and]
  refine List.all_eq_true.mpr fun d hd => ?_
  obtain ⟨s,hs,rfl⟩ := List.mem_map.mp hd
  exact sqq (h s hs).1 (h s hs).2
 ·show (ss.map st).map txD = ss
  rw [List.map_map]
  conv => rhs; rw [<- List.map_id ss]
  rfl
theorem nqZ {ws : List (List Nat × PyData)} {n : List Nat} (h : n ∉ ws.map (·.1)) : named ws n = [] := by
 unfold named
 rw [List.filter_eq_nil_iff.mpr fun p hp => by
  simp only [decide_eq_true_eq]
  exact fun z => h (by rw [<- z]; exact List.mem_map_of_mem hp)]
 rfl
theorem lqw : ∀ {ws : List (List Nat × PyData)} {n : List Nat} {d : PyData},(ws.map (·.1)).Nodup -> (n,d) ∈ ws -> named ws n = [d]
 | [],_,_,_,h => by cases h
 | w :: ws,n,d,hn,h => by
  rw [List.map_cons,List.nodup_cons] at hn
  rcases List.mem_cons.mp h with rfl | h
  ·have : named ((n,d) :: ws) n = d :: named ws n := by unfold named; rw [List.filter_cons,if_pos (by simp)]; rfl
   rw [this,nqZ hn.1]
  ·have hne : w.1 ≠ n := fun z => hn.1 (by rw [z]; exact List.mem_map_of_mem (f := (·.1)) h)
   have : named (w :: ws) n = named ws n := by unfold named; rw [List.filter_cons,if_neg (by simp [hne])]
   rw [this]
   exact lqw hn.2 h
theorem iq2 : ∀ (cs : List Pc) (ss : List (List Nat)),(boundM cs ss).map (·.1) = gapsM cs
 | [],_ => rfl
 | c :: cs,ss => by
  have ih := iq2 cs (ss.drop 1)
  show ((if c.isStep then [] else [(c.name,bvM c ss)]) ++ boundM cs (ss.drop 1)).map (·.1) = _
  rw [List.map_append,ih]
  unfold gapsM
  rw [List.filter_cons]
  cases c.isStep <;> rfl
theorem dqn {ns : List (List Nat)} (hn : ns.Nodup) : ∀ {cs : List Pc} (k : Nat),(∀ (i : Nat) (c : Pc),cs[i]? = some c -> c.isStep = false -> ns[k + i]? = some c.name) -> (gapsM cs).Nodup ∧ ∀ n ∈ gapsM cs,∃ j,k ≤ j ∧ ns[j]? = some n
 | [],_,_ => ⟨List.nodup_nil,fun n h => by cases h⟩
 | c :: cs,k,h => by
  obtain ⟨i1,i2⟩ := dqn hn (cs := cs) (k + 1) fun i d hd hs => by
   have := h (i + 1) d (by simpa using hd) hs
   rw [<- this]; congr 1; omega
  have e : gapsM (c :: cs) = (if c.isStep then [] else [c.name]) ++ gapsM cs := by
   unfold gapsM
   rw [List.filter_cons]
   cases c.isStep <;> rfl
  rw [e]
  cases hs : c.isStep with
  | true => exact ⟨i1,fun n hn' => by obtain ⟨j,h1,h2⟩ := i2 n hn'; exact ⟨j,by omega,h2⟩⟩
  | false =>
   have h0 : ns[k]? = some c.name := h 0 c rfl hs
   refine ⟨?_,fun n hn' => ?_⟩
   ·show (c.name :: gapsM cs).Nodup
    rw [List.nodup_cons]
    refine ⟨fun z => ?_,i1⟩
    obtain ⟨j,h1,h2⟩ := i2 _ z
    obtain ⟨a1,a2⟩ := List.getElem?_eq_some_iff.mp h0
    obtain ⟨b1,b2⟩ := List.getElem?_eq_some_iff.mp h2
    rw [List.nodup_iff_pairwise_ne,List.pairwise_iff_getElem] at hn
    exact hn k j a1 b1 (by omega) (a2.trans b2.symm)
   ·rcases List.mem_cons.mp (show n ∈ c.name :: gapsM cs from hn') with rfl | z
    ·exact ⟨k,Nat.le_refl _,h0⟩
    ·obtain ⟨j,h1,h2⟩ := i2 n z; exact ⟨j,by omega,h2⟩
theorem jqJ {ws : List (List Nat × PyData)} : ∀ {cs : List Pc} {ss : List (List Nat)},(∀ (i : Nat) (c : Pc),cs[i]? = some c -> ∃ s,ss[i]? = some s ∧ fitsM c s = true) -> (∀ (i : Nat) (c : Pc),cs[i]? = some c -> c.isRest = true -> i + 1 = cs.length) -> ((∀ c ∈ cs,c.isRest = false) -> ss.length = cs.length) -> (∀ s ∈ ss,SgT s ∧ isDot s = false) -> (∀ n x,(n,x) ∈ boundM cs ss -> named ws n = [vlD x]) -> fillF cs ws = .ok ss
 | [],ss,_,_,hl,_,_ => by
  have := hl (fun c hc => by cases hc)
  rw [List.length_nil] at this
  rw [List.length_eq_zero_iff.mp this]
  rfl
 | c :: cs,ss,hf,hr,hl,hg,hb => by
  obtain ⟨s,h0,hfs⟩ := hf 0 c rfl
  cases ss with
  | nil => cases h0
  | cons s' ss =>
   cases h0
   have hbe : boundM (c :: cs) (s :: ss) = (if c.isStep then [] else [(c.name,bvM c (s :: ss))]) ++ boundM cs ss := rfl
   by_cases hcr : c.isRest = true
   ·have hn : cs = [] := List.length_eq_zero_iff.mp (by have := hr 0 c rfl hcr; simp only [List.length_cons] at this; omega)
    subst hn
    cases c with
    | rest n =>
     have hb1 := hb n (bvM (.rest n) (s :: ss)) (by rw [hbe]; exact List.mem_append_left _ (List.mem_singleton.mpr rfl))
     obtain ⟨r1,r2⟩ := pqR (n := n) (ss := s :: ss) (by simp) hg
     have e : fillS (.rest n) ws = .ok (s :: ss) := by
      show (match named ws n with | [d] => if isValD (.rest n) d = true then (.ok (stpsD (.rest n) d) : Except (List Nat) (List (List Nat))) else .error n | _ => .error n) = _
      rw [hb1]
      show (if isValD (.rest n) _ = true then _ else _) = _
      rw [if_pos r1,r2]
     unfold fillF fillF
     rw [e]
     simp
    | _ => cases hcr
   ·have ih := jqJ (ws := ws) (cs := cs) (ss := ss) (fun i d hd => by
     obtain ⟨z,h1,h2⟩ := hf (i + 1) d (by simpa using hd)
     exact ⟨z,by simpa using h1,h2⟩) (fun i d hd hdr => by
     have := hr (i + 1) d (by simpa using hd) hdr
     simp only [List.length_cons] at this; omega) (fun h => by
     have := hl (fun d hd => by
      rcases List.mem_cons.mp hd with rfl | hd
      ·simpa using hcr
      ·exact h d hd)
     simp only [List.length_cons] at this; omega) (fun z hz => hg z (List.mem_cons_of_mem _ hz)) (fun n x hx => hb n x (by rw [hbe]; exact List.mem_append_right _ hx))
    have e : fillS c ws = .ok [s] := by
     cases hst : c.isStep with
     | true =>
      cases c with
      | step w =>
       unfold fitsM at hfs
       rw [Bool.and_eq_true] at hfs
       have : s = w := of_decide_eq_true hfs.2
       rw [this]
       rfl
      | _ => cases hst
     | false =>
      rw [lqO hst]
      have hb1 := hb c.name (bvM c (s :: ss)) (by rw [hbe,hst]; exact List.mem_append_left _ (List.mem_singleton.mpr rfl))
      rw [hb1]
      obtain ⟨r1,r2⟩ := qqg (r := ss) hst (by simpa using hcr) hfs (hg s (List.mem_cons_self ..)).1
      show (if isValD c _ = true then _ else _) = _
      rw [if_pos r1,r2]
    unfold fillF
    rw [e,ih]
    rfl
theorem pqF {cs : List Pc} {cl r e : Bool} {ss : List (List Nat)} (h : fitsP cs cl r ss e = true) : r = true ∧ e = cl ∧ ((∀ c ∈ cs,c.isRest = false) -> ss.length = cs.length) ∧ cs.length ≤ ss.length ∧ ∀ s ∈ ss,isDot s = false := by
 unfold fitsP at h
 cases hs : spreadM cs ss.length with
 | none => rw [hs] at h; cases h
 | some ds =>
  rw [hs] at h
  have h : (r && decide (e = cl) && (List.zipWith fitsM ds ss).all id) = true := h
  rw [Bool.and_eq_true,Bool.and_eq_true,decide_eq_true_eq] at h
  have hdl := jqI hs
  refine ⟨h.1.1,h.1.2,fun hn => ?_,(jqY hs).1,fun s hsm => ?_⟩
  ·unfold spreadM at hs
   by_cases hr : hasRest cs = true ∧ cs.length ≤ ss.length
   ·exfalso
    have hh := hr.1
    unfold hasRest at hh
    cases hg : cs.getLast? with
    | none => rw [hg] at hh; cases hh
    | some c =>
     rw [hg] at hh
     have hc := hn c (List.mem_of_getLast? hg)
     have hh : c.isRest = true := hh
     rw [hc] at hh
     cases hh
   ·rw [if_neg hr] at hs
    by_cases hl : ss.length = cs.length
    ·exact hl
    ·rw [if_neg hl] at hs; cases hs
  ·obtain ⟨i,hi⟩ := List.mem_iff_getElem?.mp hsm
   have hil := (List.getElem?_eq_some_iff.mp hi).1
   have hd : ds[i]? = some ds[i] := List.getElem?_eq_getElem (by omega)
   have hz : fitsM ds[i] s ∈ List.zipWith fitsM ds ss := by
    rw [List.mem_iff_getElem?]
    exact ⟨i,by rw [List.getElem?_zipWith,hd,hi]⟩
   have := List.all_eq_true.mp h.2 _ hz
   have this : fitsM ds[i] s = true := this
   unfold fitsM at this
   rw [Bool.and_eq_true,Bool.not_eq_true'] at this
   exact this.1
theorem pqL {cs : List Pc} {cl r e : Bool} {ss : List (List Nat)} {ws : List (List Nat × PyData)} (h : fitsP cs cl r ss e = true) (hr : ∀ (i : Nat) (c : Pc),cs[i]? = some c -> c.isRest = true -> i + 1 = cs.length) (hg : ∀ s ∈ ss,SgT s)
  (hn : (ws.map (·.1)).Nodup) (hw : ∀ n x,(n,x) ∈ boundM cs ss -> (n,vlD x) ∈ ws) (hs : ∀ w ∈ ws,w.1 ∈ gapsM cs) : fillM cs ws = .ok ss := by
 obtain ⟨h1,h2,h3,h4,h5⟩ := pqF h
 unfold fillM
 rw [jqJ (fun i c hc => nqb h hc) hr h3 (fun s hs' => ⟨hg s hs',h5 s hs'⟩) (fun n x hx => lqw hn (hw n x hx)),kqf hs]
theorem uqf {c : Nat} (h : 48 ≤ c ∧ c ≤ 57) : isSg c = true := by
 simp only [isSg,Bool.and_eq_true,decide_eq_true_eq,Bool.not_eq_true',decide_eq_false_iff_not]
 omega
theorem sqx {k : Nat} : ∀ {n : Nat},0 < k -> n < 10 ^ k -> (Nat.toDigits 10 n).length ≤ k := by
 induction k with
 | zero => intro n h; cases h
 | succ k ih =>
  intro n _ h
  by_cases hn : n < 10
  ·rw [Nat.toDigits_of_lt_base hn]; simp
  ·rw [Nat.toDigits_of_base_le (by decide) (by omega),List.length_append,List.length_singleton]
   cases k with
   | zero => omega
   | succ k =>
    have := ih (n := n / 10) (by omega) (by rw [Nat.pow_succ] at h; omega)
    omega
theorem oq3 {n : Nat} (h : n < 10 ^ 60) : (Nat.toDigits 10 n).length ≤ 60 := sqx (by decide) h
theorem jqj : ∀ {ds : List PyData},(∀ d ∈ ds,PyData.eqv d d = true) -> PyData.eqvAll ds ds = true
 | [],_ => by simp [PyData.eqvAll]
 | d :: ds,h => by
  have h1 := h d (List.mem_cons_self ..)
  have h2 := jqj (ds := ds) fun x hx => h x (List.mem_cons_of_mem _ hx)
  simp [PyData.eqvAll,h1,h2]
theorem pqK {ds : List PyData} (h : ∀ d ∈ ds,PyData.eqv d d = true) : PyData.eqv (.tuple ds) (.tuple ds) = true := by
 simp [PyData.eqv,jqj h]
theorem tql (l : List Nat) : PyData.eqv (st l) (st l) = true := by simp [PyData.eqv]
theorem mqZ (b : Bool) : PyData.eqv (.bool b) (.bool b) = true := by simp [PyData.eqv]
def VlOk : Vl -> Prop
 | .txt l => (∀ c ∈ l,isSg c = true) ∧ l.length ≤ 20000
 | .int _ => True
 | .lst ls => (∀ l ∈ ls,(∀ c ∈ l,isSg c = true) ∧ l.length ≤ 20000) ∧ ls.length ≤ 20000
theorem VlOk.small {x : Vl} (h : VlOk x) : smallD (vlD x) = true := by
 cases x with
 | txt l => simp only [vlD,smallD,pqC,decide_eq_true_eq]; have := h.2; omega
 | int i => rfl
 | lst ls => exact kq7 (by rw [List.length_map]; have := h.2; omega) (jqn fun d hd => by
   obtain ⟨l,hl,rfl⟩ := List.mem_map.mp hd
   simp only [smallD,pqC,decide_eq_true_eq]; have := (h.1 l hl).2; omega)
theorem mqL {h t s : List Nat} : ∀ c ∈ amid h t s,c ∈ s := fun c hc => List.mem_of_mem_drop (List.mem_of_mem_take hc)
theorem kqM {h t s : List Nat} : (amid h t s).length ≤ s.length := by unfold amid; rw [List.length_take,List.length_drop]; omega
theorem nqq : ∀ {cs : List Pc} {ss : List (List Nat)},(∀ s ∈ ss,(∀ c ∈ s,isSg c = true) ∧ s.length ≤ 20000) -> ss.length ≤ 20000 -> ∀ p ∈ boundM cs ss,VlOk p.2
 | [],_,_,_,p,hp => by cases hp
 | c :: cs,ss,h,hl,p,hp => by
  have hp : p ∈ (if c.isStep then [] else [(c.name,bvM c ss)]) ++ boundM cs (ss.drop 1) := hp
  rcases List.mem_append.mp hp with z | z
  ·cases hs : c.isStep with
   | true => rw [hs] at z; cases z
   | false =>
    rw [hs] at z
    have hh : (∀ x ∈ ss.headD [],isSg x = true) ∧ (ss.headD []).length ≤ 20000 := by
     cases ss with
     | nil => exact ⟨(fun x hx => by cases hx),Nat.zero_le _⟩
     | cons s ss => exact h s (List.mem_cons_self ..)
    have z : p = (c.name,bvM c ss) := by simpa using z
    rw [z]
    cases c with
    | step w => cases hs
    | rest n => exact ⟨h,hl⟩
    | num n => trivial
    | part a n t => exact ⟨fun x hx => hh.1 x (mqL x hx),Nat.le_trans kqM hh.2⟩
    | word n => exact ⟨fun x hx => hh.1 x (mqL x hx),Nat.le_trans kqM hh.2⟩
    | gap n => exact ⟨fun x hx => hh.1 x (mqL x hx),Nat.le_trans kqM hh.2⟩
  ·exact nqq (fun s hs => h s (List.mem_of_mem_drop hs)) (by rw [List.length_drop]; omega) p z
theorem BndV.vls {H : Hp} {l : Addr} : ∀ {bs : List (List Nat × Vl)} {ys : List V},BndV H l bs ys -> VlsV H (bs.map fun p => (p.1,vlD p.2)) ys
 | _,_,.nil => .nil
 | _,_,.cons a b _ r => .cons a b.is (BndV.vls r)
def wyD (r : Bool) (ss : List (List Nat)) (e : Bool) : PyData := .tuple [.bool r,.tuple (ss.map st),.bool e]
theorem rqv {r e : Bool} {ss : List (List Nat)} (h : ∀ s ∈ ss,∀ c ∈ s,isSg c = true) : LayAt 2 (wyD r ss e) := LayAt.tup (n := 1) fun d hd => by
 simp only [List.mem_cons,List.not_mem_nil,or_false] at hd
 rcases hd with rfl | rfl | rfl
 ·exact LayAt.bool.le (by decide)
 ·exact LayAt.tup (n := 0) fun d hd => by obtain ⟨s,hs,rfl⟩ := List.mem_map.mp hd; exact LayAt.st (h s hs)
 ·exact LayAt.bool.le (by decide)
theorem rqT (r : Bool) (ss : List (List Nat)) (e : Bool) : PyData.eqv (wyD r ss e) (wyD r ss e) = true := pqK fun d hd => by
 simp only [List.mem_cons,List.not_mem_nil,or_false] at hd
 rcases hd with rfl | rfl | rfl
 ·exact mqZ _
 ·exact pqK fun d hd => by obtain ⟨s,hs,rfl⟩ := List.mem_map.mp hd; exact tql s
 ·exact mqZ _
theorem rqd {H : Hp} {r e : Bool} {ss : List (List Nat)} {pw ps : Addr} (h1 : H pw = some (.tup [.bl r,.ref ps,.bl e])) (h2 : H ps = some (.tup (ss.map tV))) : Is H (wyD r ss e) (.ref pw) :=
 .tup h1 (.cons (.bl _) (.cons (.tup h2 (kqU ss)) (.cons (.bl _) .nil)))
theorem gqX (xs : List V) (i : Nat) : cutV xs none (some (i : Int)) = xs.take i := by
 unfold cutV
 rw [HT.sIx_none,HT.sIx_nat,List.drop_zero,Nat.sub_zero]
 by_cases h : i ≤ xs.length
 ·rw [Nat.min_eq_left h]
 ·rw [Nat.min_eq_right (by omega),List.take_length,List.take_of_length_le (by omega)]
theorem oqS {α : Type} {l : List α} {k : Nat} (h : l.Nodup) : (l.drop k ++ l.take k).Nodup := by
 rw [<- List.take_append_drop k l,List.nodup_append] at h
 rw [List.nodup_append]
 exact ⟨h.2.1,h.1,fun a ha b hb e => h.2.2 b hb a ha e.symm⟩
theorem fqA {ns : List (List Nat)} (h : ns.Nodup) {r j : Nat} (hr : r ≤ j) (hj : j < ns.length) : (ns.take r ++ [ns[j]]).Nodup := by
 rw [List.nodup_append]
 refine ⟨h.sublist (List.take_sublist _ _),by simp,fun a ha b hb e => ?_⟩
 rw [List.mem_singleton] at hb
 obtain ⟨i,hi⟩ := List.mem_iff_getElem?.mp ha
 have hil := (List.getElem?_eq_some_iff.mp hi).1
 rw [List.length_take] at hil
 rw [List.getElem?_take,if_pos (by omega)] at hi
 obtain ⟨h1,h2⟩ := List.getElem?_eq_some_iff.mp hi
 rw [List.nodup_iff_pairwise_ne,List.pairwise_iff_getElem] at h
 exact h i j h1 hj (by omega) (by rw [h2,e,hb])
def trS : List Nat := [97,98,48,49]
def trialsM (h t : List Nat) : List (List Nat) := trS.map fun c => h ++ [c] ++ t
def PcTx (c : Pc) : Prop := c.head.length ≤ 40000 ∧ c.tail.length ≤ 40000 ∧ ∀ w,c = .step w -> w.length ≤ 40000
def fitT (c : Pc) : List (List Nat) := (match c with | .step w => [w] | c => trialsM c.head c.tail).filter (fitsM c)
def stepBey (c d : Pc) : Option (List Nat) := (fitT c).find? fun s => !fitsM d s
def countM (cs ds : List Pc) : Nat := if hasRest cs = true ∧ hasRest ds = false then max cs.length (ds.length + 1) else cs.length
def firstT (c : Pc) : List Nat := (fitT c).headD []
def beyS : List Pc -> List Pc -> Option (List (List Nat))
 | c :: cs,d :: ds => match stepBey c d with
  | some s => some (s :: cs.map firstT)
  | none => (beyS cs ds).map (firstT c :: ·)
 | _,_ => none
def beyM (cs : List Pc) (e : Bool) (ds : List Pc) (e' : Bool) : Option (List (List Nat)) := match spreadM cs (countM cs ds) with
 | none => none
 | some ms => if e ≠ e' then some (ms.map firstT) else match spreadM ds (countM cs ds) with
  | none => some (ms.map firstT)
  | some ts => beyS ms ts
theorem kqq {c : Pc} (h : PcTx c) : ∀ s ∈ fitT c,s.length ≤ 90000 := fun s hs => by
 unfold fitT at hs
 have hs := (List.mem_filter.mp hs).1
 have gen : ∀ a b : List Nat,a.length ≤ 40000 -> b.length ≤ 40000 -> s ∈ trialsM a b -> s.length ≤ 90000 := fun a b ha hb h => by
  obtain ⟨x,_,rfl⟩ := List.mem_map.mp h
  simp only [List.length_append,List.length_singleton]
  omega
 cases c with
 | step w => have := h.2.2 w rfl; rw [List.mem_singleton.mp hs]; omega
 | part a b d => exact gen _ _ h.1 h.2.1 hs
 | num n => exact gen _ _ h.1 h.2.1 hs
 | word n => exact gen _ _ h.1 h.2.1 hs
 | gap n => exact gen _ _ h.1 h.2.1 hs
 | rest n => exact gen _ _ h.1 h.2.1 hs
theorem mqN {α : Type} {p : α -> Bool} : ∀ {l : List α} {i : Nat} {s : α},l[i]? = some s -> (∀ z ∈ l.take i,p z = true) -> (!p s) = true -> l.find? (fun z => !p z) = some s
 | [],_,_,h,_,_ => by cases h
 | a :: l,0,s,h,_,hs => by
  cases h
  exact List.find?_cons_of_pos hs
 | a :: l,i + 1,s,h,hp,hs => by
  have ha := hp a (by simp)
  rw [List.find?_cons_of_neg (by rw [ha]; decide)]
  exact mqN (i := i) (by simpa using h) (fun z hz => hp z (by simp [hz])) hs
theorem jqe {h t : List Nat} {c : Nat} (hc : c ∈ trS) : h ++ [c] ++ t ∈ trialsM h t := List.mem_map.mpr ⟨c,hc,rfl⟩
theorem hqh {h t : List Nat} {c : Nat} (hc : c ∈ trS) : isDot (h ++ [c] ++ t) = false := by
 have : c ≠ 46 := by intro e; subst e; revert hc; decide
 rw [bqR]
 constructor <;> intro e
 ·have : c ∈ sUp := by rw [<- e]; simp
  revert this; unfold sUp; simp; omega
 ·have : c ∈ sStay := by rw [<- e]; simp
  revert this; unfold sStay; simp; omega
theorem kqV {c : Pc} {s : List Nat} (h : fitsM c s = true) : isDot s = false := by
 unfold fitsM at h
 rw [Bool.and_eq_true] at h
 simpa using h.1
theorem iqD {c : Pc} {s : List Nat} (h : c.isRest = true) (hs : isDot s = false) : fitsM c s = true := by
 cases c <;> first | cases h | skip
 show (!isDot s && true) = true
 rw [hs]; rfl
theorem qqr {h t h' t' : List Nat} {s : List Nat} (h1 : ∀ c ∈ trS,partB h' t' (h ++ [c] ++ t) = true) (h2 : partB h t s = true) : partB h' t' s = true := by
 have pB : ∀ {a b s : List Nat},partB a b s = true ↔ s.take a.length = a ∧ s.drop (s.length - b.length) = b ∧ a.length + b.length < s.length := fun {a b s} => by
  unfold partB; simp only [Bool.and_eq_true,decide_eq_true_eq]
 rw [pB] at h2 ⊢
 have ha := pB.mp (h1 97 (by decide))
 have hb := pB.mp (h1 98 (by decide))
 have hl : h'.length ≤ h.length := by
  refine Nat.le_of_not_lt fun hlt => ?_
  have e1 : h'[h.length]? = some 97 := by
   rw [<- ha.1,List.getElem?_take,if_pos hlt,List.append_assoc,List.getElem?_append_right (Nat.le_refl _),Nat.sub_self]; rfl
  have e2 : h'[h.length]? = some 98 := by
   rw [<- hb.1,List.getElem?_take,if_pos hlt,List.append_assoc,List.getElem?_append_right (Nat.le_refl _),Nat.sub_self]; rfl
  rw [e1] at e2; cases e2
 have key : ∀ c : Nat,(h ++ [c] ++ t).drop ((h ++ [c] ++ t).length - t'.length) = t' -> t.length < t'.length -> t'[t'.length - t.length - 1]? = some c := fun c e hlt => by
  have hle : t'.length ≤ (h ++ [c] ++ t).length := by
   have := congrArg List.length e
   rw [List.length_drop] at this
   omega
  have hlen : (h ++ [c] ++ t).length = h.length + 1 + t.length := by simp only [List.length_append,List.length_singleton]
  rw [<- e,List.getElem?_drop,List.length_drop]
  rw [show (h ++ [c] ++ t).length - t'.length + ((h ++ [c] ++ t).length - ((h ++ [c] ++ t).length - t'.length) - t.length - 1) = h.length by omega,List.append_assoc,List.getElem?_append_right (Nat.le_refl _),Nat.sub_self]
  rfl
 have tl : t'.length ≤ t.length := by
  refine Nat.le_of_not_lt fun hlt => ?_
  have e1 := key 97 ha.2.1 hlt
  rw [key 98 hb.2.1 hlt] at e1
  cases e1
 have eh : h' = h.take h'.length := by
  have := ha.1
  rw [List.append_assoc,List.take_append_of_le_length hl] at this
  exact this.symm
 have et : t' = t.drop (t.length - t'.length) := by
  have := ha.2.1
  have hd : (h ++ [97] ++ t).length - t'.length = (h ++ [97]).length + (t.length - t'.length) := by
   rw [List.length_append (as := h ++ [97])]; omega
  rw [hd,<- List.drop_drop,List.drop_left] at this
  exact this.symm
 obtain ⟨s1,s2,s3⟩ := h2
 refine ⟨?_,?_,by omega⟩
 ·rw [eh,List.length_take,Nat.min_eq_left hl]
  conv => rhs; rw [<- s1]
  rw [List.take_take,Nat.min_eq_left hl]
 ·conv => rhs; rw [et,<- s2,List.drop_drop]
  rw [s2]
  congr 1
  omega
theorem qqA {c d : Pc} {s : List Nat} (oc : PcOk c) (od : PcOk d) (hn : stepBey c d = none) (hf : fitsM c s = true) : fitsM d s = true := by
 have hd := kqV hf
 have all : ∀ z ∈ fitT c,fitsM d z = true := fun z hz => by
  have := List.find?_eq_none.mp hn z hz
  simpa using this
 have hm : ∀ z,fitsM c z = true -> z ∈ (match c with | .step w => [w] | c => trialsM c.head c.tail) -> fitsM d z = true := fun z hz hzm => all z (List.mem_filter.mpr ⟨hzm,hz⟩)
 have fm : ∀ {c : Pc} {z : List Nat},fitsM c z = (!isDot z && match c with | .step w => decide (z = w) | .part h _ t => partB h t z | .num _ => numB z | .word _ => wordB z | .gap _ => true | .rest _ => true) := fun {c z} => rfl
 have s0 : ∀ {c : Nat},c ∈ trS -> isDot [c] = false := fun {c} hc => hqh (h := []) (t := []) hc
 have npart : ∀ {h n t : List Nat} {z : List Nat},PcOk (.part h n t) -> z.length ≤ 1 -> fitsM (.part h n t) z = true -> False := fun {h n t z} ho hz hf => by
  have := (Bool.and_eq_true_iff.mp hf).2
  have hp : h.length + t.length < z.length := by
   have : partB h t z = true := this
   unfold partB at this
   simp only [Bool.and_eq_true,decide_eq_true_eq] at this
   exact this.2.2
  have := List.length_pos_iff.mpr ho.2.2.2.2
  rw [List.length_append] at this
  omega
 have pm : ∀ {h n t : List Nat} {z : List Nat},fitsM (.part h n t) z = true -> partB h t z = true := fun {h n t z} hf => (Bool.and_eq_true_iff.mp hf).2
 have two : ∀ {w z z' : List Nat},fitsM (.step w) z = true -> fitsM (.step w) z' = true -> z = z' := fun {w z z'} h1 h2 => by
  have a := of_decide_eq_true (Bool.and_eq_true_iff.mp h1).2
  have b := of_decide_eq_true (Bool.and_eq_true_iff.mp h2).2
  rw [a,b]
 have gg : fitsM d s = true ∨ ¬ (d.isRest = true ∨ ∃ n,d = .gap n) := by
  by_cases h : d.isRest = true ∨ ∃ n,d = .gap n
  ·left
   rcases h with h | ⟨n,rfl⟩
   ·exact iqD h hd
   ·show (!isDot s && true) = true
    rw [hd]; rfl
  ·exact .inr h
 rcases gg with g | g
 ·exact g
 cases c with
 | step w =>
  have e : s = w := of_decide_eq_true (Bool.and_eq_true_iff.mp hf).2
  subst e
  exact hm s hf (List.mem_singleton.mpr rfl)
 | part h n t =>
  have ft : ∀ x ∈ trS,fitsM (.part h n t) (h ++ [x] ++ t) = true := fun x hx => by
   show (!isDot (h ++ [x] ++ t) && partB h t (h ++ [x] ++ t)) = true
   rw [hqh hx]
   unfold partB
   have hlen : (h ++ [x] ++ t).length = h.length + 1 + t.length := by simp only [List.length_append,List.length_singleton]
   simp only [Bool.not_false,Bool.true_and,Bool.and_eq_true,decide_eq_true_eq]
   refine ⟨by rw [List.append_assoc,List.take_left],?_,by omega⟩
   rw [show (h ++ [x] ++ t).length - t.length = (h ++ [x]).length by rw [hlen,List.length_append]; simp only [List.length_singleton]; omega,List.drop_left]
  have g1 : ∀ x ∈ trS,fitsM d (h ++ [x] ++ t) = true := fun x hx => hm _ (ft x hx) (jqe hx)
  cases d with
  | step w =>
   have := two (g1 97 (by decide)) (g1 98 (by decide))
   simp at this
  | part h' n' t' =>
   show (!isDot s && partB h' t' s) = true
   rw [hd,qqr (fun x hx => pm (g1 x hx)) (pm hf)]; rfl
  | num n' =>
   have := (Bool.and_eq_true_iff.mp (g1 97 (by decide))).2
   have : numB (h ++ [97] ++ t) = true := this
   unfold numB at this
   simp only [Bool.and_eq_true,List.all_eq_true] at this
   exact absurd (this.1.2 97 (by simp)) (by decide)
  | word n' =>
   have := (Bool.and_eq_true_iff.mp (g1 48 (by decide))).2
   have : wordB (h ++ [48] ++ t) = true := this
   unfold wordB at this
   simp only [Bool.and_eq_true,List.all_eq_true] at this
   exact absurd (this.2 48 (by simp)) (by decide)
  | gap n' => exact absurd (.inr ⟨n',rfl⟩) g
  | rest n' => exact absurd (.inl rfl) g
 | num n =>
  have g0 : fitsM d [48] = true := hm [48] rfl (by show [48] ∈ trialsM [] []; decide)
  have g1 : fitsM d [49] = true := hm [49] rfl (by show [49] ∈ trialsM [] []; decide)
  cases d with
  | step w => exact absurd (two g0 g1) (by decide)
  | part h' n' t' => exact (npart od (by decide) g0).elim
  | num n' => exact hf
  | word n' => exact absurd (show fitsM (.word n') [48] = false from rfl) (by rw [g0]; decide)
  | gap n' => exact absurd (.inr ⟨n',rfl⟩) g
  | rest n' => exact absurd (.inl rfl) g
 | word n =>
  have g0 : fitsM d [97] = true := hm [97] rfl (by show [97] ∈ trialsM [] []; decide)
  have g1 : fitsM d [98] = true := hm [98] rfl (by show [98] ∈ trialsM [] []; decide)
  cases d with
  | step w => exact absurd (two g0 g1) (by decide)
  | part h' n' t' => exact (npart od (by decide) g0).elim
  | num n' => exact absurd (show fitsM (.num n') [97] = false from rfl) (by rw [g0]; decide)
  | word n' => exact hf
  | gap n' => exact absurd (.inr ⟨n',rfl⟩) g
  | rest n' => exact absurd (.inl rfl) g
 | gap n =>
  have g0 : fitsM d [97] = true := hm [97] rfl (by show [97] ∈ trialsM [] []; decide)
  have g1 : fitsM d [48] = true := hm [48] rfl (by show [48] ∈ trialsM [] []; decide)
  cases d with
  | step w => exact absurd (two g0 g1) (by decide)
  | part h' n' t' => exact (npart od (by decide) g0).elim
  | num n' => exact absurd (show fitsM (.num n') [97] = false from rfl) (by rw [g0]; decide)
  | word n' => exact absurd (show fitsM (.word n') [48] = false from rfl) (by rw [g1]; decide)
  | gap n' => exact absurd (.inr ⟨n',rfl⟩) g
  | rest n' => exact absurd (.inl rfl) g
 | rest n =>
  have g0 : fitsM d [97] = true := hm [97] rfl (by show [97] ∈ trialsM [] []; decide)
  have g1 : fitsM d [48] = true := hm [48] rfl (by show [48] ∈ trialsM [] []; decide)
  cases d with
  | step w => exact absurd (two g0 g1) (by decide)
  | part h' n' t' => exact (npart od (by decide) g0).elim
  | num n' => exact absurd (show fitsM (.num n') [97] = false from rfl) (by rw [g0]; decide)
  | word n' => exact absurd (show fitsM (.word n') [48] = false from rfl) (by rw [g1]; decide)
  | gap n' => exact absurd (.inr ⟨n',rfl⟩) g
  | rest n' => exact absurd (.inl rfl) g
theorem rqS {c : Pc} (oc : PcOk c) : fitT c ≠ [] := by
 have one : ∀ {z : List Nat},fitsM c z = true -> z ∈ (match c with | .step w => [w] | c => trialsM c.head c.tail) -> fitT c ≠ [] := fun {z} h hm e => by
  have : z ∈ fitT c := List.mem_filter.mpr ⟨hm,h⟩
  rw [e] at this
  cases this
 cases c with
 | step w =>
  refine one (z := w) ?_ (List.mem_singleton.mpr rfl)
  show (!isDot w && decide (w = w)) = true
  rw [oc.2.2.2,decide_eq_true rfl]; rfl
 | part h n t =>
  refine one (z := h ++ [97] ++ t) ?_ (jqe (by decide))
  show (!isDot (h ++ [97] ++ t) && partB h t (h ++ [97] ++ t)) = true
  rw [hqh (by decide)]
  unfold partB
  have hlen : (h ++ [97] ++ t).length = h.length + 1 + t.length := by simp only [List.length_append,List.length_singleton]
  simp only [Bool.not_false,Bool.true_and,Bool.and_eq_true,decide_eq_true_eq]
  refine ⟨by rw [List.append_assoc,List.take_left],?_,by omega⟩
  have hd : (h ++ [97] ++ t).length - t.length = (h ++ [97]).length := by rw [hlen,List.length_append]; simp only [List.length_singleton]; omega
  rw [hd,List.drop_left]
 | num n => exact one (z := [48]) rfl (by show [48] ∈ trialsM [] []; decide)
 | word n => exact one (z := [97]) rfl (by show [97] ∈ trialsM [] []; decide)
 | gap n => exact one (z := [97]) rfl (by show [97] ∈ trialsM [] []; decide)
 | rest n => exact one (z := [97]) rfl (by show [97] ∈ trialsM [] []; decide)
theorem aqD {ds ts : List Pc} {n : Nat} (h : spreadM ds n = some ts) : ts.length = n ∧ ∀ i,i < n -> (i < ds.length ∧ ts[i]? = ds[i]?) ∨ (ds.length ≤ i ∧ hasRest ds = true ∧ ∃ c,ts[i]? = some c ∧ c.isRest = true ∧ c ∈ ds) := by
 unfold spreadM at h
 by_cases hr : hasRest ds = true ∧ ds.length ≤ n
 ·rw [if_pos hr] at h
  cases h
  have hne : ds ≠ [] := fun e => by subst e; exact absurd hr.1 (by decide)
  obtain ⟨c,hc⟩ : ∃ c,ds.getLast? = some c := ⟨_,List.getLast?_eq_some_getLast hne⟩
  have hcr : c.isRest = true := by
   have := hr.1
   unfold hasRest at this
   rw [hc] at this
   exact this
  have hd : ds.drop (ds.length - 1) = [c] := by
   rw [List.getLast?_eq_getElem?] at hc
   have hl := List.length_pos_iff.mpr hne
   obtain ⟨h1,h2⟩ := List.getElem?_eq_some_iff.mp hc
   rw [List.drop_eq_getElem_cons h1,h2,List.drop_eq_nil_of_le (by omega)]
  rw [hd]
  have hfl : ∀ k : Nat,(List.replicate k [c]).flatten = List.replicate k c := fun k => by
   induction k with
   | zero => rfl
   | succ k ih => rw [List.replicate_succ,List.flatten_cons,ih]; rfl
  rw [hfl]
  refine ⟨by rw [List.length_append,List.length_replicate]; omega,fun i hi => ?_⟩
  by_cases hil : i < ds.length
  ·exact .inl ⟨hil,List.getElem?_append_left hil⟩
  ·refine .inr ⟨by omega,hr.1,c,?_,hcr,List.mem_of_getLast? hc⟩
   rw [List.getElem?_append_right (by omega),List.getElem?_replicate,if_pos (by omega)]
 ·rw [if_neg hr] at h
  by_cases e : n = ds.length
  ·rw [if_pos e] at h
   cases h
   exact ⟨e.symm,fun i hi => .inl ⟨by omega,rfl⟩⟩
  ·rw [if_neg e] at h
   cases h
theorem eqL {ds : List Pc} {n : Nat} (h : (hasRest ds = true ∧ ds.length ≤ n) ∨ n = ds.length) : ∃ ts,spreadM ds n = some ts := by
 unfold spreadM
 by_cases hr : hasRest ds = true ∧ ds.length ≤ n
 ·rw [if_pos hr]; exact ⟨_,rfl⟩
 ·rw [if_neg hr]
  rcases h with h | h
  ·exact absurd h hr
  ·rw [if_pos h]; exact ⟨_,rfl⟩
theorem dqz {ds ts : List Pc} {n : Nat} (h : spreadM ds n = some ts) : n = ds.length ∨ (hasRest ds = true ∧ ds.length ≤ n) := by
 unfold spreadM at h
 by_cases hr : hasRest ds = true ∧ ds.length ≤ n
 ·exact .inr hr
 ·rw [if_neg hr] at h
  by_cases e : n = ds.length
  ·exact .inl e
  ·rw [if_neg e] at h; cases h
theorem mq0 : ∀ {ms : List Pc} {ss : List (List Nat)},(List.zipWith fitsM ms ss).all id = true ↔ ∀ (i : Nat) (c : Pc) (s : List Nat),ms[i]? = some c -> ss[i]? = some s -> fitsM c s = true
 | [],ss => ⟨fun _ i c s h => by simp at h,fun _ => rfl⟩
 | c :: ms,[] => ⟨fun _ i c s _ h => by simp at h,fun _ => rfl⟩
 | c :: ms,s :: ss => by
  rw [List.zipWith_cons_cons,List.all_cons,Bool.and_eq_true,mq0]
  constructor
  ·rintro ⟨h1,h2⟩ i c' s' hc hs
   cases i with
   | zero => cases hc; cases hs; exact h1
   | succ i => exact h2 i c' s' hc hs
  ·intro h
   exact ⟨h 0 c s rfl rfl,fun i c' s' hc hs => h (i + 1) c' s' hc hs⟩
theorem dqw {cs : List Pc} {cl r e : Bool} {ss : List (List Nat)} : fitsP cs cl r ss e = true ↔ ∃ ms,spreadM cs ss.length = some ms ∧ r = true ∧ e = cl ∧ ∀ (i : Nat) (c : Pc) (s : List Nat),ms[i]? = some c -> ss[i]? = some s -> fitsM c s = true := by
 unfold fitsP
 cases h : spreadM cs ss.length with
 | none => exact ⟨fun h => (by cases h),fun ⟨_,h,_⟩ => (by cases h)⟩
 | some ms =>
  show (r && decide (e = cl) && _) = true ↔ _
  rw [Bool.and_eq_true,Bool.and_eq_true,decide_eq_true_eq,mq0]
  exact ⟨fun ⟨⟨a,b⟩,c⟩ => ⟨ms,rfl,a,b,c⟩,fun ⟨ms',e',a,b,c⟩ => by cases e'; exact ⟨⟨a,b⟩,c⟩⟩
theorem lq5 : ∀ {ms ts : List Pc},beyS ms ts = none -> ∀ (i : Nat) (c d : Pc),ms[i]? = some c -> ts[i]? = some d -> stepBey c d = none
 | [],_,_,i,c,d,h,_ => by simp at h
 | _ :: _,[],_,i,c,d,_,h => by simp at h
 | c :: ms,d :: ts,h,i,c',d',hc,hd => by
  unfold beyS at h
  cases e : stepBey c d with
  | some s => rw [e] at h; cases h
  | none =>
   rw [e] at h
   have h : (beyS ms ts).map (firstT c :: ·) = none := h
   cases i with
   | zero => cases hc; cases hd; exact e
   | succ i => exact lq5 (Option.map_eq_none_iff.mp h) i c' d' hc hd
theorem hqZ (cs ds : List Pc) : ∃ ms,spreadM cs (countM cs ds) = some ms := by
 refine eqL ?_
 unfold countM
 by_cases h : hasRest cs = true ∧ hasRest ds = false
 ·rw [if_pos h]; exact .inl ⟨h.1,by omega⟩
 ·rw [if_neg h]; exact .inr rfl
theorem eqh {cs ms : List Pc} {n : Nat} (ok : ∀ c ∈ cs,PcOk c) (h : spreadM cs n = some ms) : ∀ c ∈ ms,PcOk c := fun c hc => by
 obtain ⟨i,hi⟩ := List.mem_iff_getElem?.mp hc
 obtain ⟨h1,h2⟩ := aqD h
 rcases h2 i (by have := (List.getElem?_eq_some_iff.mp hi).1; omega) with ⟨_,e⟩ | ⟨_,_,c',e,_,hm⟩
 ·exact ok c (List.mem_of_getElem? (e.symm.trans hi))
 ·rw [hi] at e; cases e; exact ok _ hm
theorem oqL {cs ds : List Pc} {e e' r x : Bool} {ss : List (List Nat)} (oc : ∀ c ∈ cs,PcOk c) (od : ∀ c ∈ ds,PcOk c) (h : beyM cs e ds e' = none) (hf : fitsP cs e r ss x = true) : fitsP ds e' r ss x = true := by
 obtain ⟨ms,hms⟩ := hqZ cs ds
 unfold beyM at h
 rw [hms] at h
 have h : (if e ≠ e' then some (ms.map firstT) else match spreadM ds (countM cs ds) with | none => some (ms.map firstT) | some ts => beyS ms ts) = none := h
 by_cases hee : e ≠ e'
 ·rw [if_pos hee] at h; cases h
 rw [if_neg hee] at h
 have hee : e = e' := Classical.byContradiction hee
 cases ht : spreadM ds (countM cs ds) with
 | none => rw [ht] at h; cases h
 | some ts =>
  rw [ht] at h
  have hb := lq5 (show beyS ms ts = none from h)
  subst hee
  have nc : ¬ (hasRest cs = true ∧ hasRest ds = false) := fun hc => by
   have e1 : countM cs ds = max cs.length (ds.length + 1) := if_pos hc
   rcases dqz ht with z | z
   ·omega
   ·rw [hc.2] at z; exact absurd z.1 (by decide)
  have hn : countM cs ds = cs.length := if_neg nc
  rw [hn] at hms ht
  obtain ⟨ms',hms',rfl,rfl,hfit⟩ := dqw.mp hf
  have hex : ∃ ts',spreadM ds ss.length = some ts' := by
   refine eqL ?_
   rcases dqz hms' with z | z
   ·rw [z]
    rcases dqz ht with y | y
    ·exact .inr y
    ·exact .inl y
   ·have hr : hasRest ds = true := by
     cases hd : hasRest ds with
     | true => rfl
     | false => exact absurd ⟨z.1,hd⟩ nc
    rcases dqz ht with y | y
    ·exact .inl ⟨hr,by omega⟩
    ·exact .inl ⟨hr,by omega⟩
  obtain ⟨ts',hts'⟩ := hex
  refine dqw.mpr ⟨ts',hts',rfl,rfl,fun i d s hd hs => ?_⟩
  have hil := (List.getElem?_eq_some_iff.mp hs).1
  obtain ⟨g1,g2⟩ := aqD hts'
  obtain ⟨k1,k2⟩ := aqD hms'
  obtain ⟨c,hc⟩ : ∃ c,ms'[i]? = some c := ⟨_,List.getElem?_eq_getElem (by omega)⟩
  have hfc := hfit i c s hc hs
  rcases g2 i hil with ⟨a1,a2⟩ | ⟨a1,a2,d',a3,a4,_⟩
  ·have hds : ds[i]? = some d := a2.symm.trans hd
   have hic : i < cs.length := by
    rcases dqz ht with y | y
    ·omega
    ·omega
   rcases k2 i hil with ⟨b1,b2⟩ | ⟨b1,_⟩
   ·have hcs : cs[i]? = some c := b2.symm.trans hc
    have hm : ms[i]? = some c := by
     rcases (aqD hms).2 i hic with ⟨_,q⟩ | ⟨q,_⟩
     ·rw [q]; exact hcs
     ·omega
    have htt : ts[i]? = some d := by
     rcases (aqD ht).2 i hic with ⟨_,q⟩ | ⟨q,_⟩
     ·rw [q]; exact hds
     ·omega
    exact qqA (oc c (List.mem_of_getElem? hcs)) (od d (List.mem_of_getElem? hds)) (hb i c d hm htt) hfc
   ·omega
  ·rw [hd] at a3
   cases a3
   exact iqD a4 (kqV hfc)
theorem pqo : ∀ {ms ts : List Pc} {i : Nat} {c d : Pc} {s : List Nat},ms[i]? = some c -> ts[i]? = some d -> (∀ (j : Nat) (c d : Pc),j < i -> ms[j]? = some c -> ts[j]? = some d -> stepBey c d = none) -> stepBey c d = some s ->
  beyS ms ts = some ((ms.map firstT).take i ++ [s] ++ (ms.map firstT).drop (i + 1))
 | [],_,i,c,d,s,h,_,_,_ => by simp at h
 | _ :: _,[],i,c,d,s,_,h,_,_ => by simp at h
 | m :: ms,t :: ts,0,c,d,s,hc,hd,_,hs => by
  cases hc; cases hd
  unfold beyS
  rw [hs]
  rfl
 | m :: ms,t :: ts,i + 1,c,d,s,hc,hd,hn,hs => by
  unfold beyS
  rw [hn 0 m t (Nat.succ_pos _) rfl rfl]
  show (beyS ms ts).map (firstT m :: ·) = _
  rw [pqo (i := i) hc hd (fun j c d hj h1 h2 => hn (j + 1) c d (by omega) h1 h2) hs]
  rfl
theorem mq9 : ∀ {ms ts : List Pc},(∀ (j : Nat) (c d : Pc),ms[j]? = some c -> ts[j]? = some d -> stepBey c d = none) -> beyS ms ts = none
 | [],_,_ => by unfold beyS; rfl
 | _ :: _,[],_ => by unfold beyS; rfl
 | m :: ms,t :: ts,h => by
  unfold beyS
  rw [h 0 m t rfl rfl]
  show (beyS ms ts).map (firstT m :: ·) = none
  rw [mq9 fun j c d h1 h2 => h (j + 1) c d h1 h2]
  rfl
end Wm
namespace L2
open PySem
section
variable {p : Addr} {fv : St} {tt : TT} {te : TE} {Q : VK} {H1 : Hp}
theorem mqj {n : Nat} (f : Nat -> Bool) (g : Nat -> V) (hlen : n ≤ sizeLine) (hp : H1 p = none)
  (ht : ∀ i,i < n -> ∀ (H' : Hp) (R : Bool -> Hp -> Prop),Same H1 H' -> (∀ H'',Same H' H'' -> R (f i) H'') -> tt (some (.int (0 + (i : Int))) :: fv) H' R)
  (he : ∀ i,i < n -> f i = true -> ∀ (H' : Hp) (T : VK),Same H1 H' -> (∀ H'',Same H' H'' -> T (g i) H'') -> te (some (.int (0 + (i : Int))) :: fv) H' T)
  (hQ : ∀ H',Same H1 H' -> H' p = some (.lst (((List.range n).filter f).map g)) -> Q (.ref p) H') : CompI (Itr 0 n) p fv tt te Q H1 := by
 refine ⟨fun i m ys H2 => m = n - i ∧ i ≤ n ∧ ys = ((List.range i).filter f).map g ∧ H2 p = some (.lst ys) ∧ Same H1 H2,⟨n,by simp,Nat.zero_le _,by simp,aqm,fun b o e => by rw [aqt (aqo e hp)]; exact e⟩,?_⟩
 rintro i m ys H2 ⟨rfl,hi,rfl,hp2,sm⟩
 refine ⟨hp2,?_⟩
 by_cases hlt : i < n
 ·refine .inr ⟨hlt,?_,fun x H3 y => ?_⟩
  ·rw [List.length_map]
   have := List.length_filter_le f (List.range i)
   rw [List.length_range] at this
   omega
  ·obtain ⟨rfl,rfl⟩ := y
   refine ht i hlt _ _ sm fun H4 s4 => ?_
   by_cases hf : f i = true
   ·rw [if_pos hf]
    refine he i hlt hf _ _ (sm.trans s4) fun H5 s5 => ⟨(s4.trans s5) _ _ hp2,n - (i + 1),by omega,rfl,hlt,?_,aqm,fun b o e => ?_⟩
    ·rw [List.range_succ,List.filter_append,List.map_append]; simp [hf]
    ·rw [aqt (aqo e hp)]; exact (s4.trans s5) _ _ (sm _ _ e)
   ·rw [if_neg hf]
    refine ⟨n - (i + 1),by omega,rfl,hlt,?_,s4 _ _ hp2,sm.trans s4⟩
    rw [List.range_succ,List.filter_append,List.map_append]; simp [hf]
 ·have e : i = n := by omega
  subst e
  exact .inl ⟨Nat.le_refl _,hQ H2 sm hp2⟩
end
end L2
namespace Wm
open PySem L2
theorem fqX {H : Hp} : ∀ l : List Int,IsAll H (l.map PyData.int) (l.map V.int)
 | [] => .nil
 | c :: ss => .cons (.int _) (fqX ss)
theorem mqO (l : List Int) : SeqAt.shaped (.list (l.map PyData.int)) = true := by
 refine LayAt.shaped (n := 1) (layL (n := 0) fun d hd => ?_) (by decide)
 obtain ⟨c,hc,rfl⟩ := List.mem_map.mp hd
 exact ⟨rfl,Nat.le_refl _⟩
theorem iq7 {cs : List Pc} {c : Pc} {n : Nat} (hc : cs.getLast? = some c) (hr : c.isRest = true) (hn : cs.length ≤ n) : spreadM cs n = some (cs ++ List.replicate (n - cs.length) c) := by
 have h : hasRest cs = true := by unfold hasRest; rw [hc]; exact hr
 unfold spreadM
 rw [if_pos ⟨h,hn⟩]
 have hd : cs.drop (cs.length - 1) = [c] := by
  rw [List.getLast?_eq_getElem?] at hc
  obtain ⟨h1,h2⟩ := List.getElem?_eq_some_iff.mp hc
  rw [List.drop_eq_getElem_cons h1,h2,List.drop_eq_nil_of_le (by omega)]
 rw [hd]
 have hfl : ∀ k : Nat,(List.replicate k [c]).flatten = List.replicate k c := fun k => by
  induction k with
  | zero => rfl
  | succ k ih => rw [List.replicate_succ,List.flatten_cons,ih]; rfl
 rw [hfl]
theorem fqc {cs : List Pc} {n : Nat} (h : hasRest cs = false ∨ n < cs.length) : spreadM cs n = if cs.length = n then some cs else none := by
 unfold spreadM
 rw [if_neg (fun z => by rcases h with h | h; rw [h] at z; exact absurd z.1 (by decide); omega)]
 by_cases e : n = cs.length
 ·rw [if_pos e,if_pos e.symm]
 ·rw [if_neg e,if_neg (fun z => e z.symm)]
theorem PcT.rep {H : Hp} {c : Pc} {p : Addr} (h : H p = some (.tup c.vals)) : ∀ n : Nat,PcT H (List.replicate n c) (List.replicate n (.ref p))
 | 0 => .nil
 | n + 1 => .cons h (PcT.rep h n)
theorem range_all (Z : List Bool) : ((List.range Z.length).filter fun i => !(Z[i]?.getD true)).isEmpty = Z.all id := by
 rw [Bool.eq_iff_iff,List.isEmpty_iff,List.filter_eq_nil_iff,List.all_eq_true]
 constructor
 ·intro h b hb
  obtain ⟨i,hi⟩ := List.mem_iff_getElem?.mp hb
  have := h i (List.mem_range.mpr (List.getElem?_eq_some_iff.mp hi).1)
  rw [hi] at this
  simpa using this
 ·intro h i hi
  have hi := List.mem_range.mp hi
  have := h Z[i] (List.getElem_mem hi)
  rw [List.getElem?_eq_getElem hi]
  simpa using this
def PtAt (H : Hp) (cs : List Pc) (e : Bool) (p : Addr) : Prop := ∃ (q : Addr) (xs : List V),H p = some (.tup [.ref q,.bl e]) ∧ H q = some (.tup xs) ∧ PcT H cs xs
theorem PtAt.mono {H H' : Hp} {cs : List Pc} {e : Bool} {p : Addr} (s : SameT H H') (h : PtAt H cs e p) : PtAt H' cs e p := by
 obtain ⟨q,xs,h1,h2,h3⟩ := h
 exact ⟨q,xs,s _ _ h1,s _ _ h2,h3.mono s⟩
def StepsOk (ss : List (List Nat)) : Prop := ss.length ≤ 200 ∧ ∀ s ∈ ss,0 < s.length ∧ s.length ≤ 1000 ∧ ∀ c ∈ s,isSg c = true
def WyAt (H : Hp) (cs : List Pc) (e : Bool) (v : V) : Prop := ∃ (r t : Addr) (a b : Bool) (ss : List (List Nat)),v = .ref r ∧ H r = some (.tup [.bl a,.ref t,.bl b]) ∧ H t = some (.tup (ss.map tV)) ∧ StepsOk ss ∧ fitsP cs e a ss b = true
def PcsOk (cs : List Pc) : Prop := cs.length ≤ 90 ∧ ∀ c ∈ cs,PcOk c ∧ PcSg c
theorem mqw {c : Pc} (o : PcOk c) (hn : ∀ x ∈ c.name,isSg x = true) : PcSg c :=
 ⟨fun l h => by subst h; exact o.2.2.1,fun h n t e => by subst e; exact ⟨o.2.2.1,o.2.2.2.1⟩,hn⟩
theorem PcT.pick {H : Hp} {cs : List Pc} {xs : List V} (h : PcT H cs xs) : ∀ il : List Nat,(∀ i ∈ il,i < xs.length) -> PcT H (il.map fun i => cs[i]?.getD (.gap [])) (il.map fun i => xs[i]?.getD .non)
 | [],_ => .nil
 | i :: il,hi => by
  have hlt := hi i (List.mem_cons_self ..)
  have hv : xs[i]? = some xs[i] := List.getElem?_eq_getElem hlt
  obtain ⟨c,p,hc,e,hp⟩ := h.get hv
  rw [List.map_cons,List.map_cons,hc,hv,e]
  exact .cons hp (PcT.pick h il fun j hj => hi j (List.mem_cons_of_mem _ hj))
theorem iq8 {H H' : Hp} {a : Addr} (s : Same H H') (h : H' a = none) : H a = none := by
 cases e : H a with
 | none => rfl
 | some o => rw [s _ _ e] at h; cases h
theorem kqz {H H' : Hp} {l : Addr} {ys : List V} (s : Same H H') (h : H l = none) : Same H (upd H' l (.lst ys)) := fun b o hb => by
 rw [aqt (fun w => by subst w; rw [h] at hb; cases hb)]; exact s _ _ hb
theorem iqN {H : Hp} {l : Addr} {ys zs : List V} (h : H l = some (.lst zs)) : SameT H (upd H l (.lst ys)) := fun b o hb => by
 rw [aqt (fun w => by subst w; rw [h] at hb; cases hb)]; exact hb
def alikeM : Pc -> Pc -> Bool
 | .step v,.step w => decide (v = w)
 | .part h _ t,.part h' _ t' => decide (h = h') && decide (t = t')
 | .num _,.num _ => true
 | .word _,.word _ => true
 | .gap _,.gap _ => true
 | .rest _,.rest _ => true
 | _,_ => false
structure Wid (c d : Pc) : Prop where
 ok : PcOk d
 nr : d.isRest = false
 fits : ∀ s,fitsM c s = true -> fitsM d s = true
 grown : alikeM c d = true ∨ stepBey d c ≠ none
def restM (cs : List Pc) : Nat := if hasRest cs = true then cs.length - 1 else cs.length
structure WidAll (cs ds : List Pc) : Prop where
 len : ds.length = restM cs
 wid : ∀ (i : Nat) (c d : Pc),cs[i]? = some c -> ds[i]? = some d -> Wid c d
end Wm
namespace L2
open PySem PySem.Spec PySem.W PySem.Calls PyProof.Rows
section
variable {prog : Program} {w : World} {A : Around} {R : Result -> Shared -> Prop} {I S : Addr} {fp wr : List Addr} {P : Nat -> Value -> Prop} {St : Nat -> Heap -> Prop} {n : Nat}
abbrev bestO (xs : Array Value) (c : Nat) : Obj := { cls := .type "list",dict := none,data := .seq xs c,slots := #[] }
theorem tqs (W : Walks prog w A.in1 I fp wr n P St) (hSf : S ∉ fp) {k v x : Value} {c : Nat} {s : Shared} (hst : St n s.heap) (hS : s.heap.get? S = some (bestO #[v,x] c))
  (hR : ∀ h' tk,(∀ b o,b ∉ wr -> b ≠ S -> s.heap.get? b = some o -> h'.get? b = some o) -> R (.ok (.ret v)) { s with heap := h',toks := tk }) : codeAny (model prog w) A (.builtin "max.loop" ⟨[.ref I,k,.ref S],[]⟩) R s := by
 have nw : S ∉ wr := fun h => hSf (W.sub _ h)
 refine codeAny_builtin (PySem.F.entry_max_loop) ?_
 rw [Around.under_plainId PySem.F.plain_max_loop]
 refine wpAny_bind <| wpAny_seqItems hS rfl ?_
 refine wpAny_bind (wpAny_tryCatch (W.done s _ _ hst fun h1 t1 k1 => ?_))
 exact wpAny_bind (wpAny_updateSeq (k1 S _ nw hS) rfl (wpAny_bind (wpAny_letGo (wpAny_pure (hR _ t1 fun b o hw hb e => (Heap.get?_update_other _ _ (Ne.symm hb)).trans (k1 b o hw e))))))
theorem qqF (W : Walks prog w A.in1 I fp wr n P St) (hSf : S ∉ fp) (hn : 0 < n) (hP : ∀ i v,P i v -> ∃ z t,v = .str z t ∧ z.length ≤ sizeLine) {c : Nat} {s : Shared} (hst : St 0 s.heap) (hS : s.heap.get? S = some (bestO #[] c))
  (hR : ∀ z t x tx c' h' tk,P 0 (.str z t) -> x = .int z.length tx -> St 1 h' -> h'.get? S = some (bestO #[.str z t,x] c') -> (∀ b o,b ∉ wr -> b ≠ S -> s.heap.get? b = some o -> h'.get? b = some o) -> codeAny (model prog w) A (.builtin "max.loop" ⟨[.ref I,.builtin "len",.ref S],[]⟩) R { s with heap := h',toks := tk }) :
  codeAny (model prog w) A (.builtin "max.loop" ⟨[.ref I,.builtin "len",.ref S],[]⟩) R s := by
 have nw : S ∉ wr := fun h => hSf (W.sub _ h)
 have hname : toString "max" ++ toString ".loop" = ("max.loop" : String) := by decide
 refine codeAny_builtin (PySem.F.entry_max_loop) ?_
 rw [Around.under_plainId PySem.F.plain_max_loop]
 refine wpAny_bind <| wpAny_seqItems hS rfl ?_
 refine wpAny_bind (wpAny_tryCatch (W.item 0 s _ _ hn hst fun v h1 t1 p1 st1 k1 => ?_))
 obtain ⟨z,t,rfl,hz⟩ := hP 0 v p1
 have h63 := line63
 refine wpAny_bind (wpAny_tryCatch (wpAny_holding (len_str (by omega) ?_)))
 refine wpAny_bind (wpAny_updateSeq (k1 S _ nw hS) rfl ?_)
 rw [hname]
 refine wpAny_pure ⟨plainId_quiet PySem.F.plain_max_loop _,hR z t _ _ _ _ _ p1 rfl (W.frame _ _ _ st1 fun b hf o e => ?_) (Heap.get?_update_self _ (k1 S _ nw hS) rfl) fun b o hw hb e => (Heap.get?_update_other _ _ (Ne.symm hb)).trans (k1 b o hw e)⟩
 exact (Heap.get?_update_other _ _ (fun h : S = b => hSf (by rw [h]; exact hf))).trans e
theorem sqD (W : Walks prog w A.in1 I fp wr n P St) (hSf : S ∉ fp) (hn : 1 < n) (hP : ∀ i v,P i v -> ∃ z t,v = .str z t ∧ z.length ≤ sizeLine) {c m : Nat} {s : Shared} {v : Value} {tx : Tok} (hst : St 1 s.heap) (hS : s.heap.get? S = some (bestO #[v,.int (m : Int) tx] c))
  (hR : ∀ z t x c' h' tk,P 1 (.str z t) -> St 2 h' -> h'.get? S = some (bestO #[if m < z.length then .str z t else v,x] c') -> (∀ b o,b ∉ wr -> b ≠ S -> s.heap.get? b = some o -> h'.get? b = some o) -> codeAny (model prog w) A (.builtin "max.loop" ⟨[.ref I,.builtin "len",.ref S],[]⟩) R { s with heap := h',toks := tk }) :
  codeAny (model prog w) A (.builtin "max.loop" ⟨[.ref I,.builtin "len",.ref S],[]⟩) R s := by
 have nw : S ∉ wr := fun h => hSf (W.sub _ h)
 have hname : toString "max" ++ toString ".loop" = ("max.loop" : String) := by decide
 refine codeAny_builtin (PySem.F.entry_max_loop) ?_
 rw [Around.under_plainId PySem.F.plain_max_loop]
 refine wpAny_bind <| wpAny_seqItems hS rfl ?_
 refine wpAny_bind (wpAny_tryCatch (W.item 1 s _ _ hn hst fun v1 h1 t1 p1 st1 k1 => ?_))
 obtain ⟨z,t,rfl,hz⟩ := hP 1 v1 p1
 have h63 := line63
 have hS1 := k1 S _ nw hS
 refine wpAny_bind (wpAny_tryCatch (wpAny_holding (len_str (by omega) ?_)))
 refine wpAny_bind (wpAny_tryCatch (wpAny_holding (wpAny_bind (CmpOf.ints_gt (A := A.in1) (P := fun i v => ∃ t,v = .int (if i = 0 then (z.length : Int) else (m : Int)) t) (fun i => if i = 0 then (z.length : Int) else (m : Int)) (fun i v h => h) 0 1 _ _ _ _ _ ⟨_,rfl⟩ ⟨tx,rfl⟩ ?_))))
 refine wpAny_bind (wpAny_holding (wpAny_truthy_bool (wpAny_bind (wpAny_letGo (wpAny_pure ?_)))))
 split
 ·next hc =>
  have hlt : m < z.length := by have := of_decide_eq_true hc; simp at this; omega
  refine wpAny_bind ?_
  refine wpAny_updateSeq hS1 rfl ?_
  refine wpAny_bind <| wpAny_letGo ?_
  rw [hname]
  refine wpAny_pure ⟨plainId_quiet PySem.F.plain_max_loop _,hR z t _ _ _ _ p1 (W.frame _ _ _ st1 fun b hf o e => ?_) (by rw [if_pos hlt]; exact Heap.get?_update_self _ hS1 rfl) fun b o hw hb e => (Heap.get?_update_other _ _ (Ne.symm hb)).trans (k1 b o hw e)⟩
  exact (Heap.get?_update_other _ _ (fun h : S = b => hSf (by rw [h]; exact hf))).trans e
 ·next hc =>
  have hlt : ¬ m < z.length := fun hl => hc (decide_eq_true (by simp; omega))
  refine wpAny_bind <| wpAny_letGo ?_
  rw [hname]
  exact wpAny_pure ⟨plainId_quiet PySem.F.plain_max_loop _,hR z t _ _ _ _ p1 st1 (by rw [if_neg hlt]; exact hS1) fun b o hw hb e => k1 b o hw e⟩
theorem nq6 (a b v : Value) : argsOk "max" ⟨[a,b],[(Str.ofString "key",v)]⟩ := by unfold argsOk; kernel_rfl
end
section
variable {A : Around} {prog : Program} {w : World} {s : Shared} {E : Value -> Shared -> Prop}
theorem mqE {a b : Str} {t u : Tok} {Q : Value -> Shared -> Prop} (hh : A.handled = none) (ha : a.length ≤ sizeLine) (hb : b.length ≤ sizeLine)
  (h : ∀ h' tk,(∀ c o,s.heap.get? c = some o -> h'.get? c = some o) -> Q (if a.length < b.length then .str b u else .str a t) { s with heap := h',toks := tk }) :
  wpAny (model prog w) A (call (.builtin "max") [.str a t,.str b u] [(Str.ofString "key",.builtin "len")]) Q E s := by
 have hname : toString "max" ++ toString ".loop" = ("max.loop" : String) := by decide
 refine kmk_tree PySem.F.kind_max PySem.F.plain_max PySem.F.entry_max (nq6 _ _ _) ?_
 show wpAny _ A.in1 (Builtin.Builtins.bindParams "max" ["key","default"] 0 ⟨[],[(Str.ofString "key",.builtin "len")]⟩ >>= _) _ _ s
 refine wpAny_bind (wpAny_of_eq (show Builtin.Builtins.bindParams "max" ["key","default"] 0 ⟨[],[(Str.ofString "key",.builtin "len")]⟩ = pure [some (.builtin "len"),none] from rfl) ?_)
 show wpAny _ A.in1 (newTuple [.str a t,.str b u] >>= _) _ _ s
 refine wpAny_bind <| wpAny_newObj_type ?_
 have hT : (s.heap.push { cls := .type "tuple",data := .seq #[.str a t,.str b u] }).IsTuple s.heap.objs.size #[.str a t,.str b u] := ⟨_,Heap.get?_push_size _ rfl,rfl,0,rfl⟩
 refine wpAny_bind (wpAny_pyIter_tuple hT ?_)
 have hsz : (s.heap.push { cls := .type "tuple",data := .seq #[.str a t,.str b u] }).objs.size = s.heap.objs.size + 1 := Heap.size_push ..
 refine wpAny_bind <| wpAny_newObj_type ?_
 rw [hname]
 refine wpAny_pure <| And.intro (plainId_quiet PySem.F.plain_max_loop _) ?_
 have W := Walks.tuple (prog := prog) (w := w) (A := A.in1) hh (s.heap.push { cls := .type "tuple",data := .seq #[.str a t,.str b u] }).objs.size s.heap.objs.size (by rw [hsz]; exact Nat.ne_of_lt (Nat.lt_succ_self _)) #[.str a t,.str b u]
 have hP : ∀ (i : Nat) (v : Value),(#[Value.str a t,.str b u] : Array Value)[i]? = some v -> ∃ z t,v = .str z t ∧ z.length ≤ sizeLine := fun i v hv => by
  match i with
  | 0 => cases hv; exact ⟨a,t,rfl,ha⟩
  | 1 => cases hv; exact ⟨b,u,rfl,hb⟩
  | i + 2 => exact absurd hv (by simp)
 have hsz2 : ((s.heap.push { cls := .type "tuple",data := .seq #[.str a t,.str b u] }).push { cls := .type "tuple_iterator",data := .fields #[.ref s.heap.objs.size,.int 0 0] }).objs.size = s.heap.objs.size + 2 := by rw [Heap.size_push,hsz]
 have hSf : ((s.heap.push { cls := .type "tuple",data := .seq #[.str a t,.str b u] }).push { cls := .type "tuple_iterator",data := .fields #[.ref s.heap.objs.size,.int 0 0] }).objs.size ∉ [(s.heap.push { cls := .type "tuple",data := .seq #[.str a t,.str b u] }).objs.size,s.heap.objs.size] := by
  rw [hsz2,hsz]; simp
 refine qqF W hSf (show 0 < 2 by decide) hP (W.frame _ _ _ ⟨⟨_,Heap.get?_push_size _ rfl,rfl,rfl⟩,hT.push _⟩ fun b _ o e => Heap.get?_push_of_some _ e) (Heap.get?_push_size _ rfl) fun z t0 x tx c1 h1 tk1 p0 hx st1 hS1 k1 => ?_
 cases p0
 subst hx
 refine sqD W hSf (show 1 < 2 by decide) hP st1 hS1 fun z t0 x c2 h2 tk2 p1 st2 hS2 k2 => ?_
 cases p1
 refine tqs W hSf st2 hS2 fun h3 tk3 k3 => ?_
 show Q (if a.length < b.length then .str b u else .str a t) _
 refine h h3 tk3 fun c o e => ?_
 have hc := Heap.lt_size e
 have n1 : c ∉ [(s.heap.push { cls := .type "tuple",data := .seq #[.str a t,.str b u] }).objs.size] := by rw [hsz,List.mem_singleton]; exact Nat.ne_of_lt (Nat.lt_succ_of_lt hc)
 have n2 : c ≠ ((s.heap.push { cls := .type "tuple",data := .seq #[.str a t,.str b u] }).push { cls := .type "tuple_iterator",data := .fields #[.ref s.heap.objs.size,.int 0 0] }).objs.size := by rw [hsz2]; exact Nat.ne_of_lt (Nat.lt_of_lt_of_le hc (Nat.le_add_right _ 2))
 exact k3 c o n1 n2 (k2 c o n1 n2 (k1 c o n1 n2 (Heap.get?_push_of_some _ (Heap.get?_push_of_some _ (Heap.get?_push_of_some _ e)))))
end
section
variable {X : Cx} {p pos kp kpos : Pos} {e e2 : Expr} {t : TA}
def rMaxLen : List V -> Hp -> VK -> Prop := fun vs H Q => ∃ a b : Str,vs = [.str a,.str b] ∧ a.length ≤ sizeLine ∧ b.length ≤ sizeLine ∧ Q (.str (if a.length < b.length then b else a)) H
theorem kq9 (hc : X.calm = true) (hg : Gl X "max") (hm : X.mg "max" = none) (hg2 : Gl X "len") (hm2 : X.mg "len" = none) (hv2 : bootBuiltins "len" = some (.builtin "len")) (hv : bootBuiltins "max" = some (.builtin "max")) (ha : PA X [e,e2] t)
  (he : backTo pos (starEach [e,e2] X.env) = (false,eval e X.env) :: backTo pos (starEach [e2] X.env) := by rfl) (hpl : (backTo pos (starEach [e,e2] X.env)).any (·.1) = false := by rfl) :
  PE X (.Call (.Name "max" p) [e,e2] [⟨some "key",.Name "len" kp,kpos⟩] pos) (tCB rMaxLen t) := by
 intro pins s σ H Q I h
 refine wpAny_Call_Name_kw (gqN I hg hm hv ?_ (by decide) (by decide))
 refine callWith_kw ?_ he hpl
 refine thn (ha pos pins s σ H _ I h) fun us s1 W' => ?_
 obtain ⟨vs,H1,I1,r,a,b,rfl,la,lb,q⟩ := W'
 obtain ⟨u,u2,rfl,⟨ta,rfl⟩,⟨tb,rfl⟩⟩ := vals2 r
 show wpAny _ _ (evalAll [(do let v <- eval (.Name "len" kp) X.env; standAt pos; pure v)]) _ _ s1
 refine wpAny_evalAll_cons (wpAny_bind (gqN I1 hg2 hm2 hv2 ?_ (by decide) (by decide)))
 refine wpAny_bind <| wpAny_standAt <| wpAny_pure ?_
 refine wpAny_evalAll_nil ?_
 refine mqE (I1.ok.hd hc) la lb fun h' tk k => ⟨_,H1,I1.kept k,?_,q⟩
 by_cases hj : a.length < b.length
 ·rw [if_pos hj,if_pos hj]; exact ⟨_,rfl⟩
 ·rw [if_neg hj,if_neg hj]; exact ⟨_,rfl⟩
end
end L2
namespace Wm
open PySem L2
def longM (a b : List Nat) : List Nat := if a.length < b.length then b else a
def bothT (c d : Pc) : List (List Nat) := if c.isStep = true ∨ d.isStep = true then fitT c ++ fitT d else trialsM (longM c.head d.head) (longM c.tail d.tail)
def stepBoth (c d : Pc) : Option (List Nat) := (bothT c d).find? fun s => fitsM c s && fitsM d s
theorem pqA {c d : Pc} (hc : PcTx c) (hd : PcTx d) : ∀ s ∈ bothT c d,s.length ≤ 90000 := fun s hs => by
 unfold bothT at hs
 split at hs
 ·rcases List.mem_append.mp hs with y | y
  ·exact kqq hc s y
  ·exact kqq hd s y
 ·obtain ⟨x,_,rfl⟩ := List.mem_map.mp hs
  have h1 : (longM c.head d.head).length ≤ 40000 := by unfold longM; split; exact hd.1; exact hc.1
  have h2 : (longM c.tail d.tail).length ≤ 40000 := by unfold longM; split; exact hd.2.1; exact hc.2.1
  simp only [List.length_singleton,List.length_append]
  omega
def meetM (cs : List Pc) (e : Bool) (ds : List Pc) (e' : Bool) : Option (List (List Nat)) := if e ≠ e' then none else match spreadM cs (max cs.length ds.length),spreadM ds (max cs.length ds.length) with
 | some ms,some ts => (List.zipWith stepBoth ms ts).mapM id
 | _,_ => none
theorem oqG : ∀ L : List (Option (List Nat)),(inV .non (L.map otV) = true ∧ L.mapM id = none) ∨ (inV .non (L.map otV) = false ∧ ∃ w,L.mapM id = some w ∧ L.map otV = w.map tV)
 | [] => .inr ⟨rfl,[],rfl,rfl⟩
 | none :: L => .inl ⟨rfl,by rw [List.mapM_cons]; rfl⟩
 | some s :: L => by
  have e : inV .non ((some s :: L).map otV) = inV .non (L.map otV) := rfl
  rw [e,List.mapM_cons]
  rcases oqG L with ⟨h1,h2⟩ | ⟨h1,w,h2,h3⟩
  ·exact .inl ⟨h1,by rw [h2]; rfl⟩
  ·exact .inr ⟨h1,s :: w,by rw [h2]; rfl,by rw [List.map_cons,h3]; rfl⟩
theorem iqx (a b : List Nat) : longM a b = a ∨ longM a b = b := by unfold longM; split <;> simp
theorem mq8 (a b : List Nat) : a.length ≤ (longM a b).length ∧ b.length ≤ (longM a b).length := by unfold longM; split <;> omega
theorem pqn {a b s : List Nat} (ha : a <+: s) (hb : b <+: s) : longM a b <+: s ∧ a <+: longM a b ∧ b <+: longM a b := by
 have hl := mq8 a b
 have hs : longM a b <+: s := by rcases iqx a b with e | e <;> rw [e] <;> assumption
 exact ⟨hs,List.prefix_of_prefix_length_le ha hs hl.1,List.prefix_of_prefix_length_le hb hs hl.2⟩
theorem oq0 {a b s : List Nat} (ha : a <:+ s) (hb : b <:+ s) : longM a b <:+ s ∧ a <:+ longM a b ∧ b <:+ longM a b := by
 have hl := mq8 a b
 have hs : longM a b <:+ s := by rcases iqx a b with e | e <;> rw [e] <;> assumption
 exact ⟨hs,List.suffix_of_suffix_length_le ha hs hl.1,List.suffix_of_suffix_length_le hb hs hl.2⟩
theorem jqk {h t s : List Nat} : partB h t s = true ↔ h <+: s ∧ t <:+ s ∧ h.length + t.length < s.length := by
 unfold partB
 simp only [decide_eq_true_eq,Bool.and_eq_true]
 rw [List.prefix_iff_eq_take,List.suffix_iff_eq_drop]
 exact ⟨fun ⟨a,b,c⟩ => ⟨a.symm,b.symm,c⟩,fun ⟨a,b,c⟩ => ⟨a.symm,b.symm,c⟩⟩
def midM : Pc -> List Nat
 | .num _ => [49]
 | .word _ => [97]
 | _ => trS
theorem jqZ {c : Pc} {s L T : List Nat} (hc : c.isStep = false) (hf : fitsM c s = true) (h1 : c.head <+: L) (h2 : c.tail <:+ T) (hL : L <+: s) (hT : T <:+ s) (hn : c.isNum = true ∨ c.isWord = true -> L.length + T.length < s.length) : ∀ x ∈ midM c,fitsM c (L ++ [x] ++ T) = true := fun x hx => by
 have hsub : midM c ⊆ trS := by cases c <;> (show _ ⊆ trS) <;> first | exact fun _ h => h | (intro y hy; revert hy; simp only [midM,trS,List.mem_singleton]; rintro rfl; decide)
 have hdot := hqh (h := L) (t := T) (hsub hx)
 have hlen : (L ++ [x] ++ T).length = L.length + 1 + T.length := by simp only [List.length_append,List.length_singleton]
 have hmem : ∀ (p : Nat -> Bool),s.all p = true -> p x = true -> (L ++ [x] ++ T).all p = true := fun p hp hx => by
  rw [List.all_eq_true] at hp ⊢
  intro y hy
  simp only [List.mem_append,List.mem_singleton] at hy
  rcases hy with (hy | rfl) | hy
  ·exact hp y (hL.subset hy)
  ·exact hx
  ·exact hp y (hT.subset hy)
 have fin : ∀ b : Bool,b = true -> (!isDot (L ++ [x] ++ T) && b) = true := fun b hb => by rw [hdot,hb]; rfl
 have hf2 := (Bool.and_eq_true_iff.mp hf).2
 cases c with
 | step w => cases hc
 | part h n t =>
  refine fin _ (jqk.mpr ⟨?_,?_,?_⟩)
  ·rw [List.append_assoc]; exact h1.trans (List.prefix_append ..)
  ·exact List.IsSuffix.trans h2 (List.suffix_append ..)
  ·have := h1.length_le; have := h2.length_le
   rw [hlen]
   show h.length + t.length < _
   have a1 : h.length ≤ L.length := h1.length_le
   have a2 : t.length ≤ T.length := h2.length_le
   omega
 | num n =>
  have hn := hn (.inl rfl)
  have hx : x = 49 := List.mem_singleton.mp hx
  subst hx
  have hf2 : numB s = true := hf2
  unfold numB at hf2
  simp only [Bool.and_eq_true,Bool.or_eq_true,decide_eq_true_eq,Bool.not_eq_true',decide_eq_false_iff_not] at hf2
  refine fin _ (show numB _ = true from ?_)
  unfold numB
  simp only [Bool.and_eq_true,Bool.or_eq_true,decide_eq_true_eq,Bool.not_eq_true',decide_eq_false_iff_not]
  refine ⟨⟨⟨by omega,by omega⟩,hmem _ hf2.1.2 (by decide)⟩,.inr ?_⟩
  cases L with
  | nil => simp
  | cons y L =>
   obtain ⟨u,rfl⟩ := hL
   rcases hf2.2 with z | z
   ·have := congrArg List.length z
    simp only [List.length_cons,List.length_append,List.length_nil] at this hn
    omega
   ·simpa using z
 | word n =>
  have hn := hn (.inr rfl)
  have hx : x = 97 := List.mem_singleton.mp hx
  subst hx
  have hf2 : wordB s = true := hf2
  unfold wordB at hf2
  simp only [Bool.and_eq_true,decide_eq_true_eq] at hf2
  refine fin _ (show wordB _ = true from ?_)
  unfold wordB
  simp only [decide_eq_true_eq,Bool.and_eq_true]
  exact ⟨⟨by omega,by omega⟩,hmem _ hf2.2 (by decide)⟩
 | gap n => exact fin _ rfl
 | rest n => exact fin _ rfl
theorem lqG {c : Pc} {s : List Nat} (hf : fitsM c s = true) : c.head <+: s ∧ c.tail <:+ s := by
 have hf2 := (Bool.and_eq_true_iff.mp hf).2
 cases c with
 | part h n t => have := jqk.mp hf2; exact ⟨this.1,this.2.1⟩
 | _ => exact ⟨List.nil_prefix,List.nil_suffix⟩
theorem PcOk.ends {c : Pc} (o : PcOk c) : c.head.length ≤ 100 ∧ c.tail.length ≤ 100 := by
 cases c with
 | part h n t => exact ⟨o.1,o.2.1⟩
 | _ => exact ⟨Nat.zero_le _,Nat.zero_le _⟩
theorem oqi {c d : Pc} {s : List Nat} (hc : c.isNum = true ∨ c.isWord = true) (h1 : fitsM c s = true) (h2 : fitsM d s = true) : (longM c.head d.head).length + (longM c.tail d.tail).length < s.length ∧ (longM d.head c.head).length + (longM d.tail c.tail).length < s.length := by
 have e1 : ∀ a : List Nat,(longM [] a).length = a.length := fun a => by cases a <;> rfl
 have e2 : ∀ a : List Nat,(longM a []).length = a.length := fun a => by cases a <;> rfl
 have main : 0 < s.length -> c.head = [] -> c.tail = [] -> (longM c.head d.head).length + (longM c.tail d.tail).length < s.length ∧ (longM d.head c.head).length + (longM d.tail c.tail).length < s.length := fun h0 a b => by
  rw [a,b,e1,e1,e2,e2]
  have : d.head.length + d.tail.length < s.length := by
   cases d with
   | part h n t => exact (jqk.mp (Bool.and_eq_true_iff.mp h2).2).2.2
   | _ => exact h0
  exact ⟨this,this⟩
 cases c with
 | num n =>
  have hf : numB s = true := (Bool.and_eq_true_iff.mp h1).2
  unfold numB at hf
  simp only [Bool.and_eq_true,decide_eq_true_eq] at hf
  exact main hf.1.1.1 rfl rfl
 | word n =>
  have hf : wordB s = true := (Bool.and_eq_true_iff.mp h1).2
  unfold wordB at hf
  simp only [Bool.and_eq_true,decide_eq_true_eq] at hf
  exact main hf.1.1 rfl rfl
 | _ => rcases hc with z | z <;> cases z
theorem pq3 {c d : Pc} {s : List Nat} (h1 : fitsM c s = true) (h2 : fitsM d s = true) : ∃ x,x ∈ midM c ∧ x ∈ midM d ∧ x ∈ trS := by
 have no : ∀ {a b : List Nat},fitsM (.num a) s = true -> fitsM (.word b) s = true -> False := fun {a b} h1 h2 => by
  have hf : numB s = true := (Bool.and_eq_true_iff.mp h1).2
  have hg : wordB s = true := (Bool.and_eq_true_iff.mp h2).2
  unfold numB at hf
  unfold wordB at hg
  simp only [Bool.and_eq_true,decide_eq_true_eq,List.all_eq_true] at hf hg
  cases s with
  | nil => exact absurd hf.1.1.1 (by decide)
  | cons y s =>
   have a := hf.1.2 y (List.mem_cons_self ..)
   have b := hg.2 y (List.mem_cons_self ..)
   unfold isFig at a
   unfold isSma at b
   simp only [Bool.and_eq_true,decide_eq_true_eq] at a b
   omega
 cases c with
 | num n => cases d with
  | word m => exact (no h1 h2).elim
  | _ => exact ⟨49,by simp [midM,trS],by simp [midM,trS],by decide⟩
 | word n => cases d with
  | num m => exact (no h2 h1).elim
  | _ => exact ⟨97,by simp [midM,trS],by simp [midM,trS],by decide⟩
 | _ => cases d with
  | num n => exact ⟨49,by simp [midM,trS],by simp [midM,trS],by decide⟩
  | _ => exact ⟨97,by simp [midM,trS],by simp [midM,trS],by decide⟩
theorem oqT {c d : Pc} {s : List Nat} (oc : PcOk c) (od : PcOk d) (h1 : fitsM c s = true) (h2 : fitsM d s = true) : stepBoth c d ≠ none := fun hn => by
 have all := List.find?_eq_none.mp hn
 have one : ∀ z ∈ bothT c d,fitsM c z = true -> fitsM d z = true -> False := fun z hz a b => all z hz (by rw [a,b]; rfl)
 have stp : ∀ {c : Pc},c.isStep = true -> fitsM c s = true -> s ∈ fitT c := fun {c} hc hf => by
  cases c with
  | step w =>
   have e : s = w := of_decide_eq_true (Bool.and_eq_true_iff.mp hf).2
   exact List.mem_filter.mpr ⟨List.mem_singleton.mpr e,hf⟩
  | _ => cases hc
 by_cases hs : c.isStep = true ∨ d.isStep = true
 ·refine one s ?_ h1 h2
  unfold bothT
  rw [if_pos hs]
  rcases hs with z | z
  ·exact List.mem_append_left _ (stp z h1)
  ·exact List.mem_append_right _ (stp z h2)
 ·have hcs : c.isStep = false := by cases e : c.isStep <;> simp_all
  have hds : d.isStep = false := by cases e : d.isStep <;> simp_all
  obtain ⟨x,x1,x2,x3⟩ := pq3 h1 h2
  obtain ⟨a1,a2⟩ := lqG h1
  obtain ⟨b1,b2⟩ := lqG h2
  obtain ⟨p1,p2,p3⟩ := pqn a1 b1
  obtain ⟨q1,q2,q3⟩ := oq0 a2 b2
  have l4 : (longM c.head d.head).length ≤ 100 := by rcases iqx c.head d.head with e | e <;> rw [e]; exact oc.ends.1; exact od.ends.1
  have t4 : (longM c.tail d.tail).length ≤ 100 := by rcases iqx c.tail d.tail with e | e <;> rw [e]; exact oc.ends.2; exact od.ends.2
  refine one (longM c.head d.head ++ [x] ++ longM c.tail d.tail) ?_ (jqZ hcs h1 p2 q2 p1 q1 (fun z => (oqi z h1 h2).1) x x1) (jqZ hds h2 p3 q3 p1 q1 (fun z => (oqi z h2 h1).2) x x2)
  unfold bothT
  rw [if_neg hs]
  exact jqe x3
theorem lqd : ∀ {L : List (Option (List Nat))},L.mapM id = none -> ∃ i : Nat,L[i]? = some none
 | [],h => by simp at h
 | none :: L,_ => ⟨0,rfl⟩
 | some t :: L,h => by
  rw [List.mapM_cons] at h
  cases e : L.mapM id with
  | none => obtain ⟨i,hi⟩ := lqd e; exact ⟨i + 1,hi⟩
  | some w' => rw [e] at h; cases h
theorem jqq {cs ms ms' : List Pc} {n m : Nat} (h : spreadM cs n = some ms) (h' : spreadM cs m = some ms') {i : Nat} {c c' : Pc} {s : List Nat} (hc : ms[i]? = some c) (hc' : ms'[i]? = some c') (hf : fitsM c s = true) : fitsM c' s = true := by
 obtain ⟨a1,a2⟩ := aqD h
 obtain ⟨b1,b2⟩ := aqD h'
 have l1 := (List.getElem?_eq_some_iff.mp hc).1
 have l2 := (List.getElem?_eq_some_iff.mp hc').1
 rcases b2 i (by omega) with ⟨p1,p2⟩ | ⟨p1,_,c2,p2,p3,_⟩
 ·rcases a2 i (by omega) with ⟨q1,q2⟩ | ⟨q1,_⟩
  ·rw [hc',<- q2,hc] at p2
   cases p2
   exact hf
  ·omega
 ·rw [hc'] at p2
  cases p2
  exact iqD p3 (kqV hf)
theorem oqI {cs ds : List Pc} {e e' r x : Bool} {ss : List (List Nat)} (oc : ∀ c ∈ cs,PcOk c) (od : ∀ c ∈ ds,PcOk c) (hc : fitsP cs e r ss x = true) (hd : fitsP ds e' r ss x = true) : meetM cs e ds e' ≠ none := fun hn => by
 obtain ⟨ms',hm',rfl,rfl,fc⟩ := dqw.mp hc
 obtain ⟨ts',ht',_,rfl,fd⟩ := dqw.mp hd
 unfold meetM at hn
 rw [if_neg (fun h => h rfl)] at hn
 have l1 := dqz hm'
 have l2 := dqz ht'
 obtain ⟨ms,hms⟩ : ∃ ms,spreadM cs (max cs.length ds.length) = some ms := by
  refine eqL ?_
  rcases l1 with a | a
  ·refine .inr ?_
   rcases l2 with b | b <;> omega
  ·exact .inl ⟨a.1,by omega⟩
 obtain ⟨ts,hts⟩ : ∃ ts,spreadM ds (max cs.length ds.length) = some ts := by
  refine eqL ?_
  rcases l2 with a | a
  ·refine .inr ?_
   rcases l1 with b | b <;> omega
  ·exact .inl ⟨a.1,by omega⟩
 rw [hms,hts] at hn
 obtain ⟨i,hi⟩ := lqd (show (List.zipWith stepBoth ms ts).mapM id = none from hn)
 have il := (List.getElem?_eq_some_iff.mp hi).1
 have m1 := (aqD hms).1
 have t1 := (aqD hts).1
 have m2 := (aqD hm').1
 have t2 := (aqD ht').1
 rw [List.length_zipWith,m1,t1,Nat.min_self] at il
 have hil : i < ss.length := by
  rcases l1 with a | a <;> rcases l2 with b | b <;> omega
 have g1 : ms[i]? = some ms[i] := List.getElem?_eq_getElem (by omega)
 have g2 : ts[i]? = some ts[i] := List.getElem?_eq_getElem (by omega)
 have g3 : ms'[i]? = some ms'[i] := List.getElem?_eq_getElem (by omega)
 have g4 : ts'[i]? = some ts'[i] := List.getElem?_eq_getElem (by omega)
 have g5 : ss[i]? = some ss[i] := List.getElem?_eq_getElem (by omega)
 rw [List.getElem?_zipWith,g1,g2] at hi
 exact oqT (eqh oc hms _ (List.mem_of_getElem? g1)) (eqh od hts _ (List.mem_of_getElem? g2)) (jqq hm' hms g3 g1 (fc i _ _ g3 g5)) (jqq ht' hts g4 g2 (fd i _ _ g4 g5)) (Option.some.inj hi)
end Wm
namespace HT
open PySem PyProof.Rows
theorem qq5 (A : Around) (s : Shared) (a : Int) (t : Tok) (c : Int) (u : Tok) (prog : Program) (w : World) (E : Value -> Shared -> Prop) (Q : Value -> Shared -> Prop) (h : Q (.bool (decide (c < a))) s) :
  wpAny (model prog w) A (richCompare .Gt (.int a t) (.int c u)) Q E s :=
 (PyProof.Rows.gt_int h : wpAny (model prog w) A (compareOp .Gt (.int a t) (.int c u)) Q E s)
section
open PySem.SeqAt
open PySem.AutoSeq1 (wpAny_loadPart')
open PySem.MeetsSeq PySem.MeetsSeq2 PySem.MeetsSeq3
theorem kqn (l b : Addr) (items items2 : Array Value) (n n2 : Nat) (dd dd2 : Option Addr) (sl sl2 : Array (Option Value)) (ns ms : List Int) (hi : IntsAre items.toList ns) (hj : IntsAre items2.toList ms) :
  Meets (Builtin.«tuple.__gt__» ⟨[.ref l,.ref b],[]⟩)
   (fun _ R s => s.heap.get? l = some { cls := .type "tuple",dict := dd,data := .seq items n,slots := sl } ∧ s.heap.get? b = some { cls := .type "tuple",dict := dd2,data := .seq items2 n2,slots := sl2 } ∧
    R (.ok (.ret (.bool (lexLt ms ns)))) s) :=
 .of_wp fun prog w A R s h => by
  obtain ⟨hp,g,d,tk,os⟩ := s; obtain ⟨hl,hb,h⟩ := h
  have f2 := AutoSeq1.sub_tuple_tuple
  have z1 : items.size = ns.length := by rw [<- hi.length]; simp
  have z2 : items2.size = ms.length := by rw [<- hj.length]; simp
  wp_walk using wpAny_loadPart' hl,wpAny_loadPart' hb,wpAny_forIn_list _ (fun rest b s' => b.1 = none ∧ s' = ⟨hp,g,d,tk,os⟩ ∧ ∃ (vs ws : List Value) (ns' ms' : List Int),rest = vs.zip ws ∧
   IntsAre vs ns' ∧ IntsAre ws ms' ∧ ns'.length + items2.size = ms'.length + items.size ∧ R (.ok (.ret (.bool (lexLt ms' ns')))) ⟨hp,g,d,tk,os⟩) _
  case turn =>
   rintro ⟨y,x⟩ rest b s' ⟨hb',rfl,vs,ws,ns',ms',hz,hvi,hwi,hlen,hR⟩
   cases hvi with
   | nil => rw [List.zip_nil_left] at hz; cases hz
   | cons a t hvi' =>
    cases hwi with
    | nil => rw [List.zip_nil_right] at hz; cases hz
    | cons c u hwi' =>
     rw [List.zip_cons_cons] at hz
     injection hz with hyx hrest
     injection hyx with hy hx
     subst hy hx
     rw [nqw] at hR
     simp only [List.length_cons] at hlen
     obtain ⟨e,he,hiff⟩ := pq2 A.in1 ⟨hp,g,d,tk,os⟩ a t c u
     refine wpAny_bind (he prog w _ _ ?_)
     cases e with
     | true =>
      rw [if_pos (hiff.mp rfl).symm] at hR
      wp_walk
      exact ⟨rfl,rfl,_,_,_,_,hrest,hvi',hwi',by omega,hR⟩
     | false =>
      rw [if_neg (fun q => absurd (hiff.mpr q.symm) Bool.false_ne_true)] at hR
      have hri := qq5 A.in1 ⟨hp,g,d,tk,os⟩ a t c u prog w
      wp_walk using hri
      exact ⟨_,rfl,by simpa using hR⟩
  case fin =>
   rintro ⟨b1,b2⟩ s' ⟨hb',rfl,vs,ws,ns',ms',hz,hvi,hwi,hlen,hR⟩
   simp only at hb'
   subst hb'
   have hv : lexLt ms' ns' = decide (items2.size < items.size) := by
    cases hvi with
    | nil =>
     cases hwi with
     | nil =>
      simp only [List.length_nil] at hlen
      rw [kqL]
      exact (decide_eq_false (by omega)).symm
     | cons c u hw =>
      simp only [List.length_nil,List.length_cons] at hlen
      rw [jqr]
      exact (decide_eq_false (by omega)).symm
    | cons a t hv =>
     cases hwi with
     | nil =>
      simp only [List.length_nil,List.length_cons] at hlen
      rw [jqv]
      exact (decide_eq_true (by omega)).symm
     | cons c u hw =>
      rw [List.zip_cons_cons] at hz
      cases hz
   rw [hv] at hR
   wp_walk
   exact ⟨_,rfl,by simpa [Builtin.Tuple.tupleCompareSizes] using hR⟩
  case h =>
   exact ⟨rfl,rfl,items.toList,items2.toList,ns,ms,rfl,hi,hj,by omega,h⟩
end
section
variable {prog : Program} {w : World} {A : Around} {E : Value -> Shared -> Prop} {s : Shared}
theorem gt_tupInts {l b : Addr} {items items2 : Array Value} {ns ms : List Int} {Q : Value -> Shared -> Prop} (hl : IsTup s.heap l items) (hb : IsTup s.heap b items2) (hi : IntsAre items.toList ns) (hj : IntsAre items2.toList ms)
  (hu : A.units < cLine) (h : Q (.bool (lexLt ms ns)) s) : wpAny (model prog w) A (compareOp .Gt (.ref l) (.ref b)) Q E s := by
 obtain ⟨⟨cls,dd,data,sl⟩,ho,hc,n,hd⟩ := id hl
 obtain ⟨⟨cls2,dd2,data2,sl2⟩,ho2,hc2,n2,hd2⟩ := id hb
 simp only at hc hd hc2 hd2
 subst hc hd hc2 hd2
 exact richCompare_meets_room (op := .Gt) ⟨_,ho,rfl⟩ ⟨_,ho2,rfl⟩ PySem.F.slot_tuple_gt PySem.F.entry_tuple_gt (PySem.F.args_tuple_gt_2 _ _) (kqn l b items items2 n n2 dd dd2 sl sl2 ns ms hi hj)
  ⟨ho,ho2,show Value.bool (lexLt ms ns) ≠ Value.notImplemented ∧ Q (.bool (lexLt ms ns)) s from ⟨(fun x => nomatch x),h⟩⟩ hu
end
end HT
namespace L2
open PySem PySem.Spec PyProof.Rows PyProof.V
section
variable {X : Cx} {o i : Expr} {x : Str} {np pos : Pos} {td ty : TE}
def tTab (p : Addr) (D : List (PyData × PyData)) (td ty : TE) : TE := fun σ H Q => td σ H fun x H1 => ty σ H1 fun y H2 => x = .ref p ∧ ∃ (k : Str) (n : Int),y = .str k ∧ lookup (.str k) D = some (.int n) ∧ Q (.int n) H2
theorem tq6 {p : Addr} {D : List (PyData × PyData)} {σ : St} {H : Hp} {Q : VK} : (tTab p D td ty σ H Q) = (td σ H fun x H1 => ty σ H1 fun y H2 => x = .ref p ∧ ∃ (k : Str) (n : Int),y = .str k ∧ lookup (.str k) D = some (.int n) ∧ Q (.int n) H2) := rfl
theorem sq6 {p : Addr} {D : List (PyData × PyData)} (T : ∀ h : Heap,X.K.In h -> StrTab X.prog X.w h p D) (ho : PE X (.Name x np) td) (hi : PE X i ty) (hs : ∀ ov iv,subscripted i false ov iv = operate [ov,iv] (getItem ov iv)) : PE X (.Subscript (.Name x np) i pos) (tTab p D td ty) := by
 intro pins s σ H Q I h
 refine Subscript_ (thn (ho pins s σ H _ I h) fun u s1 ⟨x,H1,I1,rx,q1⟩ => thn (hi pins s1 σ H1 _ I1 q1) fun iv s2 W' => ?_)
 obtain ⟨y,H2,I2,ry,ex,k,n,ey,hl,q2⟩ := W'
 subst ex ey
 obtain rfl : u = Value.ref p := rx
 obtain ⟨t,rfl⟩ := ry
 refine item_strTab (T _ I2.kIn) hl (fun v hv => ?_) (hs _ _)
 obtain ⟨t',rfl⟩ := hv.int_inv
 exact ⟨.int n,H2,I2.tok _,⟨t',rfl⟩,q2⟩
def rGtT (K : PySem.W.Frag) : R2 := fun x y H Q => ∃ a b ns ms,x = .ref a ∧ y = .ref b ∧ SqT K H a (ns.map V.int) ∧ SqT K H b (ms.map V.int) ∧ Q (.bl (HT.lexLt ms ns)) H
theorem sq9 {K : PySem.W.Frag} (hK : X.K = K) (hu : X.A.units + 64 < cLine) : OpR X (compareOp .Gt) (rGtT K) := by
 subst hK
 intro pins s σ H x y v u Q I rx ry h
 obtain ⟨a,b,ns,ms,rfl,rfl,ha,hb,q⟩ := h
 cases rx
 cases ry
 obtain ⟨us,r1,p1,_⟩ := I.tuple ha
 obtain ⟨ws,r2,p2,_⟩ := I.tuple hb
 exact HT.gt_tupInts p1 p2 (jqX r1) (jqX r2) (by omega) ⟨.bl (HT.lexLt ms ns),H,I,rfl,q⟩
end
end L2
namespace Wm
open PySem L2
def wordW : Pc -> Int
 | .step _ => 6
 | .part .. => 5
 | .num _ => 4
 | .word _ => 3
 | .gap _ => 2
 | .rest _ => 1
def worthM (c : Pc) : List Int := [wordW c,((c.head.length + c.tail.length : Nat) : Int),(c.head.length : Int)]
def moreM : List Pc -> List Pc -> Bool
 | [],[] => false
 | [],_ :: _ => true
 | _ :: _,[] => false
 | c :: cs,d :: ds => if worthM c = worthM d then moreM cs ds else HT.lexLt (worthM d) (worthM c)
theorem qqL : ∀ {A B : List Pc},A = [] ∨ B = [] -> moreM A B = decide (A.length < B.length)
 | [],[],_ => rfl
 | [],_ :: _,_ => by simp [moreM]
 | _ :: _,[],_ => by simp [moreM]
 | _ :: _,_ :: _,h => by rcases h with h | h <;> cases h
def LastR (cs : List Pc) : Prop := ∀ (i : Nat) (c : Pc),cs[i]? = some c -> c.isRest = true -> i + 1 = cs.length
theorem oqk : ∀ a : List Int,HT.lexLt a a = false
 | [] => rfl
 | x :: xs => by show (if x = x then HT.lexLt xs xs else decide (x < x)) = false; rw [if_pos rfl]; exact oqk xs
theorem mqz : ∀ a b : List Int,HT.lexLt a b = false -> HT.lexLt b a = false -> a = b
 | [],[],_,_ => rfl
 | [],_ :: _,h,_ => (by cases h)
 | _ :: _,[],_,h => (by cases h)
 | x :: xs,y :: ys,h1,h2 => by
  have e1 : (if x = y then HT.lexLt xs ys else decide (x < y)) = false := h1
  have e2 : (if y = x then HT.lexLt ys xs else decide (y < x)) = false := h2
  by_cases e : x = y
  ·rw [if_pos e] at e1
   rw [if_pos e.symm] at e2
   rw [e,mqz xs ys e1 e2]
  ·rw [if_neg e,decide_eq_false_iff_not] at e1
   rw [if_neg (Ne.symm e),decide_eq_false_iff_not] at e2
   omega
theorem jqp : ∀ a b c : List Int,HT.lexLt a b = true -> HT.lexLt b c = true -> HT.lexLt a c = true
 | [],[],_,h,_ => (by cases h)
 | [],_ :: _,[],_,h => (by cases h)
 | [],_ :: _,_ :: _,_,_ => (rfl)
 | _ :: _,[],_,h,_ => (by cases h)
 | _ :: _,_ :: _,[],_,h => (by cases h)
 | x :: xs,y :: ys,z :: zs,h1,h2 => by
  have e1 : (if x = y then HT.lexLt xs ys else decide (x < y)) = true := h1
  have e2 : (if y = z then HT.lexLt ys zs else decide (y < z)) = true := h2
  show (if x = z then HT.lexLt xs zs else decide (x < z)) = true
  by_cases a : x = y <;> by_cases b : y = z
  ·rw [if_pos a] at e1
   rw [if_pos b] at e2
   rw [if_pos (a.trans b)]
   exact jqp xs ys zs e1 e2
  ·rw [if_neg b,decide_eq_true_eq] at e2
   rw [if_neg (by omega)]
   exact (decide_eq_true (by omega))
  ·rw [if_neg a,decide_eq_true_eq] at e1
   rw [if_neg (by omega)]
   exact (decide_eq_true (by omega))
  ·rw [if_neg a,decide_eq_true_eq] at e1
   rw [if_neg b,decide_eq_true_eq] at e2
   rw [if_neg (by omega)]
   exact (decide_eq_true (by omega))
theorem sqH {a b c : List Int} (h1 : HT.lexLt a b = false) (h2 : HT.lexLt b c = false) : HT.lexLt a c = false := by
 cases e : HT.lexLt a c with
 | false => rfl
 | true =>
  cases e2 : HT.lexLt b a with
  | true => have := jqp b a c e2 e; rw [h2] at this; cases this
  | false => have := mqz a b h1 e2; subst this; rw [e] at h2; cases h2
theorem kqp : ∀ a : List Pc,moreM a a = false
 | [] => rfl
 | x :: xs => by unfold moreM; rw [if_pos rfl]; exact kqp xs
theorem hqO : ∀ {a b c : List Pc},moreM a b = true -> moreM b c = true -> moreM a c = true
 | [],[],_,h,_ => (by cases h)
 | [],_ :: _,[],_,h => (by cases h)
 | [],_ :: _,_ :: _,_,_ => (rfl)
 | _ :: _,[],_,h,_ => (by cases h)
 | _ :: _,_ :: _,[],_,h => (by cases h)
 | x :: xs,y :: ys,z :: zs,h1,h2 => by
  unfold moreM at h1 h2 ⊢
  by_cases a : worthM x = worthM y <;> by_cases b : worthM y = worthM z
  ·rw [if_pos a] at h1
   rw [if_pos b] at h2
   rw [if_pos (a.trans b)]
   exact hqO h1 h2
  ·rw [if_neg b] at h2
   rw [if_neg (fun z => b (a.symm.trans z)),a]
   exact h2
  ·rw [if_neg a] at h1
   rw [if_neg (fun z => a (z.trans b.symm)),<- b]
   exact h1
  ·rw [if_neg a] at h1
   rw [if_neg b] at h2
   have := jqp _ _ _ h2 h1
   rw [if_neg (fun e => by rw [e,oqk] at this; cases this)]
   exact this
theorem nqz {a b : List Pc} (h : moreM a b = true) : moreM b a = false := by
 cases e : moreM b a with
 | false => rfl
 | true => have := hqO h e; rw [kqp] at this; cases this
theorem nqi : ∀ {a b c : List Pc},moreM a b = false -> moreM b c = false -> moreM a c = false
 | [],[],_,_,h => h
 | [],_ :: _,_,h,_ => (by cases h)
 | _ :: _,[],[],_,_ => (rfl)
 | _ :: _,[],_ :: _,_,h => (by cases h)
 | _ :: _,_ :: _,[],_,_ => (rfl)
 | x :: xs,y :: ys,z :: zs,h1,h2 => by
  unfold moreM at h1 h2 ⊢
  by_cases a : worthM x = worthM y <;> by_cases b : worthM y = worthM z
  ·rw [if_pos a] at h1
   rw [if_pos b] at h2
   rw [if_pos (a.trans b)]
   exact nqi h1 h2
  ·rw [if_neg b] at h2
   rw [if_neg (fun z => b (a.symm.trans z)),a]
   exact h2
  ·rw [if_neg a] at h1
   rw [if_neg (fun z => a (z.trans b.symm)),<- b]
   exact h1
  ·rw [if_neg a] at h1
   rw [if_neg b] at h2
   by_cases c : worthM x = worthM z
   ·rw [c] at h1
    exact absurd (mqz _ _ h1 h2) b
   ·rw [if_neg c]
    exact sqH h2 h1
def mostM {α : Type} (mr : α -> α -> Bool) (b : α) : List α -> α
 | [] => b
 | e :: r => mostM mr (if mr e b = true then e else b) r
theorem hqy {α : Type} {mr : α -> α -> Bool} (ht : ∀ a b c,mr a b = true -> mr b c = true -> mr a c = true) (hn : ∀ a b c,mr a b = false -> mr b c = false -> mr a c = false) (hs : ∀ a b,mr a b = true -> mr b a = false) :
  ∀ (L pre mid : List α) (b : α),(∀ t ∈ pre,mr b t = true ∧ mr t b = false) -> (∀ t ∈ mid,mr t b = false) ->
   ∃ pr po,pre ++ b :: mid ++ L = pr ++ mostM mr b L :: po ∧ (∀ t ∈ pr,mr (mostM mr b L) t = true ∧ mr t (mostM mr b L) = false) ∧ ∀ t ∈ po,mr t (mostM mr b L) = false
 | [],pre,mid,b,h1,h2 => ⟨pre,mid,by simp [mostM],h1,h2⟩
 | e :: r,pre,mid,b,h1,h2 => by
  unfold mostM
  by_cases he : mr e b = true
  ·rw [if_pos he]
   have hall : ∀ t ∈ pre ++ b :: mid,mr e t = true ∧ mr t e = false := fun t ht' => by
    have hb : mr t b = false ∨ t = b := by
     rcases List.mem_append.mp ht' with y | y
     ·exact .inl (h1 t y).2
     ·rcases List.mem_cons.mp y with y | y
      ·exact .inr y
      ·exact .inl (h2 t y)
    rcases hb with hb | rfl
    ·have : mr e t = true := by
      cases x : mr e t with
      | true => rfl
      | false => rw [hn e t b x hb] at he; cases he
     exact ⟨this,hs _ _ this⟩
    ·exact ⟨he,hs _ _ he⟩
   obtain ⟨pr,po,q1,q2,q3⟩ := hqy ht hn hs r (pre ++ b :: mid) [] e hall (fun t h => by cases h)
   exact ⟨pr,po,by rw [<- q1]; simp,q2,q3⟩
  ·rw [if_neg he]
   obtain ⟨pr,po,q1,q2,q3⟩ := hqy ht hn hs r pre (mid ++ [e]) b h1 (fun t h => by
    rcases List.mem_append.mp h with y | y
    ·exact h2 t y
    ·rw [List.mem_singleton.mp y]; exact (Bool.not_eq_true _).mp he)
   exact ⟨pr,po,by rw [<- q1]; simp,q2,q3⟩
theorem nq3 {α : Type} {mr : α -> α -> Bool} (ht : ∀ a b c,mr a b = true -> mr b c = true -> mr a c = true) (hn : ∀ a b c,mr a b = false -> mr b c = false -> mr a c = false) (hs : ∀ a b,mr a b = true -> mr b a = false)
  {T : List α} {p : α -> Bool} {b : α} {L : List α} (h : T.filter p = b :: L) :
  ∃ pr po,T = pr ++ mostM mr b L :: po ∧ p (mostM mr b L) = true ∧ (∀ t ∈ pr,p t = true -> mr (mostM mr b L) t = true ∧ mr t (mostM mr b L) = false) ∧ ∀ t ∈ po,p t = true -> mr t (mostM mr b L) = false := by
 obtain ⟨pr,po,q1,q2,q3⟩ := hqy ht hn hs L [] [] b (fun t h => by cases h) (fun t h => by cases h)
 have e : T.filter p = pr ++ mostM mr b L :: po := by rw [h,<- q1]; simp
 obtain ⟨t1,t2,e1,e2,e3⟩ := List.filter_eq_append_iff.mp e
 obtain ⟨u1,u2,e4,e5,e6,e7⟩ := List.filter_eq_cons_iff.mp e3
 refine ⟨t1 ++ u1,u2,by rw [e1,e4]; simp,e6,fun t ht' hp => ?_,fun t ht' hp => q3 t (by rw [<- e7]; exact List.mem_filter.mpr ⟨ht',hp⟩)⟩
 rcases List.mem_append.mp ht' with y | y
 ·exact q2 t (by rw [<- e2]; exact List.mem_filter.mpr ⟨y,hp⟩)
 ·exact absurd hp (e5 t y)
theorem sqn (a b : Int) : PyData.eqv (.int a) (.int b) = true ↔ a = b := by simp [PyData.eqv]
theorem qqw (a b : List Int) : PyData.eqv (.tuple (a.map PyData.int)) (.tuple (b.map PyData.int)) = decide (a = b) := by
 rw [Bool.eq_iff_iff,decide_eq_true_eq,PyData.eqv]
 exact kqb sqn _ _
theorem jqa (l : List Int) : SeqAt.shaped (.tuple (l.map PyData.int)) = true := by
 refine LayAt.shaped (n := 1) (LayAt.tup (n := 0) fun d hd => ?_) (by decide)
 obtain ⟨c,hc,rfl⟩ := List.mem_map.mp hd
 exact ⟨rfl,Nat.le_refl _⟩
theorem PcOk.tx {c : Pc} (o : PcOk c) : PcTx c := by
 cases c with
 | step w => exact ⟨Nat.zero_le _,Nat.zero_le _,fun w' h => by cases h; have := o.2.1; omega⟩
 | part a n b => exact ⟨by have := o.1; show a.length ≤ _; omega,by have := o.2.1; show b.length ≤ _; omega,fun w h => by cases h⟩
 | _ => exact ⟨Nat.zero_le _,Nat.zero_le _,fun w h => by cases h⟩
end Wm
namespace L2
open PySem
section
variable {K : PySem.W.Frag} {p : Addr} {fv : St} {tt : TT} {te : TE} {Q : VK} {H1 : Hp}
theorem mqp {a : Addr} {xs : List V} (t : Nat -> Bool) (g : Nat -> V) (hxs : SqL K H1 a xs) (hlen : xs.length ≤ sizeLine) (hp : H1 p = none)
  (ht : ∀ (i : Nat) (x : V),xs[i]? = some x -> ∀ (H' : Hp) (R : Bool -> Hp -> Prop),Same H1 H' -> (∀ H'',Same H' H'' -> R (t i) H'') -> tt (some x :: fv) H' R)
  (he : ∀ (i : Nat) (x : V),xs[i]? = some x -> t i = true -> ∀ (H' : Hp) (T : VK),Same H1 H' -> (∀ H'',Same H' H'' -> T (g i) H'') -> te (some x :: fv) H' T)
  (hQ : ∀ H',Same H1 H' -> H' p = some (.lst (((List.range xs.length).filter t).map g)) -> Q (.ref p) H') : CompI (Itl K a) p fv tt te Q H1 := by
 refine ⟨fun i m ys H2 => m = xs.length - i ∧ i ≤ xs.length ∧ ys = ((List.range i).filter t).map g ∧ H2 p = some (.lst ys) ∧ Same H1 H2,⟨xs.length,by simp,Nat.zero_le _,by simp,aqm,fun b o e => by rw [aqt (aqo e hp)]; exact e⟩,?_⟩
 rintro i m ys H2 ⟨rfl,hi,rfl,hp2,sm⟩
 refine ⟨hp2,?_⟩
 have q := sm.seq hxs
 by_cases hlt : i < xs.length
 ·refine .inr ⟨⟨xs,xs[i],q,by simp [hlt]⟩,?_,fun x H3 y => ?_⟩
  ·rw [List.length_map]
   have := List.length_filter_le t (List.range i)
   rw [List.length_range] at this
   omega
  ·obtain ⟨rfl,y⟩ := y
   have hc := y xs q
   refine ht i x hc _ _ sm fun H4 s4 => ?_
   by_cases hf : t i = true
   ·rw [if_pos hf]
    refine he i x hc hf _ _ (sm.trans s4) fun H5 s5 => ⟨(s4.trans s5) _ _ hp2,xs.length - (i + 1),by omega,rfl,hlt,?_,aqm,fun b o e => ?_⟩
    ·rw [List.range_succ,List.filter_append,List.map_append]; simp [hf]
    ·rw [aqt (aqo e hp)]; exact (s4.trans s5) _ _ (sm _ _ e)
   ·rw [if_neg hf]
    refine ⟨xs.length - (i + 1),by omega,rfl,hlt,?_,s4 _ _ hp2,sm.trans s4⟩
    rw [List.range_succ,List.filter_append,List.map_append]; simp [hf]
 ·have e : i = xs.length := by omega
  subst e
  exact .inl ⟨⟨xs,q,Nat.le_refl _⟩,hQ H2 sm hp2⟩
end
end L2
namespace Wm
open PySem L2
abbrev Rw := List Nat × (List Pc × Bool)
def mrR (a b : Rw) : Bool := moreM a.2.1 b.2.1
theorem lqB {α : Type} {mr : α -> α -> Bool} : ∀ (L : List α) (b e : α),mostM mr b (L ++ [e]) = if mr e (mostM mr b L) = true then e else mostM mr b L
 | [],b,e => rfl
 | x :: L,b,e => by
  show mostM mr _ (L ++ [e]) = _
  rw [lqB L]
  rfl
theorem kqY {α : Type} {mr : α -> α -> Bool} : ∀ (L : List α) (b : α),mostM mr b L ∈ b :: L
 | [],b => List.mem_singleton.mpr rfl
 | x :: L,b => by
  have := kqY (mr := mr) L (if mr x b = true then x else b)
  show mostM mr (if mr x b = true then x else b) L ∈ _
  rcases List.mem_cons.mp this with h | h
  ·rw [h]; split <;> simp
  ·exact List.mem_cons_of_mem _ (List.mem_cons_of_mem _ h)
theorem pqJ {T : List Rw} {p : Rw -> Bool} {b : Rw} {L : List Rw} (h : T.filter p = b :: L) :
  ∃ pr po,T = pr ++ mostM mrR b L :: po ∧ p (mostM mrR b L) = true ∧ (∀ t ∈ pr,p t = true -> mrR (mostM mrR b L) t = true ∧ mrR t (mostM mrR b L) = false) ∧ ∀ t ∈ po,p t = true -> mrR t (mostM mrR b L) = false :=
 nq3 (mr := mrR) (fun _ _ _ => hqO) (fun _ _ _ => nqi) (fun _ _ => nqz) h
def RwAt (H : Hp) (r : Rw) (v : V) : Prop := ∃ a p : Addr,v = .ref a ∧ H a = some (.tup [tV r.1,.ref p]) ∧ PtAt H r.2.1 r.2.2 p
theorem RwAt.mono {H H' : Hp} {r : Rw} {v : V} (s : SameT H H') : RwAt H r v -> RwAt H' r v := fun ⟨a,p,e,h1,h2⟩ => ⟨a,p,e,s _ _ h1,h2.mono s⟩
inductive TbV (H : Hp) : List Rw -> List V -> Prop
 | nil : TbV H [] []
 | cons {r : Rw} {v : V} {rs : List Rw} {vs : List V} : RwAt H r v -> TbV H rs vs -> TbV H (r :: rs) (v :: vs)
theorem TbV.mono {H H' : Hp} (s : SameT H H') : ∀ {rs : List Rw} {vs : List V},TbV H rs vs -> TbV H' rs vs
 | _,_,.nil => .nil
 | _,_,.cons h t => .cons (h.mono s) (TbV.mono s t)
theorem TbV.length {H : Hp} : ∀ {rs : List Rw} {vs : List V},TbV H rs vs -> vs.length = rs.length
 | _,_,.nil => rfl
 | _,_,.cons h t => by rw [List.length_cons,List.length_cons,TbV.length t]
theorem TbV.get {H : Hp} : ∀ {rs : List Rw} {vs : List V},TbV H rs vs -> ∀ {i : Nat} {v : V},vs[i]? = some v -> ∃ r,rs[i]? = some r ∧ RwAt H r v
 | _,_,.nil,i,v,e => by simp at e
 | _,_,.cons h t,0,v,e => by cases e; exact ⟨_,rfl,h⟩
 | _,_,.cons h t,i + 1,v,e => by simp only [List.getElem?_cons_succ] at e ⊢; exact t.get e
theorem TbV.append {H : Hp} {ss : List Rw} {ws : List V} (h2 : TbV H ss ws) : ∀ {rs : List Rw} {vs : List V},TbV H rs vs -> TbV H (rs ++ ss) (vs ++ ws)
 | _,_,.nil => h2
 | _,_,.cons h t => .cons h (TbV.append h2 t)
theorem TbV.drop {H : Hp} : ∀ {rs : List Rw} {vs : List V},TbV H rs vs -> ∀ n : Nat,TbV H (rs.drop n) (vs.drop n)
 | _,_,.nil,n => by simp; exact .nil
 | _,_,.cons h t,0 => .cons h t
 | _,_,.cons h t,n + 1 => by rw [List.drop_succ_cons,List.drop_succ_cons]; exact TbV.drop t n
theorem TbV.take {H : Hp} : ∀ {rs : List Rw} {vs : List V},TbV H rs vs -> ∀ n : Nat,TbV H (rs.take n) (vs.take n)
 | _,_,.nil,n => by simp; exact .nil
 | _,_,.cons h t,0 => .nil
 | _,_,.cons h t,n + 1 => by rw [List.take_succ_cons,List.take_succ_cons]; exact .cons h (TbV.take t n)
theorem TbV.pick {H : Hp} {f : Rw -> Bool} : ∀ {rs : List Rw} {vs : List V},TbV H rs vs -> TbV H (rs.filter f) (((List.range vs.length).filter fun i => match rs[i]? with | some r => f r | none => false).map fun i => vs[i]?.getD .non) := by
 intro rs vs h
 induction h with
 | nil => exact .nil
 | @cons r v rs vs h t ih =>
  have e : (List.range (v :: vs).length).filter (fun i => match (r :: rs)[i]? with | some r => f r | none => false) = (if f r = true then [0] else []) ++ ((List.range vs.length).filter fun i => match rs[i]? with | some r => f r | none => false).map (· + 1) := by
   rw [List.length_cons,List.range_succ_eq_map,List.filter_cons,List.filter_map]
   simp only [List.getElem?_cons_zero]
   split <;> rename_i hh <;> simp [hh,Function.comp_def]
  rw [e,List.map_append,List.map_map,List.filter_cons]
  have tl : (((List.range vs.length).filter fun i => match rs[i]? with | some r => f r | none => false).map ((fun i => (v :: vs)[i]?.getD .non) ∘ (· + 1))) = (((List.range vs.length).filter fun i => match rs[i]? with | some r => f r | none => false).map fun i => vs[i]?.getD .non) := by
   apply List.map_congr_left
   intro i _
   simp
  rw [tl]
  split
  ·exact .cons h ih
  ·exact ih
def RwOk (t : Rw) : Prop := PcsOk t.2.1 ∧ LastR t.2.1 ∧ (gapsM t.2.1).Nodup
structure TbOk (H : Hp) (T : List Rw) (ws : List V) : Prop where
 at_ : TbV H T ws
 ok : ∀ t ∈ T,RwOk t
 nd : (T.map (·.1)).Nodup
 le : T.length ≤ 10
theorem TbOk.mono {H H' : Hp} {T : List Rw} {ws : List V} (s : SameT H H') (h : TbOk H T ws) : TbOk H' T ws := ⟨h.at_.mono s,h.ok,h.nd,h.le⟩
theorem mqY : ∀ {n i0 : Nat} {t : Nat -> Bool},i0 < n -> (∀ i,i < n -> (t i = true ↔ i = i0)) -> (List.range n).filter t = [i0]
 | 0,i0,t,h,_ => absurd h (Nat.not_lt_zero _)
 | n + 1,i0,t,h,ht => by
  rw [List.range_succ,List.filter_append]
  by_cases e : i0 = n
  ·have h1 : (List.range n).filter t = [] := List.filter_eq_nil_iff.mpr fun i hi z => by
    have h2 := List.mem_range.mp hi
    have := (ht i (by omega)).mp z
    omega
   rw [h1,e,List.filter_cons,if_pos ((ht n (by omega)).mpr e.symm)]
   rfl
  ·rw [mqY (n := n) (by omega) (fun i hi => ht i (by omega)),List.filter_cons,if_neg (fun z => e ((ht n (by omega)).mp z).symm)]
   rfl
theorem oqy {T : List Rw} (nd : (T.map (·.1)).Nodup) {i j : Nat} {a b : Rw} (hi : T[i]? = some a) (hj : T[j]? = some b) : a.1 = b.1 ↔ i = j := by
 constructor
 ·intro e
  have h1 : (T.map (·.1))[i]? = some a.1 := by rw [List.getElem?_map,hi]; rfl
  have h2 : (T.map (·.1))[j]? = some b.1 := by rw [List.getElem?_map,hj]; rfl
  obtain ⟨l1,e1⟩ := List.getElem?_eq_some_iff.mp h1
  obtain ⟨l2,e2⟩ := List.getElem?_eq_some_iff.mp h2
  refine Classical.byContradiction fun hne => ?_
  rcases Nat.lt_or_gt_of_ne hne with hlt | hlt
  ·exact List.pairwise_iff_getElem.mp nd i j l1 l2 hlt (by rw [e1,e2,e])
  ·exact List.pairwise_iff_getElem.mp nd j i l2 l1 hlt (by rw [e1,e2,e])
 ·intro e
  subst e
  rw [hi] at hj
  cases hj
  rfl
theorem rq2 {T : List Rw} {p : Rw -> Bool} {b : Rw} {L : List Rw} (h : T.filter p = b :: L) :
  ∃ i0,T[i0]? = some (mostM mrR b L) ∧ p (mostM mrR b L) = true ∧ ∀ (i : Nat) (t : Rw),T[i]? = some t -> p t = true -> mrR t (mostM mrR b L) = false ∧ (i < i0 -> mrR (mostM mrR b L) t = true) := by
 obtain ⟨pr,po,e,h1,h2,h3⟩ := pqJ h
 refine ⟨pr.length,by rw [e,List.getElem?_append_right (Nat.le_refl _),Nat.sub_self]; rfl,h1,fun i t ht hp => ?_⟩
 rw [e] at ht
 by_cases hi : i < pr.length
 ·rw [List.getElem?_append_left hi] at ht
  have := h2 t (List.mem_of_getElem? ht) hp
  exact ⟨this.2,fun _ => this.1⟩
 ·rw [List.getElem?_append_right (by omega)] at ht
  cases hk : i - pr.length with
  | zero =>
   rw [hk] at ht
   cases ht
   exact ⟨kqp _,fun z => absurd z hi⟩
  | succ m =>
   rw [hk] at ht
   exact ⟨h3 t (List.mem_of_getElem? (show po[m]? = some t from ht)) hp,fun z => absurd z hi⟩
theorem TbV.addr {H : Hp} {T : List Rw} {ws : List V} (h : TbV H T ws) : ∃ pa : Nat -> Addr,∀ (i : Nat) (t : Rw),T[i]? = some t -> ∃ a : Addr,ws[i]? = some (.ref a) ∧ H a = some (.tup [tV t.1,.ref (pa i)]) ∧ PtAt H t.2.1 t.2.2 (pa i) := by
 have hl := h.length
 have key : ∀ i : Nat,∃ p : Addr,∀ t : Rw,T[i]? = some t -> ∃ a : Addr,ws[i]? = some (.ref a) ∧ H a = some (.tup [tV t.1,.ref p]) ∧ PtAt H t.2.1 t.2.2 p := fun i => by
  cases ht : T[i]? with
  | none => exact ⟨0,fun t h => by cases h⟩
  | some t =>
   have hi := (List.getElem?_eq_some_iff.mp ht).1
   obtain ⟨v,hv⟩ : ∃ v,ws[i]? = some v := ⟨_,List.getElem?_eq_getElem (by omega)⟩
   obtain ⟨t',ht',a,p,rfl,h1,h2⟩ := h.get hv
   rw [ht] at ht'
   cases ht'
   exact ⟨p,fun t h => by cases h; exact ⟨a,hv,h1,h2⟩⟩
 exact ⟨fun i => Classical.choose (key i),fun i => Classical.choose_spec (key i)⟩
theorem qqN {nm : List (List Nat)} (hn : nm.Nodup) {T : List Rw} (h : ∀ (j : Nat) (t : Rw),T[j]? = some t -> nm[7 + j]? = some t.1) : (T.map (·.1)).Nodup := by
 refine List.pairwise_iff_getElem.mpr fun i j hi hj hlt e => ?_
 rw [List.length_map] at hi hj
 have h1 := h i T[i] (List.getElem?_eq_getElem hi)
 have h2 := h j T[j] (List.getElem?_eq_getElem hj)
 rw [List.getElem_map,List.getElem_map] at e
 obtain ⟨l1,e1⟩ := List.getElem?_eq_some_iff.mp h1
 obtain ⟨l2,e2⟩ := List.getElem?_eq_some_iff.mp h2
 exact List.pairwise_iff_getElem.mp hn (7 + i) (7 + j) l1 l2 (by omega) (by rw [e1,e2,e])
theorem TbOk.turn {H : Hp} {T : List Rw} {ws : List V} (h : TbOk H T ws) (m : Nat) : TbOk H (T.drop m ++ T.take m) (ws.drop m ++ ws.take m) := by
 refine ⟨TbV.append (h.at_.take m) (h.at_.drop m),fun t ht => ?_,?_,?_⟩
 ·rcases List.mem_append.mp ht with y | y
  ·exact h.ok t (List.mem_of_mem_drop y)
  ·exact h.ok t (List.mem_of_mem_take y)
 ·rw [List.map_append,List.map_drop,List.map_take]
  exact oqS h.nd
 ·rw [List.length_append,List.length_drop,List.length_take]; have := h.le; omega
def top (i : Nat) : Stmt := PySem.Challenge.pw_waymark_k95_whole_tables_and_two_pattern.main.body.getD i (.Pass ⟨0,0,0,0⟩)
abbrev eqw : Stmt := top 5
abbrev aqL : Stmt := top 11
abbrev aqH : Stmt := inClass (top 14) 0
abbrev gqa : Stmt := top 18
abbrev gqk : Stmt := top 23
abbrev eql : Stmt := top 24
abbrev eqa : Stmt := top 25
abbrev eqo : Stmt := top 26
abbrev dqp : Stmt := top 27
abbrev bqb : Stmt := top 54
abbrev bqd : Stmt := top 65
abbrev bqW : Stmt := top 67
abbrev bq4 : Stmt := top 68
abbrev dqt : Stmt := top 69
abbrev aqV : Stmt := top 75
abbrev eqn : Stmt := top 4
abbrev dql : Stmt := top 22
abbrev fq8 : Stmt := top 33
abbrev cqF : Stmt := top 35
abbrev cqy : Stmt := top 36
abbrev eqp : Stmt := top 37
abbrev bqB : Stmt := top 38
abbrev aqU : Stmt := top 43
abbrev dqq : Stmt := top 48
abbrev bqg : Stmt := top 62
abbrev bq1 : Stmt := top 66
abbrev cqC : Stmt := top 70
abbrev cqB : Stmt := top 76
abbrev aqT : Stmt := top 10
abbrev cqw : Stmt := top 34
abbrev aq1 : Stmt := top 44
abbrev bq3 : Stmt := top 47
abbrev bqX : Stmt := top 71
abbrev cqD : Stmt := top 77
abbrev kqi : Stmt := top 32
abbrev bqw : Stmt := top 42
abbrev bq2 : Stmt := top 51
abbrev aq2 : Stmt := top 55
abbrev bqc : Stmt := top 72
abbrev dqr : Stmt := top 73
abbrev dqk : Stmt := top 78
abbrev hqv : Stmt := top 31
abbrev dqo : Stmt := top 41
abbrev aqW : Stmt := top 59
abbrev bqz : Stmt := top 63
abbrev aqI : Stmt := top 74
abbrev bqf : Stmt := top 40
abbrev jq3 : Stmt := top 50
abbrev aq5 : Stmt := top 58
abbrev gqm : Stmt := top 61
abbrev gqe : Stmt := top 39
abbrev eqs : Stmt := top 57
abbrev dqj : Stmt := top 79
abbrev bq0 : Stmt := top 80
abbrev nqI : Stmt := top 81
abbrev sqp : V := .str (Str.ofString " !\"#$&'()*+,-./0123456789:;<=>?@ABCDEFGHIJKLMNOPQRSTUVWXYZ[\\]^_`abcdefghijklmnopqrstuvwxyz{|}~")
abbrev fqR : V := .str (Str.ofString "abcdefghijklmnopqrstuvwxyz")
abbrev lqM : V := .str (Str.ofString "0123456789")
abbrev qqj : V := .int 0
abbrev oql : V := .int 1
abbrev tqa : V := .int 2
abbrev tqt : V := .str (Str.ofString ".")
abbrev k_UP : V := .str (Str.ofString "..")
abbrev bqv : V := .int 0
abbrev dqi : V := .int 1
abbrev iql : V := .int 60
abbrev jqt : V := .int 60
def cq1 : List (Str × PyData) := [(Str.ofString "step",.int 6),(Str.ofString "part",.int 5),(Str.ofString "number",.int 4),(Str.ofString "word",.int 3),(Str.ofString "gap",.int 2),(Str.ofString "rest",.int 1)]
abbrev kqw : V := .str (Str.ofString "ab01")
set_option genInjectivity false
set_option genSizeOf false
set_option genSizeOfSpec false
structure G (w : World) (K : W.Frag) (mg : Str -> Option Value) where
 hqr : Addr
 gqb : FuncData
 fqr : Fun K "made_of" "made_of" eqw hqr gqb
 hqq : mg "made_of" = some (.ref hqr)
 gqV : Binds K gqb ["text","signs"] []
 bqy : Addr
 bql : FuncData
 cqz : Fun K "is_whole_number" "is_whole_number" aqL bqy bql
 eqc : mg "is_whole_number" = some (.ref bqy)
 eqk : Binds K bql ["thing"] []
 bqk : Addr
 aq8 : FuncData
 dqT : Fun K "__init__" "NoValue.__init__" aqH bqk aq8
 cqk : Binds K aq8 ["self","name"] []
 iqr : Addr
 gqM : FuncData
 gqQ : Fun K "is_dot" "is_dot" gqa iqr gqM
 iqw : mg "is_dot" = some (.ref iqr)
 iqv : Binds K gqM ["step"] []
 iqn : Addr
 hqb : FuncData
 dqL : Fun K "is_gap" "is_gap" gqk iqn hqb
 eqy : mg "is_gap" = some (.ref iqn)
 eqK : Binds K hqb ["piece"] []
 hqg : Addr
 fqV : FuncData
 eqf : Fun K "name_of" "name_of" eql hqg fqV
 fqP : mg "name_of" = some (.ref hqg)
 fqt : Binds K fqV ["gap"] []
 hqf : Addr
 fq3 : FuncData
 bqE : Fun K "head_of" "head_of" eqa hqf fq3
 bq6 : mg "head_of" = some (.ref hqf)
 cqq : Binds K fq3 ["piece"] []
 hqo : Addr
 fq4 : FuncData
 bqD : Fun K "tail_of" "tail_of" eqo hqo fq4
 cql : mg "tail_of" = some (.ref hqo)
 bq8 : Binds K fq4 ["piece"] []
 fq5 : Addr
 eq6 : FuncData
 eqt : Fun K "has_rest" "has_rest" dqp fq5 eq6
 fq0 : mg "has_rest" = some (.ref fq5)
 fqZ : Binds K eq6 ["pattern"] []
 cqQ : Addr
 cqn : FuncData
 cqL : Fun K "texts_around" "texts_around" bqb cqQ cqn
 dq3 : mg "texts_around" = some (.ref cqQ)
 dq8 : Binds K cqn ["head","tail"] []
 cqO : Addr
 cqd : FuncData
 aqZ : Fun K "_law_cell_at" "_law_cell_at" bqd cqO cqd
 bqa : mg "_law_cell_at" = some (.ref cqO)
 bqe : Binds K cqd ["_law_script","_law_k"] []
 dqE : Addr
 cq9 : FuncData
 fqU : Fun K "_law_names" "_law_names" bqW dqE cq9
 hq4 : mg "_law_names" = some (.ref dqE)
 hqY : Binds K cq9 ["_law_cell","_law_many"] []
 dqG : Addr
 dqd : FuncData
 fqH : Fun K "_law_signs" "_law_signs" bq4 dqG dqd
 hq8 : mg "_law_signs" = some (.ref dqG)
 hq7 : Binds K dqd ["_law_cell"] []
 fqW : Addr
 eq2 : FuncData
 eqg : Fun K "_law_run" "_law_run" dqt fqW eq2
 fq7 : mg "_law_run" = some (.ref fqW)
 gql : Binds K eq2 ["_law_cell","_law_signs_here","_law_many"] []
 bqG : Addr
 bqu : FuncData
 cqZ : Fun K "_law_fits_step" "_law_fits_step" aqV bqG bqu
 fqo : mg "_law_fits_step" = some (.ref bqG)
 fqn : Binds K bqu ["_law_piece_here","_law_step_here"] []
 gq6 : Addr
 gqc : FuncData
 iqP : Fun K "is_text" "is_text" eqn gq6 gqc
 kq5 : mg "is_text" = some (.ref gq6)
 lqe : Binds K gqc ["thing"] []
 fq1 : Addr
 eqG : FuncData
 hqS : Fun K "names_of" "names_of" dql fq1 eqG
 kqa : mg "names_of" = some (.ref fq1)
 jq6 : Binds K eqG ["pieces"] []
 iqu : Addr
 gqY : FuncData
 eq1 : Fun K "spread" "spread" fq8 iqu gqY
 fq2 : mg "spread" = some (.ref iqu)
 gqg : Binds K gqY ["pattern","count"] []
 eq3 : Addr
 dqW : FuncData
 gqC : Fun K "fits_part" "fits_part" cqF eq3 dqW
 iqE : mg "fits_part" = some (.ref eq3)
 iq3 : Binds K dqW ["part","step"] []
 eqS : Addr
 dqM : FuncData
 gqD : Fun K "is_number" "is_number" cqy eqS dqM
 jqo : mg "is_number" = some (.ref eqS)
 iqI : Binds K dqM ["text"] []
 gqP : Addr
 gqi : FuncData
 hqp : Fun K "is_word" "is_word" eqp gqP gqi
 jqf : mg "is_word" = some (.ref gqP)
 iqR : Binds K gqi ["text"] []
 dqf : Addr
 cqH : FuncData
 eqP : Fun K "bound_value" "bound_value" bqB dqf cqH
 gqK : mg "bound_value" = some (.ref dqf)
 gq0 : Binds K cqH ["gap","steps"] []
 bqI : Addr
 bqA : FuncData
 cq0 : Fun K "steps_of_value" "steps_of_value" aqU bqI bqA
 fqj : mg "steps_of_value" = some (.ref bqI)
 fqd : Binds K bqA ["gap","value"] []
 gqh : Addr
 eqX : FuncData
 dqm : Fun K "worth_of" "worth_of" dqq gqh eqX
 eqe : mg "worth_of" = some (.ref gqh)
 eqm : Binds K eqX ["piece"] []
 cqN : Addr
 cqr : FuncData
 dq2 : Fun K "count_to_try" "count_to_try" bqg cqN cqr
 gqq : mg "count_to_try" = some (.ref cqN)
 gqv : Binds K cqr ["one","other"] []
 dqN : Addr
 dqe : FuncData
 cqV : Fun K "_law_cells" "_law_cells" bq1 dqN dqe
 dqF : mg "_law_cells" = some (.ref dqN)
 dqV : Binds K dqe ["_law_script","_law_start","_law_many"] []
 fqb : Addr
 dq1 : FuncData
 dqu : Fun K "_law_text" "_law_text" cqC fqb dq1
 eqN : mg "_law_text" = some (.ref fqb)
 eqH : Binds K dq1 ["_law_cell","_law_signs_here","_law_many"] []
 eqQ : Addr
 dqK : FuncData
 dqy : Fun K "_law_fits" "_law_fits" cqB eqQ dqK
 eq5 : mg "_law_fits" = some (.ref eqQ)
 eqT : Binds K dqK ["_law_pattern_here","_law_way_here"] []
 bqO : Addr
 bqx : FuncData
 bqJ : Fun K "is_filled_text" "is_filled_text" aqT bqO bqx
 cqY : mg "is_filled_text" = some (.ref bqO)
 cq3 : Binds K bqx ["thing"] []
 eq7 : Addr
 dqJ : FuncData
 bqT : Fun K "step_fits" "step_fits" cqw eq7 dqJ
 cqx : mg "step_fits" = some (.ref eq7)
 cqA : Binds K dqJ ["piece","step"] []
 bq7 : Addr
 bqK : FuncData
 dqv : Fun K "refuse_others" "refuse_others" aq1 bq7 bqK
 fqu : mg "refuse_others" = some (.ref bq7)
 fqx : Binds K bqK ["pattern","values"] []
 dqU : Addr
 dqb : FuncData
 cqW : Fun K "worth_more" "worth_more" bq3 dqU dqb
 dqR : mg "worth_more" = some (.ref dqU)
 dqO : Binds K dqb ["one","other"] []
 dqH : Addr
 cq8 : FuncData
 dqQ : Fun K "_law_piece" "_law_piece" bqX dqH cq8
 fqM : mg "_law_piece" = some (.ref dqH)
 fqE : Binds K cq8 ["_law_cell","_law_name","_law_signs_here"] []
 eqY : Addr
 dqP : FuncData
 gqz : Fun K "_law_step" "_law_step" cqD eqY dqP
 iqU : mg "_law_step" = some (.ref eqY)
 jqi : Binds K dqP ["_law_piece_here","_law_cell","_law_signs_here"] []
 nqp : Addr
 kqs : FuncData
 mq4 : Fun K "fits" "fits" kqi nqp kqs
 oqu : mg "fits" = some (.ref nqp)
 pqh : Binds K kqs ["pattern","way"] []
 cq6 : Addr
 cqP : FuncData
 eqI : Fun K "can_be_step" "can_be_step" bqw cq6 cqP
 gqO : mg "can_be_step" = some (.ref cq6)
 gqR : Binds K cqP ["thing"] []
 dqY : Addr
 dqc : FuncData
 fqG : Fun K "worth_most" "worth_most" bq2 dqY dqc
 iqe : mg "worth_most" = some (.ref dqY)
 hq5 : Binds K dqc ["entries"] []
 cqi : Addr
 bqM : FuncData
 aq4 : Fun K "fitting_texts" "fitting_texts" aq2 cqi bqM
 bqs : mg "fitting_texts" = some (.ref cqi)
 bqq : Binds K bqM ["piece"] []
 cqI : Addr
 cqf : FuncData
 dq7 : Fun K "_law_pattern" "_law_pattern" bqc cqI cqf
 gqu : mg "_law_pattern" = some (.ref cqI)
 gqp : Binds K cqf ["_law_cells_here","_law_names_here","_law_signs_here"] []
 gqf : Addr
 eqz : FuncData
 hqE : Fun K "_law_kin" "_law_kin" dqr gqf eqz
 kqh : mg "_law_kin" = some (.ref gqf)
 jqW : Binds K eqz ["_law_piece_here","_law_cell","_law_name","_law_signs_here"] []
 gqn : Addr
 eq9 : FuncData
 hqX : Fun K "_law_way" "_law_way" dqk gqn eq9
 jq5 : mg "_law_way" = some (.ref gqn)
 jqO : Binds K eq9 ["_law_pattern_here","_law_cells_here","_law_signs_here"] []
 kql : Addr
 iqt : FuncData
 mqS : Fun K "bound" "bound" hqv kql iqt
 pqQ : mg "bound" = some (.ref kql)
 pqe : Binds K iqt ["pattern","way"] []
 fqY : Addr
 eqR : FuncData
 hqM : Fun K "is_value" "is_value" dqo fqY eqR
 jq8 : mg "is_value" = some (.ref fqY)
 jqH : Binds K eqR ["gap","value"] []
 bqF : Addr
 bqt : FuncData
 cq2 : Fun K "texts_for_both" "texts_for_both" aqW bqF bqt
 fqf : mg "texts_for_both" = some (.ref bqF)
 fqq : Binds K bqt ["piece","beside"] []
 cq7 : Addr
 cqK : FuncData
 eqW : Fun K "step_beyond" "step_beyond" bqz cq7 cqK
 gq9 : mg "step_beyond" = some (.ref cq7)
 gqS : Binds K cqK ["piece","beside"] []
 bqj : Addr
 aq6 : FuncData
 cqh : Fun K "_law_kin_pattern" "_law_kin_pattern" aqI bqj aq6
 dqZ : mg "_law_kin_pattern" = some (.ref bqj)
 dq0 : Binds K aq6 ["_law_pattern_here","_law_cells_here","_law_names_here","_law_signs_here"] []
 cqM : Addr
 bq9 : FuncData
 dq4 : Fun K "filled_steps" "filled_steps" bqf cqM bq9
 gqt : mg "filled_steps" = some (.ref cqM)
 gqw : Binds K bq9 ["piece","values"] []
 mq5 : Addr
 kqQ : FuncData
 oqD : Fun K "lead" "lead" jq3 mq5 kqQ
 rqg : mg "lead" = some (.ref mq5)
 rqj : Binds K kqQ ["table","way"] []
 cqe : Addr
 bqH : FuncData
 dqC : Fun K "step_for_both" "step_for_both" aq5 cqe bqH
 fqy : mg "step_for_both" = some (.ref cqe)
 fqS : Binds K bqH ["piece","beside"] []
 iqp : Addr
 hqa : FuncData
 kqx : Fun K "beyond" "beyond" gqm iqp hqa
 nqf : mg "beyond" = some (.ref iqp)
 mq6 : Binds K hqa ["one","other"] []
 iqo : Addr
 gqT : FuncData
 kqk : Fun K "filled" "filled" gqe iqo gqT
 nqa : mg "filled" = some (.ref iqo)
 nqe : Binds K gqT ["pattern","values"] []
 gq7 : Addr
 fq9 : FuncData
 iqC : Fun K "meeting" "meeting" eqs gq7 fq9
 lqn : mg "meeting" = some (.ref gq7)
 lqj : Binds K fq9 ["one","other"] []
 fq6 : Addr
 eqZ : FuncData
 hqQ : Fun K "_law_led" "_law_led" dqj fq6 eqZ
 jqP : mg "_law_led" = some (.ref fq6)
 jq9 : Binds K eqZ ["_law_table","_law_way_here"] []
 dqI : Addr
 dqg : FuncData
 fqK : Fun K "_law_right" "_law_right" bq0 dqI dqg
 iqf : mg "_law_right" = some (.ref dqI)
 iqa : Binds K dqg ["_law_table","_law_pattern_here","_law_way_here"] []
 qqa : Addr
 lqz : FuncData
 tqU : Fun K "law" "law" nqI qqa lqz
 uqh : mg "law" = some (.ref qqa)
 uql : Binds K lqz ["_law_script"] []
 jqg : Tok
 oq2 : mg "SIGNS" = some (.str (Str.ofString " !\"#$&'()*+,-./0123456789:;<=>?@ABCDEFGHIJKLMNOPQRSTUVWXYZ[\\]^_`abcdefghijklmnopqrstuvwxyz{|}~") jqg)
 bqo : Tok
 fqB : mg "SMALL_LETTERS" = some (.str (Str.ofString "abcdefghijklmnopqrstuvwxyz") bqo)
 fqT : Tok
 lqx : mg "FIGURES" = some (.str (Str.ofString "0123456789") fqT)
 hql : Tok
 nqc : mg "ROOTED" = some (.int 0 hql)
 iqA : Tok
 mqK : mg "STEPS" = some (.int 1 iqA)
 lqf : Tok
 qq6 : mg "ENDS" = some (.int 2 lqf)
 lqk : Tok
 qq8 : mg "STAY" = some (.str (Str.ofString ".") lqk)
 t_UP : Tok
 c_UP : mg "UP" = some (.str (Str.ofString "..") t_UP)
 gq1 : Tok
 bqm : mg "PIECES" = some (.int 0 gq1)
 hqk : Tok
 cqJ : mg "CLOSES" = some (.int 1 hqk)
 aq9 : Tok
 fqm : mg "LONGEST_NUMBER" = some (.int 60 aq9)
 bqC : Tok
 gqo : mg "LONGEST_WORD" = some (.int 60 bqC)
 bqN : Addr
 fqp : mg "WORTH_OF_WORDS" = some (.ref bqN)
 fql : ∀ (P : Program) (h : Heap),K.In h -> PyProof.Rows.StrTab P w h bqN (cq1.map fun p => (PyData.str p.1,p.2))
 bq5 : Tok
 hqe : mg "TRIED_SIGNS" = some (.str (Str.ofString "ab01") bq5)
 qqM : mg "all" = none
 bqr : mg "isinstance" = none
 rqi : mg "bool" = none
 pqa : mg "int" = none
 aqQ : mg "len" = none
 dq5 : mg "range" = none
 oqp : mg "str" = none
 lqg : mg "list" = none
 pqk : mg "max" = none
 pqX : mg "zip" = none
 eqC : mg "tuple" = none
 cqG : mg "enumerate" = none
 aqX : Addr
 iqM : mg "NoValue" = some (.ref aqX)
 oqs : ExLook K aqX
 jqh : Mk1 K aqX bqk
 fqC : ExSt K aqX "name"
 iqO : ExFld K aqX "name"
def nqA : Sp := fun vs H Q _ => ∃ x y : Str,vs = [.str x,.str y] ∧ x.length ≤ 100000 ∧ ∀ H',Same H H' -> Q (.bl (x.cps.toList.all fun c => decide (c ∈ y.cps.toList))) H'
def hqd : Sp := fun vs H Q _ => ∃ (d : PyData) (v : V),vs = [v] ∧ Is H d v ∧ Q (.bl (match d with | .int _ => true | _ => false)) H
def bqS (K : W.Frag) (C : Addr) : Sp := fun vs H Q _ => ∃ (a : Addr) (v : V),vs = [.ref a,v] ∧ H a = some (exNew a C) ∧ ∀ d,H d = none -> Q .non (upd (upd H a (exSet a C d)) d (.xd [("name",v)]))
theorem kqd {K : W.Frag} {C : Addr} {H : Hp} {E : XK} {v : V} (hE : ∀ d H',Same H H' -> H' d = some (.xd [("name",v)]) -> E (.ref C) (some d) H') : ∀ a,H a = none -> bqS K C [.ref a,v] (upd H a (exNew a C)) (fun u H2 => u = .non ∧ ∃ d,H2 a = some (exSet a C d) ∧ E (.ref C) (some d) (forget H2 a)) E0 := by
 intro a ha
 refine ⟨a,v,rfl,aqm,fun d hd => ?_⟩
 have hda : d ≠ a := fun z => by rw [z,aqm] at hd; cases hd
 rw [aqt hda] at hd
 refine ⟨rfl,d,by rw [aqt hda.symm,aqm],hE d _ (fun b o e => ?_) ?_⟩
 ·have ba : b ≠ a := aqo e ha
  rw [cqb ba,aqt (aqo e hd),aqt ba,aqt ba]
  exact e
 ·rw [cqb hda,aqm]
def lqV : Sp := fun vs H Q _ => ∃ s : Stp,vs = [sV s] ∧ Q (.bl (isDot s)) H
def oqJ (K : W.Frag) : Sp := fun vs H Q _ => ∃ (c : Pc) (p : Addr),vs = [.ref p] ∧ SqT K H p c.vals ∧ Q (.bl (!c.isStep)) H
def jqL (K : W.Frag) : Sp := fun vs H Q _ => ∃ (c : Pc) (p : Addr),vs = [.ref p] ∧ SqT K H p c.vals ∧ c.isStep = false ∧ Q (tV c.name) H
def jqV (K : W.Frag) : Sp := fun vs H Q _ => ∃ (c : Pc) (p : Addr),vs = [.ref p] ∧ SqT K H p c.vals ∧ Q (tV c.head) H
def kqj (K : W.Frag) : Sp := fun vs H Q _ => ∃ (c : Pc) (p : Addr),vs = [.ref p] ∧ SqT K H p c.vals ∧ Q (tV c.tail) H
def mqI (K : W.Frag) : Sp := fun vs H Q _ => ∃ (cs : List Pc) (xs : List V) (p q : Addr) (e : Bool),vs = [.ref p] ∧ SqT K H p [.ref q,.bl e] ∧ SqT K H q xs ∧ PcAll K H cs xs ∧ cs.length ≤ 1000 ∧ Q (.bl (hasRest cs)) H
def iqB (K : W.Frag) : Sp := fun vs H Q _ => ∃ h t : List Nat,vs = [tV h,tV t] ∧ h.length ≤ 40000 ∧ t.length ≤ 40000 ∧ ∀ (p : Addr) (H' : Hp),Same H H' -> H' p = some (.lst ((trialsM h t).map tV)) -> Q (.ref p) H'
def iqH (K : W.Frag) : Sp := fun vs H Q _ => ∃ (a : Addr) (ns : List Int) (k : Nat),vs = [.ref a,.int (k : Int)] ∧ SqL K H a (ns.map V.int) ∧ Q (.int (ns.getD k 0)) H
def kqC (K : W.Frag) : Sp := fun vs H Q _ => ∃ (c : Int) (m : Nat),vs = [.int c,.int (m : Int)] ∧ m ≤ 26 ∧ ∀ (ns : List (List Nat)) (p : Addr) (H' : Hp),ns.length = m -> (∀ n ∈ ns,0 < n.length ∧ n.length ≤ 8 ∧ n.all isSma = true) -> ns.Nodup -> Same H H' -> H' p = some (.lst (ns.map tV)) -> Q (.ref p) H'
def kqo (K : W.Frag) : Sp := fun vs H Q _ => ∃ c : Int,vs = [.int c] ∧ ∀ (l : List Nat) (H' : Hp),0 < l.length -> l.length ≤ 5 -> (∀ c ∈ l,isSg c = true) -> Same H H' -> Q (tV l) H'
def mqd : Sp := fun vs H Q _ => ∃ (c : Int) (g : List Nat) (m : Nat),vs = [.int c,tV g,.int (m : Int)] ∧ 0 < g.length ∧ g.length ≤ 100 ∧ m ≤ 100 ∧ ∀ l : List Nat,l.length = m -> (∀ x ∈ l,x ∈ g) -> Q (tV l) H
def hqJ (K : W.Frag) : Sp := fun vs H Q _ => ∃ (c : Pc) (p : Addr) (s : List Nat),vs = [.ref p,tV s] ∧ SqT K H p c.vals ∧ PcOk c ∧ 0 < s.length ∧ s.length ≤ 1000 ∧ (∀ c ∈ s,isSg c = true) ∧ ∀ H',Same H H' -> Q (.bl (fitsM c s)) H'
def nqE : Sp := fun vs H Q _ => ∃ (d : PyData) (v : V),vs = [v] ∧ Is H d v ∧ smallD d = true ∧ ∀ H',Same H H' -> Q (.bl (tx d)) H'
def mqD (K : W.Frag) : Sp := fun vs H Q _ => ∃ (cs : List Pc) (xs : List V) (q : Addr),vs = [.ref q] ∧ SqT K H q xs ∧ PcAll K H cs xs ∧ cs.length ≤ 1000 ∧ ∀ (p : Addr) (H' : Hp),Same H H' -> H' p = some (.lst ((gapsM cs).map tV)) -> Q (.ref p) H'
def oqv (K : W.Frag) : Sp := fun vs H Q _ => ∃ (cs : List Pc) (xs : List V) (p q : Addr) (e : Bool) (n : Nat),vs = [.ref p,.int (n : Int)] ∧ SqT K H p [.ref q,.bl e] ∧ H q = some (.tup xs) ∧ PcAll K H cs xs ∧ cs.length ≤ 100 ∧ n ≤ 500 ∧ (spreadM cs n = none -> Q .non H) ∧ ∀ (ds : List Pc) (ys : List V) (r : Addr) (H' : Hp),spreadM cs n = some ds -> Same H H' -> SqT K H' r ys -> PcAll K H' ds ys -> Q (.ref r) H'
def lqh (K : W.Frag) : Sp := fun vs H Q _ => ∃ (h n t s : List Nat) (p : Addr),vs = [.ref p,tV s] ∧ SqT K H p (Pc.part h n t).vals ∧ s.length ≤ 100000 ∧ h.length ≤ 100000 ∧ t.length ≤ 100000 ∧ Q (.bl (partB h t s)) H
def lqa : Sp := fun vs H Q _ => ∃ (l : List Nat),vs = [tV l] ∧ l.length ≤ 100000 ∧ ∀ H',Same H H' -> Q (.bl (numB l)) H'
def nqs : Sp := fun vs H Q _ => ∃ (l : List Nat),vs = [tV l] ∧ l.length ≤ 100000 ∧ ∀ H',Same H H' -> Q (.bl (wordB l)) H'
def jqE (K : W.Frag) : Sp := fun vs H Q _ => ∃ (c : Pc) (s : List Nat) (ss : List (List Nat)) (p q : Addr),vs = [.ref p,.ref q] ∧ SqT K H p c.vals ∧ H q = some (.tup ((s :: ss).map tV)) ∧ fitsM c s = true ∧ s.length ≤ 100000 ∧ c.head.length ≤ 100000 ∧ c.tail.length ≤ 100000 ∧ ss.length ≤ 1000 ∧ ∀ v H',Same H H' -> VlV H' (bvM c (s :: ss)) v -> (∀ q,v = .ref q -> H q = none) -> Q v H'
def hqA (K : W.Frag) : Sp := fun vs H Q _ => ∃ (c : Pc) (p : Addr) (d : PyData) (v : V),vs = [.ref p,v] ∧ SqT K H p c.vals ∧ c.isStep = false ∧ c.head.length ≤ 100000 ∧ c.tail.length ≤ 100000 ∧ Is H d v ∧ smallD d = true ∧ isValD c d = true ∧ ∀ (q : Addr) (H' : Hp),Same H H' -> H' q = some (.lst ((stpsD c d).map tV)) -> Q (.ref q) H'
def mqT (K : W.Frag) : Sp := fun vs H Q _ => ∃ (c : Pc) (p : Addr),vs = [.ref p] ∧ SqT K H p c.vals ∧ PcTx c ∧ ∀ (r : Addr) (H' : Hp),Same H H' -> H' r = some (.tup ((worthM c).map V.int)) -> Q (.ref r) H'
def jqm (K : W.Frag) : Sp := fun vs H Q _ => ∃ (cs ds : List Pc) (xs ys : List V) (p q p' q' : Addr) (e e' : Bool),vs = [.ref p,.ref p'] ∧ SqT K H p [.ref q,.bl e] ∧ SqT K H q xs ∧ PcAll K H cs xs ∧ SqT K H p' [.ref q',.bl e'] ∧ SqT K H q' ys ∧ PcAll K H ds ys ∧ cs.length ≤ 100 ∧ ds.length ≤ 100 ∧ Q (.int (countM cs ds : Int)) H
def kq1 (K : W.Frag) : Sp := fun vs H Q _ => ∃ (a : Addr) (ns : List Int) (s m : Nat),vs = [.ref a,.int (s : Int),.int (m : Int)] ∧ SqL K H a (ns.map V.int) ∧ m ≤ 100 ∧ ∀ (is : List Int) (p : Addr) (H' : Hp),is.length = m -> Same H H' -> H' p = some (.lst (is.map V.int)) -> Q (.ref p) H'
def lqs : Sp := fun vs H Q _ => ∃ (c : Int) (g : List Nat) (m : Nat),vs = [.int c,tV g,.int (m : Int)] ∧ 0 < g.length ∧ g.length ≤ 100 ∧ 0 < m ∧ m ≤ 100 ∧ ∀ l : List Nat,0 < l.length -> l.length ≤ m + 2 -> (46 ∉ g -> l.length = m) -> (∀ x ∈ l,x ∈ g ∨ (46 ∈ g ∧ x = 45)) -> isDot l = false -> Q (tV l) H
def lqv (K : W.Frag) : Sp := fun vs H Q _ => ∃ (cs : List Pc) (xs : List V) (p q pw ps : Addr) (cl r e : Bool) (ss : List (List Nat)),vs = [.ref p,.ref pw] ∧ SqT K H p [.ref q,.bl cl] ∧ H q = some (.tup xs) ∧ PcT H cs xs ∧ cs.length ≤ 90 ∧ (∀ c ∈ cs,PcOk c ∧ PcSg c) ∧ SqT K H pw [.bl r,.ref ps,.bl e] ∧ H ps = some (.tup (ss.map tV)) ∧ ss.length ≤ 200 ∧ (∀ s ∈ ss,0 < s.length ∧ s.length ≤ 1000 ∧ ∀ c ∈ s,isSg c = true) ∧ ∀ H',Same H H' -> Q (.bl (fitsP cs cl r ss e)) H'
def hqV : Sp := fun vs H Q _ => ∃ (d : PyData) (v : V),vs = [v] ∧ Is H d v ∧ smallD d = true ∧ ∀ H',Same H H' -> Q (.bl (ftx d)) H'
def lqF (K : W.Frag) : Sp := fun vs H Q _ => ∃ (c : Pc) (s : List Nat) (p : Addr),vs = [.ref p,tV s] ∧ SqT K H p c.vals ∧ s.length ≤ 100000 ∧ c.head.length ≤ 100000 ∧ c.tail.length ≤ 100000 ∧ ∀ H',Same H H' -> Q (.bl (fitsM c s)) H'
def hqD (K : W.Frag) (CN : Addr) : Sp := fun vs H Q E => ∃ (cs : List Pc) (xs : List V) (p q pz : Addr) (cl : Bool) (ws : List (List Nat × PyData)) (ys : List V),vs = [.ref p,.ref pz] ∧ SqT K H p [.ref q,.bl cl] ∧ SqT K H q xs ∧ PcAll K H cs xs ∧ cs.length ≤ 100 ∧ H pz = some (.lst ys) ∧ VlsV H ws ys ∧ ws.length ≤ 100000 ∧
 (otherM cs ws = none -> ∀ H',Same H H' -> Q .non H') ∧ ∀ n,otherM cs ws = some n -> ∀ d H',Same H H' -> H' d = some (.xd [("name",tV n)]) -> E (.ref CN) (some d) H'
def kqB (K : W.Frag) : Sp := fun vs H Q _ => ∃ (cs ds : List Pc) (xs ys : List V) (p q p' q' : Addr) (e e' : Bool),vs = [.ref p,.ref p'] ∧ SqT K H p [.ref q,.bl e] ∧ SqT K H q xs ∧ PcAll K H cs xs ∧ SqT K H p' [.ref q',.bl e'] ∧ SqT K H q' ys ∧ PcAll K H ds ys ∧ cs.length ≤ 90 ∧ ds.length ≤ 90 ∧ (∀ c ∈ cs,PcTx c) ∧ (∀ c ∈ ds,PcTx c) ∧ ∀ H',Same H H' -> Q (.bl (moreM cs ds)) H'
def kqR (K : W.Frag) : Sp := fun vs H Q _ => ∃ (c : Int) (n g : List Nat),vs = [.int c,tV n,tV g] ∧ 0 < g.length ∧ g.length ≤ 100 ∧ (∀ x ∈ g,isSg x = true) ∧ ∀ (pc : Pc) (p : Addr) (H' : Hp),PcOk pc -> pc.isRest = false -> (pc.isStep = false -> pc.name = n) -> Same H H' -> H' p = some (.tup pc.vals) -> Q (.ref p) H'
def lqK (K : W.Frag) : Sp := fun vs H Q _ => ∃ (c : Pc) (p : Addr) (i : Int) (g : List Nat),vs = [.ref p,.int i,tV g] ∧ H p = some (.tup c.vals) ∧ PcOk c ∧ 0 < g.length ∧ g.length ≤ 100 ∧ (∀ x ∈ g,isSg x = true) ∧ ∀ (l : List Nat) (H' : Hp),Same H H' -> fitsM c l = true -> 0 < l.length -> l.length ≤ 300 -> (∀ x ∈ l,isSg x = true) -> Q (tV l) H'
def rqs (K : W.Frag) : Sp := fun vs H Q _ => ∃ (cs : List Pc) (xs : List V) (p q pw ps : Addr) (cl r e : Bool) (ss : List (List Nat)),vs = [.ref p,.ref pw] ∧ SqT K H p [.ref q,.bl cl] ∧ H q = some (.tup xs) ∧ PcAll K H cs xs ∧ cs.length ≤ 100 ∧ PcSz cs ∧ SqT K H pw [.bl r,.ref ps,.bl e] ∧ SqT K H ps (ss.map tV) ∧ ss.length ≤ 500 ∧ (∀ s ∈ ss,s.length ≤ 100000) ∧ ∀ H',Same H H' -> Q (.bl (fitsP cs cl r ss e)) H'
def jqA (K : W.Frag) : Sp := fun vs H Q _ => ∃ (d : PyData) (v : V),vs = [v] ∧ Is H d v ∧ smallD d = true ∧ ∀ H',Same H H' -> Q (.bl (canD d)) H'
def kqE (K : W.Frag) : Sp := fun vs H Q _ => ∃ (l : Addr) (b : Rw) (L : List Rw) (ws : List V),vs = [.ref l] ∧ H l = some (.lst ws) ∧ TbV H (b :: L) ws ∧ (∀ r ∈ b :: L,PcsOk r.2.1) ∧ L.length ≤ 90 ∧ ∀ (v : V) (H' : Hp),Same H H' -> RwAt H' (mostM mrR b L) v -> Q v H'
def cq4 (K : W.Frag) : Sp := fun vs H Q _ => ∃ (c : Pc) (p : Addr),vs = [.ref p] ∧ SqT K H p c.vals ∧ PcTx c ∧ ∀ (q : Addr) (H' : Hp),Same H H' -> H' q = some (.lst ((fitT c).map tV)) -> Q (.ref q) H'
def jqd (K : W.Frag) : Sp := fun vs H Q _ => ∃ (pc pn : Addr) (g : List Nat) (ns : List (List Nat)) (is : List Int),vs = [.ref pc,.ref pn,tV g] ∧ H pc = some (.lst (is.map V.int)) ∧ 6 ≤ is.length ∧ H pn = some (.lst (ns.map tV)) ∧ 7 ≤ ns.length ∧ ns.length ≤ 100 ∧ ns.Nodup ∧ (∀ n ∈ ns,∀ x ∈ n,isSg x = true) ∧ 0 < g.length ∧ g.length ≤ 100 ∧ (∀ x ∈ g,isSg x = true) ∧ ∀ (ps : List Pc) (e : Bool) (p q : Addr) (xs : List V) (H' : Hp),PatOk ps -> ps.length ≤ 6 -> (gapsM ps).Nodup -> (∀ n ∈ gapsM ps,n ∈ ns) -> (ps = [] -> e = true) -> Same H H' -> H' q = some (.tup xs) -> PcT H' ps xs -> H' p = some (.tup [.ref q,.bl e]) -> Q (.ref p) H'
def mqo (K : W.Frag) : Sp := fun vs H Q _ => ∃ (c : Pc) (p : Addr) (i : Int) (n g : List Nat),vs = [.ref p,.int i,tV n,tV g] ∧ H p = some (.tup c.vals) ∧ PcOk c ∧ c.isRest = false ∧ 0 < g.length ∧ g.length ≤ 100 ∧ (∀ x ∈ g,isSg x = true) ∧ ∀ (c' : Pc) (p' : Addr) (H' : Hp),PcOk c' -> c'.isRest = false -> (c'.isStep = false -> c'.name = n) -> Same H H' -> H' p' = some (.tup c'.vals) -> Q (.ref p') H'
def mqH (K : W.Frag) : Sp := fun vs H Q _ => ∃ (cs : List Pc) (e : Bool) (p pc : Addr) (g : List Nat) (is : List Int),vs = [.ref p,.ref pc,tV g] ∧ PcsOk cs ∧ PtAt H cs e p ∧ H pc = some (.lst (is.map V.int)) ∧ is.length = 8 ∧ 0 < g.length ∧ g.length ≤ 100 ∧ (∀ x ∈ g,isSg x = true) ∧ ∀ (v : V) (H' : Hp),Same H H' -> WyAt H' cs e v -> Q v H'
def pq9 (K : W.Frag) : Sp := fun vs H Q _ => ∃ (cs : List Pc) (xs : List V) (p q pw ps : Addr) (cl r e : Bool) (ss : List (List Nat)),vs = [.ref p,.ref pw] ∧ SqT K H p [.ref q,.bl cl] ∧ H q = some (.tup xs) ∧ PcAll K H cs xs ∧ cs.length ≤ 100 ∧ PcSz cs ∧ SqT K H pw [.bl r,.ref ps,.bl e] ∧ H ps = some (.tup (ss.map tV)) ∧ ss.length ≤ 500 ∧ (∀ s ∈ ss,s.length ≤ 100000) ∧
 (fitsP cs cl r ss e = false -> ∀ H',Same H H' -> Q .non H') ∧ (fitsP cs cl r ss e = true -> ∀ (l : Addr) (ys : List V) (H' : Hp),Same H H' -> H' l = some (.lst ys) -> BndV H' l (boundM cs ss) ys -> Q (.ref l) H')
def mqC (K : W.Frag) : Sp := fun vs H Q _ => ∃ (c : Pc) (p : Addr) (d : PyData) (v : V),vs = [.ref p,v] ∧ SqT K H p c.vals ∧ c.isStep = false ∧ c.head.length ≤ 100000 ∧ c.tail.length ≤ 100000 ∧ Is H d v ∧ smallD d = true ∧ ∀ H',Same H H' -> Q (.bl (isValD c d)) H'
def hqB (K : W.Frag) : Sp := fun vs H Q _ => ∃ (c d : Pc) (p q : Addr),vs = [.ref p,.ref q] ∧ SqT K H p c.vals ∧ SqT K H q d.vals ∧ PcTx c ∧ PcTx d ∧ ∀ (l : Addr) (H' : Hp),Same H H' -> H' l = some (.lst ((bothT c d).map tV)) -> Q (.ref l) H'
def jqs (K : W.Frag) : Sp := fun vs H Q _ => ∃ (c d : Pc) (p q : Addr),vs = [.ref p,.ref q] ∧ SqT K H p c.vals ∧ SqT K H q d.vals ∧ PcTx c ∧ PcTx d ∧ ∀ H',Same H H' -> Q (otV (stepBey c d)) H'
def gqE (K : W.Frag) : Sp := fun vs H Q _ => ∃ (cs : List Pc) (e : Bool) (p pc pn : Addr) (g : List Nat) (ns : List (List Nat)) (is : List Int),vs = [.ref p,.ref pc,.ref pn,tV g] ∧ cs.length ≤ 7 ∧ (∀ c,cs[6]? = some c -> c.isRest = true) ∧ (∀ c ∈ cs,PcOk c ∧ PcSg c) ∧ PtAt H cs e p ∧ H pc = some (.lst (is.map V.int)) ∧ is.length = 7 ∧ H pn = some (.lst (ns.map tV)) ∧ 7 ≤ ns.length ∧ ns.Nodup ∧ (∀ n ∈ ns,∀ x ∈ n,isSg x = true) ∧ 0 < g.length ∧ g.length ≤ 100 ∧ (∀ x ∈ g,isSg x = true) ∧
 ∀ (ds : List Pc) (e' : Bool) (p' : Addr) (H' : Hp),ds.length ≤ 7 -> (∀ c,ds[6]? = some c -> c.isRest = true) -> LastR ds -> (gapsM ds).Nodup -> (∀ c ∈ ds,PcOk c ∧ PcSg c) -> Same H H' -> PtAt H' ds e' p' -> Q (.ref p') H'
def iqh (K : W.Frag) (CN : Addr) : Sp := fun vs H Q E => ∃ (c : Pc) (p pz : Addr) (ws : List (List Nat × PyData)) (ys : List V),vs = [.ref p,.ref pz] ∧ SqT K H p c.vals ∧ c.head.length ≤ 100000 ∧ c.tail.length ≤ 100000 ∧ H pz = some (.lst ys) ∧ VlsV H ws ys ∧ ws.length ≤ 100000 ∧ (∀ w ∈ ws,smallD w.2 = true) ∧
 (∀ ss,fillS c ws = .ok ss -> ∀ (q : Addr) (H' : Hp),Same H H' -> H' q = some (.lst (ss.map tV)) -> Q (.ref q) H') ∧
 ∀ n,fillS c ws = .error n -> ∀ d H',Same H H' -> H' d = some (.xd [("name",tV n)]) -> E (.ref CN) (some d) H'
def fitR (r e : Bool) (ss : List (List Nat)) (t : Rw) : Bool := fitsP t.2.1 t.2.2 r ss e
def squ (K : W.Frag) : Sp := fun vs H Q _ => ∃ (l pw ps : Addr) (T : List Rw) (ws : List V) (r e : Bool) (ss : List (List Nat)),vs = [.ref l,.ref pw] ∧ H l = some (.lst ws) ∧ TbV H T ws ∧ (∀ t ∈ T,PcsOk t.2.1) ∧ T.length ≤ 90 ∧ H pw = some (.tup [.bl r,.ref ps,.bl e]) ∧ H ps = some (.tup (ss.map tV)) ∧ ss.length ≤ 500 ∧ (∀ s ∈ ss,s.length ≤ 100000) ∧
 (T.filter (fitR r e ss) = [] -> ∀ H',Same H H' -> Q .non H') ∧ ∀ (b : Rw) (L : List Rw),T.filter (fitR r e ss) = b :: L -> ∀ (p l' : Addr) (ys : List V) (H' : Hp),Same H H' -> H' p = some (.tup [tV (mostM mrR b L).1,.ref l']) -> H' l' = some (.lst ys) -> BndV H' l' (boundM (mostM mrR b L).2.1 ss) ys -> Q (.ref p) H'
def iqk (K : W.Frag) : Sp := fun vs H Q _ => ∃ (c d : Pc) (p q : Addr),vs = [.ref p,.ref q] ∧ SqT K H p c.vals ∧ SqT K H q d.vals ∧ PcTx c ∧ PcTx d ∧ ∀ H',Same H H' -> Q (otV (stepBoth c d)) H'
def oq8 (K : W.Frag) : Sp := fun vs H Q _ => ∃ (cs ds : List Pc) (xs ys : List V) (p q p' q' : Addr) (e e' : Bool),vs = [.ref p,.ref p'] ∧ SqT K H p [.ref q,.bl e] ∧ H q = some (.tup xs) ∧ PcAll K H cs xs ∧ SqT K H p' [.ref q',.bl e'] ∧ H q' = some (.tup ys) ∧ PcAll K H ds ys ∧ cs.length ≤ 90 ∧ ds.length ≤ 90 ∧ (∀ c ∈ cs,PcOk c) ∧ (∀ c ∈ ds,PcOk c) ∧
 (beyM cs e ds e' = none -> ∀ H',Same H H' -> Q .non H') ∧ ∀ (w : List (List Nat)) (r t : Addr) (H' : Hp),beyM cs e ds e' = some w -> Same H H' -> H' r = some (.tup [.bl true,.ref t,.bl e]) -> H' t = some (.tup (w.map tV)) -> Q (.ref r) H'
def nqU (K : W.Frag) (CN : Addr) : Sp := fun vs H Q E => ∃ (cs : List Pc) (xs : List V) (p q pz : Addr) (cl : Bool) (ws : List (List Nat × PyData)) (ys : List V),vs = [.ref p,.ref pz] ∧ SqT K H p [.ref q,.bl cl] ∧ SqT K H q xs ∧ PcAll K H cs xs ∧ cs.length ≤ 100 ∧ PcSz cs ∧ H pz = some (.lst ys) ∧ VlsV H ws ys ∧ ws.length ≤ 100000 ∧ (∀ w ∈ ws,smallD w.2 = true) ∧
 (∀ ss,fillM cs ws = .ok ss -> ∀ (pw qw : Addr) (H' : Hp),Same H H' -> H' qw = some (.tup (ss.map tV)) -> H' pw = some (.tup [.bl true,.ref qw,.bl cl]) -> Q (.ref pw) H') ∧ ∀ n,fillM cs ws = .error n -> ∀ d H',Same H H' -> H' d = some (.xd [("name",tV n)]) -> E (.ref CN) (some d) H'
def SprV (K : W.Frag) (H : Hp) (o : Option (List Pc)) (v : V) : Prop := (o = none ∧ v = .non) ∨ ∃ (ms : List Pc) (zs : List V) (r : Addr),o = some ms ∧ v = .ref r ∧ SqT K H r zs ∧ PcAll K H ms zs
def nqR (K : W.Frag) : Sp := fun vs H Q _ => ∃ (cs ds : List Pc) (xs ys : List V) (p q p' q' : Addr) (e e' : Bool),vs = [.ref p,.ref p'] ∧ SqT K H p [.ref q,.bl e] ∧ H q = some (.tup xs) ∧ PcAll K H cs xs ∧ SqT K H p' [.ref q',.bl e'] ∧ H q' = some (.tup ys) ∧ PcAll K H ds ys ∧ cs.length ≤ 90 ∧ ds.length ≤ 90 ∧ (∀ c ∈ cs,PcOk c) ∧ (∀ c ∈ ds,PcOk c) ∧
 (meetM cs e ds e' = none -> ∀ H',Same H H' -> Q .non H') ∧ ∀ (w : List (List Nat)) (r t : Addr) (H' : Hp),meetM cs e ds e' = some w -> Same H H' -> H' r = some (.tup [.bl true,.ref t,.bl e]) -> H' t = some (.tup (w.map tV)) -> Q (.ref r) H'
def mqA (K : W.Frag) : Sp := fun vs H Q _ => ∃ (l pw ps : Addr) (T : List Rw) (ws : List V) (e : Bool) (ss : List (List Nat)),vs = [.ref l,.ref pw] ∧ H l = some (.lst ws) ∧ TbOk H T ws ∧ H pw = some (.tup [.bl true,.ref ps,.bl e]) ∧ H ps = some (.tup (ss.map tV)) ∧ StepsOk ss ∧ (∃ t ∈ T,fitR true e ss t = true) ∧ ∀ (t : Rw) (p : Addr) (H' : Hp),t ∈ T -> fitR true e ss t = true -> Same H H' -> PtAt H' t.2.1 t.2.2 p -> Q (.ref p) H'
def kqt (K : W.Frag) : Sp := fun vs H Q _ => ∃ (l p pw ps : Addr) (T : List Rw) (ws : List V) (t : Rw) (e : Bool) (ss : List (List Nat)),vs = [.ref l,.ref p,.ref pw] ∧ H l = some (.lst ws) ∧ TbOk H T ws ∧ t ∈ T ∧ PtAt H t.2.1 t.2.2 p ∧ H pw = some (.tup [.bl true,.ref ps,.bl e]) ∧ H ps = some (.tup (ss.map tV)) ∧ StepsOk ss ∧ fitR true e ss t = true ∧ ∀ H',Same H H' -> Q (.bl true) H'
def nql (K : W.Frag) : Sp := fun vs H Q _ => ∃ (a : Addr) (ns : List Int),vs = [.ref a] ∧ SqL K H a (ns.map V.int) ∧ ns.length ≤ 63 ∧ ∀ H',Q (.bl true) H'
section
variable {H : Hp} {Q : VK} {E : XK} {K : W.Frag}
end
section
variable {P : Program} {w : World} {K : W.Frag} {mg : Str -> Option Value} {base : Heap}
seal PE PA PT PS PSs PG PI PF PO PW
local macro_rules | `(tactic| walk_at "rd") => `(tactic| simp only [L2.start,List.map_cons,List.map_nil,List.length_cons,List.length_nil,Nat.reduceAdd,Nat.reduceSub,Nat.zero_add,List.replicate_succ,List.replicate_zero,L2.tqk,L2.rd_C,L2.tqA,L2.tqK,L2.qqX,L2.tqI,L2.sqC,L2.uqb,L2.rq1,L2.sqV,L2.sq3,L2.rqy,L2.uqv,L2.rqB,L2.rd_B,L2.tqn,L2.uqw,L2.sqZ,L2.rqH,L2.tqT,L2.sqa,L2.uqx,L2.qq2,L2.tq5,L2.rqw,L2.tq4,L2.sq7,L2.rqO,L2.sqF,L2.pqS,L2.gqG,L2.rqY,L2.sqA,L2.rqD,L2.qqI,L2.sqB,L2.uqj,L2.uqr,L2.tq3,L2.uqm,L2.pqB,L2.sqc,L2.qqU,L2.rd_I,L2.qqt,L2.rqX,L2.aqv,L2.sqm,L2.oqH,L2.mqn,L2.kqA,L2.sqt,L2.rq8,L2.pqT,L2.sqj,L2.rq3,L2.pq5,L2.tqV,L2.nqj,L2.tqy,L2.pqb,L2.tq7,L2.rq0,L2.qqO,L2.sqf,L2.qqp,L2.qqd,L2.pqp,L2.qqm,L2.qq3,L2.pqI,L2.nqW,L2.hqN,L2.iqm,L2.iqg,L2.hqC,L2.gqZ,L2.kqm,L2.kq6,L2.lqt,L2.kqy,L2.jqx,L2.lqI,L2.mqs,L2.mqu,L2.lqo,L2.kqI,L2.lqJ,L2.mqx,L2.lq8,L2.kq3,L2.kqD,L2.kqT,L2.lqY,L2.kq4,L2.kqX,L2.jqD,L2.jqu,L2.kqK,L2.kqW,L2.jqy,L2.sub_tuple_tuple,L2.rqE,L2.sqG,L2.pq4,L2.sqs,L2.rqI,L2.cx_K,L2.rqb,L2.pqM,L2.tqF,L2.tqx,L2.tq1,L2.lqC,L2.tqY,L2.tqD,L2.tq9,L2.pqm,L2.uqg,L2.uqn,L2.uqi,L2.qqT,L2.pqZ,L2.rqJ,L2.qqB,Option.getD_some,L2.tq8,L2.uqp,L2.rd_U,L2.sqW,L2.sqe,L2.qqC,L2.rqL,L2.lq9,L2.sqz,L2.tqP,L2.tqC,L2.rqN,L2.rql,L2.sqQ,L2.rq9,List.getElem?_cons_zero,List.getElem?_cons_succ,List.set_cons_zero,List.set_cons_succ,List.nil_append,List.cons_append,List.append_nil,Option.some.injEq,exists_eq_left,exists_eq_left',true_and,and_true,L2.V.bl.injEq,L2.V.int.injEq,L2.V.str.injEq,L2.V.ref.injEq,List.cons.injEq,reduceCtorEq,false_and,and_false,exists_false,false_or,or_false,decide_eq_true_eq,Bool.not_true,Bool.not_false,↓reduceIte,if_true,if_false,not_true_eq_false,not_false_eq_true,decide_true,decide_false,Bool.false_eq_true,L2.qq4,L2.rqV,L2.qql,L2.pq7,L2.sqS,tqO,L2.tqd,L2.qqH,L2.uqk,L2.sqg,L2.qqD,L2.qqh,L2.qqv,L2.uqq,L2.oqW,L2.rqF,L2.sq8,L2.mq7,L2.tqh,L2.sqT,L2.sqL,L2.tq2,L2.tqN,L2.tqb,L2.sqM,L2.sql,L2.rqo,L2.sqr,L2.rqM,L2.oqw,L2.pqi,L2.qqY,L2.nq8,L2.pq6,L2.nqN,L2.nqG,L2.mq7,L2.oq1,L2.sqI,L2.nqB,L2.sq1,L2.sqo,L2.rqP,L2.mqM,L2.mqr,L2.tqq,L2.qq7,L2.pqg,L2.tq6,tqB,qqq,fqh,bqn,rqU,rq4,rqx,List.drop_succ_cons,List.drop_zero,L2.qqe,L2.tqS,L2.tqW,L2.tq0,Bool.not_eq_true',decide_eq_false_iff_not])
theorem nqx : FnScope ["text","signs"] ["text","signs"] (defScope eqw) := ⟨rfl,rfl,rfl,by decide +kernel,rfl,by decide +kernel,by decide +kernel⟩
theorem gqU : FnScope ["thing"] ["thing"] (defScope aqL) := ⟨rfl,rfl,rfl,by decide +kernel,rfl,by decide +kernel,by decide +kernel⟩
theorem gqI : FnScope ["self","name"] ["self","name"] (defScope aqH) := ⟨rfl,rfl,rfl,by decide +kernel,rfl,by decide +kernel,by decide +kernel⟩
theorem oqj : FnScope ["step"] ["step"] (defScope gqa) := ⟨rfl,rfl,rfl,by decide +kernel,rfl,by decide +kernel,by decide +kernel⟩
theorem oq5 : FnScope ["piece"] ["piece"] (defScope gqk) := ⟨rfl,rfl,rfl,by decide +kernel,rfl,by decide +kernel,by decide +kernel⟩
theorem nqY : FnScope ["gap"] ["gap"] (defScope eql) := ⟨rfl,rfl,rfl,by decide +kernel,rfl,by decide +kernel,by decide +kernel⟩
theorem nqK : FnScope ["piece"] ["piece"] (defScope eqa) := ⟨rfl,rfl,rfl,by decide +kernel,rfl,by decide +kernel,by decide +kernel⟩
theorem nq7 : FnScope ["piece"] ["piece"] (defScope eqo) := ⟨rfl,rfl,rfl,by decide +kernel,rfl,by decide +kernel,by decide +kernel⟩
theorem iqQ : FnScope ["pattern","pieces"] ["pattern"] (defScope dqp) := ⟨rfl,rfl,rfl,by decide +kernel,rfl,by decide +kernel,by decide +kernel⟩
theorem iqS : FnScope ["head","tail"] ["head","tail"] (defScope bqb) := ⟨rfl,rfl,rfl,by decide +kernel,rfl,by decide +kernel,by decide +kernel⟩
theorem jqb : FnScope ["_law_script","_law_k"] ["_law_script","_law_k"] (defScope bqd) := ⟨rfl,rfl,rfl,by decide +kernel,rfl,by decide +kernel,by decide +kernel⟩
theorem aqF : FnScope ["_law_cell","_law_many","_law_letters","_law_size","_law_spot","_law_found","_law_number","_law_name","_law_k","_law_place"] ["_law_cell","_law_many"] (defScope bqW) := ⟨rfl,rfl,rfl,by decide +kernel,rfl,by decide +kernel,by decide +kernel⟩
theorem cqm : FnScope ["_law_cell","_law_some","_law_found","_law_k"] ["_law_cell"] (defScope bq4) := ⟨rfl,rfl,rfl,by decide +kernel,rfl,by decide +kernel,by decide +kernel⟩
theorem eqB : FnScope ["_law_cell","_law_signs_here","_law_many","_law_found","_law_k"] ["_law_cell","_law_signs_here","_law_many"] (defScope dqt) := ⟨rfl,rfl,rfl,by decide +kernel,rfl,by decide +kernel,by decide +kernel⟩
theorem hqK : FnScope ["_law_piece_here","_law_step_here"] ["_law_piece_here","_law_step_here"] (defScope aqV) := ⟨rfl,rfl,rfl,by decide +kernel,rfl,by decide +kernel,by decide +kernel⟩
theorem nqL : FnScope ["thing"] ["thing"] (defScope eqn) := ⟨rfl,rfl,rfl,by decide +kernel,rfl,by decide +kernel,by decide +kernel⟩
theorem mqt : FnScope ["pieces"] ["pieces"] (defScope dql) := ⟨rfl,rfl,rfl,by decide +kernel,rfl,by decide +kernel,by decide +kernel⟩
theorem iqY : FnScope ["pattern","count","pieces","more"] ["pattern","count"] (defScope fq8) := ⟨rfl,rfl,rfl,by decide +kernel,rfl,by decide +kernel,by decide +kernel⟩
theorem fqO : FnScope ["part","step","head","tail"] ["part","step"] (defScope cqF) := ⟨rfl,rfl,rfl,by decide +kernel,rfl,by decide +kernel,by decide +kernel⟩
theorem lqN : FnScope ["text"] ["text"] (defScope cqy) := ⟨rfl,rfl,rfl,by decide +kernel,rfl,by decide +kernel,by decide +kernel⟩
theorem nq4 : FnScope ["text"] ["text"] (defScope eqp) := ⟨rfl,rfl,rfl,by decide +kernel,rfl,by decide +kernel,by decide +kernel⟩
theorem jqC : FnScope ["gap","steps"] ["gap","steps"] (defScope bqB) := ⟨rfl,rfl,rfl,by decide +kernel,rfl,by decide +kernel,by decide +kernel⟩
theorem hqF : FnScope ["gap","value"] ["gap","value"] (defScope aqU) := ⟨rfl,rfl,rfl,by decide +kernel,rfl,by decide +kernel,by decide +kernel⟩
theorem jqc : FnScope ["piece","head"] ["piece"] (defScope dqq) := ⟨rfl,rfl,rfl,by decide +kernel,rfl,by decide +kernel,by decide +kernel⟩
theorem fqI : FnScope ["one","other","count"] ["one","other"] (defScope bqg) := ⟨rfl,rfl,rfl,by decide +kernel,rfl,by decide +kernel,by decide +kernel⟩
theorem kqG : FnScope ["_law_script","_law_start","_law_many"] ["_law_script","_law_start","_law_many"] (defScope bq1) := ⟨rfl,rfl,rfl,by decide +kernel,rfl,by decide +kernel,by decide +kernel⟩
theorem iqd : FnScope ["_law_cell","_law_signs_here","_law_many","_law_found"] ["_law_cell","_law_signs_here","_law_many"] (defScope cqC) := ⟨rfl,rfl,rfl,by decide +kernel,rfl,by decide +kernel,by decide +kernel⟩
theorem cqT : FnScope ["_law_pattern_here","_law_way_here","_law_pieces","_law_rooted","_law_steps","_law_ends"] ["_law_pattern_here","_law_way_here"] (defScope cqB) := ⟨rfl,rfl,rfl,by decide +kernel,rfl,by decide +kernel,by decide +kernel⟩
theorem hqP : FnScope ["thing"] ["thing"] (defScope aqT) := ⟨rfl,rfl,rfl,by decide +kernel,rfl,by decide +kernel,by decide +kernel⟩
theorem kq8 : FnScope ["piece","step"] ["piece","step"] (defScope cqw) := ⟨rfl,rfl,rfl,by decide +kernel,rfl,by decide +kernel,by decide +kernel⟩
theorem bqL : FnScope ["pattern","values","names","name","value"] ["pattern","values"] (defScope aq1) := ⟨rfl,rfl,rfl,by decide +kernel,rfl,by decide +kernel,by decide +kernel⟩
theorem eq8 : FnScope ["one","other","mine","theirs"] ["one","other"] (defScope bq3) := ⟨rfl,rfl,rfl,by decide +kernel,rfl,by decide +kernel,by decide +kernel⟩
theorem dqh : FnScope ["_law_cell","_law_name","_law_signs_here","_law_kind","_law_more","_law_head"] ["_law_cell","_law_name","_law_signs_here"] (defScope bqX) := ⟨rfl,rfl,rfl,by decide +kernel,rfl,by decide +kernel,by decide +kernel⟩
theorem fqw : FnScope ["_law_piece_here","_law_cell","_law_signs_here","_law_more","_law_text_here"] ["_law_piece_here","_law_cell","_law_signs_here"] (defScope cqD) := ⟨rfl,rfl,rfl,by decide +kernel,rfl,by decide +kernel,by decide +kernel⟩
theorem mqk : FnScope ["pattern","way","steps","pieces"] ["pattern","way"] (defScope kqi) := ⟨rfl,rfl,rfl,by decide +kernel,rfl,by decide +kernel,by decide +kernel⟩
theorem jqw : FnScope ["thing"] ["thing"] (defScope bqw) := ⟨rfl,rfl,rfl,by decide +kernel,rfl,by decide +kernel,by decide +kernel⟩
theorem dqa : FnScope ["entries","best","entry"] ["entries"] (defScope bq2) := ⟨rfl,rfl,rfl,by decide +kernel,rfl,by decide +kernel,by decide +kernel⟩
theorem fqk : FnScope ["piece","texts"] ["piece"] (defScope aq2) := ⟨rfl,rfl,rfl,by decide +kernel,rfl,by decide +kernel,by decide +kernel⟩
theorem cqc : FnScope ["_law_cells_here","_law_names_here","_law_signs_here","_law_head","_law_pieces","_law_k"] ["_law_cells_here","_law_names_here","_law_signs_here"] (defScope bqc) := ⟨rfl,rfl,rfl,by decide +kernel,rfl,by decide +kernel,by decide +kernel⟩
theorem eq0 : FnScope ["_law_piece_here","_law_cell","_law_name","_law_signs_here","_law_way_here","_law_more","_law_at"] ["_law_piece_here","_law_cell","_law_name","_law_signs_here"] (defScope dqr) := ⟨rfl,rfl,rfl,by decide +kernel,rfl,by decide +kernel,by decide +kernel⟩
theorem eqA : FnScope ["_law_pattern_here","_law_cells_here","_law_signs_here","_law_pieces","_law_steps"] ["_law_pattern_here","_law_cells_here","_law_signs_here"] (defScope dqk) := ⟨rfl,rfl,rfl,by decide +kernel,rfl,by decide +kernel,by decide +kernel⟩
theorem iqs : FnScope ["pattern","way","values","place","piece"] ["pattern","way"] (defScope hqv) := ⟨rfl,rfl,rfl,by decide +kernel,rfl,by decide +kernel,by decide +kernel⟩
theorem mqB : FnScope ["gap","value"] ["gap","value"] (defScope dqo) := ⟨rfl,rfl,rfl,by decide +kernel,rfl,by decide +kernel,by decide +kernel⟩
theorem eqi : FnScope ["piece","beside","head"] ["piece","beside"] (defScope aqW) := ⟨rfl,rfl,rfl,by decide +kernel,rfl,by decide +kernel,by decide +kernel⟩
theorem gqr : FnScope ["piece","beside","text"] ["piece","beside"] (defScope bqz) := ⟨rfl,rfl,rfl,by decide +kernel,rfl,by decide +kernel,by decide +kernel⟩
theorem aqO : FnScope ["_law_pattern_here","_law_cells_here","_law_names_here","_law_signs_here","_law_head","_law_some","_law_pieces"] ["_law_pattern_here","_law_cells_here","_law_names_here","_law_signs_here"] (defScope aqI) := ⟨rfl,rfl,rfl,by decide +kernel,rfl,by decide +kernel,by decide +kernel⟩
theorem fqs : FnScope ["piece","values","named"] ["piece","values"] (defScope bqf) := ⟨rfl,rfl,rfl,by decide +kernel,rfl,by decide +kernel,by decide +kernel⟩
theorem mqF : FnScope ["table","way","entries","best"] ["table","way"] (defScope jq3) := ⟨rfl,rfl,rfl,by decide +kernel,rfl,by decide +kernel,by decide +kernel⟩
theorem fqi : FnScope ["piece","beside","text"] ["piece","beside"] (defScope aq5) := ⟨rfl,rfl,rfl,by decide +kernel,rfl,by decide +kernel,by decide +kernel⟩
theorem cqR : FnScope ["one","other","count","mine","theirs","steps","place","piece","step"] ["one","other"] (defScope gqm) := ⟨rfl,rfl,rfl,by decide +kernel,rfl,by decide +kernel,by decide +kernel⟩
theorem iqZ : FnScope ["pattern","values","steps","piece"] ["pattern","values"] (defScope gqe) := ⟨rfl,rfl,rfl,by decide +kernel,rfl,by decide +kernel,by decide +kernel⟩
theorem eqq : FnScope ["one","other","count","mine","theirs","steps"] ["one","other"] (defScope eqs) := ⟨rfl,rfl,rfl,by decide +kernel,rfl,by decide +kernel,by decide +kernel⟩
theorem bqU : FnScope ["_law_table","_law_way_here","_law_found","_law_some","_law_ahead","_law_name","_law_pattern_here"] ["_law_table","_law_way_here"] (defScope dqj) := ⟨rfl,rfl,rfl,by decide +kernel,rfl,by decide +kernel,by decide +kernel⟩
theorem cq5 : FnScope ["_law_table","_law_pattern_here","_law_way_here","_law_led_here","_law_name","_law_other"] ["_law_table","_law_pattern_here","_law_way_here"] (defScope bq0) := ⟨rfl,rfl,rfl,by decide +kernel,rfl,by decide +kernel,by decide +kernel⟩
theorem eqx : FnScope ["_law_script","_law_names_here","_law_signs_here","_law_pattern_here","_law_table","_law_k","_law_turn","_law_one","_law_more","_law_way_here"] ["_law_script"] (defScope nqI) := ⟨rfl,rfl,rfl,by decide +kernel,rfl,by decide +kernel,by decide +kernel⟩
theorem hqz (g : G w K mg) : FnOk P w K mg base CX0 1 g.hqr g.gqb ["text","signs"] nqA := by
 refine g.fqr.ok nqx (fun vs H Q E h => ?_) (fun cdv A outer s H vs Q E hr h => ?_)
 ·obtain ⟨x,y,rfl,_⟩ := h; rfl
 ·obtain ⟨x,y,rfl,hx,k⟩ := h
  refine ⟨_,(aqg (aqk (aqq (jql (K := K) rfl rfl) rfl g.qqM PyProof.Rows.boot_all (aqa (fqa (fx := ["signs"]) (fr := [1]) rfl rfl (by decide +kernel) rfl (by decide +kernel) rfl (by decide +kernel) rfl (.cons rfl rfl rfl rfl .nil) rfl (nqk (pv 0)) (fun _ _ _ => hqt) (fun _ _ _ => (aqE tqu (pv 0) (pv 1) (by with_unfolding_all rfl)))) aqb)))),?_⟩
  walk_at "rd"
  intro p hp
  refine nqm (z := x) (aqn hx) hp (fun c => .bl (decide (c ∈ y.cps.toList))) (fun c hc H' R hR => ?_) (fun H' sm hp' => ?_)
  ·walk_at "rd"
   exact hR H' (Same.refl _)
  ·refine lq9.mpr ⟨x.cps.toList.map fun c => decide (c ∈ y.cps.toList),SqL.of (by rw [hp',List.map_map]; rfl),?_⟩
   rw [List.all_map]
   exact k H' sm
theorem gqL (g : G w K mg) : FnOk P w K mg base CX0 1 g.bqy g.bql ["thing"] hqd := by
 refine g.cqz.ok gqU (fun vs H Q E h => ?_) (fun cdv A outer s H vs Q E hr h => ?_)
 ·obtain ⟨d,v,rfl,_⟩ := h; rfl
 ·obtain ⟨d,v,rfl,hv,k⟩ := h
  refine ⟨_,(aqg (aqk (dqA (aqq equ rfl g.bqr aq3 (aqa (pv 0) (aqa (hqH (v := .ty "int") rfl g.pqa mqU rfl) aqb))) (cqu (pqN (aqq equ rfl g.bqr aq3 (aqa (pv 0) (aqa (hqH (v := .ty "bool") rfl g.rqi rq5 rfl) aqb)))))))),?_⟩
  cases hv with
  | lst hp r => walk_at "rd"; simp only [iqq hp]; walk_at "rd"; exact k
  | tup hp r => walk_at "rd"; simp only [iqy hp]; walk_at "rd"; exact k
  | _ => walk_at "rd"; exact k
theorem dqx (g : G w K mg) : FnOk P w K mg base CX0 1 g.bqk g.aq8 ["self","name"] (bqS K g.aqX) := by
 refine g.dqT.ok gqI (fun vs H Q E h => ?_) (fun cdv A outer s H vs Q E hr h => ?_)
 ·obtain ⟨a,v,rfl,_⟩ := h; rfl
 ·obtain ⟨a,v,rfl,ha,k⟩ := h
  refine ⟨_,(aqg (rqG (pv 0) (pv 1) rfl)),?_⟩
  walk_at "rd"
  exact ⟨a,_,rfl,ha,g.fqC,fun d hd => k d hd⟩
theorem iq1 (g : G w K mg) : FnOk P w K mg base CX0 1 g.iqr g.gqM ["step"] lqV := by
 refine g.gqQ.ok oqj (fun vs H Q E h => ?_) (fun cdv A outer s H vs Q E hr h => ?_)
 ·obtain ⟨s,rfl,_⟩ := h; rfl
 ·obtain ⟨s,rfl,k⟩ := h
  refine ⟨_,(aqg (aqk (oqz (aqE aqG (pv 0) (aqA (v := tqt) rfl g.qq8 ⟨_,rfl⟩) (nomark _)) (cqu (aqE aqG (pv 0) (aqA (v := k_UP) rfl g.c_UP ⟨_,rfl⟩) (nomark _)))))),?_⟩
  have d1 : Str.ofString ".." = ⟨sUp.toArray⟩ := by decide +kernel
  have d2 : Str.ofString "." = ⟨sStay.toArray⟩ := by decide +kernel
  walk_at "rd"
  rw [d1,d2]
  simp only [cqt]
  by_cases h2 : s = sStay
  ·rw [if_pos h2]
   rw [show isDot s = true by simp [isDot,h2]] at k
   exact k
  ·rw [if_neg h2]
   rw [show isDot s = decide (s = sUp) by simp [isDot,h2]] at k
   exact k
theorem eqb (g : G w K mg) : FnOk P w K mg base CX0 1 g.iqn g.hqb ["piece"] (oqJ K) := by
 refine g.dqL.ok oq5 (fun vs H Q E h => ?_) (fun cdv A outer s H vs Q E hr h => ?_)
 ·obtain ⟨c,p,rfl,_⟩ := h; rfl
 ·obtain ⟨c,p,rfl,hp,k⟩ := h
  refine ⟨_,(aqg (aqk (aqE hqU (aqp (aqh (K := K) rfl) (pv 0) aqd (fun _ _ => rfl)) aqx (nomark _)))),?_⟩
  walk_at "rd"
  refine ⟨_,_,.inr hp,c.at0,?_⟩
  refine L2.mqn.mpr ?_
  rw [hqR]
  exact k
theorem gqj (g : G w K mg) : FnOk P w K mg base CX0 1 g.hqg g.fqV ["gap"] (jqL K) := by
 refine g.eqf.ok nqY (fun vs H Q E h => ?_) (fun cdv A outer s H vs Q E hr h => ?_)
 ·obtain ⟨c,p,rfl,_⟩ := h; rfl
 ·obtain ⟨c,p,rfl,hp,hc,k⟩ := h
  refine ⟨_,(aqg (aqk (eqF (aql aqG (aqp (aqh (K := K) rfl) (pv 0) aqd (fun _ _ => rfl)) aqx (nomark _)) (aqp (aqh (K := K) rfl) (pv 0) aqd (fun _ _ => rfl)) (aqp (aqh (K := K) rfl) (pv 0) aqd (fun _ _ => rfl))))),?_⟩
  walk_at "rd"
  refine ⟨_,_,.inr hp,c.at0,?_⟩
  refine L2.aqv.mpr ⟨_,rfl,?_⟩
  rw [cqj]
  cases c with
  | step s => cases hc
  | part h n t => exact ite2 (fun _ => ⟨_,_,.inr hp,aqj (j := 2) rfl,k⟩) (fun z => absurd rfl z)
  | num n => exact ite2 (fun z => by cases z) (fun _ => ⟨_,_,.inr hp,aqj (j := 1) rfl,k⟩)
  | word n => exact ite2 (fun z => by cases z) (fun _ => ⟨_,_,.inr hp,aqj (j := 1) rfl,k⟩)
  | gap n => exact ite2 (fun z => by cases z) (fun _ => ⟨_,_,.inr hp,aqj (j := 1) rfl,k⟩)
  | rest n => exact ite2 (fun z => by cases z) (fun _ => ⟨_,_,.inr hp,aqj (j := 1) rfl,k⟩)
theorem bqV (g : G w K mg) : FnOk P w K mg base CX0 1 g.hqf g.fq3 ["piece"] (jqV K) := by
 refine g.bqE.ok nqK (fun vs H Q E h => ?_) (fun cdv A outer s H vs Q E hr h => ?_)
 ·obtain ⟨c,p,rfl,_⟩ := h; rfl
 ·obtain ⟨c,p,rfl,hp,k⟩ := h
  refine ⟨_,(aqg (aqk (eqF (aql aqG (aqp (aqh (K := K) rfl) (pv 0) aqd (fun _ _ => rfl)) aqx (nomark _)) (aqp (aqh (K := K) rfl) (pv 0) aqd (fun _ _ => rfl)) aqx))),?_⟩
  walk_at "rd"
  refine ⟨_,_,.inr hp,c.at0,?_⟩
  refine L2.aqv.mpr ⟨_,rfl,?_⟩
  rw [cqj]
  cases c with
  | part h n t => exact ite2 (fun _ => ⟨_,_,.inr hp,aqj (j := 1) rfl,k⟩) (fun z => absurd rfl z)
  | _ => exact ite2 (fun z => by cases z) (fun _ => k)
theorem bqZ (g : G w K mg) : FnOk P w K mg base CX0 1 g.hqo g.fq4 ["piece"] (kqj K) := by
 refine g.bqD.ok nq7 (fun vs H Q E h => ?_) (fun cdv A outer s H vs Q E hr h => ?_)
 ·obtain ⟨c,p,rfl,_⟩ := h; rfl
 ·obtain ⟨c,p,rfl,hp,k⟩ := h
  refine ⟨_,(aqg (aqk (eqF (aql aqG (aqp (aqh (K := K) rfl) (pv 0) aqd (fun _ _ => rfl)) aqx (nomark _)) (aqp (aqh (K := K) rfl) (pv 0) aqd (fun _ _ => rfl)) aqx))),?_⟩
  walk_at "rd"
  refine ⟨_,_,.inr hp,c.at0,?_⟩
  refine L2.aqv.mpr ⟨_,rfl,?_⟩
  rw [cqj]
  cases c with
  | part h n t => exact ite2 (fun _ => ⟨_,_,.inr hp,aqj (j := 3) rfl,k⟩) (fun z => absurd rfl z)
  | _ => exact ite2 (fun z => by cases z) (fun _ => k)
theorem gqF (g : G w K mg) : FnOk P w K mg base CX0 1 g.fq5 g.eq6 ["pattern"] (mqI K) := by
 refine g.eqt.ok iqQ (fun vs H Q E h => ?_) (fun cdv A outer s H vs Q E hr h => ?_)
 ·obtain ⟨cs,xs,p,q,e,rfl,_⟩ := h; rfl
 ·obtain ⟨cs,xs,p,q,e,rfl,hp,hq,hx,hn,k⟩ := h
  refine ⟨_,(aqf (aqw (i := 1) iqQ.nd rfl (Or.inl rfl) (aqp (aqh (K := K) rfl) (pv 0) (aqA (v := bqv) rfl g.bqm ⟨_,rfl⟩) (fun _ _ => rfl)))
   (aqg (aqk (dqA (aqE lql (aqq (aqr (K := K) rfl) rfl g.aqQ PySem.boot_len (aqa (pv 1) aqb)) aqd (nomark _)) (cqu (aqE aqG (aqp (aqh (K := K) rfl) (aqp (aqh (K := K) rfl) (pv 1) (nqX jq1 aqd) (fun _ _ => rfl)) aqd (fun _ _ => rfl)) aqx (nomark _))))))),?_⟩
  walk_at "rd"
  refine ⟨_,_,.inr hp,aqj (j := 0) rfl,?_⟩
  walk_at "rd"
  refine ⟨xs,.inr hq,?_⟩
  have hl := hx.length
  by_cases h0 : cs = []
  ·subst h0
   refine ite2 (fun z => ?_) (fun _ => k)
   rw [hl] at z
   simp at z
  obtain ⟨c,hc⟩ : ∃ c,cs.getLast? = some c := ⟨_,List.getLast?_eq_some_getLast h0⟩
  have hr : hasRest cs = c.isRest := by unfold hasRest; rw [hc]
  obtain ⟨v,hv,pc,rfl,hpc⟩ := hx.last hc
  refine ite2 (fun _ => ?_) (fun z => absurd (show (0 : Int) < (xs.length : Int) by rw [hl]; have := List.length_pos_iff.mpr h0; omega) z)
  refine ⟨_,_,.inr hq,hv,?_⟩
  walk_at "rd"
  refine ⟨_,_,.inr hpc,c.at0,?_⟩
  refine L2.aqv.mpr ?_
  rw [gqA,<- hr]
  exact k
theorem fqv (g : G w K mg) : FnOk P w K mg base CX0 1 g.cqQ g.cqn ["head","tail"] (iqB K) := by
 refine g.cqL.ok iqS (fun vs H Q E h => ?_) (fun cdv A outer s H vs Q E hr h => ?_)
 ·obtain ⟨a,b,rfl,_⟩ := h; rfl
 ·obtain ⟨hd,tl,rfl,hh,ht,k⟩ := h
  refine ⟨_,(aqg (aqk (fqa (fx := ["tail","head"]) (fr := [1,0]) rfl rfl (by decide +kernel) rfl (by decide +kernel) rfl (by decide +kernel) rfl (.cons rfl rfl rfl rfl (.cons rfl rfl rfl rfl .nil)) rfl (nqk (aqA (v := kqw) rfl g.hqe ⟨_,rfl⟩)) (fun _ _ _ => hqt) (fun _ _ _ => (aqu (aqz (K := K)) (aqu (aqz (K := K)) (pv 2) (pv 0)) (pv 1)))))),?_⟩
  walk_at "rd"
  intro p n
  have eT : (Str.ofString "ab01").cps.toList = trS := by decide +kernel
  refine nqm (by decide +kernel) n (fun c => tV (hd ++ [c] ++ tl)) (fun c _ H1 R hR => ?_) (fun H1 s1 hp1 => ?_)
  ·walk_at "rd"
   refine ⟨aqn (by omega),aqn ?_,hR H1 (Same.refl _)⟩
   simp only [List.length_append,List.length_singleton]; omega
  ·refine k p H1 s1 ?_
   rw [hp1,eT]
   unfold trialsM
   rw [List.map_map]
   rfl
theorem bqp (g : G w K mg) : FnOk P w K mg base CX0 1 g.cqO g.cqd ["_law_script","_law_k"] (iqH K) := by
 refine g.aqZ.ok jqb (fun vs H Q E h => ?_) (fun cdv A outer s H vs Q E hr h => ?_)
 ·obtain ⟨a,ns,k,rfl,_⟩ := h; rfl
 ·obtain ⟨a,ns,i,rfl,hS,k⟩ := h
  refine ⟨_,(aqf (aqB (aql oqO (pv 1) (aqq (aqr (K := K) rfl) rfl g.aqQ PySem.boot_len (aqa (pv 0) aqb)) (nomark _))
    (aqg (aqk (aqp (aqh (K := K) rfl) (pv 0) (pv 1) (fun _ _ => rfl)))) aqs)
   (aqg (aqk aqd))),?_⟩
  walk_at "rd"
  refine ⟨ns.map V.int,.inl hS,ite2 (fun h => ?_) (fun h => ?_)⟩
  ·rw [List.length_map] at h
   exact ⟨ns.map V.int,_,.inl hS,sqJ (by omega),k⟩
  ·rw [List.length_map] at h
   rw [List.getD_eq_getElem?_getD,List.getElem?_eq_none (by omega)] at k
   exact k
theorem kqF (g : G w K mg) : FnOk P w K mg base CX0 1 g.dqE g.cq9 ["_law_cell","_law_many"] (kqC K) := by
 refine g.fqU.ok aqF (fun vs H Q E h => ?_) (fun cdv A outer s H vs Q E hr h => ?_)
 ·obtain ⟨c,m,rfl,_⟩ := h; rfl
 ·obtain ⟨c,m,rfl,hm,k⟩ := h
  refine ⟨_,(aqf (aqw (i := 2) aqF.nd rfl (Or.inl rfl) aqx)
   (aqf (aqw (i := 3) aqF.nd rfl (Or.inl rfl) (aqu (aqz (K := K)) aqd (aqu aqM (pv 0) aqd)))
   (aqf (aqw (i := 4) aqF.nd rfl (Or.inl rfl) (aqu aqM (aqu bqi (pv 0) aqd) (pv 3)))
   (aqf (aqw (i := 5) aqF.nd rfl (Or.inl rfl) (aqS aqb))
   (aqf (cqs PassesOwn.never rfl (cqo rfl g.dq5 (aqa (pv 1) aqb)) (aqC (i := 6) aqF.nd rfl (Or.inl rfl))
   (aqf (aqw (i := 7) aqF.nd rfl (Or.inl rfl) aqx)
   (bqh (cqs PassesOwn.never rfl (cqo rfl g.dq5 (aqa (pv 3) aqb)) (aqC (i := 8) aqF.nd rfl (Or.inl rfl))
   (aqf (aqw (i := 9) aqF.nd rfl (Or.inl rfl) (aqu (aqz (K := K)) (aqu (aqz (K := K)) (aqu bqi (pv 0) (aqu (aqz (K := K)) aqd (aqu cqE (aqu cqE aqd (pv 8)) (pv 8)))) (aqu cqE aqd (pv 8))) (aqu cqE (pv 6) (aqN lqT rfl g.pqa mqU (aqa (aqE aqG (pv 8) (pv 4) (nomark _)) aqb)))))
   (aqg (aqw (i := 7) aqF.nd rfl (Or.inl rfl) (aqu (aqz (K := K)) (pv 7) (aqp (aqh (K := K) rfl) (pv 2) (aqu aqM (pv 9) aqd) (fun _ _ => rfl)))))))
   (aqg (eqM (fqg (K := K) rfl PySem.F.plainAttrs_list PySem.F.slot_list_append PySem.F.type_list_append cqp (pv 5) (aqa (pv 7) aqb)))))))
   (aqg (aqk (pv 5)))))))),?_⟩
  have eL : Str.ofString "abcdefghijklmnopqrstuvwxyz" = ⟨smaL.toArray⟩ := by unfold smaL; simp
  rw [eL]
  walk_at "rd"
  refine ⟨by decide,⟨by decide,by decide⟩,by omega,by decide,fun p H1 n1 s1 e1 => ⟨by omega,by omega,?_⟩⟩
  rw [Int.toNat_natCast]
  obtain ⟨sz,hsz,hs1,hs7⟩ : ∃ sz : Nat,1 + c % 8 = (sz : Int) ∧ 1 ≤ sz ∧ sz ≤ 8 := ⟨(1 + c % 8).toNat,by omega,by omega,by omega⟩
  rw [hsz]
  obtain ⟨at_,ha,hat⟩ : ∃ a : Nat,c / 8 % (sz : Int) = (a : Int) ∧ a < sz := by
   have h1 := Int.emod_nonneg (c / 8) (show (sz : Int) ≠ 0 by omega)
   have h2 := Int.emod_lt_of_pos (c / 8) (show 0 < (sz : Int) by omega)
   exact ⟨(c / 8 % (sz : Int)).toNat,by omega,by omega⟩
  rw [ha]
  obtain ⟨X,hX⟩ : ∃ X : Int,X = c / (64 + 9 * (at_ : Int) * (at_ : Int)) + 5 * (at_ : Int) := ⟨_,rfl⟩
  refine cqv (fun i σ H' => ∃ (ns : List (List Nat)) (v6 v7 v8 v9 : Option V),σ = [some (.int c),some (.int (m : Int)),some (tV smaL),some (.int (sz : Int)),some (.int (at_ : Int)),some (.ref p),v6,v7,v8,v9] ∧ ns.length = i ∧ (∀ n ∈ ns,0 < n.length ∧ n.length ≤ 8 ∧ n.all isSma = true) ∧ (∀ (k : Nat) (n : List Nat),ns[k]? = some n -> NmAt X at_ k n) ∧ Same H H' ∧ H' p = some (.lst (ns.map tV))) ⟨[],none,none,none,none,rfl,rfl,by simp,(fun k n h => by cases h),s1,e1⟩ ?_ ?_
  ·rintro i σ H2 hi ⟨ns,v6,v7,v8,v9,rfl,hl,hns,hnm,s2,e2⟩
   walk_at "rd"
   refine ⟨fun σ H3 => H3 = H2 ∧ ∃ (l : List Nat) (v8 v9 : Option V),l.length = sz ∧ NmAt X at_ i l ∧ l.all isSma = true ∧ σ = [some (.int c),some (.int (m : Int)),some (tV smaL),some (.int (sz : Int)),some (.int (at_ : Int)),some (.ref p),some (.int (0 + (i : Int))),some (tV l),v8,v9],?_,?_⟩
   ·refine ⟨by omega,by omega,?_⟩
    rw [Int.toNat_natCast]
    refine cqv (fun j σ H3 => H3 = H2 ∧ ∃ (l : List Nat) (v8 v9 : Option V),l.length = j ∧ (at_ < j -> NmAt X at_ i l) ∧ l.all isSma = true ∧ σ = [some (.int c),some (.int (m : Int)),some (tV smaL),some (.int (sz : Int)),some (.int (at_ : Int)),some (.ref p),some (.int (0 + (i : Int))),some (tV l),v8,v9]) ⟨rfl,[],_,_,rfl,(fun z => absurd z (by omega)),rfl,rfl⟩ ?_ (fun σ H3 ⟨h1,l,v8,v9,h2,h3,h4,h5⟩ => ⟨h1,l,v8,v9,h2,h3 hat,h4,h5⟩)
    rintro j σ H3 hj ⟨rfl,l,v8,v9,hll,hln,hla,rfl⟩
    have hb : 0 < 64 + 9 * (0 + (j : Int)) * (0 + (j : Int)) ∧ 64 + 9 * (0 + (j : Int)) * (0 + (j : Int)) < 1073741824 := by
     have h0 : 0 ≤ (0 + (j : Int)) * (0 + (j : Int)) := Int.mul_nonneg (by omega) (by omega)
     have h1 : (0 + (j : Int)) * (0 + (j : Int)) ≤ 8 * 8 := Int.mul_le_mul (by omega) (by omega) (by omega) (by omega)
     rw [Int.mul_assoc]
     omega
    walk_at "rd"
    have hc1 : CMul (0 + (i : Int)) (if 0 + (j : Int) = (at_ : Int) then 1 else 0) := .inl ⟨by omega,by omega⟩
    have hval : 0 + (j : Int) = (at_ : Int) -> (c / (64 + 9 * (0 + (j : Int)) * (0 + (j : Int))) + 5 * (0 + (j : Int)) + (0 + (i : Int)) * if 0 + (j : Int) = (at_ : Int) then 1 else 0) = X + (i : Int) := fun z => by
     rw [if_pos z,Int.mul_one,hX,z]; omega
    obtain ⟨d,hd,hds⟩ := sq0 (c / (64 + 9 * (0 + (j : Int)) * (0 + (j : Int))) + 5 * (0 + (j : Int)) + (0 + (i : Int)) * if 0 + (j : Int) = (at_ : Int) then 1 else 0)
    refine ⟨.inl ⟨by decide,by decide⟩,.inr ⟨by omega,by omega⟩,hb,.inl ⟨by decide,by decide⟩,hc1,by decide,d,by decide +kernel,hd,aqn (by omega),l ++ [d],_,_,by rw [List.length_append,List.length_singleton,hll],fun z => ?_,by rw [List.all_append,hla]; simp [hds],rfl,rfl,rfl⟩
    by_cases ej : j = at_
    ·rw [hval (by omega)] at hd
     exact ⟨d,by rw [List.getElem?_append_right (by omega),hll,ej,Nat.sub_self]; rfl,hd⟩
    ·exact (hln (by omega)).app
   rintro σ H3 ⟨rfl,l,v8,v9,hll,hln,hla,rfl⟩
   walk_at "rd"
   refine ⟨⟨_,.of e2⟩,_,e2,by rw [List.length_map]; exact Nat.lt_of_le_of_lt (show ns.length ≤ 26 by omega) (by decide),ns ++ [l],_,_,_,_,⟨rfl,rfl,rfl,rfl⟩,by rw [List.length_append,List.length_singleton,hl],fun n hn => ?_,fun k n hk => ?_,lqD n1 s2,by rw [aqm,List.map_append]; rfl⟩
   ·rcases List.mem_append.mp hn with z | z
    ·exact hns n z
    ·rw [List.mem_singleton.mp z]; exact ⟨by omega,by omega,hla⟩
   ·by_cases hk2 : k < ns.length
    ·rw [List.getElem?_append_left hk2] at hk
     exact hnm k n hk
    ·rw [List.getElem?_append_right (by omega)] at hk
     have hk3 : k - ns.length = 0 := by
      cases hh : k - ns.length with
      | zero => rfl
      | succ z => rw [hh] at hk; cases hk
     rw [hk3] at hk
     cases hk
     rw [show k = i by omega]
     exact hln
  ·rintro σ H2 ⟨ns,v6,v7,v8,v9,rfl,hl,hns,hnm,s2,e2⟩
   walk_at "rd"
   exact k ns p H2 hl hns (qqu hnm (by omega)) s2 e2
theorem kqJ (g : G w K mg) : FnOk P w K mg base CX0 1 g.dqG g.dqd ["_law_cell"] (kqo K) := by
 refine g.fqH.ok cqm (fun vs H Q E h => ?_) (fun cdv A outer s H vs Q E hr h => ?_)
 ·obtain ⟨c,rfl,_⟩ := h; rfl
 ·obtain ⟨c,rfl,k⟩ := h
  refine ⟨_,(aqf (aqw (i := 1) cqm.nd rfl (Or.inl rfl) aqx)
   (aqf (aqw (i := 2) cqm.nd rfl (Or.inl rfl) aqx)
   (aqf (cqs PassesOwn.never rfl (cqo rfl g.dq5 (aqa aqd aqb)) (aqC (i := 3) cqm.nd rfl (Or.inl rfl))
   (aqg (aqw (i := 2) cqm.nd rfl (Or.inl rfl) (aqu (aqz (K := K)) (pv 2) (aqp (aqh (K := K) rfl) (pv 1) (aqu aqM (aqu bqi (pv 0) (aqu (aqz (K := K)) (aqu cqE (pv 3) aqd) aqd)) (aqq (aqr (K := K) rfl) rfl g.aqQ PySem.boot_len (aqa (pv 1) aqb))) (fun _ _ => rfl))))))
   (aqg (aqk (aqp (aqh (K := K) rfl) (aqS (aqa (pv 2) (aqa (aqu (aqz (K := K)) (pv 2) aqx) (aqa aqx (aqa (aqu (aqz (K := K)) aqx (pv 2)) aqb))))) (aqu aqM (aqu bqi (pv 0) aqd) aqd) (fun _ _ => rfl))))))),?_⟩
  walk_at "rd"
  refine ⟨by decide,by decide,?_⟩
  have eS : Str.ofString " !\"#$&'()*+,-./0123456789:;<=>?@ABCDEFGHIJKLMNOPQRSTUVWXYZ[\\]^_`abcdefghijklmnopqrstuvwxyz{|}~" = ⟨SG.toArray⟩ := by decide +kernel
  have eD : Str.ofString "." = ⟨[46].toArray⟩ := by decide +kernel
  have eB : Str.ofString "b7" = ⟨[98,55].toArray⟩ := by decide +kernel
  have eA : Str.ofString "a1." = ⟨[97,49,46].toArray⟩ := by decide +kernel
  have hsl : SG.length = 94 := by decide +kernel
  rw [eS,eD,eB,eA]
  refine cqv (fun i σ H' => H' = H ∧ ∃ (l : List Nat) (v3 : Option V),σ = [some (.int c),some (.str ⟨SG.toArray⟩),some (tV l),v3] ∧ l.length = i ∧ ∀ x ∈ l,isSg x = true) ⟨rfl,[],none,rfl,rfl,fun x hx => by cases hx⟩ ?_ ?_
  ·rintro i σ H1 hi ⟨rfl,l,v3,rfl,hl,hs⟩
   have hi3 : i < 3 := hi
   obtain ⟨d,hd,hda⟩ := pqE SG (c / ((0 + (i : Int)) * 97 + 1)) (SG.length : Int) (by omega) (by omega)
   walk_at "rd"
   refine ⟨.inr ⟨by decide,by decide⟩,⟨by omega,by omega⟩,aqn (by omega),by omega,d,aqn (by omega),hda,aqn (by omega),l ++ [d],_,⟨rfl,rfl⟩,by rw [List.length_append,List.length_singleton,hl],fun x hx => ?_⟩
   rcases List.mem_append.mp hx with z | z
   ·exact hs x z
   ·rw [List.mem_singleton.mp z]; exact rqa.mp hd
  ·rintro σ H1 ⟨rfl,l,v3,rfl,hl,hs⟩
   have hl3 : l.length = 3 := hl
   walk_at "rd"
   refine ⟨aqn (by omega),aqn (by omega),by decide,fun p H2 n2 s2 hp2 => ⟨⟨by decide,by decide⟩,by decide,?_⟩⟩
   obtain ⟨v,hv,hat⟩ := sqv [V.str ⟨l.toArray⟩,V.str ⟨(l ++ [46]).toArray⟩,V.str ⟨[97,49,46].toArray⟩,V.str ⟨([98,55] ++ l).toArray⟩] (c / 9409) 4 (by decide) (by simp)
   refine ⟨_,_,.inl (.of hp2),hat,?_⟩
   have sg1 : ∀ x ∈ ([46,97,49,98,55] : List Nat),isSg x = true := by decide
   simp only [List.mem_cons,List.not_mem_nil,or_false] at hv
   rcases hv with rfl | rfl | rfl | rfl
   ·exact k l H2 (by omega) (by omega) hs s2
   ·refine k (l ++ [46]) H2 (by simp) (by simp; omega) (fun x hx => ?_) s2
    rcases List.mem_append.mp hx with z | z
    ·exact hs x z
    ·exact sg1 x (by rw [List.mem_singleton.mp z]; decide)
   ·exact k [97,49,46] H2 (by decide) (by decide) (by decide) s2
   ·refine k ([98,55] ++ l) H2 (by simp) (by simp; omega) (fun x hx => ?_) s2
    rcases List.mem_append.mp hx with z | z
    ·simp only [List.mem_cons,List.not_mem_nil,or_false] at z
     rcases z with rfl | rfl <;> decide
    ·exact hs x z
theorem gqx (g : G w K mg) : FnOk P w K mg base CX0 1 g.fqW g.eq2 ["_law_cell","_law_signs_here","_law_many"] mqd := by
 refine g.eqg.ok eqB (fun vs H Q E h => ?_) (fun cdv A outer s H vs Q E hr h => ?_)
 ·obtain ⟨c,gg,m,rfl,_⟩ := h; rfl
 ·obtain ⟨c,gg,m,rfl,hg0,hg1,hm,k⟩ := h
  refine ⟨_,(aqf (aqw (i := 3) eqB.nd rfl (Or.inl rfl) aqx)
   (aqf (cqs PassesOwn.never rfl (cqo rfl g.dq5 (aqa (pv 2) aqb)) (aqC (i := 4) eqB.nd rfl (Or.inl rfl))
   (aqg (aqw (i := 3) eqB.nd rfl (Or.inl rfl) (aqu (hqu (K := K) rfl) (pv 3) (aqp (aqh (K := K) rfl) (pv 1) (aqu aqM (aqu bqi (pv 0) (aqu (hqu (K := K) rfl) (aqu cqE (aqu cqE aqd (pv 4)) (pv 4)) aqd)) (aqq (aqr (K := K) rfl) rfl g.aqQ PySem.boot_len (aqa (pv 1) aqb))) (fun _ _ => rfl))))))
   (aqg (aqk (pv 3))))),?_⟩
  walk_at "rd"
  refine ⟨by omega,by omega,?_⟩
  rw [Int.toNat_natCast]
  refine cqv (fun i σ H' => H' = H ∧ ∃ (l : List Nat) (v4 : Option V),σ = [some (.int c),some (tV gg),some (.int (m : Int)),some (tV l),v4] ∧ l.length = i ∧ ∀ x ∈ l,x ∈ gg) ⟨rfl,[],none,rfl,rfl,fun x hx => by cases hx⟩ ?_ ?_
  ·rintro i σ H1 hi ⟨rfl,l,v4,rfl,hl,hs⟩
   have hb : 0 < 5 * (0 + (i : Int)) * (0 + (i : Int)) + 1 ∧ 5 * (0 + (i : Int)) * (0 + (i : Int)) + 1 < 1073741824 := by
    have h0 : 0 ≤ (0 + (i : Int)) * (0 + (i : Int)) := Int.mul_nonneg (by omega) (by omega)
    have h1 : (0 + (i : Int)) * (0 + (i : Int)) ≤ 100 * 100 := Int.mul_le_mul (by omega) (by omega) (by omega) (by omega)
    rw [Int.mul_assoc]
    omega
   obtain ⟨d,hd,hda⟩ := pqE gg (c / (5 * (0 + (i : Int)) * (0 + (i : Int)) + 1)) (gg.length : Int) (by omega) (by omega)
   walk_at "rd"
   refine ⟨.inl ⟨by decide,by decide⟩,.inr ⟨by omega,by omega⟩,hb,aqn (by omega),by omega,d,aqn (by omega),hda,aqn (by omega),l ++ [d],_,⟨rfl,rfl⟩,by rw [List.length_append,List.length_singleton,hl],fun x hx => ?_⟩
   rcases List.mem_append.mp hx with z | z
   ·exact hs x z
   ·rw [List.mem_singleton.mp z]; exact hd
  ·rintro σ H1 ⟨rfl,l,v4,rfl,hl,hs⟩
   walk_at "rd"
   exact k l hl hs
theorem hqL (g : G w K mg) : FnOk P w K mg base CX0 1 g.bqG g.bqu ["_law_piece_here","_law_step_here"] (hqJ K) := by
 refine g.cqZ.ok hqK (fun vs H Q E h => ?_) (fun cdv A outer s H vs Q E hr h => ?_)
 ·obtain ⟨c,p,s,rfl,_⟩ := h; rfl
 ·obtain ⟨c,p,s,rfl,hp,hok,h0,hl,hs,k⟩ := h
  refine ⟨_,(aqf (aqB (PW.pt (fqz (aql aqG (pv 1) aqx (nomark _)) (dqS (aql aqG (pv 1) aqx (nomark _)))))
    (aqg (aqk dqD)) aqs)
   (aqf (aqB (aql aqG (aqp (aqh (K := K) rfl) (pv 0) aqd (fun _ _ => rfl)) aqx (nomark _))
    (aqg (aqk (aqE aqG (pv 1) (aqp (aqh (K := K) rfl) (pv 0) aqd (fun _ _ => rfl)) (nomark _)))) aqs)
   (aqf (aqB (aql aqG (aqp (aqh (K := K) rfl) (pv 0) aqd (fun _ _ => rfl)) aqx (nomark _))
    (aqf (aqB (aql mqq (aqq (aqr (K := K) rfl) rfl g.aqQ PySem.boot_len (aqa (pv 1) aqb)) (aqu (aqz (K := K)) (aqq (aqr (K := K) rfl) rfl g.aqQ PySem.boot_len (aqa (aqp (aqh (K := K) rfl) (pv 0) aqd (fun _ _ => rfl)) aqb)) (aqq (aqr (K := K) rfl) rfl g.aqQ PySem.boot_len (aqa (aqp (aqh (K := K) rfl) (pv 0) aqd (fun _ _ => rfl)) aqb))) (nomark _))
    (aqg (aqk dqD)) aqs)
   (aqg (aqk (dqA (fqg (K := K) rfl PySem.F.plainAttrs_str PySem.F.slot_str_startswith PySem.F.type_str_startswith lqL (pv 1) (aqa (aqp (aqh (K := K) rfl) (pv 0) aqd (fun _ _ => rfl)) aqb)) (cqu (fqg (K := K) rfl PySem.F.plainAttrs_str PySem.F.slot_str_endswith PySem.F.type_str_endswith oqN (pv 1) (aqa (aqp (aqh (K := K) rfl) (pv 0) aqd (fun _ _ => rfl)) aqb))))))) aqs)
   (aqf (aqB (aql aqG (aqp (aqh (K := K) rfl) (pv 0) aqd (fun _ _ => rfl)) aqx (nomark _))
    (aqf (aqB (PW.pt (fqz (aql (jqR hr.units) (fqa (fx := []) (fr := []) rfl rfl (by decide +kernel) rfl (by decide +kernel) rfl (by decide +kernel) rfl .nil rfl (nqk (pv 1)) (fun _ _ _ => (hqs (aql lq4 (pv 0) aqx (by with_unfolding_all rfl)))) (fun _ _ _ => (pv 0))) (aqS aqb) (nomark _)) (dqS (aql lql (aqq (aqr (K := K) rfl) rfl g.aqQ PySem.boot_len (aqa (pv 1) aqb)) aqd (nomark _)))))
    (aqg (aqk dqD)) aqs)
   (aqg (aqk (oqz (aqE aqG (pv 1) aqx (nomark _)) (cqu (aqE hqU (aqp (aqh (K := K) rfl) (pv 1) aqd (fun _ _ => rfl)) aqx (nomark _))))))) aqs)
   (aqf (aqB (aql aqG (aqp (aqh (K := K) rfl) (pv 0) aqd (fun _ _ => rfl)) aqx (nomark _))
    (aqg (aqk (dqA (aqE mqq (aqq (aqr (K := K) rfl) rfl g.aqQ PySem.boot_len (aqa (pv 1) aqb)) aqd (nomark _)) (cqu (aqE (mqV hr.units) (fqa (fx := []) (fr := []) rfl rfl (by decide +kernel) rfl (by decide +kernel) rfl (by decide +kernel) rfl .nil rfl (nqk (pv 1)) (fun _ _ _ => (hqs (aql lq4 (pv 0) aqx (by with_unfolding_all rfl)))) (fun _ _ _ => (pv 0))) (aqS aqb) (nomark _)))))) aqs)
   (aqg (aqk dqD))))))),?_⟩
  have eF : Str.ofString "0123456789" = ⟨fgS.toArray⟩ := by unfold fgS; simp
  have eS : Str.ofString "abcdefghijklmnopqrstuvwxyz" = ⟨smaL.toArray⟩ := by unfold smaL; simp
  have e0 : Str.ofString "0" = ⟨[48].toArray⟩ := by decide +kernel
  have e1 : Str.ofString "." = ⟨sStay.toArray⟩ := by decide +kernel
  have e2 : Str.ofString ".." = ⟨sUp.toArray⟩ := by decide +kernel
  rw [eF,eS,e0,e1,e2]
  walk_at "rd"
  have dot : isDot s = true -> Q (.bl false) H := fun hd => by
   have e : fitsM c s = false := by unfold fitsM; rw [hd]; rfl
   rw [e] at k
   exact k H (Same.refl _)
  refine ite2 (fun h1 => dot (by unfold isDot; rw [decide_eq_true (cqt.mp h1)]; simp)) (fun h1 => ite2 (fun h2 => dot (by unfold isDot; rw [decide_eq_true (cqt.mp h2)]; rfl)) (fun h2 => ?_))
  have hd : isDot s = false := bqR.mpr ⟨fun z => h2 (cqt.mpr z),fun z => h1 (cqt.mpr z)⟩
  refine ⟨_,_,.inr hp,c.at0,?_⟩
  refine L2.aqv.mpr ⟨_,rfl,?_⟩
  rw [hqR]
  cases c with
  | step w =>
   refine ite2 (fun _ => ⟨_,_,.inr hp,aqj (j := 1) rfl,?_⟩) (fun z => absurd rfl z)
   refine L2.aqv.mpr ?_
   have e : fitsM (.step w) s = decide ((⟨s.toArray⟩ : Str) = ⟨w.toArray⟩) := by
    unfold fitsM; rw [hd]
    show decide (s = w) = _
    exact decide_eq_decide.mpr cqt.symm
   rw [<- e]
   exact k H (Same.refl _)
  | part h n t =>
   refine ite2 (fun z => by cases z) (fun _ => ⟨_,_,.inr hp,Pc.at0 _,?_⟩)
   refine L2.aqv.mpr ⟨_,rfl,?_⟩
   rw [cqj]
   refine ite2 (fun _ => ?_) (fun z => absurd rfl z)
   have e : fitsM (.part h n t) s = partB h t s := by unfold fitsM; rw [hd]; rfl
   rw [e] at k
   have hh := hok.1
   have ht := hok.2.1
   refine ⟨aqn (by omega),_,_,.inr hp,aqj (j := 1) rfl,?_⟩
   walk_at "rd"
   refine ⟨aqn (by omega),_,_,.inr hp,aqj (j := 3) rfl,?_⟩
   walk_at "rd"
   refine ⟨aqn (by omega),?_⟩
   have kp : partB h t s = (decide (s.take h.length = h) && (decide (s.drop (s.length - t.length) = t) && decide (h.length + t.length < s.length))) := rfl
   rw [kp] at k
   have k' := k H (Same.refl _)
   refine ite2 (fun hle => ?_) (fun hle => ?_)
   ·rw [decide_eq_false (show ¬ h.length + t.length < s.length by omega),Bool.and_false,Bool.and_false] at k'
    exact k'
   rw [decide_eq_true (show h.length + t.length < s.length by omega),Bool.and_true] at k'
   refine ⟨_,_,.inr hp,aqj (j := 1) rfl,?_⟩
   show rStart1 (tV s) [tV h] H _
   rw [L2.mqM]
   refine ⟨_,rfl,ite2 (fun ha => ?_) (fun ha => ?_)⟩
   ·refine ⟨_,_,.inr hp,aqj (j := 3) rfl,?_⟩
    show rEnd1 (tV s) [tV t] H _
    rw [L2.mqr]
    rw [ha,Bool.true_and] at k'
    exact k'
   ·rw [(Bool.not_eq_true _).mp ha] at k'
    exact k'
  | num n =>
   refine ite2 (fun z => by cases z) (fun _ => ⟨_,_,.inr hp,Pc.at0 _,?_⟩)
   refine L2.aqv.mpr ⟨_,rfl,?_⟩
   rw [cqj]
   refine ite2 (fun z => by cases z) (fun _ => ⟨_,_,.inr hp,Pc.at0 _,?_⟩)
   refine L2.aqv.mpr ⟨_,rfl,?_⟩
   rw [eqd]
   refine ite2 (fun _ => ?_) (fun z => absurd rfl z)
   have e : fitsM (.num n) s = numB s := by unfold fitsM; rw [hd]; rfl
   rw [e] at k
   intro p1 hp1
   refine jqN (z := ⟨s.toArray⟩) (aqn (by show s.length ≤ 100000; omega)) hp1 (fun c => !decide (c ∈ fgS)) (fun c => V.str ⟨#[c]⟩) (fun c hc H' R hR => ?_) (fun c hc H' R hR => ?_) (fun H1 s1 e1 => ?_)
   ·walk_at "rd"
    exact hR H' (Same.refl _)
   ·walk_at "rd"
    exact hR H' (Same.refl _)
   refine ⟨by decide,fun p2 H2 n2 s2 e2 => ?_⟩
   have hf : ∀ c ∈ s.filter (fun c => !decide (c ∈ fgS)),isSg c = true := fun c hc => hs c (List.mem_filter.mp hc).1
   refine ⟨.list ((s.filter fun c => !decide (c ∈ fgS)).map fun c => st [c]),.list [],.lst (s2 _ _ e1) (hqx _),.lst e2 .nil,kqc hf,by decide,_,rfl,?_⟩
   have em : ((s.filter fun c => !decide (c ∈ fgS)).map fun c => st [c]).isEmpty = s.all isFig := by
    rw [<- qqk]; cases s.filter (fun c => !decide (c ∈ fgS)) <;> rfl
   rw [eqO,em]
   have k' := k H2 (s1.trans s2)
   refine ite2 (fun h1 => ?_) (fun h1 => ?_)
   ·have : numB s = false := by unfold numB; rw [show s.all isFig = false by simpa using h1]; simp
    rw [this] at k'
    exact k'
   have hall : s.all isFig = true := by simpa using h1
   refine ⟨aqn (by omega),ite2 (fun h2 => ?_) (fun h2 => ?_)⟩
   ·have : numB s = false := by unfold numB; rw [decide_eq_false (show ¬ s.length ≤ 60 by omega)]; simp
    rw [this] at k'
    exact k'
   have en : numB s = (decide (s = [48]) || !decide (s.head? = some 48)) := by
    unfold numB
    rw [decide_eq_true (show 1 ≤ s.length by omega),decide_eq_true (show s.length ≤ 60 by omega),hall]
    rfl
   rw [en] at k'
   have e48 : ∀ l : List Nat,((⟨l.toArray⟩ : Str) = ⟨#[48]⟩) ↔ l = [48] := fun l => by
    rw [show (⟨#[48]⟩ : Str) = ⟨[48].toArray⟩ from rfl,cqt]
   refine ite2 (fun h3 => ?_) (fun h3 => ?_)
   ·rw [decide_eq_true ((e48 s).mp h3)] at k'
    exact k'
   ·rw [decide_eq_false (fun z => h3 ((e48 s).mpr z))] at k'
    cases s with
    | nil => simp at h0
    | cons c r =>
     refine ⟨c,aqn (by simp at hl ⊢; omega),aqj (j := 0) rfl,?_⟩
     have e5 : decide ((⟨#[c]⟩ : Str) = ⟨#[48]⟩) = decide ((c :: r).head? = some 48) := decide_eq_decide.mpr (by
      rw [show (⟨#[c]⟩ : Str) = ⟨[c].toArray⟩ from rfl,e48]; simp)
     rw [e5]
     exact k'
  | word n =>
   refine ite2 (fun z => by cases z) (fun _ => ⟨_,_,.inr hp,Pc.at0 _,?_⟩)
   refine L2.aqv.mpr ⟨_,rfl,?_⟩
   rw [cqj]
   refine ite2 (fun z => by cases z) (fun _ => ⟨_,_,.inr hp,Pc.at0 _,?_⟩)
   refine L2.aqv.mpr ⟨_,rfl,?_⟩
   rw [eqd]
   refine ite2 (fun z => by cases z) (fun _ => ⟨_,_,.inr hp,Pc.at0 _,?_⟩)
   refine L2.aqv.mpr ⟨_,rfl,?_⟩
   rw [gqB]
   refine ite2 (fun _ => ?_) (fun z => absurd rfl z)
   have e : fitsM (.word n) s = wordB s := by unfold fitsM; rw [hd]; rfl
   rw [e] at k
   refine ⟨aqn (by omega),ite2 (fun h2 => ?_) (fun h2 => ?_)⟩
   ·intro p1 hp1
    refine jqN (z := ⟨s.toArray⟩) (aqn (by show s.length ≤ 100000; omega)) hp1 (fun c => !decide (c ∈ smaL)) (fun c => V.str ⟨#[c]⟩) (fun c hc H' R hR => ?_) (fun c hc H' R hR => ?_) (fun H2 s2 e2 => ?_)
    ·walk_at "rd"
     exact hR H' (Same.refl _)
    ·walk_at "rd"
     exact hR H' (Same.refl _)
    refine ⟨by decide,fun p3 H3 n3 s3 e3 => ?_⟩
    have hf : ∀ c ∈ s.filter (fun c => !decide (c ∈ smaL)),isSg c = true := fun c hc => hs c (List.mem_filter.mp hc).1
    refine ⟨.list ((s.filter fun c => !decide (c ∈ smaL)).map fun c => st [c]),.list [],.lst (s3 _ _ e2) (hqx _),.lst e3 .nil,kqc hf,by decide,?_⟩
    have em : ((s.filter fun c => !decide (c ∈ smaL)).map fun c => st [c]).isEmpty = s.all isSma := by
     rw [<- pqV]; cases s.filter (fun c => !decide (c ∈ smaL)) <;> rfl
    rw [eqO,em]
    have k' := k H3 (s2.trans s3)
    have : wordB s = s.all isSma := by unfold wordB; rw [decide_eq_true (show 1 ≤ s.length by omega),decide_eq_true (show s.length ≤ 60 by omega)]; rfl
    rw [this] at k'
    exact k'
   ·have : wordB s = false := by unfold wordB; rw [decide_eq_false (show ¬ s.length ≤ 60 by omega)]; simp
    rw [this] at k
    exact k H (Same.refl _)
  | gap n =>
   refine ite2 (fun z => by cases z) (fun _ => ⟨_,_,.inr hp,Pc.at0 _,?_⟩)
   refine L2.aqv.mpr ⟨_,rfl,?_⟩
   rw [cqj]
   refine ite2 (fun z => by cases z) (fun _ => ⟨_,_,.inr hp,Pc.at0 _,?_⟩)
   refine L2.aqv.mpr ⟨_,rfl,?_⟩
   rw [eqd]
   refine ite2 (fun z => by cases z) (fun _ => ⟨_,_,.inr hp,Pc.at0 _,?_⟩)
   refine L2.aqv.mpr ⟨_,rfl,?_⟩
   rw [gqB]
   have e : fitsM (.gap n) s = true := by unfold fitsM; rw [hd]; rfl
   rw [e] at k
   exact ite2 (fun z => by cases z) (fun _ => k H (Same.refl _))
  | rest n =>
   refine ite2 (fun z => by cases z) (fun _ => ⟨_,_,.inr hp,Pc.at0 _,?_⟩)
   refine L2.aqv.mpr ⟨_,rfl,?_⟩
   rw [cqj]
   refine ite2 (fun z => by cases z) (fun _ => ⟨_,_,.inr hp,Pc.at0 _,?_⟩)
   refine L2.aqv.mpr ⟨_,rfl,?_⟩
   rw [eqd]
   refine ite2 (fun z => by cases z) (fun _ => ⟨_,_,.inr hp,Pc.at0 _,?_⟩)
   refine L2.aqv.mpr ⟨_,rfl,?_⟩
   rw [gqB]
   have e : fitsM (.rest n) s = true := by unfold fitsM; rw [hd]; rfl
   rw [e] at k
   exact ite2 (fun z => by cases z) (fun _ => k H (Same.refl _))
theorem nqH (g : G w K mg) : FnOk P w K mg base CX0 2 g.gq6 g.gqc ["thing"] nqE := by
 refine g.iqP.ok nqL (fun vs H Q E h => ?_) (fun cdv A outer s H vs Q E hr h => ?_)
 ·obtain ⟨d,v,rfl,_⟩ := h; rfl
 ·obtain ⟨d,v,rfl,hv,hs,k⟩ := h
  refine ⟨_,(aqg (aqk (dqA (aqq equ rfl g.bqr aq3 (aqa (pv 0) (aqa (hqH (v := .ty "str") rfl g.oqp nqo rfl) aqb))) (cqu (aqi (hqz g) (hr.mono (by decide)) rfl g.hqq g.fqr.kp g.gqV .nil pass0 (aqa (pv 0) (aqa (aqA (v := sqp) rfl g.oq2 ⟨_,rfl⟩) aqb))))))),?_⟩
  cases hv with
  | lst hp r => walk_at "rd"; simp only [iqq hp]; walk_at "rd"; exact k H (Same.refl _)
  | tup hp r => walk_at "rd"; simp only [iqy hp]; walk_at "rd"; exact k H (Same.refl _)
  | str x =>
   walk_at "rd"
   refine ⟨x,_,rfl,fqJ hs,fun H' sm => ?_⟩
   simp only [tqE]
   exact k H' sm
  | _ => walk_at "rd"; exact k H (Same.refl _)
theorem mqQ (g : G w K mg) : FnOk P w K mg base CX0 2 g.fq1 g.eqG ["pieces"] (mqD K) := by
 refine g.hqS.ok mqt (fun vs H Q E h => ?_) (fun cdv A outer s H vs Q E hr h => ?_)
 ·obtain ⟨cs,xs,q,rfl,_⟩ := h; rfl
 ·obtain ⟨cs,xs,q,rfl,hq,hx,hn,k⟩ := h
  refine ⟨_,(aqg (aqk (fqa (fx := []) (fr := []) rfl rfl (by decide +kernel) rfl (by decide +kernel) rfl (by decide +kernel) rfl .nil rfl (kqr (K := K) rfl (pv 0)) (fun _ _ _ => (hqs (aqR (aqi (eqb g) (hr.mono (by decide)) rfl g.eqy g.dqL.kp g.eqK .nil pass0 (aqa (pv 0) aqb))))) (fun _ _ _ => (aqi (gqj g) (hr.mono (by decide)) rfl g.fqP g.eqf.kp g.fqt .nil pass0 (aqa (pv 0) aqb)))))),?_⟩
  walk_at "rd"
  have hl := hx.length
  refine ⟨⟨_,hq⟩,fun p n => ?_⟩
  refine jqM (fun i => (cs[i]?.map fun c => !c.isStep).getD false) (fun i => (cs[i]?.map fun c => tV c.name).getD .non) hq (aqn (by omega)) n (fun i x hi H1 R s1 hR => ?_) (fun i x hi ht H1 T s1 hT => ?_) (fun H1 s1 hp1 => ?_)
  ·obtain ⟨c,q,hc,rfl,hv⟩ := hx.get hi
   walk_at "rd"
   have := hR H1 (Same.refl _)
   rw [hc] at this
   exact ⟨c,q,rfl,s1.tup hv,_,rfl,this⟩
  ·obtain ⟨c,q,hc,rfl,hv⟩ := hx.get hi
   rw [hc] at ht
   walk_at "rd"
   have := hT H1 (Same.refl _)
   rw [hc] at this
   exact ⟨c,q,rfl,s1.tup hv,by simpa using ht,this⟩
  ·refine k p H1 s1 ?_
   rw [hp1,hl,iqc (fun c : Pc => !c.isStep) (fun c : Pc => tV c.name) .non cs]
   unfold gapsM
   rw [List.map_map]
   rfl
theorem fqD (g : G w K mg) : FnOk P w K mg base CX0 2 g.iqu g.gqY ["pattern","count"] (oqv K) := by
 refine g.eq1.ok iqY (fun vs H Q E h => ?_) (fun cdv A outer s H vs Q E hr h => ?_)
 ·obtain ⟨cs,xs,p,q,e,n,rfl,_⟩ := h; rfl
 ·obtain ⟨cs,xs,p,q,e,n,rfl,hp,hq,hx,hn,hnn,k0,k⟩ := h
  refine ⟨_,(aqf (aqw (i := 2) iqY.nd rfl (Or.inl rfl) (aqp (aqh (K := K) rfl) (pv 0) (aqA (v := bqv) rfl g.bqm ⟨_,rfl⟩) (fun _ _ => rfl)))
   (aqf (aqw (i := 3) iqY.nd rfl (Or.inl rfl) (aqu oqt (pv 1) (aqq (aqr (K := K) rfl) rfl g.aqQ PySem.boot_len (aqa (pv 2) aqb))))
   (aqf (aqB (PW.pt (fqN (aqR (aqi (gqF g) (hr.mono (by decide)) rfl g.fq0 g.eqt.kp g.fqZ .nil pass0 (aqa (pv 0) aqb))) (dq6 (aql uqu (pv 3) aqd (nomark _)))))
    (aqg (aqk (aqu (aqz (K := K)) (pv 2) (aqu sqK (cqg pqt (pv 2) (cqX (nqX jq1 aqd)) dq9) (pv 3))))) aqs)
   (aqg (aqk (eqF (aql aqG (pv 3) aqd (nomark _)) (pv 2) bqY)))))),?_⟩
  walk_at "rd"
  refine ⟨_,_,.inr hp,aqj (j := 0) rfl,?_⟩
  have hl := hx.length
  walk_at "rd"
  refine ⟨xs,.inr (.of hq),?_⟩
  refine ⟨cs,xs,p,q,e,rfl,hp,.of hq,hx,by omega,_,rfl,?_⟩
  rw [hl]
  have tail : ¬ (hasRest cs = true ∧ cs.length ≤ n) -> if (n : Int) - (cs.length : Int) = 0 then Q (.ref q) H else Q .non H := fun hnot => by
   refine ite2 (fun h0 => ?_) (fun h0 => ?_)
   ·refine k cs xs q H ?_ (Same.refl _) (.of hq) hx
    unfold spreadM
    rw [if_neg hnot,if_pos (by omega)]
   ·refine k0 ?_
    unfold spreadM
    rw [if_neg hnot,if_neg (by omega)]
  refine ite2 (fun hr => ite2 (fun hm => ?_) (fun hm => tail fun z => by omega)) (fun hr => tail fun z => hr z.1)
  have hd1 : (xs.drop (xs.length - 1)).length ≤ 1 := by rw [List.length_drop]; omega
  have ht : ((n : Int) - (cs.length : Int)).toNat = n - cs.length := by omega
  refine ⟨_,hq,fun p1 H1 s1 e1 => ⟨_,e1,hm,by omega,?_,fun p2 H2 s2 e2 => .inr ⟨_,_,(s1.trans s2) _ _ hq,e2,?_,fun p3 H3 s3 e3 => ?_⟩⟩⟩
  ·rw [kqP,ht]
   exact aqn (Nat.le_trans (Nat.mul_le_mul hd1 (Nat.le_refl _)) (by omega))
  ·rw [kqP,ht]
   have := qqn (xs.drop (xs.length - 1)) (n - cs.length) hd1
   exact aqn (by omega)
  ·rw [kqP,ht,hl] at e3
   have s03 := s1.trans (s2.trans s3)
   refine k _ _ p3 H3 ?_ s03 (.of e3) (PcAll.append (((hx.drop (cs.length - 1)).reps (n - cs.length)).mono s03) (hx.mono s03))
   unfold spreadM
   rw [if_pos ⟨hr,by omega⟩]
theorem lqr (g : G w K mg) : FnOk P w K mg base CX0 2 g.eq3 g.dqW ["part","step"] (lqh K) := by
 refine g.gqC.ok fqO (fun vs H Q E h => ?_) (fun cdv A outer s H vs Q E hr h => ?_)
 ·obtain ⟨h1,n,t,s,p,rfl,_⟩ := h; rfl
 ·obtain ⟨h1,n,t,s,p,rfl,hp,hs,hh,ht,k⟩ := h
  refine ⟨_,(aqf (aqw (i := 2) fqO.nd rfl (Or.inl rfl) (aqi (bqV g) (hr.mono (by decide)) rfl g.bq6 g.bqE.kp g.cqq .nil pass0 (aqa (pv 0) aqb)))
   (aqf (aqw (i := 3) fqO.nd rfl (Or.inl rfl) (aqi (bqZ g) (hr.mono (by decide)) rfl g.cql g.bqD.kp g.bq8 .nil pass0 (aqa (pv 0) aqb)))
   (aqg (aqk (dqA (fqg (K := K) rfl PySem.F.plainAttrs_str PySem.F.slot_str_startswith PySem.F.type_str_startswith lqL (pv 1) (aqa (pv 2) aqb)) (dqA (fqg (K := K) rfl PySem.F.plainAttrs_str PySem.F.slot_str_endswith PySem.F.type_str_endswith oqN (pv 1) (aqa (pv 3) aqb)) (cqu (aqE lql (aqq (aqr (K := K) rfl) rfl g.aqQ PySem.boot_len (aqa (pv 1) aqb)) (aqu (hqu (K := K) rfl) (aqq (aqr (K := K) rfl) rfl g.aqQ PySem.boot_len (aqa (pv 2) aqb)) (aqq (aqr (K := K) rfl) rfl g.aqQ PySem.boot_len (aqa (pv 3) aqb))) (nomark _))))))))),?_⟩
  walk_at "rd"
  refine ⟨_,p,rfl,hp,_,p,rfl,hp,?_⟩
  show rStart1 (tV s) [tV h1] H _
  rw [L2.mqM]
  have kp : partB h1 t s = (decide (s.take h1.length = h1) && (decide (s.drop (s.length - t.length) = t) && decide (h1.length + t.length < s.length))) := rfl
  rw [kp] at k
  refine ⟨_,rfl,ite2 (fun ha => ?_) (fun ha => ?_)⟩
  rotate_left
  ·rw [(Bool.not_eq_true _).mp ha] at k
   exact k
  rw [ha,Bool.true_and] at k
  show rEnd1 (tV s) [tV t] H _
  rw [L2.mqr]
  refine ⟨_,rfl,ite2 (fun hb => ?_) (fun hb => ?_)⟩
  rotate_left
  ·rw [(Bool.not_eq_true _).mp hb] at k
   exact k
  rw [hb,Bool.true_and] at k
  refine ⟨aqn hs,?_⟩
  show rLenU K [tV h1] H _
  walk_at "rd"
  refine ⟨aqn hh,aqn ht,?_⟩
  show Q (V.bl (decide ((h1.length : Int) + (t.length : Int) < (s.length : Int)))) H
  rw [show decide ((h1.length : Int) + (t.length : Int) < (s.length : Int)) = decide (h1.length + t.length < s.length) from decide_eq_decide.mpr (by omega)]
  exact k
theorem lqp (g : G w K mg) : FnOk P w K mg base CX0 2 g.eqS g.dqM ["text"] lqa := by
 refine g.gqD.ok lqN (fun vs H Q E h => ?_) (fun cdv A outer s H vs Q E hr h => ?_)
 ·obtain ⟨l,rfl,_⟩ := h; rfl
 ·obtain ⟨l,rfl,hl,k⟩ := h
  refine ⟨_,(aqf (aqB (PW.pt (fqz (cqU (qqP mqq mqq aqd (aqq (aqr (K := K) rfl) rfl g.aqQ PySem.boot_len (aqa (pv 0) aqb)) (aqA (v := iql) rfl g.fqm ⟨_,rfl⟩))) (dqS (cqU (aqR (aqi (hqz g) (hr.mono (by decide)) rfl g.hqq g.fqr.kp g.gqV .nil pass0 (aqa (pv 0) (aqa (aqA (v := lqM) rfl g.lqx ⟨_,rfl⟩) aqb))))))))
    (aqg (aqk dqD)) aqs)
   (aqg (aqk (oqz (aqE aqG (pv 0) aqx (nomark _)) (cqu (aqE hqU (aqp (aqh (K := K) rfl) (pv 0) aqd (fun _ _ => rfl)) aqx (nomark _))))))),?_⟩
  have eF : lqM = .str ⟨fgS.toArray⟩ := by
   show V.str (Str.ofString _) = _
   unfold fgS; simp
  have e0 : Str.ofString "0" = ⟨[48].toArray⟩ := by decide +kernel
  rw [eF,e0]
  walk_at "rd"
  have no : ∀ H',Same H H' -> (¬ (1 ≤ l.length ∧ l.length ≤ 60 ∧ l.all isFig = true)) -> Q (.bl false) H' := fun H' sm h => by
   have : numB l = false := by
    unfold numB
    by_cases h1 : 1 ≤ l.length
    ·by_cases h2 : l.length ≤ 60
     ·rw [show l.all isFig = false by simpa using fun z => h ⟨h1,h2,z⟩]; simp
     ·rw [decide_eq_false h2]; simp
    ·rw [decide_eq_false h1]; simp
   rw [<- this]
   exact k H' sm
  refine ⟨aqn hl,ite2 (fun h1 => ite2 (fun h2 => no _ (Same.refl _) (by omega)) (fun h2 => ?_)) (fun h1 => no _ (Same.refl _) (by omega))⟩
  refine ⟨_,_,rfl,hl,fun H' sm => ⟨_,rfl,?_⟩⟩
  have ea : ((⟨l.toArray⟩ : Str).cps.toList.all fun c => decide (c ∈ (⟨fgS.toArray⟩ : Str).cps.toList)) = l.all isFig := by
   rw [<- pqH]
  rw [ea]
  refine ite2 (fun h3 => no H' sm (by rw [h3]; simp)) (fun h3 => ?_)
  have h3 : l.all isFig = true := by simpa using h3
  have en : numB l = (decide (l = [48]) || !decide (l.head? = some 48)) := by
   unfold numB
   rw [decide_eq_true (show 1 ≤ l.length by omega),decide_eq_true (show l.length ≤ 60 by omega),h3]
   rfl
  have k' := k H' sm
  rw [en] at k'
  cases l with
  | nil => simp at h1
  | cons c r =>
   refine ite2 (fun h4 => ?_) (fun h4 => ⟨c,aqn hl,aqj (j := 0) rfl,?_⟩)
   ·rw [decide_eq_true (cqt.mp h4)] at k'
    exact k'
   ·rw [decide_eq_false (fun z => h4 (by rw [z]))] at k'
    have : decide ((⟨#[c]⟩ : Str) = ⟨[48].toArray⟩) = decide ((c :: r).head? = some 48) := by
     refine decide_eq_decide.mpr ?_
     rw [show (⟨#[c]⟩ : Str) = ⟨[c].toArray⟩ from rfl,cqt]
     simp
    first | (rw [this]; simpa using k') | (simp at this ⊢; simpa [this] using k')
theorem jqU (g : G w K mg) : FnOk P w K mg base CX0 2 g.gqP g.gqi ["text"] nqs := by
 refine g.hqp.ok nq4 (fun vs H Q E h => ?_) (fun cdv A outer s H vs Q E hr h => ?_)
 ·obtain ⟨l,rfl,_⟩ := h; rfl
 ·obtain ⟨l,rfl,hl,k⟩ := h
  refine ⟨_,(aqg (aqk (dqA (mq3 mqq mqq aqd (aqq (aqr (K := K) rfl) rfl g.aqQ PySem.boot_len (aqa (pv 0) aqb)) (aqA (v := jqt) rfl g.gqo ⟨_,rfl⟩)) (cqu (aqi (hqz g) (hr.mono (by decide)) rfl g.hqq g.fqr.kp g.gqV .nil pass0 (aqa (pv 0) (aqa (aqA (v := fqR) rfl g.fqB ⟨_,rfl⟩) aqb))))))),?_⟩
  have eF : fqR = .str ⟨smaL.toArray⟩ := by
   show V.str (Str.ofString _) = _
   unfold smaL; simp
  rw [eF]
  walk_at "rd"
  have no : (¬ (1 ≤ l.length ∧ l.length ≤ 60)) -> Q (.bl false) H := fun h => by
   have : wordB l = false := by
    unfold wordB
    by_cases h1 : 1 ≤ l.length
    ·rw [decide_eq_false (show ¬ l.length ≤ 60 from fun z => h ⟨h1,z⟩)]; simp
    ·rw [decide_eq_false h1]; simp
   rw [<- this]
   exact k H (Same.refl _)
  refine ⟨aqn hl,ite2 (fun h1 => ite2 (fun h2 => ?_) (fun h2 => no (by omega))) (fun h1 => no (by omega))⟩
  refine ⟨_,_,rfl,hl,fun H' sm => ?_⟩
  have e : wordB l = (l.all fun c => decide (c ∈ smaL)) := by
   unfold wordB
   rw [decide_eq_true (show 1 ≤ l.length by omega),decide_eq_true (show l.length ≤ 60 by omega),oq7]
   rfl
  have := k H' sm
  rw [e] at this
  simpa using this
theorem jqG (g : G w K mg) : FnOk P w K mg base CX0 2 g.dqf g.cqH ["gap","steps"] (jqE K) := by
 refine g.eqP.ok jqC (fun vs H Q E h => ?_) (fun cdv A outer s H vs Q E hr h => ?_)
 ·obtain ⟨c,s,ss,p,q,rfl,_⟩ := h; rfl
 ·obtain ⟨c,s,ss,p,q,rfl,hp,hq,hf,hs,hh,ht,hn,k⟩ := h
  refine ⟨_,(aqf (aqB (aql aqG (aqp (aqh (K := K) rfl) (pv 0) aqd (fun _ _ => rfl)) aqx (nomark _))
    (aqg (aqk (aqN (hqT (K := K) rfl) rfl g.lqg kqZ (aqa (pv 1) aqb)))) aqs)
   (aqf (aqB (aql aqG (aqp (aqh (K := K) rfl) (pv 0) aqd (fun _ _ => rfl)) aqx (nomark _))
    (aqg (aqk (aqN pqP rfl g.pqa mqU (aqa (aqp (aqh (K := K) rfl) (pv 1) aqd (fun _ _ => rfl)) aqb)))) aqs)
   (aqg (aqk (cqg (mqg (K := K) rfl) (aqp (aqh (K := K) rfl) (pv 1) aqd (fun _ _ => rfl)) (cqX (aqq (aqr (K := K) rfl) rfl g.aqQ PySem.boot_len (aqa (aqi (bqV g) (hr.mono (by decide)) rfl g.bq6 g.bqE.kp g.cqq .nil pass0 (aqa (pv 0) aqb)) aqb))) (cqX (aqu oqt (aqq (aqr (K := K) rfl) rfl g.aqQ PySem.boot_len (aqa (aqp (aqh (K := K) rfl) (pv 1) aqd (fun _ _ => rfl)) aqb)) (aqq (aqr (K := K) rfl) rfl g.aqQ PySem.boot_len (aqa (aqi (bqZ g) (hr.mono (by decide)) rfl g.cql g.bqD.kp g.bq8 .nil pass0 (aqa (pv 0) aqb)) aqb))))))))),?_⟩
  walk_at "rd"
  refine ⟨_,_,.inr hp,c.at0,?_⟩
  refine L2.aqv.mpr ⟨_,rfl,?_⟩
  rw [gqA]
  have rest : c.isRest = false -> c.isNum = false -> c.head.length + c.tail.length ≤ s.length -> ∃ xs v,(SqL K H q xs ∨ SqT K H q xs) ∧ atI xs 0 = some v ∧ jqV K [V.ref p] H (fun x H1 => rLenU K [x] H1 fun x H1 => ∃ i,x = V.int i ∧ ∃ xs v_1,(SqL K H1 q xs ∨ SqT K H1 q xs) ∧ atI xs 0 = some v_1 ∧ rLenU K [v_1] H1 fun x H1 => kqj K [V.ref p] H1 (fun x_1 H1 => rLenU K [x_1] H1 fun y H2 => rI0 (fun i j => V.int (i - j)) x y H2 fun x H1 => ∃ i_1,x = V.int i_1 ∧ rSl K v (some i) (some i_1) H1 Q) E0) E0 := fun h1 h2 hle => by
   refine ⟨_,_,.inr (.of hq),aqj (j := 0) rfl,c,p,rfl,hp,aqn hh,_,rfl,_,_,.inr (.of hq),aqj (j := 0) rfl,aqn hs,c,p,rfl,hp,aqn ht,?_⟩
   refine ⟨_,_,rfl,rfl,_,rfl,?_⟩
   refine L2.nqj.mpr ⟨aqn hs,?_⟩
   show Q (.str (Txt.slice ⟨s.toArray⟩ (some (c.head.length : Int)) (some ((s.length : Int) - (c.tail.length : Int))))) H
   rw [show (s.length : Int) - (c.tail.length : Int) = ((s.length - c.tail.length : Nat) : Int) by omega,oqF]
   refine k _ H (Same.refl _) ?_ (fun q z => by cases z)
   cases c with
   | rest n => cases h1
   | num n => cases h2
   | _ => rfl
  cases c with
  | rest n =>
   refine ite2 (fun _ => ?_) (fun z => absurd rfl z)
   exact ⟨_,.inr (.of hq),fun l H1 n1 s1 e1 => k _ H1 s1 ⟨l,rfl,e1⟩ (fun q z => by cases z; exact n1)⟩
  | num n =>
   refine ite2 (fun z => by cases z) (fun _ => ⟨_,_,.inr hp,Pc.at0 _,?_⟩)
   refine L2.aqv.mpr ⟨_,rfl,?_⟩
   rw [eqd]
   refine ite2 (fun _ => ⟨_,_,.inr (.of hq),aqj (j := 0) rfl,?_⟩) (fun z => absurd rfl z)
   have hn := qqs hf
   exact ⟨⟨s.toArray⟩,intOf s,rfl,by show s.length ≤ 640; omega,sqk hn.2.2 hn.1 hn.2.1,k _ H (Same.refl _) rfl (fun q z => by cases z)⟩
  | part h n t =>
   refine ite2 (fun z => by cases z) (fun _ => ⟨_,_,.inr hp,Pc.at0 _,?_⟩)
   refine L2.aqv.mpr ⟨_,rfl,?_⟩
   rw [eqd]
   exact ite2 (fun z => by cases z) (fun _ => rest rfl rfl (kq0 hf))
  | _ =>
   refine ite2 (fun z => by cases z) (fun _ => ⟨_,_,.inr hp,Pc.at0 _,?_⟩)
   refine L2.aqv.mpr ⟨_,rfl,?_⟩
   rw [eqd]
   exact ite2 (fun z => by cases z) (fun _ => rest rfl rfl (by show 0 + 0 ≤ _; omega))
theorem hqG (g : G w K mg) : FnOk P w K mg base CX0 2 g.bqI g.bqA ["gap","value"] (hqA K) := by
 refine g.cq0.ok hqF (fun vs H Q E h => ?_) (fun cdv A outer s H vs Q E hr h => ?_)
 ·obtain ⟨c,p,d,v,rfl,_⟩ := h; rfl
 ·obtain ⟨c,p,d,v,rfl,hp,hc,hh,ht,hv,hs,hval,k⟩ := h
  refine ⟨_,(aqf (aqB (aql aqG (aqp (aqh (K := K) rfl) (pv 0) aqd (fun _ _ => rfl)) aqx (nomark _))
    (aqg (aqk (pv 1))) aqs)
   (aqf (aqB (aql aqG (aqp (aqh (K := K) rfl) (pv 0) aqd (fun _ _ => rfl)) aqx (nomark _))
    (aqg (aqk (aqS (aqa (aqN hq9 rfl g.oqp nqo (aqa (pv 1) aqb)) aqb)))) aqs)
   (aqg (aqk (aqS (aqa (aqu (aqz (K := K)) (aqu (aqz (K := K)) (aqi (bqV g) (hr.mono (by decide)) rfl g.bq6 g.bqE.kp g.cqq .nil pass0 (aqa (pv 0) aqb)) (pv 1)) (aqi (bqZ g) (hr.mono (by decide)) rfl g.cql g.bqD.kp g.bq8 .nil pass0 (aqa (pv 0) aqb))) aqb)))))),?_⟩
  walk_at "rd"
  have b3 : 300000 ≤ sizeLine := by decide
  refine ⟨_,_,.inr hp,c.at0,aqv.mpr ⟨_,rfl,?_⟩⟩
  rw [gqA]
  refine ite2 (fun hrs => ?_) (fun hrs => ⟨_,_,.inr hp,c.at0,aqv.mpr ⟨_,rfl,?_⟩⟩)
  ·cases c with
   | rest n =>
    cases hv with
    | lst hl r =>
     rename_i a xs ds
     have e : isValD (.rest n) (.list ds) = (decide (0 < ds.length) && ds.all canD) := rfl
     rw [e,Bool.and_eq_true] at hval
     refine k a H (Same.refl _) ?_
     rw [hl,lqS r hval.2]
     rfl
    | _ => cases hval
   | _ => cases hrs
  rw [eqd]
  refine ite2 (fun hnm => ?_) (fun hnm => ?_)
  ·cases c with
   | num n =>
    cases hv with
    | int i =>
     have e : isValD (.num n) (.int i) = decide (0 ≤ i ∧ i < 10 ^ 60) := rfl
     rw [e] at hval
     have h60 := of_decide_eq_true hval
     have hlg : i.natAbs.log2 < 1920 := by
      by_cases h0 : i.natAbs = 0
      ·rw [h0]; decide
      ·rw [Nat.log2_lt h0]
       have : i.natAbs < 10 ^ 60 := by omega
       exact Nat.lt_of_lt_of_le this (by decide +kernel)
     exact ⟨i,rfl,hlg,by decide,fun p1 H1 n1 s1 hp1 => k p1 H1 s1 hp1⟩
    | _ => cases hval
   | _ => cases hnm
  ·have e : isValD c d = (ftx d && !isDot (c.head ++ txD d ++ c.tail)) ∨ c.isWord = true := by
    cases c with
    | part a b e => exact .inl rfl
    | gap n => exact .inl (show (ftx d && !isDot (txD d)) = (ftx d && !isDot ([] ++ txD d ++ [])) by rw [List.nil_append,List.append_nil])
    | step s => cases hc
    | num n => exact absurd rfl hnm
    | word n => exact .inr rfl
    | rest n => exact absurd rfl hrs
   have e2 : stpsD c d = [c.head ++ txD d ++ c.tail] := by
    cases c with
    | step s => cases hc
    | num n => exact absurd rfl hnm
    | rest n => exact absurd rfl hrs
    | _ => rfl
   cases hv with
   | str x =>
    obtain ⟨⟨l⟩⟩ := x
    have hl : l.length ≤ 100000 := fqJ hs
    refine ⟨c,p,rfl,hp,gqG.mpr ⟨Nat.le_trans (show c.head.length + l.length ≤ 300000 by omega) b3,c,p,rfl,hp,gqG.mpr ⟨?_,by decide,fun p1 H1 n1 s1 hp1 => k p1 H1 s1 ?_⟩⟩⟩
    ·show ((⟨c.head.toArray⟩ : Str) ++ ⟨l.toArray⟩).length + c.tail.length ≤ _
     rw [fqh,bqn,List.length_append]
     omega
    ·rw [hp1,e2]
     show some (HO.lst [V.str ((⟨c.head.toArray⟩ : Str) ++ ⟨l.toArray⟩ ++ ⟨c.tail.toArray⟩)]) = _
     rw [fqh,fqh]
     rfl
   | _ =>
    rcases e with e | e
    ·rw [e] at hval; cases hval
    ·cases c with
     | word n => cases hval
     | _ => cases e
theorem eqJ (g : G w K mg) : FnOk P w K mg base CX0 2 g.gqh g.eqX ["piece"] (mqT K) := by
 refine g.dqm.ok jqc (fun vs H Q E h => ?_) (fun cdv A outer s H vs Q E hr h => ?_)
 ·obtain ⟨c,p,rfl,_⟩ := h; rfl
 ·obtain ⟨c,p,rfl,hp,hz,k⟩ := h
  refine ⟨_,(aqf (aqw (i := 1) jqc.nd rfl (Or.inl rfl) (aqi (bqV g) (hr.mono (by decide)) rfl g.bq6 g.bqE.kp g.cqq .nil pass0 (aqa (pv 0) aqb)))
   (aqg (aqk (aqY (aqa (sq6 (g.fql P) (aqA (v := .ref g.bqN) rfl g.fqp rfl) (aqp (aqh (K := K) rfl) (pv 0) aqd (fun _ _ => rfl)) (fun _ _ => rfl)) (aqa (aqu (aqz (K := K)) (aqq (aqr (K := K) rfl) rfl g.aqQ PySem.boot_len (aqa (pv 1) aqb)) (aqq (aqr (K := K) rfl) rfl g.aqQ PySem.boot_len (aqa (aqi (bqZ g) (hr.mono (by decide)) rfl g.cql g.bqD.kp g.bq8 .nil pass0 (aqa (pv 0) aqb)) aqb))) (aqa (aqq (aqr (K := K) rfl) rfl g.aqQ PySem.boot_len (aqa (pv 1) aqb)) aqb))))))),?_⟩
  walk_at "rd"
  refine ⟨c,p,rfl,hp,?_⟩
  refine ⟨_,_,.inr hp,c.at0,c.kw,wordW c,rfl,?_,?_⟩
  ·cases c with
   | step w => show Spec.lookup (PyData.str (Str.ofString "step")) _ = some (PyData.int 6); with_unfolding_all kernel_rfl
   | part a n b => show Spec.lookup (PyData.str (Str.ofString "part")) _ = some (PyData.int 5); with_unfolding_all kernel_rfl
   | num n => show Spec.lookup (PyData.str (Str.ofString "number")) _ = some (PyData.int 4); with_unfolding_all kernel_rfl
   | word n => show Spec.lookup (PyData.str (Str.ofString "word")) _ = some (PyData.int 3); with_unfolding_all kernel_rfl
   | gap n => show Spec.lookup (PyData.str (Str.ofString "gap")) _ = some (PyData.int 2); with_unfolding_all kernel_rfl
   | rest n => show Spec.lookup (PyData.str (Str.ofString "rest")) _ = some (PyData.int 1); with_unfolding_all kernel_rfl
  have h1 := hz.1
  have h2 := hz.2.1
  refine ⟨aqn (by rw [bqn]; omega),c,p,rfl,hp,aqn (by rw [bqn]; omega),aqn (by rw [bqn]; omega),by decide,fun r H1 n1 s1 hr => ?_⟩
  exact k r H1 s1 hr
theorem iqK (g : G w K mg) : FnOk P w K mg base CX0 2 g.cqN g.cqr ["one","other"] (jqm K) := by
 refine g.dq2.ok fqI (fun vs H Q E h => ?_) (fun cdv A outer s H vs Q E hr h => ?_)
 ·obtain ⟨cs,ds,xs,ys,p,q,p',q',e,e',rfl,_⟩ := h; rfl
 ·obtain ⟨cs,ds,xs,ys,p,q,p',q',e,e',rfl,hp,hq,hx,hp',hq',hy,hcl,hdl,k⟩ := h
  refine ⟨_,(aqf (aqw (i := 2) fqI.nd rfl (Or.inl rfl) (aqq (aqr (K := K) rfl) rfl g.aqQ PySem.boot_len (aqa (aqp (aqh (K := K) rfl) (pv 0) (aqA (v := bqv) rfl g.bqm ⟨_,rfl⟩) (fun _ _ => rfl)) aqb)))
   (aqf (aqB (PW.pt (fqN (aqR (aqi (gqF g) (hr.mono (by decide)) rfl g.fq0 g.eqt.kp g.fqZ .nil pass0 (aqa (pv 0) aqb))) (dq6 (cqU (aqR (aqi (gqF g) (hr.mono (by decide)) rfl g.fq0 g.eqt.kp g.fqZ .nil pass0 (aqa (pv 1) aqb)))))))
    (aqg (aqk (aqq (lqq rfl) rfl g.pqk PyProof.Rows.boot_max (aqa (pv 2) (aqa (aqu (hqu (K := K) rfl) (aqq (aqr (K := K) rfl) rfl g.aqQ PySem.boot_len (aqa (aqp (aqh (K := K) rfl) (pv 1) (aqA (v := bqv) rfl g.bqm ⟨_,rfl⟩) (fun _ _ => rfl)) aqb)) aqd) aqb))))) aqs)
   (aqg (aqk (pv 2))))),?_⟩
  walk_at "rd"
  have hxl := hx.length
  have hyl := hy.length
  refine ⟨_,_,.inr hp,rfl,lqC.mpr ⟨xs,.inr hq,cs,xs,p,q,e,rfl,hp,hq,hx,by omega,_,rfl,?_⟩⟩
  rw [hxl]
  unfold countM at k
  refine ite2 (fun h1 => ?_) (fun h1 => ?_)
  ·refine ⟨ds,ys,p',q',e',rfl,hp',hq',hy,by omega,_,rfl,?_⟩
   refine ite2 (fun h2 => ?_) (fun h2 => ?_)
   ·rw [if_pos ⟨h1,h2⟩] at k
    refine ⟨_,_,.inr hp',rfl,lqC.mpr ⟨ys,.inr hq',rqb.mpr ⟨_,_,⟨rfl,rfl⟩,?_⟩⟩⟩
    rw [hyl,show (if ((ds.length : Int) + 1) > (cs.length : Int) then (ds.length : Int) + 1 else (cs.length : Int)) = ((max cs.length (ds.length + 1) : Nat) : Int) by split <;> omega]
    exact k
   ·rw [if_neg (fun z => h2 z.2)] at k
    exact k
  ·rw [if_neg (fun z => h1 z.1)] at k
   exact k
theorem eq4 (g : G w K mg) : FnOk P w K mg base CX0 2 g.dqN g.dqe ["_law_script","_law_start","_law_many"] (kq1 K) := by
 refine g.cqV.ok kqG (fun vs H Q E h => ?_) (fun cdv A outer s H vs Q E hr h => ?_)
 ·obtain ⟨a,ns,s,m,rfl,_⟩ := h; rfl
 ·obtain ⟨a,ns,s0,m,rfl,hS,hm,k⟩ := h
  refine ⟨_,(aqg (aqk (fqa (fx := ["_law_script","_law_start"]) (fr := [0,1]) rfl rfl (by decide +kernel) rfl (by decide +kernel) rfl (by decide +kernel) rfl (.cons rfl rfl rfl rfl (.cons rfl rfl rfl rfl .nil)) rfl (cqo rfl g.dq5 (aqa (pv 2) aqb)) (fun _ _ _ => hqt) (fun _ _ _ => (aqi (bqp g) (hr.mono (by decide)) rfl g.bqa g.aqZ.kp g.bqe .nil pass0 (aqa (pv 1) (aqa (aqu (aqz (K := K)) (pv 2) (pv 0)) aqb))))))),?_⟩
  walk_at "rd"
  refine ⟨by omega,by omega,fun p n => ?_⟩
  rw [Int.toNat_natCast]
  refine mqe (fun i ys H' => SameBut p H H' ∧ ∃ is : List Int,ys = is.map V.int ∧ is.length = i) (aqn (by omega)) ⟨dqB,[],rfl,rfl⟩ (fun i ys H2 T hi hJ hp2 hT => ?_) (fun ys H2 hJ hp2 => ?_)
  ·obtain ⟨sb,is,rfl,hl⟩ := hJ
   walk_at "rd"
   rw [show ((s0 : Int) + (0 + (i : Int))) = ((s0 + i : Nat) : Int) by omega]
   exact ⟨a,ns,s0 + i,rfl,(sb.same n).seq hS,hT _ H2 hp2 ⟨sb.trans dqB,is ++ [ns.getD (s0 + i) 0],by rw [List.map_append]; rfl,by rw [List.length_append,List.length_singleton,hl]⟩⟩
  ·obtain ⟨sb,is,rfl,hl⟩ := hJ
   exact k is p H2 hl (sb.same n) hp2
theorem fqF (g : G w K mg) : FnOk P w K mg base CX0 2 g.fqb g.dq1 ["_law_cell","_law_signs_here","_law_many"] lqs := by
 refine g.dqu.ok iqd (fun vs H Q E h => ?_) (fun cdv A outer s H vs Q E hr h => ?_)
 ·obtain ⟨c,gg,m,rfl,_⟩ := h; rfl
 ·obtain ⟨c,gg,m,rfl,hg0,hg1,hm0,hm,k⟩ := h
  refine ⟨_,(aqf (aqw (i := 3) iqd.nd rfl (Or.inl rfl) (aqi (gqx g) (hr.mono (by decide)) rfl g.fq7 g.eqg.kp g.gql .nil pass0 (aqa (pv 0) (aqa (pv 1) (aqa (pv 2) aqb)))))
   (aqf (aqB (PW.pt (fqz (aql aqG (pv 3) aqx (nomark _)) (dqS (aql aqG (pv 3) aqx (nomark _)))))
    (aqg (aqk (aqu (hqu (K := K) rfl) (aqu (hqu (K := K) rfl) (pv 3) (aqp (aqh (K := K) rfl) (pv 1) aqd (fun _ _ => rfl))) aqx))) aqs)
   (aqg (aqk (pv 3))))),?_⟩
  walk_at "rd"
  have eD : Str.ofString "." = ⟨[46].toArray⟩ := by decide +kernel
  have eU : Str.ofString ".." = ⟨[46,46].toArray⟩ := by decide +kernel
  have eM : Str.ofString "-" = ⟨[45].toArray⟩ := by decide +kernel
  rw [eD,eU,eM]
  refine ⟨c,gg,m,rfl,hg0,hg1,hm,fun l hl hs => aqv.mpr ⟨_,rfl,?_⟩⟩
  obtain ⟨g0,gr,rfl⟩ : ∃ g0 gr,gg = g0 :: gr := by
   cases gg with
   | nil => cases hg0
   | cons a b => exact ⟨a,b,rfl⟩
  have fin : (46 ∈ g0 :: gr) -> l.length ≤ m -> ∃ c,(g0 :: gr).length ≤ sizeLine ∧ atI (g0 :: gr) 0 = some c ∧ rAddU K (tV l) (V.str { cps := #[c] }) H fun x H1 => rAddU K x (V.str ⟨[45].toArray⟩) H1 Q := fun h46 _ => by
   refine ⟨g0,aqn (by omega),aqj (j := 0) rfl,pqM.mpr ⟨aqn (by rw [bqn]; show l.length + 1 ≤ _; omega),?_⟩⟩
   rw [show (⟨#[g0]⟩ : Str) = ⟨[g0].toArray⟩ from rfl,fqh]
   refine pqM.mpr ⟨aqn (by rw [bqn,bqn,List.length_append,List.length_singleton,List.length_singleton]; omega),?_⟩
   rw [fqh]
   refine k _ (by simp) (by simp; omega) (fun z => absurd h46 z) (fun x hx => ?_) (qqK _ 45 (by decide))
   rcases List.mem_append.mp hx with z | z
   ·rcases List.mem_append.mp z with z | z
    ·exact .inl (hs x z)
    ·rw [List.mem_singleton.mp z]; exact .inl (List.mem_cons_self ..)
   ·exact .inr ⟨h46,List.mem_singleton.mp z⟩
  refine ite2 (fun h1 => ?_) (fun h1 => aqv.mpr ⟨_,rfl,?_⟩)
  ·have h1 := cqt.mp (of_decide_eq_true h1)
   exact fin (hs 46 (by rw [h1]; exact List.mem_cons_self ..)) (by omega)
  refine ite2 (fun h2 => ?_) (fun h2 => ?_)
  ·have h2 := cqt.mp (of_decide_eq_true h2)
   exact fin (hs 46 (by rw [h2]; exact List.mem_cons_self ..)) (by omega)
  ·refine k l (by omega) (by omega) (fun _ => hl) (fun x hx => .inl (hs x hx)) (bqR.mpr ⟨fun z => h2 (decide_eq_true (by rw [z]; rfl)),fun z => h1 (decide_eq_true (by rw [z]; rfl))⟩)
theorem fqQ (g : G w K mg) : FnOk P w K mg base CX0 2 g.eqQ g.dqK ["_law_pattern_here","_law_way_here"] (lqv K) := by
 refine g.dqy.ok cqT (fun vs H Q E h => ?_) (fun cdv A outer s H vs Q E hr h => ?_)
 ·obtain ⟨cs,xs,p,q,pw,ps,cl,r,e,ss,rfl,_⟩ := h; rfl
 ·obtain ⟨cs,xs,p,q,pw,ps,cl,r,e,ss,rfl,hp,hq,hx,hn,hok,hw,hps,hsn,hss,k⟩ := h
  refine ⟨_,(aqf (aqw (i := 2) cqT.nd rfl (Or.inr rfl) (aqN (hqT (K := K) rfl) rfl g.lqg kqZ (aqa (aqp (aqh (K := K) rfl) (pv 0) aqd (fun _ _ => rfl)) aqb)))
   (aqf (tqj (pv 1) (fqL (n := 3) (K := K) rfl rfl (aqK (aqC (i := 3) cqT.nd rfl (Or.inl rfl)) (aqK (aqC (i := 4) cqT.nd rfl (Or.inr rfl)) (aqK (aqC (i := 5) cqT.nd rfl (Or.inl rfl)) eqE)))))
   (aqf (aqB (PW.pt (fqz (cqU (aqR (pv 3))) (dqS (aql hqU (pv 5) (aqp (aqh (K := K) rfl) (pv 0) aqd (fun _ _ => rfl)) (nomark _)))))
    (aqg (aqk dqD)) aqs)
   (bqh (aqB (PW.pt (fqN (aql (jqR hr.units) (pv 2) (aqS aqb) (nomark _)) (dq6 (aql aqG (aqp (aqh (K := K) rfl) (aqp (aqh (K := K) rfl) (pv 2) (nqX jq1 aqd) (fun _ _ => rfl)) aqd (fun _ _ => rfl)) aqx (nomark _)))))
    (aqg (pq8 PassesOwn.never (aql oqO (aqq (aqr (K := K) rfl) rfl g.aqQ PySem.boot_len (aqa (pv 2) aqb)) (aqq (aqr (K := K) rfl) rfl g.aqQ PySem.boot_len (aqa (pv 4) aqb)) (nomark _))
   (aqg (eqM (fqg (K := K) rfl PySem.F.plainAttrs_list PySem.F.slot_list_append PySem.F.type_list_append cqp (pv 2) (aqa (aqp (aqh (K := K) rfl) (pv 2) (nqX jq1 aqd) (fun _ _ => rfl)) aqb)))))) aqs)
   (aqf (aqB (aql hqU (aqq (aqr (K := K) rfl) rfl g.aqQ PySem.boot_len (aqa (pv 2) aqb)) (aqq (aqr (K := K) rfl) rfl g.aqQ PySem.boot_len (aqa (pv 4) aqb)) (nomark _))
    (aqg (aqk dqD)) aqs)
   (aqg (aqk (aqE (mqV hr.units) (fqa (fx := ["_law_pieces","_law_steps"]) (fr := [2,4]) rfl rfl (by decide +kernel) rfl (by decide +kernel) rfl (by decide +kernel) rfl (.cons rfl rfl rfl rfl (.cons rfl rfl rfl rfl .nil)) rfl (cqo rfl g.dq5 (aqa (aqq (aqr (K := K) rfl) rfl g.aqQ PySem.boot_len (aqa (pv 4) aqb)) aqb)) (fun _ _ _ => (hqs (cqU (aqR (aqi (hqL g) (hr.mono (by decide)) rfl g.fqo g.cqZ.kp g.fqn .nil pass0 (aqa (aqp (aqh (K := K) rfl) (pv 1) (pv 0) (fun _ _ => rfl)) (aqa (aqp (aqh (K := K) rfl) (pv 2) (pv 0) (fun _ _ => rfl)) aqb))))))) (fun _ _ _ => (pv 0))) (aqS aqb) (nomark _))))))))),?_⟩
  walk_at "rd"
  have hxl := hx.length
  have fS : fitsP cs cl r ss e = (match spreadM cs ss.length with | none => false | some ds => r && decide (e = cl) && (List.zipWith fitsM ds ss).all id) := rfl
  refine ⟨_,_,.inr hp,aqj (j := 0) rfl,?_⟩
  walk_at "rd"
  refine ⟨_,.inr (.of hq),fun l H1 n1 s1 hl => ?_⟩
  refine ⟨pw,_,rfl,s1.tup hw,rfl,_,_,rfl,_,_,rfl,_,_,rfl,rfl,r,rfl,?_⟩
  cases r with
  | false =>
   refine ite2 (fun _ => ?_) (fun z => absurd rfl z)
   have : fitsP cs cl false ss e = false := by rw [fS]; cases spreadM cs ss.length <;> rfl
   rw [this] at k
   exact k H1 s1
  | true =>
  refine ite2 (fun z => by cases z) (fun _ => ?_)
  refine ⟨_,_,.inr (s1.tup hp),aqj (j := 1) rfl,?_⟩
  refine L2.kqA.mpr ⟨_,rfl,?_⟩
  by_cases hec : e = cl
  rotate_left
  ·have : fitsP cs cl true ss e = false := by rw [fS]; cases spreadM cs ss.length <;> simp [hec]
   rw [this] at k
   exact ite2 (fun _ => k H1 s1) (fun z => absurd (by rw [decide_eq_false hec]; rfl) z)
  refine ite2 (fun z => by rw [decide_eq_true hec] at z; cases z) (fun _ => ?_)
  have hT : PcT H1 cs xs := hx.mono s1.toT
  refine ⟨fun σ H2 => Same H H2 ∧ ∃ (ds : List Pc) (ys : List V),σ = [some (.ref p),some (.ref pw),some (.ref l),some (.bl true),some (.ref ps),some (.bl e)] ∧ H2 l = some (.lst ys) ∧ PcT H2 ds ys ∧ (∀ c ∈ ds,c ∈ cs) ∧ ds.length ≤ 200 ∧ spreadM cs ss.length = (if ds.length = ss.length then some ds else none),?_,?_⟩
  ·refine ⟨by decide,fun p2 H2 n2 s2 hp2 => ?_⟩
   have hl2 := s2 _ _ hl
   refine ⟨.list (cs.map pcD),.list [],.lst hl2 (hT.mono s2.toT).isT.is,.lst hp2 .nil,(hqn fun c hc => (hok c hc).2).shaped (by decide),by decide +kernel,_,rfl,?_⟩
   rw [eqO]
   have s02 := s1.trans s2
   have hT2 := hT.mono s2.toT
   have keep : hasRest cs = false -> Same H H2 ∧ ∃ (ds : List Pc) (ys : List V),[some (V.ref p),some (.ref pw),some (.ref l),some (.bl true),some (.ref ps),some (.bl e)] = [some (V.ref p),some (.ref pw),some (.ref l),some (.bl true),some (.ref ps),some (.bl e)] ∧ H2 l = some (.lst ys) ∧ PcT H2 ds ys ∧ (∀ c ∈ ds,c ∈ cs) ∧ ds.length ≤ 200 ∧ spreadM cs ss.length = (if ds.length = ss.length then some ds else none) := fun hr =>
    ⟨s02,cs,xs,rfl,hl2,hT2,fun c hc => hc,by omega,fqc (.inl hr)⟩
   refine ite2 (fun hne => ?_) (fun hne => keep ?_)
   rotate_left
   ·cases cs with
    | nil => rfl
    | cons a b => exact absurd rfl hne
   obtain ⟨c,hc⟩ : ∃ c,cs.getLast? = some c := by
    cases hcl : cs.getLast? with
    | some c => exact ⟨c,rfl⟩
    | none => rw [List.getLast?_eq_none_iff] at hcl; subst hcl; cases hne
   have hc' := hc
   rw [List.getLast?_eq_getElem?] at hc'
   have hcl := (List.getElem?_eq_some_iff.mp hc').1
   obtain ⟨v,hv⟩ : ∃ v,xs[cs.length - 1]? = some v := ⟨_,List.getElem?_eq_getElem (by omega)⟩
   obtain ⟨c2,pc,hc2,rfl,hpc⟩ := hT2.get hv
   rw [hc'] at hc2
   cases hc2
   have hvl : xs.getLast? = some (.ref pc) := by rw [List.getLast?_eq_getElem?,hxl]; exact hv
   have hat : ∀ j : Nat,atI (xs ++ List.replicate j (V.ref pc)) (-1) = some (.ref pc) := fun j => by
    have := kqH (l := xs ++ List.replicate j (V.ref pc)) (s := .ref pc) id (by
     cases j with
     | zero => simpa using hvl
     | succ j => rw [List.getLast?_append,List.getLast?_replicate]; simp)
    simpa using this
   refine ⟨_,_,.inl (.of hl2),by simpa using hat 0,?_⟩
   walk_at "rd"
   refine ⟨_,_,.inr (.of hpc),c.at0,?_⟩
   refine L2.aqv.mpr ⟨_,rfl,?_⟩
   rw [gqA]
   refine ite2 (fun hr => ?_) (fun hr => ?_)
   rotate_left
   ·obtain ⟨a,ds,ys,_,b⟩ := keep (by unfold hasRest; rw [hc]; simpa using hr)
    exact ⟨a,ds,ys,b⟩
   refine rqq (fun m σ H3 => ∃ j : Nat,m = ss.length - (cs.length + j) ∧ (j = 0 ∨ cs.length + j ≤ ss.length) ∧ σ = [some (.ref p),some (.ref pw),some (.ref l),some (.bl true),some (.ref ps),some (.bl e)] ∧ Same H H3 ∧ H3 l = some (.lst (xs ++ List.replicate j (.ref pc))) ∧ PcT H3 (cs ++ List.replicate j c) (xs ++ List.replicate j (.ref pc)) ∧ H3 pc = some (.tup c.vals)) (ss.length - cs.length) ⟨0,rfl,.inl rfl,rfl,s02,by simpa using hl2,by simpa using hT2,hpc⟩ ?_
   rintro m σ H3 ⟨j,rfl,hj,rfl,s3,hl3,hT3,hpc3⟩
   walk_at "rd"
   have hyl : (xs ++ List.replicate j (V.ref pc)).length = cs.length + j := by rw [List.length_append,List.length_replicate,hxl]
   have hsl : (ss.map tV).length = ss.length := List.length_map ..
   refine ⟨_,.inl (.of hl3),_,.inr (.of (s3 _ _ hps)),ite2 (fun hlt => ?_) (fun hge => ?_)⟩
   ·have hlt : cs.length + j < ss.length := by rw [hyl,hsl] at hlt; omega
    refine ⟨fun σ' H4 => σ' = [some (.ref p),some (.ref pw),some (.ref l),some (.bl true),some (.ref ps),some (.bl e)] ∧ H4 = upd H3 l (.lst (xs ++ List.replicate j (V.ref pc) ++ [.ref pc])),?_,⟨_,.of hl3⟩,_,_,.inl (.of hl3),hat j,_,hl3,?_,rfl,rfl⟩
    ·rintro σ' H4 ⟨rfl,rfl⟩
     have tk : SameT H3 (upd H3 l (.lst (xs ++ List.replicate j (V.ref pc) ++ [.ref pc]))) := fun b o hb => by
      rw [aqt (fun z => by subst z; rw [hl3] at hb; cases hb)]; exact hb
     have er : xs ++ List.replicate (j + 1) (V.ref pc) = xs ++ List.replicate j (V.ref pc) ++ [.ref pc] := by rw [List.replicate_succ',List.append_assoc]
     have ec : cs ++ List.replicate (j + 1) c = cs ++ List.replicate j c ++ [c] := by rw [List.replicate_succ',List.append_assoc]
     refine ⟨ss.length - (cs.length + (j + 1)),by omega,j + 1,rfl,.inr (by omega),rfl,fun b o hb => ?_,?_,?_,tk _ _ hpc3⟩
     ·rw [aqt (fun z => by subst z; rw [n1] at hb; cases hb)]; exact s3 _ _ hb
     ·rw [er]; exact aqm
     ·rw [er,ec]
      exact PcT.append (.cons (tk _ _ hpc3) .nil) (hT3.mono tk)
    ·rw [hyl]; exact Nat.lt_of_lt_of_le (show cs.length + j < 100000 by omega) (aqn (Nat.le_refl _))
   ·have hge : ss.length ≤ cs.length + j := by rw [hyl,hsl] at hge; omega
    refine ⟨s3,_,_,hl3,hT3,fun z hz => ?_,?_,?_⟩
    ·rcases List.mem_append.mp hz with hz | hz
     ·exact hz
     ·rw [List.eq_of_mem_replicate hz]; exact List.mem_of_getLast? hc
    ·rw [List.length_append,List.length_replicate]; omega
    ·rw [List.length_append,List.length_replicate]
     by_cases hle : cs.length ≤ ss.length
     ·have ej : j = ss.length - cs.length := by omega
      rw [iq7 hc hr hle,if_pos (by omega),ej]
     ·have ej : j = 0 := by omega
      subst ej
      rw [fqc (.inr (by omega)),if_neg (by omega),if_neg (by omega)]
  ·rintro σ H2 ⟨s2,ds,ys,rfl,hl2,hd,hsub,hdl,hsp⟩
   walk_at "rd"
   have hyl := hd.length
   have hsl : (ss.map tV).length = ss.length := List.length_map ..
   refine ⟨_,.inl (.of hl2),_,.inr (.of (s2 _ _ hps)),ite2 (fun hne => ?_) (fun he => ?_)⟩
   ·have : fitsP cs cl true ss e = false := by
     rw [fS,hsp,if_neg (fun z => hne (by rw [hyl,hsl,z]))]
    rw [this] at k
    exact k H2 s2
   have heq : ds.length = ss.length := by
    have := Classical.not_not.mp he
    rw [hyl,hsl] at this
    omega
   rw [if_pos heq] at hsp
   have fE : fitsP cs cl true ss e = (List.zipWith fitsM ds ss).all id := by
    rw [fS,hsp]
    show (true && decide (e = cl) && _) = _
    rw [decide_eq_true hec]; rfl
   have hZ : (List.zipWith fitsM ds ss).length = ss.length := by rw [List.length_zipWith]; omega
   refine ⟨_,.inr (.of (s2 _ _ hps)),by rw [hsl]; omega,by rw [hsl]; omega,fun l3 n3 => ?_⟩
   rw [hsl,Int.toNat_natCast]
   refine mqj (fun i => !((List.zipWith fitsM ds ss)[i]?.getD true)) (fun i => V.int (0 + (i : Int))) (aqn (by omega)) n3 (fun i hi H3 R s3 hR => ?_) (fun i hi hf H3 T s3 hT => ?_) (fun H3 s3 hl3 => ?_)
   ·obtain ⟨v,hv⟩ : ∃ v,ys[i]? = some v := ⟨_,List.getElem?_eq_getElem (by omega)⟩
    obtain ⟨c,pc,hc,rfl,hpc⟩ := hd.get hv
    obtain ⟨s,hs⟩ : ∃ s,ss[i]? = some s := ⟨_,List.getElem?_eq_getElem (by omega)⟩
    have hzi : (List.zipWith fitsM ds ss)[i]? = some (fitsM c s) := by rw [List.getElem?_zipWith,hc,hs]
    rw [hzi] at hR
    have hsm := hss s (List.mem_of_getElem? hs)
    have hin := hok c (hsub c (List.mem_of_getElem? hc))
    walk_at "rd"
    refine ⟨_,_,.inl (.of (s3 _ _ hl2)),by rw [Int.zero_add]; exact aqj hv,_,_,.inr (.of ((s2.trans s3) _ _ hps)),by rw [Int.zero_add]; exact aqj (by rw [List.getElem?_map,hs]; rfl),?_⟩
    exact ⟨c,pc,s,rfl,.of (s3 _ _ hpc),hin.1,hsm.1,hsm.2.1,hsm.2.2,fun H4 s4 => ⟨_,rfl,hR H4 s4⟩⟩
   ·walk_at "rd"
    exact hT H3 (Same.refl _)
   ·refine ⟨by decide,fun p4 H4 n4 s4 hp4 => ?_⟩
    have em : ((List.range ss.length).filter fun i => !((List.zipWith fitsM ds ss)[i]?.getD true)).map (fun i : Nat => V.int (0 + (i : Int))) = (((List.range ss.length).filter fun i => !((List.zipWith fitsM ds ss)[i]?.getD true)).map (fun i : Nat => (0 + (i : Int)))).map V.int := by rw [List.map_map]; rfl
    rw [em] at hl3
    refine ⟨_,.list [],.lst (s4 _ _ hl3) (fqX _),.lst hp4 .nil,mqO _,by decide,?_⟩
    rw [eqO,List.isEmpty_map,List.isEmpty_map]
    have := range_all (List.zipWith fitsM ds ss)
    rw [hZ] at this
    rw [this,<- fE]
    exact k H4 ((s2.trans s3).trans s4)
theorem eqr (g : G w K mg) : FnOk P w K mg base CX0 3 g.bqO g.bqx ["thing"] hqV := by
 refine g.bqJ.ok hqP (fun vs H Q E h => ?_) (fun cdv A outer s H vs Q E hr h => ?_)
 ·obtain ⟨d,v,rfl,_⟩ := h; rfl
 ·obtain ⟨d,v,rfl,hv,hs,k⟩ := h
  refine ⟨_,(aqg (aqk (dqA (aqi (nqH g) (hr.mono (by decide)) rfl g.kq5 g.iqP.kp g.lqe .nil pass0 (aqa (pv 0) aqb)) (cqu (aqE lql (aqq (aqr (K := K) rfl) rfl g.aqQ PySem.boot_len (aqa (pv 0) aqb)) aqd (nomark _)))))),?_⟩
  walk_at "rd"
  refine ⟨d,v,rfl,hv,hs,fun H1 s1 => ?_⟩
  walk_at "rd"
  have k1 := k H1 s1
  cases hv with
  | str x =>
   refine ite2 (fun h => ?_) (fun h => ?_)
   ·walk_at "rd"
    refine ⟨aqn (fqJ hs),?_⟩
    have e : ftx (.str x) = decide ((0 : Int) < (x.length : Int)) := by
     simp only [ftx]
     rw [show x.cps.toList.all isSg = true from h,Bool.true_and]
     exact decide_eq_decide.mpr (by omega)
    rw [e] at k1
    exact k1
   ·rw [show ftx (.str x) = false by simp only [ftx]; rw [show x.cps.toList.all isSg = false from (Bool.not_eq_true _).mp h,Bool.false_and]] at k1
    exact k1
  | _ => exact k1
theorem cqS (g : G w K mg) : FnOk P w K mg base CX0 3 g.eq7 g.dqJ ["piece","step"] (lqF K) := by
 refine g.bqT.ok kq8 (fun vs H Q E h => ?_) (fun cdv A outer s H vs Q E hr h => ?_)
 ·obtain ⟨c,s,p,rfl,_⟩ := h; rfl
 ·obtain ⟨c,s,p,rfl,hp,hs,hh,ht,k⟩ := h
  refine ⟨_,(aqf (aqB (aqR (aqi (iq1 g) (hr.mono (by decide)) rfl g.iqw g.gqQ.kp g.iqv .nil pass0 (aqa (pv 1) aqb)))
    (aqg (aqk dqD)) aqs)
   (aqf (aqB (aql aqG (aqp (aqh (K := K) rfl) (pv 0) aqd (fun _ _ => rfl)) aqx (nomark _))
    (aqg (aqk (aqE aqG (pv 1) (aqp (aqh (K := K) rfl) (pv 0) aqd (fun _ _ => rfl)) (nomark _)))) aqs)
   (aqf (aqB (aql aqG (aqp (aqh (K := K) rfl) (pv 0) aqd (fun _ _ => rfl)) aqx (nomark _))
    (aqg (aqk (aqi (lqr g) (hr.mono (by decide)) rfl g.iqE g.gqC.kp g.iq3 .nil pass0 (aqa (pv 0) (aqa (pv 1) aqb))))) aqs)
   (aqf (aqB (aql aqG (aqp (aqh (K := K) rfl) (pv 0) aqd (fun _ _ => rfl)) aqx (nomark _))
    (aqg (aqk (aqi (lqp g) (hr.mono (by decide)) rfl g.jqo g.gqD.kp g.iqI .nil pass0 (aqa (pv 1) aqb)))) aqs)
   (aqg (aqk (eqF (aql aqG (aqp (aqh (K := K) rfl) (pv 0) aqd (fun _ _ => rfl)) aqx (nomark _)) (aqi (jqU g) (hr.mono (by decide)) rfl g.jqf g.hqp.kp g.iqR .nil pass0 (aqa (pv 1) aqb)) dqD))))))),?_⟩
  walk_at "rd"
  refine ⟨s,rfl,_,rfl,?_⟩
  have kk := k
  by_cases hdt : isDot s = true
  ·rw [if_pos hdt]
   have e : fitsM c s = false := by unfold fitsM; rw [hdt]; rfl
   rw [e] at k
   exact k H (Same.refl _)
  rw [if_neg hdt]
  have hdf : isDot s = false := by simpa using hdt
  refine ⟨_,_,.inr hp,c.at0,?_⟩
  refine L2.aqv.mpr ⟨_,rfl,?_⟩
  rw [hqR]
  cases c with
  | step w =>
   refine ite2 (fun _ => ⟨_,_,.inr hp,aqj (j := 1) rfl,?_⟩) (fun z => absurd rfl z)
   refine L2.aqv.mpr ?_
   have e : fitsM (.step w) s = decide ((⟨s.toArray⟩ : Str) = ⟨w.toArray⟩) := by
    unfold fitsM; rw [hdf]
    show decide (s = w) = _
    exact decide_eq_decide.mpr cqt.symm
   rw [<- e]
   exact k H (Same.refl _)
  | part h n t =>
   refine ite2 (fun z => by cases z) (fun _ => ⟨_,_,.inr hp,Pc.at0 _,?_⟩)
   refine L2.aqv.mpr ⟨_,rfl,?_⟩
   rw [cqj]
   refine ite2 (fun _ => ?_) (fun z => absurd rfl z)
   have e : fitsM (.part h n t) s = partB h t s := by unfold fitsM; rw [hdf]; rfl
   exact ⟨h,n,t,s,p,rfl,hp,hs,hh,ht,by rw [<- e]; exact k H (Same.refl _)⟩
  | num n =>
   refine ite2 (fun z => by cases z) (fun _ => ⟨_,_,.inr hp,Pc.at0 _,?_⟩)
   refine L2.aqv.mpr ⟨_,rfl,?_⟩
   rw [cqj]
   refine ite2 (fun z => by cases z) (fun _ => ⟨_,_,.inr hp,Pc.at0 _,?_⟩)
   refine L2.aqv.mpr ⟨_,rfl,?_⟩
   rw [eqd]
   refine ite2 (fun _ => ?_) (fun z => absurd rfl z)
   have e : fitsM (.num n) s = numB s := by unfold fitsM; rw [hdf]; rfl
   exact ⟨s,rfl,hs,fun H' sm => by rw [<- e]; exact k H' sm⟩
  | word n =>
   refine ite2 (fun z => by cases z) (fun _ => ⟨_,_,.inr hp,Pc.at0 _,?_⟩)
   refine L2.aqv.mpr ⟨_,rfl,?_⟩
   rw [cqj]
   refine ite2 (fun z => by cases z) (fun _ => ⟨_,_,.inr hp,Pc.at0 _,?_⟩)
   refine L2.aqv.mpr ⟨_,rfl,?_⟩
   rw [eqd]
   refine ite2 (fun z => by cases z) (fun _ => ⟨_,_,.inr hp,Pc.at0 _,?_⟩)
   refine L2.aqv.mpr ⟨_,rfl,?_⟩
   rw [gqB]
   refine ite2 (fun _ => ?_) (fun z => absurd rfl z)
   have e : fitsM (.word n) s = wordB s := by unfold fitsM; rw [hdf]; rfl
   exact ⟨s,rfl,hs,fun H' sm => by rw [<- e]; exact k H' sm⟩
  | _ =>
   refine ite2 (fun z => by cases z) (fun _ => ⟨_,_,.inr hp,Pc.at0 _,?_⟩)
   refine L2.aqv.mpr ⟨_,rfl,?_⟩
   rw [cqj]
   refine ite2 (fun z => by cases z) (fun _ => ⟨_,_,.inr hp,Pc.at0 _,?_⟩)
   refine L2.aqv.mpr ⟨_,rfl,?_⟩
   rw [eqd]
   refine ite2 (fun z => by cases z) (fun _ => ⟨_,_,.inr hp,Pc.at0 _,?_⟩)
   refine L2.aqv.mpr ⟨_,rfl,?_⟩
   rw [gqB]
   refine ite2 (fun z => by cases z) (fun _ => ?_)
   have e := k H (Same.refl _)
   unfold fitsM at e
   rw [hdf] at e
   exact e
theorem hqI (g : G w K mg) : FnOk P w K mg base (CXN P w base) 3 g.bq7 g.bqK ["pattern","values"] (hqD K g.aqX) := by
 refine g.dqv.okn bqL (fun vs H Q E h => ?_) (fun cdv A outer s H vs Q E hr h => ?_)
 ·obtain ⟨cs,xs,p,q,pz,cl,ws,ys,rfl,_⟩ := h; rfl
 ·obtain ⟨cs,xs,p,q,pz,cl,ws,ys,rfl,hp,hq,hx,hn,hpv,hw,hwl,kQ,kE⟩ := h
  refine ⟨_,(aqf (aqw (i := 2) bqL.nd rfl (Or.inl rfl) (aqi (mqQ g) (hr.mono (by decide)) rfl g.kqa g.hqS.kp g.jq6 .nil pass0 (aqa (aqp (aqh (K := K) rfl) (pv 0) (aqA (v := bqv) rfl g.bqm ⟨_,rfl⟩) (fun _ _ => rfl)) aqb)))
   (aqg (cqs PassesOwn.leaving rfl (cqa (K := K) rfl (pv 1)) (fqL (n := 2) (K := K) rfl rfl (aqK (aqC (i := 3) bqL.nd rfl (Or.inl rfl)) (aqK (aqC (i := 4) bqL.nd rfl (Or.inl rfl)) eqE)))
   (aqg (aqB (aql (oqx (K := K) rfl) (pv 3) (pv 2) (by with_unfolding_all rfl))
    (aqg (lqE jqK rfl g.iqM g.jqh (dqx g) (hr.mono (by decide)) g.cqk rfl pass0 rfl (aqa (pv 3) aqb))) aqs))))),?_⟩
  walk_at "rd"
  refine ⟨_,_,.inr hp,rfl,cs,xs,q,rfl,hq,hx,by omega,fun p1 H1 s1 hp1 => ⟨⟨_,.of (s1 _ _ hpv)⟩,?_⟩⟩
  have hgl := qqG cs
  refine eqj (xs := ys) (fun i σ H' => Same H1 H' ∧ (∀ w ∈ ws.take i,w.1 ∈ gapsM cs) ∧ ∃ v3 v4,σ = [some (.ref p),some (.ref pz),some (.ref p1),v3,v4]) ⟨Same.refl _,(fun w hw => by rw [List.take_zero] at hw; cases hw),none,none,rfl⟩ (fun i σ H' _ h => .of ((s1.trans h.1) _ _ hpv)) ?_ ?_
  ·rintro i x σ H2 hxi ⟨s2,hpre,v3,v4,rfl⟩
   obtain ⟨n,d,b,v,h1,rfl,h3,h4⟩ := hw.get hxi
   have s12 := s1.trans s2
   walk_at "rd"
   refine ⟨b,_,rfl,.of (s12 _ _ h3),rfl,_,_,rfl,_,_,rfl,rfl,p1,_,rfl,.inl (.of (s2 _ _ hp1)),rfl,?_,_,rfl,?_⟩
   ·exact List.all_eq_true.mpr fun y hy => by obtain ⟨z,_,rfl⟩ := List.mem_map.mp hy; rfl
   have e : inV (tV n) ((gapsM cs).map tV) = decide (n ∈ gapsM cs) := rqW n (gapsM cs)
   rw [e]
   by_cases hg : n ∈ gapsM cs
   ·rw [decide_eq_true hg]
    refine ite2 (fun z => absurd z (by decide)) (fun _ => ⟨s2,fun w hw' => ?_,_,_,rfl,rfl⟩)
    rw [List.take_add_one,h1] at hw'
    rcases List.mem_append.mp hw' with z | z
    ·exact hpre w z
    ·have : w = (n,d) := by simpa using z
     rw [this]; exact hg
   ·rw [decide_eq_false hg]
    refine ite2 (fun _ => ?_) (fun z => absurd rfl z)
    exact kqd fun dd H3 s3 hd => kE n (nqh h1 hpre hg) dd H3 (s12.trans s3) hd
  ·rintro σ H2 ⟨s2,hpre,v3,v4,rfl⟩
   rw [hw.length,List.take_length] at hpre
   exact kQ (kqf hpre) H2 (s1.trans s2)
theorem eqD (g : G w K mg) : FnOk P w K mg base CX0 3 g.dqU g.dqb ["one","other"] (kqB K) := by
 refine g.cqW.ok eq8 (fun vs H Q E h => ?_) (fun cdv A outer s H vs Q E hr h => ?_)
 ·obtain ⟨cs,ds,xs,ys,p,q,p',q',e,e',rfl,_⟩ := h; rfl
 ·obtain ⟨cs,ds,xs,ys,p,q,p',q',e,e',rfl,hp,hq,hx,hp',hq',hy,hcl,hdl,oc,od,k⟩ := h
  refine ⟨_,(aqf (cqs PassesOwn.never rfl (pqG (K := K) rfl rfl g.pqX (aqa (aqp (aqh (K := K) rfl) (pv 0) (aqA (v := bqv) rfl g.bqm ⟨_,rfl⟩) (fun _ _ => rfl)) (aqa (aqp (aqh (K := K) rfl) (pv 1) (aqA (v := bqv) rfl g.bqm ⟨_,rfl⟩) (fun _ _ => rfl)) aqb))) (fqL (n := 2) (K := K) rfl rfl (aqK (aqC (i := 2) eq8.nd rfl (Or.inl rfl)) (aqK (aqC (i := 3) eq8.nd rfl (Or.inl rfl)) eqE)))
   (aqg (aqB (aql (jqR hr.units) (aqi (eqJ g) (hr.mono (by decide)) rfl g.eqe g.dqm.kp g.eqm .nil pass0 (aqa (pv 2) aqb)) (aqi (eqJ g) (hr.mono (by decide)) rfl g.eqe g.dqm.kp g.eqm .nil pass0 (aqa (pv 3) aqb)) (nomark _))
    (aqg (aqk (aqE (sq9 (K := K) rfl hr.units) (aqi (eqJ g) (hr.mono (by decide)) rfl g.eqe g.dqm.kp g.eqm .nil pass0 (aqa (pv 2) aqb)) (aqi (eqJ g) (hr.mono (by decide)) rfl g.eqe g.dqm.kp g.eqm .nil pass0 (aqa (pv 3) aqb)) (nomark _)))) aqs)))
   (aqg (aqk (aqE oqO (aqq (aqr (K := K) rfl) rfl g.aqQ PySem.boot_len (aqa (aqp (aqh (K := K) rfl) (pv 0) (aqA (v := bqv) rfl g.bqm ⟨_,rfl⟩) (fun _ _ => rfl)) aqb)) (aqq (aqr (K := K) rfl) rfl g.aqQ PySem.boot_len (aqa (aqp (aqh (K := K) rfl) (pv 1) (aqA (v := bqv) rfl g.bqm ⟨_,rfl⟩) (fun _ _ => rfl)) aqb)) (nomark _))))),?_⟩
  walk_at "rd"
  have hxl := hx.length
  have hyl := hy.length
  refine ⟨_,_,.inr hp,aqj (j := 0) rfl,_,_,.inr hp',aqj (j := 0) rfl,q,q',xs,ys,⟨rfl,rfl⟩,hq,hq',?_⟩
  refine qqW (fun i σ H' => Same H H' ∧ ∃ v2 v3 : Option V,σ = [some (.ref p),some (.ref p'),v2,v3] ∧ moreM cs ds = moreM (cs.drop i) (ds.drop i)) ⟨Same.refl _,none,none,rfl,rfl⟩ (fun i σ H' hi ⟨s,_⟩ => ⟨s.tup hq,s.tup hq'⟩) ?_ ?_
  ·rintro i x y σ H1 T hxi hyi ⟨s1,v2,v3,rfl,hm⟩ hT
   obtain ⟨c,pc,hc,rfl,hpc⟩ := hx.get hxi
   obtain ⟨d,pd,hd,rfl,hpd⟩ := hy.get hyi
   have s2 := s1.trans (aq0 (o := .tup [.ref pc,.ref pd]) hT)
   refine ⟨T,_,rfl,.of aqm,rfl,_,_,rfl,_,_,rfl,rfl,?_⟩
   walk_at "rd"
   generalize upd H1 T (.tup [.ref pc,.ref pd]) = H2 at s2
   have ocx := oc c (List.mem_of_getElem? hc)
   have odx := od d (List.mem_of_getElem? hd)
   refine ⟨c,pc,rfl,s2.tup hpc,ocx,fun r3 H3 s3 hr3 => ?_⟩
   have s23 := s2.trans s3
   refine ⟨d,pd,rfl,s23.tup hpd,odx,fun r4 H4 s4 hr4 => ?_⟩
   have s24 := s23.trans s4
   refine ⟨.tuple ((worthM c).map PyData.int),.tuple ((worthM d).map PyData.int),.tup (s4 _ _ hr3) (fqX _),.tup hr4 (fqX _),jqa _,jqa _,_,rfl,?_⟩
   rw [qqw]
   have ec : cs.drop i = c :: cs.drop (i + 1) := by obtain ⟨h1,h2⟩ := List.getElem?_eq_some_iff.mp hc; rw [<- h2]; exact List.drop_eq_getElem_cons h1
   have ed : ds.drop i = d :: ds.drop (i + 1) := by obtain ⟨h1,h2⟩ := List.getElem?_eq_some_iff.mp hd; rw [<- h2]; exact List.drop_eq_getElem_cons h1
   have hm2 : moreM cs ds = if worthM c = worthM d then moreM (cs.drop (i + 1)) (ds.drop (i + 1)) else HT.lexLt (worthM d) (worthM c) := by rw [hm,ec,ed]; rfl
   refine ite2 (fun hne => ?_) (fun hne => ?_)
   ·have hne : ¬ worthM c = worthM d := by simpa using hne
    refine ⟨c,pc,rfl,s24.tup hpc,ocx,fun r5 H5 s5 hr5 => ⟨d,pd,rfl,(s24.trans s5).tup hpd,odx,fun r6 H6 s6 hr6 => ?_⟩⟩
    refine ⟨r5,r6,worthM c,worthM d,rfl,rfl,.of (s6 _ _ hr5),.of hr6,?_⟩
    rw [if_neg hne] at hm2
    rw [<- hm2]
    exact k H6 ((s24.trans s5).trans s6)
   ·have hne : worthM c = worthM d := by simpa using hne
    rw [if_pos hne] at hm2
    exact ⟨s24,_,_,⟨rfl,rfl⟩,hm2⟩
  ·rintro σ H1 ⟨s1,v2,v3,rfl,hm⟩
   walk_at "rd"
   refine ⟨_,_,.inr (s1.tup hp),aqj (j := 0) rfl,xs,.inr (s1.tup hq),_,_,.inr (s1.tup hp'),aqj (j := 0) rfl,ys,.inr (s1.tup hq'),?_⟩
   have e1 : moreM cs ds = decide ((xs.length : Int) < (ys.length : Int)) := by
    rw [hm,hxl,hyl]
    have hor : cs.drop (min cs.length ds.length) = [] ∨ ds.drop (min cs.length ds.length) = [] := by simp only [List.drop_eq_nil_iff]; omega
    have hl : (cs.drop (min cs.length ds.length)).length < (ds.drop (min cs.length ds.length)).length ↔ (cs.length : Int) < (ds.length : Int) := by
     rw [List.length_drop,List.length_drop]; omega
    rw [<- decide_eq_decide.mpr hl]
    exact qqL hor
   walk_at "rd"
   rw [<- e1]
   exact k H1 s1
theorem hqc (g : G w K mg) : FnOk P w K mg base CX0 3 g.dqH g.cq8 ["_law_cell","_law_name","_law_signs_here"] (kqR K) := by
 refine g.dqQ.ok dqh (fun vs H Q E h => ?_) (fun cdv A outer s H vs Q E hr h => ?_)
 ·obtain ⟨c,n,gg,rfl,_⟩ := h; rfl
 ·obtain ⟨c,n,gg,rfl,hg0,hg1,hgs,k⟩ := h
  refine ⟨_,(aqf (aqw (i := 3) dqh.nd rfl (Or.inl rfl) (aqu aqM (pv 0) aqd))
   (aqf (aqw (i := 4) dqh.nd rfl (Or.inl rfl) (aqu aqM (aqu cqE (aqu bqi (pv 0) aqd) aqd) aqd))
   (aqf (aqB (aql oqO (pv 3) aqd (nomark _))
    (aqg (aqk (aqY (aqa aqx (aqa (aqi (fqF g) (hr.mono (by decide)) rfl g.eqN g.dqu.kp g.eqH .nil pass0 (aqa (aqu bqi (pv 4) aqd) (aqa (pv 2) (aqa (aqu (aqz (K := K)) aqd (aqu aqM (pv 4) aqd)) aqb)))) aqb))))) aqs)
   (aqf (aqB (aql aqG (pv 3) aqd (nomark _))
    (aqf (aqw (i := 5) dqh.nd rfl (Or.inl rfl) (aqi (gqx g) (hr.mono (by decide)) rfl g.fq7 g.eqg.kp g.gql .nil pass0 (aqa (aqu bqi (pv 4) aqd) (aqa (pv 2) (aqa (aqu aqM (pv 4) aqd) aqb)))))
   (aqg (aqk (aqY (aqa aqx (aqa (pv 5) (aqa (pv 1) (aqa (aqi (gqx g) (hr.mono (by decide)) rfl g.fq7 g.eqg.kp g.gql .nil pass0 (aqa (aqu bqi (pv 4) aqd) (aqa (pv 2) (aqa (aqu (aqz (K := K)) (aqN lqT rfl g.pqa mqU (aqa (aqE aqG (pv 5) aqx (nomark _)) aqb)) (aqu aqM (aqu bqi (pv 4) aqd) aqd)) aqb)))) aqb)))))))) aqs)
   (aqg (aqk (aqY (aqa (aqp (aqh (K := K) rfl) (aqS (aqa aqx (aqa aqx (aqa aqx aqb)))) (aqu oqt (pv 3) aqd) (fun _ _ => rfl)) (aqa (pv 1) aqb))))))))),?_⟩
  walk_at "rd"
  have hm0 : 0 ≤ c / 6 * 48271 % 2147483647 := Int.emod_nonneg _ (by decide)
  refine ⟨by decide,⟨by decide,by decide⟩,.inr ⟨by decide,by decide⟩,by decide,?_⟩
  generalize c / 6 * 48271 % 2147483647 = mo at hm0
  have c0 := Int.emod_nonneg c (show (6 : Int) ≠ 0 by decide)
  have c1 := Int.emod_lt_of_pos c (show (0 : Int) < 6 by decide)
  refine ite2 (fun _ => ⟨⟨by decide,by decide⟩,by decide,?_⟩) (fun h2 => ite2 (fun _ => ⟨⟨by decide,by decide⟩,by decide,?_⟩) (fun h3 => ?_))
  ·obtain ⟨m,hm,hm3⟩ : ∃ m : Nat,1 + mo % 3 = (m : Int) ∧ 1 ≤ m ∧ m ≤ 3 := ⟨(1 + mo % 3).toNat,by omega,by omega,by omega⟩
   rw [hm]
   refine ⟨_,gg,m,rfl,hg0,hg1,by omega,by omega,fun l l0 l1 _ lg ld => ⟨by decide,fun p H1 n1 s1 hp1 => ?_⟩⟩
   exact k (.step l) p H1 ⟨l0,by omega,fun x hx => (lg x hx).elim (hgs x) (fun z => by rw [z.2]; decide),ld⟩ rfl (fun z => by cases z) s1 hp1
  ·obtain ⟨m,hm,hm3⟩ : ∃ m : Nat,mo % 3 = (m : Int) ∧ m ≤ 2 := ⟨(mo % 3).toNat,by omega,by omega⟩
   rw [hm]
   refine ⟨_,gg,m,rfl,hg0,hg1,by omega,fun hd hdl hdg => ⟨⟨by decide,by decide⟩,aqv.mpr (tqD.mpr ⟨⟨by decide,by decide⟩,by decide,pqS.mpr ?_⟩)⟩⟩
   obtain ⟨b,hb,hb1⟩ : ∃ b : Nat,mo / 8 % 2 = (b : Int) ∧ b ≤ 1 := ⟨(mo / 8 % 2).toNat,by omega,by omega⟩
   obtain ⟨t,ht,ht2,ht0⟩ : ∃ t : Nat,(if decide ((⟨hd.toArray⟩ : Str) = ⟨#[]⟩) = true then 1 else 0) + mo / 8 % 2 = (t : Int) ∧ t ≤ 2 ∧ (hd = [] -> 0 < t) := by
    rw [hb]
    by_cases he : hd = []
    ·rw [if_pos (decide_eq_true (by rw [he]))]
     exact ⟨1 + b,by omega,by omega,fun _ => by omega⟩
    ·rw [if_neg (fun z => he (tqc.mp (of_decide_eq_true z)))]
     exact ⟨b,by omega,by omega,fun z => absurd z he⟩
   rw [ht]
   refine ⟨_,gg,t,rfl,hg0,hg1,by omega,fun tl tll tlg => ⟨by decide,fun p H1 n1 s1 hp1 => ?_⟩⟩
   refine k (.part hd n tl) p H1 ⟨by omega,by omega,fun x hx => hgs x (hdg x hx),fun x hx => hgs x (tlg x hx),fun z => ?_⟩ rfl (fun _ => rfl) s1 hp1
   obtain ⟨z1,z2⟩ := List.append_eq_nil_iff.mp z
   have := ht0 z1
   rw [z2] at tll
   simp at tll
   omega
  ·refine ⟨by decide,fun p H1 n1 s1 hp1 => ?_⟩
   have h : c % 6 - 3 = 0 ∨ c % 6 - 3 = 1 ∨ c % 6 - 3 = 2 := by omega
   rcases h with h | h | h <;> rw [h]
   ·exact ⟨_,_,.inl (.of hp1),aqj (j := 0) rfl,by decide,fun p2 H2 n2 s2 e2 => k (.num n) p2 H2 trivial rfl (fun _ => rfl) (s1.trans s2) e2⟩
   ·exact ⟨_,_,.inl (.of hp1),aqj (j := 1) rfl,by decide,fun p2 H2 n2 s2 e2 => k (.word n) p2 H2 trivial rfl (fun _ => rfl) (s1.trans s2) e2⟩
   ·exact ⟨_,_,.inl (.of hp1),aqj (j := 2) rfl,by decide,fun p2 H2 n2 s2 e2 => k (.gap n) p2 H2 trivial rfl (fun _ => rfl) (s1.trans s2) e2⟩
theorem lqm (g : G w K mg) : FnOk P w K mg base CX0 3 g.eqY g.dqP ["_law_piece_here","_law_cell","_law_signs_here"] (lqK K) := by
 refine g.gqz.ok fqw (fun vs H Q E h => ?_) (fun cdv A outer s H vs Q E hr h => ?_)
 ·obtain ⟨c,p,i,g,rfl,_⟩ := h; rfl
 ·obtain ⟨c,p,i,sg,rfl,hp,hok,hg0,hgl,hgs,k⟩ := h
  refine ⟨_,(aqf (aqw (i := 3) fqw.nd rfl (Or.inl rfl) (aqu aqM (aqu cqE (pv 1) aqd) aqd))
   (aqf (aqB (aql aqG (aqp (aqh (K := K) rfl) (pv 0) aqd (fun _ _ => rfl)) aqx (nomark _))
    (aqg (aqk (aqp (aqh (K := K) rfl) (pv 0) aqd (fun _ _ => rfl)))) aqs)
   (aqf (aqB (aql aqG (aqp (aqh (K := K) rfl) (pv 0) aqd (fun _ _ => rfl)) aqx (nomark _))
    (aqg (aqk (aqN hq9 rfl g.oqp nqo (aqa (aqp (aqh (K := K) rfl) (aqS (aqa (aqu aqM (pv 1) aqd) (aqa (aqu aqM (pv 1) (aqu rqh aqd aqd)) aqb))) (aqu aqM (pv 3) aqd) (fun _ _ => rfl)) aqb)))) aqs)
   (aqf (aqB (aql aqG (aqp (aqh (K := K) rfl) (pv 0) aqd (fun _ _ => rfl)) aqx (nomark _))
    (aqg (aqk (aqi (fqF g) (hr.mono (by decide)) rfl g.eqN g.dqu.kp g.eqH .nil pass0 (aqa (aqu bqi (pv 3) aqd) (aqa aqx (aqa (aqu (aqz (K := K)) aqd (aqu aqM (pv 3) aqd)) aqb)))))) aqs)
   (aqf (aqw (i := 4) fqw.nd rfl (Or.inl rfl) (aqi (fqF g) (hr.mono (by decide)) rfl g.eqN g.dqu.kp g.eqH .nil pass0 (aqa (aqu bqi (pv 3) aqd) (aqa (pv 2) (aqa (aqu (aqz (K := K)) aqd (aqu aqM (pv 3) aqd)) aqb)))))
   (aqf (aqB (aql aqG (aqp (aqh (K := K) rfl) (pv 0) aqd (fun _ _ => rfl)) aqx (nomark _))
    (aqg (aqk (aqu (aqz (K := K)) (aqu (aqz (K := K)) (aqp (aqh (K := K) rfl) (pv 0) aqd (fun _ _ => rfl)) (pv 4)) (aqp (aqh (K := K) rfl) (pv 0) aqd (fun _ _ => rfl))))) aqs)
   (aqg (aqk (pv 4))))))))),?_⟩
  walk_at "rd"
  have b3 : 300000 ≤ sizeLine := by decide
  refine ⟨.inr ⟨by decide,by decide⟩,by decide,_,_,.inr (.of hp),c.at0,aqv.mpr ⟨_,rfl,?_⟩⟩
  generalize i * 69621 % 2147483629 = m
  rw [hqR]
  refine ite2 (fun h1 => ?_) (fun h1 => ⟨_,_,.inr (.of hp),c.at0,aqv.mpr ⟨_,rfl,?_⟩⟩)
  ·cases c with
   | step w =>
    refine ⟨_,_,.inr (.of hp),aqj (j := 1) rfl,k w H (Same.refl _) ?_ hok.1 (by have := hok.2.1; omega) hok.2.2.1⟩
    show (!isDot w && decide (w = w)) = true
    rw [hok.2.2.2,decide_eq_true rfl]; rfl
   | _ => cases h1
  rw [eqd]
  refine ite2 (fun h3 => ?_) (fun h3 => ⟨_,_,.inr (.of hp),c.at0,aqv.mpr ⟨_,rfl,?_⟩⟩)
  ·refine ⟨by decide,⟨by decide,by decide,by decide⟩,by decide +kernel,by decide,fun p2 H2 n2 s2 hp2 => ⟨by decide,?_⟩⟩
   obtain ⟨j,hj,ej⟩ : ∃ j : Nat,j < 2 ∧ m % 2 = (j : Int) := ⟨(m % 2).toNat,by omega,by omega⟩
   obtain ⟨z,hz,hz0,hz1⟩ : ∃ z : Int,[V.int (i % 12),V.int (i % 10 ^ Int.toNat 60)][j]? = some (.int z) ∧ 0 ≤ z ∧ z < 10 ^ 60 := by
    have t60 : (0 : Int) < 10 ^ Int.toNat 60 := by decide +kernel
    match j,hj with
    | 0,_ => exact ⟨_,rfl,Int.emod_nonneg _ (by decide),Int.lt_of_lt_of_le (Int.emod_lt_of_pos _ (by decide)) (by decide +kernel)⟩
    | 1,_ => exact ⟨_,rfl,Int.emod_nonneg _ (by omega),Int.emod_lt_of_pos _ t60⟩
   refine ⟨_,_,.inl (.of hp2),by rw [ej]; exact aqj hz,z,rfl,?_,?_⟩
   ·by_cases h0 : z.natAbs = 0
    ·rw [h0]; decide
    ·rw [Nat.log2_lt h0]
     have : z.natAbs < 10 ^ 60 := by omega
     exact Nat.lt_of_lt_of_le this (by decide +kernel)
   ·obtain ⟨n,hn⟩ := Int.eq_ofNat_of_zero_le hz0
    subst hn
    have hd := jqT n
    have ed : dg (n : Int) = (Nat.toDigits 10 n).map Char.toNat := by unfold dg; rw [PySem.W.KIN.signs_num]
    have hfg := tqG (i := (n : Int)) (by omega)
    have hdl : (dg (n : Int)).length ≤ 60 := by rw [ed,List.length_map]; exact oq3 (by omega)
    have hne : dg (n : Int) ≠ [] := by rw [ed]; exact hd.2.1
    have hnum : numB (dg (n : Int)) = true := by
     unfold numB
     have hp1 : 1 ≤ (dg (n : Int)).length := List.length_pos_iff.mpr hne
     have hal : (dg (n : Int)).all isFig = true := List.all_eq_true.mpr fun x hx => by
      have := hfg x hx
      simp only [isFig,Bool.and_eq_true,decide_eq_true_eq]
      exact this
     rw [decide_eq_true hp1,decide_eq_true hdl,hal]
     by_cases h0 : (dg (n : Int)).head? = some 48
     ·rw [ed] at h0
      have := hd.2.2 h0
      subst this
      rw [show dg ((0 : Nat) : Int) = [48] by decide +kernel]; decide
     ·rw [decide_eq_false h0]; simp
    cases c with
    | num nm =>
     refine k (dg (n : Int)) H2 s2 ?_ (List.length_pos_iff.mpr hne) (by omega) (fun x hx => uqf (hfg x hx))
     show (!isDot (dg (n : Int)) && numB (dg (n : Int))) = true
     rw [hnum,Bool.and_true,Bool.not_eq_true']
     refine bqR.mpr ⟨fun z => ?_,fun z => ?_⟩
     ·have := hfg 46 (by rw [z]; decide); revert this; decide
     ·have := hfg 46 (by rw [z]; decide); revert this; decide
    | _ => cases h3
  rw [gqB]
  refine ite2 (fun h4 => ?_) (fun h4 => ?_)
  ·obtain ⟨t,ht,ht1,ht4⟩ : ∃ t : Nat,1 + m % 4 = (t : Int) ∧ 1 ≤ t ∧ t ≤ 4 := ⟨(1 + m % 4).toNat,by omega,by omega,by omega⟩
   have eA : Str.ofString "abcxyz" = ⟨([97,98,99,120,121,122] : List Nat).toArray⟩ := by decide +kernel
   rw [ht,eA]
   refine ⟨⟨by decide,by decide⟩,by decide,_,[97,98,99,120,121,122],t,rfl,by decide,by decide,by omega,by omega,fun l l0 l1 l2 lg ld => ?_⟩
   have hll := l2 (by decide)
   have hin : ∀ x ∈ l,x ∈ ([97,98,99,120,121,122] : List Nat) := fun x hx => (lg x hx).elim id (fun z => absurd z.1 (by decide))
   have sm : ∀ x ∈ ([97,98,99,120,121,122] : List Nat),isSma x = true ∧ isSg x = true := by decide
   cases c with
   | word nm =>
    refine k l H (Same.refl _) ?_ l0 (by omega) (fun x hx => (sm x (hin x hx)).2)
    show (!isDot l && wordB l) = true
    unfold wordB
    rw [ld,decide_eq_true (show 1 ≤ l.length from l0),decide_eq_true (show l.length ≤ 60 by omega),List.all_eq_true.mpr fun x hx => (sm x (hin x hx)).1]
    rfl
   | _ => cases h4
  ·obtain ⟨t,ht,ht1,ht4⟩ : ∃ t : Nat,1 + m % 4 = (t : Int) ∧ 1 ≤ t ∧ t ≤ 4 := ⟨(1 + m % 4).toNat,by omega,by omega,by omega⟩
   rw [ht]
   refine ⟨⟨by decide,by decide⟩,by decide,_,sg,t,rfl,hg0,hgl,by omega,by omega,fun l l0 l1 l2 lg ld => ?_⟩
   have hls : ∀ x ∈ l,isSg x = true := fun x hx => (lg x hx).elim (hgs x) (fun z => by rw [z.2]; decide)
   refine ⟨_,_,.inr (.of hp),c.at0,aqv.mpr ⟨_,rfl,?_⟩⟩
   rw [cqj]
   refine ite2 (fun h5 => ?_) (fun h5 => ?_)
   ·cases c with
    | part a n b =>
     obtain ⟨o1,o2,o3,o4,o5⟩ := hok
     refine ⟨_,_,.inr (.of hp),aqj (j := 1) rfl,gqG.mpr ⟨aqn (by rw [bqn,bqn]; omega),_,_,.inr (.of hp),aqj (j := 3) rfl,gqG.mpr ⟨aqn ?_,?_⟩⟩⟩
     ·rw [fqh,bqn,bqn,List.length_append]; omega
     ·rw [fqh,fqh]
      have hlen : (a ++ l ++ b).length = a.length + l.length + b.length := by simp only [List.length_append]
      refine k (a ++ l ++ b) H (Same.refl _) ?_ (by omega) (by omega) (fun x hx => ?_)
      ·show (!isDot (a ++ l ++ b) && partB a b (a ++ l ++ b)) = true
       have hdot : isDot (a ++ l ++ b) = false := by
        have o6 := List.length_pos_iff.mpr o5
        rw [List.length_append] at o6
        refine bqR.mpr ⟨fun z => ?_,fun z => ?_⟩
        ·have zl := congrArg List.length z
         rw [hlen,show sUp.length = 2 from rfl] at zl
         obtain ⟨x,hx⟩ := List.length_eq_one_iff.mp (show l.length = 1 by omega)
         have hm : x ∈ sUp := by rw [<- z,hx]; simp
         have : x = 46 := by revert hm; unfold sUp; simp
         subst this
         exact absurd hx (bqR.mp ld).2
        ·have zl := congrArg List.length z
         rw [hlen,show sStay.length = 1 from rfl] at zl
         omega
       unfold partB
       rw [hdot]
       simp only [Bool.not_false,Bool.true_and,Bool.and_eq_true,decide_eq_true_eq]
       refine ⟨by rw [List.append_assoc,List.take_left],?_,by omega⟩
       have hd : (a ++ l ++ b).length - b.length = (a ++ l).length := by rw [hlen,List.length_append]; omega
       rw [hd,List.drop_left]
      ·simp only [List.mem_append] at hx
       rcases hx with (hx | hx) | hx
       ·exact o3 x hx
       ·exact hls x hx
       ·exact o4 x hx
    | _ => cases h5
   ·refine k l H (Same.refl _) ?_ l0 (by omega) hls
    cases c with
    | step w => exact absurd rfl h1
    | part a n b => exact absurd rfl h5
    | num n => exact absurd rfl h3
    | word n => exact absurd rfl h4
    | gap n => show (!isDot l && true) = true; rw [ld]; rfl
    | rest n => show (!isDot l && true) = true; rw [ld]; rfl
theorem pqO (g : G w K mg) : FnOk P w K mg base CX0 4 g.nqp g.kqs ["pattern","way"] (rqs K) := by
 refine g.mq4.ok mqk (fun vs H Q E h => ?_) (fun cdv A outer s H vs Q E hr h => ?_)
 ·obtain ⟨cs,xs,p,q,pw,ps,cl,r,e,ss,rfl,_⟩ := h; rfl
 ·obtain ⟨cs,xs,p,q,pw,ps,cl,r,e,ss,rfl,hp,hq,hx,hn,hz,hw,hps,hsn,hsl,k⟩ := h
  refine ⟨_,(aqf (aqw (i := 2) mqk.nd rfl (Or.inl rfl) (aqp (aqh (K := K) rfl) (pv 1) (aqA (v := oql) rfl g.mqK ⟨_,rfl⟩) (fun _ _ => rfl)))
   (bqh (aqw (i := 3) mqk.nd rfl (Or.inl rfl) (aqi (fqD g) (hr.mono (by decide)) rfl g.fq2 g.eq1.kp g.gqg .nil pass0 (aqa (pv 0) (aqa (aqq (aqr (K := K) rfl) rfl g.aqQ PySem.boot_len (aqa (pv 2) aqb)) aqb))))
   (aqf (aqB (PW.pt (fqz (aql gqy (pv 3) bqY (nomark _)) (fqz (cqU (aqR (aqp (aqh (K := K) rfl) (pv 1) (aqA (v := qqj) rfl g.nqc ⟨_,rfl⟩) (fun _ _ => rfl)))) (dqS (aql hqU (aqp (aqh (K := K) rfl) (pv 1) (aqA (v := tqa) rfl g.qq6 ⟨_,rfl⟩) (fun _ _ => rfl)) (aqp (aqh (K := K) rfl) (pv 0) (aqA (v := dqi) rfl g.cqJ ⟨_,rfl⟩) (fun _ _ => rfl)) (nomark _))))))
    (aqg (aqk dqD)) aqs)
   (aqg (aqk (aqq (jql (K := K) rfl rfl) rfl g.qqM PyProof.Rows.boot_all (aqa (oqM (K := K) (fx := []) (fr := []) rfl rfl rfl (by decide +kernel) rfl (by decide +kernel) rfl rfl (by decide +kernel) rfl .nil rfl (pqG (K := K) rfl rfl g.pqX (aqa (pv 3) (aqa (pv 2) aqb))) (fun _ _ _ => hqt) (fun _ _ _ => (aqi (cqS g) (hr.mono (by decide)) rfl g.cqx g.bqT.kp g.cqA .nil pass0 (aqa (pv 0) (aqa (pv 1) aqb))))) aqb))))))),?_⟩
  walk_at "rd"
  refine ⟨_,_,.inr hw,aqj (j := 1) rfl,?_⟩
  refine ⟨fun σ H1 => Same H H1 ∧ ((spreadM cs ss.length = none ∧ σ = [some (.ref p),some (.ref pw),some (.ref ps),some .non]) ∨ ∃ (ds : List Pc) (ys : List V) (r' : Addr),spreadM cs ss.length = some ds ∧ SqT K H1 r' ys ∧ PcAll K H1 ds ys ∧ σ = [some (.ref p),some (.ref pw),some (.ref ps),some (.ref r')]),?_,?_⟩
  ·walk_at "rd"
   refine ⟨_,.inr hps,?_⟩
   rw [List.length_map]
   exact ⟨cs,xs,p,q,cl,ss.length,rfl,hp,hq,hx,hn,hsn,fun h => ⟨Same.refl _,.inl ⟨h,rfl⟩⟩,fun ds ys r' H1 h s1 h1 h2 => ⟨s1,.inr ⟨ds,ys,r',h,h1,h2,rfl⟩⟩⟩
  rintro σ H1 ⟨s1,⟨h0,rfl⟩ | ⟨ds,ys,r',h0,hr',hy,rfl⟩⟩
  ·walk_at "rd"
   have e : fitsP cs cl r ss e = false := by unfold fitsP; rw [h0]
   rw [e] at k
   exact k H1 s1
  have ef : fitsP cs cl r ss e = (r && decide (e = cl) && (List.zipWith fitsM ds ss).all id) := by unfold fitsP; rw [h0]
  have hw1 := s1.tup hw
  have hp1 := s1.tup hp
  have hps1 := s1.tup hps
  walk_at "rd"
  refine ⟨_,_,.inr hw1,aqj (j := 0) rfl,r,rfl,?_⟩
  cases r with
  | false =>
   refine ite2 (fun _ => ?_) (fun z => absurd rfl z)
   rw [ef] at k
   exact k H1 s1
  | true =>
   refine ite2 (fun z => by cases z) (fun _ => ?_)
   refine ⟨_,_,.inr hw1,aqj (j := 2) rfl,_,_,.inr hp1,aqj (j := 1) rfl,?_⟩
   refine L2.kqA.mpr ⟨_,rfl,?_⟩
   by_cases hec : e = cl
   ·rw [decide_eq_true hec] at ef
    refine ite2 (fun z => by rw [decide_eq_true hec] at z; cases z) (fun _ => ?_)
    refine ⟨r',ps,ys,ss.map tV,⟨rfl,rfl⟩,hr',hps1,fun pc nc => ?_⟩
    have hyl := hy.length
    have hdl := jqI h0
    refine nqg (zs := (List.zipWith fitsM ds ss).map V.bl) hr' hps1 (aqn (by rw [List.length_map,List.length_zipWith]; omega)) nc (by rw [List.length_map,List.length_zipWith,List.length_map,hyl]) (fun i x y z hx' hy' hz' H2 T s2 hT => ?_) (fun H2 s2 e2 => ?_)
    ·obtain ⟨c,p',hc,rfl,hcp⟩ := hy.get hx'
     obtain ⟨s,hs,rfl⟩ : ∃ s,ss[i]? = some s ∧ tV s = y := by
      rw [List.getElem?_map] at hy'
      cases hs : ss[i]? with
      | none => rw [hs] at hy'; cases hy'
      | some s => rw [hs] at hy'; exact ⟨s,rfl,by simpa using hy'⟩
     have hz' : V.bl (fitsM c s) = z := by
      rw [List.getElem?_map,List.getElem?_zipWith,hc,hs] at hz'
      simpa using hz'
     subst hz'
     obtain ⟨z1,z2⟩ := hz c (nqM h0 c (List.mem_of_getElem? hc))
     walk_at "rd"
     exact ⟨c,s,p',rfl,s2.tup hcp,hsl s (List.mem_of_getElem? hs),z1,z2,hT⟩
    ·refine ⟨pc,_,rfl,.of e2,?_⟩
     rw [ef] at k
     exact k H2 (s1.trans s2)
   ·rw [decide_eq_false hec] at ef
    refine ite2 (fun _ => ?_) (fun z => by rw [decide_eq_false hec] at z; exact absurd rfl z)
    rw [ef] at k
    exact k H1 s1
theorem jqF (g : G w K mg) : FnOk P w K mg base CX0 4 g.cq6 g.cqP ["thing"] (jqA K) := by
 refine g.eqI.ok jqw (fun vs H Q E h => ?_) (fun cdv A outer s H vs Q E hr h => ?_)
 ·obtain ⟨d,v,rfl,_⟩ := h; rfl
 ·obtain ⟨d,v,rfl,hv,hs,k⟩ := h
  refine ⟨_,(aqg (aqk (dqA (aqi (eqr g) (hr.mono (by decide)) rfl g.cqY g.bqJ.kp g.cq3 .nil pass0 (aqa (pv 0) aqb)) (cqu (pqN (aqi (iq1 g) (hr.mono (by decide)) rfl g.iqw g.gqQ.kp g.iqv .nil pass0 (aqa (pv 0) aqb))))))),?_⟩
  walk_at "rd"
  refine ⟨d,v,rfl,hv,hs,fun H1 s1 => ⟨_,rfl,?_⟩⟩
  have k1 := k H1 s1
  cases hv with
  | str z =>
   have e : canD (.str z) = (ftx (.str z) && !isDot z.cps.toList) := rfl
   rw [e] at k1
   refine ite2 (fun hf => ?_) (fun hf => ?_)
   ·rw [hf,Bool.true_and] at k1
    exact ⟨z.cps.toList,rfl,_,rfl,k1⟩
   ·rw [Bool.eq_false_iff.mpr hf,Bool.false_and] at k1
    exact k1
  | _ => exact ite2 (fun z => by cases z) (fun _ => k1)
theorem kqS (g : G w K mg) : FnOk P w K mg base CX0 4 g.dqY g.dqc ["entries"] (kqE K) := by
 refine g.fqG.ok dqa (fun vs H Q E h => ?_) (fun cdv A outer s H vs Q E hr h => ?_)
 ·obtain ⟨l,b,L,ws,rfl,_⟩ := h; rfl
 ·obtain ⟨l,b,L,ws,rfl,hl,hT,hok,hL,k⟩ := h
  refine ⟨_,(aqf (aqw (i := 1) dqa.nd rfl (Or.inl rfl) (aqp (aqh (K := K) rfl) (pv 0) aqd (fun _ _ => rfl)))
   (aqf (cqs PassesOwn.never rfl (cqa (K := K) rfl (cqg (gqd (K := K) rfl) (pv 0) (cqX aqd) dq9)) (aqC (i := 2) dqa.nd rfl (Or.inl rfl))
   (aqg (aqB (aqR (aqi (eqD g) (hr.mono (by decide)) rfl g.dqR g.cqW.kp g.dqO .nil pass0 (aqa (aqp (aqh (K := K) rfl) (pv 2) aqd (fun _ _ => rfl)) (aqa (aqp (aqh (K := K) rfl) (pv 1) aqd (fun _ _ => rfl)) aqb))))
    (aqg (aqw (i := 1) dqa.nd rfl (Or.inl rfl) (pv 2))) aqs)))
   (aqg (aqk (pv 1))))),?_⟩
  walk_at "rd"
  have hwl := hT.length
  rw [List.length_cons] at hwl
  obtain ⟨v0,hv0⟩ : ∃ v,ws[0]? = some v := ⟨_,List.getElem?_eq_getElem (by omega)⟩
  obtain ⟨r0,hr0,hrw⟩ := hT.get hv0
  cases hr0
  refine ⟨_,_,.inl (.of hl),aqj (j := 0) hv0,_,.of hl,fun p1 H1 n1 s1 hp1 => ⟨⟨_,.of hp1⟩,?_⟩⟩
  rw [show (1 : Int) = ((1 : Nat) : Int) from rfl,hqj] at hp1
  have hT1 : TbV H1 L (ws.drop 1) := (hT.drop 1).mono s1.toT
  have hokm : ∀ n : Nat,PcsOk (mostM mrR b (L.take n)).2.1 := fun n => hok _ (by
   rcases List.mem_cons.mp (kqY (mr := mrR) (L.take n) b) with h | h
   ·rw [h]; exact List.mem_cons_self ..
   ·exact List.mem_cons_of_mem _ (List.mem_of_mem_take h))
  refine eqj (xs := ws.drop 1) (fun i σ H' => Same H1 H' ∧ ∃ (v : V) (v2 : Option V),σ = [some (.ref l),some v,v2] ∧ RwAt H' (mostM mrR b (L.take i)) v) ⟨Same.refl _,v0,none,rfl,hrw.mono s1.toT⟩ (fun i σ H' _ h => .of (h.1 _ _ hp1)) ?_ ?_
  ·rintro i x σ H2 hxi ⟨s2,v,v2,rfl,hv⟩
   obtain ⟨r,hr,a1,p',rfl,ha1,q',ys,hp',hq',hy⟩ := hT1.get hxi
   have hi : i < L.length := (List.getElem?_eq_some_iff.mp hr).1
   have et : L.take (i + 1) = L.take i ++ [r] := by rw [List.take_add_one,hr]; rfl
   obtain ⟨a2,p,rfl,ha2,q,xs,hp,hq,hx⟩ := id hv
   have or := hok r (List.mem_cons_of_mem _ (List.mem_of_getElem? hr))
   have ob := hokm i
   walk_at "rd"
   refine ⟨_,_,.inr (.of (s2 _ _ ha1)),aqj (j := 1) rfl,_,_,.inr (.of ha2),aqj (j := 1) rfl,?_⟩
   refine ⟨r.2.1,(mostM mrR b (L.take i)).2.1,ys,xs,p',q',p,q,_,_,rfl,.of (s2 _ _ hp'),.of (s2 _ _ hq'),(hy.mono s2.toT).all,.of hp,.of hq,hx.all,or.1,ob.1,fun c hc => (or.2 c hc).1.tx,fun c hc => (ob.2 c hc).1.tx,fun H3 s3 => ⟨_,rfl,?_⟩⟩
   have em : mostM mrR b (L.take (i + 1)) = if moreM r.2.1 (mostM mrR b (L.take i)).2.1 = true then r else mostM mrR b (L.take i) := by rw [et,lqB]; rfl
   refine ite2 (fun hm => ?_) (fun hm => ?_)
   ·refine ⟨s2.trans s3,_,_,⟨rfl,rfl⟩,?_⟩
    rw [em,if_pos hm]
    exact ⟨a1,p',rfl,(s2.trans s3) _ _ ha1,q',ys,(s2.trans s3) _ _ hp',(s2.trans s3) _ _ hq',hy.mono (s2.trans s3).toT⟩
   ·refine ⟨s2.trans s3,_,_,⟨rfl,rfl⟩,?_⟩
    rw [em,if_neg hm]
    exact hv.mono s3.toT
  ·rintro σ H2 ⟨s2,v,v2,rfl,hv⟩
   walk_at "rd"
   rw [List.length_drop,show ws.length - 1 = L.length by omega,List.take_length] at hv
   exact k v H2 (s1.trans s2) hv
theorem bqP (g : G w K mg) : FnOk P w K mg base CX0 4 g.cqi g.bqM ["piece"] (cq4 K) := by
 refine g.aq4.ok fqk (fun vs H Q E h => ?_) (fun cdv A outer s H vs Q E hr h => ?_)
 ·obtain ⟨c,p,rfl,_⟩ := h; rfl
 ·obtain ⟨c,p,rfl,hp,hz,k⟩ := h
  refine ⟨_,(bqh (aqw (i := 1) fqk.nd rfl (Or.inl rfl) (eqF (aqR (aqi (eqb g) (hr.mono (by decide)) rfl g.eqy g.dqL.kp g.eqK .nil pass0 (aqa (pv 0) aqb))) (aqi (fqv g) (hr.mono (by decide)) rfl g.dq3 g.cqL.kp g.dq8 .nil pass0 (aqa (aqi (bqV g) (hr.mono (by decide)) rfl g.bq6 g.bqE.kp g.cqq .nil pass0 (aqa (pv 0) aqb)) (aqa (aqi (bqZ g) (hr.mono (by decide)) rfl g.cql g.bqD.kp g.bq8 .nil pass0 (aqa (pv 0) aqb)) aqb))) (aqS (aqa (aqp (aqh (K := K) rfl) (pv 0) aqd (fun _ _ => rfl)) aqb))))
   (aqg (aqk (fqa (fx := ["piece"]) (fr := [0]) rfl rfl (by decide +kernel) rfl (by decide +kernel) rfl (by decide +kernel) rfl (.cons rfl rfl rfl rfl .nil) rfl (cqa (K := K) rfl (pv 1)) (fun _ _ _ => (hqs (aqR (aqi (cqS g) (hr.mono (by decide)) rfl g.cqx g.bqT.kp g.cqA .nil pass0 (aqa (pv 1) (aqa (pv 0) aqb)))))) (fun _ _ _ => (pv 0)))))),?_⟩
  walk_at "rd"
  refine ⟨fun σ H1 => Same H H1 ∧ ∃ (l : Addr) (ts : List (List Nat)),σ = [some (.ref p),some (.ref l)] ∧ H1 l = some (.lst (ts.map tV)) ∧ ts.filter (fitsM c) = fitT c ∧ (∀ t ∈ ts,t.length ≤ 90000) ∧ ts.length ≤ 4,⟨c,p,rfl,hp,_,rfl,?_⟩,?_⟩
  ·cases hst : c.isStep with
   | true =>
    refine ite2 (fun z => absurd z (by decide)) (fun _ => ?_)
    cases c with
    | step w => exact ⟨_,_,.inr hp,aqj (j := 1) rfl,by decide,fun p1 H1 n1 s1 hp1 => ⟨s1,p1,[w],rfl,hp1,rfl,fun t ht => by rw [List.mem_singleton.mp ht]; have := hz.2.2 w rfl; omega,(show 1 ≤ 4 by decide)⟩⟩
    | _ => cases hst
   | false =>
    refine ite2 (fun _ => ?_) (fun z => absurd rfl z)
    refine ⟨c,p,rfl,hp,c,p,rfl,hp,c.head,c.tail,rfl,hz.1,hz.2.1,fun l H1 s1 hl => ⟨s1,l,trialsM c.head c.tail,rfl,hl,?_,fun t ht => ?_,(show 4 ≤ 4 by decide)⟩⟩
    ·cases c with
     | step w => cases hst
     | _ => rfl
    ·obtain ⟨x,_,rfl⟩ := List.mem_map.mp ht
     have := hz.1
     have := hz.2.1
     simp only [List.length_append,List.length_singleton]
     omega
  rintro σ H1 ⟨s1,l,ts,rfl,hl,hf,htl,ht4⟩
  walk_at "rd"
  refine ⟨⟨_,.of hl⟩,fun p2 n2 => ?_⟩
  have hfv : ∀ t,(match tV t with | .str s => fitsM c s.cps.toList | _ => false) = fitsM c t := fun t => rfl
  refine nqy (fun v => match v with | .str s => fitsM c s.cps.toList | _ => false) (fun v => v) (.of hl) (by rw [List.length_map]; exact aqn (by omega)) n2 (fun i x hx H2 R s2 hR => ?_) (fun i x hx hft H2 T s2 hT => ?_) (fun H2 s2 hp2 => ?_)
  ·rw [List.getElem?_map] at hx
   obtain ⟨t,ht,rfl⟩ := Option.map_eq_some_iff.mp hx
   have htm := htl t (List.mem_of_getElem? ht)
   have h1 := hz.1
   have h2 := hz.2.1
   walk_at "rd"
   exact ⟨c,t,p,rfl,(s1.trans s2).tup hp,by omega,by omega,by omega,fun H3 s3 => ⟨_,rfl,hR H3 s3⟩⟩
  ·walk_at "rd"
   exact hT H2 (Same.refl _)
  ·refine k p2 H2 (s1.trans s2) ?_
   rw [hp2,<- hf,List.map_id',List.filter_map]
   rfl
theorem iqJ (g : G w K mg) : FnOk P w K mg base CX0 4 g.cqI g.cqf ["_law_cells_here","_law_names_here","_law_signs_here"] (jqd K) := by
 refine g.dq7.ok cqc (fun vs H Q E h => ?_) (fun cdv A outer s H vs Q E hr h => ?_)
 ·obtain ⟨pc,pn,gg,ns,is,rfl,_⟩ := h; rfl
 ·obtain ⟨pc,pn,gg,ns,is,rfl,hpc,hil,hpn,hnl,hnu,hnd,hns,hg0,hg1,hgs,k⟩ := h
  refine ⟨_,(aqf (aqw (i := 3) cqc.nd rfl (Or.inl rfl) (aqp (aqh (K := K) rfl) (pv 0) aqd (fun _ _ => rfl)))
   (aqf (aqw (i := 4) cqc.nd rfl (Or.inl rfl) (aqS aqb))
   (bqh (cqs PassesOwn.never rfl (cqo rfl g.dq5 (aqa (aqu aqM (pv 3) aqd) aqb)) (aqC (i := 5) cqc.nd rfl (Or.inl rfl))
   (aqg (eqM (fqg (K := K) rfl PySem.F.plainAttrs_list PySem.F.slot_list_append PySem.F.type_list_append cqp (pv 4) (aqa (aqi (hqc g) (hr.mono (by decide)) rfl g.fqM g.dqQ.kp g.fqE .nil pass0 (aqa (aqp (aqh (K := K) rfl) (pv 0) (aqu (aqz (K := K)) aqd (pv 5)) (fun _ _ => rfl)) (aqa (aqp (aqh (K := K) rfl) (pv 1) (pv 5) (fun _ _ => rfl)) (aqa (pv 2) aqb)))) aqb)))))
   (bqh (aqB (aql aqG (aqu aqM (aqu bqi (pv 3) aqd) aqd) aqd (nomark _))
    (aqg (eqM (fqg (K := K) rfl PySem.F.plainAttrs_list PySem.F.slot_list_append PySem.F.type_list_append cqp (pv 4) (aqa (aqY (aqa aqx (aqa (aqp (aqh (K := K) rfl) (pv 1) aqd (fun _ _ => rfl)) aqb))) aqb)))) aqs)
   (aqg (aqk (aqY (aqa (aqN (bqQ (K := K) rfl) rfl g.eqC dqX (aqa (pv 4) aqb)) (aqa (oqz (aqE (mqV hr.units) (pv 4) (aqS aqb) (nomark _)) (cqu (aqE aqG (aqu aqM (aqu bqi (pv 3) aqd) aqd) aqd (nomark _)))) aqb))))))))),?_⟩
  walk_at "rd"
  have ix : ∀ (j : Nat) (hj : j < is.length),atI (is.map V.int) (j : Int) = some (.int is[j]) := fun j hj => aqj (by rw [List.getElem?_map,List.getElem?_eq_getElem hj]; rfl)
  have nx : ∀ (j : Nat) (hj : j < ns.length),atI (ns.map tV) (j : Int) = some (tV ns[j]) := fun j hj => aqj (by rw [List.getElem?_map,List.getElem?_eq_getElem hj]; rfl)
  refine ⟨_,.int is[0],.inl (.of hpc),ix 0 (by omega),by decide,fun p1 H1 n1 s1 hp1 => ?_⟩
  generalize is[0] = hd
  obtain ⟨m,hm,hm5⟩ : ∃ m : Nat,hd % 6 = (m : Int) ∧ m ≤ 5 := ⟨(hd % 6).toNat,by omega,by omega⟩
  refine ⟨fun σ H' => SameBut p1 H H' ∧ ∃ (v5 : Option V) (ps : List Pc) (xs : List V),σ = [some (.ref pc),some (.ref pn),some (tV gg),some (.int hd),some (.ref p1),v5] ∧ PcT H' ps xs ∧ H' p1 = some (.lst xs) ∧ ps.length ≤ 5 ∧ (∀ x ∈ ps,PcOk x ∧ x.isRest = false) ∧ (∀ (i : Nat) (x : Pc),ps[i]? = some x -> x.isStep = false -> ns[i]? = some x.name),rd_I.mpr ⟨by decide,_,rfl,by omega,by omega,?_⟩,?_⟩
  ·rw [hm,Int.toNat_natCast]
   refine cqv (fun i σ H' => SameBut p1 H H' ∧ ∃ (v5 : Option V) (ps : List Pc) (xs : List V),σ = [some (.ref pc),some (.ref pn),some (tV gg),some (.int hd),some (.ref p1),v5] ∧ PcT H' ps xs ∧ H' p1 = some (.lst xs) ∧ ps.length = i ∧ (∀ x ∈ ps,PcOk x ∧ x.isRest = false) ∧ (∀ (i : Nat) (x : Pc),ps[i]? = some x -> x.isStep = false -> ns[i]? = some x.name)) ⟨Same.but s1,none,[],[],rfl,.nil,hp1,rfl,(fun x hx => by cases hx),fun i x hx => by cases hx⟩ ?_ ?_
   ·rintro i σ H2 hi ⟨sb,v5,ps,xs,rfl,hP,hl2,hpl,hok,hnm⟩
    have s2 := sb.same n1
    have hxl := hP.length
    walk_at "rd"
    rw [show (1 + (0 + (i : Int))) = ((i + 1 : Nat) : Int) by omega,show (0 + (i : Int)) = ((i : Nat) : Int) by omega]
    refine ⟨⟨_,.of hl2⟩,_,_,.inl (.of (s2 _ _ hpc)),ix (i + 1) (by omega),_,_,.inl (.of (s2 _ _ hpn)),nx i (by omega),_,ns[i],gg,rfl,hg0,hg1,hgs,fun x b H3 ok1 ok2 ok3 s3 hb => ?_⟩
    have hbp : b ≠ p1 := fun z => by rw [z,s3 _ _ hl2] at hb; cases hb
    refine ⟨_,s3 _ _ hl2,by rw [hxl]; exact Nat.lt_of_le_of_lt (show ps.length ≤ 5 by omega) (by decide),(sb.trans s3.but).trans dqB,_,ps ++ [x],xs ++ [.ref b],rfl,?_,aqm,by rw [List.length_append,List.length_singleton,hpl],fun y hy => ?_,fun j y hj hst => ?_⟩
    ·have t3 : SameT H2 (upd H3 p1 (.lst (xs ++ [.ref b]))) := fun d ys e => by
      rw [aqt (fun z => by rw [z,hl2] at e; cases e)]
      exact s3 _ _ e
     exact PcT.append (.cons (by rw [aqt hbp]; exact hb) .nil) (hP.mono t3)
    ·rcases List.mem_append.mp hy with z | z
     ·exact hok y z
     ·rw [List.mem_singleton.mp z]; exact ⟨ok1,ok2⟩
    ·by_cases hj2 : j < ps.length
     ·rw [List.getElem?_append_left hj2] at hj
      exact hnm j y hj hst
     ·rw [List.getElem?_append_right (by omega)] at hj
      have hk3 : j - ps.length = 0 := by
       cases hh : j - ps.length with
       | zero => rfl
       | succ z => rw [hh] at hj; cases hj
      rw [hk3] at hj
      cases hj
      rw [show j = i by omega,ok3 hst]
      exact List.getElem?_eq_getElem (by omega)
   ·rintro σ H2 ⟨sb,v5,ps,xs,rfl,hP,hl2,hpl,hok,hnm⟩
    exact ⟨sb,v5,ps,xs,rfl,hP,hl2,by omega,hok,hnm⟩
  rintro σ H2 ⟨sb,v5,ps,xs,rfl,hP,hl2,hpl,hok,hnm⟩
  have hxl := hP.length
  walk_at "rd"
  refine ⟨fun σ H' => SameBut p1 H H' ∧ ∃ (ps : List Pc) (xs : List V),σ = [some (.ref pc),some (.ref pn),some (tV gg),some (.int hd),some (.ref p1),v5] ∧ PcT H' ps xs ∧ H' p1 = some (.lst xs) ∧ ps.length ≤ 6 ∧ PatOk ps ∧ (gapsM ps).Nodup ∧ ∀ n ∈ gapsM ps,n ∈ ns,⟨⟨by decide,by decide⟩,by decide,ite2 (fun _ => ?_) (fun _ => ?_)⟩,?_⟩
  ·have s2 := sb.same n1
   refine ⟨⟨_,.of hl2⟩,_,_,.inl (.of (s2 _ _ hpn)),nx 6 (by omega),by decide,fun p3 H3 n3 s3 hp3 => ?_⟩
   have h3p : p3 ≠ p1 := fun z => by rw [z,s3 _ _ hl2] at hp3; cases hp3
   have t3 : SameT H2 (upd H3 p1 (.lst (xs ++ [.ref p3]))) := fun d ys e => by
    rw [aqt (fun z => by rw [z,hl2] at e; cases e)]
    exact s3 _ _ e
   obtain ⟨g1,g2⟩ := dqn (fqA hnd (r := ps.length) (j := 6) (by omega) (by omega)) (cs := ps ++ [.rest ns[6]]) 0 (fun i c hc hs => by
    rw [Nat.zero_add]
    by_cases hi : i < ps.length
    ·rw [List.getElem?_append_left hi] at hc
     rw [List.getElem?_append_left (by rw [List.length_take]; omega),List.getElem?_take,if_pos hi]
     exact hnm i c hc hs
    ·have h9 := (List.getElem?_eq_some_iff.mp hc).1
     rw [List.length_append,List.length_singleton] at h9
     have hi3 : i = ps.length := by omega
     subst hi3
     rw [List.getElem?_append_right (Nat.le_refl _),Nat.sub_self] at hc
     cases hc
     rw [List.getElem?_append_right (by rw [List.length_take]; omega),List.length_take,show ps.length - min ps.length ns.length = 0 by omega]
     rfl)
   refine ⟨_,s3 _ _ hl2,by rw [hxl]; exact Nat.lt_of_le_of_lt (show ps.length ≤ 5 by omega) (by decide),(sb.trans s3.but).trans dqB,ps ++ [.rest ns[6]],xs ++ [.ref p3],rfl,PcT.append (.cons (by rw [aqt h3p]; exact hp3) .nil) (hP.mono t3),aqm,by rw [List.length_append,List.length_singleton]; omega,⟨fun x hx => ?_,fun i x hi hrs => ?_⟩,g1,fun n hn => ?_⟩
   ·rcases List.mem_append.mp hx with z | z
    ·exact (hok x z).1
    ·rw [List.mem_singleton.mp z]; trivial
   ·rw [List.length_append,List.length_singleton]
    by_cases hi2 : i < ps.length
    ·rw [List.getElem?_append_left hi2] at hi
     rw [(hok x (List.mem_of_getElem? hi)).2] at hrs; cases hrs
    ·have h9 := (List.getElem?_eq_some_iff.mp hi).1
     rw [List.length_append,List.length_singleton] at h9
     omega
   ·obtain ⟨j,_,hj⟩ := g2 n hn
    rcases List.mem_append.mp (List.mem_of_getElem? hj) with z | z
    ·exact List.mem_of_mem_take z
    ·rw [List.mem_singleton.mp z]; exact List.getElem_mem _
  ·obtain ⟨g1,g2⟩ := dqn hnd (cs := ps) 0 (fun i c hc hs => by rw [Nat.zero_add]; exact hnm i c hc hs)
   exact ⟨sb,ps,xs,rfl,hP,hl2,by omega,⟨fun x hx => (hok x hx).1,fun i x hi hrs => by rw [(hok x (List.mem_of_getElem? hi)).2] at hrs; cases hrs⟩,g1,fun n hn => by obtain ⟨j,_,hj⟩ := g2 n hn; exact List.mem_of_getElem? hj⟩
  clear hP hl2 hpl hok hnm hxl sb
  rintro σ H3 ⟨sb,ps,xs,rfl,hP,hl3,hpl,hok,hgn,hgi⟩
  have s3 := sb.same n1
  have hsg : ∀ x ∈ ps,PcSg x := fun x hx => by
   have ok := hok.1 x hx
   refine ⟨fun l e => ?_,fun a b d e => ?_,fun y hy => ?_⟩
   ·rw [e] at ok; exact ok.2.2.1
   ·rw [e] at ok; exact ⟨ok.2.2.1,ok.2.2.2.1⟩
   ·cases hst : x.isStep with
    | true =>
     cases x with
     | step l => cases hy
     | _ => cases hst
    | false => exact hns _ (hgi x.name (by unfold gapsM; exact List.mem_map_of_mem (List.mem_filter.mpr ⟨hx,by simp [hst]⟩))) y hy
  walk_at "rd"
  refine ⟨xs,.inl (.of hl3),fun l H4 s4 hl4 => ⟨by decide,fun p5 H5 n5 s5 hp5 => ?_⟩⟩
  have s35 := s4.trans s5
  refine ⟨.list (ps.map pcD),.list [],.lst (s35 _ _ hl3) (hP.mono s35.toT).isT.is,.lst hp5 .nil,(hqn hsg).shaped (by decide),by decide +kernel,_,rfl,?_⟩
  rw [eqO,List.isEmpty_map]
  refine ite2 (fun he => ⟨by decide,fun p6 H6 n6 s6 hp6 => ?_⟩) (fun he => ⟨⟨by decide,by decide⟩,by decide,by decide,fun p6 H6 n6 s6 hp6 => ?_⟩)
  ·exact k ps true p6 l xs H6 hok hpl hgn hgi (fun _ => rfl) ((s3.trans s35).trans s6) ((s5.trans s6) _ _ hl4) (hP.mono (s35.trans s6).toT) hp6
  ·exact k ps _ p6 l xs H6 hok hpl hgn hgi (fun z => absurd (by rw [z]; rfl) he) ((s3.trans s35).trans s6) ((s5.trans s6) _ _ hl4) (hP.mono (s35.trans s6).toT) hp6
theorem mqy (g : G w K mg) : FnOk P w K mg base CX0 4 g.gqf g.eqz ["_law_piece_here","_law_cell","_law_name","_law_signs_here"] (mqo K) := by
 refine g.hqE.ok eq0 (fun vs H Q E h => ?_) (fun cdv A outer s H vs Q E hr h => ?_)
 ·obtain ⟨c,p,i,n,g,rfl,_⟩ := h; rfl
 ·obtain ⟨c,p,i,n,sg,rfl,hp,hok,hnr,hg0,hgl,hgs,k⟩ := h
  refine ⟨_,(aqf (aqw (i := 4) eq0.nd rfl (Or.inl rfl) (aqu aqM (pv 1) aqd))
   (aqf (aqw (i := 5) eq0.nd rfl (Or.inl rfl) (aqu bqi (pv 1) aqd))
   (aqf (aqB (aql aqG (pv 4) aqd (nomark _))
    (aqg (aqk (aqY (aqa aqx (aqa (pv 2) aqb))))) aqs)
   (bqh (aqB (PW.pt (fqN (aql aqG (pv 4) aqd (nomark _)) (fqN (aql aqG (aqp (aqh (K := K) rfl) (pv 0) aqd (fun _ _ => rfl)) aqx (nomark _)) (dq6 (aql lql (aqq (aqr (K := K) rfl) rfl g.aqQ PySem.boot_len (aqa (aqp (aqh (K := K) rfl) (pv 0) aqd (fun _ _ => rfl)) aqb)) aqd (nomark _))))))
    (aqf (aqw (i := 6) eq0.nd rfl (Or.inl rfl) (aqu aqM (pv 5) (aqq (aqr (K := K) rfl) rfl g.aqQ PySem.boot_len (aqa (aqp (aqh (K := K) rfl) (pv 0) aqd (fun _ _ => rfl)) aqb))))
   (aqg (aqk (aqY (aqa aqx (aqa (cqg (mqg (K := K) rfl) (aqp (aqh (K := K) rfl) (pv 0) aqd (fun _ _ => rfl)) dq9 (cqX (pv 6))) (aqa (pv 2) (aqa (cqg (mqg (K := K) rfl) (aqp (aqh (K := K) rfl) (pv 0) aqd (fun _ _ => rfl)) (cqX (aqu (aqz (K := K)) (pv 6) aqd)) dq9) aqb)))))))) aqs)
   (aqf (aqB (aql aqG (pv 4) aqd (nomark _))
    (aqg (aqk (aqi (hqc g) (hr.mono (by decide)) rfl g.fqM g.dqQ.kp g.fqE .nil pass0 (aqa (pv 5) (aqa (pv 2) (aqa (pv 3) aqb)))))) aqs)
   (aqf (aqB (aql aqG (aqp (aqh (K := K) rfl) (pv 0) aqd (fun _ _ => rfl)) aqx (nomark _))
    (aqg (aqk (pv 0))) aqs)
   (aqf (aqB (aql aqG (aqp (aqh (K := K) rfl) (pv 0) aqd (fun _ _ => rfl)) aqx (nomark _))
    (aqg (aqk (aqY (aqa aqx (aqa (aqp (aqh (K := K) rfl) (pv 0) aqd (fun _ _ => rfl)) (aqa (pv 2) (aqa (aqp (aqh (K := K) rfl) (pv 0) aqd (fun _ _ => rfl)) aqb))))))) aqs)
   (aqg (aqk (aqY (aqa (aqp (aqh (K := K) rfl) (pv 0) aqd (fun _ _ => rfl)) (aqa (pv 2) aqb)))))))))))),?_⟩
  walk_at "rd"
  refine ⟨by decide,⟨by decide,by decide⟩,ite2 (fun h0 => ⟨by decide,fun p1 H1 n1 s1 hp1 => k (.gap n) p1 H1 trivial rfl (fun _ => rfl) s1 hp1⟩) (fun h0 => ?_)⟩
  refine ⟨fun σ H1 => H1 = H ∧ σ = [some (.ref p),some (.int i),some (tV n),some (tV sg),some (.int (i % 5)),some (.int (i / 5)),none],?_,?_⟩
  ·refine ite2 (fun h1 => ⟨_,_,.inr (.of hp),c.at0,aqv.mpr ⟨_,rfl,?_⟩⟩) (fun _ => ⟨rfl,rfl⟩)
   rw [hqR]
   refine ite2 (fun h2 => ?_) (fun _ => ⟨rfl,rfl⟩)
   cases c with
   | step w =>
    obtain ⟨o1,o2,o3,o4⟩ := hok
    refine ⟨_,_,.inr (.of hp),aqj (j := 1) rfl,?_⟩
    walk_at "rd"
    refine ⟨aqn (by omega),ite2 (fun h3 => ?_) (fun _ => trivial)⟩
    refine ⟨_,_,.inr (.of hp),aqj (j := 1) rfl,?_⟩
    walk_at "rd"
    refine ⟨aqn (by omega),by omega,_,_,.inr (.of hp),aqj (j := 1) rfl,?_⟩
    have hw2 : 2 ≤ w.length := by omega
    obtain ⟨a,ha,ea⟩ : ∃ a : Nat,a < w.length ∧ i / 5 % (w.length : Int) = (a : Int) := by
     have h1 := Int.emod_nonneg (i / 5) (show (w.length : Int) ≠ 0 by omega)
     have h2 := Int.emod_lt_of_pos (i / 5) (show (0 : Int) < (w.length : Int) by omega)
     exact ⟨(i / 5 % (w.length : Int)).toNat,by omega,by omega⟩
    rw [ea]
    refine nqj.mpr ⟨aqn (by rw [bqn]; omega),_,_,.inr (.of hp),aqj (j := 1) rfl,nqj.mpr ⟨aqn (by rw [bqn]; omega),by decide,fun p1 H1 n1 s1 hp1 => ?_⟩⟩
    rw [show ((a : Int) + 1) = ((a + 1 : Nat) : Int) by omega,jq0,qqc] at hp1
    refine k (.part (w.take a) n (w.drop (a + 1))) p1 H1 ⟨by rw [List.length_take]; omega,by rw [List.length_drop]; omega,fun x hx => o3 x (List.mem_of_mem_take hx),fun x hx => o3 x (List.mem_of_mem_drop hx),fun z => ?_⟩ rfl (fun _ => rfl) s1 hp1
    have := congrArg List.length z
    rw [List.length_append,List.length_take,List.length_drop,List.length_nil] at this
    omega
   | _ => cases h2
  ·rintro σ H1 ⟨rfl,rfl⟩
   walk_at "rd"
   refine ite2 (fun h2 => ⟨_,n,sg,rfl,hg0,hgl,hgs,k⟩) (fun h2 => ⟨_,_,.inr (.of hp),c.at0,aqv.mpr ⟨_,rfl,?_⟩⟩)
   rw [hqR]
   refine ite2 (fun h3 => k c p H1 hok hnr (fun z => by rw [h3] at z; cases z) (Same.refl _) hp) (fun h3 => ⟨_,_,.inr (.of hp),c.at0,aqv.mpr ⟨_,rfl,?_⟩⟩)
   rw [cqj]
   refine ite2 (fun h4 => ?_) (fun h4 => ⟨_,_,.inr (.of hp),c.at0,by decide,fun p1 H2 n1 s1 hp1 => ?_⟩)
   ·cases c with
    | part a m b => exact ⟨_,_,.inr (.of hp),aqj (j := 1) rfl,_,_,.inr (.of hp),aqj (j := 3) rfl,by decide,fun p1 H2 n1 s1 hp1 => k (.part a n b) p1 H2 hok rfl (fun _ => rfl) s1 hp1⟩
    | _ => cases h4
   ·cases c with
    | step w => exact absurd rfl h3
    | part a m b => exact absurd rfl h4
    | num m => exact k (.num n) p1 H2 trivial rfl (fun _ => rfl) s1 hp1
    | word m => exact k (.word n) p1 H2 trivial rfl (fun _ => rfl) s1 hp1
    | gap m => exact k (.gap n) p1 H2 trivial rfl (fun _ => rfl) s1 hp1
    | rest m => cases hnr
theorem mqm (g : G w K mg) : FnOk P w K mg base CX0 4 g.gqn g.eq9 ["_law_pattern_here","_law_cells_here","_law_signs_here"] (mqH K) := by
 refine g.hqX.ok eqA (fun vs H Q E h => ?_) (fun cdv A outer s H vs Q E hr h => ?_)
 ·obtain ⟨cs,e,p,pc,g,is,rfl,_⟩ := h; rfl
 ·obtain ⟨cs,e,p,pc,sg,is,rfl,oc,⟨q,xs,hp,hq,hx⟩,hpc,his,hg0,hgl,hgs,k⟩ := h
  refine ⟨_,(aqf (aqw (i := 3) eqA.nd rfl (Or.inl rfl) (aqN (hqT (K := K) rfl) rfl g.lqg kqZ (aqa (aqp (aqh (K := K) rfl) (pv 0) aqd (fun _ _ => rfl)) aqb)))
   (bqh (aqB (PW.pt (fqN (aql (jqR hr.units) (pv 3) (aqS aqb) (nomark _)) (dq6 (aql aqG (aqp (aqh (K := K) rfl) (aqp (aqh (K := K) rfl) (pv 3) (nqX jq1 aqd) (fun _ _ => rfl)) aqd (fun _ _ => rfl)) aqx (nomark _)))))
    (aqg (aqw (i := 3) eqA.nd rfl (Or.inl rfl) (aqu (aqz (K := K)) (pv 3) (aqu sqi (aqS (aqa (aqp (aqh (K := K) rfl) (pv 3) (nqX jq1 aqd) (fun _ _ => rfl)) aqb)) (aqu aqM (aqp (aqh (K := K) rfl) (pv 1) aqd (fun _ _ => rfl)) aqd))))) aqs)
   (aqf (gq3 (i := 4) (K := K) (fx := ["_law_signs_here","_law_cells_here"]) (fr := [2,1]) eqA.nd rfl rfl rfl rfl rfl (by decide +kernel) rfl (by decide +kernel) rfl rfl (by decide +kernel) rfl (.cons rfl rfl rfl rfl (.cons rfl rfl rfl rfl .nil)) rfl (kqO (K := K) rfl rfl g.cqG (aqa (pv 3) aqb)) (fun _ _ _ => hqt) (fun _ _ _ => (aqi (lqm g) (hr.mono (by decide)) rfl g.iqU g.gqz.kp g.jqi .nil pass0 (aqa (pv 1) (aqa (aqu (aqz (K := K)) (aqp (aqh (K := K) rfl) (pv 3) (aqu aqM (pv 0) aqd) (fun _ _ => rfl)) (aqu cqE aqd (pv 0))) (aqa (pv 2) aqb))))))
   (aqg (aqk (aqY (aqa dqD (aqa (aqN (bqQ (K := K) rfl) rfl g.eqC dqX (aqa (pv 4) aqb)) (aqa (aqp (aqh (K := K) rfl) (pv 0) aqd (fun _ _ => rfl)) aqb))))))))),?_⟩
  walk_at "rd"
  have hxl := hx.length
  have hcl := oc.1
  refine ⟨_,_,.inr (.of hp),aqj (j := 0) rfl,?_⟩
  walk_at "rd"
  refine ⟨_,.inr (.of hq),fun l H1 n1 s1 hl => ?_⟩
  have hT : PcT H1 cs xs := hx.mono s1.toT
  refine ⟨fun σ H2 => Same H H2 ∧ ∃ (l2 : Addr) (ds : List Pc) (ys : List V),σ = [some (.ref p),some (.ref pc),some (tV sg),some (.ref l2),none] ∧ H2 l2 = some (.lst ys) ∧ PcT H2 ds ys ∧ (∀ c ∈ ds,c ∈ cs) ∧ ds.length ≤ 100 ∧ spreadM cs ds.length = some ds,?_,?_⟩
  ·refine ⟨by decide,fun p2 H2 n2 s2 hp2 => ?_⟩
   have hl2 := s2 _ _ hl
   refine ⟨.list (cs.map pcD),.list [],.lst hl2 (hT.mono s2.toT).isT.is,.lst hp2 .nil,(hqn fun c hc => (oc.2 c hc).2).shaped (by decide),by decide +kernel,_,rfl,?_⟩
   rw [eqO]
   have s02 := s1.trans s2
   have hT2 := hT.mono s2.toT
   have keep : hasRest cs = false -> Same H H2 ∧ ∃ (l2 : Addr) (ds : List Pc) (ys : List V),[some (V.ref p),some (.ref pc),some (tV sg),some (.ref l),none] = [some (V.ref p),some (.ref pc),some (tV sg),some (.ref l2),none] ∧ H2 l2 = some (.lst ys) ∧ PcT H2 ds ys ∧ (∀ c ∈ ds,c ∈ cs) ∧ ds.length ≤ 100 ∧ spreadM cs ds.length = some ds := fun hr =>
    ⟨s02,l,cs,xs,rfl,hl2,hT2,fun c hc => hc,by omega,by rw [fqc (.inl hr),if_pos rfl]⟩
   refine ite2 (fun hne => ?_) (fun hne => keep ?_)
   rotate_left
   ·cases cs with
    | nil => rfl
    | cons a b => exact absurd rfl hne
   obtain ⟨c,hc⟩ : ∃ c,cs.getLast? = some c := by
    cases hcl : cs.getLast? with
    | some c => exact ⟨c,rfl⟩
    | none => rw [List.getLast?_eq_none_iff] at hcl; subst hcl; cases hne
   have hc' := hc
   rw [List.getLast?_eq_getElem?] at hc'
   have hcl' := (List.getElem?_eq_some_iff.mp hc').1
   obtain ⟨v,hv⟩ : ∃ v,xs[cs.length - 1]? = some v := ⟨_,List.getElem?_eq_getElem (by omega)⟩
   obtain ⟨c2,pp,hc2,rfl,hpp⟩ := hT2.get hv
   rw [hc'] at hc2
   cases hc2
   have hvl : xs.getLast? = some (.ref pp) := by rw [List.getLast?_eq_getElem?,hxl]; exact hv
   have hat : atI xs (-1) = some (.ref pp) := by
    have := kqH (l := xs) (s := .ref pp) id hvl
    simpa using this
   refine ⟨_,_,.inl (.of hl2),hat,?_⟩
   walk_at "rd"
   refine ⟨_,_,.inr (.of hpp),c.at0,?_⟩
   refine L2.aqv.mpr ⟨_,rfl,?_⟩
   rw [gqA]
   refine ite2 (fun hr => ?_) (fun hr => ?_)
   rotate_left
   ·exact ⟨s02,l,cs,xs,rfl,hl2,hT2,fun c hc => hc,by omega,by rw [fqc (.inl (by unfold hasRest; rw [hc]; simpa using hr)),if_pos rfl]⟩
   obtain ⟨n7,hn7⟩ : ∃ n7,is[7]? = some n7 := ⟨_,List.getElem?_eq_getElem (by omega)⟩
   refine ⟨_,_,.inl (.of hl2),hat,by decide,fun p3 H3 n3 s3 hp3 => ⟨_,_,.inl (.of ((s02.trans s3) _ _ hpc)),aqj (j := 7) (by rw [List.getElem?_map,hn7]; rfl),rd_I.mpr ⟨by decide,?_⟩⟩⟩
   obtain ⟨j,hj,ej⟩ : ∃ j : Nat,j < 3 ∧ n7 % 3 = (j : Int) := ⟨(n7 % 3).toNat,by omega,by omega⟩
   rw [ej]
   have hfl : ∀ (v : V) (m : Nat),(List.replicate m [v]).flatten = List.replicate m v := fun v m => by
    induction m with
    | zero => rfl
    | succ m ih => rw [List.replicate_succ,List.flatten_cons,ih]; rfl
   refine ⟨p3,_,_,rfl,rfl,hp3,by omega,by omega,aqn (by simp; omega),fun p4 H4 n4 s4 hp4 => ?_⟩
   rw [Int.toNat_natCast,hfl] at hp4
   have s24 := s3.trans s4
   refine .inl ⟨_,_,s24 _ _ hl2,hp4,aqn (by rw [List.length_replicate]; omega),fun p5 H5 n5 s5 hp5 => ?_⟩
   have s25 := s24.trans s5
   refine ⟨s02.trans s25,p5,cs ++ List.replicate j c,_,rfl,hp5,PcT.append (PcT.rep (s25 _ _ hpp) j) (hT2.mono s25.toT),fun z hz => ?_,?_,?_⟩
   ·rcases List.mem_append.mp hz with hz | hz
    ·exact hz
    ·rw [List.eq_of_mem_replicate hz]; exact List.mem_of_getLast? hc
   ·rw [List.length_append,List.length_replicate]; omega
   ·rw [List.length_append,List.length_replicate,iq7 hc hr (by omega),show cs.length + j - cs.length = j by omega]
  ·rintro σ H2 ⟨s2,l2,ds,ys,rfl,hl2,hd,hsub,hdl,hsp⟩
   have hyl := hd.length
   walk_at "rd"
   refine ⟨l2,_,rfl,.of hl2,fun l3 n3 => ?_⟩
   refine iqG (fun i ws H' => Same H2 H' ∧ ∃ ss : List (List Nat),ws = ss.map tV ∧ ss.length = i ∧ (∀ s ∈ ss,0 < s.length ∧ s.length ≤ 300 ∧ ∀ x ∈ s,isSg x = true) ∧ ∀ (j : Nat) (c : Pc) (s : List Nat),ds[j]? = some c -> ss[j]? = some s -> fitsM c s = true) ?_ ?_ ?_ ?_ ?_ ?_
   ·rintro i ws H3 H4 s4 ⟨s3,h⟩
    exact ⟨s3.trans s4,h⟩
   ·exact aqn (by omega)
   ·exact ⟨aq0 n3,[],rfl,rfl,fun s hs => (by cases hs),fun j c s _ hs => by simp at hs⟩
   ·rintro i ws H3 ⟨s3,h⟩
    exact .of (s3 _ _ hl2)
   ·rintro i x ws H3 T hxi ⟨s3,ss,rfl,hsl,hss,hsf⟩ hl3 hT
    obtain ⟨c,pp,hc,rfl,hpp⟩ := hd.get hxi
    obtain ⟨m,hm,em⟩ : ∃ m : Nat,m < 8 ∧ (i : Int) % 8 = (m : Int) := ⟨i % 8,by omega,by omega⟩
    obtain ⟨n,hn⟩ : ∃ n,is[m]? = some n := ⟨_,List.getElem?_eq_getElem (by omega)⟩
    walk_at "rd"
    refine ⟨by decide,_,_,.inl (.of ((s2.trans s3) _ _ hpc)),by rw [em]; exact aqj (by rw [List.getElem?_map,hn]; rfl),?_⟩
    walk_at "rd"
    refine ⟨.inl ⟨by decide,by decide⟩,c,pp,_,sg,rfl,s3 _ _ hpp,(oc.2 c (hsub c (List.mem_of_getElem? hc))).1,hg0,hgl,hgs,fun z H4 s4 z1 z2 z3 z4 => ?_⟩
    refine hT (tV z) H4 (s4 _ _ hl3) ⟨fun b o hb => ?_,ss ++ [z],by rw [List.map_append]; rfl,by rw [List.length_append,hsl]; rfl,fun s hs => ?_,fun j c' s hc' hs => ?_⟩
    ·have hb' := (s3.trans s4) _ _ hb
     rw [aqt (fun w => by subst w; rw [n3] at hb; cases hb)]; exact hb'
    ·rcases List.mem_append.mp hs with y | y
     ·exact hss s y
     ·rw [List.mem_singleton.mp y]; exact ⟨z2,z3,z4⟩
    ·by_cases hj : j < ss.length
     ·rw [List.getElem?_append_left hj] at hs
      exact hsf j c' s hc' hs
     ·have e1 : j = i := by
       have := (List.getElem?_eq_some_iff.mp hs).1
       rw [List.length_append] at this
       simp at this
       omega
      subst e1
      rw [List.getElem?_append_right (by omega),hsl,Nat.sub_self] at hs
      cases hs
      rw [hc] at hc'
      cases hc'
      exact z1
   ·rintro ws H3 ⟨s3,ss,rfl,hsl,hss,hsf⟩ hl3
    have s03 := s2.trans s3
    walk_at "rd"
    refine ⟨_,.inl (.of hl3),fun p4 H4 s4 hp4 => ⟨_,_,.inr (.of ((s03.trans s4) _ _ hp)),aqj (j := 1) rfl,by decide,fun p5 H5 n5 s5 hp5 => ?_⟩⟩
    refine k (.ref p5) H5 ((s03.trans s4).trans s5) ⟨p5,p4,true,e,ss,rfl,hp5,s5 _ _ hp4,⟨by omega,fun s hs => ⟨(hss s hs).1,by have := (hss s hs).2.1; omega,(hss s hs).2.2⟩⟩,?_⟩
    exact dqw.mpr ⟨ds,by rw [hsl,hyl]; exact hsp,rfl,rfl,hsf⟩
theorem pq0 (g : G w K mg) : FnOk P w K mg base CX0 5 g.kql g.iqt ["pattern","way"] (pq9 K) := by
 refine g.mqS.ok iqs (fun vs H Q E h => ?_) (fun cdv A outer s H vs Q E hr h => ?_)
 ·obtain ⟨cs,xs,p,q,pw,ps,cl,r,e,ss,rfl,_⟩ := h; rfl
 ·obtain ⟨cs,xs,p,q,pw,ps,cl,r,e,ss,rfl,hp,hq,hx,hn,hz,hw,hps,hsn,hsl,k0,k⟩ := h
  refine ⟨_,(aqf (aqB (cqU (aqR (aqi (pqO g) (hr.mono (by decide)) rfl g.oqu g.mq4.kp g.pqh .nil pass0 (aqa (pv 0) (aqa (pv 1) aqb)))))
    (aqg (aqk bqY)) aqs)
   (aqf (aqw (i := 2) iqs.nd rfl (Or.inl rfl) (aqS aqb))
   (aqf (cqs PassesOwn.never rfl (oqV (K := K) rfl rfl g.cqG (aqa (aqp (aqh (K := K) rfl) (pv 0) (aqA (v := bqv) rfl g.bqm ⟨_,rfl⟩) (fun _ _ => rfl)) aqb)) (fqL (n := 2) (K := K) rfl rfl (aqK (aqC (i := 3) iqs.nd rfl (Or.inl rfl)) (aqK (aqC (i := 4) iqs.nd rfl (Or.inl rfl)) eqE)))
   (aqg (aqB (aqR (aqi (eqb g) (hr.mono (by decide)) rfl g.eqy g.dqL.kp g.eqK .nil pass0 (aqa (pv 4) aqb)))
    (aqg (eqM (fqg (K := K) rfl PySem.F.plainAttrs_list PySem.F.slot_list_append PySem.F.type_list_append cqp (pv 2) (aqa (aqY (aqa (aqi (gqj g) (hr.mono (by decide)) rfl g.fqP g.eqf.kp g.fqt .nil pass0 (aqa (pv 4) aqb)) (aqa (aqi (jqG g) (hr.mono (by decide)) rfl g.gqK g.eqP.kp g.gq0 .nil pass0 (aqa (pv 4) (aqa (cqg pqt (aqp (aqh (K := K) rfl) (pv 1) (aqA (v := oql) rfl g.mqK ⟨_,rfl⟩) (fun _ _ => rfl)) (cqX (pv 3)) dq9) aqb))) aqb))) aqb)))) aqs)))
   (aqg (aqk (pv 2)))))),?_⟩
  walk_at "rd"
  refine ⟨cs,xs,p,q,pw,ps,cl,r,e,ss,rfl,hp,hq,hx,hn,hz,hw,.of hps,hsn,hsl,fun H1 s1 => ⟨_,rfl,?_⟩⟩
  cases hf : fitsP cs cl r ss e with
  | false => exact ite2 (fun _ => k0 hf H1 s1) (fun z => absurd rfl z)
  | true =>
   refine ite2 (fun z => by cases z) (fun _ => ⟨by decide,fun l H2 n2 s2 e2 => ?_⟩)
   have s02 := s1.trans s2
   have hl := hx.length
   refine ⟨_,_,.inr (s02.tup hp),aqj (j := 0) rfl,q,xs,rfl,.of (s02 _ _ hq),?_⟩
   have nl : H l = none := by
    cases hh : H l with
    | none => rfl
    | some o => rw [s1 _ _ hh] at n2; cases n2
   refine lq0 (fun i σ H' => ∃ (ys : List V) (v3 v4 : Option V),σ = [some (.ref p),some (.ref pw),some (.ref l),v3,v4] ∧ H' l = some (.lst ys) ∧ BndV H' l (boundM (cs.take i) ss) ys ∧ Same H H') ⟨[],none,none,rfl,e2,.nil,s02⟩ (fun i σ H' _ h => by obtain ⟨_,_,_,_,_,_,hh⟩ := h; exact .of (hh _ _ hq)) ?_ ?_
   ·rintro i v σ H3 T hv ⟨ys,v3,v4,rfl,e3,hb,s3⟩ hT
    obtain ⟨c,pc,hc,rfl,hpc⟩ := hx.get hv
    have st : Same H3 (upd H3 T (.tup [.int (i : Int),.ref pc])) := aq0 hT
    have hpc' := (s3.trans st).tup hpc
    have et := iqX cs ss i c hc
    obtain ⟨s,hs,hfs⟩ := nqb hf hc
    walk_at "rd"
    refine ⟨T,_,rfl,.of aqm,rfl,_,_,rfl,_,_,rfl,rfl,?_⟩
    walk_at "rd"
    refine ⟨c,pc,rfl,hpc',_,rfl,?_⟩
    have hbl := hb.length
    have hbn := kqg (cs.take i) ss
    rw [List.length_take] at hbn
    cases hcs : c.isStep with
    | true =>
     refine ite2 (fun z => by cases z) (fun _ => ?_)
     rw [hcs,if_pos rfl,List.append_nil] at et
     exact ⟨ys,_,_,⟨rfl,rfl⟩,st _ _ e3,by rw [et]; exact hb.mono st,s3.trans st⟩
    | false =>
     refine ite2 (fun _ => ?_) (fun z => absurd rfl z)
     rw [hcs,if_neg (by decide)] at et
     have sT := s3.trans st
     have hsi : ss.drop i = s :: ss.drop (i + 1) := by
      have hi := (List.getElem?_eq_some_iff.mp hs)
      rw [List.drop_eq_getElem_cons hi.1,hi.2]
     obtain ⟨z1,z2⟩ := hz c (List.mem_of_getElem? hc)
     refine ⟨⟨_,.of (st _ _ e3)⟩,c,pc,rfl,hpc',hcs,_,_,.inr (sT.tup hw),aqj (j := 1) rfl,ps,_,rfl,sT _ _ hps,fun p4 H4 s4 e4 => ?_⟩
     rw [hqj,<- List.map_drop,hsi] at e4
     refine ⟨c,s,ss.drop (i + 1),pc,p4,rfl,s4.tup hpc',e4,hfs,hsl s (List.mem_of_getElem? hs),z1,z2,by rw [List.length_drop]; omega,fun v H5 s5 hv5 hn5 => ⟨by decide,fun p6 H6 n6 s6 e6 => ?_⟩⟩
     have e36 := (st.trans (s4.trans (s5.trans s6))) _ _ e3
     have hvn : ∀ q,v = .ref q -> q ≠ l := fun q z w => by
      have := hn5 q z
      rw [w,s4 _ _ (st _ _ e3)] at this
      cases this
     refine ⟨_,e36,Nat.lt_of_le_of_lt (show ys.length ≤ 100 by omega) (by decide),ys ++ [.ref p6],_,_,⟨rfl,rfl⟩,by rw [aqm],?_,lqD nl (sT.trans (s4.trans (s5.trans s6)))⟩
     rw [et,hsi]
     exact ((hb.mono (st.trans (s4.trans (s5.trans s6)))).snoc e6 (hv5.mono s6) hvn).upd e36
   ·rintro σ H3 ⟨ys,v3,v4,rfl,e3,hb,s3⟩
    rw [hl,List.take_length] at hb
    walk_at "rd"
    exact k hf l ys H3 s3 e3 hb
theorem mqb (g : G w K mg) : FnOk P w K mg base CX0 5 g.fqY g.eqR ["gap","value"] (mqC K) := by
 refine g.hqM.ok mqB (fun vs H Q E h => ?_) (fun cdv A outer s H vs Q E hr h => ?_)
 ·obtain ⟨c,p,d,v,rfl,_⟩ := h; rfl
 ·obtain ⟨c,p,d,v,rfl,hp,hc,hh,ht,hv,hs,k⟩ := h
  refine ⟨_,(aqf (aqB (aql aqG (aqp (aqh (K := K) rfl) (pv 0) aqd (fun _ _ => rfl)) aqx (nomark _))
    (aqg (aqk (dqA (aqq equ rfl g.bqr aq3 (aqa (pv 1) (aqa (hqH (v := .ty "list") rfl g.lqg kqZ rfl) aqb))) (dqA (aqE lql (aqq (aqr (K := K) rfl) rfl g.aqQ PySem.boot_len (aqa (pv 1) aqb)) aqd (nomark _)) (cqu (aqq (jql (K := K) rfl rfl) rfl g.qqM PyProof.Rows.boot_all (aqa (fqa (fx := []) (fr := []) rfl rfl (by decide +kernel) rfl (by decide +kernel) rfl (by decide +kernel) rfl .nil rfl (cqa (K := K) rfl (pv 1)) (fun _ _ _ => hqt) (fun _ _ _ => (aqi (jqF g) (hr.mono (by decide)) rfl g.gqO g.eqI.kp g.gqR .nil pass0 (aqa (pv 0) aqb)))) aqb))))))) aqs)
   (aqf (aqB (aql aqG (aqp (aqh (K := K) rfl) (pv 0) aqd (fun _ _ => rfl)) aqx (nomark _))
    (aqg (aqk (dqA (aqi (gqL g) (hr.mono (by decide)) rfl g.eqc g.cqz.kp g.eqk .nil pass0 (aqa (pv 1) aqb)) (cqu (mq3 mqq oqO aqd (pv 1) (aqu rqh aqd aqd)))))) aqs)
   (aqf (aqB (aql aqG (aqp (aqh (K := K) rfl) (pv 0) aqd (fun _ _ => rfl)) aqx (nomark _))
    (aqg (aqk (dqA (aqq equ rfl g.bqr aq3 (aqa (pv 1) (aqa (hqH (v := .ty "str") rfl g.oqp nqo rfl) aqb))) (cqu (aqi (jqU g) (hr.mono (by decide)) rfl g.jqf g.hqp.kp g.iqR .nil pass0 (aqa (pv 1) aqb)))))) aqs)
   (aqg (aqk (dqA (aqi (eqr g) (hr.mono (by decide)) rfl g.cqY g.bqJ.kp g.cq3 .nil pass0 (aqa (pv 1) aqb)) (cqu (pqN (aqi (iq1 g) (hr.mono (by decide)) rfl g.iqw g.gqQ.kp g.iqv .nil pass0 (aqa (aqu (aqz (K := K)) (aqu (aqz (K := K)) (aqi (bqV g) (hr.mono (by decide)) rfl g.bq6 g.bqE.kp g.cqq .nil pass0 (aqa (pv 0) aqb)) (pv 1)) (aqi (bqZ g) (hr.mono (by decide)) rfl g.cql g.bqD.kp g.bq8 .nil pass0 (aqa (pv 0) aqb))) aqb)))))))))),?_⟩
  walk_at "rd"
  refine ⟨_,_,.inr hp,c.at0,aqv.mpr ⟨_,rfl,?_⟩⟩
  rw [gqA]
  refine ite2 (fun hrs => ?_) (fun hrs => ⟨_,_,.inr hp,c.at0,aqv.mpr ⟨_,rfl,?_⟩⟩)
  ·cases c with
   | rest n =>
    have k1 := k
    cases hv with
    | lst hl r =>
     rename_i a xs ds
     refine ⟨"list",iqq hl,?_⟩
     rw [if_pos (by decide)]
     have hlen := r.length
     have hsm : ds.length ≤ 100000 ∧ smallAll ds = true := by simpa [smallD] using hs
     refine lqC.mpr ⟨xs,.inl (.of hl),qqt.mpr ⟨_,rfl,?_⟩⟩
     have e : isValD (.rest n) (.list ds) = (decide (0 < ds.length) && ds.all canD) := rfl
     rw [e] at k
     refine ite2 (fun h0 => ?_) (fun h0 => ?_)
     ·have h0 : 0 < ds.length := by have := of_decide_eq_true h0; omega
      rw [decide_eq_true h0,Bool.true_and] at k
      refine ⟨_,rfl,⟨_,.of hl⟩,fun p0 n0 => ?_⟩
      refine nqT (zs := (ds.map canD).map V.bl) (.of hl) (aqn (by omega)) n0 (by rw [List.length_map,List.length_map,hlen]) (fun i x z hx hz H1 T s1 hT => ?_) (fun H1 s1 hp1 => ?_)
      ·obtain ⟨d,hd,hI⟩ := r.at i x hx
       rw [List.getElem?_map,List.getElem?_map,hd] at hz
       cases hz
       walk_at "rd"
       exact ⟨d,x,rfl,hI.mono s1,hq6 hsm.2 (List.mem_of_getElem? hd),fun H2 s2 => hT H2 s2⟩
      ·refine lq9.mpr ⟨ds.map canD,.of hp1,?_⟩
       have := k H1 s1
       rw [List.all_map]
       exact this
     ·have h0 : ¬ 0 < ds.length := fun z => h0 (decide_eq_true (by omega))
      rw [decide_eq_false h0,Bool.false_and] at k
      exact k H (Same.refl _)
    | tup hl r =>
     refine ⟨"tuple",iqy hl,?_⟩
     rw [if_neg (by decide)]
     exact k H (Same.refl _)
    | non => exact ⟨"NoneType",rfl,ite2 (fun z => absurd z (by decide)) (fun _ => k H (Same.refl _))⟩
    | bl b => exact ⟨"bool",rfl,ite2 (fun z => absurd z (by decide)) (fun _ => k H (Same.refl _))⟩
    | int i => exact ⟨"int",rfl,ite2 (fun z => absurd z (by decide)) (fun _ => k H (Same.refl _))⟩
    | str x => exact ⟨"str",rfl,ite2 (fun z => absurd z (by decide)) (fun _ => k H (Same.refl _))⟩
   | _ => cases hrs
  rw [eqd]
  refine ite2 (fun hnm => ?_) (fun hnm => ⟨_,_,.inr hp,c.at0,aqv.mpr ⟨_,rfl,?_⟩⟩)
  ·cases c with
   | num n =>
    refine ⟨d,v,rfl,hv,_,rfl,?_⟩
    cases hv with
    | int i =>
     refine ite2 (fun _ => qqt.mpr ⟨_,rfl,?_⟩) (fun z => absurd rfl z)
     have e : isValD (.num n) (.int i) = decide (0 ≤ i ∧ i < 10 ^ 60) := rfl
     rw [e] at k
     have k1 := k H (Same.refl _)
     refine ite2 (fun h0 => ⟨⟨by decide,by decide,by decide⟩,qqt.mpr ?_⟩) (fun h0 => ?_)
     ·have h0 := of_decide_eq_true h0
      rw [show decide (0 ≤ i ∧ i < 10 ^ 60) = decide (i < 10 ^ Int.toNat 60) by rw [decide_eq_decide]; exact ⟨fun z => z.2,fun z => ⟨h0,z⟩⟩] at k1
      exact k1
     ·rw [decide_eq_false (fun z => h0 (decide_eq_true z.1))] at k1
      exact k1
    | _ => exact ite2 (fun z => by cases z) (fun _ => k H (Same.refl _))
   | _ => cases hnm
  rw [gqB]
  refine ite2 (fun hw => ?_) (fun hw => ?_)
  ·cases c with
   | word n =>
    cases hv with
    | str x =>
     refine ⟨"str",rfl,ite2 (fun _ => ?_) (fun z => absurd (by decide) z)⟩
     have hl := fqJ hs
     exact ⟨x.cps.toList,rfl,hl,fun H1 s1 => k H1 s1⟩
    | lst hl r => exact ⟨"list",iqq hl,ite2 (fun z => absurd z (by decide)) (fun _ => k H (Same.refl _))⟩
    | tup hl r => exact ⟨"tuple",iqy hl,ite2 (fun z => absurd z (by decide)) (fun _ => k H (Same.refl _))⟩
    | non => exact ⟨"NoneType",rfl,ite2 (fun z => absurd z (by decide)) (fun _ => k H (Same.refl _))⟩
    | bl b => exact ⟨"bool",rfl,ite2 (fun z => absurd z (by decide)) (fun _ => k H (Same.refl _))⟩
    | int i => exact ⟨"int",rfl,ite2 (fun z => absurd z (by decide)) (fun _ => k H (Same.refl _))⟩
   | _ => cases hw
  ·have e : isValD c d = (ftx d && !isDot (c.head ++ txD d ++ c.tail)) := by
    cases c with
    | part a b e => rfl
    | gap n => show (ftx d && !isDot (txD d)) = (ftx d && !isDot ([] ++ txD d ++ [])); rw [List.nil_append,List.append_nil]
    | step s => cases hc
    | num n => exact absurd rfl hnm
    | word n => exact absurd rfl hw
    | rest n => exact absurd rfl hrs
   rw [e] at k
   refine ⟨d,v,rfl,hv,hs,fun H1 s1 => ⟨_,rfl,?_⟩⟩
   refine ite2 (fun hf => ?_) (fun hf => ?_)
   ·cases hv with
    | str x =>
     obtain ⟨⟨l⟩⟩ := x
     have hl : l.length ≤ 100000 := fqJ hs
     rw [hf,Bool.true_and] at k
     have b3 : 300000 ≤ sizeLine := by decide
     refine ⟨c,p,rfl,s1.tup hp,gqG.mpr ⟨Nat.le_trans (show c.head.length + l.length ≤ 300000 by omega) b3,c,p,rfl,s1.tup hp,gqG.mpr ⟨?_,?_⟩⟩⟩
     ·show ((⟨c.head.toArray⟩ : Str) ++ ⟨l.toArray⟩).length + c.tail.length ≤ _
      rw [fqh,bqn,List.length_append]
      omega
     ·show lqV [V.str ((⟨c.head.toArray⟩ : Str) ++ ⟨l.toArray⟩ ++ ⟨c.tail.toArray⟩)] H1 _ E0
      rw [fqh,fqh]
      exact ⟨_,rfl,_,rfl,k H1 s1⟩
    | _ => cases hf
   ·rw [Bool.eq_false_iff.mpr hf,Bool.false_and] at k
    exact k H1 s1
theorem hqW (g : G w K mg) : FnOk P w K mg base CX0 5 g.bqF g.bqt ["piece","beside"] (hqB K) := by
 refine g.cq2.ok eqi (fun vs H Q E h => ?_) (fun cdv A outer s H vs Q E hr h => ?_)
 ·obtain ⟨c,d,p,q,rfl,_⟩ := h; rfl
 ·obtain ⟨c,d,p,q,rfl,hp,hq,hc,hd,k⟩ := h
  refine ⟨_,(aqf (aqB (PW.pt (fqz (cqU (aqR (aqi (eqb g) (hr.mono (by decide)) rfl g.eqy g.dqL.kp g.eqK .nil pass0 (aqa (pv 0) aqb)))) (dqS (cqU (aqR (aqi (eqb g) (hr.mono (by decide)) rfl g.eqy g.dqL.kp g.eqK .nil pass0 (aqa (pv 1) aqb)))))))
    (aqg (aqk (aqu (aqz (K := K)) (aqi (bqP g) (hr.mono (by decide)) rfl g.bqs g.aq4.kp g.bqq .nil pass0 (aqa (pv 0) aqb)) (aqi (bqP g) (hr.mono (by decide)) rfl g.bqs g.aq4.kp g.bqq .nil pass0 (aqa (pv 1) aqb))))) aqs)
   (aqf (aqw (i := 2) eqi.nd rfl (Or.inl rfl) (kq9 rfl rfl g.pqk rfl g.aqQ PySem.boot_len PyProof.Rows.boot_max (aqa (aqi (bqV g) (hr.mono (by decide)) rfl g.bq6 g.bqE.kp g.cqq .nil pass0 (aqa (pv 0) aqb)) (aqa (aqi (bqV g) (hr.mono (by decide)) rfl g.bq6 g.bqE.kp g.cqq .nil pass0 (aqa (pv 1) aqb)) aqb))))
   (aqg (aqk (aqi (fqv g) (hr.mono (by decide)) rfl g.dq3 g.cqL.kp g.dq8 .nil pass0 (aqa (pv 2) (aqa (kq9 rfl rfl g.pqk rfl g.aqQ PySem.boot_len PyProof.Rows.boot_max (aqa (aqi (bqZ g) (hr.mono (by decide)) rfl g.cql g.bqD.kp g.bq8 .nil pass0 (aqa (pv 0) aqb)) (aqa (aqi (bqZ g) (hr.mono (by decide)) rfl g.cql g.bqD.kp g.bq8 .nil pass0 (aqa (pv 1) aqb)) aqb))) aqb))))))),?_⟩
  walk_at "rd"
  have f4 : ∀ c : Pc,(fitT c).length ≤ 4 := fun c => by
   unfold fitT
   refine Nat.le_trans (List.length_filter_le _ _) ?_
   cases c <;> first | (show 4 ≤ 4; decide) | (show 1 ≤ 4; decide)
  have cat : c.isStep = true ∨ d.isStep = true -> cq4 K [.ref p] H (fun x H1 => cq4 K [.ref q] H1 (fun y H2 => rAddS K x y H2 Q) E0) E0 := fun hs => by
   refine ⟨c,p,rfl,hp,hc,fun l1 H1 s1 h1 => ⟨d,q,rfl,s1.tup hq,hd,fun l2 H2 s2 h2 => .inl ⟨_,_,s2 _ _ h1,h2,aqn ?_,fun l3 H3 n3 s3 h3 => ?_⟩⟩⟩
   ·rw [List.length_map,List.length_map]; have := f4 c; have := f4 d; omega
   ·refine k l3 H3 ((s1.trans s2).trans s3) ?_
    rw [h3,<- List.map_append]
    unfold bothT
    rw [if_pos hs]
  refine ⟨c,p,rfl,hp,_,rfl,?_⟩
  cases hcs : c.isStep with
  | true => exact ite2 (fun _ => cat (.inl hcs)) (fun z => absurd rfl z)
  | false =>
   refine ite2 (fun z => by cases z) (fun _ => ⟨d,q,rfl,hq,_,rfl,?_⟩)
   cases hds : d.isStep with
   | true => exact ite2 (fun _ => cat (.inr hds)) (fun z => absurd rfl z)
   | false =>
    refine ite2 (fun z => by cases z) (fun _ => ?_)
    have lg : ∀ a b : List Nat,(if (⟨a.toArray⟩ : Str).length < (⟨b.toArray⟩ : Str).length then (⟨b.toArray⟩ : Str) else ⟨a.toArray⟩) = ⟨(longM a b).toArray⟩ := fun a b => by
     rw [bqn,bqn]
     unfold longM
     split <;> rfl
    have ll : ∀ a b : List Nat,a.length ≤ 40000 -> b.length ≤ 40000 -> (longM a b).length ≤ 40000 := fun a b ha hb => by unfold longM; split <;> assumption
    refine ⟨c,p,rfl,hp,d,q,rfl,hq,⟨c.head.toArray⟩,⟨d.head.toArray⟩,rfl,aqn (by rw [bqn]; have := hc.1; omega),aqn (by rw [bqn]; have := hd.1; omega),?_⟩
    rw [lg]
    refine ⟨c,p,rfl,hp,d,q,rfl,hq,⟨c.tail.toArray⟩,⟨d.tail.toArray⟩,rfl,aqn (by rw [bqn]; have := hc.2.1; omega),aqn (by rw [bqn]; have := hd.2.1; omega),?_⟩
    rw [lg]
    refine ⟨_,_,rfl,ll _ _ hc.1 hd.1,ll _ _ hc.2.1 hd.2.1,fun l H1 s1 h1 => k l H1 s1 ?_⟩
    rw [h1]
    unfold bothT
    rw [if_neg (by rw [hcs,hds]; decide)]
theorem jqz (g : G w K mg) : FnOk P w K mg base CX0 5 g.cq7 g.cqK ["piece","beside"] (jqs K) := by
 refine g.eqW.ok gqr (fun vs H Q E h => ?_) (fun cdv A outer s H vs Q E hr h => ?_)
 ·obtain ⟨c,d,p,q,rfl,_⟩ := h; rfl
 ·obtain ⟨c,d,p,q,rfl,hp,hq,hzc,hzd,k⟩ := h
  refine ⟨_,(aqf (cqs PassesOwn.never rfl (cqa (K := K) rfl (aqi (bqP g) (hr.mono (by decide)) rfl g.bqs g.aq4.kp g.bqq .nil pass0 (aqa (pv 0) aqb))) (aqC (i := 2) gqr.nd rfl (Or.inl rfl))
   (aqg (aqB (cqU (aqR (aqi (cqS g) (hr.mono (by decide)) rfl g.cqx g.bqT.kp g.cqA .nil pass0 (aqa (pv 1) (aqa (pv 2) aqb)))))
    (aqg (aqk (pv 2))) aqs)))
   (aqg (aqk bqY))),?_⟩
  walk_at "rd"
  refine ⟨c,p,rfl,hp,hzc,fun l H1 s1 hl => ⟨l,rfl,⟨_,.of hl⟩,?_⟩⟩
  refine eqj (xs := (fitT c).map tV) (fun i σ H' => Same H1 H' ∧ ∃ v2,σ = [some (.ref p),some (.ref q),v2] ∧ ∀ s ∈ (fitT c).take i,fitsM d s = true) ⟨Same.refl _,none,rfl,fun s hs => by rw [List.take_zero] at hs; cases hs⟩ (fun i σ H' _ h => .of (h.1 _ _ hl)) ?_ ?_
  ·rintro i x σ H2 hxi ⟨s2,v2,rfl,hpre⟩
   rw [List.getElem?_map] at hxi
   obtain ⟨s,hs,rfl⟩ := Option.map_eq_some_iff.mp hxi
   have hsl := kqq hzc s (List.mem_of_getElem? hs)
   walk_at "rd"
   refine ⟨d,s,q,rfl,(s1.trans s2).tup hq,by omega,by have := hzd.1; omega,by have := hzd.2.1; omega,fun H3 s3 => ⟨_,rfl,?_⟩⟩
   refine ite2 (fun hf => ?_) (fun hf => ⟨s2.trans s3,fun z hz' => ?_⟩)
   ·have e : stepBey c d = some s := mqN hs hpre (by rw [hf]; rfl)
    rw [e] at k
    exact k H3 ((s1.trans s2).trans s3)
   ·rw [List.take_add_one,hs] at hz'
    rcases List.mem_append.mp hz' with y | y
    ·exact hpre z y
    ·have : z = s := by simpa using y
     rw [this]; simpa using hf
  ·rintro σ H2 ⟨s2,v2,rfl,hpre⟩
   rw [List.length_map,List.take_length] at hpre
   have e : stepBey c d = none := List.find?_eq_none.mpr fun s hs => by rw [hpre s hs]; decide
   rw [e] at k
   walk_at "rd"
   exact k H2 (s1.trans s2)
theorem gqH (g : G w K mg) : FnOk P w K mg base CX0 5 g.bqj g.aq6 ["_law_pattern_here","_law_cells_here","_law_names_here","_law_signs_here"] (gqE K) := by
 refine g.cqh.ok aqO (fun vs H Q E h => ?_) (fun cdv A outer s H vs Q E hr h => ?_)
 ·obtain ⟨cs,e,p,pc,pn,g,ns,is,rfl,_⟩ := h; rfl
 ·obtain ⟨cs,e,p,pc,pn,sg,ns,is,rfl,hcl,h7,oc,⟨q,xs,hp,hq,hx⟩,hpc,his,hpn,hns,hnd,hnsg,hg0,hgl,hgs,k⟩ := h
  refine ⟨_,(aqf (aqw (i := 4) aqO.nd rfl (Or.inl rfl) (aqp (aqh (K := K) rfl) (pv 1) aqd (fun _ _ => rfl)))
   (aqf (mql (i := 5) (fx := []) (fr := []) aqO.nd rfl rfl rfl rfl (by decide +kernel) rfl (by decide +kernel) rfl (by decide +kernel) rfl .nil rfl (kqr (K := K) rfl (aqp (aqh (K := K) rfl) (pv 0) aqd (fun _ _ => rfl))) (fun _ _ _ => (hqs (aql hqU (aqp (aqh (K := K) rfl) (pv 0) aqd (fun _ _ => rfl)) aqx (nomark _)))) (fun _ _ _ => (pv 0)))
   (bqh (gq3 (i := 6) (K := K) (fx := ["_law_signs_here","_law_cells_here","_law_names_here"]) (fr := [3,1,2]) aqO.nd rfl rfl rfl rfl rfl (by decide +kernel) rfl (by decide +kernel) rfl rfl (by decide +kernel) rfl (.cons rfl rfl rfl rfl (.cons rfl rfl rfl rfl (.cons rfl rfl rfl rfl .nil))) rfl (kqO (K := K) rfl rfl g.cqG (aqa (pv 5) aqb)) (fun _ _ _ => hqt) (fun _ _ _ => (aqi (mqy g) (hr.mono (by decide)) rfl g.kqh g.hqE.kp g.jqW .nil pass0 (aqa (pv 1) (aqa (aqp (aqh (K := K) rfl) (pv 3) (aqu (aqz (K := K)) aqd (pv 0)) (fun _ _ => rfl)) (aqa (aqp (aqh (K := K) rfl) (pv 4) (pv 0) (fun _ _ => rfl)) (aqa (pv 2) aqb)))))))
   (bqh (aqB (PW.pt (fqN (aql aqG (aqu aqM (pv 4) aqd) aqd (nomark _)) (dq6 (aql (jqR hr.units) (pv 6) (aqS aqb) (nomark _)))))
    (aqg (aqw (i := 6) aqO.nd rfl (Or.inl rfl) (cqg (gqd (K := K) rfl) (pv 6) dq9 (cqX (aqu aqM (aqu bqi (pv 4) aqd) (aqq (aqr (K := K) rfl) rfl g.aqQ PySem.boot_len (aqa (pv 6) aqb))))))) aqs)
   (bqh (aqB (PW.pt (fqN (aql lql (aqu aqM (pv 4) aqd) aqd (nomark _)) (dq6 (aql lql (aqu aqM (aqu bqi (pv 4) aqd) aqd) aqd (nomark _)))))
    (aqg (eqM (fqg (K := K) rfl PySem.F.plainAttrs_list PySem.F.slot_list_append PySem.F.type_list_append cqp (pv 6) (aqa (aqY (aqa aqx (aqa (aqp (aqh (K := K) rfl) (pv 2) aqd (fun _ _ => rfl)) aqb))) aqb)))) aqs)
   (aqg (aqk (aqY (aqa (aqN (bqQ (K := K) rfl) rfl g.eqC dqX (aqa (pv 6) aqb)) (aqa (oqz (aqE (mqV hr.units) (pv 6) (aqS aqb) (nomark _)) (cqu (aqE hqU (aqp (aqh (K := K) rfl) (pv 0) aqd (fun _ _ => rfl)) (aqE aqG (aqu aqM (aqu bqi (pv 4) aqd) aqd) aqd (nomark _)) (nomark _)))) aqb)))))))))),?_⟩
  walk_at "rd"
  have hxl := hx.length
  obtain ⟨hd,hhd⟩ : ∃ z,is[0]? = some z := ⟨_,List.getElem?_eq_getElem (by omega)⟩
  refine ⟨_,_,.inl (.of hpc),aqj (j := 0) (by rw [List.getElem?_map,hhd]; rfl),_,_,.inr (.of hp),aqj (j := 0) rfl,q,rfl,⟨_,.of hq⟩,fun l0 n0 => ?_⟩
  refine jqM (fun i => match cs[i]? with | some c => !c.isRest | none => false) (fun i => xs[i]?.getD .non) (.of hq) (aqn (by omega)) n0 (fun i x hxi H1 R s1 hR => ?_) (fun i x hxi ht H1 T s1 hT => ?_) (fun H1 s1 hl0 => ?_)
  ·obtain ⟨c,pp,hc,rfl,hpp⟩ := hx.get hxi
   have hR' : ∀ H'',Same H1 H'' -> R (!c.isRest) H'' := fun H'' s => by
    have := hR H'' s
    rw [hc] at this
    exact this
   walk_at "rd"
   refine ⟨_,_,.inr (.of (s1 _ _ hpp)),c.at0,L2.mqn.mpr ?_⟩
   rw [gqA]
   walk_at "rd"
   exact hR' H1 (Same.refl _)
  ·have hT' : ∀ H'',Same H1 H'' -> T x H'' := fun H'' s => by
    have := hT H'' s
    rw [hxi] at this
    exact this
   walk_at "rd"
   exact hT' H1 (Same.refl _)
  have hpk := (hx.mono s1.toT).pick ((List.range xs.length).filter fun i => match cs[i]? with | some c => !c.isRest | none => false) (fun i hi => List.mem_range.mp (List.mem_filter.mp hi).1)
  have hin : ∀ c ∈ ((List.range xs.length).filter fun i => match cs[i]? with | some c => !c.isRest | none => false).map (fun i => cs[i]?.getD (.gap [])),c ∈ cs ∧ c.isRest = false := fun c hc => by
   obtain ⟨i,hi,rfl⟩ := List.mem_map.mp hc
   have ht := (List.mem_filter.mp hi).2
   cases hci : cs[i]? with
   | none => rw [hci] at ht; cases ht
   | some c =>
    rw [hci] at ht
    exact ⟨List.mem_of_getElem? hci,by simpa using ht⟩
  have hkl : (((List.range xs.length).filter fun i => match cs[i]? with | some c => !c.isRest | none => false).map (fun i => cs[i]?.getD (.gap []))).length ≤ 6 := by
   rw [List.length_map]
   by_cases h6 : xs.length ≤ 6
   ·have := List.length_filter_le (fun i => match cs[i]? with | some c => !c.isRest | none => false) (List.range xs.length)
    rw [List.length_range] at this
    omega
   ·obtain ⟨c,hc⟩ : ∃ c,cs[6]? = some c := ⟨_,List.getElem?_eq_getElem (by omega)⟩
    have h1 := List.length_filter_le (fun i => match cs[i]? with | some c => !c.isRest | none => false) (List.range 6)
    rw [List.length_range] at h1
    have h2 : List.filter (fun i => match cs[i]? with | some c => !c.isRest | none => false) [6] = [] := List.filter_eq_nil_iff.mpr fun z hz => by
     rw [List.mem_singleton.mp hz,hc]
     simp [h7 c hc]
    rw [show xs.length = 6 + 1 by omega,List.range_succ,List.filter_append,List.length_append,h2]
    exact h1
  generalize ((List.range xs.length).filter fun i => match cs[i]? with | some c => !c.isRest | none => false).map (fun i => cs[i]?.getD (.gap [])) = ks at hpk hin hkl
  generalize ((List.range xs.length).filter fun i => match cs[i]? with | some c => !c.isRest | none => false).map (fun i => xs[i]?.getD .non) = zs at hpk hl0
  have hzl := hpk.length
  refine ⟨fun σ H2 => Same H H2 ∧ ∃ (l : Addr) (ds : List Pc) (ys : List V),σ = [some (.ref p),some (.ref pc),some (.ref pn),some (tV sg),some (.int hd),some (.ref l0),some (.ref l)] ∧ H l = none ∧ H2 l = some (.lst ys) ∧ PcT H2 ds ys ∧ ds.length ≤ 6 ∧ (∀ (j : Nat) (c : Pc),ds[j]? = some c -> c.isStep = false -> ns[j]? = some c.name) ∧ ∀ c ∈ ds,(PcOk c ∧ PcSg c) ∧ c.isRest = false,?_,?_⟩
  ·refine ⟨l0,_,rfl,.of hl0,fun l n1 => ?_⟩
   refine iqG (fun i ws H' => Same H1 H' ∧ ∃ ds : List Pc,PcT H' ds ws ∧ ds.length = i ∧ (∀ (j : Nat) (c : Pc),ds[j]? = some c -> c.isStep = false -> ns[j]? = some c.name) ∧ ∀ c ∈ ds,(PcOk c ∧ PcSg c) ∧ c.isRest = false) ?_ ?_ ?_ ?_ ?_ ?_
   ·rintro i ws H3 H4 s4 ⟨s3,ds,h1,h2⟩
    exact ⟨s3.trans s4,ds,h1.mono s4.toT,h2⟩
   ·exact aqn (by omega)
   ·exact ⟨aq0 n1,[],.nil,rfl,(fun j c h => by simp at h),fun s hs => (by cases hs)⟩
   ·rintro i ws H3 ⟨s3,h⟩
    exact .of (s3 _ _ hl0)
   ·rintro i x ws H3 T hxi ⟨s3,ds,hd3,hdl,hdn,hdo⟩ hl3 hT
    obtain ⟨c,pp,hc,rfl,hpp⟩ := hpk.get hxi
    have hil := (List.getElem?_eq_some_iff.mp hc).1
    obtain ⟨m,hm⟩ : ∃ z,is[1 + i]? = some z := ⟨_,List.getElem?_eq_getElem (by omega)⟩
    obtain ⟨nm,hnm⟩ : ∃ z,ns[i]? = some z := ⟨_,List.getElem?_eq_getElem (by omega)⟩
    obtain ⟨hcm,hcr⟩ := hin c (List.mem_of_getElem? hc)
    have s03 := s1.trans s3
    walk_at "rd"
    refine ⟨_,_,.inl (.of (s03 _ _ hpc)),by rw [show (1 + (i : Int)) = ((1 + i : Nat) : Int) by omega]; exact aqj (by rw [List.getElem?_map,hm]; rfl),_,_,.inl (.of (s03 _ _ hpn)),aqj (by rw [List.getElem?_map,hnm]; rfl),?_⟩
    refine ⟨c,pp,m,nm,sg,rfl,s3 _ _ hpp,(oc c hcm).1,hcr,hg0,hgl,hgs,fun c' p' H4 o1 o2 o3 s4 hp4 => ?_⟩
    refine hT (.ref p') H4 (s4 _ _ hl3) ⟨kqz (s3.trans s4) n1,ds ++ [c'],?_,by rw [List.length_append,hdl]; rfl,fun j c'' hj hst => ?_,fun z hz => ?_⟩
    ·have st := iqN (ys := ws ++ [.ref p']) (s4 _ _ hl3)
     exact PcT.append (.cons (st _ _ hp4) .nil) ((hd3.mono s4.toT).mono st)
    ·by_cases hj2 : j < ds.length
     ·rw [List.getElem?_append_left hj2] at hj
      exact hdn j c'' hj hst
     ·have h9 := (List.getElem?_eq_some_iff.mp hj).1
      rw [List.length_append,List.length_singleton] at h9
      rw [List.getElem?_append_right (by omega),show j - ds.length = 0 by omega] at hj
      cases hj
      rw [show j = i by omega,hnm,o3 hst]
    ·rcases List.mem_append.mp hz with y | y
     ·exact hdo z y
     ·rw [List.mem_singleton.mp y]
      refine ⟨⟨o1,mqw o1 fun x hx => ?_⟩,o2⟩
      cases hst : c'.isStep with
      | true =>
       cases c' with
       | step s => exact absurd (show x ∈ ([] : List Nat) from hx) List.not_mem_nil
       | _ => cases hst
      | false => rw [o3 hst] at hx; exact hnsg nm (List.mem_of_getElem? hnm) x hx
   ·rintro ws H3 ⟨s3,ds,hd3,hdl,hdn,hdo⟩ hl3
    exact ⟨s1.trans s3,l,ds,ws,rfl,iq8 s1 n1,hl3,hd3,by omega,hdn,hdo⟩
  rintro σ H2 ⟨s2,l,ds,ys,rfl,nl,hl,hD,hdl,hdn,hdo⟩
  have hyl := hD.length
  walk_at "rd"
  refine ⟨fun σ H3 => Same H H3 ∧ ∃ (l : Addr) (ds : List Pc) (ys : List V),σ = [some (.ref p),some (.ref pc),some (.ref pn),some (tV sg),some (.int hd),some (.ref l0),some (.ref l)] ∧ H l = none ∧ H3 l = some (.lst ys) ∧ PcT H3 ds ys ∧ ds.length ≤ 6 ∧ (∀ (j : Nat) (c : Pc),ds[j]? = some c -> c.isStep = false -> ns[j]? = some c.name) ∧ ∀ c ∈ ds,(PcOk c ∧ PcSg c) ∧ c.isRest = false,?_,?_⟩
  ·refine ⟨by decide,ite2 (fun h1 => ⟨by decide,fun p3 H3 n3 s3 hp3 => ?_⟩) (fun _ => ⟨s2,l,ds,ys,rfl,nl,hl,hD,hdl,hdn,hdo⟩)⟩
   have hD3 := hD.mono s3.toT
   refine ⟨.list (ds.map pcD),.list [],.lst (s3 _ _ hl) hD3.isT.is,.lst hp3 .nil,(hqn fun c hc => (hdo c hc).1.2).shaped (by decide),by decide +kernel,_,rfl,?_⟩
   rw [eqO]
   refine ite2 (fun hne => ?_) (fun _ => ⟨s2.trans s3,l,ds,ys,rfl,nl,s3 _ _ hl,hD3,hdl,hdn,hdo⟩)
   have hpos : 0 < ds.length := by
    cases ds with
    | nil => cases hne
    | cons a b => simp
   refine ⟨⟨by decide,by decide⟩,_,.inl (.of (s3 _ _ hl)),by omega,_,.of (s3 _ _ hl),fun p4 H4 n4 s4 hp4 => ?_⟩
   obtain ⟨m,em⟩ : ∃ m : Nat,hd / 4 % (ys.length : Int) = (m : Int) := ⟨(hd / 4 % (ys.length : Int)).toNat,by have := Int.emod_nonneg (hd / 4) (show (ys.length : Int) ≠ 0 by omega); omega⟩
   rw [em,gqX] at hp4
   exact ⟨(s2.trans s3).trans s4,p4,ds.take m,ys.take m,rfl,iq8 (s2.trans s3) n4,hp4,(hD3.mono s4.toT).take m,by rw [List.length_take]; omega,(fun j c hj hst => hdn j c (by rw [List.getElem?_take] at hj; split at hj; exact hj; cases hj) hst),fun c hc => hdo c (List.mem_of_mem_take hc)⟩
  clear hl hD hyl hdl hdn hdo s2 nl
  clear ds ys l
  rintro σ H3 ⟨s3,l,ds,ys,rfl,nl,hl,hD,hdl,hdn,hdo⟩
  have hyl := hD.length
  walk_at "rd"
  refine ⟨fun σ H4 => Same H H4 ∧ ∃ (l : Addr) (ds : List Pc) (ys : List V),σ = [some (.ref p),some (.ref pc),some (.ref pn),some (tV sg),some (.int hd),some (.ref l0),some (.ref l)] ∧ H4 l = some (.lst ys) ∧ PcT H4 ds ys ∧ ds.length ≤ 7 ∧ (∀ c,ds[6]? = some c -> c.isRest = true) ∧ LastR ds ∧ (gapsM ds).Nodup ∧ ∀ c ∈ ds,PcOk c ∧ PcSg c,?_,?_⟩
  ·refine ⟨by decide,ite2 (fun h1 => ⟨⟨by decide,by decide⟩,by decide,ite2 (fun h2 => ?_) (fun _ => ⟨s3,l,ds,ys,rfl,hl,hD,by omega,(fun c hc => by have := (List.getElem?_eq_some_iff.mp hc).1; omega),(fun i c hc hr => by rw [(hdo c (List.mem_of_getElem? hc)).2] at hr; cases hr),(dqn hnd (cs := ds) 0 (fun i c hc hs => by rw [Nat.zero_add]; exact hdn i c hc hs)).1,fun c hc => (hdo c hc).1⟩)⟩) (fun _ => ⟨s3,l,ds,ys,rfl,hl,hD,by omega,(fun c hc => by have := (List.getElem?_eq_some_iff.mp hc).1; omega),(fun i c hc hr => by rw [(hdo c (List.mem_of_getElem? hc)).2] at hr; cases hr),(dqn hnd (cs := ds) 0 (fun i c hc hs => by rw [Nat.zero_add]; exact hdn i c hc hs)).1,fun c hc => (hdo c hc).1⟩)⟩
   obtain ⟨nm,hnm⟩ : ∃ z,ns[6]? = some z := ⟨_,List.getElem?_eq_getElem (by omega)⟩
   refine ⟨⟨_,.of hl⟩,_,_,.inl (.of (s3 _ _ hpn)),aqj (j := 6) (by rw [List.getElem?_map,hnm]; rfl),by decide,fun p4 H4 n4 s4 hp4 => ⟨_,s4 _ _ hl,?_,?_⟩⟩
   ·rw [hyl]; exact Nat.lt_of_lt_of_le (show ds.length < 100000 by omega) (aqn (Nat.le_refl _))
   have st := iqN (ys := ys ++ [.ref p4]) (s4 _ _ hl)
   have g1 : (gapsM (ds ++ [.rest nm])).Nodup := (dqn (fqA hnd (r := ds.length) (j := 6) (by omega) (by omega)) (cs := ds ++ [.rest nm]) 0 (fun i c hc hs => by
    rw [Nat.zero_add]
    by_cases hi : i < ds.length
    ·rw [List.getElem?_append_left hi] at hc
     rw [List.getElem?_append_left (by rw [List.length_take]; omega),List.getElem?_take,if_pos hi]
     exact hdn i c hc hs
    ·have h9 := (List.getElem?_eq_some_iff.mp hc).1
     rw [List.length_append,List.length_singleton] at h9
     have hi3 : i = ds.length := by omega
     subst hi3
     rw [List.getElem?_append_right (Nat.le_refl _),Nat.sub_self] at hc
     cases hc
     rw [List.getElem?_append_right (by rw [List.length_take]; omega),List.length_take,show ds.length - min ds.length ns.length = 0 by omega]
     rw [List.getElem?_eq_getElem (by omega : 6 < ns.length)] at hnm
     cases hnm
     rfl)).1
   refine ⟨kqz (s3.trans s4) nl,l,ds ++ [.rest nm],_,rfl,aqm,PcT.append (.cons (st _ _ hp4) .nil) ((hD.mono s4.toT).mono st),by rw [List.length_append]; simp; omega,(fun c hc => ?_),(fun i c hc hr => ?_),g1,fun z hz => ?_⟩
   ·have h9 := (List.getElem?_eq_some_iff.mp hc).1
    rw [List.length_append,List.length_singleton] at h9
    rw [List.getElem?_append_right (by omega),show 6 - ds.length = 0 by omega] at hc
    cases hc; rfl
   ·have h9 := (List.getElem?_eq_some_iff.mp hc).1
    rw [List.length_append,List.length_singleton] at h9 ⊢
    by_cases hi : i < ds.length
    ·rw [List.getElem?_append_left hi] at hc
     rw [(hdo c (List.mem_of_getElem? hc)).2] at hr; cases hr
    ·omega
   rcases List.mem_append.mp hz with y | y
   ·exact (hdo z y).1
   ·rw [List.mem_singleton.mp y]
    exact ⟨trivial,mqw trivial fun x hx => hnsg nm (List.mem_of_getElem? hnm) x hx⟩
  clear hl hD hyl hdl hdn hdo s3 nl
  clear ds ys l
  rintro σ H4 ⟨s4,l,ds,ys,rfl,hl,hD,hdl,h6,hlast,hgn,hdo⟩
  have hyl := hD.length
  walk_at "rd"
  refine ⟨_,.inl (.of hl),fun t H5 s5 ht => ⟨by decide,fun p6 H6 n6 s6 hp6 => ?_⟩⟩
  have s46 := s5.trans s6
  have hD6 := hD.mono s46.toT
  refine ⟨.list (ds.map pcD),.list [],.lst (s46 _ _ hl) hD6.isT.is,.lst hp6 .nil,(hqn fun c hc => (hdo c hc).2).shaped (by decide),by decide +kernel,_,rfl,?_⟩
  refine ite2 (fun _ => ⟨by decide,fun p7 H7 n7 s7 hp7 => ?_⟩) (fun _ => ⟨_,_,.inr (.of ((s4.trans s46) _ _ hp)),aqj (j := 1) rfl,⟨by decide,by decide⟩,by decide,L2.kqA.mpr ⟨by decide,fun p7 H7 n7 s7 hp7 => ?_⟩⟩)
  ·exact k ds _ p7 H7 hdl h6 hlast hgn hdo ((s4.trans s46).trans s7) ⟨t,_,hp7,(s6.trans s7) _ _ ht,hD6.mono s7.toT⟩
  ·exact k ds _ p7 H7 hdl h6 hlast hgn hdo ((s4.trans s46).trans s7) ⟨t,_,hp7,(s6.trans s7) _ _ ht,hD6.mono s7.toT⟩
theorem iqi (g : G w K mg) : FnOk P w K mg base (CXN P w base) 6 g.cqM g.bq9 ["piece","values"] (iqh K g.aqX) := by
 refine g.dq4.okn fqs (fun vs H Q E h => ?_) (fun cdv A outer s H vs Q E hr h => ?_)
 ·obtain ⟨c,p,pz,ws,ys,rfl,_⟩ := h; rfl
 ·obtain ⟨c,p,pz,ws,ys,rfl,hp,hh,ht,hpv,hw,hwl,hws,kQ,kE⟩ := h
  refine ⟨_,(aqf (aqB (cqU (aqR (aqi (eqb g) (hr.mono (by decide)) rfl g.eqy g.dqL.kp g.eqK .nil pass0 (aqa (pv 0) aqb))))
    (aqg (aqk (aqS (aqa (aqp (aqh (K := K) rfl) (pv 0) aqd (fun _ _ => rfl)) aqb)))) aqs)
   (aqf (gq3 (i := 2) (K := K) (fx := ["piece"]) (fr := [0]) fqs.nd rfl rfl rfl rfl rfl (by decide +kernel) rfl (by decide +kernel) rfl rfl (by decide +kernel) rfl (.cons rfl rfl rfl rfl .nil) rfl (cqa (K := K) rfl (pv 1)) (fun _ _ _ => (hqs (aql aqG (pv 0) (aqi (gqj g) (hr.mono (by decide)) rfl g.fqP g.eqf.kp g.fqt .nil pass0 (aqa (pv 2) aqb)) (nomark _)))) (fun _ _ _ => (pv 1)))
   (aqf (aqB (PW.pt (fqz (aql hqU (aqq (aqr (K := K) rfl) rfl g.aqQ PySem.boot_len (aqa (pv 2) aqb)) aqd (nomark _)) (dqS (cqU (aqR (aqi (mqb g) (hr.mono (by decide)) rfl g.jq8 g.hqM.kp g.jqH .nil pass0 (aqa (pv 0) (aqa (aqp (aqh (K := K) rfl) (pv 2) aqd (fun _ _ => rfl)) aqb))))))))
    (aqg (lqE jqK rfl g.iqM g.jqh (dqx g) (hr.mono (by decide)) g.cqk rfl pass0 rfl (aqa (aqi (gqj g) (hr.mono (by decide)) rfl g.fqP g.eqf.kp g.fqt .nil pass0 (aqa (pv 0) aqb)) aqb))) aqs)
   (aqg (aqk (aqi (hqG g) (hr.mono (by decide)) rfl g.fqj g.cq0.kp g.fqd .nil pass0 (aqa (pv 0) (aqa (aqp (aqh (K := K) rfl) (pv 2) aqd (fun _ _ => rfl)) aqb)))))))),?_⟩
  walk_at "rd"
  refine ⟨c,p,rfl,hp,_,rfl,?_⟩
  cases hst : c.isStep with
  | true =>
   refine ite2 (fun _ => ?_) (fun z => absurd rfl z)
   cases c with
   | step s => exact ⟨_,_,.inr hp,aqj (j := 1) rfl,by decide,fun p1 H1 n1 s1 hp1 => kQ [s] rfl p1 H1 s1 hp1⟩
   | _ => cases hst
  | false =>
   refine ite2 (fun z => absurd z (by decide)) (fun _ => ?_)
   have hyl := hw.length
   rw [lqO hst] at kQ kE
   refine ⟨⟨_,.of hpv⟩,fun p0 n0 => ?_⟩
   refine iqW (fun i => prAt H ys i) (fun i => decide ((ws[i]?.map (·.1)) = some c.name)) (fun i => (prAt H ys i).2) (.of hpv) (aqn (by omega)) n0 (fun i x H1 hx s1 => ?_) (fun i hi H1 R s1 hR => ?_) (fun i hi ht H1 T s1 hT => ?_) (fun H1 s1 hp1 => ?_)
   ·obtain ⟨n,d,b,v,h1,rfl,h3,h4⟩ := hw.get hx
    rw [mqc hx h3]
    exact ⟨b,rfl,.of (s1 _ _ h3)⟩
   ·have hx : ys[i]? = some ys[i] := List.getElem?_eq_getElem hi
    obtain ⟨n,d,b,v,h1,h2,h3,h4⟩ := hw.get hx
    rw [h2] at hx
    rw [mqc hx h3]
    have := hR H1 (Same.refl _)
    rw [h1] at this
    walk_at "rd"
    refine ⟨c,p,rfl,s1.tup hp,hst,aqv.mpr ⟨_,rfl,?_⟩⟩
    have e : decide ((⟨n.toArray⟩ : Str) = ⟨c.name.toArray⟩) = decide ((some (n,d)).map (·.1) = some c.name) := by
     rw [decide_eq_decide,cqt]
     exact ⟨fun z => by rw [z]; rfl,fun z => Option.some.inj z⟩
    rw [e]
    exact this
   ·walk_at "rd"
    exact hT H1 (Same.refl _)
   have hall := mqf hw c.name (fun i => (prAt H ys i).2) (fun i m d q v h1 h2 h3 => by rw [mqc h2 h3])
   have hex : H1 p0 = some (.lst (((List.range ys.length).filter fun i => decide ((ws[i]?.map (·.1)) = some c.name)).map fun i => (prAt H ys i).2)) := hp1
   generalize (((List.range ys.length).filter fun i => decide ((ws[i]?.map (·.1)) = some c.name)).map fun i => (prAt H ys i).2) = ls at hall hex
   clear hp1
   have hsn : ∀ d ∈ named ws c.name,smallD d = true := fun d hd => by
    obtain ⟨q,hq,rfl⟩ := List.mem_map.mp hd
    exact hws q (List.mem_filter.mp hq).1
   have hll := hall.length
   have raise : (match named ws c.name with | [d] => if isValD c d = true then (.ok (stpsD c d) : Except (List Nat) (List (List Nat))) else .error c.name | _ => .error c.name) = .error c.name -> ∀ H2,Same H H2 -> jqL K [V.ref p] H2 (fun x H1 => ∀ (a : Addr),H1 a = none -> bqS K g.aqX [V.ref a,x] (upd H1 a (exNew a g.aqX)) (fun v H2 => v = V.non ∧ ∃ d,H2 a = some (exSet a g.aqX d) ∧ E (Value.ref g.aqX) (some d) (forget H2 a)) E0) E0 := fun he H2 s2 =>
    ⟨c,p,rfl,s2.tup hp,hst,kqd fun d H3 s3 hd => kE c.name he d H3 (s2.trans s3) hd⟩
   refine lqC.mpr ⟨ls,.inl (.of hex),oqH.mpr ⟨_,rfl,?_⟩⟩
   cases hn : named ws c.name with
   | nil =>
    rw [hn] at raise hll
    refine ite2 (fun _ => raise rfl H1 s1) (fun z => ?_)
    exact absurd (by rw [<- hll]; decide) z
   | cons d r =>
    cases r with
    | cons d2 r2 =>
     rw [hn] at raise hll
     refine ite2 (fun _ => raise rfl H1 s1) (fun z => ?_)
     refine absurd ?_ z
     rw [<- hll]
     simp only [List.length_cons]
     simp
     omega
    | nil =>
     rw [hn] at raise hll kQ kE hall hsn
     refine ite2 (fun z => ?_) (fun _ => ?_)
     ·exact absurd z (by rw [<- hll]; simp)
     have hd : smallD d = true := hsn d (List.mem_singleton.mpr rfl)
     obtain ⟨u,rfl,hu⟩ : ∃ u,ls = [u] ∧ Is H d u := by
      cases hall with
      | cons h r => cases r; exact ⟨_,rfl,h⟩
     refine pqb.mpr ⟨_,u,.inl (.of hex),rfl,c,p,d,u,rfl,s1.tup hp,hst,hh,ht,hu.mono s1,hd,fun H2 s2 => ⟨_,rfl,?_⟩⟩
     have s12 := s1.trans s2
     refine ite2 (fun hv => raise ?_ H2 s12) (fun hv => ?_)
     ·exact if_neg (by rw [hv]; decide)
     ·have hv : isValD c d = true := by simpa using hv
      refine pqb.mpr ⟨_,u,.inl (.of (s2 _ _ hex)),rfl,c,p,d,u,rfl,s12.tup hp,hst,hh,ht,hu.mono s12,hd,hv,fun q H3 s3 hq => kQ (stpsD c d) (if_pos hv) q H3 (s12.trans s3) hq⟩
theorem rqZ (g : G w K mg) : FnOk P w K mg base CX0 6 g.mq5 g.kqQ ["table","way"] (squ K) := by
 refine g.oqD.ok mqF (fun vs H Q E h => ?_) (fun cdv A outer s H vs Q E hr h => ?_)
 ·obtain ⟨l,pw,ps,T,ws,r,e,ss,rfl,_⟩ := h; rfl
 ·obtain ⟨l,pw,ps,T,ws,r,e,ss,rfl,hl,hT,hok,hTl,hpw,hps,hsl,hss,k0,k⟩ := h
  refine ⟨_,(bqh (mql (i := 2) (fx := ["way"]) (fr := [1]) mqF.nd rfl rfl rfl rfl (by decide +kernel) rfl (by decide +kernel) rfl (by decide +kernel) rfl (.cons rfl rfl rfl rfl .nil) rfl (cqa (K := K) rfl (pv 0)) (fun _ _ _ => (hqs (aqR (aqi (pqO g) (hr.mono (by decide)) rfl g.oqu g.mq4.kp g.pqh .nil pass0 (aqa (aqp (aqh (K := K) rfl) (pv 0) aqd (fun _ _ => rfl)) (aqa (pv 1) aqb)))))) (fun _ _ _ => (pv 0)))
   (aqf (aqB (aql aqG (aqq (aqr (K := K) rfl) rfl g.aqQ PySem.boot_len (aqa (pv 2) aqb)) aqd (nomark _))
    (aqg (aqk bqY)) aqs)
   (aqf (aqw (i := 3) mqF.nd rfl (Or.inl rfl) (aqi (kqS g) (hr.mono (by decide)) rfl g.iqe g.fqG.kp g.hq5 .nil pass0 (aqa (pv 2) aqb)))
   (aqg (aqk (aqY (aqa (aqp (aqh (K := K) rfl) (pv 3) aqd (fun _ _ => rfl)) (aqa (aqi (pq0 g) (hr.mono (by decide)) rfl g.pqQ g.mqS.kp g.pqe .nil pass0 (aqa (aqp (aqh (K := K) rfl) (pv 3) aqd (fun _ _ => rfl)) (aqa (pv 1) aqb))) aqb)))))))),?_⟩
  walk_at "rd"
  have hwl := hT.length
  refine ⟨fun σ H1 => Same H H1 ∧ ∃ (l1 : Addr) (us : List V),σ = [some (.ref l),some (.ref pw),some (.ref l1),none] ∧ H1 l1 = some (.lst us) ∧ TbV H1 (T.filter (fitR r e ss)) us,⟨⟨_,.of hl⟩,fun l1 n1 => ?_⟩,?_⟩
  ·refine mqp (fun i => match T[i]? with | some t => fitR r e ss t | none => false) (fun i => ws[i]?.getD .non) (.of hl) (aqn (by omega)) n1 (fun i x hxi H1 R s1 hR => ?_) (fun i x hxi ht H1 T' s1 hT' => ?_) (fun H1 s1 hl1 => ?_)
   ·obtain ⟨t,ht,a,p,rfl,ha,q,xs,hp,hq,hx⟩ := hT.get hxi
    have ot := hok t (List.mem_of_getElem? ht)
    have o90 := ot.1
    rw [ht] at hR
    walk_at "rd"
    refine ⟨_,_,.inr (.of (s1 _ _ ha)),aqj (j := 1) rfl,?_⟩
    exact ⟨t.2.1,xs,p,q,pw,ps,t.2.2,r,e,ss,rfl,.of (s1 _ _ hp),s1 _ _ hq,(hx.mono s1.toT).all,by omega,(fun c hc => by have := (ot.2 c hc).1.ends; exact ⟨by omega,by omega⟩),.of (s1 _ _ hpw),.of (s1 _ _ hps),hsl,hss,fun H2 s2 => ⟨_,rfl,hR H2 s2⟩⟩
   ·rw [hxi] at hT'
    walk_at "rd"
    exact hT' H1 (Same.refl _)
   ·exact ⟨s1,l1,_,rfl,hl1,(hT.mono s1.toT).pick⟩
  rintro σ H1 ⟨s1,l1,us,rfl,hl1,hU⟩
  have hul := hU.length
  walk_at "rd"
  refine ⟨_,.inl (.of hl1),ite2 (fun h0 => k0 ?_ H1 s1) (fun h0 => ?_)⟩
  ·exact List.eq_nil_of_length_eq_zero (by omega)
  cases hF : T.filter (fitR r e ss) with
  | nil => rw [hF] at hul; exact absurd (by rw [hul]; rfl) h0
  | cons b L =>
   rw [hF] at hU hul
   have hsub : ∀ t ∈ b :: L,t ∈ T ∧ fitR r e ss t = true := fun t ht => List.mem_filter.mp (by rw [hF]; exact ht)
   have hLl : L.length ≤ 90 := by
    have := List.length_filter_le (fitR r e ss) T
    rw [hF,List.length_cons] at this
    omega
   refine ⟨l1,b,L,us,rfl,hl1,hU,fun t ht => hok t (hsub t ht).1,hLl,fun v H2 s2 hv => ?_⟩
   obtain ⟨a,p,rfl,ha,q,xs,hp,hq,hx⟩ := hv
   have hm := hsub _ (kqY (mr := mrR) L b)
   have om := hok _ hm.1
   have o90 := om.1
   have s02 := s1.trans s2
   walk_at "rd"
   refine ⟨_,_,.inr (.of ha),aqj (j := 0) rfl,_,_,.inr (.of ha),aqj (j := 1) rfl,?_⟩
   refine ⟨_,xs,p,q,pw,ps,_,r,e,ss,rfl,.of hp,hq,hx.all,by omega,(fun c hc => by have := (om.2 c hc).1.ends; exact ⟨by omega,by omega⟩),.of (s02 _ _ hpw),s02 _ _ hps,hsl,hss,(fun z => by have hz := hm.2; unfold fitR at hz; rw [hz] at z; cases z),fun _ l' ys H3 s3 hl' hB => ⟨by decide,fun p4 H4 n4 s4 hp4 => k b L hF p4 l' ys H4 ((s02.trans s3).trans s4) hp4 (s4 _ _ hl') (hB.mono s4)⟩⟩
theorem iqj (g : G w K mg) : FnOk P w K mg base CX0 6 g.cqe g.bqH ["piece","beside"] (iqk K) := by
 refine g.dqC.ok fqi (fun vs H Q E h => ?_) (fun cdv A outer s H vs Q E hr h => ?_)
 ·obtain ⟨c,d,p,q,rfl,_⟩ := h; rfl
 ·obtain ⟨c,d,p,q,rfl,hp,hq,hzc,hzd,k⟩ := h
  refine ⟨_,(aqf (cqs PassesOwn.never rfl (cqa (K := K) rfl (aqi (hqW g) (hr.mono (by decide)) rfl g.fqf g.cq2.kp g.fqq .nil pass0 (aqa (pv 0) (aqa (pv 1) aqb)))) (aqC (i := 2) fqi.nd rfl (Or.inl rfl))
   (aqg (aqB (PW.pt (fqN (aqR (aqi (cqS g) (hr.mono (by decide)) rfl g.cqx g.bqT.kp g.cqA .nil pass0 (aqa (pv 0) (aqa (pv 2) aqb)))) (dq6 (aqR (aqi (cqS g) (hr.mono (by decide)) rfl g.cqx g.bqT.kp g.cqA .nil pass0 (aqa (pv 1) (aqa (pv 2) aqb)))))))
    (aqg (aqk (pv 2))) aqs)))
   (aqg (aqk bqY))),?_⟩
  walk_at "rd"
  refine ⟨c,d,p,q,rfl,hp,hq,hzc,hzd,fun l H1 s1 hl => ⟨l,rfl,⟨_,.of hl⟩,?_⟩⟩
  have fa : ∀ {l : List (List Nat)} {i : Nat} {s : List Nat},l[i]? = some s -> (∀ z ∈ l.take i,(fitsM c z && fitsM d z) = false) -> (fitsM c s && fitsM d s) = true -> l.find? (fun s => fitsM c s && fitsM d s) = some s := fun {l i s} h1 h2 h3 => by
   have := mqN (p := fun z => !(fitsM c z && fitsM d z)) h1 (fun z hz => by rw [h2 z hz]; rfl) (by rw [h3]; rfl)
   simpa using this
  refine eqj (xs := (bothT c d).map tV) (fun i σ H' => Same H1 H' ∧ ∃ v2,σ = [some (.ref p),some (.ref q),v2] ∧ ∀ s ∈ (bothT c d).take i,(fitsM c s && fitsM d s) = false) ⟨Same.refl _,none,rfl,fun s hs => by rw [List.take_zero] at hs; cases hs⟩ (fun i σ H' _ h => .of (h.1 _ _ hl)) ?_ ?_
  ·rintro i x σ H2 hxi ⟨s2,v2,rfl,hpre⟩
   rw [List.getElem?_map] at hxi
   obtain ⟨s,hs,rfl⟩ := Option.map_eq_some_iff.mp hxi
   have hsl := pqA hzc hzd s (List.mem_of_getElem? hs)
   have go : (fitsM c s && fitsM d s) = false -> ∀ z ∈ (bothT c d).take (i + 1),(fitsM c z && fitsM d z) = false := fun hf z hz' => by
    rw [List.take_add_one,hs] at hz'
    rcases List.mem_append.mp hz' with y | y
    ·exact hpre z y
    ·have : z = s := by simpa using y
     rw [this]; exact hf
   walk_at "rd"
   refine ⟨c,s,p,rfl,(s1.trans s2).tup hp,by omega,by have := hzc.1; omega,by have := hzc.2.1; omega,fun H3 s3 => ⟨_,rfl,?_⟩⟩
   refine ite2 (fun hf => ?_) (fun hf => ⟨s2.trans s3,go (by rw [(Bool.not_eq_true _).mp hf]; rfl)⟩)
   refine ⟨d,s,q,rfl,((s1.trans s2).trans s3).tup hq,by omega,by have := hzd.1; omega,by have := hzd.2.1; omega,fun H4 s4 => ⟨_,rfl,?_⟩⟩
   refine ite2 (fun hg => ?_) (fun hg => ⟨(s2.trans s3).trans s4,go (by rw [(Bool.not_eq_true _).mp hg,Bool.and_false])⟩)
   have e : stepBoth c d = some s := fa hs hpre (by rw [hf,hg]; rfl)
   rw [e] at k
   exact k H4 (((s1.trans s2).trans s3).trans s4)
  ·rintro σ H2 ⟨s2,v2,rfl,hpre⟩
   rw [List.length_map,List.take_length] at hpre
   have e : stepBoth c d = none := List.find?_eq_none.mpr fun s hs => by rw [hpre s hs]; decide
   rw [e] at k
   walk_at "rd"
   exact k H2 (s1.trans s2)
theorem oqA (g : G w K mg) : FnOk P w K mg base CX0 6 g.iqp g.hqa ["one","other"] (oq8 K) := by
 refine g.kqx.ok cqR (fun vs H Q E h => ?_) (fun cdv A outer s H vs Q E hr h => ?_)
 ·obtain ⟨cs,ds,xs,ys,p,q,p',q',e,e',rfl,_⟩ := h; rfl
 ·obtain ⟨cs,ds,xs,ys,p,q,p',q',e,e',rfl,hp,hq,hx,hp',hq',hy,hcl,hdl,oc,od,k0,k⟩ := h
  refine ⟨_,(aqf (aqw (i := 2) cqR.nd rfl (Or.inl rfl) (aqi (iqK g) (hr.mono (by decide)) rfl g.gqq g.dq2.kp g.gqv .nil pass0 (aqa (pv 0) (aqa (pv 1) aqb))))
   (aqf (aqw (i := 3) cqR.nd rfl (Or.inl rfl) (aqi (fqD g) (hr.mono (by decide)) rfl g.fq2 g.eq1.kp g.gqg .nil pass0 (aqa (pv 0) (aqa (pv 2) aqb))))
   (bqh (aqw (i := 4) cqR.nd rfl (Or.inl rfl) (aqi (fqD g) (hr.mono (by decide)) rfl g.fq2 g.eq1.kp g.gqg .nil pass0 (aqa (pv 1) (aqa (pv 2) aqb))))
   (aqf (mql (i := 5) (fx := []) (fr := []) cqR.nd rfl rfl rfl rfl (by decide +kernel) rfl (by decide +kernel) rfl (by decide +kernel) rfl .nil rfl (kqr (K := K) rfl (pv 3)) (fun _ _ _ => hqt) (fun _ _ _ => (aqp (aqh (K := K) rfl) (aqi (bqP g) (hr.mono (by decide)) rfl g.bqs g.aq4.kp g.bqq .nil pass0 (aqa (pv 0) aqb)) aqd (fun _ _ => rfl))))
   (aqf (aqB (PW.pt (fqz (aql hqU (aqp (aqh (K := K) rfl) (pv 0) (aqA (v := dqi) rfl g.cqJ ⟨_,rfl⟩) (fun _ _ => rfl)) (aqp (aqh (K := K) rfl) (pv 1) (aqA (v := dqi) rfl g.cqJ ⟨_,rfl⟩) (fun _ _ => rfl)) (nomark _)) (dqS (aql gqy (pv 4) bqY (nomark _)))))
    (aqg (aqk (aqY (aqa dqD (aqa (aqN (bqQ (K := K) rfl) rfl g.eqC dqX (aqa (pv 5) aqb)) (aqa (aqp (aqh (K := K) rfl) (pv 0) (aqA (v := dqi) rfl g.cqJ ⟨_,rfl⟩) (fun _ _ => rfl)) aqb)))))) aqs)
   (aqf (cqs PassesOwn.never rfl (oqV (K := K) rfl rfl g.cqG (aqa (pv 3) aqb)) (fqL (n := 2) (K := K) rfl rfl (aqK (aqC (i := 6) cqR.nd rfl (Or.inl rfl)) (aqK (aqC (i := 7) cqR.nd rfl (Or.inl rfl)) eqE)))
   (aqf (aqw (i := 8) cqR.nd rfl (Or.inl rfl) (aqi (jqz g) (hr.mono (by decide)) rfl g.gq9 g.eqW.kp g.gqS .nil pass0 (aqa (pv 7) (aqa (aqp (aqh (K := K) rfl) (pv 4) (pv 6) (fun _ _ => rfl)) aqb))))
   (aqg (aqB (aql pq1 (pv 8) bqY (nomark _))
    (aqg (aqk (aqY (aqa dqD (aqa (aqN (bqQ (K := K) rfl) rfl g.eqC dqX (aqa (aqu (aqz (K := K)) (aqu (aqz (K := K)) (cqg (gqd (K := K) rfl) (pv 5) dq9 (cqX (pv 6))) (aqS (aqa (pv 8) aqb))) (cqg (gqd (K := K) rfl) (pv 5) (cqX (aqu (aqz (K := K)) (pv 6) aqd)) dq9)) aqb)) (aqa (aqp (aqh (K := K) rfl) (pv 0) (aqA (v := dqi) rfl g.cqJ ⟨_,rfl⟩) (fun _ _ => rfl)) aqb)))))) aqs))))
   (aqg (aqk bqY)))))))),?_⟩
  walk_at "rd"
  have hxl := hx.length
  have hyl := hy.length
  have hn : countM cs ds ≤ 100 := by unfold countM; split <;> omega
  obtain ⟨ms,hms⟩ := hqZ cs ds
  have okm := eqh oc hms
  have hml := (aqD hms).1
  refine ⟨cs,ds,xs,ys,p,q,p',q',e,e',rfl,hp,.of hq,hx,hp',.of hq',hy,by omega,by omega,?_⟩
  refine ⟨cs,xs,p,q,e,countM cs ds,rfl,hp,hq,hx,by omega,by omega,(fun z => by rw [hms] at z; cases z),fun ms' zs r H1 h1 s1 hr hz => ?_⟩
  cases (hms.symm.trans h1)
  refine ⟨fun σ H2 => Same H H2 ∧ ∃ tv : V,σ = [some (.ref p),some (.ref p'),some (.int (countM cs ds : Int)),some (.ref r),some tv,none,none,none,none] ∧ SqT K H2 r zs ∧ PcAll K H2 ms zs ∧ ((spreadM ds (countM cs ds) = none ∧ tv = .non) ∨ ∃ (ts : List Pc) (us : List V) (r' : Addr),spreadM ds (countM cs ds) = some ts ∧ tv = .ref r' ∧ SqT K H2 r' us ∧ PcAll K H2 ts us),?_,?_⟩
  ·exact ⟨ds,ys,p',q',e',countM cs ds,rfl,s1.tup hp',s1 _ _ hq',hy.mono s1,by omega,by omega,fun z => ⟨s1,.non,rfl,hr,hz,.inl ⟨z,rfl⟩⟩,fun ts us r' H2 z s2 hr' hu => ⟨s1.trans s2,.ref r',rfl,s2.tup hr,hz.mono s2,.inr ⟨ts,us,r',z,rfl,hr',hu⟩⟩⟩
  clear hr hz s1
  clear h1 H1
  rintro σ H1 ⟨s1,tv,rfl,hr,hz,htv⟩
  have hzl := hz.length
  have okx : ∀ {c : Pc},PcOk c -> PcTx c := fun {c} o => by
   cases c with
   | step w => exact ⟨Nat.zero_le _,Nat.zero_le _,fun w' h => by cases h; have := o.2.1; omega⟩
   | part a n b => exact ⟨by have := o.1; show a.length ≤ _; omega,by have := o.2.1; show b.length ≤ _; omega,fun w h => by cases h⟩
   | _ => exact ⟨Nat.zero_le _,Nat.zero_le _,fun w h => by cases h⟩
  walk_at "rd"
  refine ⟨⟨_,hr⟩,fun l n1 => ?_⟩
  refine oqq (zs := (ms.map firstT).map tV) hr (aqn (by omega)) n1 (by rw [List.length_map,List.length_map,hzl]) (fun i x z hxi hzi H2 T s2 hT => ?_) (fun H2 s2 hl => ?_)
  ·obtain ⟨c,pc,hc,rfl,hpc⟩ := hz.get hxi
   rw [List.getElem?_map,List.getElem?_map,hc] at hzi
   cases hzi
   have oc1 := okm c (List.mem_of_getElem? hc)
   walk_at "rd"
   refine ⟨c,pc,rfl,s2.tup hpc,okx oc1,fun l2 H3 s3 hl2 => ?_⟩
   have e0 : atI ((fitT c).map tV) 0 = some (tV (firstT c)) := by
    refine aqj (j := 0) ?_
    rw [List.getElem?_map]
    unfold firstT
    cases ef : fitT c with
    | nil => exact absurd ef (rqS oc1)
    | cons a l => rfl
   walk_at "rd"
   exact ⟨_,_,.inl (.of hl2),e0,hT H3 s3⟩
  walk_at "rd"
  have s12 := s1.trans s2
  have ret : beyM cs e ds e' = some (ms.map firstT) -> ∃ ys,(SqL K H2 l ys ∨ H2 l = some (.tup ys)) ∧ ∀ (l : Addr) (H3 : Hp),Same H2 H3 -> H3 l = some (.tup ys) -> ∃ xs v,(SqL K H3 p xs ∨ SqT K H3 p xs) ∧ atI xs 1 = some v ∧ 3 ≤ sizeLine ∧ ∀ (p : Addr) (H4 : Hp),H3 p = none -> Same H3 H4 -> H4 p = some (.tup [.bl true,.ref l,v]) -> Q (.ref p) H4 := fun hb =>
   ⟨_,.inl (.of hl),fun l3 H3 s3 hl3 => ⟨_,_,.inr ((s12.trans s3).tup hp),aqj (j := 1) rfl,by decide,fun p4 H4 n4 s4 hp4 => k _ p4 l3 H4 hb ((s12.trans s3).trans s4) hp4 (s4 _ _ hl3)⟩⟩
  have bm : beyM cs e ds e' = (if e ≠ e' then some (ms.map firstT) else match spreadM ds (countM cs ds) with | none => some (ms.map firstT) | some ts => beyS ms ts) := by unfold beyM; rw [hms] <;> rfl
  refine ⟨_,_,.inr (s12.tup hp),aqj (j := 1) rfl,_,_,.inr (s12.tup hp'),aqj (j := 1) rfl,?_⟩
  walk_at "rd"
  refine ite2 (fun hne => ret ?_) (fun hne => ?_)
  ·rw [bm,if_pos]
   simpa using hne
  have hee : ¬ (e ≠ e') := by simpa using hne
  rw [if_neg hee] at bm
  refine ite2 (fun ht => ret ?_) (fun ht => ?_)
  ·rcases htv with ⟨z,_⟩ | ⟨ts,us,r',_,z,_⟩
   ·rw [bm,z]
   ·rw [z] at ht; cases ht
  rcases htv with ⟨_,z⟩ | ⟨ts,us,r',hts,rfl,hr',hu⟩
  ·exact absurd z ht
  rw [hts] at bm
  have bm : beyM cs e ds e' = beyS ms ts := bm
  have hul := hu.length
  have htl := (aqD hts).1
  refine ⟨r,zs,rfl,s2.tup hr,?_⟩
  refine lq0 (fun i σ H3 => Same H2 H3 ∧ (∃ v6 v7 v8 : Option V,σ = [some (.ref p),some (.ref p'),some (.int (countM cs ds : Int)),some (.ref r),some (.ref r'),some (.ref l),v6,v7,v8]) ∧ ∀ (j : Nat) (c d : Pc),j < i -> ms[j]? = some c -> ts[j]? = some d -> stepBey c d = none) ⟨Same.refl _,⟨none,none,none,rfl⟩,fun j c d h => by omega⟩ (fun i σ H3 _ h => (s2.trans h.1).tup hr) ?_ ?_
  ·rintro i v σ H3 T hv ⟨s3,⟨v6,v7,v8,rfl⟩,hpre⟩ hT
   obtain ⟨c,pc,hc,rfl,hpc⟩ := hz.get hv
   have hil := (List.getElem?_eq_some_iff.mp hc).1
   obtain ⟨v',hv'⟩ : ∃ v',us[i]? = some v' := ⟨_,List.getElem?_eq_getElem (by omega)⟩
   obtain ⟨d,pd,hd,rfl,hpd⟩ := hu.get hv'
   have okt := eqh od hts
   have st : Same H3 (upd H3 T (.tup [.int (i : Int),.ref pc])) := aq0 hT
   have s13 := (s2.trans s3).trans st
   walk_at "rd"
   refine ⟨T,_,rfl,.of aqm,rfl,_,_,rfl,_,_,rfl,rfl,?_⟩
   walk_at "rd"
   refine ⟨_,_,.inr (s13.tup hr'),aqj hv',?_⟩
   refine ⟨c,d,pc,pd,rfl,s13.tup hpc,s13.tup hpd,okx (okm c (List.mem_of_getElem? hc)),okx (okt d (List.mem_of_getElem? hd)),fun H4 s4 => ?_⟩
   have s24 := (s3.trans st).trans s4
   cases hb : stepBey c d with
   | none =>
    refine ite2 (fun z => absurd rfl z) (fun _ => ⟨s24,⟨_,_,_,rfl,rfl,rfl⟩,fun j c' d' hj h1 h2 => ?_⟩)
    by_cases e1 : j = i
    ·subst e1
     rw [hc] at h1; rw [hd] at h2
     cases h1; cases h2
     exact hb
    ·exact hpre j c' d' (by omega) h1 h2
   | some t =>
    refine ite2 (fun _ => ?_) (fun z => absurd (fun h => by cases h) z)
    have hl4 := s24 _ _ hl
    have ew : (ms.map firstT).map tV = (ms.map firstT).map tV := rfl
    have hlen : ((ms.map firstT).map tV).length ≤ 100 := by rw [List.length_map,List.length_map,hml]; exact hn
    refine ⟨_,.of hl4,fun p5 H5 n5 s5 h5 => ⟨by decide,fun p6 H6 n6 s6 h6 => .inl ⟨_,_,s6 _ _ h5,h6,?_,fun p7 H7 n7 s7 h7 => ?_⟩⟩⟩
    ·rw [gqX,List.length_take]; exact aqn (by simp only [List.length_cons,List.length_nil]; omega)
    have s47 := (s5.trans s6).trans s7
    refine ⟨_,.of (s47 _ _ hl4),fun p8 H8 n8 s8 h8 => .inl ⟨_,_,s8 _ _ h7,h8,?_,fun p9 H9 n9 s9 h9 => ?_⟩⟩
    ·rw [gqX,show ((i : Int) + 1) = ((i + 1 : Nat) : Int) by omega,hqj,List.length_append,List.length_take,List.length_drop]
     exact aqn (by simp only [List.length_cons,List.length_nil]; omega)
    have s49 := (s47.trans s8).trans s9
    walk_at "rd"
    refine ⟨_,.inl (.of h9),fun t1 H10 s10 ht1 => ⟨_,_,.inr (((s12.trans s24).trans (s49.trans s10)).tup hp),aqj (j := 1) rfl,by decide,fun p11 H11 n11 s11 h11 => ?_⟩⟩
    refine k _ p11 t1 H11 (bm.trans (pqo hc hd hpre hb)) (((s12.trans s24).trans (s49.trans s10)).trans s11) h11 ?_
    rw [s11 _ _ ht1,gqX,show ((i : Int) + 1) = ((i + 1 : Nat) : Int) by omega,hqj,List.map_append,List.map_append,List.map_take,List.map_drop]
    rfl
  ·rintro σ H3 ⟨s3,⟨v6,v7,v8,rfl⟩,hpre⟩
   walk_at "rd"
   refine k0 ?_ H3 (s12.trans s3)
   rw [bm]
   exact mq9 fun j c d h1 h2 => hpre j c d (by have := (List.getElem?_eq_some_iff.mp h1).1; omega) h1 h2
theorem nqt (g : G w K mg) : FnOk P w K mg base (CXN P w base) 7 g.iqo g.gqT ["pattern","values"] (nqU K g.aqX) := by
 refine g.kqk.okn iqZ (fun vs H Q E h => ?_) (fun cdv A outer s H vs Q E hr h => ?_)
 ·obtain ⟨cs,xs,p,q,pz,cl,ws,ys,rfl,_⟩ := h; rfl
 ·obtain ⟨cs,xs,p,q,pz,cl,ws,ys,rfl,hp,hq,hx,hn,hsz,hpv,hw,hwl,hws,kQ,kE⟩ := h
  refine ⟨_,(aqf (aqw (i := 2) iqZ.nd rfl (Or.inl rfl) (aqS aqb))
   (aqf (cqs PassesOwn.leaving rfl (kqr (K := K) rfl (aqp (aqh (K := K) rfl) (pv 0) (aqA (v := bqv) rfl g.bqm ⟨_,rfl⟩) (fun _ _ => rfl))) (aqC (i := 3) iqZ.nd rfl (Or.inl rfl))
   (aqg (eqM (fqg (K := K) rfl PySem.F.plainAttrs_list PySem.F.slot_list_extend PySem.F.type_list_extend pqq (pv 2) (aqa (aqi (iqi g) (hr.mono (by decide)) rfl g.gqt g.dq4.kp g.gqw .nil jq4 (aqa (pv 3) (aqa (pv 1) aqb))) aqb)))))
   (aqf (eqM (aqi (hqI g) (hr.mono (by decide)) rfl g.fqu g.dqv.kp g.fqx .nil jq4 (aqa (pv 0) (aqa (pv 1) aqb))))
   (aqg (aqk (aqY (aqa dqD (aqa (aqN (bqQ (K := K) rfl) rfl g.eqC dqX (aqa (pv 2) aqb)) (aqa (aqp (aqh (K := K) rfl) (pv 0) (aqA (v := dqi) rfl g.cqJ ⟨_,rfl⟩) (fun _ _ => rfl)) aqb))))))))),?_⟩
  walk_at "rd"
  have hxl := hx.length
  refine ⟨by decide,fun p1 H1 n1 s1 hp1 => ⟨_,_,.inr (s1.tup hp),rfl,q,rfl,⟨_,s1.tup hq⟩,?_⟩⟩
  refine qqE (xs := xs) (fun i σ H' => SameBut p1 H H' ∧ ∃ (v3 : Option V) (ss : List (List Nat)),σ = [some (.ref p),some (.ref pz),some (.ref p1),v3] ∧ fillF (cs.take i) ws = .ok ss ∧ H' p1 = some (.lst (ss.map tV)) ∧ ss.length ≤ i * 100000) ⟨Same.but s1,none,[],rfl,by rw [List.take_zero]; rfl,hp1,Nat.zero_le _⟩ (fun i σ H' _ h => (h.1.same n1).tup hq) ?_ ?_
  ·rintro i x σ H2 hxi ⟨sb,v3,ss,rfl,hf,hl2,hsl⟩
   obtain ⟨c,pc,hc,rfl,hv⟩ := hx.get hxi
   have s2 := sb.same n1
   have hi : i < cs.length := (List.getElem?_eq_some_iff.mp hc).1
   obtain ⟨hz1,hz2⟩ := hsz c (List.mem_of_getElem? hc)
   walk_at "rd"
   refine ⟨⟨_,.of hl2⟩,c,pc,pz,ws,ys,rfl,s2.tup hv,hz1,hz2,s2 _ _ hpv,hw.mono s2,hwl,hws,fun s' hs' q2 H3 s3 hq2 => ?_,fun n hn' d H3 s3 hd => ?_⟩
   ·have hb := oqg hs' hws
    have hmul : i * 100000 ≤ 99 * 100000 := Nat.mul_le_mul_right _ (by omega)
    refine qq7.mpr ⟨_,_,s3 _ _ hl2,hq2,?_,?_⟩
    ·rw [List.length_map,List.length_map]
     exact Nat.le_trans (show ss.length + s'.length ≤ 10000000 by omega) (by decide)
    ·refine ⟨(sb.trans s3.but).trans dqB,_,ss ++ s',rfl,jqS hc hf hs',by rw [aqm,List.map_append],?_⟩
     rw [List.length_append,Nat.add_mul]
     omega
   ·refine kE n ?_ d H3 (s2.trans s3) hd
    unfold fillM
    rw [lq7 hc hf hn']
  ·rintro σ H2 ⟨sb,v3,ss,rfl,hf,hl2,hsl⟩
   have s2 := sb.same n1
   rw [hxl,List.take_length] at hf
   walk_at "rd"
   refine ⟨cs,xs,p,q,pz,cl,ws,ys,rfl,s2.tup hp,s2.tup hq,hx.mono s2,hn,s2 _ _ hpv,hw.mono s2,hwl,fun ho H3 s3 => ?_,fun n ho d H3 s3 hd => ?_⟩
   ·refine ⟨_,.inl (.of (s3 _ _ hl2)),fun qw H4 s4 hqw => ⟨_,_,.inr (((s2.trans s3).trans s4).tup hp),rfl,by decide,fun pw H5 n5 s5 hpw => ?_⟩⟩
    refine kQ ss ?_ pw qw H5 (((s2.trans s3).trans s4).trans s5) (s5 _ _ hqw) hpw
    unfold fillM
    rw [hf,ho]
   ·refine kE n ?_ d H3 (s2.trans s3) hd
    unfold fillM
    rw [hf,ho]
theorem nqQ (g : G w K mg) : FnOk P w K mg base CX0 7 g.gq7 g.fq9 ["one","other"] (nqR K) := by
 refine g.iqC.ok eqq (fun vs H Q E h => ?_) (fun cdv A outer s H vs Q E hr h => ?_)
 ·obtain ⟨cs,ds,xs,ys,p,q,p',q',e,e',rfl,_⟩ := h; rfl
 ·obtain ⟨cs,ds,xs,ys,p,q,p',q',e,e',rfl,hp,hq,hx,hp',hq',hy,hcl,hdl,oc,od,k0,k⟩ := h
  refine ⟨_,(aqf (aqw (i := 2) eqq.nd rfl (Or.inl rfl) (aqq (lqq rfl) rfl g.pqk PyProof.Rows.boot_max (aqa (aqq (aqr (K := K) rfl) rfl g.aqQ PySem.boot_len (aqa (aqp (aqh (K := K) rfl) (pv 0) (aqA (v := bqv) rfl g.bqm ⟨_,rfl⟩) (fun _ _ => rfl)) aqb)) (aqa (aqq (aqr (K := K) rfl) rfl g.aqQ PySem.boot_len (aqa (aqp (aqh (K := K) rfl) (pv 1) (aqA (v := bqv) rfl g.bqm ⟨_,rfl⟩) (fun _ _ => rfl)) aqb)) aqb))))
   (bqh (aqw (i := 3) eqq.nd rfl (Or.inl rfl) (aqi (fqD g) (hr.mono (by decide)) rfl g.fq2 g.eq1.kp g.gqg .nil pass0 (aqa (pv 0) (aqa (pv 2) aqb))))
   (bqh (aqw (i := 4) eqq.nd rfl (Or.inl rfl) (aqi (fqD g) (hr.mono (by decide)) rfl g.fq2 g.eq1.kp g.gqg .nil pass0 (aqa (pv 1) (aqa (pv 2) aqb))))
   (aqf (aqB (PW.pt (fqz (aql hqU (aqp (aqh (K := K) rfl) (pv 0) (aqA (v := dqi) rfl g.cqJ ⟨_,rfl⟩) (fun _ _ => rfl)) (aqp (aqh (K := K) rfl) (pv 1) (aqA (v := dqi) rfl g.cqJ ⟨_,rfl⟩) (fun _ _ => rfl)) (nomark _)) (fqz (aql gqy (pv 3) bqY (nomark _)) (dqS (aql gqy (pv 4) bqY (nomark _))))))
    (aqg (aqk bqY)) aqs)
   (aqf (gq3 (i := 5) (K := K) (fx := []) (fr := []) eqq.nd rfl rfl rfl rfl rfl (by decide +kernel) rfl (by decide +kernel) rfl rfl (by decide +kernel) rfl .nil rfl (pqG (K := K) rfl rfl g.pqX (aqa (pv 3) (aqa (pv 4) aqb))) (fun _ _ _ => hqt) (fun _ _ _ => (aqi (iqj g) (hr.mono (by decide)) rfl g.fqy g.dqC.kp g.fqS .nil pass0 (aqa (pv 0) (aqa (pv 1) aqb)))))
   (aqg (aqk (eqF (aql (nq9 (K := K) rfl) bqY (pv 5) (by with_unfolding_all rfl)) bqY (aqY (aqa dqD (aqa (aqN (bqQ (K := K) rfl) rfl g.eqC dqX (aqa (pv 5) aqb)) (aqa (aqp (aqh (K := K) rfl) (pv 0) (aqA (v := dqi) rfl g.cqJ ⟨_,rfl⟩) (fun _ _ => rfl)) aqb)))))))))))),?_⟩
  walk_at "rd"
  have hxl := hx.length
  have hyl := hy.length
  have en : (if (ys.length : Int) > (xs.length : Int) then (ys.length : Int) else (xs.length : Int)) = ((max cs.length ds.length : Nat) : Int) := by rw [hxl,hyl]; split <;> omega
  refine ⟨_,_,.inr hp,aqj (j := 0) rfl,xs,.inr (.of hq),_,_,.inr hp',aqj (j := 0) rfl,ys,.inr (.of hq'),_,_,⟨rfl,rfl⟩,?_⟩
  rw [en]
  generalize hN : max cs.length ds.length = N
  have hN100 : N ≤ 100 := by omega
  refine ⟨fun σ H1 => Same H H1 ∧ ∃ mv : V,σ = [some (.ref p),some (.ref p'),some (.int (N : Int)),some mv,none,none] ∧ SprV K H1 (spreadM cs N) mv,?_,?_⟩
  ·exact ⟨cs,xs,p,q,e,N,rfl,hp,hq,hx,by omega,by omega,fun z => ⟨Same.refl _,.non,rfl,.inl ⟨z,rfl⟩⟩,fun ms zs r H1 h1 s1 hr hz => ⟨s1,.ref r,rfl,.inr ⟨ms,zs,r,h1,rfl,hr,hz⟩⟩⟩
  rintro σ H1 ⟨s1,mv,rfl,hmv⟩
  walk_at "rd"
  refine ⟨fun σ H2 => Same H H2 ∧ ∃ tv : V,σ = [some (.ref p),some (.ref p'),some (.int (N : Int)),some mv,some tv,none] ∧ SprV K H2 (spreadM cs N) mv ∧ SprV K H2 (spreadM ds N) tv,?_,?_⟩
  ·refine ⟨ds,ys,p',q',e',N,rfl,s1.tup hp',s1 _ _ hq',hy.mono s1,by omega,by omega,fun z => ⟨s1,.non,rfl,hmv,.inl ⟨z,rfl⟩⟩,fun ts us r H2 h2 s2 hr hu => ⟨s1.trans s2,.ref r,rfl,?_,.inr ⟨ts,us,r,h2,rfl,hr,hu⟩⟩⟩
   rcases hmv with z | ⟨ms,zs,r0,z1,z2,z3,z4⟩
   ·exact .inl z
   ·exact .inr ⟨ms,zs,r0,z1,z2,s2.tup z3,z4.mono s2⟩
  rintro σ H2 ⟨s2,tv,rfl,hmv2,htv2⟩
  walk_at "rd"
  refine ⟨_,_,.inr (s2.tup hp),aqj (j := 1) rfl,_,_,.inr (s2.tup hp'),aqj (j := 1) rfl,?_⟩
  walk_at "rd"
  have mm : meetM cs e ds e' = if e ≠ e' then none else match spreadM cs N,spreadM ds N with | some ms,some ts => (List.zipWith stepBoth ms ts).mapM id | _,_ => none := by unfold meetM; rw [hN] <;> rfl
  refine ite2 (fun hne => k0 (by rw [mm,if_pos (by simpa using hne)]) H2 s2) (fun hne => ?_)
  have hee : ¬ (e ≠ e') := by simpa using hne
  rw [if_neg hee] at mm
  refine ite2 (fun hm => ?_) (fun hm => ite2 (fun ht => ?_) (fun ht => ?_))
  ·rcases hmv2 with ⟨z,_⟩ | ⟨ms,zs,r,_,z,_⟩
   ·exact k0 (by rw [mm,z] <;> rfl) H2 s2
   ·rw [z] at hm; cases hm
  ·rcases htv2 with ⟨z,_⟩ | ⟨ts,us,r,_,z,_⟩
   ·exact k0 (by rw [mm,z]; cases spreadM cs N <;> rfl) H2 s2
   ·rw [z] at ht; cases ht
  rcases hmv2 with ⟨_,z⟩ | ⟨ms,zs,r,hms,rfl,hr,hz⟩
  ·exact absurd z hm
  rcases htv2 with ⟨_,z⟩ | ⟨ts,us,r',hts,rfl,hr',hu⟩
  ·exact absurd z ht
  rw [hms,hts] at mm
  have mm : meetM cs e ds e' = (List.zipWith stepBoth ms ts).mapM id := mm
  have hzl := hz.length
  have hul := hu.length
  have hml := (aqD hms).1
  have htl := (aqD hts).1
  have okm := eqh oc hms
  have okt := eqh od hts
  have okx : ∀ {c : Pc},PcOk c -> PcTx c := fun {c} o => by
   cases c with
   | step w => exact ⟨Nat.zero_le _,Nat.zero_le _,fun w' h => by cases h; have := o.2.1; omega⟩
   | part a n b => exact ⟨by have := o.1; show a.length ≤ _; omega,by have := o.2.1; show b.length ≤ _; omega,fun w h => by cases h⟩
   | _ => exact ⟨Nat.zero_le _,Nat.zero_le _,fun w h => by cases h⟩
  refine ⟨r,r',_,_,⟨rfl,rfl⟩,hr,hr',fun l n2 => ?_⟩
  refine nqg (zs := (List.zipWith stepBoth ms ts).map otV) hr hr' (aqn (by rw [List.length_map,List.length_zipWith]; omega)) n2 (by rw [List.length_map,List.length_zipWith,hzl,hul]) (fun i x y z h1 h2 h3 H3 T s3 hT => ?_) (fun H3 s3 hl => ?_)
  ·obtain ⟨c,pc,hc,rfl,hpc⟩ := hz.get h1
   obtain ⟨d,pd,hd,rfl,hpd⟩ := hu.get h2
   rw [List.getElem?_map,List.getElem?_zipWith,hc,hd] at h3
   cases h3
   walk_at "rd"
   exact ⟨c,d,pc,pd,rfl,s3.tup hpc,s3.tup hpd,okx (okm c (List.mem_of_getElem? hc)),okx (okt d (List.mem_of_getElem? hd)),fun H4 s4 => hT H4 s4⟩
  have fl : ((List.zipWith stepBoth ms ts).map otV).all flatV = true := List.all_eq_true.mpr fun v hv => by
   obtain ⟨o,_,rfl⟩ := List.mem_map.mp hv
   cases o <;> rfl
  refine ⟨l,_,rfl,.inl (.of hl),rfl,fl,_,rfl,?_⟩
  rw [if_neg (show ¬ false = true by decide)]
  rcases oqG (List.zipWith stepBoth ms ts) with ⟨h1,h2⟩ | ⟨h1,w,h2,h3⟩
  ·rw [h1]
   exact ite2 (fun _ => k0 (mm.trans h2) H3 (s2.trans s3)) (fun z => absurd rfl z)
  ·rw [h1]
   refine ite2 (fun z => by cases z) (fun _ => ?_)
   rw [h3] at hl
   walk_at "rd"
   exact ⟨_,.inl (.of hl),fun t H4 s4 ht => ⟨_,_,.inr (((s2.trans s3).trans s4).tup hp),aqj (j := 1) rfl,by decide,fun p5 H5 n5 s5 hp5 => k w p5 t H5 (mm.trans h2) (((s2.trans s3).trans s4).trans s5) hp5 (s5 _ _ ht)⟩⟩
theorem mqa (g : G w K mg) : FnOk P w K mg base CX0 8 g.fq6 g.eqZ ["_law_table","_law_way_here"] (mqA K) := by
 refine g.hqQ.ok bqU (fun vs H Q E h => ?_) (fun cdv A outer s H vs Q E hr h => ?_)
 ·obtain ⟨l,pw,ps,T,ws,e,ss,rfl,_⟩ := h; rfl
 ·obtain ⟨l,pw,ps,T,ws,e,ss,rfl,hl,hT,hpw,hps,hss,hex,k⟩ := h
  refine ⟨_,(aqf (aqw (i := 2) bqU.nd rfl (Or.inr rfl) (aqi (rqZ g) (hr.mono (by decide)) rfl g.rqg g.oqD.kp g.rqj .nil pass0 (aqa (pv 0) (aqa (pv 1) aqb))))
   (aqf (aqB (PW.pt (fqz (cqU (aqR (aqq equ rfl g.bqr aq3 (aqa (pv 2) (aqa (hqH (v := .ty "tuple") rfl g.eqC dqX rfl) aqb))))) (dqS (aql hqU (aqq (aqr (K := K) rfl) rfl g.aqQ PySem.boot_len (aqa (pv 2) aqb)) aqd (nomark _)))))
    (aqg (aqk bqY)) aqs)
   (aqf (gq3 (i := 3) (K := K) (fx := ["_law_found"]) (fr := [2]) bqU.nd rfl rfl rfl rfl rfl (by decide +kernel) rfl (by decide +kernel) rfl rfl (by decide +kernel) rfl (.cons rfl rfl rfl rfl .nil) rfl (cqa (K := K) rfl (pv 0)) (fun _ _ _ => (hqs (aql aqG (pv 0) (aqp (aqh (K := K) rfl) (pv 2) aqd (fun _ _ => rfl)) (nomark _)))) (fun _ _ _ => (pv 1)))
   (aqf (aqB (PW.pt (fqz (aql hqU (aqq (aqr (K := K) rfl) rfl g.aqQ PySem.boot_len (aqa (pv 3) aqb)) aqd (nomark _)) (fqz (cqU (aqR (aqi (fqQ g) (hr.mono (by decide)) rfl g.eq5 g.dqy.kp g.eqT .nil pass0 (aqa (aqp (aqh (K := K) rfl) (pv 3) aqd (fun _ _ => rfl)) (aqa (pv 1) aqb))))) (dqS (aql (jqR hr.units) (aqi (nqt g) (hr.mono (by decide)) rfl g.nqa g.kqk.kp g.nqe .nil passes0N (aqa (aqp (aqh (K := K) rfl) (pv 3) aqd (fun _ _ => rfl)) (aqa (aqp (aqh (K := K) rfl) (pv 2) aqd (fun _ _ => rfl)) aqb))) (pv 1) (nomark _))))))
    (aqg (aqk bqY)) aqs)
   (aqf (aqw (i := 4) bqU.nd rfl (Or.inl rfl) dqD)
   (aqf (cqs PassesOwn.never rfl (cqa (K := K) rfl (pv 0)) (fqL (n := 2) (K := K) rfl rfl (aqK (aqC (i := 5) bqU.nd rfl (Or.inl rfl)) (aqK (aqC (i := 6) bqU.nd rfl (Or.inl rfl)) eqE)))
   (bqh (aqB (aql aqG (pv 5) (aqp (aqh (K := K) rfl) (pv 2) aqd (fun _ _ => rfl)) (nomark _))
    (aqg (aqw (i := 4) bqU.nd rfl (Or.inl rfl) dqD)) aqs)
   (aqg (aqB (aqR (aqi (fqQ g) (hr.mono (by decide)) rfl g.eq5 g.dqy.kp g.eqT .nil pass0 (aqa (pv 6) (aqa (pv 1) aqb))))
    (aqg (aqB (PW.pt (fqz (aqR (aqi (eqD g) (hr.mono (by decide)) rfl g.dqR g.cqW.kp g.dqO .nil pass0 (aqa (pv 6) (aqa (aqp (aqh (K := K) rfl) (pv 3) aqd (fun _ _ => rfl)) aqb)))) (dqS (PW.pt (fqN (aqR (pv 4)) (dq6 (cqU (aqR (aqi (eqD g) (hr.mono (by decide)) rfl g.dqR g.cqW.kp g.dqO .nil pass0 (aqa (aqp (aqh (K := K) rfl) (pv 3) aqd (fun _ _ => rfl)) (aqa (pv 6) aqb)))))))))))
    (aqg (aqk bqY)) aqs)) aqs))))
   (aqg (aqk (aqp (aqh (K := K) rfl) (pv 3) aqd (fun _ _ => rfl)))))))))),?_⟩
  walk_at "rd"
  have hwl := hT.at_.length
  have hTl := hT.le
  have s5 : ss.length ≤ 500 := by have := hss.1; omega
  have hs1 : ∀ s ∈ ss,s.length ≤ 100000 := fun s hs => by have := (hss.2 s hs).2.1; omega
  refine ⟨l,pw,ps,T,ws,true,e,ss,rfl,hl,hT.at_,fun t ht => (hT.ok t ht).1,by omega,hpw,hps,s5,hs1,(fun hF => ?_),fun b L hF pf l' ys H1 s1 hpf hl' hB => ?_⟩
  ·obtain ⟨t,ht,hf⟩ := hex
   have : t ∈ T.filter (fitR true e ss) := List.mem_filter.mpr ⟨ht,hf⟩
   rw [hF] at this
   cases this
  obtain ⟨i0,hi0,hfb,hrow⟩ := rq2 hF
  generalize mostM mrR b L = tb at hi0 hfb hrow hpf hB
  have kt : kindV (.ref pf) H1 = some "tuple" := by simp only [kindV,hpf]
  obtain ⟨pa,hpa⟩ := hT.at_.addr
  have i0l := (List.getElem?_eq_some_iff.mp hi0).1
  have hl1 := s1 _ _ hl
  have tbm := List.mem_of_getElem? hi0
  obtain ⟨ob,lb,nb⟩ := hT.ok tb tbm
  walk_at "rd"
  refine ⟨_,kt,ite2 (fun z => absurd z (by decide)) (fun _ => ⟨_,.inr (.of hpf),ite2 (fun z => absurd rfl z) (fun _ => ⟨⟨_,.of hl1⟩,fun lc nc => ?_⟩)⟩)⟩
  refine iqW (fun i => (tV ((T[i]?.map (·.1)).getD []),V.ref (pa i))) (fun i => decide ((T[i]?.map (·.1)).getD [] = tb.1)) (fun i => V.ref (pa i)) (.of hl1) (aqn (by omega)) nc (fun i x H' hxi sH => ?_) (fun i hi H' R sH hR => ?_) (fun i hi hti H' T' sH hT' => ?_) (fun H2 s2 hl2 => ?_)
  ·have hi : i < T.length := by have := (List.getElem?_eq_some_iff.mp hxi).1; omega
   obtain ⟨a,h1,h2,_⟩ := hpa i T[i] (List.getElem?_eq_getElem hi)
   rw [hxi] at h1
   cases h1
   refine ⟨a,rfl,?_⟩
   rw [List.getElem?_eq_getElem hi]
   exact .of ((s1.trans sH) _ _ h2)
  ·walk_at "rd"
   refine ⟨_,_,.inr (.of (sH _ _ hpf)),aqj (j := 0) rfl,aqv.mpr ⟨_,rfl,?_⟩⟩
   rw [show decide ((⟨((T[i]?.map (·.1)).getD []).toArray⟩ : Str) = ⟨tb.1.toArray⟩) = decide ((T[i]?.map (·.1)).getD [] = tb.1) from decide_eq_decide.mpr cqt]
   exact hR H' (Same.refl _)
  ·walk_at "rd"
   exact hT' H' (Same.refl _)
  have ef : ((List.range ws.length).filter fun i => decide ((T[i]?.map (·.1)).getD [] = tb.1)) = [i0] := mqY (by omega) fun i hi => by
   have hi' : i < T.length := by omega
   rw [decide_eq_true_iff,List.getElem?_eq_getElem hi']
   exact oqy hT.nd (List.getElem?_eq_getElem hi') hi0
  rw [ef] at hl2
  have hl2 : H2 lc = some (.lst [.ref (pa i0)]) := hl2
  obtain ⟨a0,hw0,ha0,hpt0⟩ := hpa i0 tb hi0
  have s02 := s1.trans s2
  obtain ⟨q0,x0,hp0,hq0,hx0⟩ := hpt0
  have hfb' : fitsP tb.2.1 tb.2.2 true ss e = true := hfb
  walk_at "rd"
  refine ⟨_,.inl (.of hl2),ite2 (fun z => absurd rfl z) (fun _ => ⟨_,_,.inl (.of hl2),aqj (j := 0) rfl,?_⟩)⟩
  refine ⟨tb.2.1,x0,pa i0,q0,pw,ps,tb.2.2,true,e,ss,rfl,.of (s02 _ _ hp0),s02 _ _ hq0,hx0.mono s02.toT,ob.1,ob.2,.of (s02 _ _ hpw),s02 _ _ hps,hss.1,hss.2,fun H3 s3 => ⟨_,rfl,?_⟩⟩
  rw [hfb']
  refine ite2 (fun z => by cases z) (fun _ => ?_)
  have s03 := s02.trans s3
  have s13 := s2.trans s3
  have ob90 := ob.1
  have bn := iq2 tb.2.1 ss
  have bo := nqq (cs := tb.2.1) (ss := ss) (fun s hs => ⟨(hss.2 s hs).2.2,by have := (hss.2 s hs).2.1; omega⟩) (by omega)
  obtain ⟨W,hW⟩ : ∃ W,W = (boundM tb.2.1 ss).map fun b => (b.1,vlD b.2) := ⟨_,rfl⟩
  have hwm : W.map (·.1) = gapsM tb.2.1 := by rw [hW,List.map_map,<- bn]; rfl
  have hWl : W.length ≤ 90 := by
   have h1 := congrArg List.length hwm
   rw [List.length_map] at h1
   have h2 : (gapsM tb.2.1).length ≤ tb.2.1.length := by unfold gapsM; rw [List.length_map]; exact List.length_filter_le _ _
   omega
  have hfill : fillM tb.2.1 W = .ok ss := pqL hfb' lb (fun s hs => ⟨List.length_pos_iff.mp (hss.2 s hs).1,(hss.2 s hs).2.2⟩) (by rw [hwm]; exact nb) (fun n x hx => by rw [hW]; exact List.mem_map.mpr ⟨_,hx,rfl⟩) (fun w hw' => by rw [<- hwm]; exact List.mem_map_of_mem hw')
  have hV := hB.vls
  rw [<- hW] at hV
  refine ⟨_,_,.inl (.of (s3 _ _ hl2)),aqj (j := 0) rfl,_,_,.inr (.of (s13 _ _ hpf)),aqj (j := 1) rfl,?_⟩
  refine ⟨tb.2.1,x0,pa i0,q0,l',tb.2.2,W,ys,rfl,.of (s03 _ _ hp0),.of (s03 _ _ hq0),(hx0.mono s03.toT).all,by omega,(fun c hc => by have := (ob.2 c hc).1.ends; exact ⟨by omega,by omega⟩),s13 _ _ hl',hV.mono s13,by omega,(fun w hw' => by
   rw [hW] at hw'
   obtain ⟨b',hb',rfl⟩ := List.mem_map.mp hw'
   exact (bo b' hb').small),fun s' hs' pw2 qw2 H4 s4 h1 h2 => ?_,fun n hn' => by rw [hfill] at hn'; cases hn'⟩
  rw [hfill] at hs'
  cases hs'
  obtain ⟨_,_,_,hee,_⟩ := dqw.mp hfb'
  have wl : SeqAt.shaped (wyD true ss e) = true := (rqv fun s hs => (hss.2 s hs).2.2).shaped (by decide)
  have s04 := s03.trans s4
  rw [<- hee] at h2
  refine ⟨wyD true ss e,wyD true ss e,rqd h2 h1,rqd (s04 _ _ hpw) (s04 _ _ hps),wl,wl,_,rfl,?_⟩
  rw [rqT]
  have hl4 := s04 _ _ hl
  have hpf4 := (s13.trans s4) _ _ hpf
  have hlc4 := (s3.trans s4) _ _ hl2
  refine ite2 (fun z => absurd z (by decide)) (fun _ => ⟨⟨_,.of hl4⟩,?_⟩)
  refine eqj (xs := ws) (fun i σ H' => Same H4 H' ∧ ∃ v5 v6 : Option V,σ = [some (.ref l),some (.ref pw),some (.ref pf),some (.ref lc),some (.bl (decide (i ≤ i0))),v5,v6]) ⟨Same.refl _,_,_,by rw [decide_eq_true (Nat.zero_le i0)]⟩ (fun i σ H' _ h => .of (h.1 _ _ hl4)) ?_ ?_
  rotate_left
  ·rintro σ H5 ⟨s5,v5,v6,rfl⟩
   walk_at "rd"
   refine ⟨_,_,.inl (.of (s5 _ _ hlc4)),aqj (j := 0) rfl,?_⟩
   exact k tb (pa i0) H5 tbm hfb (s04.trans s5) ⟨q0,x0,(s04.trans s5) _ _ hp0,(s04.trans s5) _ _ hq0,hx0.mono (s04.trans s5).toT⟩
  rintro i v σ H5 hv ⟨s5,v5,v6,rfl⟩
  obtain ⟨t3,ht3,a3,p3,rfl,ha3,q3,xs3,hp3,hq3,hx3⟩ := hT.at_.get hv
  obtain ⟨o3,_,_⟩ := hT.ok t3 (List.mem_of_getElem? ht3)
  have hnm := oqy hT.nd ht3 hi0
  have s05 := s04.trans s5
  refine ⟨a3,_,rfl,.of (s05 _ _ ha3),rfl,_,_,rfl,_,_,rfl,rfl,?_⟩
  walk_at "rd"
  refine ⟨fun σ H' => Same H5 H' ∧ σ = [some (.ref l),some (.ref pw),some (.ref pf),some (.ref lc),some (.bl (decide (i + 1 ≤ i0))),some (tV t3.1),some (.ref p3)],?_,?_⟩
  ·refine ⟨_,_,.inr (.of (s5 _ _ hpf4)),aqj (j := 0) rfl,aqv.mpr ⟨_,rfl,ite2 (fun z => ?_) (fun z => ?_)⟩⟩
   ·have hz : i = i0 := hnm.mp (cqt.mp (of_decide_eq_true z))
    refine ⟨Same.refl _,?_⟩
    rw [decide_eq_false (show ¬ i + 1 ≤ i0 by omega)]
   ·have hz : ¬ i = i0 := fun q => z (decide_eq_true (cqt.mpr (hnm.mpr q)))
    refine ⟨Same.refl _,?_⟩
    rw [decide_eq_decide.mpr (show i ≤ i0 ↔ i + 1 ≤ i0 by omega)]
  rintro σ H6 ⟨s6,rfl⟩
  have s06 := s05.trans s6
  have nx : ∀ {H' : Hp},Same H6 H' -> Same H4 H' ∧ ∃ v5 v6 : Option V,some (tV t3.1) = v5 ∧ some (V.ref p3) = v6 := fun s => ⟨(s5.trans s6).trans s,_,_,rfl,rfl⟩
  walk_at "rd"
  refine ⟨t3.2.1,xs3,p3,q3,pw,ps,t3.2.2,true,e,ss,rfl,.of (s06 _ _ hp3),s06 _ _ hq3,hx3.mono s06.toT,o3.1,o3.2,.of (s06 _ _ hpw),s06 _ _ hps,hss.1,hss.2,fun H7 s7 => ⟨_,rfl,ite2 (fun hft => ?_) (fun _ => nx s7)⟩⟩
  obtain ⟨m1,m2⟩ := hrow i t3 ht3 hft
  have s07 := s06.trans s7
  have hlc7 := ((s5.trans s6).trans s7) _ _ hlc4
  refine ⟨_,_,.inl (.of hlc7),aqj (j := 0) rfl,?_⟩
  refine ⟨t3.2.1,tb.2.1,xs3,x0,p3,q3,pa i0,q0,t3.2.2,tb.2.2,rfl,.of (s07 _ _ hp3),.of (s07 _ _ hq3),(hx3.mono s07.toT).all,.of (s07 _ _ hp0),.of (s07 _ _ hq0),(hx0.mono s07.toT).all,o3.1,ob.1,fun c hc => (o3.2 c hc).1.tx,fun c hc => (ob.2 c hc).1.tx,fun H8 s8 => ⟨_,rfl,?_⟩⟩
  rw [show moreM t3.2.1 tb.2.1 = false from m1]
  have s78 := s7.trans s8
  refine ite2 (fun z => by cases z) (fun _ => ite2 (fun hah => ?_) (fun _ => nx s78))
  have hlt : i < i0 := by omega
  have s08 := s07.trans s8
  refine ⟨_,_,.inl (.of (s8 _ _ hlc7)),aqj (j := 0) rfl,?_⟩
  refine ⟨tb.2.1,t3.2.1,x0,xs3,pa i0,q0,p3,q3,tb.2.2,t3.2.2,rfl,.of (s08 _ _ hp0),.of (s08 _ _ hq0),(hx0.mono s08.toT).all,.of (s08 _ _ hp3),.of (s08 _ _ hq3),(hx3.mono s08.toT).all,ob.1,o3.1,fun c hc => (ob.2 c hc).1.tx,fun c hc => (o3.2 c hc).1.tx,fun H9 s9 => ⟨_,rfl,?_⟩⟩
  rw [show moreM tb.2.1 t3.2.1 = true from m2 hlt]
  exact ite2 (fun z => by cases z) (fun _ => nx (s78.trans s9))
theorem kqu (g : G w K mg) : FnOk P w K mg base CX0 9 g.dqI g.dqg ["_law_table","_law_pattern_here","_law_way_here"] (kqt K) := by
 refine g.fqK.ok cq5 (fun vs H Q E h => ?_) (fun cdv A outer s H vs Q E hr h => ?_)
 ·obtain ⟨l,p,pw,ps,T,ws,t,e,ss,rfl,_⟩ := h; rfl
 ·obtain ⟨l,p,pw,ps,T,ws,t,e,ss,rfl,hl,hT,ht,hpt,hpw,hps,hss,hf,k⟩ := h
  refine ⟨_,(aqf (aqw (i := 3) cq5.nd rfl (Or.inl rfl) (aqi (mqa g) (hr.mono (by decide)) rfl g.jqP g.hqQ.kp g.jq9 .nil pass0 (aqa (pv 0) (aqa (pv 2) aqb))))
   (aqf (aqB (PW.pt (fqz (aql gqy (pv 3) bqY (nomark _)) (dqS (aql gqy (aqi (nqQ g) (hr.mono (by decide)) rfl g.lqn g.iqC.kp g.lqj .nil pass0 (aqa (pv 3) (aqa (pv 1) aqb))) bqY (nomark _)))))
    (aqg (aqk dqD)) aqs)
   (aqf (cqs PassesOwn.never rfl (cqa (K := K) rfl (pv 0)) (fqL (n := 2) (K := K) rfl rfl (aqK (aqC (i := 4) cq5.nd rfl (Or.inl rfl)) (aqK (aqC (i := 5) cq5.nd rfl (Or.inl rfl)) eqE)))
   (aqg (aqB (PW.pt (fqN (aql gqy (aqi (oqA g) (hr.mono (by decide)) rfl g.nqf g.kqx.kp g.mq6 .nil pass0 (aqa (pv 1) (aqa (pv 5) aqb))) bqY (nomark _)) (dq6 (cqU (aqR (aqi (fqQ g) (hr.mono (by decide)) rfl g.eq5 g.dqy.kp g.eqT .nil pass0 (aqa (pv 5) (aqa (pv 2) aqb))))))))
    (aqg (aqk dqD)) aqs)))
   (aqg (aqk dqD))))),?_⟩
  walk_at "rd"
  refine ⟨l,pw,ps,T,ws,e,ss,rfl,hl,hT,hpw,hps,hss,⟨t,ht,hf⟩,fun t2 p2 H1 ht2 hf2 s1 hpt2 => ite2 (fun z => by cases z) (fun _ => ?_)⟩
  obtain ⟨oc,_,_⟩ := hT.ok t ht
  obtain ⟨o2,_,_⟩ := hT.ok t2 ht2
  obtain ⟨q,xs,hp,hq,hx⟩ := hpt
  obtain ⟨q2,xs2,hp2,hq2,hx2⟩ := hpt2
  have oc' : ∀ c ∈ t.2.1,PcOk c := fun c hc => (oc.2 c hc).1
  have o2' : ∀ c ∈ t2.2.1,PcOk c := fun c hc => (o2.2 c hc).1
  have hf' : fitsP t.2.1 t.2.2 true ss e = true := hf
  have hf2' : fitsP t2.2.1 t2.2.2 true ss e = true := hf2
  have hm := oqI o2' oc' hf2' hf'
  refine ⟨t2.2.1,t.2.1,xs2,xs,p2,q2,p,q,t2.2.2,t.2.2,rfl,.of hp2,hq2,hx2.all,.of (s1 _ _ hp),s1 _ _ hq,(hx.mono s1.toT).all,o2.1,oc.1,o2',oc',(fun z => absurd z hm),fun w r u H2 hw s2 _ _ => ite2 (fun z => by cases z) (fun _ => ?_)⟩
  have s02 := s1.trans s2
  have hl2 := s02 _ _ hl
  refine ⟨⟨_,.of hl2⟩,?_⟩
  refine eqj (xs := ws) (fun i σ H' => Same H2 H' ∧ ∃ v4 v5 : Option V,σ = [some (.ref l),some (.ref p),some (.ref pw),some (.ref p2),v4,v5]) ⟨Same.refl _,_,_,rfl⟩ (fun i σ H' _ h => .of (h.1 _ _ hl2)) ?_ ?_
  rotate_left
  ·rintro σ H3 ⟨s3,v4,v5,rfl⟩
   walk_at "rd"
   exact k H3 (s02.trans s3)
  rintro i v σ H3 hv ⟨s3,v4,v5,rfl⟩
  obtain ⟨t3,ht3,a3,p3,rfl,ha3,q3,xs3,hp3,hq3,hx3⟩ := hT.at_.get hv
  obtain ⟨o3,_,_⟩ := hT.ok t3 (List.mem_of_getElem? ht3)
  have o3' : ∀ c ∈ t3.2.1,PcOk c := fun c hc => (o3.2 c hc).1
  have s03 := s02.trans s3
  refine ⟨a3,_,rfl,.of (s03 _ _ ha3),rfl,_,_,rfl,_,_,rfl,rfl,?_⟩
  walk_at "rd"
  have nx : ∀ {H' : Hp},Same H3 H' -> Same H2 H' ∧ ∃ v4 v5 : Option V,some (tV t3.1) = v4 ∧ some (V.ref p3) = v5 := fun s => ⟨s3.trans s,_,_,rfl,rfl⟩
  refine ⟨t.2.1,t3.2.1,xs,xs3,p,q,p3,q3,t.2.2,t3.2.2,rfl,.of (s03 _ _ hp),s03 _ _ hq,(hx.mono s03.toT).all,.of (s03 _ _ hp3),s03 _ _ hq3,(hx3.mono s03.toT).all,oc.1,o3.1,oc',o3',(fun hb H4 s4 => ite2 (fun _ => ?_) (fun z => absurd rfl z)),fun w r u H4 hw s4 _ _ => ite2 (fun z => by cases z) (fun _ => nx s4)⟩
  have s04 := s03.trans s4
  have hf3 := oqL oc' o3' hb hf'
  refine ⟨t3.2.1,xs3,p3,q3,pw,ps,t3.2.2,true,e,ss,rfl,.of (s04 _ _ hp3),s04 _ _ hq3,hx3.mono s04.toT,o3.1,o3.2,.of (s04 _ _ hpw),s04 _ _ hps,hss.1,hss.2,fun H5 s5 => ⟨_,rfl,?_⟩⟩
  rw [hf3]
  exact ite2 (fun z => by cases z) (fun _ => nx (s4.trans s5))
theorem tqR (g : G w K mg) : FnOk P w K mg base CX0 10 g.qqa g.lqz ["_law_script"] (nql K) := by
 refine g.tqU.ok eqx (fun vs H Q E h => ?_) (fun cdv A outer s H vs Q E hr h => ?_)
 ·obtain ⟨a,ns,rfl,_⟩ := h; rfl
 ·obtain ⟨a,ns,rfl,hS,hn,k⟩ := h
  refine ⟨_,(aqf (aqw (i := 1) eqx.nd rfl (Or.inl rfl) (aqi (kqF g) (hr.mono (by decide)) rfl g.hq4 g.fqU.kp g.hqY .nil pass0 (aqa (aqi (bqp g) (hr.mono (by decide)) rfl g.bqa g.aqZ.kp g.bqe .nil pass0 (aqa (pv 0) (aqa aqd aqb))) (aqa aqd aqb))))
   (aqf (aqw (i := 2) eqx.nd rfl (Or.inl rfl) (aqi (kqJ g) (hr.mono (by decide)) rfl g.hq8 g.fqH.kp g.hq7 .nil pass0 (aqa (aqi (bqp g) (hr.mono (by decide)) rfl g.bqa g.aqZ.kp g.bqe .nil pass0 (aqa (pv 0) (aqa aqd aqb))) aqb)))
   (aqf (aqw (i := 3) eqx.nd rfl (Or.inl rfl) (aqi (iqJ g) (hr.mono (by decide)) rfl g.gqu g.dq7.kp g.gqp .nil pass0 (aqa (aqi (eq4 g) (hr.mono (by decide)) rfl g.dqF g.cqV.kp g.dqV .nil pass0 (aqa (pv 0) (aqa aqd (aqa aqd aqb)))) (aqa (pv 1) (aqa (pv 2) aqb)))))
   (aqf (aqw (i := 4) eqx.nd rfl (Or.inl rfl) (aqS (aqa (aqY (aqa (aqp (aqh (K := K) rfl) (pv 1) aqd (fun _ _ => rfl)) (aqa (pv 3) aqb))) aqb)))
   (bqh (cqs PassesOwn.never rfl (cqo rfl g.dq5 (aqa (aqu (aqz (K := K)) aqd (aqu aqM (aqi (bqp g) (hr.mono (by decide)) rfl g.bqa g.aqZ.kp g.bqe .nil pass0 (aqa (pv 0) (aqa aqd aqb))) aqd)) aqb)) (aqC (i := 5) eqx.nd rfl (Or.inl rfl))
   (aqf (aqw (i := 3) eqx.nd rfl (Or.inl rfl) (aqi (gqH g) (hr.mono (by decide)) rfl g.dqZ g.cqh.kp g.dq0 .nil pass0 (aqa (pv 3) (aqa (aqi (eq4 g) (hr.mono (by decide)) rfl g.dqF g.cqV.kp g.dqV .nil pass0 (aqa (pv 0) (aqa (aqu (aqz (K := K)) aqd (aqu cqE aqd (pv 5))) (aqa aqd aqb)))) (aqa (pv 1) (aqa (pv 2) aqb))))))
   (aqg (eqM (fqg (K := K) rfl PySem.F.plainAttrs_list PySem.F.slot_list_append PySem.F.type_list_append cqp (pv 4) (aqa (aqY (aqa (aqp (aqh (K := K) rfl) (pv 1) (aqu (aqz (K := K)) aqd (pv 5)) (fun _ _ => rfl)) (aqa (pv 3) aqb))) aqb))))))
   (aqf (aqw (i := 6) eqx.nd rfl (Or.inl rfl) (aqu aqM (aqi (bqp g) (hr.mono (by decide)) rfl g.bqa g.aqZ.kp g.bqe .nil pass0 (aqa (pv 0) (aqa aqd aqb))) (aqq (aqr (K := K) rfl) rfl g.aqQ PySem.boot_len (aqa (pv 4) aqb))))
   (bqh (aqw (i := 4) eqx.nd rfl (Or.inl rfl) (aqu (aqz (K := K)) (cqg (gqd (K := K) rfl) (pv 4) (cqX (pv 6)) dq9) (cqg (gqd (K := K) rfl) (pv 4) dq9 (cqX (pv 6)))))
   (aqf (cqs PassesOwn.never rfl (kqO (K := K) rfl rfl g.cqG (aqa (pv 4) aqb)) (fqL (n := 2) (K := K) rfl rfl (aqK (aqC (i := 5) eqx.nd rfl (Or.inl rfl)) (aqK (aqC (i := 7) eqx.nd rfl (Or.inl rfl)) eqE)))
   (aqg (cqs PassesOwn.never rfl (cqo rfl g.dq5 (aqa aqd aqb)) (aqC (i := 8) eqx.nd rfl (Or.inl rfl))
   (aqf (aqw (i := 9) eqx.nd rfl (Or.inl rfl) (aqi (mqm g) (hr.mono (by decide)) rfl g.jq5 g.hqX.kp g.jqO .nil pass0 (aqa (aqp (aqh (K := K) rfl) (pv 7) aqd (fun _ _ => rfl)) (aqa (aqi (eq4 g) (hr.mono (by decide)) rfl g.dqF g.cqV.kp g.dqV .nil pass0 (aqa (pv 0) (aqa (aqu (aqz (K := K)) (aqu (aqz (K := K)) aqd (aqu cqE aqd (pv 5))) (aqu cqE aqd (pv 8))) (aqa aqd aqb)))) (aqa (pv 2) aqb)))))
   (aqg (aqB (cqU (aqR (aqi (kqu g) (hr.mono (by decide)) rfl g.iqf g.fqK.kp g.iqa .nil pass0 (aqa (pv 4) (aqa (aqp (aqh (K := K) rfl) (pv 7) aqd (fun _ _ => rfl)) (aqa (pv 9) aqb))))))
    (aqg (aqk dqD)) aqs))))))
   (aqg (aqk dqD)))))))))),?_⟩
  walk_at "rd"
  refine ⟨a,ns,0,rfl,hS,_,12,rfl,by decide,fun nm pn H1 h1 h2 h3 s1 h4 => ?_⟩
  have hnsg : ∀ n ∈ nm,∀ x ∈ n,isSg x = true := fun n hn' => uqc (h2 n hn').2.2
  refine ⟨a,ns,1,rfl,s1.seq hS,_,rfl,fun g1 H2 hg0 hg1 hgs s2 => ?_⟩
  have s02 := s1.trans s2
  refine ⟨a,ns,2,6,rfl,s02.seq hS,by decide,fun is p3 H3 hil s3 hp3 => ?_⟩
  have s03 := s02.trans s3
  refine ⟨p3,pn,g1,nm,is,rfl,hp3,by omega,(s2.trans s3) _ _ h4,by omega,by omega,h3,hnsg,hg0,by omega,hgs,fun cs e p q xs H4 hok hcl hgn hgi hce s4 hq hP hp => ?_⟩
  have s04 := s03.trans s4
  have oc : ∀ c ∈ cs,PcOk c ∧ PcSg c := fun c hc => ⟨hok.1 c hc,mqw (hok.1 c hc) fun x hx => ?_⟩
  rotate_left
  ·cases hst : c.isStep with
   | true =>
    cases c with
    | step s => exact absurd (show x ∈ ([] : List Nat) from hx) List.not_mem_nil
    | _ => cases hst
   | false => exact hnsg c.name (hgi c.name (by
     unfold gapsM
     exact List.mem_map.mpr ⟨c,List.mem_filter.mpr ⟨hc,by rw [hst]; rfl⟩,rfl⟩)) x hx
  have nat_ : ∀ j : Nat,j < 12 -> nm[j]? = some (nm.getD j []) := fun j hj => by rw [List.getD_eq_getElem?_getD,List.getElem?_eq_getElem (by omega)]; rfl
  walk_at "rd"
  refine ⟨_,_,.inl (.of (((s2.trans s3).trans s4) _ _ h4)),aqj (j := 7) (by rw [List.getElem?_map,nat_ 7 (by decide)]; rfl),by decide,fun r5 H5 n5 s5 hr5 => ⟨by decide,fun l H6 n6 s6 hl => ?_⟩⟩
  have s46 := s5.trans s6
  have hpn6 := ((s2.trans s3).trans (s4.trans s46)) _ _ h4
  have npl : pn ≠ l := fun z => by
   have := ((s2.trans s3).trans (s4.trans s5)) _ _ h4
   rw [z,n6] at this
   cases this
  have nl : H l = none := iq8 (s04.trans s5) n6
  have pt6 : PtAt H6 cs e p := ⟨q,xs,s46 _ _ hp,s46 _ _ hq,hP.mono s46.toT⟩
  refine ⟨fun σ H' => Same H H' ∧ ∃ (T : List Rw) (ws : List V) (v3 v5 : Option V),σ = [some (.ref a),some (.ref pn),some (tV g1),v3,some (.ref l),v5,none,none,none,none] ∧ H' l = some (.lst ws) ∧ TbOk H' T ws ∧ 0 < T.length,?_,?_⟩
  ·refine ⟨a,ns,8,rfl,(s04.trans s46).seq hS,?_⟩
   walk_at "rd"
   generalize ns.getD 8 0 = c8
   obtain ⟨n,hn4,en⟩ : ∃ n : Nat,n ≤ 4 ∧ 1 + c8 % 4 = (n : Int) := ⟨(1 + c8 % 4).toNat,by omega,by omega⟩
   rw [en]
   refine ⟨by decide,by omega,by omega,?_⟩
   rw [Int.toNat_natCast]
   refine cqv (fun i σ H' => Same H H' ∧ H' pn = some (.lst (nm.map tV)) ∧ ∃ (T : List Rw) (ws : List V) (cs : List Pc) (e : Bool) (p : Addr) (v5 : Option V),σ = [some (.ref a),some (.ref pn),some (tV g1),some (.ref p),some (.ref l),v5,none,none,none,none] ∧ H' l = some (.lst ws) ∧ TbV H' T ws ∧ T.length = i + 1 ∧ (∀ (j : Nat) (t : Rw),T[j]? = some t -> nm[7 + j]? = some t.1) ∧ (∀ t ∈ T,RwOk t) ∧ cs.length ≤ 7 ∧ (∀ c,cs[6]? = some c -> c.isRest = true) ∧ (∀ c ∈ cs,PcOk c ∧ PcSg c) ∧ PtAt H' cs e p) ⟨s04.trans s46,hpn6,[(nm.getD 7 [],cs,e)],[.ref r5],cs,e,p,none,rfl,hl,.cons ⟨r5,p,rfl,s6 _ _ hr5,pt6⟩ .nil,rfl,(fun j t ht => ?_),(fun t ht => by rw [List.mem_singleton.mp ht]; exact ⟨⟨(show cs.length ≤ 90 by omega),oc⟩,hok.2,hgn⟩),by omega,(fun c hc => by have := (List.getElem?_eq_some_iff.mp hc).1; omega),oc,pt6⟩ ?_ ?_
   ·cases j with
    | zero => cases ht; exact nat_ 7 (by decide)
    | succ j => simp at ht
   ·rintro i σ H7 hi ⟨s7,hpn7,T,ws,cs7,e7,p7,v5,rfl,hl7,hT7,hTl,hTn,hTo,c7,c6,o7,pt7⟩
    walk_at "rd"
    rw [show (9 + 7 * (0 + (i : Int))) = ((9 + 7 * i : Nat) : Int) by omega]
    refine ⟨.inl ⟨by decide,by decide⟩,a,ns,9 + 7 * i,7,rfl,s7.seq hS,by decide,fun is8 p8 H8 hi8 s8 hp8 => ?_⟩
    refine ⟨cs7,e7,p7,p8,pn,g1,nm,is8,rfl,c7,c6,o7,pt7.mono s8.toT,hp8,by omega,s8 _ _ hpn7,by omega,h3,hnsg,hg0,by omega,hgs,fun ds e' p9 H9 hdl hd6 hdr hdg od s9 hpt => ?_⟩
    have s79 := s8.trans s9
    refine ⟨⟨_,.of (s79 _ _ hl7)⟩,_,_,.inl (.of (s79 _ _ hpn7)),by rw [show (8 + (0 + (i : Int))) = ((8 + i : Nat) : Int) by omega]; exact aqj (by rw [List.getElem?_map,nat_ (8 + i) (by omega)]; rfl),by decide,fun r10 H10 n10 s10 hr10 => ?_⟩
    have s710 := s79.trans s10
    have hl10 := s710 _ _ hl7
    have st := iqN (ys := ws ++ [.ref r10]) hl10
    have hwl := hT7.length
    refine ⟨_,hl10,by rw [hwl,hTl]; exact Nat.lt_of_le_of_lt (show i + 1 ≤ 100 by omega) (by decide),kqz (s7.trans s710) nl,by rw [aqt npl]; exact s710 _ _ hpn7,T ++ [(nm.getD (8 + i) [],ds,e')],_,ds,e',p9,_,⟨rfl,rfl⟩,aqm,TbV.append (.cons ⟨r10,p9,rfl,st _ _ hr10,(hpt.mono s10.toT).mono st⟩ .nil) ((hT7.mono s710.toT).mono st),by rw [List.length_append,hTl]; rfl,(fun j t ht => ?_),(fun t ht => ?_),hdl,hd6,od,(hpt.mono s10.toT).mono st⟩
    ·by_cases hj : j < T.length
     ·rw [List.getElem?_append_left hj] at ht
      exact hTn j t ht
     ·have h9 := (List.getElem?_eq_some_iff.mp ht).1
      rw [List.length_append,List.length_singleton] at h9
      rw [List.getElem?_append_right (by omega),show j - T.length = 0 by omega] at ht
      cases ht
      rw [show 7 + j = 8 + i by omega]
      exact nat_ (8 + i) (by omega)
    ·rcases List.mem_append.mp ht with y | y
     ·exact hTo t y
     ·rw [List.mem_singleton.mp y]; exact ⟨⟨(show ds.length ≤ 90 by omega),od⟩,hdr,hdg⟩
   ·rintro σ H7 ⟨s7,hpn7,T,ws,cs7,e7,p7,v5,rfl,hl7,hT7,hTl,hTn,hTo,c7,c6,o7,pt7⟩
    exact ⟨s7,T,ws,_,_,rfl,hl7,⟨hT7,hTo,qqN h3 hTn,by omega⟩,by omega⟩
  clear pt6 npl hpn6 s46 hl hr5 n6 n5 s6 s5
  rintro σ H7 ⟨s7,T,ws,v3,v5,rfl,hl7,hT7,hT0⟩
  have hwl := hT7.at_.length
  walk_at "rd"
  refine ⟨a,ns,37,rfl,s7.seq hS,?_⟩
  walk_at "rd"
  generalize ns.getD 37 0 = c37
  refine ⟨_,.inl (.of hl7),by omega,?_⟩
  obtain ⟨m,hm,em⟩ : ∃ m : Nat,m < ws.length ∧ c37 % (ws.length : Int) = (m : Int) := by
   have h1 := Int.emod_nonneg c37 (show (ws.length : Int) ≠ 0 by omega)
   have h2 := Int.emod_lt_of_pos c37 (show 0 < (ws.length : Int) by omega)
   exact ⟨(c37 % (ws.length : Int)).toNat,by omega,by omega⟩
  rw [em]
  refine ⟨fun σ H' => Same H H' ∧ ∃ (T : List Rw) (ws : List V) (l : Addr) (v3 v5 v6 : Option V),σ = [some (.ref a),some (.ref pn),some (tV g1),v3,some (.ref l),v5,v6,none,none,none] ∧ H' l = some (.lst ws) ∧ TbOk H' T ws,⟨_,.of hl7,fun p8 H8 n8 s8 hp8 => ⟨_,.of (s8 _ _ hl7),fun p9 H9 n9 s9 hp9 => ?_⟩⟩,?_⟩
  ·rw [hqj] at hp8
   rw [gqX] at hp9
   have h10 := hT7.le
   refine .inl ⟨_,_,s9 _ _ hp8,hp9,aqn (by rw [List.length_drop,List.length_take]; omega),fun l10 H10 n10 s10 hl10 => ?_⟩
   have u10 := (s8.trans s9).trans s10
   exact ⟨s7.trans u10,_,_,l10,_,_,_,rfl,hl10,(hT7.turn m).mono u10.toT⟩
  clear hm em hwl hT0 hT7 hl7 s7 nl
  clear m ws T v3 v5 H7
  rintro σ H7 ⟨s7,T,ws,l,v3,v5,v6,rfl,hl7,hT7⟩
  have hwl := hT7.at_.length
  have h10 := hT7.le
  walk_at "rd"
  refine ⟨l,_,rfl,.of hl7,?_⟩
  refine nqJ (xs := ws) (fun i σ H' => Same H7 H' ∧ ∃ v5 v7 v8 v9 : Option V,σ = [some (.ref a),some (.ref pn),some (tV g1),v3,some (.ref l),v5,v6,v7,v8,v9]) ⟨Same.refl _,_,_,_,_,rfl⟩ (fun i σ H' _ h => .of (h.1 _ _ hl7)) ?_ ?_
  rotate_left
  ·rintro σ H8 ⟨s8,v5,v7,v8,v9,rfl⟩
   walk_at "rd"
   exact k H8
  rintro i v σ H8 X hv ⟨s8,v5,v7,v8,v9,rfl⟩ hX
  obtain ⟨t,ht,a1,p1,rfl,ha1,hpt1⟩ := hT7.at_.get hv
  have hil := (List.getElem?_eq_some_iff.mp ht).1
  obtain ⟨ot,lt,gt⟩ := hT7.ok t (List.mem_of_getElem? ht)
  have s9 : Same H7 (upd H8 X (.tup [.int (i : Int),.ref a1])) := s8.trans (aq0 hX)
  refine ⟨X,_,rfl,.of aqm,rfl,_,_,rfl,_,_,rfl,rfl,?_⟩
  generalize upd H8 X (.tup [.int (i : Int),.ref a1]) = H9 at s9
  walk_at "rd"
  refine ⟨by decide,by decide,?_⟩
  refine cqv (fun j σ H' => Same H7 H' ∧ ∃ v8 v9 : Option V,σ = [some (.ref a),some (.ref pn),some (tV g1),v3,some (.ref l),some (.int (i : Int)),v6,some (.ref a1),v8,v9]) ⟨s9,_,_,rfl⟩ ?_ ?_
  rotate_left
  ·rintro σ H10 ⟨s10,v8,v9,rfl⟩
   exact ⟨s10,_,_,_,_,rfl⟩
  rintro j σ H10 hj ⟨s10,v8,v9,rfl⟩
  have hj2 : j < 2 := by simpa using hj
  walk_at "rd"
  refine ⟨_,_,.inr (.of (s10 _ _ ha1)),aqj (j := 1) rfl,.inl ⟨by decide,by decide⟩,.inl ⟨by decide,by decide⟩,?_⟩
  rw [show (38 + 2 * (i : Int) + 9 * (0 + (j : Int))) = ((38 + 2 * i + 9 * j : Nat) : Int) by omega]
  refine ⟨a,ns,38 + 2 * i + 9 * j,8,rfl,(s7.trans s10).seq hS,by decide,fun is1 q1 H11 hi1 s11 hq1 => ?_⟩
  have s711 := s10.trans s11
  refine ⟨t.2.1,t.2.2,p1,q1,g1,is1,rfl,ot,hpt1.mono s711.toT,hq1,hi1,hg0,by omega,hgs,fun v H12 s12 hv12 => ?_⟩
  obtain ⟨pw,ps,b1,b2,ss,rfl,hpw,hps,hss,hf⟩ := hv12
  obtain ⟨_,_,hb1,_,_⟩ := dqw.mp hf
  subst hb1
  have s712 := s711.trans s12
  refine ⟨_,_,.inr (.of (s712 _ _ ha1)),aqj (j := 1) rfl,?_⟩
  exact ⟨l,p1,pw,ps,T,ws,t,b2,ss,rfl,s712 _ _ hl7,hT7.mono s712.toT,List.mem_of_getElem? ht,hpt1.mono s712.toT,hpw,hps,hss,hf,fun H13 s13 => ⟨_,rfl,ite2 (fun z => by cases z) (fun _ => ⟨s712.trans s13,_,_,rfl,rfl⟩)⟩⟩
end
theorem aqc {a b : Bool} (h : (a && b) = true) : a = true := by cases a; cases h; rfl
theorem aqe {a b : Bool} (h : (a && b) = true) : b = true := by cases a; cases h; exact h
theorem usl1 {us : List Value} (h : us.length = 1) : ∃ x0,us = [x0] := List.length_eq_one_iff.mp h
local macro_rules | `(tactic| walk_at "b1") => `(tactic| exact fun _ _ _ _ _ _ us hl => by obtain ⟨x0,e⟩ := usl1 hl; subst e; rfl)
theorem usl2 {us : List Value} (h : us.length = 2) : ∃ x0 x1,us = [x0,x1] := by
 cases us with
 | nil => cases h
 | cons x0 l =>
  obtain ⟨x1,rfl⟩ := usl1 (Nat.succ.inj h)
  exact ⟨_,_,rfl⟩
local macro_rules | `(tactic| walk_at "b2") => `(tactic| exact fun _ _ _ _ _ _ us hl => by obtain ⟨x0,x1,e⟩ := usl2 hl; subst e; rfl)
theorem usl3 {us : List Value} (h : us.length = 3) : ∃ x0 x1 x2,us = [x0,x1,x2] := by
 cases us with
 | nil => cases h
 | cons x0 l =>
  obtain ⟨x1,x2,rfl⟩ := usl2 (Nat.succ.inj h)
  exact ⟨_,_,_,rfl⟩
local macro_rules | `(tactic| walk_at "b3") => `(tactic| exact fun _ _ _ _ _ _ us hl => by obtain ⟨x0,x1,x2,e⟩ := usl3 hl; subst e; rfl)
theorem usl4 {us : List Value} (h : us.length = 4) : ∃ x0 x1 x2 x3,us = [x0,x1,x2,x3] := by
 cases us with
 | nil => cases h
 | cons x0 l =>
  obtain ⟨x1,x2,x3,rfl⟩ := usl3 (Nat.succ.inj h)
  exact ⟨_,_,_,_,rfl⟩
local macro_rules | `(tactic| walk_at "b4") => `(tactic| exact fun _ _ _ _ _ _ us hl => by obtain ⟨x0,x1,x2,x3,e⟩ := usl4 hl; subst e; rfl)
theorem tqi {l : PySem.W.OpenLaw} {w : World} {K : W.Frag} {h : Heap} {mg : Str -> Option Value} {fa : Addr} (X : K.In h) (Gl : h.Ns mainGlobals mg) (hfa : mg "law" = some (.ref fa))
  {eC_NoValue : Addr} (en_NoValue : W.nsIn K mainGlobals "NoValue" = some (some (.ref eC_NoValue)))
  (a1 : W.nsIn K mainGlobals "made_of" = some (some (.ref f1))) (l1 : K.lookup f1 = some ⟨oc1,od1,.func (W.fnOf "made_of" "made_of" (defArgs eqw) (defBody eqw) (defScope eqw) .none kV1 dc1 pm1 an1 cd1 ct1),sl1⟩)
  (a2 : W.nsIn K mainGlobals "is_whole_number" = some (some (.ref f2))) (l2 : K.lookup f2 = some ⟨oc2,od2,.func (W.fnOf "is_whole_number" "is_whole_number" (defArgs aqL) (defBody aqL) (defScope aqL) .none kV2 dc2 pm2 an2 cd2 ct2),sl2⟩)
  (a3 : W.findIn K (.ref eC_NoValue) "__init__" = some (some (.ref f3))) (i3 : W.isFn K (.ref f3) = true) (l3 : K.lookup f3 = some ⟨oc3,od3,.func (W.fnOf "__init__" "NoValue.__init__" (defArgs aqH) (defBody aqH) (defScope aqH) .none kV3 dc3 pm3 an3 cd3 ct3),sl3⟩)
  (a4 : W.nsIn K mainGlobals "is_dot" = some (some (.ref f4))) (l4 : K.lookup f4 = some ⟨oc4,od4,.func (W.fnOf "is_dot" "is_dot" (defArgs gqa) (defBody gqa) (defScope gqa) .none kV4 dc4 pm4 an4 cd4 ct4),sl4⟩)
  (a5 : W.nsIn K mainGlobals "is_gap" = some (some (.ref f5))) (l5 : K.lookup f5 = some ⟨oc5,od5,.func (W.fnOf "is_gap" "is_gap" (defArgs gqk) (defBody gqk) (defScope gqk) .none kV5 dc5 pm5 an5 cd5 ct5),sl5⟩)
  (a6 : W.nsIn K mainGlobals "name_of" = some (some (.ref f6))) (l6 : K.lookup f6 = some ⟨oc6,od6,.func (W.fnOf "name_of" "name_of" (defArgs eql) (defBody eql) (defScope eql) .none kV6 dc6 pm6 an6 cd6 ct6),sl6⟩)
  (a7 : W.nsIn K mainGlobals "head_of" = some (some (.ref f7))) (l7 : K.lookup f7 = some ⟨oc7,od7,.func (W.fnOf "head_of" "head_of" (defArgs eqa) (defBody eqa) (defScope eqa) .none kV7 dc7 pm7 an7 cd7 ct7),sl7⟩)
  (a8 : W.nsIn K mainGlobals "tail_of" = some (some (.ref f8))) (l8 : K.lookup f8 = some ⟨oc8,od8,.func (W.fnOf "tail_of" "tail_of" (defArgs eqo) (defBody eqo) (defScope eqo) .none kV8 dc8 pm8 an8 cd8 ct8),sl8⟩)
  (a9 : W.nsIn K mainGlobals "has_rest" = some (some (.ref f9))) (l9 : K.lookup f9 = some ⟨oc9,od9,.func (W.fnOf "has_rest" "has_rest" (defArgs dqp) (defBody dqp) (defScope dqp) .none kV9 dc9 pm9 an9 cd9 ct9),sl9⟩)
  (a10 : W.nsIn K mainGlobals "texts_around" = some (some (.ref f10))) (l10 : K.lookup f10 = some ⟨oc10,od10,.func (W.fnOf "texts_around" "texts_around" (defArgs bqb) (defBody bqb) (defScope bqb) .none kV10 dc10 pm10 an10 cd10 ct10),sl10⟩)
  (a11 : W.nsIn K mainGlobals "_law_cell_at" = some (some (.ref f11))) (l11 : K.lookup f11 = some ⟨oc11,od11,.func (W.fnOf "_law_cell_at" "_law_cell_at" (defArgs bqd) (defBody bqd) (defScope bqd) .none kV11 dc11 pm11 an11 cd11 ct11),sl11⟩)
  (a12 : W.nsIn K mainGlobals "_law_names" = some (some (.ref f12))) (l12 : K.lookup f12 = some ⟨oc12,od12,.func (W.fnOf "_law_names" "_law_names" (defArgs bqW) (defBody bqW) (defScope bqW) .none kV12 dc12 pm12 an12 cd12 ct12),sl12⟩)
  (a13 : W.nsIn K mainGlobals "_law_signs" = some (some (.ref f13))) (l13 : K.lookup f13 = some ⟨oc13,od13,.func (W.fnOf "_law_signs" "_law_signs" (defArgs bq4) (defBody bq4) (defScope bq4) .none kV13 dc13 pm13 an13 cd13 ct13),sl13⟩)
  (a14 : W.nsIn K mainGlobals "_law_run" = some (some (.ref f14))) (l14 : K.lookup f14 = some ⟨oc14,od14,.func (W.fnOf "_law_run" "_law_run" (defArgs dqt) (defBody dqt) (defScope dqt) .none kV14 dc14 pm14 an14 cd14 ct14),sl14⟩)
  (a15 : W.nsIn K mainGlobals "_law_fits_step" = some (some (.ref f15))) (l15 : K.lookup f15 = some ⟨oc15,od15,.func (W.fnOf "_law_fits_step" "_law_fits_step" (defArgs aqV) (defBody aqV) (defScope aqV) .none kV15 dc15 pm15 an15 cd15 ct15),sl15⟩)
  (a16 : W.nsIn K mainGlobals "is_text" = some (some (.ref f16))) (l16 : K.lookup f16 = some ⟨oc16,od16,.func (W.fnOf "is_text" "is_text" (defArgs eqn) (defBody eqn) (defScope eqn) .none kV16 dc16 pm16 an16 cd16 ct16),sl16⟩)
  (a17 : W.nsIn K mainGlobals "names_of" = some (some (.ref f17))) (l17 : K.lookup f17 = some ⟨oc17,od17,.func (W.fnOf "names_of" "names_of" (defArgs dql) (defBody dql) (defScope dql) .none kV17 dc17 pm17 an17 cd17 ct17),sl17⟩)
  (a18 : W.nsIn K mainGlobals "spread" = some (some (.ref f18))) (l18 : K.lookup f18 = some ⟨oc18,od18,.func (W.fnOf "spread" "spread" (defArgs fq8) (defBody fq8) (defScope fq8) .none kV18 dc18 pm18 an18 cd18 ct18),sl18⟩)
  (a19 : W.nsIn K mainGlobals "fits_part" = some (some (.ref f19))) (l19 : K.lookup f19 = some ⟨oc19,od19,.func (W.fnOf "fits_part" "fits_part" (defArgs cqF) (defBody cqF) (defScope cqF) .none kV19 dc19 pm19 an19 cd19 ct19),sl19⟩)
  (a20 : W.nsIn K mainGlobals "is_number" = some (some (.ref f20))) (l20 : K.lookup f20 = some ⟨oc20,od20,.func (W.fnOf "is_number" "is_number" (defArgs cqy) (defBody cqy) (defScope cqy) .none kV20 dc20 pm20 an20 cd20 ct20),sl20⟩)
  (a21 : W.nsIn K mainGlobals "is_word" = some (some (.ref f21))) (l21 : K.lookup f21 = some ⟨oc21,od21,.func (W.fnOf "is_word" "is_word" (defArgs eqp) (defBody eqp) (defScope eqp) .none kV21 dc21 pm21 an21 cd21 ct21),sl21⟩)
  (a22 : W.nsIn K mainGlobals "bound_value" = some (some (.ref f22))) (l22 : K.lookup f22 = some ⟨oc22,od22,.func (W.fnOf "bound_value" "bound_value" (defArgs bqB) (defBody bqB) (defScope bqB) .none kV22 dc22 pm22 an22 cd22 ct22),sl22⟩)
  (a23 : W.nsIn K mainGlobals "steps_of_value" = some (some (.ref f23))) (l23 : K.lookup f23 = some ⟨oc23,od23,.func (W.fnOf "steps_of_value" "steps_of_value" (defArgs aqU) (defBody aqU) (defScope aqU) .none kV23 dc23 pm23 an23 cd23 ct23),sl23⟩)
  (a24 : W.nsIn K mainGlobals "worth_of" = some (some (.ref f24))) (l24 : K.lookup f24 = some ⟨oc24,od24,.func (W.fnOf "worth_of" "worth_of" (defArgs dqq) (defBody dqq) (defScope dqq) .none kV24 dc24 pm24 an24 cd24 ct24),sl24⟩)
  (a25 : W.nsIn K mainGlobals "count_to_try" = some (some (.ref f25))) (l25 : K.lookup f25 = some ⟨oc25,od25,.func (W.fnOf "count_to_try" "count_to_try" (defArgs bqg) (defBody bqg) (defScope bqg) .none kV25 dc25 pm25 an25 cd25 ct25),sl25⟩)
  (a26 : W.nsIn K mainGlobals "_law_cells" = some (some (.ref f26))) (l26 : K.lookup f26 = some ⟨oc26,od26,.func (W.fnOf "_law_cells" "_law_cells" (defArgs bq1) (defBody bq1) (defScope bq1) .none kV26 dc26 pm26 an26 cd26 ct26),sl26⟩)
  (a27 : W.nsIn K mainGlobals "_law_text" = some (some (.ref f27))) (l27 : K.lookup f27 = some ⟨oc27,od27,.func (W.fnOf "_law_text" "_law_text" (defArgs cqC) (defBody cqC) (defScope cqC) .none kV27 dc27 pm27 an27 cd27 ct27),sl27⟩)
  (a28 : W.nsIn K mainGlobals "_law_fits" = some (some (.ref f28))) (l28 : K.lookup f28 = some ⟨oc28,od28,.func (W.fnOf "_law_fits" "_law_fits" (defArgs cqB) (defBody cqB) (defScope cqB) .none kV28 dc28 pm28 an28 cd28 ct28),sl28⟩)
  (a29 : W.nsIn K mainGlobals "is_filled_text" = some (some (.ref f29))) (l29 : K.lookup f29 = some ⟨oc29,od29,.func (W.fnOf "is_filled_text" "is_filled_text" (defArgs aqT) (defBody aqT) (defScope aqT) .none kV29 dc29 pm29 an29 cd29 ct29),sl29⟩)
  (a30 : W.nsIn K mainGlobals "step_fits" = some (some (.ref f30))) (l30 : K.lookup f30 = some ⟨oc30,od30,.func (W.fnOf "step_fits" "step_fits" (defArgs cqw) (defBody cqw) (defScope cqw) .none kV30 dc30 pm30 an30 cd30 ct30),sl30⟩)
  (a31 : W.nsIn K mainGlobals "refuse_others" = some (some (.ref f31))) (l31 : K.lookup f31 = some ⟨oc31,od31,.func (W.fnOf "refuse_others" "refuse_others" (defArgs aq1) (defBody aq1) (defScope aq1) .none kV31 dc31 pm31 an31 cd31 ct31),sl31⟩)
  (a32 : W.nsIn K mainGlobals "worth_more" = some (some (.ref f32))) (l32 : K.lookup f32 = some ⟨oc32,od32,.func (W.fnOf "worth_more" "worth_more" (defArgs bq3) (defBody bq3) (defScope bq3) .none kV32 dc32 pm32 an32 cd32 ct32),sl32⟩)
  (a33 : W.nsIn K mainGlobals "_law_piece" = some (some (.ref f33))) (l33 : K.lookup f33 = some ⟨oc33,od33,.func (W.fnOf "_law_piece" "_law_piece" (defArgs bqX) (defBody bqX) (defScope bqX) .none kV33 dc33 pm33 an33 cd33 ct33),sl33⟩)
  (a34 : W.nsIn K mainGlobals "_law_step" = some (some (.ref f34))) (l34 : K.lookup f34 = some ⟨oc34,od34,.func (W.fnOf "_law_step" "_law_step" (defArgs cqD) (defBody cqD) (defScope cqD) .none kV34 dc34 pm34 an34 cd34 ct34),sl34⟩)
  (a35 : W.nsIn K mainGlobals "fits" = some (some (.ref f35))) (l35 : K.lookup f35 = some ⟨oc35,od35,.func (W.fnOf "fits" "fits" (defArgs kqi) (defBody kqi) (defScope kqi) .none kV35 dc35 pm35 an35 cd35 ct35),sl35⟩)
  (a36 : W.nsIn K mainGlobals "can_be_step" = some (some (.ref f36))) (l36 : K.lookup f36 = some ⟨oc36,od36,.func (W.fnOf "can_be_step" "can_be_step" (defArgs bqw) (defBody bqw) (defScope bqw) .none kV36 dc36 pm36 an36 cd36 ct36),sl36⟩)
  (a37 : W.nsIn K mainGlobals "worth_most" = some (some (.ref f37))) (l37 : K.lookup f37 = some ⟨oc37,od37,.func (W.fnOf "worth_most" "worth_most" (defArgs bq2) (defBody bq2) (defScope bq2) .none kV37 dc37 pm37 an37 cd37 ct37),sl37⟩)
  (a38 : W.nsIn K mainGlobals "fitting_texts" = some (some (.ref f38))) (l38 : K.lookup f38 = some ⟨oc38,od38,.func (W.fnOf "fitting_texts" "fitting_texts" (defArgs aq2) (defBody aq2) (defScope aq2) .none kV38 dc38 pm38 an38 cd38 ct38),sl38⟩)
  (a39 : W.nsIn K mainGlobals "_law_pattern" = some (some (.ref f39))) (l39 : K.lookup f39 = some ⟨oc39,od39,.func (W.fnOf "_law_pattern" "_law_pattern" (defArgs bqc) (defBody bqc) (defScope bqc) .none kV39 dc39 pm39 an39 cd39 ct39),sl39⟩)
  (a40 : W.nsIn K mainGlobals "_law_kin" = some (some (.ref f40))) (l40 : K.lookup f40 = some ⟨oc40,od40,.func (W.fnOf "_law_kin" "_law_kin" (defArgs dqr) (defBody dqr) (defScope dqr) .none kV40 dc40 pm40 an40 cd40 ct40),sl40⟩)
  (a41 : W.nsIn K mainGlobals "_law_way" = some (some (.ref f41))) (l41 : K.lookup f41 = some ⟨oc41,od41,.func (W.fnOf "_law_way" "_law_way" (defArgs dqk) (defBody dqk) (defScope dqk) .none kV41 dc41 pm41 an41 cd41 ct41),sl41⟩)
  (a42 : W.nsIn K mainGlobals "bound" = some (some (.ref f42))) (l42 : K.lookup f42 = some ⟨oc42,od42,.func (W.fnOf "bound" "bound" (defArgs hqv) (defBody hqv) (defScope hqv) .none kV42 dc42 pm42 an42 cd42 ct42),sl42⟩)
  (a43 : W.nsIn K mainGlobals "is_value" = some (some (.ref f43))) (l43 : K.lookup f43 = some ⟨oc43,od43,.func (W.fnOf "is_value" "is_value" (defArgs dqo) (defBody dqo) (defScope dqo) .none kV43 dc43 pm43 an43 cd43 ct43),sl43⟩)
  (a44 : W.nsIn K mainGlobals "texts_for_both" = some (some (.ref f44))) (l44 : K.lookup f44 = some ⟨oc44,od44,.func (W.fnOf "texts_for_both" "texts_for_both" (defArgs aqW) (defBody aqW) (defScope aqW) .none kV44 dc44 pm44 an44 cd44 ct44),sl44⟩)
  (a45 : W.nsIn K mainGlobals "step_beyond" = some (some (.ref f45))) (l45 : K.lookup f45 = some ⟨oc45,od45,.func (W.fnOf "step_beyond" "step_beyond" (defArgs bqz) (defBody bqz) (defScope bqz) .none kV45 dc45 pm45 an45 cd45 ct45),sl45⟩)
  (a46 : W.nsIn K mainGlobals "_law_kin_pattern" = some (some (.ref f46))) (l46 : K.lookup f46 = some ⟨oc46,od46,.func (W.fnOf "_law_kin_pattern" "_law_kin_pattern" (defArgs aqI) (defBody aqI) (defScope aqI) .none kV46 dc46 pm46 an46 cd46 ct46),sl46⟩)
  (a47 : W.nsIn K mainGlobals "filled_steps" = some (some (.ref f47))) (l47 : K.lookup f47 = some ⟨oc47,od47,.func (W.fnOf "filled_steps" "filled_steps" (defArgs bqf) (defBody bqf) (defScope bqf) .none kV47 dc47 pm47 an47 cd47 ct47),sl47⟩)
  (a48 : W.nsIn K mainGlobals "lead" = some (some (.ref f48))) (l48 : K.lookup f48 = some ⟨oc48,od48,.func (W.fnOf "lead" "lead" (defArgs jq3) (defBody jq3) (defScope jq3) .none kV48 dc48 pm48 an48 cd48 ct48),sl48⟩)
  (a49 : W.nsIn K mainGlobals "step_for_both" = some (some (.ref f49))) (l49 : K.lookup f49 = some ⟨oc49,od49,.func (W.fnOf "step_for_both" "step_for_both" (defArgs aq5) (defBody aq5) (defScope aq5) .none kV49 dc49 pm49 an49 cd49 ct49),sl49⟩)
  (a50 : W.nsIn K mainGlobals "beyond" = some (some (.ref f50))) (l50 : K.lookup f50 = some ⟨oc50,od50,.func (W.fnOf "beyond" "beyond" (defArgs gqm) (defBody gqm) (defScope gqm) .none kV50 dc50 pm50 an50 cd50 ct50),sl50⟩)
  (a51 : W.nsIn K mainGlobals "filled" = some (some (.ref f51))) (l51 : K.lookup f51 = some ⟨oc51,od51,.func (W.fnOf "filled" "filled" (defArgs gqe) (defBody gqe) (defScope gqe) .none kV51 dc51 pm51 an51 cd51 ct51),sl51⟩)
  (a52 : W.nsIn K mainGlobals "meeting" = some (some (.ref f52))) (l52 : K.lookup f52 = some ⟨oc52,od52,.func (W.fnOf "meeting" "meeting" (defArgs eqs) (defBody eqs) (defScope eqs) .none kV52 dc52 pm52 an52 cd52 ct52),sl52⟩)
  (a53 : W.nsIn K mainGlobals "_law_led" = some (some (.ref f53))) (l53 : K.lookup f53 = some ⟨oc53,od53,.func (W.fnOf "_law_led" "_law_led" (defArgs dqj) (defBody dqj) (defScope dqj) .none kV53 dc53 pm53 an53 cd53 ct53),sl53⟩)
  (a54 : W.nsIn K mainGlobals "_law_right" = some (some (.ref f54))) (l54 : K.lookup f54 = some ⟨oc54,od54,.func (W.fnOf "_law_right" "_law_right" (defArgs bq0) (defBody bq0) (defScope bq0) .none kV54 dc54 pm54 an54 cd54 ct54),sl54⟩)
  (a55 : W.nsIn K mainGlobals "law" = some (some (.ref f55))) (l55 : K.lookup f55 = some ⟨oc55,od55,.func (W.fnOf "law" "law" (defArgs nqI) (defBody nqI) (defScope nqI) .none kV55 dc55 pm55 an55 cd55 ct55),sl55⟩)
  {qa_WORTH_OF_WORDS : Addr} (e_WORTH_OF_WORDS : W.nsIn K mainGlobals "WORTH_OF_WORDS" = some (some (.ref qa_WORTH_OF_WORDS)))
  (yl_WORTH_OF_WORDS : PyProof.Rows.KTD.tabLook PyProof.Rows.KTD.flatLooks (fun a => K.lookup a) qa_WORTH_OF_WORDS cq1 = true) (yh_WORTH_OF_WORDS : PyProof.Rows.KTD.hashesOf (fun a => K.lookup a) qa_WORTH_OF_WORDS = cq1.map fun p => hashStr w p.1)
  {jqg : Tok} (e_SIGNS : W.nsIn K mainGlobals "SIGNS" = some (some (.str (Str.ofString " !\"#$&'()*+,-./0123456789:;<=>?@ABCDEFGHIJKLMNOPQRSTUVWXYZ[\\]^_`abcdefghijklmnopqrstuvwxyz{|}~") jqg)))
  {bqo : Tok} (e_SMALL_LETTERS : W.nsIn K mainGlobals "SMALL_LETTERS" = some (some (.str (Str.ofString "abcdefghijklmnopqrstuvwxyz") bqo)))
  {fqT : Tok} (e_FIGURES : W.nsIn K mainGlobals "FIGURES" = some (some (.str (Str.ofString "0123456789") fqT)))
  {hql : Tok} (e_ROOTED : W.nsIn K mainGlobals "ROOTED" = some (some (.int 0 hql)))
  {iqA : Tok} (e_STEPS : W.nsIn K mainGlobals "STEPS" = some (some (.int 1 iqA)))
  {lqf : Tok} (e_ENDS : W.nsIn K mainGlobals "ENDS" = some (some (.int 2 lqf)))
  {lqk : Tok} (e_STAY : W.nsIn K mainGlobals "STAY" = some (some (.str (Str.ofString ".") lqk)))
  {t_UP : Tok} (e_UP : W.nsIn K mainGlobals "UP" = some (some (.str (Str.ofString "..") t_UP)))
  {gq1 : Tok} (e_PIECES : W.nsIn K mainGlobals "PIECES" = some (some (.int 0 gq1)))
  {hqk : Tok} (e_CLOSES : W.nsIn K mainGlobals "CLOSES" = some (some (.int 1 hqk)))
  {aq9 : Tok} (e_LONGEST_NUMBER : W.nsIn K mainGlobals "LONGEST_NUMBER" = some (some (.int 60 aq9)))
  {bqC : Tok} (e_LONGEST_WORD : W.nsIn K mainGlobals "LONGEST_WORD" = some (some (.int 60 bqC)))
  {bq5 : Tok} (e_TRIED_SIGNS : W.nsIn K mainGlobals "TRIED_SIGNS" = some (some (.str (Str.ofString "ab01") bq5)))
  (z_all : W.nsIn K mainGlobals "all" = some none)
  (z_isinstance : W.nsIn K mainGlobals "isinstance" = some none)
  (z_bool : W.nsIn K mainGlobals "bool" = some none)
  (z_int : W.nsIn K mainGlobals "int" = some none)
  (z_len : W.nsIn K mainGlobals "len" = some none)
  (z_range : W.nsIn K mainGlobals "range" = some none)
  (z_str : W.nsIn K mainGlobals "str" = some none)
  (z_list : W.nsIn K mainGlobals "list" = some none)
  (z_max : W.nsIn K mainGlobals "max" = some none)
  (z_zip : W.nsIn K mainGlobals "zip" = some none)
  (z_tuple : W.nsIn K mainGlobals "tuple" = some none)
  (z_enumerate : W.nsIn K mainGlobals "enumerate" = some none)
  (el0_NoValue : W.findIn K (.ref eC_NoValue) "__getattribute__" = some (some (.builtin "BaseException.__getattribute__")))
  (el1_NoValue : W.findIn K (.ref eC_NoValue) "__class__" = some (some (.builtin "object.__class__")))
  (el2_NoValue : W.findIn K (.ref eC_NoValue) "__getattr__" = some none)
  (el3_NoValue : W.mroIn K eC_NoValue (.type "object") = some true)
  (el4_NoValue : W.mroIn K eC_NoValue (.type "BaseException") = some true)
  (el5_NoValue : (W.clsIn K eC_NoValue).isSome = true)
  (ey_NoValue : excInI K eC_NoValue vErr vNew f3 = true)
  (ek_NoValue : W.keepIn K (.ref eC_NoValue) = true)
  (es_NoValue : W.findIn K (.ref eC_NoValue) "__setattr__" = some (some (.builtin "object.__setattr__")))
  (eo_NoValue : overErr K eC_NoValue = true)
  (eh_NoValue : W.hasDictIn K eC_NoValue = true)
  (ef_NoValue_name : W.findIn K (.ref eC_NoValue) "name" = some none)
  (kk : ((((((W.keepIn K (.ref f1) && W.keepIn K (.ref f2)) && (W.keepIn K (.ref f3) && W.keepIn K (.ref f4))) && ((W.keepIn K (.ref f5) && W.keepIn K (.ref f6)) && W.keepIn K (.ref f7))) && (((W.keepIn K (.ref f8) && W.keepIn K (.ref f9)) && (W.keepIn K (.ref f10) && W.keepIn K (.ref f11))) && ((W.keepIn K (.ref f12) && W.keepIn K (.ref f13)) && W.keepIn K (.ref f14)))) && ((((W.keepIn K (.ref f15) && W.keepIn K (.ref f16)) && (W.keepIn K (.ref f17) && W.keepIn K (.ref f18))) && ((W.keepIn K (.ref f19) && W.keepIn K (.ref f20)) && W.keepIn K (.ref f21))) && (((W.keepIn K (.ref f22) && W.keepIn K (.ref f23)) && (W.keepIn K (.ref f24) && W.keepIn K (.ref f25))) && ((W.keepIn K (.ref f26) && W.keepIn K (.ref f27)) && W.keepIn K (.ref f28))))) && (((((W.keepIn K (.ref f29) && W.keepIn K (.ref f30)) && (W.keepIn K (.ref f31) && W.keepIn K (.ref f32))) && ((W.keepIn K (.ref f33) && W.keepIn K (.ref f34)) && W.keepIn K (.ref f35))) && (((W.keepIn K (.ref f36) && W.keepIn K (.ref f37)) && (W.keepIn K (.ref f38) && W.keepIn K (.ref f39))) && ((W.keepIn K (.ref f40) && W.keepIn K (.ref f41)) && W.keepIn K (.ref f42)))) && ((((W.keepIn K (.ref f43) && W.keepIn K (.ref f44)) && (W.keepIn K (.ref f45) && W.keepIn K (.ref f46))) && ((W.keepIn K (.ref f47) && W.keepIn K (.ref f48)) && W.keepIn K (.ref f49))) && (((W.keepIn K (.ref f50) && W.keepIn K (.ref f51)) && W.keepIn K (.ref f52)) && ((W.keepIn K (.ref f53) && W.keepIn K (.ref f54)) && W.keepIn K (.ref f55)))))) = true)
  (cc : ((((((W.codeIn K cd1 "made_of" && W.codeIn K cd2 "is_whole_number") && (W.codeIn K cd3 "NoValue.__init__" && W.codeIn K cd4 "is_dot")) && ((W.codeIn K cd5 "is_gap" && W.codeIn K cd6 "name_of") && W.codeIn K cd7 "head_of")) && (((W.codeIn K cd8 "tail_of" && W.codeIn K cd9 "has_rest") && (W.codeIn K cd10 "texts_around" && W.codeIn K cd11 "_law_cell_at")) && ((W.codeIn K cd12 "_law_names" && W.codeIn K cd13 "_law_signs") && W.codeIn K cd14 "_law_run"))) && ((((W.codeIn K cd15 "_law_fits_step" && W.codeIn K cd16 "is_text") && (W.codeIn K cd17 "names_of" && W.codeIn K cd18 "spread")) && ((W.codeIn K cd19 "fits_part" && W.codeIn K cd20 "is_number") && W.codeIn K cd21 "is_word")) && (((W.codeIn K cd22 "bound_value" && W.codeIn K cd23 "steps_of_value") && (W.codeIn K cd24 "worth_of" && W.codeIn K cd25 "count_to_try")) && ((W.codeIn K cd26 "_law_cells" && W.codeIn K cd27 "_law_text") && W.codeIn K cd28 "_law_fits")))) && (((((W.codeIn K cd29 "is_filled_text" && W.codeIn K cd30 "step_fits") && (W.codeIn K cd31 "refuse_others" && W.codeIn K cd32 "worth_more")) && ((W.codeIn K cd33 "_law_piece" && W.codeIn K cd34 "_law_step") && W.codeIn K cd35 "fits")) && (((W.codeIn K cd36 "can_be_step" && W.codeIn K cd37 "worth_most") && (W.codeIn K cd38 "fitting_texts" && W.codeIn K cd39 "_law_pattern")) && ((W.codeIn K cd40 "_law_kin" && W.codeIn K cd41 "_law_way") && W.codeIn K cd42 "bound"))) && ((((W.codeIn K cd43 "is_value" && W.codeIn K cd44 "texts_for_both") && (W.codeIn K cd45 "step_beyond" && W.codeIn K cd46 "_law_kin_pattern")) && ((W.codeIn K cd47 "filled_steps" && W.codeIn K cd48 "lead") && W.codeIn K cd49 "step_for_both")) && (((W.codeIn K cd50 "beyond" && W.codeIn K cd51 "filled") && W.codeIn K cd52 "meeting") && ((W.codeIn K cd53 "_law_led" && W.codeIn K cd54 "_law_right") && W.codeIn K cd55 "law"))))) = true) :
  ∃ fd : FuncData,(∀ (s : Shared) (v : Value),BindsTo s fd ⟨[v],[]⟩ [("_law_script",v)]) ∧ ∀ base : Heap,K.In base -> base.Ns mainGlobals mg -> FnOk l.prog w K mg base CX0 10 fa fd ["_law_script"] (nql K) := by
 have e := hfa.symm.trans (W.mg_of X Gl a55)
 have e2 : f55 = fa := by cases e; rfl
 subst e2
 have M : ∀ {x : Str} {v : Value},W.nsIn K mainGlobals x = some (some v) -> mg x = some v := fun a => W.mg_of X Gl a
 have F1 := aqy (st := eqw) l1 (aqc (aqc (aqc (aqc (aqc (aqc cc)))))) (aqc (aqc (aqc (aqc (aqc (aqc kk))))))
 have F2 := aqy (st := aqL) l2 (aqe (aqc (aqc (aqc (aqc (aqc cc)))))) (aqe (aqc (aqc (aqc (aqc (aqc kk))))))
 have F3 := aqy (st := aqH) l3 (aqc (aqe (aqc (aqc (aqc (aqc cc)))))) (aqc (aqe (aqc (aqc (aqc (aqc kk))))))
 have F4 := aqy (st := gqa) l4 (aqe (aqe (aqc (aqc (aqc (aqc cc)))))) (aqe (aqe (aqc (aqc (aqc (aqc kk))))))
 have F5 := aqy (st := gqk) l5 (aqc (aqc (aqe (aqc (aqc (aqc cc)))))) (aqc (aqc (aqe (aqc (aqc (aqc kk))))))
 have F6 := aqy (st := eql) l6 (aqe (aqc (aqe (aqc (aqc (aqc cc)))))) (aqe (aqc (aqe (aqc (aqc (aqc kk))))))
 have F7 := aqy (st := eqa) l7 (aqe (aqe (aqc (aqc (aqc cc))))) (aqe (aqe (aqc (aqc (aqc kk)))))
 have F8 := aqy (st := eqo) l8 (aqc (aqc (aqc (aqe (aqc (aqc cc)))))) (aqc (aqc (aqc (aqe (aqc (aqc kk))))))
 have F9 := aqy (st := dqp) l9 (aqe (aqc (aqc (aqe (aqc (aqc cc)))))) (aqe (aqc (aqc (aqe (aqc (aqc kk))))))
 have F10 := aqy (st := bqb) l10 (aqc (aqe (aqc (aqe (aqc (aqc cc)))))) (aqc (aqe (aqc (aqe (aqc (aqc kk))))))
 have F11 := aqy (st := bqd) l11 (aqe (aqe (aqc (aqe (aqc (aqc cc)))))) (aqe (aqe (aqc (aqe (aqc (aqc kk))))))
 have F12 := aqy (st := bqW) l12 (aqc (aqc (aqe (aqe (aqc (aqc cc)))))) (aqc (aqc (aqe (aqe (aqc (aqc kk))))))
 have F13 := aqy (st := bq4) l13 (aqe (aqc (aqe (aqe (aqc (aqc cc)))))) (aqe (aqc (aqe (aqe (aqc (aqc kk))))))
 have F14 := aqy (st := dqt) l14 (aqe (aqe (aqe (aqc (aqc cc))))) (aqe (aqe (aqe (aqc (aqc kk)))))
 have F15 := aqy (st := aqV) l15 (aqc (aqc (aqc (aqc (aqe (aqc cc)))))) (aqc (aqc (aqc (aqc (aqe (aqc kk))))))
 have F16 := aqy (st := eqn) l16 (aqe (aqc (aqc (aqc (aqe (aqc cc)))))) (aqe (aqc (aqc (aqc (aqe (aqc kk))))))
 have F17 := aqy (st := dql) l17 (aqc (aqe (aqc (aqc (aqe (aqc cc)))))) (aqc (aqe (aqc (aqc (aqe (aqc kk))))))
 have F18 := aqy (st := fq8) l18 (aqe (aqe (aqc (aqc (aqe (aqc cc)))))) (aqe (aqe (aqc (aqc (aqe (aqc kk))))))
 have F19 := aqy (st := cqF) l19 (aqc (aqc (aqe (aqc (aqe (aqc cc)))))) (aqc (aqc (aqe (aqc (aqe (aqc kk))))))
 have F20 := aqy (st := cqy) l20 (aqe (aqc (aqe (aqc (aqe (aqc cc)))))) (aqe (aqc (aqe (aqc (aqe (aqc kk))))))
 have F21 := aqy (st := eqp) l21 (aqe (aqe (aqc (aqe (aqc cc))))) (aqe (aqe (aqc (aqe (aqc kk)))))
 have F22 := aqy (st := bqB) l22 (aqc (aqc (aqc (aqe (aqe (aqc cc)))))) (aqc (aqc (aqc (aqe (aqe (aqc kk))))))
 have F23 := aqy (st := aqU) l23 (aqe (aqc (aqc (aqe (aqe (aqc cc)))))) (aqe (aqc (aqc (aqe (aqe (aqc kk))))))
 have F24 := aqy (st := dqq) l24 (aqc (aqe (aqc (aqe (aqe (aqc cc)))))) (aqc (aqe (aqc (aqe (aqe (aqc kk))))))
 have F25 := aqy (st := bqg) l25 (aqe (aqe (aqc (aqe (aqe (aqc cc)))))) (aqe (aqe (aqc (aqe (aqe (aqc kk))))))
 have F26 := aqy (st := bq1) l26 (aqc (aqc (aqe (aqe (aqe (aqc cc)))))) (aqc (aqc (aqe (aqe (aqe (aqc kk))))))
 have F27 := aqy (st := cqC) l27 (aqe (aqc (aqe (aqe (aqe (aqc cc)))))) (aqe (aqc (aqe (aqe (aqe (aqc kk))))))
 have F28 := aqy (st := cqB) l28 (aqe (aqe (aqe (aqe (aqc cc))))) (aqe (aqe (aqe (aqe (aqc kk)))))
 have F29 := aqy (st := aqT) l29 (aqc (aqc (aqc (aqc (aqc (aqe cc)))))) (aqc (aqc (aqc (aqc (aqc (aqe kk))))))
 have F30 := aqy (st := cqw) l30 (aqe (aqc (aqc (aqc (aqc (aqe cc)))))) (aqe (aqc (aqc (aqc (aqc (aqe kk))))))
 have F31 := aqy (st := aq1) l31 (aqc (aqe (aqc (aqc (aqc (aqe cc)))))) (aqc (aqe (aqc (aqc (aqc (aqe kk))))))
 have F32 := aqy (st := bq3) l32 (aqe (aqe (aqc (aqc (aqc (aqe cc)))))) (aqe (aqe (aqc (aqc (aqc (aqe kk))))))
 have F33 := aqy (st := bqX) l33 (aqc (aqc (aqe (aqc (aqc (aqe cc)))))) (aqc (aqc (aqe (aqc (aqc (aqe kk))))))
 have F34 := aqy (st := cqD) l34 (aqe (aqc (aqe (aqc (aqc (aqe cc)))))) (aqe (aqc (aqe (aqc (aqc (aqe kk))))))
 have F35 := aqy (st := kqi) l35 (aqe (aqe (aqc (aqc (aqe cc))))) (aqe (aqe (aqc (aqc (aqe kk)))))
 have F36 := aqy (st := bqw) l36 (aqc (aqc (aqc (aqe (aqc (aqe cc)))))) (aqc (aqc (aqc (aqe (aqc (aqe kk))))))
 have F37 := aqy (st := bq2) l37 (aqe (aqc (aqc (aqe (aqc (aqe cc)))))) (aqe (aqc (aqc (aqe (aqc (aqe kk))))))
 have F38 := aqy (st := aq2) l38 (aqc (aqe (aqc (aqe (aqc (aqe cc)))))) (aqc (aqe (aqc (aqe (aqc (aqe kk))))))
 have F39 := aqy (st := bqc) l39 (aqe (aqe (aqc (aqe (aqc (aqe cc)))))) (aqe (aqe (aqc (aqe (aqc (aqe kk))))))
 have F40 := aqy (st := dqr) l40 (aqc (aqc (aqe (aqe (aqc (aqe cc)))))) (aqc (aqc (aqe (aqe (aqc (aqe kk))))))
 have F41 := aqy (st := dqk) l41 (aqe (aqc (aqe (aqe (aqc (aqe cc)))))) (aqe (aqc (aqe (aqe (aqc (aqe kk))))))
 have F42 := aqy (st := hqv) l42 (aqe (aqe (aqe (aqc (aqe cc))))) (aqe (aqe (aqe (aqc (aqe kk)))))
 have F43 := aqy (st := dqo) l43 (aqc (aqc (aqc (aqc (aqe (aqe cc)))))) (aqc (aqc (aqc (aqc (aqe (aqe kk))))))
 have F44 := aqy (st := aqW) l44 (aqe (aqc (aqc (aqc (aqe (aqe cc)))))) (aqe (aqc (aqc (aqc (aqe (aqe kk))))))
 have F45 := aqy (st := bqz) l45 (aqc (aqe (aqc (aqc (aqe (aqe cc)))))) (aqc (aqe (aqc (aqc (aqe (aqe kk))))))
 have F46 := aqy (st := aqI) l46 (aqe (aqe (aqc (aqc (aqe (aqe cc)))))) (aqe (aqe (aqc (aqc (aqe (aqe kk))))))
 have F47 := aqy (st := bqf) l47 (aqc (aqc (aqe (aqc (aqe (aqe cc)))))) (aqc (aqc (aqe (aqc (aqe (aqe kk))))))
 have F48 := aqy (st := jq3) l48 (aqe (aqc (aqe (aqc (aqe (aqe cc)))))) (aqe (aqc (aqe (aqc (aqe (aqe kk))))))
 have F49 := aqy (st := aq5) l49 (aqe (aqe (aqc (aqe (aqe cc))))) (aqe (aqe (aqc (aqe (aqe kk)))))
 have F50 := aqy (st := gqm) l50 (aqc (aqc (aqc (aqe (aqe (aqe cc)))))) (aqc (aqc (aqc (aqe (aqe (aqe kk))))))
 have F51 := aqy (st := gqe) l51 (aqe (aqc (aqc (aqe (aqe (aqe cc)))))) (aqe (aqc (aqc (aqe (aqe (aqe kk))))))
 have F52 := aqy (st := eqs) l52 (aqe (aqc (aqe (aqe (aqe cc))))) (aqe (aqc (aqe (aqe (aqe kk)))))
 have F53 := aqy (st := dqj) l53 (aqc (aqc (aqe (aqe (aqe (aqe cc)))))) (aqc (aqc (aqe (aqe (aqe (aqe kk))))))
 have F54 := aqy (st := bq0) l54 (aqe (aqc (aqe (aqe (aqe (aqe cc)))))) (aqe (aqc (aqe (aqe (aqe (aqe kk))))))
 have F55 := aqy (st := nqI) l55 (aqe (aqe (aqe (aqe (aqe cc))))) (aqe (aqe (aqe (aqe (aqe kk)))))
 let g : G w K mg := {
  hqr := f1,gqb := _,fqr := F1,hqq := M a1,
  gqV := F1.binds (by walk_at "b2"),
  bqy := f2,bql := _,cqz := F2,eqc := M a2,
  eqk := F2.binds (by walk_at "b1"),
  bqk := f3,aq8 := _,dqT := F3,
  cqk := F3.binds (by walk_at "b2"),
  iqr := f4,gqM := _,gqQ := F4,iqw := M a4,
  iqv := F4.binds (by walk_at "b1"),
  iqn := f5,hqb := _,dqL := F5,eqy := M a5,
  eqK := F5.binds (by walk_at "b1"),
  hqg := f6,fqV := _,eqf := F6,fqP := M a6,
  fqt := F6.binds (by walk_at "b1"),
  hqf := f7,fq3 := _,bqE := F7,bq6 := M a7,
  cqq := F7.binds (by walk_at "b1"),
  hqo := f8,fq4 := _,bqD := F8,cql := M a8,
  bq8 := F8.binds (by walk_at "b1"),
  fq5 := f9,eq6 := _,eqt := F9,fq0 := M a9,
  fqZ := F9.binds (by walk_at "b1"),
  cqQ := f10,cqn := _,cqL := F10,dq3 := M a10,
  dq8 := F10.binds (by walk_at "b2"),
  cqO := f11,cqd := _,aqZ := F11,bqa := M a11,
  bqe := F11.binds (by walk_at "b2"),
  dqE := f12,cq9 := _,fqU := F12,hq4 := M a12,
  hqY := F12.binds (by walk_at "b2"),
  dqG := f13,dqd := _,fqH := F13,hq8 := M a13,
  hq7 := F13.binds (by walk_at "b1"),
  fqW := f14,eq2 := _,eqg := F14,fq7 := M a14,
  gql := F14.binds (by walk_at "b3"),
  bqG := f15,bqu := _,cqZ := F15,fqo := M a15,
  fqn := F15.binds (by walk_at "b2"),
  gq6 := f16,gqc := _,iqP := F16,kq5 := M a16,
  lqe := F16.binds (by walk_at "b1"),
  fq1 := f17,eqG := _,hqS := F17,kqa := M a17,
  jq6 := F17.binds (by walk_at "b1"),
  iqu := f18,gqY := _,eq1 := F18,fq2 := M a18,
  gqg := F18.binds (by walk_at "b2"),
  eq3 := f19,dqW := _,gqC := F19,iqE := M a19,
  iq3 := F19.binds (by walk_at "b2"),
  eqS := f20,dqM := _,gqD := F20,jqo := M a20,
  iqI := F20.binds (by walk_at "b1"),
  gqP := f21,gqi := _,hqp := F21,jqf := M a21,
  iqR := F21.binds (by walk_at "b1"),
  dqf := f22,cqH := _,eqP := F22,gqK := M a22,
  gq0 := F22.binds (by walk_at "b2"),
  bqI := f23,bqA := _,cq0 := F23,fqj := M a23,
  fqd := F23.binds (by walk_at "b2"),
  gqh := f24,eqX := _,dqm := F24,eqe := M a24,
  eqm := F24.binds (by walk_at "b1"),
  cqN := f25,cqr := _,dq2 := F25,gqq := M a25,
  gqv := F25.binds (by walk_at "b2"),
  dqN := f26,dqe := _,cqV := F26,dqF := M a26,
  dqV := F26.binds (by walk_at "b3"),
  fqb := f27,dq1 := _,dqu := F27,eqN := M a27,
  eqH := F27.binds (by walk_at "b3"),
  eqQ := f28,dqK := _,dqy := F28,eq5 := M a28,
  eqT := F28.binds (by walk_at "b2"),
  bqO := f29,bqx := _,bqJ := F29,cqY := M a29,
  cq3 := F29.binds (by walk_at "b1"),
  eq7 := f30,dqJ := _,bqT := F30,cqx := M a30,
  cqA := F30.binds (by walk_at "b2"),
  bq7 := f31,bqK := _,dqv := F31,fqu := M a31,
  fqx := F31.binds (by walk_at "b2"),
  dqU := f32,dqb := _,cqW := F32,dqR := M a32,
  dqO := F32.binds (by walk_at "b2"),
  dqH := f33,cq8 := _,dqQ := F33,fqM := M a33,
  fqE := F33.binds (by walk_at "b3"),
  eqY := f34,dqP := _,gqz := F34,iqU := M a34,
  jqi := F34.binds (by walk_at "b3"),
  nqp := f35,kqs := _,mq4 := F35,oqu := M a35,
  pqh := F35.binds (by walk_at "b2"),
  cq6 := f36,cqP := _,eqI := F36,gqO := M a36,
  gqR := F36.binds (by walk_at "b1"),
  dqY := f37,dqc := _,fqG := F37,iqe := M a37,
  hq5 := F37.binds (by walk_at "b1"),
  cqi := f38,bqM := _,aq4 := F38,bqs := M a38,
  bqq := F38.binds (by walk_at "b1"),
  cqI := f39,cqf := _,dq7 := F39,gqu := M a39,
  gqp := F39.binds (by walk_at "b3"),
  gqf := f40,eqz := _,hqE := F40,kqh := M a40,
  jqW := F40.binds (by walk_at "b4"),
  gqn := f41,eq9 := _,hqX := F41,jq5 := M a41,
  jqO := F41.binds (by walk_at "b3"),
  kql := f42,iqt := _,mqS := F42,pqQ := M a42,
  pqe := F42.binds (by walk_at "b2"),
  fqY := f43,eqR := _,hqM := F43,jq8 := M a43,
  jqH := F43.binds (by walk_at "b2"),
  bqF := f44,bqt := _,cq2 := F44,fqf := M a44,
  fqq := F44.binds (by walk_at "b2"),
  cq7 := f45,cqK := _,eqW := F45,gq9 := M a45,
  gqS := F45.binds (by walk_at "b2"),
  bqj := f46,aq6 := _,cqh := F46,dqZ := M a46,
  dq0 := F46.binds (by walk_at "b4"),
  cqM := f47,bq9 := _,dq4 := F47,gqt := M a47,
  gqw := F47.binds (by walk_at "b2"),
  mq5 := f48,kqQ := _,oqD := F48,rqg := M a48,
  rqj := F48.binds (by walk_at "b2"),
  cqe := f49,bqH := _,dqC := F49,fqy := M a49,
  fqS := F49.binds (by walk_at "b2"),
  iqp := f50,hqa := _,kqx := F50,nqf := M a50,
  mq6 := F50.binds (by walk_at "b2"),
  iqo := f51,gqT := _,kqk := F51,nqa := M a51,
  nqe := F51.binds (by walk_at "b2"),
  gq7 := f52,fq9 := _,iqC := F52,lqn := M a52,
  lqj := F52.binds (by walk_at "b2"),
  fq6 := f53,eqZ := _,hqQ := F53,jqP := M a53,
  jq9 := F53.binds (by walk_at "b2"),
  dqI := f54,dqg := _,fqK := F54,iqf := M a54,
  iqa := F54.binds (by walk_at "b3"),
  qqa := f55,lqz := _,tqU := F55,uqh := M a55,
  uql := F55.binds (by walk_at "b1"),
  bqN := qa_WORTH_OF_WORDS,fqp := W.mg_of X Gl e_WORTH_OF_WORDS,fql := fun P h hI => PyProof.Rows.KTD.strTab_of_look P w hI yl_WORTH_OF_WORDS (by decide) yh_WORTH_OF_WORDS,
  jqg := jqg,oq2 := W.mg_of X Gl e_SIGNS,
  bqo := bqo,fqB := W.mg_of X Gl e_SMALL_LETTERS,
  fqT := fqT,lqx := W.mg_of X Gl e_FIGURES,
  hql := hql,nqc := W.mg_of X Gl e_ROOTED,
  iqA := iqA,mqK := W.mg_of X Gl e_STEPS,
  lqf := lqf,qq6 := W.mg_of X Gl e_ENDS,
  lqk := lqk,qq8 := W.mg_of X Gl e_STAY,
  t_UP := t_UP,c_UP := W.mg_of X Gl e_UP,
  gq1 := gq1,bqm := W.mg_of X Gl e_PIECES,
  hqk := hqk,cqJ := W.mg_of X Gl e_CLOSES,
  aq9 := aq9,fqm := W.mg_of X Gl e_LONGEST_NUMBER,
  bqC := bqC,gqo := W.mg_of X Gl e_LONGEST_WORD,
  bq5 := bq5,hqe := W.mg_of X Gl e_TRIED_SIGNS,
  qqM := W.mg_none_of X Gl z_all,
  bqr := W.mg_none_of X Gl z_isinstance,
  rqi := W.mg_none_of X Gl z_bool,
  pqa := W.mg_none_of X Gl z_int,
  aqQ := W.mg_none_of X Gl z_len,
  dq5 := W.mg_none_of X Gl z_range,
  oqp := W.mg_none_of X Gl z_str,
  lqg := W.mg_none_of X Gl z_list,
  pqk := W.mg_none_of X Gl z_max,
  pqX := W.mg_none_of X Gl z_zip,
  eqC := W.mg_none_of X Gl z_tuple,
  cqG := W.mg_none_of X Gl z_enumerate,
  aqX := eC_NoValue,iqM := W.mg_of X Gl en_NoValue,
  oqs := ⟨el0_NoValue,el1_NoValue,el2_NoValue,el3_NoValue,el4_NoValue,el5_NoValue⟩,
  jqh := ⟨ey_NoValue,i3,ek_NoValue⟩,
  fqC := ⟨es_NoValue,eo_NoValue,ef_NoValue_name,eh_NoValue⟩,
  iqO := ⟨⟨el0_NoValue,el1_NoValue,el2_NoValue,el3_NoValue,el4_NoValue,el5_NoValue⟩,ef_NoValue_name,eh_NoValue⟩ }
 exact ⟨g.lqz,fun s v => .of_eq rfl,fun base _ _ => tqR g⟩
theorem walk {l : PySem.W.OpenLaw} {q : Program} {loose : List Str} {XP : (Str -> Option Value) -> Heap -> Prop} {YP : World -> Heap -> Prop} {d : DefRec} {K : Params -> W.Frag} (hn : l.most = some 63) (hdf : d.params.defaults = [])
  (hY : ∀ (w : World) (h : Heap),YP w h -> (K w.params).In h)
  (F : ∀ (w : World) (mg : Str -> Option Value) (fa : Addr) (h : Heap),(K w.params).In h -> h.Ns mainGlobals mg -> mg d.name = some (.ref fa) ->
   ∃ fd : FuncData,(∀ (s : Shared) (u : Value),BindsTo s fd ⟨[u],[]⟩ [("_law_script",u)]) ∧ ∀ base : Heap,(K w.params).In base -> base.Ns mainGlobals mg -> FnOk l.prog w (K w.params) mg base CX0 10 fa fd ["_law_script"] (nql (K w.params))) :
  PySem.W.WalkO q loose XP YP l.row.toRowW d [] (fun f vs => PySem.call f vs) :=
 L2.rqk (n := 63) (k := 10) (x := "_law_script") (CX := fun _ => CX0) (sp := fun w => nql (K w.params)) hn (by decide) hdf ⟨rfl,by decide,by decide⟩ hY F (fun _ _ a ns hl _ hS => ⟨a,ns,rfl,hS,hl,fun _ => rfl⟩) fun _ _ _ _ _ z => z
end Wm
theorem PySem.W.Fast.tw3916975635888559118 : True := trivial
theorem PySem.W.Fast.tw3791092060840842467 : True := trivial
theorem PySem.W.Fast.tw14976896490077482560 : True := trivial
theorem PySem.W.Fast.tw12149299716101988509 : True := trivial
theorem PySem.W.Fast.tw14555882451973202371 : True := trivial
theorem PySem.W.Fast.tw16565641693192315262 : True := trivial
theorem PySem.W.Fast.tw290193356976816010 : True := trivial
theorem PySem.W.Fast.tw9221260001263912442 : True := trivial
theorem PySem.W.Fast.tw18061800526617819599 : True := trivial
theorem PySem.W.Fast.tw12254479103476587731 : True := trivial
theorem PySem.W.Fast.tw11509158527051865723 : True := trivial
theorem PySem.W.Fast.tw17042282126151474147 : True := trivial
theorem PySem.W.Fast.tw13406121221845060958 : True := trivial
theorem PySem.W.Fast.tw6112979304656985059 : True := trivial
theorem PySem.W.Fast.tw404892796713182332 : True := trivial
theorem PySem.W.Fast.tw3154852506056155591 : True := trivial
theorem PySem.W.Fast.tw13271648221662803405 : True := trivial
theorem PySem.W.Fast.tw6669906613670995185 : True := trivial
theorem PySem.W.Fast.tw12145715950439247307 : True := trivial
theorem PySem.W.Fast.tw12392794262415053324 : True := trivial
theorem PySem.W.Fast.tw16986755349405880042 : True := trivial
theorem PySem.W.Fast.tw8630895434625892130 : True := trivial
theorem PySem.W.Fast.tw3125052506205194099 : True := trivial
theorem PySem.W.Fast.tw8681662744063056523 : True := trivial
theorem PySem.W.Fast.tw10149179469217205354 : True := trivial
theorem PySem.W.Fast.tw9607776874904769026 : True := trivial
theorem PySem.W.Fast.tw1459277208329619252 : True := trivial
theorem PySem.W.Fast.tw4958863483328425401 : True := trivial
theorem PySem.W.Fast.tw9215695097137852622 : True := trivial
theorem PySem.W.Fast.tw8490983789413866818 : True := trivial
theorem PySem.W.Fast.tw17758053760408963890 : True := trivial
theorem PySem.W.Fast.tw2952912760790356815 : True := trivial
theorem PySem.W.Fast.tw17228600679375009337 : True := trivial
theorem PySem.W.Fast.tw18062187316967503976 : True := trivial
theorem PySem.W.Fast.tw6237473215777291574 : True := trivial
theorem PySem.W.Fast.tw13128099393235414600 : True := trivial
theorem PySem.W.Fast.tw2749186577692379327 : True := trivial
theorem PySem.W.Fast.tw15807257329682567622 : True := trivial
theorem PySem.W.Fast.tw15807633251131435525 : True := trivial
theorem PySem.W.Fast.tw11666010342846140043 : True := trivial
theorem PySem.W.Fast.tw15820988149418518115 : True := trivial
theorem PySem.W.Fast.tw16266772006268611479 : True := trivial
theorem PySem.W.Fast.tw1478024006913338903 : True := trivial
theorem PySem.W.Fast.tw7975463085065633682 : True := trivial
theorem PySem.W.Fast.tw10576210903562993019 : True := trivial
theorem PySem.W.Fast.tw8630414418462335340 : True := trivial
theorem PySem.W.Fast.tw13994614724607641741 : True := trivial
theorem PySem.W.Fast.tw4561851771903503560 : True := trivial
theorem PySem.W.Fast.tw18135572356530170138 : True := trivial
theorem PySem.W.Fast.tw16269962327368629116 : True := trivial
theorem PySem.W.Fast.tw14642066350466956009 : True := trivial
theorem PySem.W.Fast.tw4209204274762053798 : True := trivial
theorem PySem.W.Fast.tw17093182713355979244 : True := trivial
theorem PySem.W.Fast.tw5098987090586841732 : True := trivial
theorem PySem.W.Fast.tw12542062916277048469 : True := trivial
theorem PySem.W.Fast.tw7776801977785558408 : True := trivial
theorem PySem.W.Fast.tw12729211673122829257 : True := trivial
theorem PySem.W.Fast.tw1318632291376856997 : True := trivial
theorem PySem.W.Fast.tw8595191974589596128 : True := trivial
theorem PySem.W.Fast.tw12429001802296939233 : True := trivial
theorem PySem.W.Fast.tw11722087692076950135 : True := trivial
theorem PySem.W.Fast.tw12308586849147101718 : True := trivial
theorem PySem.W.Fast.tw8104151286778335957 : True := trivial
theorem PySem.W.Fast.tw11735843385846845283 : True := trivial
theorem PySem.W.Fast.tw8954599003876045308 : True := trivial
theorem PySem.W.Fast.tw9850435788139562744 : True := trivial
theorem PySem.W.Fast.tw14993569823341036502 : True := trivial
theorem PySem.W.Fast.tw7727225453433618586 : True := trivial
theorem PySem.W.Fast.tw16871389113168093502 : True := trivial
theorem PySem.W.Fast.tw6087360514242012154 : True := trivial
theorem PySem.W.Fast.tw2299591297044623326 : True := trivial
theorem PySem.W.Fast.tw1176132926752827120 : True := trivial
theorem PySem.W.Fast.tw15128515540926159279 : True := trivial
theorem PySem.W.Fast.tw2416875008475260300 : True := trivial
theorem PySem.W.Fast.tw13457606346725045716 : True := trivial
theorem PySem.W.Fast.tw9705459134464063978 : True := trivial
theorem PySem.W.Fast.tw10481193892707522014 : True := trivial
theorem PySem.W.Fast.tw11365262951387619358 : True := trivial
theorem PySem.W.Fast.tw11956119437776904285 : True := trivial
theorem PySem.W.Fast.tw14425804790899215422 : True := trivial
theorem PySem.W.Fast.tw5252036059758499793 : True := trivial
theorem PySem.W.Fast.tw10098793983313593609 : True := trivial
theorem PySem.W.Fast.tw18405034051034459317 : True := trivial
theorem PySem.W.Fast.tw15056462052273039093 : True := trivial
theorem PySem.W.Fast.tw5740148201009489765 : True := trivial
theorem PySem.W.Fast.tw15460007755909915241 : True := trivial
theorem PySem.W.Fast.tw13740893463700274123 : True := trivial
theorem PySem.W.Fast.tw11262931102976263952 : True := trivial
theorem PySem.W.Fast.tw18422326338219241380 : True := trivial
theorem PySem.W.Fast.tw6557372064797193331 : True := trivial
theorem PySem.W.Fast.tw11409096699433410261 : True := trivial
theorem PySem.W.Fast.tw18022664935005620366 : True := trivial
theorem PySem.W.Fast.tw8908507783303755393 : True := trivial
theorem PySem.W.Fast.tw8848757443575948378 : True := trivial
theorem PySem.W.Fast.tw8888908172127441494 : True := trivial
theorem PySem.W.Fast.tw13317604662356470263 : True := trivial
theorem PySem.W.Fast.tw3227550357699016318 : True := trivial
theorem PySem.W.Fast.tw17327105485806088283 : True := trivial
theorem PySem.W.Fast.tw10096521199230552116 : True := trivial
theorem PySem.W.Fast.tw11617672440430830596 : True := trivial
theorem PySem.W.Fast.tw15018602505333936992 : True := trivial
theorem PySem.W.Fast.tw14298478139082543114 : True := trivial
theorem PySem.W.Fast.tw17579607409017870761 : True := trivial
theorem PySem.W.Fast.tw6767761609406729892 : True := trivial
theorem PySem.W.Fast.tw15740928934535058197 : True := trivial
theorem PySem.W.Fast.tw16769107599346602312 : True := trivial
theorem PySem.W.Fast.tw1522536587639890059 : True := trivial
theorem PySem.W.Fast.tw15842037780186598134 : True := trivial
theorem PySem.W.Fast.tw15637420983205311123 : True := trivial
theorem PySem.W.Fast.tw16219832915410508929 : True := trivial
theorem PySem.W.Fast.tw17087116873636043189 : True := trivial
theorem PySem.W.Fast.tw92402756940116578 : True := trivial
theorem PySem.W.Fast.tw7022787863835827384 : True := trivial
theorem PySem.W.Fast.tw4553065961123615145 : True := trivial
theorem PySem.W.Fast.tw15425030854613601475 : True := trivial
theorem PySem.W.Fast.tw11727118137149544265 : True := trivial
theorem PySem.W.Fast.tw3463199461519775598 : True := trivial
theorem PySem.W.Fast.tw16998466954141750144 : True := trivial
theorem PySem.W.Fast.tw8617892484826211792 : True := trivial
open PySem PySem.W PyProof.Rows
set_option maxRecDepth 100000 in
set_option maxHeartbeats 0 in
theorem PySem.Challenge.cw_waymark_k95_whole_tables_and_two_pattern_holds : PySem.Challenge.rw_waymark_k95_whole_tables_and_two_pattern.Holds := by
 w_on; o_law; k_head; (case hw => w_witness2)
 k_fill
 refine Wm.walk (l := PySem.Challenge.rw_waymark_k95_whole_tables_and_two_pattern) rfl rfl (fun w h Y => PySem.W.kIn_of Y) ?F
 case F =>
  intro w mg fa h KX G hmg
  refine' Wm.tqi KX G hmg ?en_NoValue ?a1 ?l1 ?a2 ?l2 ?a3 ?i3 ?l3 ?a4 ?l4 ?a5 ?l5 ?a6 ?l6 ?a7 ?l7 ?a8 ?l8 ?a9 ?l9 ?a10 ?l10 ?a11 ?l11 ?a12 ?l12 ?a13 ?l13 ?a14 ?l14 ?a15 ?l15 ?a16 ?l16 ?a17 ?l17 ?a18 ?l18 ?a19 ?l19 ?a20 ?l20 ?a21 ?l21 ?a22 ?l22 ?a23 ?l23 ?a24 ?l24 ?a25 ?l25 ?a26 ?l26 ?a27 ?l27 ?a28 ?l28 ?a29 ?l29 ?a30 ?l30 ?a31 ?l31 ?a32 ?l32 ?a33 ?l33 ?a34 ?l34 ?a35 ?l35 ?a36 ?l36 ?a37 ?l37 ?a38 ?l38 ?a39 ?l39 ?a40 ?l40 ?a41 ?l41 ?a42 ?l42 ?a43 ?l43 ?a44 ?l44 ?a45 ?l45 ?a46 ?l46 ?a47 ?l47 ?a48 ?l48 ?a49 ?l49 ?a50 ?l50 ?a51 ?l51 ?a52 ?l52 ?a53 ?l53 ?a54 ?l54 ?a55 ?l55 ?e_WORTH_OF_WORDS ?yl_WORTH_OF_WORDS ?yh_WORTH_OF_WORDS ?e_SIGNS ?e_SMALL_LETTERS ?e_FIGURES ?e_ROOTED ?e_STEPS ?e_ENDS ?e_STAY ?e_UP ?e_PIECES ?e_CLOSES ?e_LONGEST_NUMBER ?e_LONGEST_WORD ?e_TRIED_SIGNS ?z_all ?z_isinstance ?z_bool ?z_int ?z_len ?z_range ?z_str ?z_list ?z_max ?z_zip ?z_tuple ?z_enumerate ?el0_NoValue ?el1_NoValue ?el2_NoValue ?el3_NoValue ?el4_NoValue ?el5_NoValue ?ey_NoValue ?ek_NoValue ?es_NoValue ?eo_NoValue ?eh_NoValue ?ef_NoValue_name ?kk ?cc
  (case en_NoValue => first | k_is | kit_is | with_unfolding_all kernel_rfl | with_unfolding_all rfl)
  (case a1 | l1 | a2 | l2 | a3 | i3 | l3 | a4 | l4 | a5 | l5 | a6 | l6 | a7 | l7 | a8 | l8 | a9 | l9 | a10 | l10 | a11 | l11 | a12 | l12 | a13 | l13 | a14 | l14 | a15 | l15 | a16 | l16 | a17 | l17 | a18 | l18 | a19 | l19 | a20 | l20 | a21 | l21 | a22 | l22 | a23 | l23 | a24 | l24 | a25 | l25 | a26 | l26 | a27 | l27 | a28 | l28 | a29 | l29 | a30 | l30 | a31 | l31 | a32 | l32 | a33 | l33 | a34 | l34 | a35 | l35 | a36 | l36 | a37 | l37 | a38 | l38 | a39 | l39 | a40 | l40 | a41 | l41 | a42 | l42 | a43 | l43 | a44 | l44 | a45 | l45 | a46 | l46 | a47 | l47 | a48 | l48 | a49 | l49 | a50 | l50 | a51 | l51 | a52 | l52 | a53 | l53 | a54 | l54 | a55 | l55 | e_WORTH_OF_WORDS => k_is)
  (case yl_WORTH_OF_WORDS | yh_WORTH_OF_WORDS => first | k_is | with_unfolding_all kernel_rfl | with_unfolding_all rfl)
  (case e_SIGNS | e_SMALL_LETTERS | e_FIGURES | e_ROOTED | e_STEPS | e_ENDS | e_STAY | e_UP | e_PIECES | e_CLOSES | e_LONGEST_NUMBER | e_LONGEST_WORD | e_TRIED_SIGNS | z_all | z_isinstance | z_bool | z_int | z_len | z_range | z_str | z_list | z_max | z_zip | z_tuple | z_enumerate => k_is)
  (case el0_NoValue | el1_NoValue | el2_NoValue | el3_NoValue | el4_NoValue | el5_NoValue | ey_NoValue | ek_NoValue | es_NoValue | eo_NoValue | eh_NoValue | ef_NoValue_name => first | k_is | kit_is | with_unfolding_all kernel_rfl | with_unfolding_all rfl)
  (case kk | cc => first | k_is | with_unfolding_all kernel_rfl | with_unfolding_all rfl)
